import PyProof.Rows.All
import Wide.All
import OpenK.AllK
import Wide.FinOn
import Lean
import PyProof.EqAt
import PyProof.EqKinds
import PyProof.TupleCall
import PySem.Challenge.RW_passersby_k09_texts_that_write_no_questi
noncomputable section
set_option Elab.async false
set_option linter.all false
set_option maxRecDepth 100000
noncomputable def zza:=@PySem.wpAny_bind
noncomputable def zzb:=@PySem.wpAny_pure
noncomputable def zzc:=@PySem.Heap.get?_push_of_some
noncomputable def zzd:=@List.length_map
noncomputable def zze:=@PySem.Heap.get?_push_size
noncomputable def zzf:=@List.length_append
noncomputable def zzg:=@List.mem_cons_of_mem
noncomputable def zzi:=@decide_eq_true_eq
abbrev zzj:=PySem.Value->PySem.Shared->Prop
abbrev zzk:=List (PySem.Addr×PySem.Obj)
abbrev zzl:=PySem.Str->Option PySem.Value
section
open PySem PySem.Spec PyProof.Rows
def ac:=@if_neg
def ai:=@if_pos
def am:=@Bool.and_eq_true
def au:=@List.mem_cons_self
def aw:=@decide_eq_true
def ay:=@Nat.le_refl
def ba:=@List.map_cons
def be:=@Heap.lt_size
def bi:=@decide_eq_false
def bj:=@Nat.le_trans
def bo:=@Nat.lt_of_lt_of_le
def bu:=@Nat.ne_of_lt
def ce:=@List.size_toArray
def ci:=@List.length_cons
def cr:=@Array.length_toList
def de:=@Array.getElem?_eq_getElem
def di:=@PySem.W.mg_of
def eE:=@Nat.zero_le
def eT:=@List.getElem?_append_left
def fe:=@List.mem_cons
def fi:=@List.mem_nil_iff
def ge:=@List.getElem?_set_ne
def gh:=@PySem.F.plainAttrs_str
def gi:=@List.getElem?_take_of_lt
def gn:=@List.mem_append_right
def gt:=@Bool.or_eq_true
def ib:=@Obj.data_mapFields
def ic:=@decide_eq_false_iff_not
def ig:=@PySem.boot_len
def ii:=@List.mem_of_getElem?
def il:=@List.getElem?_set_self
def io:=@wpS_bind
def ir:=@Array.getElem?_toList
def iz:=@List.append_nil
def je:=@wpAny_mono
def jo:=@List.map_append
def ke:=@List.all_eq_true
def la:=@Heap.get?_update_self
def li:=@List.map_map
def lm:=@List.lookup_cons
def ls:=@List.length_take
def mn:=@Heap.get?_update_other
def mo:=@wpAny_newObj_type
def nc:=@List.length_range
def ng:=@wpAny_holding
def ny:=@Nat.lt_irrefl
def om:=@Nat.lt_succ_of_lt
def ot:=@Bool.not_eq_true'
def ou:=@List.length_nil
def oz:=@wpS_pure
def pi:=@PySem.F.type_str_join
def pr:=@PySem.F.slot_str_join
def qu:=@Heap.size_update
def re:=@wpAny_truthy_bool
def sd:=@Heap.get?_push_ne
def se:=@or_false
def si:=@PySem.mem_of_lookup
def sk:=@Array.getElem?_eq_none
def ss:=@Int.le_refl
def sE:=@Obj.isFreed_of_fields
def tt:=@PySem.W.kia_one
def tu:=@List.find?_cons
def ue:=@Bool.eq_iff_iff
def ug:=@List.getElem?_map
def um:=@beq_iff_eq
def ur:=@PyProof.Rows.slot_tuple_getitem
def ut:=@Option.bind_some
def u8:=@List.length_drop
def ve:=@Heap.size_push
def wa:=@wpAny_field
def we:=@PySem.F.type_str_split
def wn:=@PySem.F.slot_str_split
def wo:=@List.zip_cons_cons
def wE:=@List.map_nil
def wP:=@Bool.false_ne_true
def wS:=@Bool.true_and
def wT:=@List.take_append_drop
def xt:=@List.pairwise_map
def xv:=@wpAny_setField
def xz:=@codeAny_call_builtin
def ye:=@List.mem_of_mem_drop
def yi:=@Bool.false_and
def yp:=@Around.under_plainId
def y3:=@wpAny_call_entry
def y4:=@Nat.min_le_right
def ze:=@Nat.le_of_lt
def zi:=@List.getElem?_eq_none_iff
def Ba:=@List.map_congr_left
def Ch:=@List.filterMap_cons
def Db:=@wpAny_standAt
def DS:=@List.all_cons
def Er:=@codeAny_builtin
def EA:=@wpAny_Call_Name_kw
def ES:=@tupleKind_room_in1
def FI:=@wpAny_loadPart_at
def GU:=@codeAny_mono
def HI:=@Nat.ne_of_gt
def Ix:=@List.append_assoc
def IG:=@List.any_eq_false
def IN:=@Int.toNat_natCast
def IT:=@plainObj_wpAny_Assign_Attribute
def Lu:=@StrLaws.occ_length_le
def Lv:=@beq_self_eq_true
def Lw:=@Nat.lt_succ_self
def Lx:=@List.mem_of_mem_take
def Ly:=@List.mem_append_left
def Lz:=@wpAny_passesOwn
def LA:=@length_partsBetween
def LD:=@wpS_forRange
def LF:=@if_true
def LG:=@PyProof.Rows.callWith_type1
def LH:=@List.any_map
def LJ:=@Array.getD_eq_getD_getElem?
def LK:=@PySem.W.callWith_K
def LL:=@List.zip_nil_right
def LN:=@List.pairwise_cons
def LO:=@List.getElem?_append_right
def LP:=@Int.emod_lt_of_pos
def LQ:=@Code.quiet_builtin
def LR:=@Bool.false_eq_true
def LS:=@List.drop_eq_getElem_cons
def LU:=@wpAny_setState_of
def LV:=@Obj.cls_mapFields
def LW:=@List.flatten_cons
def LX:=@SetTable.toList_insertAt
def LY:=@PySem.F.args_tuple_add_2
def LZ:=@List.getElem?_eq_getElem
def L5:=@List.any_cons
def L6:=@wpAny_callSpecial?_slot
def L7:=@PySem.F.entry_tuple_add
def L8:=@List.getElem?_replicate
def L9:=@wpAny_rule
def Ma:=@typeIs_str
def Mb:=@size_push'
def Mc:=@SetTable.insertAt_perm
def Md:=@PySem.F.slot_tuple_add
def Me:=@wpAny_execs_nil
def Mg:=@Int.emod_nonneg
def Mh:=@List.length_filter_le
end
namespace L2
open PySem PySem.Spec PyProof.Rows
variable {pos p:Pos}{pins:zzk}{x:Str}{A:Around}{u:Value}{w:World}{a C b dx:Addr}{h h' base:Heap}{P:Program}{E:zzj}{e tg c:Expr}{us:List Value}{t' i j:Nat}{o:Obj}{Q:Unit->Shared->Prop}{es:List Expr}{f:Value->Value->Sem Value}{op:CmpOp}{fp:List Addr}{mA mg:zzl}{kw:List (Str×Value)}{ps:List Str}
abbrev Key:=Sum Int Str
def rg:Key->Value->Bool
 | .inl k,v=>Value.isInt k v
 | .inr x,v=>Value.isStrOf x v
def KQ(w:World):Key->Int
 | .inl k=>hashInt k
 | .inr x=>hashStr w x
theorem cn:∀{k:Key} {v:Value},rg k v=true->(∃i t,k=Sum.inl i/\v=Value.int i t)\/(∃x t,k=Sum.inr x/\v=Value.str x t)
 | .inl i,v,h=>by
  obtain⟨t,e⟩:=Value.isInt_shape (k:=i) (v:=v) h
  exact .inl ⟨i,t,rfl,e⟩
 | .inr x,v,h=>by
  obtain⟨t,e⟩:=Value.isStrOf_shape (x:=x) (v:=v) h
  exact .inr ⟨x,t,rfl,e⟩
theorem Ab(i:Int)(t:Tok):rg (.inl i) (.int i t)=true:=by simp[rg,Value.isInt]
theorem Aa(x:Str)(t:Tok):rg (.inr x) (.str x t)=true:=by simp[rg,Value.isStrOf]
theorem G4(a b:Int):decide ((Sum.inl a:Key)=Sum.inl b)=(a==b):=by
 by_cases e:a=b
 ·subst e;simp
 ·have h:¬ (Sum.inl a:Key)=Sum.inl b:=λq=>e (Sum.inl.inj q)
  rw[bi h]
  exact(beq_eq_false_iff_ne.mpr e).symm
theorem GZ(a b:Str):decide ((Sum.inr a:Key)=Sum.inr b)=decide (a=b):=by
 by_cases e:a=b
 ·subst e;simp
 ·have h:¬ (Sum.inr a:Key)=Sum.inr b:=λq=>e (Sum.inr.inj q)
  rw[bi h,bi e]
theorem G3(a:Int)(b:Str):decide ((Sum.inl a:Key)=Sum.inr b)=false:=bi (λq=>nomatch q)
theorem G1(a:Str)(b:Int):decide ((Sum.inr a:Key)=Sum.inl b)=false:=bi (λq=>nomatch q)
def bY(prog:Program)(w:World):PySem.KeyKind prog w Key where
 is:=rg
 hash:=KQ w
 inj:=λv a b ha hb=>by
  rcases cn ha with ⟨i,t,rfl,rfl⟩|⟨x,t,rfl,rfl⟩
  ·rcases cn hb with ⟨j,u,rfl,e⟩|⟨y,u,rfl,e⟩
   ·injection e with e1 _;rw[e1]
   ·exact nomatch e
  ·rcases cn hb with ⟨j,u,rfl,e⟩|⟨y,u,rfl,e⟩
   ·exact nomatch e
   ·injection e with e1 _;rw[e1]
 byValue:=λk v h=>by
  rcases cn h with ⟨i,t,rfl,rfl⟩|⟨x,t,rfl,rfl⟩<;>rfl
 pyHash:=λhv h=>by
  rcases cn hv with ⟨i,t,rfl,rfl⟩|⟨x,t,rfl,rfl⟩
  ·exact wpAny_pyHash_int h
  ·exact wpAny_pyHash_str h
 eqBool:=λhu hv h=>by
  rcases cn hu with ⟨i,t,rfl,rfl⟩|⟨x,t,rfl,rfl⟩
  ·rcases cn hv with ⟨j,u,rfl,rfl⟩|⟨y,u,rfl,rfl⟩
   ·rw[G4]at h;exact wpAny_eqBool_int h
   ·rw[G3]at h;exact SeqAt.EqAt.int_str i t y u _ _ _ _ h
  ·rcases cn hv with ⟨j,u,rfl,rfl⟩|⟨y,u,rfl,rfl⟩
   ·rw[G1]at h;exact SeqAt.EqAt.str_int x t j u _ _ _ _ h
   ·rw[GZ]at h;exact wpAny_eqBool_str h
 «strs»:=λk x t v h=>by
  rcases cn h with ⟨i,u,rfl,e⟩|⟨y,u,rfl,e⟩
  ·exact nomatch e
  ·injection e with e1 _
   subst e1
   cases v<;>rfl
theorem uV(prog:Program)(w:World)(i:Int)(t:Tok):(bY prog w).is (.inl i) (.int i t)=true:=Ab i t
theorem uU(prog:Program)(w:World)(x:Str)(t:Tok):(bY prog w).is (.inr x) (.str x t)=true:=Aa x t
inductive V where
 | non|bl (b:Bool)|int (i:Int)|str (x:Str)|byt (b:Array UInt8)|flt (b:UInt64)|ref (a:Addr)|ty (n:String)
 deriving DecidableEq
def RelV:V->Value->Prop
 | .non,u=>u=Value.none
 | .bl b,u=>u=Value.bool b
 | .int i,u=>∃t,u=Value.int i t
 | .str x,u=>∃t,u=Value.str x t
 | .byt b,u=>∃t,u=Value.bytes b t
 | .flt b,u=>∃t,u=Value.float b t
 | .ref a,u=>u=Value.ref a
 | .ty n,u=>u=Value.type n
abbrev Vals:List V->List Value->Prop:=Paired RelV
theorem Vals.length{xs:List V}(r:Vals xs us):xs.length=us.length:=Paired.length r
theorem Vals.get:∀{xs:List V} {us:List Value} {i:Nat} {x:V},Vals xs us->xs[i]? = some x->∃u,us[i]? = some u/\RelV x u
 | _,_,_,_,.nil,e=>by simp at e
 | _,_,0,_,.cons r _,e=>by simp at e;subst e;exact⟨_,rfl,r⟩
 | _,_,i+1,x,.cons _ t,e=>by
  obtain⟨u,h1,h2⟩:=Vals.get (i:=i) (x:=x) t (by simpa using e)
  exact⟨u,by simpa using h1,h2⟩
theorem Vals.set{x:V}(r:RelV x u):∀{xs:List V} {us:List Value} (i:Nat),Vals xs us->Vals (xs.set i x) (us.set i u)
 | _,_,_,.nil=>.nil
 | _,_,0,.cons _ t=>.cons r t
 | _,_,i+1,.cons q t=>.cons q (Vals.set r i t)
theorem Vals.append:∀{xs ys:List V} {us ws:List Value},Vals xs us->Vals ys ws->Vals (xs++ys) (us++ws):=by
 intro xs ys us ws h s
 induction h with
 | nil=>exact s
 | cons r _ ih=>exact .cons r ih
theorem Vals.take:∀{xs:List V} {us:List Value} (n:Nat),Vals xs us->Vals (xs.take n) (us.take n)
 | _,_,0,_=>.nil
 | _,_,_+1,.nil=>.nil
 | _,_,n+1,.cons r t=>.cons r (Vals.take n t)
theorem Vals.drop:∀{xs:List V} {us:List Value} (n:Nat),Vals xs us->Vals (xs.drop n) (us.drop n)
 | _,_,0,r=>r
 | _,_,_+1,.nil=>.nil
 | _,_,n+1,.cons _ t=>Vals.drop n t
def RelO:Option V->Option Value->Prop
 | some v,some u=>RelV v u
 | none,none=>True
 | _,_=>False
def KV{κ:Type}:List (κ×V)->List (κ×Value)->Prop:=Paired λ(p:κ×V) (q:κ×Value)=>p.1=q.1/\RelV p.2 q.2
def kV:Key->V
 | .inl i=>.int i
 | .inr x=>.str x
inductive HO where
 | lst (xs:List V)
 | tup (xs:List V)
 | dK (kvs:List (Key×V))|dT (kvs:List (List Key×V))
 | set (S:Int->Bool) (n:Nat)
 | ins (C dx:Addr) (fs:List (Str×V))
 | own (x:Addr)
 | xd (fs:List (Str×V))
 | met (f x:Addr)
 | rng (lo hi:Int)
 | frz (o:Obj) (u:HO)
 | tbl (ps:Array Value)
 | ext (φ:Heap->Prop)
abbrev Hp:=Addr->Option HO
def upd(H:Hp)(a:Addr)(o:HO):Hp:=λb=>if b=a then some o else H b
theorem aR{H:Hp}{o:HO}:upd H a o a=some o:=by unfold upd;rw[ai rfl]
theorem aL{H:Hp}{o:HO}(h:b≠a):upd H a o b=H b:=by unfold upd;rw[ac h]
theorem bA{H:Hp}{o:HO}(h:H a=some o)(h':H b=none):a≠b:=by
 intro e;subst e;rw[h]at h';cases h'
section
variable (P:Program) (w:World)
def _root_.L2.TupN(h:Heap)(a:Addr):Prop:=∃o,h.get? a=some o/\o.dict=none
theorem _root_.L2.TupN.new(h:Heap)(items:Array Value):TupN (h.push { cls:=.type "tuple",data:=.seq items }) h.objs.size:=⟨_,zze _ rfl,rfl⟩
def ObjOk(H:Hp)(h:Heap)(a:Addr):HO->Prop
 | .lst xs=>xs.length<=sizeLine/\∃(its:List Value) (n:Nat),Vals xs its/\h.get? a=some { cls:=.type "list",data:=.seq its.toArray n }
 | .tup xs=>xs.length<=sizeLine/\∃its:List Value,Vals xs its/\IsTup h a its.toArray/\TupN h a
 | .dK kvs=>kvs.length<=sizeLine/\(a==sysModules)=false/\∃vs,KV kvs vs/\h.DictOf (bY P w) a vs
 | .dT kvs=>kvs.length<=sizeLine/\(a==sysModules)=false/\∃xs:List (List Key×Addr×Value),
   Paired (λ(p:List Key×V) (q:List Key×Addr×Value)=>p.1=q.1/\H q.2.1=some (.tup (p.1.map kV))/\RelV p.2 q.2.2) kvs xs /\
   ∃o es ep,h.get? a=some o/\o.ExactDict/\o.data=.dict es ep/\es.toList=xs.map (entryOfKey (tupleKind (bY P w)))/\(xs.map (·.1)).Nodup
 | .set S n=>h.SetOf (intKind P w) a S n
 | .ins C dx fs=>H dx=some (.own a)/\fs.length<=1000/\dx≠a/\h.get? a=some (PySem.W.instObj C dx) /\
   ∃mA,h.Ns1 dx mA/\(∀f,RelO (fs.lookup f) (mA f))/\PySem.Within mA (fs.map (·.1))
 | .own _=>∃o,h.get? a=some o
 | .xd fs=>∃mA,h.Ns1 a mA/\∀f,RelO (fs.lookup f) (mA f)
 | .rng lo hi=>∃t u v,h.get? a=some { cls:=.type "range",data:=.fields #[.int lo t,.int hi u,.int 1 v] }
 | .frz o u=>h.get? a=some o/\ObjOk H h a u
 | .tbl ps=>h.get? a=some { cls:=.none,data:=.fields ps }
 | .met f x=>h.get? a=some (PySem.W.methodObj (.ref f) (.ref x))
 | .ext φ=>φ h/\(∃o,h.get? a=some o)/\∀h1 h2:Heap,φ h1->(∀o,h1.get? a=some o->h2.get? a=some o)->φ h2
def HOk(H:Hp)(h:Heap):Prop:=∀a o,H a=some o->ObjOk P w H h a o
end
section
variable {H H':Hp} {o:HO}
theorem ObjOk.lt(x:ObjOk P w H h a o):a<h.objs.size:=by
 cases o with
 | lst xs=>obtain⟨_,_,_,_,e⟩:=x;exact be e
 | tup xs=>obtain⟨_,_,_,p⟩:=x;exact p.1.lt
 | dK kvs=>obtain⟨_,_,_,_,o,_,_,e,_⟩:=x;exact be e
 | dT kvs=>obtain⟨_,_,_,_,o,_,_,e,_⟩:=x;exact be e
 | set S n=>obtain⟨o,_,_,_,e,_⟩:=x;exact be e
 | ins C dx fs=>obtain⟨_,_,_,e,_⟩:=x;exact be e
 | own y=>obtain⟨_,e⟩:=x;exact be e
 | xd fs=>obtain⟨_,⟨_,_,_,e,_⟩,_⟩:=x;exact be e
 | rng lo hi=>obtain⟨_,_,_,e⟩:=x;exact be e
 | frz ob u=>obtain⟨e,_⟩:=x;exact be e
 | tbl ps=>exact be (show h.get? a=some _ from x)
 | met f y=>exact be (show h.get? a=some _ from x)
 | ext φ=>obtain⟨_,⟨_,e⟩,_⟩:=x;exact be e
theorem Paired.mapP{α β:Type}{F G:α->β->Prop}:∀{l₁:List α} {l₂:List β},Paired F l₁ l₂->(∀a b,F a b->G a b)->Paired G l₁ l₂:=by
 intro l₁ l₂ h f
 induction h with
 | nil=>exact .nil
 | cons r _ ih=>exact .cons (f _ _ r) ih
theorem ObjOk.stay(x:ObjOk P w H h a o)(k:∀b u,(b=a\/H b=some (.own a))->h.get? b=some u->h'.get? b=some u)
  (ho:∀b,H b=some (.own a)->H' b=some (.own a)) (ht:∀b xs,H b=some (.tup xs)->H' b=some (.tup xs)):ObjOk P w H' h' a o:=by
 induction o with
 | lst xs=>obtain⟨z,its,n,r,e⟩:=x;exact⟨z,its,n,r,k _ _ (.inl rfl) e⟩
 | tup xs=>obtain⟨z,its,r,⟨ob,e,c⟩,ob2,e2,c2⟩:=x;exact⟨z,its,r,⟨ob,k _ _ (.inl rfl) e,c⟩,ob2,k _ _ (.inl rfl) e2,c2⟩
 | dK kvs=>obtain⟨z,y,vs,r,ob,es,ep,e,c⟩:=x;exact⟨z,y,vs,r,ob,es,ep,k _ _ (.inl rfl) e,c⟩
 | dT kvs =>
  obtain⟨z,y,xs,r,ob,es,ep,e,c⟩:=x
  exact⟨z,y,xs,Paired.mapP r λp q z=>⟨z.1,ht _ _ z.2.1,z.2.2⟩,ob,es,ep,k _ _ (.inl rfl) e,c⟩
 | set S n=>obtain⟨ob,es,ep,t,e,c⟩:=x;exact⟨ob,es,ep,t,k _ _ (.inl rfl) e,c⟩
 | ins C dx fs =>
  obtain⟨d,z,ne,e,mA,⟨od,es,ep,e2,c⟩,r⟩:=x
  exact⟨ho _ d,z,ne,k _ _ (.inl rfl) e,mA,⟨od,es,ep,k _ _ (.inr d) e2,c⟩,r⟩
 | own y=>obtain⟨ob,e⟩:=x;exact⟨ob,k _ _ (.inl rfl) e⟩
 | xd fs=>obtain⟨mA,⟨od,es,ep,e,c⟩,r⟩:=x;exact⟨mA,⟨od,es,ep,k _ _ (.inl rfl) e,c⟩,r⟩
 | rng lo hi=>obtain⟨t,u,v,e⟩:=x;exact⟨t,u,v,k _ _ (.inl rfl) e⟩
 | frz ob u ih=>obtain⟨e,q⟩:=x;exact⟨k _ _ (.inl rfl) e,ih q⟩
 | tbl ps =>
  have e:h.get? a=some { cls:=.none,data:=.fields ps }:=x
  show h'.get? a=some { cls:=.none,data:=.fields ps }
  exact k a _ (.inl rfl) e
 | met f y =>
  have e:h.get? a=some (PySem.W.methodObj (.ref f) (.ref y)):=x
  show h'.get? a=some (PySem.W.methodObj (.ref f) (.ref y))
  exact k a _ (.inl rfl) e
 | ext φ=>obtain⟨p,⟨o,e⟩,st⟩:=x;exact⟨st _ _ p λo q=>k _ _ (.inl rfl) q,⟨o,k _ _ (.inl rfl) e⟩,st⟩
theorem HOk.lt(x:HOk P w H h)(e:H a=some o):a<h.objs.size:=(x a o e).lt
theorem HOk.fresh(x:HOk P w H h)(e:h.objs.size<=a):H a=none:=by
 cases q:H a with
 | none=>rfl
 | some u=>exact absurd (bo (x.lt q) e) (ny _)
theorem HOk.kept(x:HOk P w H h)(k:∀b u,h.get? b=some u->h'.get? b=some u):HOk P w H h':=λa o e =>
 (x a o e).stay (λb u _ q=>k b u q) (λ_ q=>q) λ_ _ q=>q
theorem HOk.laid(x:HOk P w H h)(k:∀b u,h.get? b=some u->h'.get? b=some u)(hp:h.objs.size<=a)(new:ObjOk P w (upd H a o) h' a o):HOk P w (upd H a o) h':=λb u e=>by
 have hn:=x.fresh hp
 by_cases hb:b=a
 ·subst hb;rw[aR]at e;cases e;exact new
 ·rw[aL hb]at e
  exact(x b u e).stay (λc v _ q=>k c v q) (λc q=>by rw[aL (bA q hn)];exact q) λc xs q=>by rw[aL (bA q hn)];exact q
end
def Rd(H:Hp)(a:Addr)(u:HO):Prop:=H a=some u\/∃o,H a=some (.frz o u)
theorem Rd.ok{H:Hp}{u:HO}(r:Rd H a u)(x:HOk P w H h):ObjOk P w H h a u:=by
 rcases r with r|⟨o,r⟩
 ·exact x a u r
 ·obtain⟨_,q⟩:=x a _ r
  exact q
def Mut:Option HO->Prop
 | some (.lst _)=>True
 | some (.dK _)=>True
 | some (.dT _)=>True
 | some (.set _ _)=>True
 | some (.ins _ _ _)=>True
 | some (.ext _)=>True
 | _=>False
section
variable {H:Hp} {x e:Addr} {o':HO}
theorem HOk.write(ok:HOk P w H h)(mu:Mut (H x))(he:e=x\/H e=some (.own x))(k:∀b u,b≠e->h.get? b=some u->h'.get? b=some u)(heo:∃u,h'.get? e=some u)
  (new:ObjOk P w (upd H x o') h' x o'):HOk P w (upd H x o') h':=λb u q=>by
 have nown:∀c y,H c=some (.own y)->c≠x:=λc y r z=>by subst z;rw[r]at mu;exact mu
 have ntup:∀c xs,H c=some (.tup xs)->c≠x:=λc xs r z=>by subst z;rw[r]at mu;exact mu
 by_cases hb:b=x
 ·subst hb;rw[aR]at q;cases q;exact new
 ·rw[aL hb]at q
  by_cases hbe:b=e
  ·have q':H b=some (.own x):=by
    rcases he with z|z
    ·exact absurd (hbe.trans z) hb
    ·rw[hbe];exact z
   rw[q]at q';cases q'
   obtain⟨v,hv⟩:=heo
   exact⟨v,by rw[hbe];exact hv⟩
  ·refine(ok b u q).stay (λc v hc r=>k c v ?_ r) (λc r=>by rw[aL (nown c b r)];exact r) λc xs r=>by rw[aL (ntup c xs r)];exact r
   rcases hc with rfl|hc
   ·exact hbe
   ·rintro rfl
    rcases he with z|z
    ·exact nown c b hc z
    ·rw[hc]at z;cases z;exact hb rfl
end
structure Un(fs ex:List Addr)(H H':Hp)(h h':Heap):Prop where
 keep:∀b o,h.get? b=some o->H b=none->b∉fs->b∉ex->h'.get? b=some o
 slot:∀b o,h.get? b=some o->H b=none->b∈fs->b∉ex->∃sl,h'.get? b=some { o with slots:=sl }
 free:∀b o,h.get? b=some o->H b=none->b∉ex->H' b=none
 there:∀b o,h.get? b=some o->b∉ex->∃o',h'.get? b=some o'
 tups:∀b xs,H b=some (.tup xs)->H' b=some (.tup xs)
 frzs:∀b o u,H b=some (.frz o u)->H' b=some (.frz o u)
 tbls:∀b ps,H b=some (.tbl ps)->∃more,H' b=some (.tbl (ps++more))
section
variable {fs fs' ex ex':List Addr} {H H1 H2:Hp} {h1 h2:Heap} {x e:Addr} {o:HO}
theorem Un.any(u:Un fs ex H H1 h h1){ob:Obj}(q:h.get? b=some ob)(n:H b=none)(hx:b∉ex):∃sl,h1.get? b=some { ob with slots:=sl }:=by
 by_cases hb:b∈fs
 ·exact u.slot b ob q n hb hx
 ·exact⟨ob.slots,u.keep b ob q n hb hx⟩
theorem Un.kept(k:∀b u,h.get? b=some u->h'.get? b=some u):Un fs ex H H h h' :=
 ⟨λb ob q _ _ _=>k b ob q,λb ob q _ _ _=>⟨ob.slots,k b ob q⟩,λ_ _ _ n _=>n,λb ob q _=>⟨ob,k b ob q⟩,λ_ _ q=>q,λ_ _ _ q=>q,λ_ ps q=>⟨#[],by rw[q];simp⟩⟩
theorem Un.refl:Un fs ex H H h h:=Un.kept λ_ _ q=>q
theorem Un.laid(k:∀b u,h.get? b=some u->h'.get? b=some u)(hp:h.objs.size<=a)(hn:H a=none):Un fs ex H (upd H a o) h h' where
 keep:=λb u q _ _ _=>k b u q
 slot:=λb u q _ _ _=>⟨u.slots,k b u q⟩
 free:=λb u q n _=>by rw[aL (bu (bo (be q) hp))];exact n
 there:=λb u q _=>⟨u,k b u q⟩
 tups:=λb xs q=>by rw[aL (bA q hn)];exact q
 frzs:=λb u xs q=>by rw[aL (bA q hn)];exact q
 tbls:=λb ps q=>⟨#[],by rw[aL (bA q hn),q];simp⟩
theorem Un.write(mu:Mut (H x))(he:e=x\/H e=some (.own x))(k:∀b u,b≠e->h.get? b=some u->h'.get? b=some u)(heo:∃u,h'.get? e=some u):Un fs ex H (upd H x o) h h':=by
 have hx:∀b,H b=none->b≠x:=λb n z=>by subst z;rw[n]at mu;exact mu
 have hb:∀b,H b=none->b≠e:=λb n z=>by
  subst z
  rcases he with r|r
  ·exact hx b n r
  ·rw[n]at r;cases r
 have hm:∀b u,H b=some u->¬ Mut (some u)->b≠x:=λb u q nm z=>by subst z;rw[q]at mu;exact nm mu
 refine⟨λb u q n _ _=>k b u (hb b n) q,λb u q n _ _=>⟨u.slots,k b u (hb b n) q⟩,λb u q n _=>by rw[aL (hx b n)];exact n,λb u q _=>?_,
  λb xs q=>by rw[aL (hm b _ q λz=>z)];exact q,λb u xs q=>by rw[aL (hm b _ q λz=>z)];exact q,λb ps q=>⟨#[],by rw[aL (hm b _ q λz=>z),q];simp⟩⟩
 by_cases hbe:b=e
 ·subst hbe;exact heo
 ·exact⟨u,k b u hbe q⟩
end
def trk(h:Heap)(H:Hp):List Addr:=(List.range h.objs.size).filter λa=>(H a).isSome
def tF(h:Heap)(H:Hp):Heap:=PySem.W.hideAll h (trk h H)
theorem Af(h:Heap)(H:Hp):(tF h H).objs.size=h.objs.size:=PySem.W.hideAll_size _ _
theorem B5{H:Hp}(e:h.get? b=some o)(n:H b=none):(tF h H).get? b=some o :=
 PySem.W.hideAll_get _ e λhm=>by
  have q:(H b).isSome=true:=(List.mem_filter.mp hm).2
  rw[n]at q;simp at q
theorem DP{H:Hp}(e:(tF h H).get? b=some o):h.get? b=some o/\H b=none:=by
 have e':h.get? b=some o:=PySem.W.of_hideAll (trk h H) e
 refine⟨e',?_⟩
 cases q:H b with
 | none=>rfl
 | some x =>
  have hm:b∈trk h H:=List.mem_filter.mpr ⟨List.mem_range.mpr (be e'),by simp[q]⟩
  have z:(tF h H).get? b=none:=PySem.W.hideAll_none (trk h H) hm
  rw[z]at e;cases e
structure Mod(K:PySem.W.Frag)(mg:zzl)(base:Heap):Prop where
 kin:K.In base
 glob:base.Ns mainGlobals mg
 blt:∃mb,base.Ns builtinsNs mb/\∀x:Str,x ≠ "__name__" -> mb x=bootBuiltins x
 nolimit:base.NoLimit
structure Cx where
 prog:Program
 w:World
 K:PySem.W.Frag
 mg:Str->Option Value
 base:Heap
 A:Around
 N:List Str
 s₀:Shared
 H₀:Hp
 env:Env
 outer:List Env
 stack:List Env
 ex:List Addr
 fn:Str->Bool
 calm:Bool
 pn:List (Addr×Obj)
 xe:Value->Shared->Prop
def frs(l:List Env):List Addr:=l.filterMap (·.frame)
abbrev Cx.fs(X:Cx):List Addr:=frs X.outer
def Vis(sc:Scope)(x:Str):Prop:=sc.names.lookup x=some .local\/sc.names.lookup x=some .cell\/sc.names.lookup x=some .free
def Loc(sc:Scope)(x:Str):Prop:=sc.names.lookup x=some .local\/sc.names.lookup x=some .cell
def Look(env:Env)(h:Heap)(m:zzl)(x:Str)(u:Value):Prop :=
 (env.kindOf x=some .local/\m x=some u)\/((env.kindOf x=some .cell\/env.kindOf x=some .free)/\∃c,env.cells.lookup x=some c/\h.IsCell c (some u))
structure Cx.Ok(X:Cx):Prop where
 mod:Mod X.K X.mg X.base
 kind:X.env.scope.kind=.function
 glob:X.env.globals=mainGlobals
 blt:X.env.builtins=builtinsNs
 above:X.s₀.heap.objs.size<=X.env.locals
 inj:∀x y c,X.env.cells.lookup x=some c->X.env.cells.lookup y=some c->x=y
 has:∀x,(X.env.kindOf x=some .cell\/X.env.kindOf x=some .free)->∃c,X.env.cells.lookup x=some c
 cab:∀x c,X.fn x=true->X.env.cells.lookup x=some c->X.s₀.heap.objs.size<=c
 hd:X.calm=true->X.A.handled=none
 frames:X.A.frames=some X.stack
 stk:X.stack=X.outer\/(X.stack=X.env::X.outer/\X.env.frame=some X.env.locals)
 exf:∀b∈X.ex,b≠X.env.locals/\∀x c,X.env.cells.lookup x=some c->c≠b
 bs:∀b o,X.base.get? b=some o->X.s₀.heap.get? b=some o/\X.H₀ b=none
 bsz:X.base.objs.size<=X.s₀.heap.objs.size
 noex:∀b o,X.base.get? b=some o->b∉X.ex
 exfs:∀b∈X.ex,b∉X.fs
 funs:X.s₀.heap.FunFrames X.base X.outer
 frf:∀b∈X.fs,X.H₀ b=none
structure Inv(X:Cx)(pins:zzk)(Z:List (Option V))(H:Hp)(s:Shared):Prop where
 ok:X.Ok
 os:s.os=X.s₀.os
 bare:AllBare s.gens
 base:Un X.fs X.ex X.H₀ H X.s₀.heap s.heap
 loc:∃m,s.heap.Ns X.env.locals m/\∀(i:Nat) (x:Str) (v:V),X.N[i]? = some x->Z[i]? = some (some v)->Vis X.env.scope x->∃u,RelV v u/\Look X.env s.heap m x u
 cell:∀x c,X.env.cells.lookup x=some c->∃v,s.heap.IsCell c v
 free:H X.env.locals=none
 freeC:∀x c,X.env.cells.lookup x=some c->H c=none
 pin:∀p∈X.pn++pins,s.heap.get? p.1=some p.2/\H p.1=none/\p.1≠X.env.locals/\p.1∉X.fs/\∀v,p.2.data≠.cell v
 hok:HOk X.prog X.w H s.heap
 len:Z.length=X.N.length
section
variable {X:Cx} {Z:List (Option V)} {H H':Hp} {s:Shared}
theorem Cx.Ok.nofr(ok:X.Ok)(e:X.base.get? b=some o):b∉X.fs:=λhb=>by
 have:=(ok.funs.mem hb).1
 rw[e]at this;cases this
theorem Inv.bs(I:Inv X pins Z H s):∀b o,X.base.get? b=some o->s.heap.get? b=some o/\H b=none:=λb o e =>
 ⟨I.base.keep b o (I.ok.bs b o e).1 (I.ok.bs b o e).2 (I.ok.nofr e) (I.ok.noex b o e),I.base.free b o (I.ok.bs b o e).1 (I.ok.bs b o e).2 (I.ok.noex b o e)⟩
theorem Inv.bk(I:Inv X pins Z H s):∀b o,X.base.get? b=some o->s.heap.get? b=some o:=λb o e=>(I.bs b o e).1
theorem Inv.mod(I:Inv X pins Z H s):Mod X.K X.mg X.base:=I.ok.mod
theorem Inv.kIn(I:Inv X pins Z H s):X.K.In s.heap:=I.ok.mod.kin.keeps I.bk
theorem Inv.lt(I:Inv X pins Z H s):X.env.locals<s.heap.objs.size:=let ⟨_,hn,_⟩:=I.loc;hn.lt
theorem Inv.sz(I:Inv X pins Z H s):X.s₀.heap.objs.size<=s.heap.objs.size:=bj I.ok.above (ze I.lt)
theorem Inv.nofs(I:Inv X pins Z H s)(h:s.heap.objs.size<=a):a∉X.fs:=λhb=>by
 obtain⟨_,o,ho,_⟩:=I.ok.funs.mem hb
 exact absurd (bo (be ho) (bj I.sz h)) (ny _)
theorem Inv.cne(I:Inv X pins Z H s):∀x c,X.env.cells.lookup x=some c->c≠X.env.locals:=λx c e z=>by
 obtain⟨v,o,ho,hd⟩:=I.cell x c e
 obtain⟨m,⟨o',es,ep,ho',hd',_⟩,_⟩:=I.loc
 rw[z,ho']at ho;cases ho;rw[hd']at hd;cases hd
theorem Inv.funs(I:Inv X pins Z H s):s.heap.FunFrames X.base X.outer:=by
 have all:∀(l:List Env),(∀b∈frs l,b∈X.fs)->X.s₀.heap.FunFrames X.base l->s.heap.FunFrames X.base l:=by
  intro l
  induction l with
  | nil=>intro _ _;trivial
  | cons env r ih =>
   intro hs hl
   obtain⟨hk,⟨L,o,hf,hn,ho,hd⟩,hr⟩:=hl
   have hL:L∈X.fs:=hs L (by unfold frs;rw[Ch,hf];exact au)
   obtain⟨sl,e⟩:=I.base.slot L o ho (I.ok.frf L hL) hL λz=>I.ok.exfs L z hL
   exact⟨hk,⟨L,_,hf,hn,e,hd⟩,ih (λb hb=>hs b (by unfold frs;rw[Ch,hf];exact zzg _ hb)) hr⟩
 exact all X.outer (λ_ hb=>hb) I.ok.funs
theorem Inv.stack(I:Inv X pins Z H s):s.heap.FunFrames X.base X.stack:=by
 rcases I.ok.stk with e|⟨e,hf⟩
 ·rw[e];exact I.funs
 ·rw[e]
  obtain⟨m,hn,_⟩:=I.loc
  refine .cons (by rw[I.ok.kind];decide) hf hn ?_ I.funs
  exact Heap.get?_none_of_le (bj I.ok.bsz I.ok.above)
theorem Inv.stkSub(I:Inv X pins Z H s):∀b∈frs X.stack,b∈X.env.locals::X.fs:=λb hb=>by
 rcases I.ok.stk with e|⟨e,hf⟩
 ·rw[e]at hb;exact zzg _ hb
 ·rw[e]at hb
  unfold frs at hb
  rw[Ch,hf]at hb
  exact hb
theorem Inv.stkFree(I:Inv X pins Z H s):∀b∈frs X.stack,H b=none:=λb hb=>by
 rcases List.mem_cons.mp (I.stkSub b hb)with e|hb
 ·rw[e];exact I.free
 ·obtain⟨_,o,ho,_⟩:=I.ok.funs.mem hb
  exact I.base.free b o ho (I.ok.frf b hb) λz=>I.ok.exfs b z hb
theorem Inv.step{g':Array GenState}{d':Drawn}{ch:List Addr}(I:Inv X pins Z H s)
  (hch:∀b∈ch,(b∈X.ex\/X.s₀.heap.objs.size<=b)/\b≠X.env.locals/\(∀x c,X.env.cells.lookup x=some c->c≠b)/\∀p∈X.pn++pins,p.1≠b)
  (keep:∀b o,b≠X.env.locals->b∉X.fs->b∉ch->s.heap.get? b=some o->H b=none->h'.get? b=some o)
  (slot:∀b o,b≠X.env.locals->b∈X.fs->b∉ch->s.heap.get? b=some o->H b=none->∃sl,h'.get? b=some { o with slots:=sl }) (free:∀b o,b∉ch->s.heap.get? b=some o->H b=none->H' b=none)
  (there:∀b o,b∉ch->s.heap.get? b=some o->∃o',h'.get? b=some o')
  (tups:∀b xs,H b=some (.tup xs)->H' b=some (.tup xs)) (frzs:∀b o u,H b=some (.frz o u)->H' b=some (.frz o u)) (tbls:∀b ps,H b=some (.tbl ps)->∃more,H' b=some (.tbl (ps++more)))
  (ns:∀m,s.heap.Ns X.env.locals m->h'.Ns X.env.locals m) (hok:HOk X.prog X.w H' h') (hg:AllBare g') :
  Inv X pins Z H' { s with heap:=h',gens:=g',drawn:=d',toks:=t' }:=by
 have neL:∀b o,X.s₀.heap.get? b=some o->b≠X.env.locals:=λb o e=>bu (bo (be e) I.ok.above)
 have neC:∀b o,X.s₀.heap.get? b=some o->b∉X.ex->b∉ch:=λb o e hx hb=>by
  rcases(hch b hb).1 with z|z
  ·exact hx z
  ·exact absurd (bo (be e) z) (ny _)
 have cellK:∀x c,X.env.cells.lookup x=some c->∀v,s.heap.IsCell c v->h'.IsCell c v:=λx c e v ⟨o,ho,hd⟩=>by
  have nch:c∉ch:=λz=>(hch c z).2.2.1 x c e rfl
  by_cases hc:c∈X.fs
  ·obtain⟨sl,q⟩:=slot c o (I.cne x c e) hc nch ho (I.freeC x c e)
   exact⟨_,q,hd⟩
  ·exact⟨o,keep c o (I.cne x c e) hc nch ho (I.freeC x c e),hd⟩
 refine⟨I.ok,I.os,hg,⟨λb o e n hb hx=>?_,λb o e n hb hx=>?_,λb o e n hx=>?_,λb o e hx=>?_,λb xs e=>tups b xs (I.base.tups b xs e),λb o xs e=>frzs b o xs (I.base.frzs b o xs e),λb ps e=>?_⟩,?_,λx c e=>?_,?_,λx c e=>?_,λp hp=>?_,hok,I.len⟩
 ·exact keep b o (neL b o e) hb (neC b o e hx) (I.base.keep b o e n hb hx) (I.base.free b o e n hx)
 ·obtain⟨sl,e1⟩:=I.base.slot b o e n hb hx
  obtain⟨sl',e2⟩:=slot b _ (neL b o e) hb (neC b o e hx) e1 (I.base.free b o e n hx)
  exact⟨sl',e2⟩
 ·obtain⟨o',e1⟩:=I.base.there b o e hx
  exact free b o' (neC b o e hx) e1 (I.base.free b o e n hx)
 ·obtain⟨o',e1⟩:=I.base.there b o e hx
  exact there b o' (neC b o e hx) e1
 ·obtain⟨m1,e1⟩:=I.base.tbls b ps e
  obtain⟨m2,e2⟩:=tbls b _ e1
  exact⟨m1++m2,by rw[e2,Array.append_assoc]⟩
 ·obtain⟨m,hn,hl⟩:=I.loc
  refine⟨m,ns m hn,λi x v e1 e2 e3=>?_⟩
  obtain⟨u,r,l⟩:=hl i x v e1 e2 e3
  refine⟨u,r,?_⟩
  rcases l with l|⟨k,c,e,z⟩
  ·exact .inl l
  ·exact .inr ⟨k,c,e,cellK x c e _ z⟩
 ·obtain⟨v,z⟩:=I.cell x c e
  exact⟨v,cellK x c e v z⟩
 ·obtain⟨m,⟨o,_,_,ho,_⟩,_⟩:=I.loc
  exact free _ o (λz=>(hch _ z).2.1 rfl) ho I.free
 ·obtain⟨v,o,ho,hd⟩:=I.cell x c e
  exact free c o (λz=>(hch c z).2.2.1 x c e rfl) ho (I.freeC x c e)
 ·obtain⟨e,n,ne,nf,d⟩:=I.pin p hp
  have nch:p.1∉ch:=λz=>(hch p.1 z).2.2.2 p hp rfl
  exact⟨keep p.1 p.2 ne nf nch e n,free p.1 p.2 nch e n,ne,nf,d⟩
theorem Inv.un(I:Inv X pins Z H s)(u:Un X.fs [] H H' s.heap h')(hok:HOk X.prog X.w H' h'):Inv X pins Z H' { s with heap:=h',toks:=t' }:=by
 obtain⟨m,⟨o,es,ep,ho,r⟩,_⟩:=id I.loc
 obtain⟨sl,hL⟩:=u.any ho I.free (by simp)
 exact I.step (g':=s.gens) (d':=s.drawn) (ch:=[]) (λ_ z=>nomatch z) (λb o _ hb _ e n=>u.keep b o e n hb (by simp)) (λb o _ hb _ e n=>u.slot b o e n hb (by simp)) (λb o _ e n=>u.free b o e n (by simp)) (λb o _ e=>u.there b o e (by simp)) u.tups u.frzs u.tbls (λm' hm=>by
  obtain⟨o',es',ep',ho',r'⟩:=hm
  rw[ho]at ho';cases ho'
  exact⟨_,es',ep',hL,r'⟩) hok I.bare
theorem Inv.call{g':Array GenState}{d':Drawn}{ch:List Addr}(I:Inv X pins Z H s)(u:Un (frs X.stack) ch H H' s.heap h')(hok:HOk X.prog X.w H' h')(hg:AllBare g')
  (hch:∀b∈ch,(b∈X.ex\/X.s₀.heap.objs.size<=b)/\b≠X.env.locals/\(∀x c,X.env.cells.lookup x=some c->c≠b)/\∀p∈X.pn++pins,p.1≠b) :
  Inv X pins Z H' { s with heap:=h',gens:=g',drawn:=d',toks:=t' }:=by
 obtain⟨m,⟨o,es,ep,ho,r⟩,_⟩:=id I.loc
 obtain⟨sl,hL⟩:=u.any ho I.free λz=>(hch _ z).2.1 rfl
 exact I.step (ch:=ch) hch (λb o hL hb hc e n=>u.keep b o e n (λz=>(List.mem_cons.mp (I.stkSub b z)).elim hL hb) hc) (λb o _ _ hc e n=>u.any e n hc) (λb o hc e n=>u.free b o e n hc) (λb o hc e=>u.there b o e hc) u.tups u.frzs u.tbls (λm' hm=>by
  obtain⟨o',es',ep',ho',r'⟩:=hm
  rw[ho]at ho';cases ho'
  exact⟨_,es',ep',hL,r'⟩) hok hg
theorem Inv.turned{it:Addr}(I:Inv X pins Z H s)(k:∀b o,b≠it->s.heap.get? b=some o->h'.get? b=some o)(hn:H it=none)(hL:it≠X.env.locals)
  (h1:it∈X.ex\/X.s₀.heap.objs.size<=it) (h2:∀x c,X.env.cells.lookup x=some c->c≠it) (h3:∀p∈X.pn++pins,p.1≠it):Inv X pins Z H { s with heap:=h',toks:=t' }:=by
 have nit:∀b u,H b=some u->b≠it:=λb u e z=>by rw[z,hn]at e;cases e
 refine I.step (g':=s.gens) (d':=s.drawn) (ch:=[it]) (λb hb=>?_) (λb o _ _ hc e _=>k b o (λz=>hc (by simp[z])) e) (λb o _ _ hc e _=>⟨o.slots,k b o (λz=>hc (by simp[z])) e⟩) (λ_ _ _ _ n=>n)
  (λb o hc e=>⟨o,k b o (λz=>hc (by simp[z])) e⟩) (λ_ _ e=>e) (λ_ _ _ e=>e) (λb ps e=>⟨#[],by rw[e];simp⟩) (λm hm=>?_) (λb u e=>?_) I.bare
 ·have e:b=it:=by simpa using hb
  subst e
  exact⟨h1,hL,h2,h3⟩
 ·obtain⟨o,es,ep,ho,r⟩:=hm
  exact⟨o,es,ep,k _ o (Ne.symm hL) ho,r⟩
 ·refine(I.hok b u e).stay (λc v hc q=>k c v ?_ q) (λ_ q=>q) λ_ _ q=>q
  rcases hc with z|z
  ·rw[z];exact nit b u e
  ·exact nit c _ z
theorem Inv.tok(I:Inv X pins Z H s)(t:Nat):Inv X pins Z H { s with toks:=t }:=I.un (h':=s.heap) (t':=t) Un.refl I.hok
theorem Inv.kept(I:Inv X pins Z H s)(k:∀b u,s.heap.get? b=some u->h'.get? b=some u):Inv X pins Z H { s with heap:=h',toks:=t' }:=I.un (Un.kept k) (I.hok.kept k)
theorem Inv.laid{o:HO}(I:Inv X pins Z H s)(k:∀b u,s.heap.get? b=some u->h'.get? b=some u)(hp:s.heap.objs.size<=a)(new:ObjOk X.prog X.w (upd H a o) h' a o) :
  Inv X pins Z (upd H a o) { s with heap:=h',toks:=t' }:=I.un (Un.laid k hp (I.hok.fresh hp)) (I.hok.laid k hp new)
theorem Inv.write{x e:Addr}{o:HO}(I:Inv X pins Z H s)(mu:Mut (H x))(he:e=x\/H e=some (.own x))(k:∀b u,b≠e->s.heap.get? b=some u->h'.get? b=some u)(heo:∃u,h'.get? e=some u)
  (new:ObjOk X.prog X.w (upd H x o) h' x o):Inv X pins Z (upd H x o) { s with heap:=h',toks:=t' }:=I.un (Un.write mu he k heo) (I.hok.write mu he k heo new)
theorem Inv.pins_of{pins':zzk}(I:Inv X pins Z H s)(h:∀p∈pins',s.heap.get? p.1=some p.2/\H p.1=none/\p.1≠X.env.locals/\p.1∉X.fs/\∀v,p.2.data≠.cell v):Inv X pins' Z H s :=
 ⟨I.ok,I.os,I.bare,I.base,I.loc,I.cell,I.free,I.freeC,λp hp=>(List.mem_append.mp hp).elim (λz=>I.pin p (Ly _ z)) (h p),I.hok,I.len⟩
theorem oI{N:List Str}(hN:N.Nodup)(a:N[i]? = some x)(b:N[j]? = some x):i=j:=by
 obtain⟨h1,e1⟩:=List.getElem?_eq_some_iff.mp a
 obtain⟨h2,e2⟩:=List.getElem?_eq_some_iff.mp b
 exact(List.getElem_inj hN).mp (e1.trans e2.symm)
theorem qM{M:Model}{v:V}(I:Inv X pins Z H s)(hN:X.N.Nodup)(hi:X.N[i]? = some x)(hx:Loc X.env.scope x)(r:RelV v u)
  (h:∀s',Inv X pins (Z.set i (some v)) H s'->(∃a,Heap.SameBut a s.heap s'.heap/\(a=X.env.locals\/X.env.cells.lookup x=some a))->Q () s') (hf:X.fn x=true\/X.env.scope.names.lookup x=some .local:=by first|exact .inl rfl|exact .inr rfl|assumption):wpAny M A (storeName X.env x u) Q E s:=by
 obtain⟨m,hn,hl⟩:=id I.loc
 have hcls:(X.env.scope.kind==.class||(X.env.scope.kind==.module&&X.env.locals != X.env.globals))=false:=by rw[I.ok.kind];rfl
 have hiσ:i<Z.length:=by rw[I.len];exact(List.getElem?_eq_some_iff.mp hi).1
 have cne:=I.cne
 have tracked:∀{a:Addr} {h':Heap},(∃o,s.heap.get? a=some o/\H a=none)->Heap.SameBut a s.heap h'->HOk X.prog X.w H h':=λ{a h'} ha hs b ob e=>by
  obtain⟨_,_,hfree⟩:=ha
  refine(I.hok b ob e).stay (λc w' hc q=>(hs.2 c ?_).trans q) (λ_ q=>q) λ_ _ q=>q
  rintro rfl
  rcases hc with rfl|hc
  ·rw[hfree]at e;cases e
  ·rw[hfree]at hc;cases hc
 rcases hx with hk|hk
 ·refine wpAny_storeName_local hk hn (λh' hn' hs=>?_) hcls
  obtain⟨oL,_,_,hoL,_⟩:=id hn
  refine h _ ⟨I.ok,I.os,I.bare,⟨λb o e n hb hx=>?_,λb o e n hb hx=>?_,I.base.free,λb o e hx=>?_,I.base.tups,I.base.frzs,I.base.tbls⟩,⟨_,hn',λj y v' e1 e2 e3=>?_⟩,λy c e=>?_,I.free,I.freeC,λp hp=>?_,tracked ⟨oL,hoL,I.free⟩ hs,by simpa using I.len⟩ ⟨_,hs,.inl rfl⟩
  ·exact(hs.2 b (bu (bo (be e) I.ok.above))).trans (I.base.keep b o e n hb hx)
  ·obtain⟨sl,e1⟩:=I.base.slot b o e n hb hx
   exact⟨sl,(hs.2 b (bu (bo (be e) I.ok.above))).trans e1⟩
  ·obtain⟨o',e1⟩:=I.base.there b o e hx
   exact⟨o',(hs.2 b (bu (bo (be e) I.ok.above))).trans e1⟩
  ·by_cases hj:j=i
   ·subst hj
    rw[hi]at e1;cases e1
    rw[il hiσ]at e2
    cases e2
    exact⟨u,r,.inl ⟨hk,by simp⟩⟩
   ·rw[ge (Ne.symm hj)]at e2
    obtain⟨u',r',q⟩:=hl j y v' e1 e2 e3
    refine⟨u',r',?_⟩
    rcases q with ⟨k,e⟩|⟨k,c,e,z⟩
    ·refine .inl ⟨k,?_⟩
     have:y≠x:=λe=>hj (oI hN e1 (e▸hi))
     simp[this,e]
    ·exact .inr ⟨k,c,e,z.sameBut hs (cne y c e)⟩
  ·obtain⟨w',z⟩:=I.cell y c e
   exact⟨w',z.sameBut hs (cne y c e)⟩
  ·obtain⟨e,n,ne,nf,d⟩:=I.pin p hp
   exact⟨(hs.2 p.1 ne).trans e,n,ne,nf,d⟩
 ·have hfn:X.fn x=true:=by
   rcases hf with z|z
   ·exact z
   ·rw[z]at hk;cases hk
  obtain⟨c,hc⟩:=I.ok.has x (.inl hk)
  obtain⟨w',z⟩:=I.cell x c hc
  refine wpAny_storeName_cell I.ok.kind hk hc z (λh' hc' hs=>?_)
  obtain⟨oc,hoc,hocd⟩:=id z
  refine h { s with heap:=h' } ⟨I.ok,I.os,I.bare,⟨λb o e n hb hx=>?_,λb o e n hb hx=>?_,I.base.free,λb o e hx=>?_,I.base.tups,I.base.frzs,I.base.tbls⟩,⟨m,hn.sameBut hs (Ne.symm (cne x c hc)),λj y v' e1 e2 e3=>?_⟩,λy c' e=>?_,I.free,I.freeC,λp hp=>?_,tracked ⟨oc,hoc,I.freeC x c hc⟩ hs,by simpa using I.len⟩ ⟨c,hs,.inr hc⟩
  ·exact(hs.2 b (bu (bo (be e) (I.ok.cab x c hfn hc)))).trans (I.base.keep b o e n hb hx)
  ·obtain⟨sl,e1⟩:=I.base.slot b o e n hb hx
   exact⟨sl,(hs.2 b (bu (bo (be e) (I.ok.cab x c hfn hc)))).trans e1⟩
  ·obtain⟨o',e1⟩:=I.base.there b o e hx
   exact⟨o',(hs.2 b (bu (bo (be e) (I.ok.cab x c hfn hc)))).trans e1⟩
  ·by_cases hj:j=i
   ·subst hj
    rw[hi]at e1;cases e1
    rw[il hiσ]at e2
    cases e2
    exact⟨u,r,.inr ⟨.inl hk,c,hc,hc'⟩⟩
   ·rw[ge (Ne.symm hj)]at e2
    obtain⟨u',r',q⟩:=hl j y v' e1 e2 e3
    refine⟨u',r',?_⟩
    rcases q with q|⟨k,c',e,z'⟩
    ·exact .inl q
    ·refine .inr ⟨k,c',e,z'.sameBut hs ?_⟩
     rintro rfl
     exact hj (oI hN e1 (I.ok.inj _ _ _ e hc▸hi))
  ·by_cases hcc:c'=c
   ·subst hcc;exact⟨_,hc'⟩
   ·obtain⟨w2,z2⟩:=I.cell y c' e
    exact⟨w2,z2.sameBut hs hcc⟩
  ·obtain⟨e,n,ne,nf,d⟩:=I.pin p hp
   refine⟨(hs.2 p.1 ?_).trans e,n,ne,nf,d⟩
   intro q
   rw[q,hoc]at e
   have q':oc=p.2:=Option.some.inj e
   exact d w' (by rw[<-q'];exact hocd)
theorem ix{M:Model}{v:V}(I:Inv X pins Z H s)(hN:X.N.Nodup)(hi:X.N[i]? = some x)(hx:Loc X.env.scope x)(r:RelV v u)
  (h:∀s',Inv X pins (Z.set i (some v)) H s'->Q () s') (hf:X.fn x=true\/X.env.scope.names.lookup x=some .local:=by first|exact .inl rfl|exact .inr rfl|assumption):wpAny M A (storeName X.env x u) Q E s :=
 qM I hN hi hx r (λs' I' _=>h s' I') hf
theorem Inv.call'{s':Shared}{ch:List Addr}(I:Inv X pins Z H s)(ho:s'.os=s.os)(u:Un (frs X.stack) ch H H' s.heap s'.heap)(hok:HOk X.prog X.w H' s'.heap)(hg:AllBare s'.gens)
  (hch:∀b∈ch,(b∈X.ex\/X.s₀.heap.objs.size<=b)/\b≠X.env.locals/\(∀x c,X.env.cells.lookup x=some c->c≠b)/\∀p∈X.pn++pins,p.1≠b):Inv X pins Z H' s':=by
 obtain⟨h',g',d',t',o'⟩:=s'
 have e:o'=s.os:=ho
 subst e
 exact I.call (g':=g') (t':=t') (d':=d') u hok hg hch
end
abbrev XK:=Value->Option Addr->Hp->Prop
abbrev St:=List (Option V)
abbrev VK:=V->Hp->Prop
abbrev TE:=St->Hp->VK->Prop
abbrev TT:=St->Hp->(Bool->Hp->Prop)->Prop
abbrev TA:=St->Hp->(List V->Hp->Prop)->Prop
structure Ends where
 nx:St->Hp->Prop
 rt:VK
 bk:St->Hp->Prop:=λ_ _=>False
 ct:St->Hp->Prop:=λ_ _=>False
abbrev TS:=Ends->St->Hp->Prop
def EP(X:Cx)(pins:zzk)(Z:St)(Q:VK)(u:Value)(s':Shared):Prop:=∃v H',Inv X pins Z H' s'/\RelV v u/\Q v H'
def TP(X:Cx)(pins:zzk)(Z:St)(Q:Bool->Hp->Prop)(b:Bool)(s':Shared):Prop:=∃H',Inv X pins Z H' s'/\Q b H'
def AP(X:Cx)(pins:zzk)(Z:St)(Q:List V->Hp->Prop)(us:List Value)(s':Shared):Prop:=∃vs H',Inv X pins Z H' s'/\Vals vs us/\Q vs H'
def SP(X:Cx)(pins:zzk)(D:Ends)(f:Flow)(s':Shared):Prop :=
 match f with
 | .next=>∃σ' H',Inv X pins σ' H' s'/\D.nx σ' H'
 | .brk=>∃σ' H',Inv X pins σ' H' s'/\D.bk σ' H'
 | .cont=>∃σ' H',Inv X pins σ' H' s'/\D.ct σ' H'
 | .ret u=>∃v σ' H',Inv X pins σ' H' s'/\RelV v u/\D.rt v H'
def PE(X:Cx)(e:Expr)(t:TE):Prop :=
 ∀(pins:zzk) (s:Shared) (Z:St) (H:Hp) (Q:VK),Inv X pins Z H s->t Z H Q->wpAny (model X.prog X.w) X.A (eval e X.env) (EP X pins Z Q) X.xe s
def PT(X:Cx)(e:Expr)(t:TT):Prop :=
 ∀(pins:zzk) (s:Shared) (Z:St) (H:Hp) (Q:Bool->Hp->Prop),Inv X pins Z H s->t Z H Q->wpAny (model X.prog X.w) X.A (isTrue e X.env (eval e X.env)) (TP X pins Z Q) X.xe s
def PW(X:Cx)(e:Expr)(t:TT):Prop :=
 ∀(whole:Sem Value) (pins:zzk) (s:Shared) (Z:St) (H:Hp) (Q:Bool->Hp->Prop),Inv X pins Z H s->t Z H Q->wpAny (model X.prog X.w) X.A (isTrue e X.env whole) (TP X pins Z Q) X.xe s
def PA(X:Cx)(es:List Expr)(t:TA):Prop :=
 ∀(pos:Pos) (pins:zzk) (s:Shared) (Z:St) (H:Hp) (Q:List V->Hp->Prop),Inv X pins Z H s->t Z H Q->wpAny (model X.prog X.w) X.A (spliced (backTo pos (starEach es X.env))) (AP X pins Z Q) X.xe s
def PS(X:Cx)(st:Stmt)(t:TS):Prop :=
 ∀(pins:zzk) (s:Shared) (Z:St) (H:Hp) (D:Ends),Inv X pins Z H s->t D Z H->wpAny (model X.prog X.w) X.A (exec st X.env) (SP X pins D) X.xe s
def PSs(X:Cx)(st:List Stmt)(t:TS):Prop :=
 ∀(pins:zzk) (s:Shared) (Z:St) (H:Hp) (D:Ends),Inv X pins Z H s->t D Z H->wpAny (model X.prog X.w) X.A (execs st X.env) (SP X pins D) X.xe s
theorem thn{α:Type}{t:Sem α}{Q Q':α->Shared->Prop}{M:Model}{s:Shared}(h:wpAny M A t Q E s)(hQ:∀a s,Q a s->Q' a s):wpAny M A t Q' E s:=je h hQ λ_ _ x=>x
section
variable {X:Cx}
def zB(i:Nat):TE:=λZ H Q=>∃v,Z[i]? = some (some v)/\Q v H
def tC(v:V):TE:=λ_ H Q=>Q v H
theorem dD(hN:X.N[i]? = some x)(hv:Vis X.env.scope x)(hd:(x==("__debug__" : Str))=false:=by decide)(hcd:(x==("__classdict__" : Str))=false:=by decide):PE X (.Name x pos) (zB i):=by
 intro pins s Z H Q I h
 obtain⟨v,e,h⟩:=h
 obtain⟨m,hn,hl⟩:=I.loc
 obtain⟨u,r,l⟩:=hl i x v hN e hv
 have fin:EP X pins Z Q u s:=⟨v,H,I,r,h⟩
 rcases l with ⟨hk,hm⟩|⟨hk,c,hc,hcell⟩
 ·exact wpAny_Name (wpAny_loadName_local I.ok.kind hk hn hm fin) hd
 ·rcases hk with hk|hk
  ·exact wpAny_Name (wpAny_loadName_cell I.ok.kind hk hc hcell fin) hd
  ·exact wpAny_Name (wpAny_loadName_free I.ok.kind hk hc hcell fin hcd) hd
theorem sG{i j pos}:PE X (.Constant (.int i) j pos) (tC (.int i)):=λ_ _ _ H _ I h=>wpAny_Constant_int ⟨.int i,H,I.tok _,⟨_,rfl⟩,h⟩
theorem IY{b j pos}:PE X (.Constant (.bool b) j pos) (tC (.bl b)):=λ_ _ _ H _ I h=>Constant_bool ⟨.bl b,H,I,rfl,h⟩
theorem Gv{j pos}:PE X (.Constant .none j pos) (tC .non):=λ_ _ _ H _ I h=>Constant_none ⟨.non,H,I,rfl,h⟩
theorem og{x j pos}:PE X (.Constant (.str x) j pos) (tC (.str x)):=λ_ _ _ H _ I h=>Calls.Constant_str ⟨.str x,H,I.tok _,⟨_,rfl⟩,h⟩
def Gl(X:Cx)(x:Str):Prop:=X.env.kindOf x=some .globalImplicit
theorem lc{s:Shared}{Z:St}{H:Hp}{Q:zzj}(I:Inv X pins Z H s)(hg:Gl X x)(hm:X.mg x=some u)(h:Q u s)
  (hd:(x==("__debug__" : Str))=false:=by decide):wpAny (model X.prog X.w) X.A (eval (.Name x pos) X.env) Q E s :=
 Calls.Name_function_global I.ok.kind hg (Calls.loadGlobal_global (by rw[I.ok.glob];exact I.mod.glob.keeps I.bk) hm h) hd
theorem oU{s:Shared}{Z:St}{H:Hp}{Q:zzj}(I:Inv X pins Z H s)(hg:Gl X x)(hm:X.mg x=none)(hv:bootBuiltins x=some u)(h:Q u s)
  (hn:x ≠ "__name__":=by decide) (hd:(x==("__debug__" : Str))=false:=by decide):wpAny (model X.prog X.w) X.A (eval (.Name x pos) X.env) Q E s:=by
 obtain⟨mb,h1,h2⟩:=I.mod.blt
 exact Calls.Name_function_global I.ok.kind hg (Calls.loadGlobal_builtin (by rw[I.ok.glob];exact I.mod.glob.keeps I.bk) hm (by rw[I.ok.blt];exact h1.keeps I.bk) ((h2 x hn).trans hv) h) hd
theorem sH{v:V}(hg:Gl X x)(hm:X.mg x=some u)(r:RelV v u)(hd:(x==("__debug__" : Str))=false:=by decide):PE X (.Name x pos) (tC v) :=
 λ_ _ _ H _ I h=>lc I hg hm ⟨v,H,I,r,h⟩ hd
theorem DC{v:V}(hg:Gl X x)(hm:X.mg x=none)(hv:bootBuiltins x=some u)(r:RelV v u)(hn:x ≠ "__name__":=by decide)(hd:(x==("__debug__" : Str))=false:=by decide):PE X (.Name x pos) (tC v) :=
 λ_ _ _ H _ I h=>oU I hg hm hv ⟨v,H,I,r,h⟩ hn hd
variable {a b:Expr} {ta tb:TE}
variable {tA tB':TT} {rest:List Expr}
def Ki(t u:TT):TT:=λZ H Q=>t Z H λc H1=>if c=true then u Z H1 Q else Q false H1
def tOr(t u:TT):TT:=λZ H Q=>t Z H λc H1=>if c=true then Q true H1 else u Z H1 Q
def Ka(t:TT):TT:=λZ H Q=>t Z H λc H1=>Q (!c) H1
theorem Ds(ha:PT X a tA):PW X (.BoolOp .And [a] pos) tA:=by
 intro wh pins s Z H Q I h
 refine isTrue_and (thn (ha pins s Z H Q I h) λc s1 e=>?_)
 cases c with
 | true=>exact isTrue_and_nil e
 | false=>exact e
theorem Gi(ha:PT X a tA):PW X (.BoolOp .Or [a] pos) tA:=by
 intro wh pins s Z H Q I h
 refine isTrue_or (thn (ha pins s Z H Q I h) λc s1 e=>?_)
 cases c with
 | false=>exact isTrue_or_nil e
 | true=>exact e
theorem Gj(ha:PT X a tA)(hb:PW X (.BoolOp .And (b::rest) pos) tB'):PW X (.BoolOp .And (a::b::rest) pos) (Ki tA tB'):=by
 intro wh pins s Z H Q I h
 refine isTrue_and (thn (ha pins s Z H _ I h) λc s1 ⟨H1,I1,q1⟩=>?_)
 cases c with
 | true=>exact hb wh pins s1 Z H1 Q I1 q1
 | false=>exact⟨H1,I1,q1⟩
theorem IR(ha:PT X a tA)(hb:PW X (.BoolOp .Or (b::rest) pos) tB'):PW X (.BoolOp .Or (a::b::rest) pos) (tOr tA tB'):=by
 intro wh pins s Z H Q I h
 refine isTrue_or (thn (ha pins s Z H _ I h) λc s1 ⟨H1,I1,q1⟩=>?_)
 cases c with
 | true=>exact⟨H1,I1,q1⟩
 | false=>exact hb wh pins s1 Z H1 Q I1 q1
theorem Bl(ha:PT X a tA):PT X (.UnaryOp .Not a pos) (Ka tA):=by
 intro pins s Z H Q I h
 exact isTrue_not (ha pins s Z H (λc H1=>Q (!c) H1) I h)
def Ic(ta tb:TE):TE:=λZ H Q=>ta Z H λx H1=>∃c,x=.bl c/\if c=true then tb Z H1 Q else Q (.bl false) H1
def HY(ta:TE):TE:=λZ H Q=>ta Z H λx H1=>∃c,x=.bl c/\Q (.bl (!c)) H1
theorem Gs{op}{t:TE}(h:PE X a t):PE X (.BoolOp op [a] pos) t:=λpins s Z H Q I hw=>BoolOp_one (h pins s Z H Q I hw)
theorem Gx(ha:PE X a ta)(hb:PE X (.BoolOp .And (b::rest) pos) tb):PE X (.BoolOp .And (a::b::rest) pos) (Ic ta tb):=by
 intro pins s Z H Q I h
 refine BoolOp_and (thn (ha pins s Z H _ I h) λv s1 ⟨x,H1,I1,r1,q1⟩=>?_)
 obtain⟨c,rfl,q1⟩:=q1
 cases r1
 refine re ?_
 cases c with
 | true=>exact hb pins s1 Z H1 Q I1 q1
 | false=>exact⟨.bl false,H1,I1,rfl,q1⟩
theorem Gu(ha:PE X a ta):PE X (.UnaryOp .Not a pos) (HY ta):=by
 intro pins s Z H Q I h
 refine UnaryOp_ (thn (ha pins s Z H _ I h) λv s1 ⟨x,H1,I1,r1,q1⟩=>?_)
 obtain⟨c,rfl,q1⟩:=q1
 cases r1
 exact not_of (re ⟨.bl (!c),H1,I1,rfl,q1⟩)
def tIf(t:TT)(ta tb:TE):TE:=λZ H Q=>t Z H λc H1=>if c=true then ta Z H1 Q else tb Z H1 Q
theorem uH(hc:PT X c tA)(ha:PE X a ta)(hb:PE X b tb):PE X (.IfExp c a b pos) (tIf tA ta tb):=by
 intro pins s Z H Q I h
 refine wpAny_IfExp (thn (hc pins s Z H _ I h) λd s1 ⟨H1,I1,q1⟩=>?_)
 cases d with
 | true=>exact ha pins s1 Z H1 Q I1 q1
 | false=>exact hb pins s1 Z H1 Q I1 q1
end
def SqL(K:PySem.W.Frag)(H:Hp)(a:Addr)(xs:List V):Prop :=
 Rd H a (.lst xs) \/
  ∃(o:Obj) (its:Array Value) (n:Nat),K.lookup a=some o/\o.cls=.type "list" /\ o.dict=none/\o.data=.seq its n/\its.size<=sizeLine/\Vals xs its.toList
def SqT(K:PySem.W.Frag)(H:Hp)(a:Addr)(xs:List V):Prop :=
 Rd H a (.tup xs) \/
  ∃(o:Obj) (its:Array Value) (n:Nat),K.lookup a=some o/\o.cls=.type "tuple" /\ o.data=.seq its n/\its.size<=sizeLine/\Vals xs its.toList
def Lc:Value->Option V
 | .none=>some .non
 | .bool b=>some (.bl b)
 | .int i _=>some (.int i)
 | .str x _=>some (.str x)
 | .bytes b _=>some (.byt b)
 | .float b _=>some (.flt b)
 | .ref a=>some (.ref a)
 | .type n=>some (.ty n)
 | _=>none
theorem RelV.abs{x:V}(r:RelV x u):Lc u=some x:=by
 cases x with
 | non=>cases r;rfl
 | bl _=>cases r;rfl
 | int _=>obtain⟨t,rfl⟩:=r;rfl
 | str _=>obtain⟨t,rfl⟩:=r;rfl
 | byt _=>obtain⟨t,rfl⟩:=r;rfl
 | flt _=>obtain⟨t,rfl⟩:=r;rfl
 | ref _=>cases r;rfl
 | ty _=>cases r;rfl
theorem RelV.inj{x y:V}(r:RelV x u)(q:RelV y u):x=y:=Option.some.inj (r.abs.symm.trans q.abs)
theorem Vals.inj:∀{xs ys:List V} {us:List Value},Vals xs us->Vals ys us->xs=ys:=by
 intro xs ys us h
 induction h generalizing ys with
 | nil=>intro h2;cases h2;rfl
 | cons r _ ih =>
  intro h2
  cases h2 with
  | cons r' t'=>rw[r.inj r',ih t']
section
variable {X:Cx} {Z:St} {H:Hp} {s:Shared} {xs ys:List V}
theorem SqT.of{K:PySem.W.Frag}(h:H a=some (.tup xs)):SqT K H a xs:=.inl (.inl h)
theorem Inv.list(I:Inv X pins Z H s)(h:SqL X.K H a xs):∃its:List Value,Vals xs its/\PlainL s.heap a its.toArray/\xs.length<=sizeLine:=by
 rcases h with h|⟨o,its,n,hk,hc,hd,hs,hz,r⟩
 ·obtain⟨z,its,n,r,e⟩:=h.ok I.hok
  exact⟨its,r,⟨_,n,e,rfl,rfl,rfl⟩,z⟩
 ·refine⟨its.toList,r,⟨o,n,I.kIn a o hk,hc,hd,by simpa using hs⟩,?_⟩
  have e:=r.length
  simp only[cr]at e
  lia
theorem Inv.tuple(I:Inv X pins Z H s)(h:SqT X.K H a xs):∃its:List Value,Vals xs its/\IsTup s.heap a its.toArray/\xs.length<=sizeLine:=by
 rcases h with h|⟨o,its,n,hk,hc,hs,hz,r⟩
 ·obtain⟨z,its,r,p⟩:=h.ok I.hok
  exact⟨its,r,p.1,z⟩
 ·refine⟨its.toList,r,⟨o,I.kIn a o hk,hc,n,by simpa using hs⟩,?_⟩
  have e:=r.length
  simp only[cr]at e
  lia
theorem Inv.list_inj(I:Inv X pins Z H s)(h:SqL X.K H a xs)(h':SqL X.K H a ys):xs=ys:=by
 obtain⟨its,r,⟨o,n,e,_,_,d⟩,_⟩:=I.list h
 obtain⟨its',r',⟨o',n',e',_,_,d'⟩,_⟩:=I.list h'
 rw[e]at e';cases e'
 rw[d]at d'
 injection d' with d1 _
 have:its=its':=by simpa using congrArg Array.toList d1
 subst this
 exact r.inj r'
theorem Inv.tuple_inj(I:Inv X pins Z H s)(h:SqT X.K H a xs)(h':SqT X.K H a ys):xs=ys:=by
 obtain⟨its,r,⟨o,e,_,n,d⟩,_⟩:=I.tuple h
 obtain⟨its',r',⟨o',e',_,n',d'⟩,_⟩:=I.tuple h'
 rw[e]at e';cases e'
 rw[d]at d'
 injection d' with d1 _
 have:its=its':=by simpa using congrArg Array.toList d1
 subst this
 exact r.inj r'
end
section
variable {X:Cx} {st:Stmt} {rest:List Stmt} {t u:TS} {te:TE}
def HZ:TS:=λD Z H=>D.nx Z H
def J6(t u:TS):TS:=λD Z H=>t { D with nx:=u D } Z H
theorem yo:PSs X [] HZ:=λ_ _ Z H _ I h=>Me ⟨Z,H,I,h⟩
theorem nZ(h1:PS X st t)(h2:PSs X rest u):PSs X (st::rest) (J6 t u):=by
 intro pins s Z H D I h
 refine wpAny_execs_cons (thn (h1 pins s Z H { D with nx:=u D } I h) λf s1 q=>?_)
 cases f with
 | next =>
  obtain⟨σ',H',I',q⟩:=q
  exact h2 pins s1 σ' H' D I' q
 | ret v=>exact q
 | brk=>exact q
 | cont=>exact q
theorem Dv(h1:PS X st t):PSs X [st] t:=by
 intro pins s Z H D I h
 refine wpAny_execs_cons (thn (h1 pins s Z H D I h) λf s1 q=>?_)
 cases f with
 | next=>exact Me q
 | ret v=>exact q
 | brk=>exact q
 | cont=>exact q
theorem Inv.quiet{Z:St}{H:Hp}{s:Shared}(I:Inv X pins Z H s):interactive X.env=false:=by simp[interactive,I.ok.kind]
def H9(te:TE):TS:=λD Z H=>te Z H λ_ H1=>D.nx Z H1
theorem yq(he:PE X e te)(hs:swapsWith e none pos.line X.env=pure false:=by rfl):PS X (.Expr e pos) (H9 te):=by
 intro pins s Z H D I h
 exact wpAny_Expr_any (thn (he pins s Z H _ I h) λv s1 ⟨x,H1,I1,r1,q1⟩=>⟨Z,H1,I1,q1⟩) I.quiet hs
def J7(te:TE):TS:=λD Z H=>te Z H D.rt
theorem Bp(he:PE X e te):PS X (.Return (some e) pos) (J7 te):=by
 intro pins s Z H D I h
 exact wpAny_Return_some (thn (he pins s Z H _ I h) λv s1 ⟨x,H1,I1,r1,q1⟩=>⟨x,Z,H1,I1,r1,q1⟩)
def Kf(c:TT)(t u:TS):TS:=λD Z H=>c Z H λb H1=>if b=true then t D Z H1 else u D Z H1
theorem IV{a b:List Stmt}{tc:TT}(hc:PT X c tc)(ha:PSs X a t)(hb:PSs X b u):PS X (.If c a b pos) (Kf tc t u):=by
 intro pins s Z H D I h
 refine wpAny_If (thn (hc pins s Z H _ I h) λd s1 ⟨H1,I1,q1⟩=>?_)
 cases d with
 | true=>exact ha pins s1 Z H1 D I1 q1
 | false=>exact hb pins s1 Z H1 D I1 q1
end
abbrev TG:=V->St->Hp->(St->Hp->Prop)->Prop
abbrev TGs:=List V->St->Hp->(St->Hp->Prop)->Prop
def PG(X:Cx)(target:Expr)(t:TG):Prop :=
 ∀(pins:zzk) (s:Shared) (Z:St) (H:Hp) (v:V) (u:Value) (Q:St->Hp->Prop),Inv X pins Z H s->RelV v u->t v Z H Q ->
  wpAny (model X.prog X.w) X.A (assign target X.env u) (λ_ s'=>∃σ' H',Inv X pins σ' H' s'/\Q σ' H') X.xe s
def PGs(X:Cx)(ts:List Expr)(t:TGs):Prop :=
 ∀(pins:zzk) (s:Shared) (Z:St) (H:Hp) (vs:List V) (us:List Value) (Q:St->Hp->Prop),Inv X pins Z H s->Vals vs us->t vs Z H Q ->
  wpAny (model X.prog X.w) X.A (assignInOrder ((assignEach ts X.env).map (·.2)) us) (λ_ s'=>∃σ' H',Inv X pins σ' H' s'/\Q σ' H') X.xe s
abbrev HH:=V->V->V->Hp->(Hp->Prop)->Prop
def JW(X:Cx)(t:HH):Prop :=
 ∀(pins:zzk) (s:Shared) (Z:St) (H:Hp) (o i v:V) (ov iv u:Value) (Q:Hp->Prop),Inv X pins Z H s->RelV o ov->RelV i iv->RelV v u->t o i v H Q ->
  wpAny (model X.prog X.w) X.A (setItem ov iv u) (λ_ s'=>∃H',Inv X pins Z H' s'/\Q H') X.xe s
section
variable {X:Cx}
def vk(i:Nat):TG:=λv Z H Q=>Q (Z.set i (some v)) H
theorem Dz(hN:X.N.Nodup)(hi:X.N[i]? = some x)(hx:Loc X.env.scope x)(hf:X.fn x=true\/X.env.scope.names.lookup x=some .local:=by first|exact .inl rfl|exact .inr rfl|assumption):PG X (.Name x pos) (vk i):=by
 intro pins s Z H v u Q I r h
 exact wpAny_assign_Name (ix I hN hi hx r (λs' I'=>⟨_,H,I',h⟩) hf)
def KY:TGs:=λvs Z H Q=>vs=[]/\Q Z H
def JE(t:TG)(u:TGs):TGs:=λvs Z H Q=>∃v r,vs=v::r/\t v Z H λσ' H'=>u r σ' H' Q
theorem Dy:PGs X [] KY:=by
 intro pins s Z H vs us Q I r h
 obtain⟨e,h⟩:=h
 subst e
 cases r
 exact assignInOrder_nil ⟨Z,H,I,h⟩
theorem Bu{t:TG}{u:TGs}(h1:PG X e t)(h2:PGs X es u)
  (hs:(assignEach (e::es) X.env).map (·.2)=assign e X.env::(assignEach es X.env).map (·.2):=by rfl):PGs X (e::es) (JE t u):=by
 intro pins s Z H vs us Q I r h
 obtain⟨v,vr,e1,h⟩:=h
 subst e1
 cases r with
 | cons r rr =>
  rw[hs]
  refine assignInOrder_cons (thn (h1 pins s Z H _ _ _ I r h) λ_ s1 ⟨σ1,H1,I1,q1⟩=>?_)
  exact h2 pins s1 σ1 H1 _ _ Q I1 rr q1
def KU(K:PySem.W.Frag)(n:Nat)(t:TGs):TG:=λv Z H Q=>∃a xs,v=.ref a/\SqT K H a xs/\xs.length=n/\t xs Z H Q
theorem Gp{k:Nat}{t:TGs}{n:Nat}(hc:X.calm=true)(h:PGs X es t)
  (hn:(assignEach es X.env).length=n:=by rfl) (hst:(assignEach es X.env).findIdx? (·.1)=none:=by rfl):PG X (.Tuple es k pos) (KU X.K n t):=by
 intro pins s Z H v u Q I r hw
 obtain⟨a,xs,e1,hq,hl,hw⟩:=hw
 subst e1
 cases r
 obtain⟨its,rv,ht,hz⟩:=I.tuple hq
 refine assign_Tuple_tuple (I.ok.hd hc) ht (by simp[hn,<-hl,rv.length]) hst λh' hx=>?_
 have I1:Inv X pins Z H { s with heap:=h' }:=I.kept (t':=s.toks) λb o e=>hx b o (bu (be e)) e
 exact h pins _ Z H xs _ Q I1 (by simpa using rv) hw
def KW(to ti:TE)(t:HH):TG:=λv Z H Q=>to Z H λo H1=>ti Z H1 λi H2=>t o i v H2 λH3=>Q Z H3
theorem Gq{o i:Expr}{to ti:TE}{t:HH}(ho:PE X o to)(hi:PE X i ti)(hs:JW X t)
  (ha:∀v,assign (.Subscript o i pos) X.env v=(do
   let ov <-holding [v] (eval o X.env)
   let iv <-holding [v,ov] (eval i X.env)
   standAt pos
   holding [v,ov,iv] (setItem ov iv v)
   release [v,ov,iv] []):=by intro _;rfl):PG X (.Subscript o i pos) (KW to ti t):=by
 intro pins s Z H v u Q I r h
 rw[ha]
 refine zza (ng (thn (ho pins s Z H _ I h) λov s1 ⟨x,H1,I1,r1,q1⟩=>?_))
 refine zza (ng (thn (hi pins s1 Z H1 _ I1 q1) λiv s2 ⟨y,H2,I2,r2,q2⟩=>?_))
 refine zza (Db (zza (ng (thn (hs pins s2 Z H2 x y v ov iv u _ I2 r1 r2 r q2) λ_ s3 ⟨H3,I3,q3⟩=>?_))))
 exact wpAny_release ⟨Z,H3,I3,q3⟩
def FO(te:TE)(g:TG):TS:=λD Z H=>te Z H λx H1=>g x Z H1 D.nx
theorem Bq{te:TE}{g:TG}(he:PE X e te)(hg:PG X tg g)(hs:swapsWithSole [tg] e pos.line X.env=pure false:=by rfl)(hw:swappedStores [tg] e X.env=pure none:=by rfl)
  (h1:(assignEach [tg] X.env).map (·.2)=[assign tg X.env]:=by rfl):PS X (.Assign [tg] e pos) (FO te g):=by
 intro pins s Z H D I h
 refine wpAny_Assign_stores (thn (he pins s Z H _ I h) λv s1 ⟨x,H1,I1,r1,q1⟩=>?_) hs hw
 rw[h1]
 exact thn (hg pins s1 Z H1 x v _ I1 r1 q1) λ_ s2 q=>q
theorem wB{te:TE}{pos':Pos}(hN:X.N.Nodup)(hi:X.N[i]? = some x)(hx:Loc X.env.scope x)(he:PE X e te)(hs:swapsWith e (some (.Name x pos')) pos.line X.env=pure false:=by rfl)(hf:X.fn x=true\/X.env.scope.names.lookup x=some .local:=by first|exact .inl rfl|exact .inr rfl|assumption) :
  PS X (.Assign [.Name x pos'] e pos) (FO te (vk i)):=by
 intro pins s Z H D I h
 refine wpAny_Assign_Name (thn (he pins s Z H _ I h) λv s1 ⟨y,H1,I1,r1,q1⟩=>?_) hs
 exact ix I1 hN hi hx r1 (λs2 I2=>⟨_,H1,I2,q1⟩) hf
def J8(i j:Nat)(ta:TA):TS:=λD Z H=>ta Z H λvs H1=>∃v w,vs=[v,w]/\D.nx ((Z.set i (some v)).set j (some w)) H1
theorem Gk{y:Str}{a b:Expr}{ta:TA}{px py pt:Pos}{kt k2 pt2}(hc:X.calm=true)(hN:X.N.Nodup)(hi:X.N[i]? = some x)(hj:X.N[j]? = some y)(hij:i≠j)
  (hx:X.env.scope.names.lookup x=some .local) (hy:X.env.scope.names.lookup y=some .local) (ha:PA X [a,b] ta)
  (hw:swappedStores [.Tuple [.Name x px,.Name y py] kt pt] (.Tuple [a,b] k2 pt2) X.env=pure (some [x,y]))
  (hs:swapsWithSole [.Tuple [.Name x px,.Name y py] kt pt] (.Tuple [a,b] k2 pt2) pos.line X.env=pure false:=by rfl) :
  PS X (.Assign [.Tuple [.Name x px,.Name y py] kt pt] (.Tuple [a,b] k2 pt2) pos) (J8 i j ta):=by
 intro pins s Z H D I h
 rw[exec_Assign_arm]
 refine zza (Db ?_)
 rw[hs]
 refine zza (zzb ?_)
 rw[ac (by decide)]
 refine zza (Tuple_ (thn (ha _ pins s Z H _ I h) λus s1 ⟨vs,H1,I1,r1,q1⟩=>?_))
 obtain⟨v,w,e1,q1⟩:=q1
 subst e1
 obtain⟨u1,u2,rfl,rv,rw'⟩:∃u1 u2,us=[u1,u2]/\RelV v u1/\RelV w u2:=by
  cases r1 with
  | cons p q =>
   cases q with
   | cons p' q' =>
    cases q'
    exact⟨_,_,rfl,p,p'⟩
 refine mo ?_ (by show 2<=sizeLine;decide)
 have I2:Inv X pins Z H1 { s1 with heap:=s1.heap.push { cls:=.type "tuple",data:=.seq [u1,u2].toArray } }:=I1.kept (t':=s1.toks) λb o e=>zzc _ e
 rw[hw]
 refine zza (zzb ?_)
 show wpAny (model X.prog X.w) X.A (do rule "assign.swapped-stores";let items <-unpackItems (.ref s1.heap.objs.size) 2 none;assignInOrder [λv=>bindName X.env y v,λv=>bindName X.env x v] items.reverse;pure Flow.next) _ _ _
 refine zza (L9 (zza (unpackItems_tuple (items:=#[u1,u2]) (I.ok.hd hc) (IsTup.new s1.heap _) λh' hx'=>?_)))
 have I3:=I2.kept (h':=h') (t':=s1.toks) λb o e=>hx' b o (bu (be e)) e
 show wpAny _ _ (assignInOrder [λv=>bindName X.env y v,λv=>bindName X.env x v] [u2,u1] >>= λ_=>pure Flow.next) _ _ _
 refine zza (assignInOrder_cons (wpAny_bindName (ix I3 hN hj (.inl hy) rw' (λs2 I4=>?_) (.inr hy))))
 refine assignInOrder_cons (wpAny_bindName (ix I4 hN hi (.inl hx) rv (λs3 I5=>assignInOrder_nil (zzb ?_)) (.inr hx)))
 rw[List.set_comm _ _ (Ne.symm hij)]at I5
 exact⟨_,H1,I5,q1⟩
end
structure It where
 go:Nat->Hp->Prop
 yld:Nat->Hp->V->Hp->Prop
 stop:Nat->Hp->Prop
def qh(X:Cx)(pins:zzk)(H:Hp)(b:Addr):Prop :=
 H b=none/\b≠X.env.locals/\b∉X.fs/\(b∈X.ex\/X.s₀.heap.objs.size<=b)/\(∀x c,X.env.cells.lookup x=some c->c≠b)/\∀p∈X.pn++pins,p.1≠b
theorem Inv.fpOk{X:Cx}{Z:St}{H H':Hp}{s:Shared}(I:Inv X pins Z H s)(hb:s.heap.objs.size<=b)(hn:H' b=none):qh X pins H' b:=by
 refine⟨hn,HI (bo I.lt hb),I.nofs hb,.inr (bj I.sz hb),λx c e z=>?_,λp hp z=>?_⟩
 ·obtain⟨v,q⟩:=I.cell x c e
  exact absurd (bo q.lt (by rw[z];exact hb)) (ny _)
 ·exact absurd (bo (be (I.pin p hp).1) (by rw[z];exact hb)) (ny _)
structure Turn(P:Program)(w:World)(K:PySem.W.Frag)(tg:Expr)(J:It)(fp:List Addr)(it:Addr)(tn:Nat->Heap->Prop):Prop where
 mem:it∈fp
 obj:∀i h,tn i h->∀b∈fp,∃o,h.get? b=some o/\∀v,o.data≠.cell v
 keep:∀i h h',tn i h->(∀b∈fp,∀o,h.get? b=some o->h'.get? b=some o)->tn i h'
 item:∀(X:Cx),X.prog=P->X.w=w->X.K=K->X.calm=true->∀(i:Nat) (pins:zzk) (s:Shared) (Z:St) (H:Hp) (E:zzj),Inv X pins Z H s->(∀b∈fp,qh X pins H b)->tn i s.heap->J.go i H ->
  wpAny (model P w) X.A (pyNext (.ref it)) (λr s1=>∃u,r=some u /\
   wpAny (model P w) X.A (letOwnedTupleGo tg (.ref it) u) (λ_ s2=>∃x H',Inv X pins Z H' s2/\RelV x u/\J.yld i H x H'/\tn (i+1) s2.heap/\∀b∈fp,H' b=none) E s1) E s
 done:∀(X:Cx),X.prog=P->X.w=w->X.K=K->X.calm=true->∀(i:Nat) (pins:zzk) (s:Shared) (Z:St) (H:Hp) (E:zzj),Inv X pins Z H s->(∀b∈fp,qh X pins H b)->tn i s.heap->J.stop i H ->
  wpAny (model P w) X.A (pyNext (.ref it)) (λr s1=>r=none/\Inv X pins Z H s1) E s
 self:∀(A:Around) (i:Nat) (s:Shared) (Q:zzj) (E:zzj),tn i s.heap->Q (.ref it) s->wpAny (model P w) A (pyIter (.ref it)) Q E s
abbrev TI:=St->Hp->(It->Hp->Prop)->Prop
def PIE(X:Cx)(pins:zzk)(Z:St)(tg:Expr)(R:It->Hp->Prop)(itv:Value)(s2:Shared):Prop :=
 ∃(it:Addr) (fp:List Addr) (tn:Nat->Heap->Prop) (J:It) (H':Hp),itv=.ref it/\Inv X pins Z H' s2/\Turn X.prog X.w X.K tg J fp it tn/\tn 0 s2.heap/\(∀b∈fp,qh X pins H' b)/\R J H'
def PI(X:Cx)(tg iter:Expr)(wi:TI):Prop :=
 ∀(pins:zzk) (s:Shared) (Z:St) (H:Hp) (R:It->Hp->Prop),Inv X pins Z H s->wi Z H R ->
  wpAny (model X.prog X.w) X.A (eval iter X.env) (λv s1=>wpAny (model X.prog X.w) X.A (pyIter v) (PIE X pins Z tg R) X.xe s1) X.xe s
theorem yV{M:Model}{s:Shared}{it:Addr}{n:String}{vs:Array Value}(ho:s.heap.get? it=some o)(hc:o.cls=.type n)(hd:o.data=.fields vs)
  (hn:["enumerate", "zip", "dict_itemiterator", "dict_reverseitemiterator", "odict_iterator", "itertools.zip_longest", "itertools.pairwise"].contains n=false) (hQ:Q () s):wpAny M A (letOwnedTupleGo tg (.ref it) u) Q E s:=by
 unfold letOwnedTupleGo
 cases tg<;>first
  | exact zzb hQ
  | (cases u<;>first
     | exact zzb hQ
     | (refine zza (wpAny_load ho ?_)
        rw[hc,hd]
        show wpAny M A (if(["enumerate", "zip", "dict_itemiterator", "dict_reverseitemiterator", "odict_iterator", "itertools.zip_longest", "itertools.pairwise"].contains n&&vs[0]? == some (rawInt _))=true then _ else _) Q E s
        rw[ac (by intro h;rw[hn,yi]at h;cases h)]
        exact zzb hQ))
def Itl(K:PySem.W.Frag)(a:Addr):It :=
 ⟨λi H=>∃xs x,SqL K H a xs/\xs[i]? = some x,λi H x H'=>H'=H/\∀xs,SqL K H a xs->xs[i]? = some x,λi H=>∃xs,SqL K H a xs/\xs.length<=i⟩
def Itt(K:PySem.W.Frag)(a:Addr):It :=
 ⟨λi H=>∃xs x,SqT K H a xs/\xs[i]? = some x,λi H x H'=>H'=H/\∀xs,SqT K H a xs->xs[i]? = some x,λi H=>∃xs,SqT K H a xs/\xs.length<=i⟩
def Itr(lo:Int)(n:Nat):It:=⟨λi _=>i<n,λi H x H'=>H'=H/\x=.int (lo+i),λi _=>n<=i⟩
theorem zA{K:PySem.W.Frag}(a it:Addr):Turn P w K tg (Itl K a) [it] it (λi h=>h.IsListIter it a i) where
 mem:=by simp
 obj:=λi h st b hb=>by
  have e:b=it:=by simpa using hb
  subst e
  obtain⟨o,e,c,d⟩:=st
  exact⟨o,e,λv z=>by rw[d]at z;cases z⟩
 keep:=λi h h' st k=>st.at λo e=>k it (by simp) o e
 item:=by
  intro X hP hw hK hc i pins s Z H E I hf st hg
  subst hP hw hK
  obtain⟨xs,x,hq,hx⟩:=hg
  obtain⟨its,rv,p,hz⟩:=I.list hq
  obtain⟨u,hu,ru⟩:=rv.get hx
  obtain⟨f0,f1,f2,f3,f4,f5⟩:=hf it (by simp)
  refine wpAny_pyNext_list_item st p.isList (x:=u) (by simpa using hu) λh' st' sb=>?_
  have I1:Inv X pins Z H { s with heap:=h' }:=I.turned (t':=s.toks) (λb o hb e=>(sb.2 b hb).trans e) f0 f1 f3 f4 f5
  obtain⟨o,e,c,d⟩:=id st'
  exact⟨u,rfl,yV (s:={ s with heap:=h' }) e c d (by decide) ⟨x,H,I1,ru,⟨rfl,λys hy=>by rw[I.list_inj hy hq];exact hx⟩,st',λb hb=>(hf b hb).1⟩⟩
 done:=by
  intro X hP hw hK hc i pins s Z H E I hf st hg
  subst hP hw hK
  obtain⟨xs,hq,hx⟩:=hg
  obtain⟨its,rv,p,hz⟩:=I.list hq
  obtain⟨f0,f1,f2,f3,f4,f5⟩:=hf it (by simp)
  have hl:=rv.length
  exact wpAny_pyNext_list_end (I.ok.hd hc) st p.isList (by simp;lia) λh' eb=>⟨rfl,I.turned (t':=s.toks) (λb o hb e=>eb b o hb e) f0 f1 f3 f4 f5⟩
 self:=λ_ _ _ _ _ st h=>wpAny_pyIter_listiter st h
theorem v5{K:PySem.W.Frag}(a it:Addr):Turn P w K tg (Itt K a) [it] it (λi h=>h.IsTupleIter it a i) where
 mem:=by simp
 obj:=λi h st b hb=>by
  have e:b=it:=by simpa using hb
  subst e
  obtain⟨o,e,c,d⟩:=st
  exact⟨o,e,λv z=>by rw[d]at z;cases z⟩
 keep:=λi h h' st k=>st.at λo e=>k it (by simp) o e
 item:=by
  intro X hP hw hK hc i pins s Z H E I hf st hg
  subst hP hw hK
  obtain⟨xs,x,hq,hx⟩:=hg
  obtain⟨its,rv,p,hz⟩:=I.tuple hq
  obtain⟨u,hu,ru⟩:=rv.get hx
  obtain⟨f0,f1,f2,f3,f4,f5⟩:=hf it (by simp)
  refine wpAny_pyNext_tuple_item st (show s.heap.IsTuple a its.toArray from p) (x:=u) (by simpa using hu) λh' st' sb=>?_
  have I1:Inv X pins Z H { s with heap:=h' }:=I.turned (t':=s.toks) (λb o hb e=>(sb.2 b hb).trans e) f0 f1 f3 f4 f5
  obtain⟨o,e,c,d⟩:=id st'
  exact⟨u,rfl,yV (s:={ s with heap:=h' }) e c d (by decide) ⟨x,H,I1,ru,⟨rfl,λys hy=>by rw[I.tuple_inj hy hq];exact hx⟩,st',λb hb=>(hf b hb).1⟩⟩
 done:=by
  intro X hP hw hK hc i pins s Z H E I hf st hg
  subst hP hw hK
  obtain⟨xs,hq,hx⟩:=hg
  obtain⟨its,rv,p,hz⟩:=I.tuple hq
  obtain⟨f0,f1,f2,f3,f4,f5⟩:=hf it (by simp)
  have hl:=rv.length
  exact wpAny_pyNext_tuple_end (I.ok.hd hc) st (show s.heap.IsTuple a its.toArray from p) (by simp;lia) λh' eb=>⟨rfl,I.turned (t':=s.toks) (λb o hb e=>eb b o hb e) f0 f1 f3 f4 f5⟩
 self:=λ_ _ _ _ _ st h=>wpAny_pyIter_tupleiter st h
theorem v6{K:PySem.W.Frag}(it:Addr)(lo:Int)(n:Nat):Turn P w K tg (Itr lo n) [it] it (λi h=>IsRangeIter h it (lo+(i:Nat)*1) ((n:Int) - (i:Nat)) 1) where
 mem:=by simp
 obj:=λi h st b hb=>by
  have e:b=it:=by simpa using hb
  subst e
  exact⟨_,st,λv z=>by
   have z':Data.fields _=Data.cell v:=z
   cases z'⟩
 keep:=λi h h' st k=>k it (by simp) _ st
 item:=by
  intro X hP hw hK hc i pins s Z H E I hf st hg
  subst hP hw hK
  obtain⟨f0,f1,f2,f3,f4,f5⟩:=hf it (by simp)
  have W:=Walks.range (prog:=X.prog) (w:=X.w) (I.ok.hd hc) it lo 1 n
  refine W.item i s _ _ hg st λv h' tk hv st' kk=>?_
  obtain⟨t,rfl⟩:=hv
  have I1:Inv X pins Z H { s with heap:=h',toks:=tk }:=I.turned (λb o hb e=>kk b o (by simpa using hb) e) f0 f1 f3 f4 f5
  refine⟨_,rfl,yV (s:={ s with heap:=h',toks:=tk }) (n := "range_iterator") st' rfl rfl (by decide) ⟨.int (lo+i),H,I1,⟨t,?_⟩,⟨rfl,rfl⟩,st',λb hb=>(hf b hb).1⟩⟩
  rw[Int.mul_one]
 done:=by
  intro X hP hw hK hc i pins s Z H E I hf st hg
  subst hP hw hK
  obtain⟨f0,f1,f2,f3,f4,f5⟩:=hf it (by simp)
  exact wpAny_pyNext_range_end (I.ok.hd hc) st (by have:n<=i:=hg;lia) λh' eb=>⟨rfl,I.turned (t':=s.toks) (λb o hb e=>eb b o hb e) f0 f1 f3 f4 f5⟩
 self:=λ_ _ _ _ _ st h=>wpAny_pyIter_rangeiter st h
section
variable {X:Cx}
theorem uE{Z:St}{H:Hp}{s:Shared}{R:It->Hp->Prop}{lo hi:Int}{t u v:Tok}{tk:Nat}(I:Inv X pins Z H s)(h1 : -(2^62)<=lo)(h2:lo<2^62)(h3 : -(2^62)<=hi)(h4:hi<2^62)
  (q:R (Itr lo (hi - lo).toNat) H):wpAny (model X.prog X.w) X.A (pyIter (.ref s.heap.objs.size)) (PIE X pins Z tg R) E { s with heap:=s.heap.push { cls:=.type "range",data:=.fields #[.int lo t,.int hi u,.int 1 v] },toks:=tk }:=by
 refine wpAny_pyIter_range (IsRange.new ..) (small_one h1 h2 h3 h4) ?_
 have I1:Inv X pins Z H { s with heap:=s.heap.push { cls:=.type "range",data:=.fields #[.int lo t,.int hi u,.int 1 v] },toks:=tk }:=I.kept λb o e=>zzc _ e
 refine⟨(s.heap.push { cls:=.type "range",data:=.fields #[.int lo t,.int hi u,.int 1 v] }).objs.size,[(s.heap.push { cls:=.type "range",data:=.fields #[.int lo t,.int hi u,.int 1 v] }).objs.size],_,_,H,rfl,
  I1.kept (t':=tk) λb o e=>zzc _ e,v6 _ lo (hi - lo).toNat,?_,λb hb=>?_,q⟩
 ·have e1:lo+((0:Nat):Int)*1=lo:=by simp
  have e2:(((hi - lo).toNat:Nat):Int) - ((0:Nat):Int)=Builtin.Range.rangeSize lo hi 1:=by rw[rangeSize_one];split<;>lia
  show IsRangeIter _ _ (lo+((0:Nat):Int)*1) ((((hi - lo).toNat:Nat):Int) - ((0:Nat):Int)) 1
  rw[e1,e2]
  exact zze _ rfl
 ·have e:b=(s.heap.push { cls:=.type "range",data:=.fields #[.int lo t,.int hi u,.int 1 v] }).objs.size:=by simpa using hb
  subst e
  exact I1.fpOk (ay _) (I1.hok.fresh (ay _))
def JB(ta:TA):TI:=λZ H R=>ta Z H λvs H1=>∃j:Int,vs=[.int j] /\ -(2^62)<=j/\j<2^62/\R (Itr 0 j.toNat) H1
def JA(ta:TA):TI:=λZ H R=>ta Z H λvs H1=>∃i j:Int,vs=[.int i,.int j]/\(-(2^62)<=i/\i<2^62 /\ -(2^62)<=j/\j<2^62)/\R (Itr i (j - i).toNat) H1
theorem qT{a:Expr}{ta:TA}(hg:Gl X "range")(hm:X.mg "range" = none)(ha:PA X [a] ta)(hs:starEach [a] X.env=[(false,eval a X.env)]:=by rfl):PI X tg (.Call (.Name "range" p) [a] [] pos) (JB ta):=by
 intro pins s Z H R I h
 refine Call_ (oU I hg hm boot_range (LG (thn (ha pos pins s Z H _ I h) λus s1 ⟨vs,H1,I1,r1,q1⟩=>?_) hs rfl))
 obtain⟨j,e,q1,q2,q⟩:=q1
 subst e
 cases r1 with
 | cons r rr =>
  cases rr
  obtain⟨t,rfl⟩:=r
  exact call_range_1 (uE I1 (by lia) (by lia) q1 q2 (by simpa using q))
theorem zR{a b:Expr}{ta:TA}(hg:Gl X "range")(hm:X.mg "range" = none)(ha:PA X [a,b] ta)(hs:starEach [a,b] X.env=[(false,eval a X.env),(false,eval b X.env)]:=by rfl)(hs2:starEach [b] X.env=[(false,eval b X.env)]:=by rfl) :
  PI X tg (.Call (.Name "range" p) [a,b] [] pos) (JA ta):=by
 intro pins s Z H R I h
 refine Call_ (oU I hg hm boot_range (LG (thn (ha pos pins s Z H _ I h) λus s1 ⟨vs,H1,I1,r1,q1⟩=>?_) (by rw[hs,hs2]) (by rw[hs2];rfl)))
 obtain⟨i,j,e,⟨q1,q2,q3,q4⟩,q⟩:=q1
 subst e
 cases r1 with
 | cons r rr =>
  cases rr with
  | cons r' rr =>
   cases rr
   obtain⟨t,rfl⟩:=r
   obtain⟨t',rfl⟩:=r'
   exact call_range_2 (uE I1 q1 q2 q3 q4 q)
def Kg(wi:TI)(g:TG)(tb:TS):TS:=λD Z H=>wi Z H λJ H1=>∃W:Nat->Nat->St->Hp->Prop,(∃m,W 0 m Z H1)/\∀i m Z H,W i m Z H ->
 (J.stop i H/\D.nx Z H)\/(J.go i H/\∃N:St->Hp->Prop,(∀σ' H',N σ' H'->∃m',m'<m/\W (i+1) m' σ' H')/\∀x H',J.yld i H x H'->g x Z H' λσ2 H2=>tb { D with nx:=N,ct:=N,bk:=D.nx } σ2 H2)
def n6(fp:List Addr)(h:Heap):List (Addr×Obj):=fp.filterMap λb=>(h.get? b).map λo=>(b,o)
theorem g7(hb:b∈fp)(e:h.get? b=some o):(b,o)∈n6 fp h:=List.mem_filterMap.mpr ⟨b,hb,by rw[e];rfl⟩
theorem zV{p:Addr×Obj}(hp:p∈n6 fp h):p.1∈fp/\h.get? p.1=some p.2:=by
 obtain⟨b,hb,e⟩:=List.mem_filterMap.mp hp
 cases q:h.get? b with
 | none=>rw[q]at e;cases e
 | some o =>
  rw[q]at e
  have e':(b,o)=p:=Option.some.inj e
  subst e'
  exact⟨hb,q⟩
theorem Inv.pinned{Z:St}{H:Hp}{s:Shared}(I:Inv X pins Z H s)(hf:∀b∈fp,qh X pins H b)(ho:∀b∈fp,∃o,s.heap.get? b=some o/\∀v,o.data≠.cell v):Inv X (pins++n6 fp s.heap) Z H s :=
 I.pins_of λp hp=>(List.mem_append.mp hp).elim (λz=>I.pin p (gn _ z)) λz=>by
  obtain⟨hb,e⟩:=zV z
  obtain⟨f0,f1,f2,_⟩:=hf p.1 hb
  obtain⟨o,e',d⟩:=ho p.1 hb
  rw[e]at e';cases e'
  exact⟨e,f0,f1,f2,d⟩
theorem Inv.unpinned{pl:zzk}{Z:St}{H:Hp}{s:Shared}(I:Inv X (pins++pl) Z H s):Inv X pins Z H s:=I.pins_of λp hp=>I.pin p (gn _ (Ly _ hp))
theorem Gm{iter:Expr}{body:List Stmt}{wi:TI}{g:TG}{tb:TS}(hp:PassesOwn (model X.prog X.w) X.A X.env X.xe)(hc:X.calm=true)(hi:PI X tg iter wi)(hg:PG X tg g)(hb:PSs X body tb)
  (hs:∀x,foldedSetIterable iter X.env x=pure x:=by intro _;rfl):PS X (.For tg iter body [] pos) (Kg wi g tb):=by
 intro pins s Z H D I h
 refine wpAny_For (thn (hi pins s Z H _ I h) λv s1 h1=>thn h1 λitv s2 h2=>?_) hs
 obtain⟨it,fp,tn,J,H2,e,I2,T,st2,f2,W,⟨m0,w0⟩,turn⟩:=h2
 subst e
 have stat:∀{H':Hp},(∀b∈fp,H' b=none)->∀b∈fp,qh X pins H' b:=λhn b hb=>⟨hn b hb,(f2 b hb).2⟩
 refine codeAny_forLoop_any (λn s'=>∃i σ' H',Inv X pins σ' H' s'/\tn i s'.heap/\(∀b∈fp,H' b=none)/\W i n σ' H') ?_ m0 ⟨0,Z,H2,I2,st2,λb hb=>(f2 b hb).1,w0⟩
 rintro n s3 ⟨i,σ3,H3,I3,st3,fr3,w3⟩
 rcases turn i n σ3 H3 w3 with ⟨stop,qn⟩|⟨go,N,hN,step⟩
 ·refine Lz hp (thn (T.done X rfl rfl rfl hc i pins s3 σ3 H3 X.xe I3 (stat fr3) st3 stop) λr s4 ⟨hr,I4⟩=>?_)
  subst hr
  exact Me ⟨σ3,H3,I4,qn⟩
 ·refine Lz hp (thn (T.item X rfl rfl rfl hc i pins s3 σ3 H3 X.xe I3 (stat fr3) st3 go) λr s4 ⟨u,hr,h4⟩=>?_)
  subst hr
  refine Lz hp (thn h4 λ_ s5 ⟨x,H5,I5,r5,y5,st5,fr5⟩=>?_)
  have I5':=I5.pinned (stat fr5) (T.obj _ _ st5)
  refine Lz hp (thn (hg _ s5 σ3 H5 x u _ I5' r5 (step x H5 y5)) λ_ s6 ⟨σ6,H6,I6,q6⟩=>?_)
  refine Lz hp (thn (hb _ s6 σ6 H6 _ I6 q6) λf s7 q7=>?_)
  have again:∀{σ7:St} {H7:Hp},Inv X (pins++n6 fp s5.heap) σ7 H7 s7->N σ7 H7->∃m,m<n/\∃i σ' H',Inv X pins σ' H' s7/\tn i s7.heap/\(∀b∈fp,H' b=none)/\W i m σ' H':=λ{σ7 H7} I7 n7=>by
   obtain⟨m',hm,w7⟩:=hN σ7 H7 n7
   refine⟨m',hm,i+1,σ7,H7,I7.unpinned,T.keep _ _ _ st5 λb hb o e=>(I7.pin (b,o) (gn _ (gn _ (g7 hb e)))).1,λb hb=>?_,w7⟩
   obtain⟨o,e,d⟩:=T.obj _ _ st5 b hb
   exact(I7.pin (b,o) (gn _ (gn _ (g7 hb e)))).2.1
  cases f with
  | next=>obtain⟨σ7,H7,I7,n7⟩:=q7;exact again I7 n7
  | cont=>obtain⟨σ7,H7,I7,n7⟩:=q7;exact again I7 n7
  | brk=>obtain⟨σ7,H7,I7,q7⟩:=q7;exact⟨σ7,H7,I7.unpinned,q7⟩
  | ret v=>obtain⟨x7,σ7,H7,I7,r7,q7⟩:=q7;exact⟨x7,σ7,H7,I7.unpinned,r7,q7⟩
end
abbrev R2:=V->V->Hp->VK->Prop
def OpR(X:Cx)(f:Value->Value->Sem Value)(r:R2):Prop :=
 ∀(pins:zzk) (s:Shared) (Z:St) (H:Hp) (x y:V) (v u:Value) (Q:VK),Inv X pins Z H s->RelV x v->RelV y u->r x y H Q ->
  wpAny (model X.prog X.w) X.A (f v u) (EP X pins Z Q) X.xe s
def UnR(X:Cx)(f:Value->Sem Value)(r:V->Hp->VK->Prop):Prop :=
 ∀(pins:zzk) (s:Shared) (Z:St) (H:Hp) (x:V) (v:Value) (Q:VK),Inv X pins Z H s->RelV x v->r x H Q ->
  wpAny (model X.prog X.w) X.A (f v) (EP X pins Z Q) X.xe s
def CallR(X:Cx)(f:Value)(r:List V->Hp->VK->Prop):Prop :=
 ∀(pins:zzk) (s:Shared) (Z:St) (H:Hp) (xs:List V) (us:List Value) (Q:VK),Inv X pins Z H s->Vals xs us->r xs H Q ->
  wpAny (model X.prog X.w) X.A (call f us) (EP X pins Z Q) X.xe s
def Lf(X:Cx)(r:V->Hp->(Bool->Hp->Prop)->Prop):Prop :=
 ∀(pins:zzk) (s:Shared) (Z:St) (H:Hp) (x:V) (v:Value) (Q:Bool->Hp->Prop),Inv X pins Z H s->RelV x v->r x H Q ->
  wpAny (model X.prog X.w) X.A (truthy v) (TP X pins Z Q) X.xe s
def tOp(r:R2)(ta tb:TE):TE:=λZ H Q=>ta Z H λx H1=>tb Z H1 λy H2=>r x y H2 Q
def tUn(r:V->Hp->VK->Prop)(ta:TE):TE:=λZ H Q=>ta Z H λx H1=>r x H1 Q
def rI(C:Int->Int->Prop)(g:Int->Int->V):R2:=λx y H Q=>∃i j,x=.int i/\y=.int j/\C i j/\Q (g i j) H
def rI0(g:Int->Int->V):R2:=λx y H Q=>∃i j,x=.int i/\y=.int j/\Q (g i j) H
def rU(g:Int->V):V->Hp->VK->Prop:=λx H Q=>∃i,x=.int i/\Q (g i) H
section
variable {X:Cx} {a b:Expr} {ta tb tc:TE}
theorem Hv(ha:PE X a ta)(hb:PE X b tb){s:Shared}{Z:St}{H:Hp}{R:V->V->Hp->Prop}(I:Inv X pins Z H s)
  (h:ta Z H λx H1=>tb Z H1 λy H2=>R x y H2) {Q:zzj} {f:Value->Value->Sem Value}
  (hf:∀v u s2 x y H2,Inv X pins Z H2 s2->RelV x v->RelV y u->R x y H2->wpAny (model X.prog X.w) X.A (f v u) Q X.xe s2) :
  wpAny (model X.prog X.w) X.A (eval a X.env) (λv s₁=>wpAny (model X.prog X.w) X.A (eval b X.env) (λu s₂=>wpAny (model X.prog X.w) X.A (f v u) Q X.xe s₂) X.xe s₁) X.xe s:=by
 refine thn (ha pins s Z H _ I h) λv s1 ⟨x,H1,I1,r1,q1⟩=>?_
 refine thn (hb pins s1 Z H1 _ I1 q1) λu s2 ⟨y,H2,I2,r2,q2⟩=>?_
 exact hf v u s2 x y H2 I2 r1 r2 q2
theorem Fc{op:Operator}{r:R2}(ho:OpR X (binaryOp op) r)(ha:PE X a ta)(hb:PE X b tb):PE X (.BinOp a op b pos) (tOp r ta tb):=by
 intro pins s Z H Q I h
 exact wpAny_BinOp (Hv ha hb I h λv u s2 x y H2 I2 rx ry q=>ho pins s2 Z H2 x y v u Q I2 rx ry q)
theorem IW{op:UnaryOp}{r:V->Hp->VK->Prop}(ho:UnR X (unaryOp op) r)(ha:PE X a ta):PE X (.UnaryOp op a pos) (tUn r ta):=by
 intro pins s Z H Q I h
 exact UnaryOp_ (thn (ha pins s Z H _ I h) λv s1 ⟨x,H1,I1,r1,q1⟩=>ho pins s1 Z H1 x v Q I1 r1 q1)
theorem opI{C:Int->Int->Prop}{g:Int->Int->Int}
  (rule:∀(i j:Int) (t u:Tok) (s:Shared) (Q:zzj) (E:zzj),C i j->Q (.int (g i j) s.toks) { s with toks:=s.toks+1 }->wpAny (model X.prog X.w) X.A (f (.int i t) (.int j u)) Q E s) :
  OpR X f (rI C λi j=>.int (g i j)):=by
 intro pins s Z H x y v u Q I rx ry h
 obtain⟨i,j,rfl,rfl,hc,q⟩:=h
 obtain⟨t,rfl⟩:=rx
 obtain⟨t',rfl⟩:=ry
 exact rule i j t t' s _ _ hc ⟨.int (g i j),H,I.tok _,⟨_,rfl⟩,q⟩
theorem Ji{g:Int->Int->Int}
  (rule:∀(i j:Int) (t u:Tok) (s:Shared) (Q:zzj) (E:zzj),Q (.int (g i j) s.toks) { s with toks:=s.toks+1 }->wpAny (model X.prog X.w) X.A (f (.int i t) (.int j u)) Q E s) :
  OpR X f (rI0 λi j=>.int (g i j)):=by
 intro pins s Z H x y v u Q I rx ry h
 obtain⟨i,j,rfl,rfl,q⟩:=h
 obtain⟨t,rfl⟩:=rx
 obtain⟨t',rfl⟩:=ry
 exact rule i j t t' s _ _ ⟨.int (g i j),H,I.tok _,⟨_,rfl⟩,q⟩
theorem DL{g:Int->Int->Bool}
  (rule:∀(i j:Int) (t u:Tok) (s:Shared) (Q:zzj) (E:zzj),Q (.bool (g i j)) s->wpAny (model X.prog X.w) X.A (f (.int i t) (.int j u)) Q E s) :
  OpR X f (rI0 λi j=>.bl (g i j)):=by
 intro pins s Z H x y v u Q I rx ry h
 obtain⟨i,j,rfl,rfl,q⟩:=h
 obtain⟨t,rfl⟩:=rx
 obtain⟨t',rfl⟩:=ry
 exact rule i j t t' s _ _ ⟨.bl (g i j),H,I,rfl,q⟩
def J0(i j:Int):Prop:=0<j/\j<1073741824
def JZ(i j:Int):Prop:=0<=j/\j<=1000000/\i.natAbs<2^64
def CMul(i j:Int):Prop:=(-(2^64)<i/\i<2^64)\/(-(2^64)<j/\j<2^64)
theorem CMul.ok{i j:Int}(h:CMul i j):IntMulOk i j:=by
 rcases h with ⟨h1,h2⟩|⟨h1,h2⟩
 ·exact .of_left (intBits_le_64 h1 h2)
 ·exact .of_right (intBits_le_64 h1 h2)
theorem op_add:OpR X (binaryOp .Add) (rI0 λi j=>.int (i+j)):=Ji λ_ _ _ _ _ _ _ q=>add_int q
theorem eD:OpR X (binaryOp .Sub) (rI0 λi j=>.int (i - j)):=Ji λ_ _ _ _ _ _ _ q=>sub_int q
theorem op_mul:OpR X (binaryOp .Mult) (rI CMul λi j=>.int (i*j)):=opI λ_ _ _ _ _ _ _ hc q=>mul_int q hc.ok
theorem yB:OpR X (binaryOp .FloorDiv) (rI J0 λi j=>.int (i / j)):=opI λi j _ _ _ _ _ hc q=>by
 have h1:(0:Int)<j:=hc.1
 have h2:j<1073741824:=hc.2
 exact floordiv_int (by lia) (by rw[Int.fdiv_eq_ediv_of_nonneg i (by lia)];exact q) (.inl (PyProof.noPylong_small (by lia)))
theorem iQ:OpR X (binaryOp .Mod) (rI (λ_ j=>0<j) λi j=>.int (i % j)):=opI λi j _ _ _ _ _ hc q=>by
 have h1:(0:Int)<j:=hc
 exact mod_int' (by lia) (by rw[Int.fmod_eq_emod_of_nonneg i (by lia)];exact q)
theorem GC:OpR X (binaryOp .Pow) (rI JZ λi j=>.int (i^j.toNat)):=opI λ_ _ _ _ _ _ _ hc q=>pow_int_small hc.1 hc.2.1 hc.2.2 q
theorem unI{f:Value->Sem Value}{g:Int->Int}
  (rule:∀(i:Int) (t:Tok) (s:Shared) (Q:zzj) (E:zzj),Q (.int (g i) s.toks) { s with toks:=s.toks+1 }->wpAny (model X.prog X.w) X.A (f (.int i t)) Q E s) :
  UnR X f (rU λi=>.int (g i)):=by
 intro pins s Z H x v Q I rx h
 obtain⟨i,rfl,q⟩:=h
 obtain⟨t,rfl⟩:=rx
 exact rule i t s _ _ ⟨.int (g i),H,I.tok _,⟨_,rfl⟩,q⟩
theorem FL:UnR X (unaryOp .USub) (rU λi=>.int (-i)):=unI λ_ _ _ _ _ q=>neg_int q
end
section
variable {X:Cx} {a b:Expr} {ta tb tc:TE}
theorem xx{Z:St}{H:Hp}{s:Shared}{Q:VK}{k k':Bool}(I:Inv X pins Z H s)(q:Q (.bl k) H)(e:k=k'):EP X pins Z Q (.bool k') s:=by
 subst e
 exact⟨.bl k,H,I,rfl,q⟩
theorem Jf:OpR X (compareOp .Lt) (rI0 λi j=>.bl (decide (i<j))):=DL λ_ _ _ _ _ _ _ q=>lt_int q
theorem Jg:OpR X (compareOp .LtE) (rI0 λi j=>.bl (decide (i<=j))):=DL λ_ _ _ _ _ _ _ q=>le_int q
theorem qW:OpR X (compareOp .Gt) (rI0 λi j=>.bl (decide (j<i))):=DL λ_ _ _ _ _ _ _ q=>gt_int q
theorem Fo:OpR X (compareOp .GtE) (rI0 λi j=>.bl (decide (j<=i))):=DL λ_ _ _ _ _ _ _ q=>ge_int q
theorem zT:OpR X (compareOp .In) (λx y H Q=>∃i j,x=.str i/\y=.str j/\Q (.bl (!(Builtin.Str.occurrences j i 0 j.length 1).isEmpty)) H):=by
 intro pins s Z H x y v u Q I rx ry h
 obtain⟨i,j,rfl,rfl,q⟩:=h
 obtain⟨t,rfl⟩:=rx
 obtain⟨t',rfl⟩:=ry
 exact in_str (xx I q rfl)
theorem GF:OpR X (compareOp .Is) (λx y H Q=>y=.non/\Q (.bl (decide (x=.non))) H):=by
 intro pins s Z H x y v u Q I rx ry h
 obtain⟨rfl,q⟩:=h
 cases ry
 refine is_none_gen (xx I q ?_)
 cases x<;>first
  | (cases rx;rfl)
  | (obtain⟨t,rfl⟩:=rx;rfl)
theorem sJ:OpR X (compareOp .NotIn) (λx y H Q=>∃i j,x=.str i/\y=.str j/\Q (.bl (!(!(Builtin.Str.occurrences j i 0 j.length 1).isEmpty))) H):=by
 intro pins s Z H x y v u Q I rx ry h
 obtain⟨i,j,rfl,rfl,q⟩:=h
 obtain⟨t,rfl⟩:=rx
 obtain⟨t',rfl⟩:=ry
 exact notIn_str (xx I q rfl)
theorem OpR.or{r r':R2}(h:OpR X f r)(h':OpR X f r'):OpR X f (λx y H Q=>r x y H Q\/r' x y H Q):=by
 intro pins s Z H x y v u Q I rx ry q
 rcases q with q|q
 ·exact h pins s Z H x y v u Q I rx ry q
 ·exact h' pins s Z H x y v u Q I rx ry q
theorem DB{r:R2}(ho:OpR X (compareOp op) r)(ha:PE X a ta)(hb:PE X b tb)(hm:behindInMarks op b=false):PE X (.Compare a [op] [b] pos) (tOp r ta tb):=by
 intro pins s Z H Q I h
 exact wpAny_Compare1 (Hv ha hb I h λv u s2 x y H2 I2 rx ry q=>ho pins s2 Z H2 x y v u Q I2 rx ry q) hm
def EY(t:TE):TT:=λZ H Q=>t Z H λx H'=>∃k,x=.bl k/\Q k H'
theorem yn{r:R2}(ho:OpR X (compareOp op) r)(ha:PE X a ta)(hb:PE X b tb)(hm:behindInMarks op b=false):PT X (.Compare a [op] [b] pos) (EY (tOp r ta tb)):=by
 intro pins s Z H Q I h
 refine wpAny_isTrue_Compare1 (thn (ha pins s Z H _ I h) λv s1 ⟨x,H1,I1,r1,q1⟩=>thn (hb pins s1 Z H1 _ I1 q1) λu s2 ⟨y,H2,I2,r2,q2⟩ =>
  thn (ho pins s2 Z H2 x y v u _ I2 r1 r2 q2) λc s3 ⟨z,H3,I3,r3,k,e,q3⟩=>?_) hm
 subst e
 cases r3
 exact re ⟨H3,I3,q3⟩
def v9(r r':R2)(ta tb tc:TE):TE:=λZ H Q=>ta Z H λx H1=>tb Z H1 λy H2=>r x y H2 λz H3=>∃k,z=.bl k /\
 (if k=true then tc Z H3 λw' H4=>r' y w' H4 Q else Q (.bl false) H3)
theorem By{op':CmpOp}{r r':R2}(ho:OpR X (compareOp op) r)(ho':OpR X (compareOp op') r')(ha:PE X a ta)(hb:PE X b tb)(hc:PE X c tc)
  (hm:lastMarks [op,op'] [b,c]=false:=by with_unfolding_all rfl):PE X (.Compare a [op,op'] [b,c] pos) (v9 r r' ta tb tc):=by
 intro pins s Z H Q I h
 refine Compare_chain (thn (ha pins s Z H _ I h) λv s1 ⟨x,H1,I1,r1,q1⟩=>chain_link (thn (hb pins s1 Z H1 _ I1 q1) λu s2 ⟨y,H2,I2,r2,q2⟩ =>
  thn (ho pins s2 Z H2 x y v u _ I2 r1 r2 q2) λd s3 ⟨z,H3,I3,r3,k,e,q3⟩=>?_)) hm
 subst e
 cases r3
 refine re ?_
 cases k with
 | false=>exact ite_ff ⟨.bl false,H3,I3,rfl,q3⟩
 | true=>exact ite_tt (chain_last (thn (hc pins s3 Z H3 _ I3 q3) λw' s4 ⟨z',H4,I4,r4,q4⟩=>ho' pins s4 Z H4 y z' u w' Q I4 r2 r4 q4))
theorem Bm{op':CmpOp}{r r':R2}(ho:OpR X (compareOp op) r)(ho':OpR X (compareOp op') r')(ha:PE X a ta)(hb:PE X b tb)(hc:PE X c tc)
  (hm:lastMarks [op,op'] [b,c]=false:=by with_unfolding_all rfl):PT X (.Compare a [op,op'] [b,c] pos) (EY (v9 r r' ta tb tc)):=by
 intro pins s Z H Q I h
 refine isTrue_chain (thn (ha pins s Z H _ I h) λv s1 ⟨x,H1,I1,r1,q1⟩=>test_link (thn (hb pins s1 Z H1 _ I1 q1) λu s2 ⟨y,H2,I2,r2,q2⟩ =>
  thn (ho pins s2 Z H2 x y v u _ I2 r1 r2 q2) λd s3 ⟨z,H3,I3,r3,k,e,q3⟩=>?_)) hm
 subst e
 cases r3
 refine re ?_
 cases k with
 | false =>
  obtain⟨k',e',q'⟩:=q3
  cases e'
  exact ite_ff ⟨H3,I3,q'⟩
 | true =>
  refine ite_tt (test_last (thn (hc pins s3 Z H3 _ I3 q3) λw' s4 ⟨z',H4,I4,r4,q4⟩=>thn (ho' pins s4 Z H4 y z' u w' _ I4 r2 r4 q4) λd' s5 ⟨z2,H5,I5,r5,k2,e2,q5⟩=>?_))
  subst e2
  cases r5
  exact re ⟨H5,I5,q5⟩
def JU(K:PySem.W.Frag)(x:V)(H:Hp)(k:Bool):Prop :=
 match x with
 | .non=>k=false
 | .bl b=>k=b
 | .int i=>k=(i != 0)
 | .str y=>y.length<=sizeLine/\k=((y.length:Int) != 0)
 | .byt y=>y.size<=sizeLine/\k=((y.size:Int) != 0)
 | .ref p=>(∃xs,SqL K H p xs/\k = !xs.isEmpty)\/(∃xs,SqT K H p xs/\k = !xs.isEmpty)\/∃kvs,H p=some (.dK kvs)/\k = !kvs.isEmpty
 | _=>False
theorem xu{κ:Type}{kvs:List (κ×V)}{vs:List (κ×Value)}(r:KV kvs vs):(!vs.isEmpty) = !kvs.isEmpty:=by
 cases r<;>rfl
theorem o9{xs:List V}{its:List Value}(r:Vals xs its):(!its.toArray.isEmpty) = !xs.isEmpty:=by
 cases r<;>simp
theorem jZ:(sizeLine:Nat)<2^63:=by rw[sizeLine_eq];decide
theorem FN:Lf X (λx H Q=>∃k,JU X.K x H k/\Q k H):=by
 intro pins s Z H x v Q I rx h
 obtain⟨k,e,q⟩:=h
 have hl:=jZ
 have hs:sizeLine=16777216:=sizeLine_eq
 cases x with
 | non =>
  cases rx
  have e':k=false:=e
  subst e'
  exact truthy_none ⟨H,I,q⟩
 | bl b =>
  cases rx
  have e':k=b:=e
  subst e'
  exact re ⟨H,I,q⟩
 | int i =>
  obtain⟨t,rfl⟩:=rx
  have e':k=(i != 0):=e
  subst e'
  exact PySem.P.truthy_int ⟨H,I,q⟩
 | str y =>
  obtain⟨t,rfl⟩:=rx
  obtain⟨hy,e'⟩:y.length<=sizeLine/\k=((y.length:Int) != 0):=e
  subst e'
  exact PySem.P.truthy_str (by lia) ⟨H,I.tok _,q⟩
 | byt y =>
  obtain⟨t,rfl⟩:=rx
  obtain⟨hy,e'⟩:y.size<=sizeLine/\k=((y.size:Int) != 0):=e
  subst e'
  exact PySem.W.truthy_bytes (by lia) ⟨H,I.tok _,q⟩
 | ref p =>
  cases rx
  have e':(∃xs,SqL X.K H p xs/\k = !xs.isEmpty)\/(∃xs,SqT X.K H p xs/\k = !xs.isEmpty)\/∃kvs,H p=some (.dK kvs)/\k = !kvs.isEmpty:=e
  rcases e' with ⟨xs,hx,e'⟩|⟨xs,hx,e'⟩|⟨kvs,hx,e'⟩
  ·subst e'
   obtain⟨its,r,pl,hz⟩:=I.list hx
   have hlen:=r.length
   exact wpAny_truthy_list pl.isList (by simp only[ce];lia) ⟨H,I.tok _,by rw[o9 r];exact q⟩
  ·subst e'
   obtain⟨its,r,pl,hz⟩:=I.tuple hx
   have hlen:=r.length
   exact truthy_tuple pl (by simp only[ce];lia) ⟨H,I.tok _,by rw[o9 r];exact q⟩
  ·subst e'
   obtain⟨hz,hS,vs,r,m⟩:kvs.length<=sizeLine/\(p==sysModules)=false/\∃vs,KV kvs vs/\s.heap.DictOf (bY X.prog X.w) p vs:=I.hok p _ hx
   have hlen:kvs.length=vs.length:=Paired.length r
   exact wpAny_truthy_dict hS m (by lia) ⟨H,I.tok _,by rw[xu r];exact q⟩
 | _=>exact(show False from e).elim
theorem nX(ha:PE X a ta)(he:∀whole,isTrue a X.env whole=(do let v <-whole;standAt a.pos;holding [v] (truthy v))) :
  PT X a (λZ H Q=>ta Z H λx H'=>∃k,JU X.K x H' k/\Q k H'):=by
 intro pins s Z H Q I h
 exact isTrue_plain (thn (ha pins s Z H _ I h) λv s1 ⟨x,H1,I1,r1,q1⟩=>FN pins s1 Z H1 x v Q I1 r1 q1) (he _)
theorem wI:OpR X (binaryOp .Add) (λx y H Q=>∃i j,x=.str i/\y=.str j/\i.length+j.length<=sizeLine/\Q (.str (i++j)) H):=by
 intro pins s Z H x y v u Q I rx ry h
 obtain⟨i,j,rfl,rfl,hz,q⟩:=h
 obtain⟨t,rfl⟩:=rx
 obtain⟨t',rfl⟩:=ry
 exact add_str (λt' tk=>⟨.str (i++j),H,I.tok _,⟨_,rfl⟩,q⟩) hz
theorem vals1{x:V}(r:Vals [x] us):∃u,us=[u]/\RelV x u:=by
 cases r with
 | cons r1 r2=>cases r2;exact⟨_,rfl,r1⟩
theorem vals2{x y:V}(r:Vals [x,y] us):∃u w',us=[u,w']/\RelV x u/\RelV y w':=by
 cases r with
 | cons r1 r2 =>
  cases r2 with
  | cons r3 r4=>cases r4;exact⟨_,_,rfl,r1,r3⟩
theorem vE:CallR X (.builtin "abs") (λxs H Q=>∃i,xs=[.int i]/\Q (.int (if i<0 then -i else i)) H):=by
 intro pins s Z H xs us Q I r h
 obtain⟨i,rfl,q⟩:=h
 obtain⟨u,rfl,t,rfl⟩:=vals1 r
 exact call_abs_int λu tk=>⟨.int (if i<0 then -i else i),H,I.tok _,⟨_,rfl⟩,q⟩
theorem Ap(hc:X.calm=true):CallR X (.builtin "min") (λxs H Q=>∃i j,xs=[.int i,.int j]/\Q (.int (if j<i then j else i)) H):=by
 intro pins s Z H xs us Q I r h
 obtain⟨i,j,rfl,q⟩:=h
 obtain⟨u,w',rfl,⟨t,rfl⟩,⟨t',rfl⟩⟩:=vals2 r
 refine min_two_ints (I.ok.hd hc) λh' tk k=>⟨_,H,I.kept k,?_,q⟩
 by_cases hj:j<i
 ·rw[ai hj,ai hj];exact⟨_,rfl⟩
 ·rw[ac hj,ac hj];exact⟨_,rfl⟩
theorem Aq:CallR X (.type "int") (λxs H Q=>(∃i,xs=[.int i]/\Q (.int i) H)\/∃k,xs=[.bl k]/\Q (.int (if k then 1 else 0)) H):=by
 intro pins s Z H xs us Q I r h
 rcases h with ⟨i,rfl,q⟩|⟨k,rfl,q⟩
 ·obtain⟨u,rfl,t,rfl⟩:=vals1 r
  exact call_int_int ⟨.int i,H,I,⟨_,rfl⟩,q⟩
 ·obtain⟨u,rfl,r1⟩:=vals1 r
  cases r1
  exact call_int_bool ⟨.int (if k then 1 else 0),H,I.tok _,⟨_,rfl⟩,q⟩
theorem lB:CallR X (.type "str") (λxs H Q=>∃i,xs=[.int i]/\i.natAbs.log2<1920/\Q (.str (toString i)) H):=by
 intro pins s Z H xs us Q I r h
 obtain⟨i,rfl,hz,q⟩:=h
 obtain⟨u,rfl,t,rfl⟩:=vals1 r
 exact PySem.P.str_of_int hz ⟨.str _,H,I.tok _,⟨_,rfl⟩,q⟩
end
structure ObjM(h:Heap)(x dx C:Addr)(mA:zzl):Prop where
 obj:h.get? x=some (PySem.W.instObj C dx)
 ns:h.Ns1 dx mA
 ne:dx≠x
theorem lY(n:h.Ns1 dx mA):∃od,h.get? dx=some od/\∀name,PySem.W.lookIn name od=some (mA name):=by
 obtain⟨o,es,ep,ho,hd,hk,_,hm⟩:=n
 refine⟨o,ho,λname=>?_⟩
 have e:=hm name
 unfold nsFind findBy at e
 rw[<-Array.find?_toList]at e
 unfold PySem.W.lookIn
 rw[hd]
 dsimp only
 split
 ·rename_i y q
  rw[q]at e
  exact congrArg some e
 ·rename_i q
  rw[q]at e
  have a:es.toList.any (·.refKey)=false:=by
   rw[IG]
   intro y hy
   obtain⟨z,t,hkey⟩:=hk y (Array.mem_toList_iff.mp hy)
   simp[DictEntry.refKey,hkey]
  have a':¬ es.toList.any (·.refKey)=true:=by rw[a];exact wP
  rw[ac a']
  exact congrArg some e
theorem ObjM.look{x:Addr}(I:ObjM h x dx C mA):∃od,PySem.W.InstAt h x (PySem.W.instObj C dx) C (some od)/\∀name,PySem.W.lookIn name od=some (mA name) :=
 let ⟨od,ho,hl⟩:=lY I.ns
 ⟨od,⟨I.obj,rfl,rfl,ho⟩,hl⟩
section
variable {prog:Program} {s:Shared} {K:PySem.W.Frag} {x f:Addr} {name:Str} {v:Value}
theorem Ee{expr:Bool}{Q:zzj}(X:K.In s.heap)(I:ObjM s.heap x dx C mA)(hg:PySem.W.plainGet K C name=true)(hh:PySem.W.hasDictIn K C=true)
  (ha:PySem.W.findIn K (.ref C) name=some none) (hv:mA name=some v) (hv':PySem.W.handedIn v=true) (h:Q v { s with toks:=s.toks+1 }) :
  wpAny (model prog w) A (getAttr (.ref x) name expr) Q E s:=by
 obtain⟨od,J,hl⟩:=I.look
 exact PySem.W.get_value X J (PySem.W.plainGet_of hg).1 (PySem.W.findObj_own hh ha rfl (by rw[hl,hv])) hv' h
theorem B6{pl:Sem Bool}{Q:Value×List Value->Shared->Prop}(X:K.In s.heap)(I:ObjM s.heap x dx C mA)(hg:PySem.W.plainGet K C name=true)
  (hf:PySem.W.findIn K (.ref C) name=some (some (.ref f))) (ht:PySem.W.isFn K (.ref f)=true) (hv:mA name=none) (h:Q (.ref f,[.ref x]) s) :
  wpAny (model prog w) A (getMethod (.ref x) name pl) Q E s:=by
 obtain⟨od,J,hl⟩:=I.look
 exact PySem.W.method_fn X J (PySem.W.plainGet_of hg).1 (PySem.W.plainGet_of hg).2 hf (beq_iff_eq.mp ht) (by show(PySem.W.lookIn name od).map (·.isSome)=some false;rw[hl,hv];rfl) h
theorem Dl{ns:List Str}(X:K.In s.heap)(I:ObjM s.heap x dx C mA)
  (hs:PySem.W.findIn K (.ref C) "__setattr__" = some (some (.builtin "object.__setattr__"))) (hp:PySem.W.plainOver K C=true) (ht:PySem.W.takerIn K C name=some none) (hh:PySem.W.hasDictIn K C=true)
  (hw:PySem.Within mA ns) (hsz:ns.length<=sizeLine)
  (h:∀h',ObjM h' x dx C (λy=>if y=name then some v else mA y)->Heap.SameBut dx s.heap h'->Q () { s with heap:=h',toks:=s.toks+2 }) :
  wpAny (model prog w) A (setAttr (.ref x) name v) Q E s:=by
 obtain⟨od,J,hl⟩:=I.look
 refine PySem.W.set_plain X J hs (PySem.W.osa_open (s:={ s with toks:=s.toks+1 }) (r:=none) X J hp ht λb=>?_)
 obtain⟨cd,hc,hd'⟩:=PySem.W.any_some hh
 have hx:s.heap.get? x=some ⟨.ref C,some dx,.plain,#[]⟩:=I.obj
 refine zza (zzb (zza (zza (wpAny_loadPart hx (zza (PySem.W.Looks.here (s:={ s with toks:=s.toks+1 }) (PySem.W.looks_clsIn X hc) ?_))))))
 rw[hd']
 refine zzb (a:=some dx) (zza (zzb (zza ?_)))
 refine wpAny_nsSet1 (s:={ s with toks:=s.toks+1 }) I.ns λh' hn2 hs2=>?_
 obtain⟨oD,esD,epD,hoD,hdD,hcD⟩:=hn2.count (PySem.Within.cons name v hw)
 refine zza (wpAny_lookBehind hoD (by rw[hdD];exact pastItsLine_dict (bj hcD (by rw[ci];lia))) ?_)
 exact zzb (h _ ⟨(hs2.2 _ (Ne.symm I.ne)).trans I.obj,hn2,I.ne⟩ hs2)
theorem BH{R:Result->Shared->Prop}{vs:List Value}(X:K.In s.heap)(hm:PySem.W.makesIn K C=true)
  (hi:PySem.W.findIn K (.ref C) "__init__" = some (some (.ref f))) (hf:PySem.W.typeIn K (.ref f)=some (.type "function"))
  (h:codeAny (model prog w) (A.under (.builtin "type.__call__" ⟨.ref C::vs,kw⟩)) (.call (.ref f) ⟨.ref (s.heap.objs.size+1)::vs,kw⟩) (PySem.W.InitBack (s.heap.objs.size+1) R)
   { s with heap:=(s.heap.push PySem.W.emptyDict).push (PySem.W.instObj C s.heap.objs.size) }) :
  codeAny (model prog w) A (.call (.ref C) ⟨vs,kw⟩) R s:=by
 obtain⟨hh,g,d,t,os⟩:=s
 exact PySem.W.make_core (PySem.W.makes_of X hm) (PySem.W.looks_findIn X hi) (λself=>PySem.W.bind_fn X self hf) (.inl rfl) h
end
def eg(f:Str)(v:V):List (Str×V)->List (Str×V)
 | []=>[(f,v)]
 | (g,x)::r=>if g=f then(g,v)::r else(g,x)::eg f v r
theorem iZ(f g:Str)(v:V):∀fs:List (Str×V),(eg f v fs).lookup g=if g=f then some v else fs.lookup g
 | []=>by
  show List.lookup g [(f,v)]=_
  by_cases h:g=f
  ·have hb:(g==f)=true:=beq_iff_eq.mpr h
   simp only[List.lookup,hb,ai h]
  ·have hb:(g==f)=false:=beq_eq_false_iff_ne.mpr h
   simp only[List.lookup,hb,ac h]
 | (k,x)::r=>by
  have ih:=iZ f g v r
  rw[show eg f v ((k,x)::r)=(if k=f then(k,v)::r else(k,x)::eg f v r)from rfl]
  by_cases hk:k=f
  ·rw[ai hk]
   by_cases h:g=k
   ·have hb:(g==k)=true:=beq_iff_eq.mpr h
    simp only[List.lookup,hb,ai (h.trans hk)]
   ·have hb:(g==k)=false:=beq_eq_false_iff_ne.mpr h
    simp only[List.lookup,hb,ac (λe:g=f=>h (e.trans hk.symm))]
  ·rw[ac hk]
   by_cases h:g=k
   ·have hb:(g==k)=true:=beq_iff_eq.mpr h
    simp only[List.lookup,hb,ac (λe:g=f=>hk (h.symm.trans e))]
   ·have hb:(g==k)=false:=beq_eq_false_iff_ne.mpr h
    simp only[List.lookup,hb]
    exact ih
theorem gH(f:Str)(v:V):∀fs:List (Str×V),f∈(eg f v fs).map (·.1)/\∀g,g∈fs.map (·.1)->g∈(eg f v fs).map (·.1)
 | []=>⟨by simp[eg],λg h=>by simp at h⟩
 | (k,x)::r=>by
  obtain⟨i1,i2⟩:=gH f v r
  rw[show eg f v ((k,x)::r)=(if k=f then(k,v)::r else(k,x)::eg f v r)from rfl]
  by_cases hk:k=f
  ·rw[ai hk]
   subst hk
   exact⟨by simp,λg h=>by simpa using h⟩
  ·rw[ac hk]
   refine⟨?_,λg h=>?_⟩
   ·rw[ba]
    exact zzg _ i1
   ·rw[ba]at h ⊢
    rcases List.mem_cons.mp h with e|e
    ·exact List.mem_cons.mpr (.inl e)
    ·exact zzg _ (i2 g e)
theorem mP(f:Str)(v:V):∀fs:List (Str×V),(eg f v fs).length<=fs.length+1
 | []=>by simp[eg]
 | (k,x)::r=>by
  have ih:=mP f v r
  rw[show eg f v ((k,x)::r)=(if k=f then(k,v)::r else(k,x)::eg f v r)from rfl]
  by_cases hk:k=f
  ·rw[ai hk,ci,ci];lia
  ·rw[ac hk,ci,ci];lia
theorem RelO.some_of{v:V}{o:Option Value}(r:RelO (some v) o):∃u,o=some u/\RelV v u:=by
 cases o with
 | none=>exact(show False from r).elim
 | some u=>exact⟨u,rfl,r⟩
theorem RelO.none_of{o:Option Value}(r:RelO none o):o=none:=by
 cases o with
 | none=>rfl
 | some u=>exact(show False from r).elim
theorem rF{v:V}(r:RelV v u):PySem.W.handedIn u=true:=by
 cases v with
 | non=>cases (show u=Value.none from r);rfl
 | bl b=>cases (show u=Value.bool b from r);rfl
 | int i=>obtain⟨t,e⟩:=(show ∃t,u=Value.int i t from r);cases e;rfl
 | str x=>obtain⟨t,e⟩:=(show ∃t,u=Value.str x t from r);cases e;rfl
 | byt b=>obtain⟨t,e⟩:=(show ∃t,u=Value.bytes b t from r);cases e;rfl
 | flt b=>obtain⟨t,e⟩:=(show ∃t,u=Value.float b t from r);cases e;rfl
 | ref a=>cases (show u=Value.ref a from r);rfl
 | ty n=>cases (show u=Value.type n from r);rfl
section
variable {H H':Hp} {fs fs':List (Str×V)}
theorem tE(hok:HOk P w H h)(e:H a=some (.ins C dx fs)):∃mA,ObjM h a dx C mA/\(∀f,RelO (fs.lookup f) (mA f))/\PySem.Within mA (fs.map (·.1))/\fs.length<=1000/\H dx=some (.own a):=by
 obtain⟨d,z,ne,ob,mA,n,r,q⟩:=(show ObjOk P w H h a (.ins C dx fs)from hok a _ e)
 exact⟨mA,⟨ob,n,ne⟩,r,q,z,d⟩
end
structure Cls(K:PySem.W.Frag)(C:Addr):Prop where
 pg:PySem.W.plainGet K C Str.empty=true
 hd:PySem.W.hasDictIn K C=true
 po:PySem.W.plainOver K C=true
 sa:PySem.W.findIn K (.ref C) "__setattr__" = some (some (.builtin "object.__setattr__"))
theorem Cls.get{K:PySem.W.Frag}(c:Cls K C)(f:Str):PySem.W.plainGet K C f=true:=c.pg
def NoAttr(K:PySem.W.Frag)(C:Addr)(f:Str):Prop:=PySem.W.findIn K (.ref C) f=some none
theorem NoAttr.taker{K:PySem.W.Frag}{f:Str}(n:NoAttr K C f):PySem.W.takerIn K C f=some none:=by
 unfold PySem.W.takerIn
 rw[show PySem.W.findIn K (.ref C) f=some none from n]
 rfl
structure Meth(K:PySem.W.Frag)(C:Addr)(m:Str)(f:Addr):Prop where
 at_:PySem.W.findIn K (.ref C) m=some (some (.ref f))
 fn:PySem.W.isFn K (.ref f)=true
 kp:PySem.W.keepIn K (.ref f)=true
section
variable {X:Cx} {Z:St} {H:Hp} {s:Shared} {fs:List (Str×V)} {f:Str} {v:V}
theorem pv{b:Bool}{Q:zzj}(I:Inv X pins Z H s)(e:H a=some (.ins C dx fs))(c:Cls X.K C)(n:NoAttr X.K C f)(l:fs.lookup f=some v)
  (h:∀u s',Inv X pins Z H s'->RelV v u->Q u s'):wpAny (model X.prog X.w) A (getAttr (.ref a) f b) Q E s:=by
 obtain⟨mA,O,r,_,_,_⟩:=tE I.hok e
 obtain⟨u,hu,ru⟩:=RelO.some_of (v:=v) (o:=mA f) (by rw[<-l];exact r f)
 exact Ee I.kIn O (c.get f) c.hd n hu (rF ru) (h u _ (I.tok _) ru)
theorem pk{m:Str}{g:Addr}{pl:Sem Bool}{Q:Value×List Value->Shared->Prop}(I:Inv X pins Z H s)(e:H a=some (.ins C dx fs))(c:Cls X.K C)(k:Meth X.K C m g)(l:fs.lookup m=none)
  (h:Q (.ref g,[.ref a]) s):wpAny (model X.prog X.w) A (getMethod (.ref a) m pl) Q E s:=by
 obtain⟨mA,O,r,_,_,_⟩:=tE I.hok e
 have hn:mA m=none:=RelO.none_of (by rw[<-l];exact r m)
 exact B6 I.kIn O (c.get m) k.at_ k.fn hn h
theorem nN{y:V}(I:Inv X pins Z H s)(e:H a=some (.ins C dx fs))(c:Cls X.K C)(n:NoAttr X.K C f)(hl:fs.length<1000)(ry:RelV y u)
  (h:∀s',Inv X pins Z (upd H a (.ins C dx (eg f y fs))) s'->Q () s'):wpAny (model X.prog X.w) A (setAttr (.ref a) f u) Q E s:=by
 obtain⟨mA,O,r,wi,_,ho⟩:=tE I.hok e
 have hz:(fs.map (·.1)).length<=sizeLine:=by rw[zzd,sizeLine_eq];lia
 refine Dl I.kIn O c.sa c.po n.taker c.hd wi hz λh' O' sb=>h _ ?_
 have hd:∃o,h'.get? dx=some o:=let ⟨o,_,_,e',_⟩:=O'.ns;⟨o,e'⟩
 refine I.write (x:=a) (e:=dx) (by rw[e];exact True.intro) (.inr ho) (λb q hb z=>(sb.2 b hb).trans z) hd ?_
 refine⟨by rw[aL O.ne];exact ho,?_,O.ne,O'.obj,_,O'.ns,λg=>?_,λg hg=>?_⟩
 ·have:=mP f y fs;lia
 ·show RelO ((eg f y fs).lookup g) (if g=f then some u else mA g)
  rw[iZ]
  by_cases q:g=f
  ·rw[ai q,ai q];exact ry
  ·rw[ac q,ac q];exact r g
 ·by_cases q:g=f
  ·rw[q];exact(gH f y fs).1
  ·refine(gH f y fs).2 g (wi g λz=>hg ?_)
   show(if g=f then some u else mA g)=none
   rw[ac q];exact z
theorem Inv.made(I:Inv X pins Z H s):Inv X pins Z (upd (upd H s.heap.objs.size (.own (s.heap.objs.size+1))) (s.heap.objs.size+1) (.ins C s.heap.objs.size []))
  { s with heap:=(s.heap.push PySem.W.emptyDict).push (PySem.W.instObj C s.heap.objs.size) }:=by
 have e1:(s.heap.push PySem.W.emptyDict).get? s.heap.objs.size=some PySem.W.emptyDict:=zze s.heap rfl
 have e2:((s.heap.push PySem.W.emptyDict).push (PySem.W.instObj C s.heap.objs.size)).get? (s.heap.objs.size+1)=some (PySem.W.instObj C s.heap.objs.size):=by
  have:=zze (s.heap.push PySem.W.emptyDict) (o:=PySem.W.instObj C s.heap.objs.size) rfl
  rwa [ve]at this
 have e3:(s.heap.push PySem.W.emptyDict).Ns s.heap.objs.size (λ_=>none):=⟨PySem.W.emptyDict,#[],_,e1,rfl,(λe he=>absurd he (by simp)),λ_=>rfl⟩
 have I1:=I.laid (a:=s.heap.objs.size) (o:=.own (s.heap.objs.size+1)) (h':=s.heap.push PySem.W.emptyDict) (t':=s.toks) (λb u q=>zzc _ q) (ay _) ⟨_,e1⟩
 refine I1.laid (a:=s.heap.objs.size+1) (o:=.ins C s.heap.objs.size []) (t':=s.toks) (λb u q=>zzc _ q) (Nat.le_of_eq (ve _ _)) ?_
 have ne:s.heap.objs.size≠s.heap.objs.size+1:=bu (Lw _)
 refine⟨by rw[aL ne,aR],eE _,ne,e2,λ_=>none,(Heap.Ns1.of_empty e3).at λo q=>zzc _ q,λ_=>True.intro,λy hy=>absurd rfl hy⟩
theorem zl{prog:Program}{env:Env}{f:Str}{s:Shared}{Q:zzj}(hb:attributeBase e f env (eval e env)=eval e env)
  (h:wpAny (model prog w) A (eval e env) (λo s₁=>wpAny (model prog w) A (getAttr o f true) Q E s₁) E s):wpAny (model prog w) A (eval (.Attribute e f pos) env) Q E s :=
 Attribute_any_ h (by rw[arm_eval_Attribute,hb])
end
def Kh(K:PySem.W.Frag)(ta:TE)(f:Str):TE:=λZ H Q=>ta Z H λx H1=>∃a C dx fs v,x=.ref a/\H1 a=some (.ins C dx fs)/\Cls K C/\NoAttr K C f/\fs.lookup f=some v/\Q v H1
def Ko(K:PySem.W.Frag)(ta tv:TE)(f:Str):TS:=λD Z H=>tv Z H λy H1=>ta Z H1 λx H2=>∃a C dx fs,x=.ref a/\H2 a=some (.ins C dx fs)/\Cls K C/\NoAttr K C f/\fs.length<1000 /\
 D.nx Z (upd H2 a (.ins C dx (eg f y fs)))
def JY(X:Cx)(op:Operator)(rd:V->V->Hp->VK->Prop):Prop :=
 ∀(pins:zzk) (s:Shared) (Z:St) (H:Hp) (x y:V) (u v:Value) (Q:VK),Inv X pins Z H s->RelV x u->RelV y v->rd x y H Q->wpAny (model X.prog X.w) X.A (inplaceOp op u v) (EP X pins Z Q) X.xe s
def Dp(K:PySem.W.Frag)(ta tv:TE)(rd:V->V->Hp->VK->Prop)(f:Str):TS:=λD Z H=>ta Z H λx H1=>∃a C dx fs v,x=.ref a/\H1 a=some (.ins C dx fs)/\Cls K C/\NoAttr K C f/\fs.lookup f=some v /\
 tv Z H1 λy H2=>rd v y H2 λz H3=>∃dx' fs',H3 a=some (.ins C dx' fs')/\fs'.length<1000/\D.nx Z (upd H3 a (.ins C dx' (eg f z fs')))
section
variable {X:Cx} {o value:Expr} {f:Str} {pos' tpos:Pos} {ta tv:TE}
theorem Gw(he:PE X e ta)(hb:attributeBase e f X.env (eval e X.env)=eval e X.env):PE X (.Attribute e f pos) (Kh X.K ta f):=by
 intro pins s Z H Q I h
 refine zl hb (thn (he pins s Z H _ I h) λu s1 ⟨x,H1,I1,rx,a,C,dx,fs,v,ex,ea,c,n,l,q⟩=>?_)
 subst ex
 obtain rfl:u=Value.ref a:=rx
 exact pv I1 ea c n l λu' s2 I2 ru=>⟨v,H1,I2,ru,q⟩
theorem Gn(ha:PE X o ta)(hv:PE X value tv)(hs:swapsWith value (some (.Attribute o f pos')) pos.line X.env=pure false):PS X (.Assign [.Attribute o f pos'] value pos) (Ko X.K ta tv f):=by
 intro pins s Z H D I h
 refine IT (thn (hv pins s Z H _ I h) λu s1 ⟨y,H1,I1,ry,q⟩=>thn (ha pins s1 Z H1 _ I1 q) λov s2 ⟨x,H2,I2,rx,a,C,dx,fs,ex,ea,c,n,l,q2⟩=>?_) hs
 subst ex
 obtain rfl:ov=Value.ref a:=rx
 exact nN I2 ea c n l ry λs3 I3=>⟨Z,_,I3,q2⟩
theorem zO{op:Operator}{rd:V->V->Hp->VK->Prop}(ha:PE X o ta)(hv:PE X value tv)(hop:JY X op rd):PS X (.AugAssign (.Attribute o f tpos) op value pos) (Dp X.K ta tv rd f):=by
 intro pins s Z H D I h
 refine wpAny_AugAssign_AttributeAny (thn (ha pins s Z H _ I h) λov s1 ⟨x,H1,I1,rx,a,C,dx,fs,v,ex,ea,c,n,l,q⟩=>?_)
 subst ex
 obtain rfl:ov=Value.ref a:=rx
 refine pv I1 ea c n l λu s2 I2 ru=>thn (hv pins s2 Z H1 _ I2 q) λw3 s3 ⟨y,H2,I3,ry,q3⟩=>thn (hop pins s3 Z H2 v y u w3 _ I3 ru ry q3) λw4 s4 ⟨z,H3,I4,rz,dx',fs',ea',l',q4⟩=>?_
 exact nN I4 ea' c n l' rz λs5 I5=>⟨Z,_,I5,q4⟩
def Kv:V->V->Hp->VK->Prop:=λx y H Q=>∃i j,x=.int i/\y=.int j/\Q (.int (i+j)) H
theorem Hb:JY X .Add Kv:=by
 rintro pins s Z H x y u v Q I rx ry ⟨i,j,rfl,rfl,q⟩
 obtain⟨t,rfl⟩:=(show ∃t,u=Value.int i t from rx)
 obtain⟨t',rfl⟩:=(show ∃t',v=Value.int j t' from ry)
 exact PyProof.Rows.iadd_int ⟨.int (i+j),H,I.tok _,⟨_,rfl⟩,q⟩
end
structure Room(k:Nat)(A:Around):Prop where
 hd:A.handled=none
 dp:A.depth+3*k+5<recursionLimit
 un:A.units+16*k+1200<cLine
 gd:A.guards=some []
theorem Room.mono{k:Nat}(r:Room k A)(h:j<=k):Room j A:=⟨r.hd,by have:=r.dp;lia,by have:=r.un;lia,r.gd⟩
theorem Room.deeper{k:Nat}(r:Room (k+1) A)(env:Env):Room k (A.deeper env) :=
 ⟨r.hd,by have:=r.dp;show A.depth+1+3*k+5<_;lia,by have:=r.un;show A.units+3+16*k+1200<_;lia,r.gd⟩
theorem wQ:(A.under (.builtin "type.__call__" ⟨.ref C::us,kw⟩)).depth=A.depth+1:=by
 first|rfl|simp[Around.under,Code.weight,Code.isCreation,Code.isGuard,Code.isCaller,Code.frames,Code.isFrame,guardIds]
theorem wO:(A.under (.builtin "type.__call__" ⟨.ref C::us,kw⟩)).units=A.units+1:=by
 first|rfl|simp[Around.under,Code.cUnits,Code.frames,Code.isFrame]
theorem Room.make{k:Nat}(r:Room (k+1) A)(C:Addr)(us:List Value)(kw:List (Str×Value)):Room k (A.under (.builtin "type.__call__" ⟨.ref C::us,kw⟩)) :=
 ⟨r.hd,by have:=r.dp;rw[wQ];lia,by have:=r.un;rw[wO];lia,by first|exact r.gd|simpa[Around.under,Code.isGuard,guardIds]using r.gd⟩
theorem Room.depth{k:Nat}(r:Room k A):A.depth<recursionLimit:=by have:=r.dp;lia
def Kb:TA:=λ_ H Q=>Q [] H
def Ib(ta:TE)(tr:TA):TA:=λZ H Q=>ta Z H λx H1=>tr Z H1 λxs H2=>Q (x::xs) H2
section
variable {X:Cx} {te:TE} {t:TA}
theorem lK:PA X [] Kb:=λ_ _ _ _ H Q I h=>Calls.spliced_nil ⟨[],H,I,.nil,h⟩
theorem eH(ha:PE X e te)(hr:PA X es t)(hs:starEach (e::es) X.env=(false,eval e X.env)::starEach es X.env:=by rfl):PA X (e::es) (Ib te t):=by
 intro pos pins s Z H Q I h
 rw[hs]
 show wpAny _ _ (spliced ((false,eval e X.env)::backTo pos (starEach es X.env))) _ _ s
 refine Calls.spliced_cons (thn (ha pins s Z H _ I h) λu s1 ⟨x,H1,I1,r1,q1⟩=>?_)
 exact thn (hr pos pins s1 Z H1 _ I1 q1) λus s2 ⟨xs,H2,I2,r2,q2⟩=>⟨x::xs,H2,I2,.cons r1 r2,q2⟩
def J5(t:TA):TE:=λZ H Q=>t Z H λxs H1=>xs.length<=sizeLine/\∀p,H1 p=none->Q (.ref p) (upd H1 p (.tup xs))
def Ke(t:TA):TE:=λZ H Q=>t Z H λxs H1=>xs.length<=sizeLine/\∀p,H1 p=none->Q (.ref p) (upd H1 p (.lst xs))
theorem Bw{x1}(h:PA X es t):PE X (.Tuple es x1 pos) (J5 t):=by
 intro pins s Z H Q I hq
 refine wpAny_Tuple_spliced (thn (h pos pins s Z H _ I hq) λus s1 ⟨xs,H1,I1,r,z,q⟩=>⟨by rw[<-r.length];exact z,?_⟩)
 have hf:H1 s1.heap.objs.size=none:=I1.hok.fresh (ay _)
 refine⟨.ref s1.heap.objs.size,upd H1 s1.heap.objs.size (.tup xs),I1.laid (t':=s1.toks) (λb u e=>zzc _ e) (ay _) ?_,rfl,q _ hf⟩
 exact⟨z,us,r,⟨_,zze _ rfl,rfl,_,rfl⟩,⟨_,zze _ rfl,rfl⟩⟩
theorem Bx(h:PA X es t):PE X (.List es pos) (Ke t):=by
 intro pins s Z H Q I hq
 refine wpAny_List_spliced (thn (h pos pins s Z H _ I hq) λus s1 ⟨xs,H1,I1,r,z,q⟩=>⟨by rw[<-r.length];exact z,?_⟩)
 have hf:H1 s1.heap.objs.size=none:=I1.hok.fresh (ay _)
 refine⟨.ref s1.heap.objs.size,upd H1 s1.heap.objs.size (.lst xs),I1.laid (t':=s1.toks) (λb u e=>zzc _ e) (ay _) ?_,rfl,q _ hf⟩
 exact⟨z,us,0,r,zze _ rfl⟩
end
abbrev Sp:=List V->Hp->VK->XK->Prop
abbrev CXT:=List Env->Hp->Shared->XK->Value->Shared->Prop
structure Env0(P:Program)(w:World)(K:PySem.W.Frag)(mg:zzl)(base:Heap)(A:Around)(outer:List Env)(s:Shared)(H:Hp):Prop where
 frames:A.frames=some outer
 mod:Mod K mg base
 bs:∀b o,base.get? b=some o->s.heap.get? b=some o/\H b=none
 bsz:base.objs.size<=s.heap.objs.size
 funs:s.heap.FunFrames base outer
 frf:∀b∈frs outer,H b=none
 hok:HOk P w H s.heap
 bare:AllBare s.gens
def CE(outer:List Env)(P:Program)(w:World)(H:Hp)(s:Shared)(Q:VK)(u:Value)(s':Shared):Prop :=
 ∃v H',s'.os=s.os/\AllBare s'.gens/\Un (frs outer) [] H H' s.heap s'.heap/\HOk P w H' s'.heap/\RelV v u/\Q v H'
def CR(CX:CXT)(outer:List Env)(P:Program)(w:World)(H:Hp)(s:Shared)(Q:VK)(E:XK)(r:Result)(s':Shared):Prop :=
 match r with
 | .ok (.ret u)=>CE outer P w H s Q u s'
 | .ok _=>False
 | .error e=>CX outer H s E e s'
structure FnOk(P:Program)(w:World)(K:PySem.W.Frag)(mg:zzl)(base:Heap)(CX:CXT)(k:Nat)(f:Addr)(fd:FuncData)(ps:List Str)(sp:Sp):Prop where
 len:∀vs H Q E,sp vs H Q E->vs.length=ps.length
 run:∀(A:Around) (outer:List Env) (s:Shared) (H:Hp) (args:Args) (us:List Value) (vs:List V) (Q:VK) (E:XK),Room k A->Env0 P w K mg base A outer s H->BindsTo s fd args (ps.zip us)->Vals vs us->sp vs H Q E ->
  codeAny (model P w) A (.call (.ref f) args) (CR CX outer P w H s Q E) s
theorem Env0.make{K:PySem.W.Frag}{outer:List Env}{s:Shared}{H:Hp}(e:Env0 P w K mg base A outer s H)(C:Addr)(us:List Value)(kw:List (Str×Value)) :
  Env0 P w K mg base (A.under (.builtin "type.__call__" ⟨.ref C::us,kw⟩)) outer s H:=⟨by first|exact e.frames|(simpa[Around.under,Code.envs,Code.isFrame,pushEnvs]using e.frames),e.mod,e.bs,e.bsz,e.funs,e.frf,e.hok,e.bare⟩
section
variable {X:Cx} {Z:St} {H:Hp} {s s':Shared}
theorem Inv.env0(I:Inv X pins Z H s):Env0 X.prog X.w X.K X.mg X.base X.A X.stack s H :=
 ⟨I.ok.frames,I.ok.mod,I.bs,bj I.ok.bsz I.sz,I.stack,I.stkFree,I.hok,I.bare⟩
theorem Inv.after{Q:VK}(I:Inv X pins Z H s)(h:CE X.stack X.prog X.w H s Q u s'):EP X pins Z Q u s':=by
 obtain⟨v,H',os,bare,un,hok,r,q⟩:=h
 obtain⟨hh,g,d,t,os'⟩:=s'
 obtain rfl:os'=s.os:=os
 exact⟨v,H',I.call (h':=hh) (g':=g) (d':=d) (t':=t) (ch:=[]) un hok bare (λb z=>absurd z (by simp)),r,q⟩
end
def Binds(K:PySem.W.Frag)(fd:FuncData)(ps:List Str)(ds:List Value):Prop :=
 ∀(s:Shared) (us:List Value),K.In s.heap->(us++ds).length=ps.length->BindsTo s fd ⟨us,[]⟩ (ps.zip (us++ds))
theorem Binds.all{K:PySem.W.Frag}{fd:FuncData}(h:∀us:List Value,us.length=ps.length->bindArgs fd ⟨us,[]⟩=pure (ps.zip us)):Binds K fd ps []:=λs us _ hl=>by
 rw[iz]at hl ⊢
 exact .of_eq (h us hl)
def HJ(CX:CXT)(X:Cx)(E:XK):Prop:=∀(pins:zzk) (Z:St) (H:Hp) (s:Shared) (e:Value) (s':Shared),Inv X pins Z H s->CX X.stack H s E e s'->X.xe e s'
section
variable {X:Cx} {CX:CXT} {k:Nat} {f:Addr} {fd:FuncData} {sp:Sp} {dvs:List V} {ds:List Value} {E:XK} {m:Str} {apos:Pos} {o:Expr} {ta:TE} {t:TA}
structure Mk(K:PySem.W.Frag)(C f:Addr):Prop where
 makes:PySem.W.makesIn K C=true
 init:PySem.W.findIn K (.ref C) "__init__" = some (some (.ref f))
 fn:PySem.W.isFn K (.ref f)=true
 kp:PySem.W.keepIn K (.ref C)=true
theorem run_make{Z:St}{H:Hp}{s:Shared}{Q:VK}{vs:List V}(M:Mk X.K C f)(F:FnOk X.prog X.w X.K X.mg X.base CX k f fd ps sp)(hr:Room (k+1) X.A)(hb:Binds X.K fd ps ds)(hd:Vals dvs ds)
  (hx:HJ CX X E) (I:Inv X pins Z H s) (r:Vals vs us)
  (h:∀x dx,H x=none->H dx=none->dx≠x->sp (.ref x::(vs++dvs)) (upd (upd H dx (.own x)) x (.ins C dx [])) (λv H2=>v=.non/\Q (.ref x) H2) E) :
  wpAny (model X.prog X.w) X.A (call (.ref C) us) (EP X pins Z Q) X.xe s:=by
 have hq:=h (s.heap.objs.size+1) s.heap.objs.size (I.hok.fresh (Nat.le_succ _)) (I.hok.fresh (ay _)) (bu (Lw _))
 have I2:=Inv.made (C:=C) I
 have r2:Vals (V.ref (s.heap.objs.size+1)::(vs++dvs)) (Value.ref (s.heap.objs.size+1)::(us++ds)):=.cons rfl (r.append hd)
 have hl:(Value.ref (s.heap.objs.size+1)::us++ds).length=ps.length:=by
  have e:=r2.length
  rw[F.len _ _ _ _ hq]at e
  exact e.symm
 refine wpAny_call (BH (f:=f) I.kIn M.makes M.init (beq_iff_eq.mp M.fn) (GU (F.run _ X.stack _ _ ⟨Value.ref (s.heap.objs.size+1)::us,[]⟩ (Value.ref (s.heap.objs.size+1)::(us++ds)) _ _ E (hr.make C us [])
  (I2.env0.make C us []) (hb _ (Value.ref (s.heap.objs.size+1)::us) I2.kIn hl) r2 hq) λr s' hq'=>?_))
 cases r with
 | error e=>exact hx pins Z _ _ e s' I2 hq'
 | ok fl =>
  cases fl with
  | ret u =>
   obtain⟨v,H',I3,rv,ev,q3⟩:=I2.after hq'
   subst ev
   exact⟨rv,⟨V.ref (s.heap.objs.size+1),H',I3,rfl,q3⟩⟩
  | next=>exact False.elim hq'
  | brk=>exact False.elim hq'
  | cont=>exact False.elim hq'
end
structure FnScope(N P:List Str)(sc:Scope):Prop where
 kind:sc.kind=.function
 co:sc.isCoroutine=false
 gen:sc.isGenerator=false
 nd:N.Nodup
 pre:N.take P.length=P
 par:∀x∈P,sc.names.lookup x=some .local\/sc.names.lookup x=some .cell
 nofree:∀y∈sc.names,y.2≠.free
theorem rR{kindOf:Str->Option NameKind}{x:Str}:∀{binds:List (Str×Value)} {m:zzl},(∀v,(x,v)∉binds)->bindL kindOf binds m x=m x
 | [],_,_=>rfl
 | (n,v)::r,m,h=>by
  unfold bindL
  rw[rR λw hw=>h w (zzg _ hw)]
  split
  ·have:x≠n:=by rintro rfl;exact h v au
   simp[this]
  ·rfl
theorem rT{kindOf:Str->Option NameKind}{x:Str}:∀{binds:List (Str×Value)} {m:zzl},(∀v,(x,v)∉binds)->bindC kindOf binds m x=m x
 | [],_,_=>rfl
 | (n,v)::r,m,h=>by
  unfold bindC
  rw[rT λw hw=>h w (zzg _ hw)]
  split
  ·rfl
  ·have:x≠n:=by rintro rfl;exact h v au
   simp[this]
theorem rS{kindOf:Str->Option NameKind}{x:Str}{v:Value}:∀{P:List Str} {vs:List Value} {i:Nat} {m:zzl},P.Nodup->P[i]? = some x->vs[i]? = some v->kindOf x=some .local ->
  bindL kindOf (P.zip vs) m x=some v
 | [],_,_,_,_,h,_,_=>by simp at h
 | _::_,[],_,_,_,_,h,_=>by simp at h
 | p::P,w::vs,0,m,nd,h1,h2,hk=>by
  simp at h1 h2;subst h1;subst h2
  show bindL kindOf ((p,w)::P.zip vs) m p=_
  unfold bindL
  rw[rR λv hv=>(List.nodup_cons.mp nd).1 (List.of_mem_zip hv).1,ai hk]
  simp
 | p::P,w::vs,i+1,m,nd,h1,h2,hk=>by
  show bindL kindOf ((p,w)::P.zip vs) m x=_
  unfold bindL
  exact rS (i:=i) (List.nodup_cons.mp nd).2 (by simpa using h1) (by simpa using h2) hk
theorem rV{kindOf:Str->Option NameKind}{x:Str}{v:Value}:∀{P:List Str} {vs:List Value} {i:Nat} {m:zzl},P.Nodup->P[i]? = some x->vs[i]? = some v->kindOf x≠some .local ->
  bindC kindOf (P.zip vs) m x=some v
 | [],_,_,_,_,h,_,_=>by simp at h
 | _::_,[],_,_,_,_,h,_=>by simp at h
 | p::P,w::vs,0,m,nd,h1,h2,hk=>by
  simp at h1 h2;subst h1;subst h2
  show bindC kindOf ((p,w)::P.zip vs) m p=_
  unfold bindC
  rw[rT λv hv=>(List.nodup_cons.mp nd).1 (List.of_mem_zip hv).1,ac hk]
  simp
 | p::P,w::vs,i+1,m,nd,h1,h2,hk=>by
  show bindC kindOf ((p,w)::P.zip vs) m x=_
  unfold bindC
  exact rV (i:=i) (List.nodup_cons.mp nd).2 (by simpa using h1) (by simpa using h2) hk
def start(N:List Str)(vs:List V):St:=vs.map some++List.replicate (N.length - vs.length) none
def mC(CX:CXT)(P:Program)(w:World)(K:PySem.W.Frag)(mg:zzl)(base:Heap)(N:List Str)(qual:Str)(scope:Scope)(f:Addr)(cd:Value)(A:Around)(outer:List Env)(s:Shared)(H:Hp)(E:XK):Cx where
 prog:=P
 w:=w
 K:=K
 mg:=mg
 base:=base
 A:=A.deeper (envOfC qual scope s.heap.objs.size f cd)
 N:=N
 s₀:=s
 H₀:=H
 env:=envOfC qual scope s.heap.objs.size f cd
 outer:=outer
 stack:=envOfC qual scope s.heap.objs.size f cd::outer
 ex:=[]
 calm:=true
 fn:=λ_=>true
 pn:=[]
 xe:=λe s'=>wpAny (model P w) (A.deeper (envOfC qual scope s.heap.objs.size f cd)) (leaving (envOfC qual scope s.heap.objs.size f cd) e) (λ_ s''=>CX outer H s E e s'') (λe' s''=>CX outer H s E e' s'') s'
theorem vD{sc:Scope}{n:Nat}(h:sc.names.lookup x=some .cell):∃c,(cellsFrom n sc.names []).lookup x=some c:=by
 have q:=PySem.W.cellsFrom_some sc.names n [] (.inl h)
 exact Option.isSome_iff_exists.mp q
theorem Ad{CX:CXT}{K:PySem.W.Frag}{N:List Str}{qual:Str}{scope:Scope}{f:Addr}{cd:Value}{outer:List Env}{s s1:Shared}{H:Hp}{E:XK}{vs:List V}
  (S:FnScope N ps scope) (hd:A.handled=none) (e0:Env0 P w K mg base A outer s H) (hl:vs.length=ps.length) (r:Vals vs us)
  (x:InCallC s s.heap.objs.size (bindL (envOfC qual scope s.heap.objs.size f cd).kindOf (ps.zip us) λ_=>none) (cellsFrom (s.heap.objs.size+1) scope.names []) (bindC (envOfC qual scope s.heap.objs.size f cd).kindOf (ps.zip us) λ_=>none) s1) :
  Inv (mC CX P w K mg base N qual scope f cd A outer s H E) [] (start N vs) H s1:=by
 have hpl:ps.length<=N.length:=by have:=congrArg List.length S.pre;rw[ls]at this;lia
 obtain⟨h1,tk,rfl,hk⟩:=x.done
 have noA:∀b:Addr,b∉(mC CX P w K mg base N qual scope f cd A outer s H E).ex:=λb z=>absurd (show b∈([]:List Addr)from z) (by simp)
 refine⟨⟨e0.mod,S.kind,rfl,rfl,ay _,λy z c h1 h2=>?_,λy hy=>?_,λy c _ h=>?_,λ_=>hd,Around.frames_deeper e0.frames,.inr ⟨rfl,rfl⟩,λb z=>absurd z (noA b),e0.bs,e0.bsz,λb _ _=>noA b,λb z=>absurd z (noA b),e0.funs,e0.frf⟩,
  rfl,e0.bare,Un.kept hk,⟨_,x.toInCall.ns,λi y v h1 h2 h3=>?_⟩,λy c h=>⟨_,x.cell y c h⟩,e0.hok.fresh (ay _),λy c h=>?_,λp hp=>absurd (show p∈([]:zzk)from hp) (by simp),e0.hok.kept hk,?_⟩
 ·exact name_of_addr x.apart (si h1) (si h2)
 ·have hy:scope.names.lookup y=some .cell\/scope.names.lookup y=some .free:=hy
  rcases hy with hy|hy
  ·exact vD hy
  ·exact absurd rfl (S.nofree _ (si hy))
 ·exact ze (x.above y c (si h))
 ·have hi:i<vs.length:=by
   unfold start at h2
   by_cases hi:i<vs.length
   ·exact hi
   ·rw[LO (by simpa using hi)]at h2
    rw[L8]at h2
    split at h2<;>cases h2
  have ha:vs[i]? = some v:=by
   unfold start at h2
   rw[eT (by simpa using hi),ug]at h2
   cases e:vs[i]? with
   | none=>rw[e]at h2;cases h2
   | some a=>rw[e]at h2;cases h2;rfl
  obtain⟨u,hu,rv⟩:=r.get ha
  have hp:ps[i]? = some y:=by
   rw[<-S.pre,gi (by lia)];exact h1
  have ndP:ps.Nodup:=by rw[<-S.pre];exact S.nd.sublist (List.take_sublist _ _)
  refine⟨u,rv,?_⟩
  rcases S.par y (ii hp)with k|k
  ·exact .inl ⟨k,rS ndP hp hu k⟩
  ·obtain⟨c,e⟩:=vD (n:=s.heap.objs.size+1) k
   refine .inr ⟨.inl k,c,e,?_⟩
   have q:=x.cell y c e
   rw[rV ndP hp hu (by show scope.names.lookup y≠_;rw[k];decide)]at q
   exact q
 ·exact e0.hok.fresh (ze (x.above y c (si h)))
 ·unfold start
  show _=N.length
  rw[zzf,zzd,List.length_replicate]
  lia
theorem JF{CX:CXT}{K:PySem.W.Frag}{k:Nat}{f:Addr}{name qual:Str}{params:Arguments}{body:List Stmt}{scope:Scope}{dV kV doc pm cdv ct oc:Value}{an od:Option Addr}
  {osl:Array (Option Value)} {N ps:List Str} {sp:Sp} (lk:K.lookup f=some ⟨oc,od,.func (PySem.W.fnOf name qual params body scope dV kV doc pm an cdv ct),osl⟩) (hcd:PySem.W.codeIn K cdv qual=true) (S:FnScope N ps scope)
  (len:∀vs H Q E,sp vs H Q E->vs.length=ps.length)
  (hbody:∀(A:Around) (outer:List Env) (s:Shared) (H:Hp) (vs:List V) (Q:VK) (E:XK),Room k (A.deeper (envOfC qual scope s.heap.objs.size f cdv))->sp vs H Q E ->
   ∃t,PSs (mC CX P w K mg base N qual scope f cdv A outer s H E) body t/\t { nx:=λ_ H'=>Q .non H',rt:=Q } (start N vs) H) :
  FnOk P w K mg base CX (k+1) f (PySem.W.fnOf name qual params body scope dV kV doc pm an cdv ct) ps sp:=by
 refine⟨len,λA outer s H args us vs Q E hr e0 hb r hsp=>?_⟩
 have hl:=len _ _ _ _ hsp
 have KX:K.In s.heap:=e0.mod.kin.keeps λb o e=>(e0.bs b o e).1
 have lim:s.heap.NoLimit:=e0.mod.nolimit.keeps λb o e=>(e0.bs b o e).1
 have hkind:∀y∈ps.zip us,scope.names.lookup y.1=some .local\/(scope.names.lookup y.1=some .cell/\((cellsFrom (s.heap.objs.size+1) scope.names []).lookup y.1).isSome=true):=λ⟨n,v⟩ hy=>by
  rcases S.par n (List.of_mem_zip hy).1 with q|q
  ·exact .inl q
  ·exact .inr ⟨q,PySem.W.cellsFrom_some _ _ _ (.inl q)⟩
 refine codeAny_call_function hr.depth (KX _ _ lk) rfl S.co S.gen rfl (PySem.W.codeRec_of KX hcd) (hb _ _ _ _ ?_)
 refine wpAny_newFunctionEnv_cells S.kind hkind λenv he s1 x=>?_
 subst he
 refine⟨lim.keeps x.toInCall.keep,codeAny_func ?_⟩
 obtain⟨t,ht,hq⟩:=hbody A outer s H vs Q E (hr.deeper _) hsp
 have I:Inv (mC CX P w K mg base N qual scope f cdv A outer s H E) [] (start N vs) H s1:=Ad S hr.hd e0 hl r x
 refine je (ht [] s1 (start N vs) H _ I hq) (λfl s' hs=>?_) λe s' hs=>hs
 have fin:∀{σ':St} {H':Hp} {v:V} {u:Value},Inv (mC CX P w K mg base N qual scope f cdv A outer s H E) [] σ' H' s'->RelV v u->Q v H'->CE outer P w H s Q u s' :=
  λ{σ' H' v u} J rv q=>⟨v,H',J.os,J.bare,J.base,J.hok,rv,q⟩
 cases fl with
 | ret u =>
  obtain⟨v,σ',H',J,rv,q⟩:=hs
  exact fin J rv q
 | next =>
  obtain⟨σ',H',J,q⟩:=hs
  exact fin (v:=V.non) (u:=Value.none) J rfl q
 | brk =>
  obtain⟨_,_,_,q⟩:=hs
  exact False.elim q
 | cont =>
  obtain⟨_,_,_,q⟩:=hs
  exact False.elim q
section
variable {X:Cx} {t:TA} {id T:String} {r:List V->Hp->VK->Prop}
def tCB(r:List V->Hp->VK->Prop)(t:TA):TE:=λZ H Q=>t Z H λvs H1=>r vs H1 Q
theorem iL(hc:CallR X (.builtin id) r)(hg:Gl X x)(hm:X.mg x=none)(hv:bootBuiltins x=some (.builtin id))(ha:PA X (e::es) t)(hn:x ≠ "__name__":=by decide)(hdb:(x==("__debug__" : Str))=false:=by decide)
  (he:starEach (e::es) X.env=(false,eval e X.env)::starEach es X.env:=by rfl) (hpl:(backTo pos (starEach es X.env)).any (·.1)=false:=by rfl):PE X (.Call (.Name x p) (e::es) [] pos) (tCB r t):=by
 intro pins s Z H Q I h
 refine EA (oU I hg hm hv ?_ hn hdb)
 exact PyProof.Rows.callWith_builtin1 (thn (ha pos pins s Z H _ I h) λus s1 ⟨vs,H1,I1,r1,q1⟩=>hc pins s1 Z H1 vs us Q I1 r1 q1) he hpl
theorem qU(hc:CallR X (.type T) r)(hg:Gl X x)(hm:X.mg x=none)(hv:bootBuiltins x=some (.type T))(ha:PA X (e::es) t)(hn:x ≠ "__name__":=by decide)(hdb:(x==("__debug__" : Str))=false:=by decide)
  (he:starEach (e::es) X.env=(false,eval e X.env)::starEach es X.env:=by rfl) (hpl:(backTo pos (starEach es X.env)).any (·.1)=false:=by rfl):PE X (.Call (.Name x p) (e::es) [] pos) (tCB r t):=by
 intro pins s Z H Q I h
 refine EA (oU I hg hm hv ?_ hn hdb)
 exact LG (thn (ha pos pins s Z H _ I h) λus s1 ⟨vs,H1,I1,r1,q1⟩=>hc pins s1 Z H1 vs us Q I1 r1 q1) he hpl
end
end L2
namespace HT
open PySem PyProof.Rows
variable {Q:zzj}
def lexLt:List Int->List Int->Bool
 | [],[]=>false
 | [],_::_=>true
 | _::_,[]=>false
 | x::xs,y::ys=>if x=y then lexLt xs ys else decide (x<y)
theorem lexLt_cons(x y:Int)(xs ys:List Int):lexLt (x::xs) (y::ys)=if x=y then lexLt xs ys else decide (x<y):=rfl
theorem lexLt_nil_nil:lexLt [] []=false:=rfl
theorem oP(y:Int)(ys:List Int):lexLt [] (y::ys)=true:=rfl
theorem oQ(x:Int)(xs:List Int):lexLt (x::xs) []=false:=rfl
theorem vp(A:Around)(s:Shared)(a:Int)(t:Tok)(c:Int)(u:Tok):∃e,SeqAt.EqAt A s (.int a t) (.int c u) e/\(e=true↔a=c) :=
 ⟨(a==c),SeqAt.EqAt.int_int a t c u,by simp⟩
theorem Bd(A:Around)(s:Shared)(a:Int)(t:Tok)(c:Int)(u:Tok)(prog:Program)(w:World)(E:zzj)(Q:zzj)(h:Q (.bool (decide (a<c))) s) :
  wpAny (model prog w) A (richCompare .Lt (.int a t) (.int c u)) Q E s :=
 (PyProof.Rows.lt_int h:wpAny (model prog w) A (compareOp .Lt (.int a t) (.int c u)) Q E s)
section
open PySem.SeqAt
open PySem.AutoSeq1 (wpAny_loadPart')
open PySem.MeetsSeq PySem.MeetsSeq2 PySem.MeetsSeq3
theorem qj(l b:Addr)(items items2:Array Value)(n n2:Nat)(dd dd2:Option Addr)(sl sl2:Array (Option Value))(ns ms:List Int)(hi:IntsAre items.toList ns)(hj:IntsAre items2.toList ms) :
  Meets (Builtin.«tuple.__lt__» ⟨[.ref l,.ref b],[]⟩)
   (λ_ R s=>s.heap.get? l=some { cls:=.type "tuple",dict:=dd,data:=.seq items n,slots:=sl }/\s.heap.get? b=some { cls:=.type "tuple",dict:=dd2,data:=.seq items2 n2,slots:=sl2 } /\
    R (.ok (.ret (.bool (lexLt ns ms)))) s) :=
 .of_wp λprog w A R s h=>by
  obtain⟨hp,g,d,tk,os⟩:=s;obtain⟨hl,hb,h⟩:=h
  have f2:=AutoSeq1.sub_tuple_tuple
  have z1:items.size=ns.length:=by rw[<-hi.length];simp
  have z2:items2.size=ms.length:=by rw[<-hj.length];simp
  wp_walk using wpAny_loadPart' hl,wpAny_loadPart' hb,wpAny_forIn_list _ (λrest b s'=>b.1=none/\s'=⟨hp,g,d,tk,os⟩/\∃(vs ws:List Value) (ns' ms':List Int),rest=vs.zip ws /\
   IntsAre vs ns'/\IntsAre ws ms'/\ns'.length+items2.size=ms'.length+items.size/\R (.ok (.ret (.bool (lexLt ns' ms')))) ⟨hp,g,d,tk,os⟩) _
  case turn =>
   rintro⟨y,x⟩ rest b s' ⟨hb',rfl,vs,ws,ns',ms',hz,hvi,hwi,hlen,hR⟩
   cases hvi with
   | nil=>rw[List.zip_nil_left]at hz;cases hz
   | cons a t hvi' =>
    cases hwi with
    | nil=>rw[LL]at hz;cases hz
    | cons c u hwi' =>
     rw[wo]at hz
     injection hz with hyx hrest
     injection hyx with hy hx
     subst hy hx
     rw[lexLt_cons]at hR
     simp only[ci]at hlen
     obtain⟨e,he,hiff⟩:=vp A.in1 ⟨hp,g,d,tk,os⟩ a t c u
     refine zza (he prog w _ _ ?_)
     cases e with
     | true =>
      rw[ai (hiff.mp rfl)]at hR
      wp_walk
      exact⟨rfl,rfl,_,_,_,_,hrest,hvi',hwi',by lia,hR⟩
     | false =>
      rw[ac (λq=>absurd (hiff.mpr q) wP)]at hR
      have hri:=Bd A.in1 ⟨hp,g,d,tk,os⟩ a t c u prog w
      wp_walk using hri
      exact⟨_,rfl,by simpa using hR⟩
  case fin =>
   rintro⟨b1,b2⟩ s' ⟨hb',rfl,vs,ws,ns',ms',hz,hvi,hwi,hlen,hR⟩
   simp only at hb'
   subst hb'
   have hv:lexLt ns' ms'=decide (items.size<items2.size):=by
    cases hvi with
    | nil =>
     cases hwi with
     | nil =>
      simp only[ou]at hlen
      rw[lexLt_nil_nil]
      exact(bi (by lia)).symm
     | cons c u hw =>
      simp only[ou,ci]at hlen
      rw[oP]
      exact(aw (by lia)).symm
    | cons a t hv =>
     cases hwi with
     | nil =>
      simp only[ou,ci]at hlen
      rw[oQ]
      exact(bi (by lia)).symm
     | cons c u hw =>
      rw[wo]at hz
      cases hz
   rw[hv]at hR
   wp_walk
   exact⟨_,rfl,by simpa[Builtin.Tuple.tupleCompareSizes]using hR⟩
  case h =>
   exact⟨rfl,rfl,items.toList,items2.toList,ns,ms,rfl,hi,hj,by lia,h⟩
end
section
variable {prog:Program} {w:World} {A:Around} {E:zzj} {s:Shared}
theorem lt_tupInts{l b:Addr}{items items2:Array Value}{ns ms:List Int}(hl:IsTup s.heap l items)(hb:IsTup s.heap b items2)(hi:IntsAre items.toList ns)(hj:IntsAre items2.toList ms)
  (hu:A.units<cLine) (h:Q (.bool (lexLt ns ms)) s):wpAny (model prog w) A (compareOp .Lt (.ref l) (.ref b)) Q E s:=by
 obtain⟨⟨cls,dd,data,sl⟩,ho,hc,n,hd⟩:=id hl
 obtain⟨⟨cls2,dd2,data2,sl2⟩,ho2,hc2,n2,hd2⟩:=id hb
 simp only at hc hd hc2 hd2
 subst hc hd hc2 hd2
 exact richCompare_meets_room (op:=.Lt) ⟨_,ho,rfl⟩ ⟨_,ho2,rfl⟩ PySem.F.slot_tuple_lt PySem.F.entry_tuple_lt (PySem.F.args_tuple_lt_2 _ _) (qj l b items items2 n n2 dd dd2 sl sl2 ns ms hi hj)
  ⟨ho,ho2,show Value.bool (lexLt ns ms)≠Value.notImplemented/\Q (.bool (lexLt ns ms)) s from⟨(λx=>nomatch x),h⟩⟩ hu
theorem cat_tup{t b:Addr}{vs ws:List Value}(ht:IsTup s.heap t vs.toArray)(hb:IsTup s.heap b ws.toArray)(hv:vs≠[])
  (h1:ws=[]->Q (.ref t) s) (h2:ws≠[]->Q (.ref s.heap.objs.size) { s with heap:=s.heap.push { cls:=.type "tuple",data:=.seq (vs++ws).toArray } })
  (hsz:vs.length+ws.length<=sizeLine):wpAny (model prog w) A (binaryOp .Add (.ref t) (.ref b)) Q E s:=by
 obtain⟨⟨cls,dd,data,sl⟩,ho,hc,n,hd⟩:=id ht
 obtain⟨⟨cls2,dd2,data2,sl2⟩,ho2,hc2,n2,hd2⟩:=id hb
 simp only at hc hd hc2 hd2
 subst hc hd hc2 hd2
 have e:vs.toArray++ws.toArray=(vs++ws).toArray:=by simp
 by_cases hw:ws=[]
 ·exact concat_meets ⟨_,ho,rfl⟩ ⟨_,ho2,rfl⟩ noFill_tuple_add seq_tuple_add Md L7 (LY _ _)
   (tuple_addW1 t b vs.toArray ws.toArray n n2 dd dd2 sl sl2 (by simpa using hv) (by simp[hw])) ⟨ho,ho2,h1 hw⟩
 ·refine concat_meets ⟨_,ho,rfl⟩ ⟨_,ho2,rfl⟩ noFill_tuple_add seq_tuple_add Md L7 (LY _ _)
   (tuple_addW2 t b vs.toArray ws.toArray n n2 dd dd2 sl sl2 (by simpa using hv) (by simpa using hw) (by rw[ce,ce];exact hsz)) ⟨ho,ho2,?_⟩
  rw[e]
  exact h2 hw
def sIx(n d:Nat):Option Int->Nat
 | none=>d
 | some v=>if v<0 then(v+(n:Int)).toNat else min v.toNat n
theorem sIx_none(n d:Nat):sIx n d none=d:=rfl
theorem sIx_nat(n d k:Nat):sIx n d (some (k:Int))=min k n:=by
 show(if(k:Int)<0 then((k:Int)+(n:Int)).toNat else min (k:Int).toNat n)=min k n
 rw[ac (by lia),IN]
theorem Gb(n d:Nat)(hd:d<=n)(o:Option Int):sIx n d o<=n:=by
 cases o with
 | none=>exact hd
 | some v =>
  show(if v<0 then(v+(n:Int)).toNat else min v.toNat n)<=n
  by_cases hv:v<0
  ·rw[ai hv];lia
  ·rw[ac hv];exact y4 _ _
theorem zh(v:Int)(n d:Nat):(if v<0 then max (v+(n:Int)) 0 else min v (n:Int))=((sIx n d (some v):Nat):Int):=by
 show(if v<0 then max (v+(n:Int)) 0 else min v (n:Int))=(((if v<0 then(v+(n:Int)).toNat else min v.toNat n):Nat):Int)
 by_cases hv:v<0
 ·simp only[ai hv];lia
 ·simp only[ac hv];lia
theorem xO(lo hi:Option Int)(n:Nat):Builtin.Slice.sliceAdjust lo hi 1 (n:Int)=(((sIx n 0 lo:Nat):Int),((sIx n n hi:Nat):Int)):=by
 have h1:¬ ((1:Int)<0):=by lia
 unfold Builtin.Slice.sliceAdjust
 simp only[h1,if_false]
 refine Prod.ext ?_ ?_
 ·cases lo with
  | none=>rfl
  | some v=>exact zh v n 0
 ·cases hi with
  | none=>rfl
  | some v=>exact zh v n n
theorem wC(i j:Nat):Builtin.Slice.slicePlaces (i:Int) (j:Int) 1=j - i:=by
 unfold Builtin.Slice.slicePlaces
 have h1:(1:Int)>0:=by lia
 simp only[h1,LF,Int.ediv_one]
 split<;>lia
theorem nM{v:Value}{o:Option Int}{Q:Option Int->Shared->Prop}(p:IsPart v o)(h:Q o s):wpAny (model prog w) A (Builtin.Slice.slicePartIndex v) Q E s:=by
 cases p with
 | none=>exact slicePart_none h
 | int i t=>exact slicePart_int h
theorem gC{sl:Addr}{vl vu:Value}{lo hi:Option Int}{n:Nat}{Q:Int×Int×Nat->Shared->Prop}(hs:s.heap.IsSliceOf sl vl vu .none)(pl:IsPart vl lo)(pu:IsPart vu hi)
  (h:Q (((sIx n 0 lo:Nat):Int),1,sIx n n hi - sIx n 0 lo) s):wpAny (model prog w) A (Builtin.Slice.sliceApplied (.ref sl) (pure (n:Int))) Q E s:=by
 obtain⟨os,hos,hcs,hds⟩:=id hs
 unfold Builtin.Slice.sliceApplied Builtin.Slice.sliceFields
 refine zza (zza (wa hos hds (x:=vl) rfl (zza (wa hos hds (x:=vu) rfl (zza (wa hos hds (x:=.none) rfl (zzb ?_)))))))
 refine zza (slicePart_none ?_)
 show wpAny _ _ (if((1:Int)==0)=true then _ else _) _ _ s
 rw[ac (by decide)]
 refine zza (nM pl (zza (nM pu (zza (zzb ?_)))))
 show wpAny _ _ (match Builtin.Slice.sliceAdjust lo hi 1 (n:Int)with|(lo,hi)=>pure (lo,(1:Int),Builtin.Slice.slicePlaces lo hi 1)) _ _ s
 rw[xO lo hi n]
 show wpAny _ _ (pure (((sIx n 0 lo:Nat):Int),(1:Int),Builtin.Slice.slicePlaces ((sIx n 0 lo:Nat):Int) ((sIx n n hi:Nat):Int) 1)) _ _ s
 rw[wC]
 exact zzb h
theorem Bt(xs:Array Value)(i k:Nat):((List.range k).filterMap λ(m:Nat)=>xs[((i:Int)+(m:Int)*1).toNat]?).toArray=((xs.toList.drop i).take k).toArray:=by
 have e:(λ(m:Nat)=>xs[((i:Int)+(m:Int)*1).toNat]?)=λm=>xs[i+m]?:=by
  funext m
  have:((i:Int)+(m:Int)*1).toNat=i+m:=by lia
  rw[this]
 rw[e]
 have:=pick_run xs i k
 rw[List.filterMap_map]at this
 have e2:((λx=>xs[x]?)∘λx=>i+x)=λm=>xs[i+m]?:=rfl
 rw[e2]at this
 rw[this]
theorem getItem_tuple_cut{t sl:Addr}{items:Array Value}{vl vu:Value}{lo hi:Option Int}(ht:IsTup s.heap t items)(hs:s.heap.IsSliceOf sl vl vu .none)(pl:IsPart vl lo)(pu:IsPart vu hi)
  (hw:¬ (sIx items.size 0 lo=0/\sIx items.size items.size hi=items.size))
  (h:Q (.ref s.heap.objs.size) { s with heap:=s.heap.push { cls:=.type "tuple",data:=.seq ((items.toList.drop (sIx items.size 0 lo)).take (sIx items.size items.size hi - sIx items.size 0 lo)).toArray } })
  (hsz:items.size<=sizeLine):wpAny (model prog w) A (getItem (.ref t) (.ref sl)) Q E s:=by
 have htake:sizeOk (.seq ((items.toList.drop (sIx items.size 0 lo)).take (sIx items.size items.size hi - sIx items.size 0 lo)).toArray):=by
  show((items.toList.drop (sIx items.size 0 lo)).take (sIx items.size items.size hi - sIx items.size 0 lo)).toArray.size<=sizeLine
  rw[ce,ls,u8,cr]
  lia
 have hj:sIx items.size items.size hi<=items.size:=Gb _ _ (ay _) hi
 obtain⟨os,hos,hcs,hds⟩:=id hs
 have hTs:s.TypeIs (.ref sl) "slice":=⟨os,hos,hcs⟩
 unfold getItem
 try with_reducible refine ng ?_
 first|refine zza (zzb ?_)|skip
 refine zza (wpAny_sequenceKey ht.typeIs (by decide) ?_)
 refine zza (L6 (name:=Str.ofString "__getitem__") ht.typeIs ur
  (y3 ur ht.typeIs entry_tuple_getitem ?_ (args_tuple_getitem _ _)))
 show wpAny _ _ (Builtin.Tuple.tupleItemsOf (.ref t) >>= _) _ _ s
 refine zza (tupleItemsOf_ ht ?_)
 refine zza (wpAny_typeOf hTs ?_)
 rw[ai (by decide)]
 refine zza (gC hs pl pu ?_)
 have hno:¬ ((((sIx items.size 0 lo:Nat):Int)==0&&(1:Int)==1&&(sIx items.size items.size hi - sIx items.size 0 lo)==items.size)=true):=by
  intro q
  rw[am,am]at q
  have q1:((sIx items.size 0 lo:Nat):Int)=0:=eq_of_beq q.1.1
  have q2:sIx items.size items.size hi - sIx items.size 0 lo=items.size:=eq_of_beq q.2
  exact hw ⟨by lia,by lia⟩
 show wpAny _ _ (if(((sIx items.size 0 lo:Nat):Int)==0&&(1:Int)==1&&(sIx items.size items.size hi - sIx items.size 0 lo)==items.size)=true then _ else _) _ _ s
 rw[ac hno,Bt]
 first
  | exact zza (m:=Builtin.Tuple.tupleExact _) (mo (zzb ⟨_,rfl,zzb h⟩) htake)
  | exact zza (m:=Builtin.Tuple.tupleExact _) (mo (zza (zzb (zzb ⟨_,rfl,zzb h⟩))) htake)
  | exact zza (zza (m:=Builtin.Tuple.tupleExact _) (mo (zzb (zzb ⟨_,rfl,zzb h⟩)) htake))
  | exact zza (zza (m:=Builtin.Tuple.tupleExact _) (mo (zzb ⟨_,rfl,zzb h⟩) htake))
end
end HT
namespace L2
open PySem PySem.Spec PyProof.Rows
variable {X:Cx}{xs:List V}{pins:zzk}{Z:St}{H:Hp}{n:Nat}
abbrev TO:=St->Hp->(Option Int->Hp->Prop)->Prop
def PO(X:Cx)(e:Option Expr)(t:TO):Prop :=
 ∀(pins:zzk) (s:Shared) (Z:St) (H:Hp) (Q:Option Int->Hp->Prop),Inv X pins Z H s->t Z H Q ->
  wpAny (model X.prog X.w) X.A (evalPart e X.env) (λu s'=>∃o H',Inv X pins Z H' s'/\IsPart u o/\Q o H') X.xe s
def Da:TO:=λ_ H Q=>Q none H
def HX(t:TE):TO:=λZ H Q=>t Z H λx H1=>∃i,x=.int i/\Q (some i) H1
theorem intsAre_of{ns:List Int}:∀{us:List Value},Vals (ns.map V.int) us->IntsAre us ns:=by
 induction ns with
 | nil=>intro us r;rw[wE]at r;cases r;exact .nil
 | cons n ns ih =>
  intro us r
  rw[ba]at r
  cases r with
  | cons r1 r2 =>
   obtain⟨t,e⟩:=r1
   subst e
   exact .cons n t (ih r2)
section
variable {e:Expr} {te:TE} {lo hi:Option Expr} {tl th:TO} {pos p2:Pos}
theorem yt:PO X none Da:=by
 intro pins s Z H Q I h
 rw[evalPart_none]
 exact zzb ⟨none,H,I,.none,h⟩
theorem yr(h:PE X e te):PO X (some e) (HX te):=by
 intro pins s Z H Q I hw
 rw[evalPart_some]
 refine thn (h pins s Z H _ I hw) λu s1 ⟨x,H1,I1,r1,q1⟩=>?_
 obtain⟨i,rfl,q⟩:=q1
 obtain⟨t,rfl⟩:=r1
 exact⟨some i,H1,I1,.int i t,q⟩
def SlR(X:Cx)(r:V->Option Int->Option Int->Hp->VK->Prop):Prop :=
 ∀(pins:zzk) (s:Shared) (Z:St) (H:Hp) (x:V) (v vl vu:Value) (lo hi:Option Int) (sl:Addr) (Q:VK),Inv X pins Z H s->RelV x v->s.heap.IsSliceOf sl vl vu .none->IsPart vl lo->IsPart vu hi->r x lo hi H Q ->
  ∃T id,typeLookup (.type T) "__getitem__" = pure (some (.builtin id))/\s.TypeIs v T/\wpAny (model X.prog X.w) X.A (getItem v (.ref sl)) (EP X pins Z Q) X.xe s
theorem SlR.or{r r':V->Option Int->Option Int->Hp->VK->Prop}(h:SlR X r)(h':SlR X r'):SlR X (λx lo hi H Q=>r x lo hi H Q\/r' x lo hi H Q):=by
 intro pins s Z H x v vl vu lo hi sl Q I rx hs pl pu q
 rcases q with q|q
 ·exact h pins s Z H x v vl vu lo hi sl Q I rx hs pl pu q
 ·exact h' pins s Z H x v vl vu lo hi sl Q I rx hs pl pu q
def tSl(r:V->Option Int->Option Int->Hp->VK->Prop)(te:TE)(tl th:TO):TE:=λZ H Q=>te Z H λx H1=>tl Z H1 λl H2=>th Z H2 λu H3=>r x l u H3 Q
theorem uG{r:V->Option Int->Option Int->Hp->VK->Prop}(hr:SlR X r)(he:PE X e te)(hl:PO X lo tl)(hu:PO X hi th):PE X (.Subscript e (.Slice lo hi none p2) pos) (tSl r te tl th):=by
 intro pins s Z H Q I h
 refine Subscript_ (thn (he pins s Z H _ I h) λv s1 ⟨x,H1,I1,r1,q1⟩=>?_)
 refine wpAny_Slice (thn (hl pins s1 Z H1 _ I1 q1) λvl s2 ⟨l,H2,I2,pl,q2⟩=>thn (hu pins s2 Z H2 _ I2 q2) λvu s3 ⟨u,H3,I3,pu,q3⟩=>?_)
 rw[evalPart_none]
 refine zzb ?_
 have I4:Inv X pins Z H3 { s3 with heap:=s3.heap.push { cls:=.type "slice",data:=.fields #[vl,vu,.none] } }:=I3.kept (t':=s3.toks) λb ob q=>zzc _ q
 obtain⟨T,id,hT,ht,hg⟩:=hr pins { s3 with heap:=s3.heap.push { cls:=.type "slice",data:=.fields #[vl,vu,.none] } } Z H3 x v vl vu l u s3.heap.objs.size Q I4 r1 (Heap.IsSliceOf.new ..) pl pu q3
 show wpAny (model X.prog X.w) X.A (subscriptTail e (.Slice lo hi none p2) v (.ref s3.heap.objs.size)) (EP X pins Z Q) X.xe { s3 with heap:=s3.heap.push { cls:=.type "slice",data:=.fields #[vl,vu,.none] } }
 exact tail_any (ops:=[.ref s3.heap.objs.size,v]) ht hT hg (by with_unfolding_all rfl)
def vx(xs:List V)(lo hi:Option Int):List V:=(xs.drop (HT.sIx xs.length 0 lo)).take (HT.sIx xs.length xs.length hi - HT.sIx xs.length 0 lo)
theorem mS(xs:List V)(lo hi:Option Int):(vx xs lo hi).length<=xs.length:=by
 unfold vx
 rw[ls,u8]
 lia
def Kq(K:PySem.W.Frag):V->Option Int->Option Int->Hp->VK->Prop:=λx lo hi H Q=>∃a xs,x=.ref a/\SqT K H a xs /\
 ¬ (HT.sIx xs.length 0 lo=0/\HT.sIx xs.length xs.length hi=xs.length)/\∀p,H p=none->Q (.ref p) (upd H p (.tup (vx xs lo hi)))
theorem sl_tup:SlR X (Kq X.K):=by
 intro pins s Z H x v vl vu lo hi sl Q I rx hs pl pu h
 obtain⟨a,xs,rfl,hx,hw,q⟩:=h
 cases rx
 obtain⟨its,r,ht,hz⟩:=I.tuple hx
 have hlen:its.toArray.size=xs.length:=by rw[ce];exact r.length.symm
 refine⟨"tuple",_,PyProof.Rows.slot_tuple_getitem.lookup,ht.typeIs,?_⟩
 refine HT.getItem_tuple_cut ht hs pl pu (by rw[hlen];exact hw) ?_ (by rw[hlen];exact hz)
 rw[hlen]
 refine⟨.ref s.heap.objs.size,_,I.laid (t':=s.toks) (o:=.tup (vx xs lo hi)) (λb ob q=>zzc _ q) (ay _) ?_,rfl,q _ (I.hok.fresh (ay _))⟩
 exact⟨bj (mS xs lo hi) hz,_,(r.drop (HT.sIx xs.length 0 lo)).take (HT.sIx xs.length xs.length hi - HT.sIx xs.length 0 lo),IsTup.new _ _,TupN.new _ _⟩
def IA(K:PySem.W.Frag):R2:=λx y H Q=>∃a b ns ms,x=.ref a/\y=.ref b/\SqT K H a (ns.map V.int)/\SqT K H b (ms.map V.int)/\Q (.bl (HT.lexLt ns ms)) H
theorem GD(hu:X.A.units<cLine):OpR X (compareOp .Lt) (IA X.K):=by
 intro pins s Z H x y v u Q I rx ry h
 obtain⟨a,b,ns,ms,rfl,rfl,ha,hb,q⟩:=h
 cases rx
 cases ry
 obtain⟨its,r1,p1,_⟩:=I.tuple ha
 obtain⟨its2,r2,p2,_⟩:=I.tuple hb
 have i1:IntsAre its.toArray.toList ns:=intsAre_of r1
 have i2:IntsAre its2.toArray.toList ms:=intsAre_of r2
 exact HT.lt_tupInts p1 p2 i1 i2 hu ⟨.bl (HT.lexLt ns ms),H,I,rfl,q⟩
def IQ(K:PySem.W.Frag):R2:=λx y H Q=>∃a b xs ys,x=.ref a/\y=.ref b/\SqT K H a xs/\SqT K H b ys/\xs≠[]/\xs.length+ys.length<=sizeLine /\
 (ys=[]->Q (.ref a) H)/\(ys≠[]->∀p,H p=none->Q (.ref p) (upd H p (.tup (xs++ys))))
theorem Vals.nil_iff{us:List Value}(r:Vals xs us):us=[]↔xs=[]:=by
 cases r with
 | nil=>simp
 | cons _ _=>simp
theorem DH:OpR X (binaryOp .Add) (IQ X.K):=by
 intro pins s Z H x y v u Q I rx ry h
 obtain⟨a,b,xs,ys,rfl,rfl,ha,hb,hx,hz,q1,q2⟩:=h
 cases rx
 cases ry
 obtain⟨its,r1,p1,_⟩:=I.tuple ha
 obtain⟨its2,r2,p2,_⟩:=I.tuple hb
 refine HT.cat_tup p1 p2 (λz=>hx (r1.nil_iff.mp z)) (λz=>⟨.ref a,H,I,rfl,q1 (r2.nil_iff.mp z)⟩) (λz=>?_) (by rw[<-r1.length,<-r2.length];exact hz)
 refine⟨.ref s.heap.objs.size,_,I.laid (t':=s.toks) (o:=.tup (xs++ys)) (λb ob q=>zzc _ q) (ay _) ?_,rfl,q2 (λw=>z (r2.nil_iff.mpr w)) _ (I.hok.fresh (ay _))⟩
 exact⟨by rw[zzf];exact hz,_,r1.append r2,IsTup.new _ _,TupN.new _ _⟩
end
def ixN(n:Nat)(i:Int):Option Nat:=if 0<=i then(if i<n then some i.toNat else none)else if -(n:Int)<=i then some (i+n).toNat else none
def atI{α:Type}(xs:List α)(i:Int):Option α:=(ixN xs.length i).bind λj=>xs[j]?
theorem yN{i:Int}{j:Nat}(h:ixN n i=some j):seqIndex? i n=some j/\j<n /\ -(n:Int)<=i/\i<n:=by
 unfold ixN at h
 by_cases h0:0<=i
 ·rw[ai h0]at h
  by_cases h1:i<n
  ·rw[ai h1]at h
   have e:i.toNat=j:=Option.some.inj h
   exact⟨by rw[seqIndex_of h0 h1,e],by lia,by lia,h1⟩
  ·rw[ac h1]at h;cases h
 ·rw[ac h0]at h
  by_cases h1 : -(n:Int)<=i
  ·rw[ai h1]at h
   have e:(i+n).toNat=j:=Option.some.inj h
   exact⟨by rw[seqIndex_neg (by lia) h1,e],by lia,h1,by lia⟩
  ·rw[ac h1]at h;cases h
theorem tX{α:Type}{xs:List α}{i:Int}{v:α}(h:atI xs i=some v):∃j,seqIndex? i xs.length=some j/\xs[j]? = some v/\j<xs.length /\ -(xs.length:Int)<=i/\i<xs.length:=by
 unfold atI at h
 cases e:ixN xs.length i with
 | none=>rw[e]at h;cases h
 | some j =>
  rw[e]at h
  obtain⟨h1,h2,h3,h4⟩:=yN e
  exact⟨j,h1,h,h2,h3,h4⟩
def t0(b:Expr):Prop:=∀o i,subscripted b false o i=operate [o,i] (getItem o i)
def IxR(X:Cx)(r:R2):Prop :=
 ∀(value slice:Expr) (pins:zzk) (s:Shared) (Z:St) (H:Hp) (x y:V) (v u:Value) (Q:VK),Inv X pins Z H s->RelV x v->RelV y u->r x y H Q ->
  subscripted slice false v u=operate [v,u] (getItem v u)->wpAny (model X.prog X.w) X.A (subscriptTail value slice v u) (EP X pins Z Q) X.xe s
def MtR(X:Cx)(id:String)(r:V->List V->Hp->VK->Prop):Prop :=
 ∀(pins:zzk) (s:Shared) (Z:St) (H:Hp) (x:V) (xs:List V) (v:Value) (us:List Value) (Q:VK),Inv X pins Z H s->RelV x v->Vals xs us->r x xs H Q ->
  wpAny (model X.prog X.w) X.A (call (.builtin id) (v::us)) (EP X pins Z Q) X.xe s
section
variable {a b:Expr} {ta tb:TE} {pos:Pos}
theorem IxR.or{r r':R2}(h:IxR X r)(h':IxR X r'):IxR X (λx y H Q=>r x y H Q\/r' x y H Q):=by
 intro value slice pins s Z H x y v u Q I rx ry q hs
 rcases q with q|q
 ·exact h value slice pins s Z H x y v u Q I rx ry q hs
 ·exact h' value slice pins s Z H x y v u Q I rx ry q hs
theorem Fe{r:R2}(hr:IxR X r)(ha:PE X a ta)(hb:PE X b tb)(hs:t0 b):PE X (.Subscript a b pos) (tOp r ta tb):=by
 intro pins s Z H Q I h
 exact Subscript_ (Hv ha hb I h λv u s2 x y H2 I2 rx ry q=>hr a b pins s2 Z H2 x y v u Q I2 rx ry q (hs _ _))
def IJ(K:PySem.W.Frag):R2:=λx y H Q=>∃p xs i v,x=.ref p/\y=.int i/\SqL K H p xs/\atI xs i=some v/\Q v H
def IH(K:PySem.W.Frag):R2:=λx y H Q=>∃p xs i v,x=.ref p/\y=.int i/\SqT K H p xs/\atI xs i=some v/\Q v H
def II:R2:=λx y H Q=>∃z i c,x=.str z/\y=.int i/\z.length<=sizeLine/\atI z.cps.toList i=some c/\Q (.str ⟨#[c]⟩) H
theorem ix_list:IxR X (IJ X.K):=by
 intro value slice pins s Z H x y v u Q I rx ry h hs
 obtain⟨p,xs,i,z,rfl,rfl,hq,he,q⟩:=h
 cases rx
 obtain⟨t,rfl⟩:=ry
 obtain⟨its,r,pl,hz⟩:=I.list hq
 obtain⟨j,h1,h2,h3,h4,h5⟩:=tX he
 obtain⟨w,ew,rw'⟩:=r.get h2
 have hl:=r.length
 have hn:=jZ
 have fin:EP X pins Z Q w s:=⟨z,H,I,rw',q⟩
 by_cases h0:0<=i
 ·have hj:i.toNat=j:=by
   rw[seqIndex_of h0 h5]at h1
   exact Option.some.inj h1
  exact item_listR pl.isList h0 (by lia) (by rw[hj];simpa using ew) fin hs
 ·have hj:(i+(its.toArray.size:Int)).toNat=j:=by
   rw[seqIndex_neg (by lia) h4]at h1
   rw[ce,<-hl]
   exact Option.some.inj h1
  exact subscriptTail_builtinR (x:=w) pl.isList.typeIs slot_list_getitem.lookup
   (wpAny_getItem_list_neg (Q:=λr s'=>r=w/\EP X pins Z Q r s') pl.isList (by lia) (by rw[ce]<;>lia) (by lia) (by rw[hj];simpa using ew) ⟨rfl,fin⟩) hs
theorem ix_tup:IxR X (IH X.K):=by
 intro value slice pins s Z H x y v u Q I rx ry h hs
 obtain⟨p,xs,i,z,rfl,rfl,hq,he,q⟩:=h
 cases rx
 obtain⟨t,rfl⟩:=ry
 obtain⟨its,r,pl,hz⟩:=I.tuple hq
 obtain⟨j,h1,h2,h3,h4,h5⟩:=tX he
 obtain⟨w,ew,rw'⟩:=r.get h2
 have hl:=r.length
 have hn:=jZ
 have fin:EP X pins Z Q w s:=⟨z,H,I,rw',q⟩
 exact subscriptTail_builtinR (x:=w) pl.typeIs slot_tuple_getitem.lookup
  (getItem_tuple (j:=j) (Q:=λr s'=>r=w/\EP X pins Z Q r s') pl (by lia) (by lia) (by rw[ce,<-hl];exact h1) (by simpa using ew) ⟨rfl,fin⟩) hs
theorem G7:IxR X II:=by
 intro value slice pins s Z H x y v u Q I rx ry h hs
 obtain⟨z,i,c,rfl,rfl,hz,he,q⟩:=h
 obtain⟨t,rfl⟩:=rx
 obtain⟨t',rfl⟩:=ry
 obtain⟨j,h1,h2,h3,h4,h5⟩:=tX he
 have hl:z.cps.toList.length=z.length:=by simp[Str.length]
 rw[hl]at h1 h4 h5
 have hn:=jZ
 exact tail_any (Ma s z t) slot_str_getitem.lookup (getItem_str (c:=c) (by
  have e1:decide (i < -(2^63:Int))=false:=bi (by lia)
  have e2:decide (i>=2^63)=false:=bi (by lia)
  rw[e1,e2,Bool.or_false]) (by rw[h1];simpa using h2) ⟨.str ⟨#[c]⟩,H,I.tok _,⟨_,rfl⟩,q⟩) hs
def rIx(K:PySem.W.Frag):R2:=λx y H Q=>IJ K x y H Q\/IH K x y H Q\/II x y H Q
theorem G8:IxR X (rIx X.K):=ix_list.or (ix_tup.or G7)
theorem wN(its:List Value)(n j:Nat)(u:Value):Obj.mapSeq (·.setIfInBounds j u) { cls:=.type "list",data:=.seq its.toArray n }={ cls:=.type "list",data:=.seq (its.set j u).toArray n }:=by
 simp[Obj.mapSeq]
theorem Inv.lst{s:Shared}{p:Addr}(I:Inv X pins Z H s)(h:H p=some (.lst xs)) :
  ∃(its:List Value) (n:Nat),Vals xs its/\s.heap.get? p=some { cls:=.type "list",data:=.seq its.toArray n }/\xs.length<=sizeLine:=by
 obtain⟨z,its,n,r,e⟩:=I.hok p _ h
 exact⟨its,n,r,e,z⟩
theorem Inv.lstUpd{s:Shared}{p:Addr}{ys:List V}{its its':List Value}{n':Nat}{f:Obj->Obj}(I:Inv X pins Z H s)(h:H p=some (.lst xs))
  (ho:s.heap.get? p=some { cls:=.type "list",data:=.seq its.toArray n }) (hf:f { cls:=.type "list",data:=.seq its.toArray n }={ cls:=.type "list",data:=.seq its'.toArray n' }) (r:Vals ys its') (hz:ys.length<=sizeLine) (t:Nat) :
  Inv X pins Z (upd H p (.lst ys)) { s with heap:=s.heap.update p f,toks:=t }:=by
 have e:(s.heap.update p f).get? p=some { cls:=.type "list",data:=.seq its'.toArray n' }:=by
  rw[la f ho (by rw[hf]<;>rfl),hf]
 refine I.write (x:=p) (e:=p) (by rw[h];trivial) (.inl rfl) (λb u hb q=>(mn _ _ (Ne.symm hb)).trans q) ⟨_,e⟩ ?_
 exact⟨hz,its',n',r,e⟩
def Iy:V->V->V->Hp->(Hp->Prop)->Prop:=λo i v H Q=>∃p xs k j,o=.ref p/\i=.int k/\H p=some (.lst xs)/\ixN xs.length k=some j/\Q (upd H p (.lst (xs.set j v)))
theorem set_list:JW X Iy:=by
 intro pins s Z H o i v ov iv u Q I ro ri rv h
 obtain⟨p,xs,k,j,rfl,rfl,hp,hj,q⟩:=h
 cases ro
 obtain⟨t,rfl⟩:=ri
 obtain⟨its,n,r,ho,hz⟩:=I.lst hp
 obtain⟨h1,h2,h3,h4⟩:=yN hj
 have hl:=r.length
 have hn:=jZ
 have I':Inv X pins Z (upd H p (.lst (xs.set j v))) { s with heap:=s.heap.update p (Obj.mapSeq (·.setIfInBounds j u)) } :=
  I.lstUpd hp ho (wN its n j u) (r.set rv j) (by rw[List.length_set];exact hz) s.toks
 by_cases h0:0<=k
 ·have hk:k.toNat=j:=by
   rw[seqIndex_of h0 h4]at h1
   exact Option.some.inj h1
  exact PySem.W.ki_setAt ho h0 (by lia) (by rw[ce,<-hl];exact h4) (by rw[hk];exact⟨_,I',q⟩)
 ·have hk:(k+(its.toArray.size:Int)).toNat=j:=by
   rw[seqIndex_neg (by lia) h3]at h1
   rw[ce,<-hl]
   exact Option.some.inj h1
  exact PySem.W.ki_setBack ho (by lia) (by rw[ce,<-hl];exact h3) (by lia) (by rw[hk];exact⟨_,I',q⟩)
theorem sr(lo hi:Option Int)(n:Nat):(sliceBounds lo hi none n).1=((HT.sIx n 0 lo:Nat):Int)/\(sliceBounds lo hi none n).2.1=((HT.sIx n n hi:Nat):Int)/\(sliceBounds lo hi none n).2.2=1:=by
 refine⟨?_,?_,rfl⟩
 ·cases lo with
  | none=>simp[sliceBounds,HT.sIx]
  | some i =>
   simp only[sliceBounds,HT.sIx,Option.getD_none,show(1:Int)>0 by decide,LF]
   by_cases h:i<0
   ·simp only[h,LF]<;>lia
   ·simp only[h,if_false]<;>lia
 ·cases hi with
  | none=>simp[sliceBounds,HT.sIx]
  | some i =>
   simp only[sliceBounds,HT.sIx,Option.getD_none,show(1:Int)>0 by decide,LF]
   by_cases h:i<0
   ·simp only[h,LF]<;>lia
   ·simp only[h,if_false]<;>lia
theorem ql(its:List Value)(lo hi:Option Int):slicePick its.toArray lo hi none=((its.drop (HT.sIx its.length 0 lo)).take (HT.sIx its.length its.length hi - HT.sIx its.length 0 lo)).toArray:=by
 obtain⟨h1,h2,h3⟩:=sr lo hi its.toArray.size
 unfold slicePick
 rw[h1,h2,h3]
 simp only[sliceRange_one,pick_run,ce]<;>rfl
def Ks(K:PySem.W.Frag):V->Option Int->Option Int->Hp->VK->Prop:=λx lo hi H Q=>∃a xs,x=.ref a/\SqL K H a xs/\∀p,H p=none->Q (.ref p) (upd H p (.lst (vx xs lo hi)))
theorem Dk:SlR X (Ks X.K):=by
 intro pins s Z H x v vl vu lo hi sl Q I rx hs pl pu h
 obtain⟨a,xs,rfl,hx,q⟩:=h
 cases rx
 obtain⟨its,r,ht,hz⟩:=I.list hx
 have hlen:=r.length
 refine⟨"list",_,slot_list_getitem.lookup,ht.isList.typeIs,?_⟩
 refine wpAny_getItem_list_slice ht.isList hs pl pu .none (by simp) ?_ (by rw[ce]<;>lia)
 rw[ql,<-hlen]
 refine⟨.ref s.heap.objs.size,_,I.laid (t':=s.toks) (o:=.lst (vx xs lo hi)) (λb ob q=>zzc _ q) (ay _) ?_,rfl,q _ (I.hok.fresh (ay _))⟩
 exact⟨bj (mS xs lo hi) hz,_,0,(r.drop (HT.sIx xs.length 0 lo)).take (HT.sIx xs.length xs.length hi - HT.sIx xs.length 0 lo),zze _ rfl⟩
theorem tR:CallR X (.builtin "len") (λxs H Q=>∃p ys,xs=[.ref p]/\(SqL X.K H p ys\/SqT X.K H p ys)/\Q (.int ys.length) H):=by
 intro pins s Z H xs us Q I r h
 obtain⟨p,ys,rfl,hq,q⟩:=h
 obtain⟨u,rfl,rx⟩:=vals1 r
 cases rx
 have hn:=jZ
 rcases hq with hq|hq
 ·obtain⟨its,r',pl,hz⟩:=I.list hq
  have hlen:=r'.length
  exact Calls.call_len_list pl.isList (by simp only[ce]<;>lia) ⟨.int ys.length,H,I.tok _,⟨s.toks+1,by rw[ce,hlen]⟩,q⟩
 ·obtain⟨its,r',pl,hz⟩:=I.tuple hq
  have hlen:=r'.length
  exact len_tuple pl (by simp only[ce]<;>lia) ⟨.int ys.length,H,I.tok _,⟨s.toks+1,by rw[ce,hlen]⟩,q⟩
theorem tQ:CallR X (.builtin "len") (λxs H Q=>∃z,xs=[.str z]/\z.length<=sizeLine/\Q (.int z.length) H):=by
 intro pins s Z H xs us Q I r h
 obtain⟨z,rfl,hz,q⟩:=h
 obtain⟨u,rfl,t,rfl⟩:=vals1 r
 have hn:=jZ
 exact len_str (by lia) ⟨.int z.length,H,I.tok _,⟨_,rfl⟩,q⟩
theorem CallR.or{f:Value}{r r':List V->Hp->VK->Prop}(h:CallR X f r)(h':CallR X f r'):CallR X f (λxs H Q=>r xs H Q\/r' xs H Q):=by
 intro pins s Z H xs us Q I rs q
 rcases q with q|q
 ·exact h pins s Z H xs us Q I rs q
 ·exact h' pins s Z H xs us Q I rs q
theorem cH:CallR X (.type "tuple") (λxs H Q=>∃p ys,xs=[.ref p]/\((SqL X.K H p ys/\∀l,H l=none->Q (.ref l) (upd H l (.tup ys)))\/(SqT X.K H p ys/\Q (.ref p) H))):=by
 intro pins s Z H xs us Q I r h
 obtain⟨p,ys,rfl,h⟩:=h
 obtain⟨u,rfl,rx⟩:=vals1 r
 cases rx
 rcases h with ⟨hq,q⟩|⟨hq,q⟩
 ·obtain⟨its,r',pl,hz⟩:=I.list hq
  have hlen:=r'.length
  refine call_tuple_list pl.isList (λh' kp=>?_) (by simp only[ce]<;>lia)
  have I1:Inv X pins Z H { s with heap:=h' }:=I.kept (t':=s.toks) kp
  have I2:Inv X pins Z (upd H h'.objs.size (.tup ys)) { s with heap:=h'.push { cls:=.type "tuple",data:=.seq its.toArray } } :=
   I1.laid (t':=s.toks) (λb o e=>zzc _ e) (ay _) (show ObjOk X.prog X.w _ _ _ (.tup ys)from⟨hz,its,r',IsTup.new _ _,TupN.new _ _⟩)
  exact⟨.ref h'.objs.size,_,I2,rfl,q _ (I1.hok.fresh (ay _))⟩
 ·obtain⟨its,r',pl,hz⟩:=I.tuple hq
  exact call_tuple_same pl ⟨.ref p,H,I,rfl,q⟩
def tyV(K:PySem.W.Frag)(T:String)(x:V)(H:Hp):Prop:=match x with
 | .str _=>T = "str"
 | .int _=>T = "int"
 | .ref p=>(T = "list" /\ ∃xs,SqL K H p xs)\/(T = "tuple" /\ ∃o,K.lookup p=some o/\o.cls=.type "tuple" /\ o.dict=none) \/
   (T = "dict" /\ ((∃kvs,H p=some (.dK kvs))\/∃kvs,H p=some (.dT kvs)))\/(T = "set" /\ ∃S n,H p=some (.set S n))
 | _=>False
theorem AD{s:Shared}{T:String}{x:V}{v:Value}(I:Inv X pins Z H s)(r:RelV x v)(ty:tyV X.K T x H) :
  s.TypeIs v T/\∀a,v=.ref a->∃ob,s.heap.get? a=some ob/\ob.dict=none:=by
 cases x with
 | str z =>
  obtain⟨t,rfl⟩:=r
  cases (show T = "str" from ty)
  exact⟨Ma s z t,λ_ e=>nomatch e⟩
 | int i =>
  obtain⟨t,rfl⟩:=r
  cases (show T = "int" from ty)
  exact⟨typeIs_int s i t,λ_ e=>nomatch e⟩
 | ref p =>
  cases r
  rcases ty with ⟨rfl,xs,hq⟩|⟨rfl,o,hk,hc,hd⟩|⟨rfl,hk⟩|⟨rfl,S,n,hk⟩
  ·obtain⟨its,_,pl,_⟩:=I.list hq
   refine⟨pl.isList.typeIs,λa e=>?_⟩
   cases e
   obtain⟨o,n,e,c,hd,_⟩:=pl
   exact⟨o,e,hd⟩
  ·refine⟨⟨o,I.kIn p o hk,hc⟩,λa e=>?_⟩
   cases e
   exact⟨o,I.kIn _ o hk,hd⟩
  ·have z:∃o,s.heap.get? p=some o/\o.ExactDict:=by
    rcases hk with ⟨kvs,hk⟩|⟨kvs,hk⟩
    ·obtain⟨_,_,_,_,o,_,_,e,ex,_⟩:=I.hok p _ hk
     exact⟨o,e,ex⟩
    ·obtain⟨_,_,_,_,o,_,_,e,ex,_⟩:=I.hok p _ hk
     exact⟨o,e,ex⟩
   obtain⟨o,e,ex⟩:=z
   refine⟨⟨o,e,ex.1⟩,λa e2=>?_⟩
   cases e2
   exact⟨o,e,ex.2.1⟩
  ·obtain⟨o,_,_,_,e,ex,_⟩:=I.hok p _ hk
   refine⟨⟨o,e,ex.1⟩,λa e2=>?_⟩
   cases e2
   exact⟨o,e,ex.2.1⟩
 | _=>exact False.elim ty
def tBM(K:PySem.W.Frag)(T:String)(r:V->List V->Hp->VK->Prop)(to:TE)(t:TA):TE:=λZ H Q=>to Z H λx H1=>tyV K T x H1/\t Z H1 λxs H2=>r x xs H2 Q
variable {o e:Expr} {es:List Expr} {to:TE} {t:TA} {name:Str} {apos cpos:Pos} {T id:String} {r:V->List V->Hp->VK->Prop}
theorem IX(pa:PlainAttrs T)(slot:Slot T name id)(hty:typeOf (.builtin id)=pure (.type "method_descriptor"))(hm:MtR X id r)(ho:PE X o to)(ha:PA X (e::es) t)
  (hbase:attributeBase o name X.env (eval o X.env)=eval o X.env:=by rfl)
  (hfew:((backTo cpos (starEach (e::es) X.env)).all (λx=>!x.1)&&(backToKw cpos (keywordEach [] X.env)).all (λx=>x.1.isSome)
   && decide ((e::es).length+([]:List Keyword).length+(if([]:List Keyword).isEmpty then 0 else 1)<30))=true:=by rfl)
  (hline:(apos.endLine==cpos.line)=true:=by rfl) (hs:starEach (e::es) X.env=(false,eval e X.env)::starEach es X.env:=by rfl) (hplain:(backTo cpos (starEach es X.env)).any (·.1)=false:=by rfl) :
  PE X (.Call (.Attribute o name apos) (e::es) [] cpos) (tBM X.K T r to t):=by
 intro pins s Z H Q I h
 refine wpAny_Call_method_late hbase hfew hline rfl (thn (ho pins s Z H _ I h) λv s1 ⟨x,H1,I1,r1,ty,q1⟩=>?_)
 obtain⟨h1,h2⟩:=AD I1 r1 ty
 refine⟨T,id,pa,slot,hty,h1,h2,?_⟩
 have hA:=ha cpos pins s1 Z H1 _ I1 q1
 rw[hs]at hA ⊢
 refine Calls.callWith_builtin (by show(false||(backTo cpos (starEach es X.env)).any (·.1))=false;rw[hplain]<;>rfl) (Calls.evalArgs_plain ?_)
 exact thn hA λus s2 ⟨vs,H2,I2,r2,q2⟩=>hm pins s2 Z H2 x vs v us Q I2 r1 r2 q2
end
def MtM(X:Cx)(id:String)(r:V->List V->Hp->VK->Prop):Prop :=
 ∀(pins:zzk) (s:Shared) (Z:St) (H:Hp) (x:V) (xs:List V) (v:Value) (us:List Value) (Q:VK),Inv X pins Z H s->RelV x v->Vals xs us->r x xs H Q ->
  wpAny (model X.prog X.w) X.A (call (.builtin id) (v::us)) (EP X pins Z Q) X.xe s
theorem Vals.one:∀{x:V} {us:List Value},Vals [x] us->∃u,us=[u]/\RelV x u:=by
 intro x us h
 cases h with
 | cons r t=>cases t;exact⟨_,rfl,r⟩
section
variable {s:Shared} {l b:Addr} {ys zs:List V}
theorem Inv.lset{its its':List Value}{f:Array Value->Array Value}{t':Nat}(I:Inv X pins Z H s)(hH:H l=some (.lst xs))
  (e:s.heap.get? l=some { cls:=.type "list",data:=.seq its.toArray n }) (hf:f its.toArray=its'.toArray) (hv:Vals ys its') (hz:ys.length<=sizeLine) :
  Inv X pins Z (upd H l (.lst ys)) { s with heap:=s.heap.update l (Obj.mapSeq f),toks:=t' }:=by
 have q:=PySem.IsL.update e f
 rw[hf]at q
 refine I.write (x:=l) (e:=l) (by rw[hH];exact trivial) (.inl rfl) (λb' u hb hu=>(mn s.heap (Obj.mapSeq f) (Ne.symm hb)).trans hu) ⟨_,q⟩ ?_
 exact⟨hz,its',_,hv,q⟩
theorem Inv.lstM(I:Inv X pins Z H s)(hH:H l=some (.lst xs)):xs.length<=sizeLine/\∃(its:List Value) (n:Nat),Vals xs its/\xs.length=its.length/\s.heap.get? l=some { cls:=.type "list",data:=.seq its.toArray n }:=by
 obtain⟨z,its,n,r,e⟩:=I.hok l _ hH
 exact⟨z,its,n,r,r.length,e⟩
end
section
def Dr:V->List V->Hp->VK->Prop:=λx vs H Q=>∃l xs y,x=.ref l/\vs=[y]/\H l=some (.lst xs)/\xs.length<sizeLine/\Q .non (upd H l (.lst (xs++[y])))
theorem zZ:MtM X "list.append" Dr:=by
 intro pins s Z H x vs v us Q I rx rv h
 obtain⟨l,xs,y,rfl,rfl,hH,hz,q⟩:=h
 cases rx
 obtain⟨u,rfl,ru⟩:=rv.one
 obtain⟨z,its,n,r,hl,e⟩:=I.lstM hH
 refine call_meets F.slot_list_append ⟨_,e,rfl⟩ F.entry_list_append (F.args_list_append_2 _ _) (PySem.list_append l its.toArray n u (by rw[ce];lia)) ⟨e,?_⟩
 refine⟨.non,_,I.lset (its':=its++[u]) hH e (by simp) (r.append (.cons ru .nil)) ?_,rfl,q⟩
 rw[zzf,List.length_singleton]
 lia
end
end L2
namespace Att
open PySem PySem.W PySem.Calls PyProof.Rows
theorem m8{P:Params}{h:Heap}:∀(ns:List Int) (vs:List Value),WellAll P h vs (ns.map WData.int)->IntsAre vs ns:=by
 intro ns
 induction ns with
 | nil =>
  intro vs w
  rw[wE]at w
  cases w
  exact .nil
 | cons n ns ih =>
  intro vs w
  rw[ba]at w
  cases w with
  | cons a b =>
   cases a
   exact .cons _ _ (ih _ b)
theorem zH{l:OpenLaw}{n:Nat}(hn:l.most=some n){P:Params}{h:Heap}{args:List WData}{vals:List Value}
  (hpre:l.row.toRowW.claim.pre args=true) (hwl:WellAll P h vals args) :
  ∃a vs ns,vals=[Value.ref a]/\args=[WData.list (ns.map WData.int)]/\h.get? a=some { cls:=.type "list",data:=.seq vs.toArray }/\IntsAre vs ns/\ns.length<=n:=by
 have hsh:WShape.hasAll [] args [.list .int]=true:=(pre_splitW hpre).1
 have hc:l.pre.holds [] { args:=args }=true:=(pre_splitW hpre).2
 obtain⟨d,r,rfl,h1,h2⟩:=hasAllW_cons hsh
 obtain rfl:=hasAllW_nil h2
 obtain⟨xs,rfl,h3⟩:=hasW_list h1
 obtain⟨ns,rfl⟩:=items_int h3
 have hlen:ns.length<=n:=by
  unfold OpenLaw.pre at hc
  have h4:(WTm.not (.lt (.lit (.int (n:Int))) (.len (.arg 0)))).holds [] { args:=[.list (ns.map .int)] }=true:=by
   have h4:=(holds_andW hc).1
   rw[hn]at h4
   exact h4
  have h5:=condW_of h4 (w_not (w_lt w_lit (w_len_list (w_arg rfl))))
  rw[zzd]at h5
  refine Nat.le_of_not_lt λq=>?_
  have q':(n:Int)<((ns.length:Nat):Int):=by lia
  first
   | (rw[aw q']at h5;exact absurd h5 (by decide))
   | (simp at h5;lia)
 cases hwl with
 | cons w1 w2 =>
  cases w2
  cases w1 with
  | list ho hall=>exact⟨_,_,ns,rfl,rfl,ho,m8 ns _ hall,hlen⟩
theorem zP(l:OpenLaw)(args:List WData):l.row.toRowW.claim.post args (.bool true) args=true :=
 postW_of (r:=l.row.toRowW) (X:=(true==true))
  (show WShape.has [] (.bool true) .bool=true by first|rfl|decide|simp[WShape.has,WShape.arms,WShape.armsAll])
  (show(WTm.eq .res (.lit (.bool true))).value [] { args:=args,res:=some (.bool true),after:=args }=some (.bool (true==true))from w_eq_bool (w_res rfl) w_lit) rfl
theorem attach_call{l:OpenLaw}{n:Nat}{q:Program}{loose:List Str}{XP:(Str->Option Value)->Heap->Prop}{YP:World->Heap->Prop}{d:DefRec}
  (hn:l.most=some n) (hdf:d.params.defaults=[])
  (call:∀(w:World) (s₀ s₁:Shared) (mg mb:zzl) (fa:Addr) (o:Obj) (pm cd doc:Value) (a:Addr) (vs:List Value) (ns:List Int),
   Ground q loose [] XP w s₀ mg mb s₁.heap->YP w s₁.heap ->
   s₁.heap.get? fa=some o->o.data=.func (docDef d.name d.params d.body d.scope pm cd doc)->s₁.heap.CodeRec cd d.name->mg d.name=some (.ref fa) ->
   s₁.heap.get? a=some { cls:=.type "list",data:=.seq vs.toArray }->IntsAre vs ns->ns.length<=n->s₁.gens = #[] ->
   codeAny (model l.prog w) callerA (.call (.ref fa) ⟨[.ref a],[]⟩) (λr s'=>r=.ok (.ret (.bool true))/\OldK s₁.heap s'.heap/\s'.os=s₁.os/\AllBare s'.gens) s₁) :
  WalkO q loose XP YP l.row.toRowW d [] (λf vs=>PySem.call f vs):=by
 intro w s₀ s₁ mg mb G Y fa o pm cd doc dV kV ho hd hcd hD hmg hg args vals as hpre hlay hrd hwl hlo
 obtain rfl:dV=.none:=Dflts.none hD hdf
 obtain rfl:kV=.none:=Dflts.noKw hD
 obtain⟨a,vs,ns,rfl,rfl,hobj,hints,hlen⟩:=zH hn hpre hwl
 refine enter_call (GU (call w s₀ s₁ mg mb fa o pm cd doc a vs ns G Y ho (fd_plain hd) hcd hmg hobj hints hlen hg) λr s' hq=>?_)
 obtain⟨rfl,h2,h3,h4⟩:=hq
 exact⟨.inl ⟨.bool true,.bool true,[],rfl,λ_=>rfl,.bool true,zP l _,λ_=>⟨List.Pairwise.nil,λ_ hm=>(nomatch hm)⟩⟩,h2,h3,h4⟩
end Att
namespace L2
open PySem PySem.Spec PyProof.Rows
variable {H H':Hp}{X:Cx}{w:World}{P:Program}{pos:Pos}{a:Addr}{scope:Scope}{x:Str}{elt iter tg:Expr}{ifs:List Expr}{y:V}{u:Value}{kvs:List (List Key×V)}{pins:zzk}{Z:St}{N':List Str}{g:TG}{tc:TT}{te:TE}{o:Option V}{Q:zzj}
theorem qE:∀{vs:List Value} {ns:List Int},IntsAre vs ns->Vals (ns.map V.int) vs
 | _,_,.nil=>.nil
 | _,_,.cons n t h=>.cons ⟨t,rfl⟩ (qE h)
def HK(H:Hp):Prop:=∀b,H b=none\/∃o xs,H b=some (.frz o (.lst xs))
theorem BR{K:PySem.W.Frag}{mg mb:zzl}{CX:CXT}{k:Nat}{fa:Addr}{fd:FuncData}{sp:Sp}{s₁:Shared}{vs:List Value}{ns:List Int}
  (KX:K.In s₁.heap) (hns:s₁.heap.Ns mainGlobals mg) (hb:s₁.heap.Ns builtinsNs mb) (hbb:∀x:Str,x ≠ "__name__" -> mb x=bootBuiltins x) (hlim:s₁.heap.NoLimit) (hg:s₁.gens = #[])
  (ha:s₁.heap.get? a=some { cls:=.type "list",data:=.seq vs.toArray }) (hi:IntsAre vs ns) (hl:ns.length<=sizeLine) (hr:Room k callerA)
  (F:∀base:Heap,K.In base->base.Ns mainGlobals mg->FnOk P w K mg base CX k fa fd [x] sp) (hbind:∀(s:Shared) (u:Value),BindsTo s fd ⟨[u],[]⟩ [(x,u)])
  (hsp:∀H:Hp,HK H->SqL K H a (ns.map V.int)->sp [.ref a] H (λv _=>v=.bl true) λ_ _ _=>False)
  (hCX:∀H e s',CX [] H s₁ (λ_ _ _=>False) e s'->False) :
  codeAny (model P w) callerA (.call (.ref fa) ⟨[.ref a],[]⟩) (λr s'=>r=.ok (.ret (.bool true))/\OldK s₁.heap s'.heap/\s'.os=s₁.os/\AllBare s'.gens) s₁:=by
 have rv:=qE hi
 have lenV:=hi.length
 have core:∀H:Hp,HK H->SqL K H a (ns.map V.int)->HOk P w H s₁.heap->(∀b,H b≠none->b=a)->(H a≠none->K.lookup a=none) ->
   codeAny (model P w) callerA (.call (.ref fa) ⟨[.ref a],[]⟩) (λr s'=>r=.ok (.ret (.bool true))/\OldK s₁.heap s'.heap/\s'.os=s₁.os/\AllBare s'.gens) s₁:=by
  intro H hO hS hok hA hK
  have base_of:∀{b:Addr} {o:Obj},s₁.heap.get? b=some o->H b=none->(tF s₁.heap H).get? b=some o:=λe n=>B5 e n
  have noA:∀{b:Addr} {o:Obj} {es:Array DictEntry} {ep:Nat},s₁.heap.get? b=some o->o.data=.dict es ep->H b=none:=λ{b o es ep} e d=>by
   cases q:H b with
   | none=>rfl
   | some u =>
    have e':b=a:=hA b (by rw[q];simp)
    subst e'
    rw[ha]at e;cases e
    have d':Data.seq vs.toArray _=Data.dict es ep:=d
    cases d'
  have nsK:∀{b:Addr} {m:zzl},s₁.heap.Ns b m->(tF s₁.heap H).Ns b m:=λ{b m} ⟨o,es,ep,e,d,r⟩=>⟨o,es,ep,base_of e (noA e d),d,r⟩
  have hKb:K.In (tF s₁.heap H):=λb o e=>base_of (KX b o e) (by
   cases q:H b with
   | none=>rfl
   | some u =>
    have e':b=a:=hA b (by rw[q];simp)
    subst e'
    rw[hK (by rw[q];simp)]at e;cases e)
  have hM:Mod K mg (tF s₁.heap H):=⟨hKb,nsK hns,⟨mb,nsK hb,hbb⟩,let ⟨mc,h1,h2⟩:=hlim;⟨mc,nsK h1,h2⟩⟩
  have e0:Env0 P w K mg (tF s₁.heap H) callerA [] s₁ H:=⟨rfl,hM,λb o e=>DP e,Nat.le_of_eq (Af _ _),trivial,λb hb=>absurd (show b∈([]:List Addr)from hb) (by simp),hok,.of_eq hg⟩
  refine GU ((F _ hKb (nsK hns)).run callerA [] s₁ H ⟨[.ref a],[]⟩ [.ref a] [.ref a] _ _ hr e0 (hbind s₁ (.ref a)) (.cons rfl .nil) (hsp H hO hS)) λr s' h=>?_
  cases r with
  | error e=>exact(hCX H e s' h).elim
  | ok fl =>
   cases fl with
   | next=>exact False.elim h
   | brk=>exact False.elim h
   | cont=>exact False.elim h
   | ret u =>
    obtain⟨v,H',os,bare,un,hok',r',q⟩:=h
    have q':v=.bl true:=q
    subst q'
    obtain rfl:u=Value.bool true:=r'
    refine⟨rfl,OldK.of_keep λb o e=>?_,os,bare⟩
    cases q:H b with
    | none=>exact un.keep b o e q (by intro z;exact absurd (show b∈([]:List Addr)from z) (by simp)) (by simp)
    | some u =>
     rcases hO b with z|⟨ob,xs,z⟩
     ·rw[q]at z;cases z
     ·have z2:=un.frzs b ob _ z
      obtain⟨e1,_⟩:=hok b _ z
      obtain⟨e2,_⟩:=hok' b _ z2
      rw[e]at e1;cases e1
      exact e2
 cases hk:K.lookup a with
 | some o =>
  have e:=KX a o hk
  rw[ha]at e
  cases e
  refine core (λ_=>none) (λ_=>.inl rfl) (.inr ⟨_,vs.toArray,_,hk,rfl,rfl,rfl,by rw[ce,lenV];exact hl,by simpa using rv⟩) (λb u z=>by have z':(none:Option HO)=some u:=z;cases z') (λb z=>absurd rfl z) λz=>absurd rfl z
 | none =>
  refine core (λb=>if b=a then some (.frz { cls:=.type "list",data:=.seq vs.toArray } (.lst (ns.map V.int)))else none) (λb=>?_) (.inl (.inr ⟨{ cls:=.type "list",data:=.seq vs.toArray },ai rfl⟩)) (λb u z=>?_) (λb z=>?_) λ_=>hk
  ·by_cases hb:b=a
   ·exact .inr ⟨_,_,ai hb⟩
   ·exact .inl (ac hb)
  ·by_cases hb:b=a
   ·have z':=(ai hb).symm.trans z
    cases z'
    subst hb
    exact⟨ha,by rw[zzd];exact hl,vs,_,rv,ha⟩
   ·have z':=(ac hb).symm.trans z
    cases z'
  ·by_cases hb:b=a
   ·exact hb
   ·exact absurd (ac hb) z
theorem walk_of{l:PySem.W.OpenLaw}{n k:Nat}{q:Program}{loose:List Str}{XP:(Str->Option Value)->Heap->Prop}{YP:World->Heap->Prop}{d:DefRec}{K:Params->PySem.W.Frag}{CX:World->CXT}{sp:World->Sp}
  (hn:l.most=some n) (hn2:n<=sizeLine) (hdf:d.params.defaults=[]) (hr:Room k callerA)
  (hY:∀(w:World) (h:Heap),YP w h->(K w.params).In h)
  (F:∀(w:World) (mg:zzl) (fa:Addr) (h:Heap),(K w.params).In h->h.Ns mainGlobals mg->mg d.name=some (.ref fa) ->
   ∃fd:FuncData,(∀(s:Shared) (u:Value),BindsTo s fd ⟨[u],[]⟩ [(x,u)]) /\
    ∀base:Heap,(K w.params).In base->base.Ns mainGlobals mg->FnOk l.prog w (K w.params) mg base (CX w) k fa fd [x] (sp w))
  (hsp:∀(w:World) (H:Hp) (a:Addr) (ns:List Int),ns.length<=n->HK H->SqL (K w.params) H a (ns.map V.int)->sp w [.ref a] H (λv _=>v=.bl true) λ_ _ _=>False)
  (hCX:∀(w:World) (H:Hp) (s:Shared) (e:Value) (s':Shared),CX w [] H s (λ_ _ _=>False) e s'->False) :
  PySem.W.WalkO q loose XP YP l.row.toRowW d [] (λf vs=>PySem.call f vs):=by
 refine Att.attach_call hn hdf λw s₀ s₁ mg mb fa o pm cd doc a vs ns G Y ho hd hcd hmg hobj hints hlen hg=>?_
 have KX:=hY w _ Y
 obtain⟨fd,hb,hF⟩:=F w mg fa _ KX G.T.g hmg
 exact BR KX G.T.g G.T.b G.T.builtins G.T.nolimit hg hobj hints (bj hlen hn2) hr hF hb (λH hO hS=>hsp w H a ns hlen hO hS) λH e s'=>hCX w H s₁ e s'
def cW(s:Stmt):Arguments:=match s with
 | .FunctionDef _ a _ _ _ _ _ _ _ _=>a
 | _=>{ posonlyargs:=[],args:=[],vararg:=none,kwonlyargs:=[],kw_defaults:=[],kwarg:=none,defaults:=[] }
def bS(s:Stmt):List Stmt:=match s with
 | .FunctionDef _ _ b _ _ _ _ _ _ _=>b
 | _=>[]
def aB(s:Stmt):Scope:=match s with
 | .FunctionDef _ _ _ _ _ _ sc _ _ _=>sc
 | _=>{ kind:=.function,names:=[],isGenerator:=false,isCoroutine:=false }
structure Fun(K:PySem.W.Frag)(x qual:Str)(st:Stmt)(f:Addr)(fd:FuncData):Prop where
 ex:∃(oc:Value) (od:Option Addr) (kV doc pm:Value) (an:Option Addr) (cdv ct:Value) (osl:Array (Option Value)),
  fd=PySem.W.fnOf x qual (cW st) (bS st) (aB st) .none kV doc pm an cdv ct/\K.lookup f=some ⟨oc,od,.func fd,osl⟩/\PySem.W.codeIn K cdv qual=true
 kp:PySem.W.keepIn K (.ref f)=true
section
variable {K:PySem.W.Frag} {mg:zzl} {base:Heap}
theorem Fun.binds{qual:Str}{st:Stmt}{f:Addr}{fd:FuncData}{ps:List Str}(F:Fun K x qual st f fd)
  (h:∀(kV doc pm:Value) (an:Option Addr) (cdv ct:Value) (us:List Value),us.length=ps.length->bindArgs (PySem.W.fnOf x qual (cW st) (bS st) (aB st) .none kV doc pm an cdv ct) ⟨us,[]⟩=pure (ps.zip us)):Binds K fd ps []:=by
 obtain⟨oc,od,kV,doc,pm,an,cdv,ct,osl,rfl,lk,hcd⟩:=F.ex
 exact .all (h kV doc pm an cdv ct)
theorem tH{qual:Str}{st:Stmt}{f:Addr}{oc:Value}{od an:Option Addr}{osl:Array (Option Value)}{kV doc pm cdv ct:Value}(l:K.lookup f=some ⟨oc,od,.func (PySem.W.fnOf x qual (cW st) (bS st) (aB st) .none kV doc pm an cdv ct),osl⟩)
  (c:PySem.W.codeIn K cdv qual=true) (k:PySem.W.keepIn K (.ref f)=true):Fun K x qual st f (PySem.W.fnOf x qual (cW st) (bS st) (aB st) .none kV doc pm an cdv ct):=⟨⟨oc,od,kV,doc,pm,an,cdv,ct,osl,rfl,l,c⟩,k⟩
end
theorem vh{A B:Prop}(h:B):if false=true then A else B:=by
 rw[ac wP]
 exact h
theorem vg{A B:Prop}(h:A):if true=true then A else B:=by
 rw[ai rfl]
 exact h
def Same(H H':Hp):Prop:=∀b o,H b=some o->H' b=some o
theorem Same.refl(H:Hp):Same H H:=λ_ _ h=>h
theorem Same.trans{H1 H2:Hp}(a:Same H H1)(b:Same H1 H2):Same H H2:=λc o h=>b c o (a c o h)
theorem Same.free(e:Same H H'){l:Addr}(h:H' l=Option.none):H l=Option.none:=by
 cases q:H l with
 | none=>rfl
 | some o =>
  rw[e l o q]at h
  cases h
theorem Same.seq{K:PySem.W.Frag}{xs:List V}(e:Same H H')(h:SqL K H a xs):SqL K H' a xs:=by
 rcases h with (h|⟨o,h⟩)|h
 ·exact .inl (.inl (e _ _ h))
 ·exact .inl (.inr ⟨o,e _ _ h⟩)
 ·exact .inr h
def bp(X:Cx)(N':List Str)(scope:Scope)(cl:List (Str×Addr))(s₂:Shared)(H₂:Hp)(fp:List Addr)(C:Addr):Cx :=
 { X with N:=N',s₀:=s₂,H₀:=H₂,env:=compEnvC scope cl C X.env,outer:=X.stack,ex:=fp,fn:=λ_=>false,pn:=[],xe:=λ_ _=>False }
def lobj(ys:List Value)(k:Nat):Obj:={ cls:=.type "list",data:=.seq ys.toArray k }
section
variable {prog:Program} {A:Around} {R:Result->Shared->Prop} {s:Shared}
theorem jb{target:Expr}{it acc:Value}{env:Env}(I:Nat->Shared->Prop)
  (turn:∀n s,I n s->wpAny (model prog w) A (pyNext it) (λr s₁=>match r with
   | none=>R (.ok .next) s₁
   | some v=>wpAny (model prog w) A (letOwnedTupleGo target it v) (λ_ s₁'=>wpAny (model prog w) A (assign target env v) (λ_ s₂ =>
     wpAny (model prog w) A (forIn ifs true λc r=>if r=true then do let ok <-isTrue c env (eval c env);pure (ForInStep.yield ok)else pure (ForInStep.yield r)) (λok s₃ =>
      if ok=true then wpAny (model prog w) A (eval elt env) (λx s₄ =>
       wpAny (model prog w) A (call (.builtin "list.append") [acc,x]) (λ_ s₅=>∃m,m<n/\I m s₅) (λ_ _=>False) s₄) (λ_ _=>False) s₃
      else ∃m,m<n/\I m s₃) (λ_ _=>False) s₂) (λ_ _=>False) s₁') (λ_ _=>False) s₁) (λ_ _=>False) s)
  (n:Nat) (h:I n s) :
  codeAny (model prog w) A (.compLoop (.ListComp elt [⟨target,iter,ifs,0⟩] scope pos) 0 it acc env) R s:=by
 refine codeAny_loop rfl I (λn s hI=>?_) n h
 show wpAny _ A ((compTurn (.ListComp elt [⟨target,iter,ifs,0⟩] scope pos) 0 it acc env).onRaise (λx=>do noteFrame x env;theTreesLotGoes x)) _ _ s
 refine wpAny_noted ?_
 rw[compTurn_list]
 refine zza (Db (zza (je (turn n s hI) (λr s₁ h₁=>?_) λ_ _ h'=>h'.elim)))
 cases r with
 | none=>exact zzb h₁
 | some v =>
  refine zza (je h₁ (λ_ s₁' h₁'=>?_) λ_ _ h'=>h'.elim)
  refine zza (je h₁' (λ_ s₂ h₂=>zza (je h₂ (λok s₃ h₃=>?_) λ_ _ h'=>h'.elim)) λ_ _ h'=>h'.elim)
  cases ok with
  | false=>exact zzb ⟨rfl,h₃⟩
  | true =>
   exact zza (zza (je h₃ (λx s₄ h₄=>zza (je h₄ (λ_ s₅ h₅=>zzb (zzb ⟨rfl,h₅⟩)) λ_ _ h'=>h'.elim)) λ_ _ h'=>h'.elim))
end
def PTs(X:Cx)(ifs:List Expr)(t:TT):Prop :=
 ∀(pins:zzk) (s:Shared) (Z:St) (H:Hp) (Q:Bool->Hp->Prop),Inv X pins Z H s->t Z H Q ->
  wpAny (model X.prog X.w) X.A (forIn ifs true λc r=>if r=true then do let ok <-isTrue c X.env (eval c X.env);pure (ForInStep.yield ok)else pure (ForInStep.yield r)) (TP X pins Z Q) X.xe s
theorem Du:PTs X [] (λ_ H Q=>Q true H):=λ_ _ _ H _ I h=>wpAny_tests_nil ⟨H,I,h⟩
theorem ym{c:Expr}{t:TT}(h:PT X c t):PTs X [c] t:=λpins s Z H Q I q=>wpAny_tests_one (h pins s Z H Q I q)
theorem fS{env:Env}:∀{names:List (Str×NameKind)} {x:Str},
  (names.map λ(n,k)=>if(k==NameKind.free&&env.scope.kind==.function&&env.kindOf n==some .cell)then(n,NameKind.cell)else(n,k)).lookup x
   = (names.lookup x).map λk=>if(k==NameKind.free&&env.scope.kind==.function&&env.kindOf x==some .cell)then NameKind.cell else k
 | [],_=>rfl
 | (n,k)::r,x=>by
  have ih:=@fS env r x
  show List.lookup x ((if(k==NameKind.free&&env.scope.kind==.function&&env.kindOf n==some .cell)=true then(n,NameKind.cell)else(n,k))::_)=_
  cases hx:x==n with
  | true =>
   have e:x=n:=by simpa using hx
   subst e
   by_cases hc:(k==NameKind.free&&env.scope.kind==.function&&env.kindOf x==some .cell)=true
   ·rw[ai hc];simp only[lm,hx,Option.map_some,ai hc]
   ·rw[ac hc];simp only[lm,hx,Option.map_some,ac hc]
  | false =>
   by_cases hc:(k==NameKind.free&&env.scope.kind==.function&&env.kindOf n==some .cell)=true
   ·rw[ai hc];simp only[lm,hx];exact ih
   ·rw[ac hc];simp only[lm,hx];exact ih
theorem j8{env:Env}:∀(names:List (Str×NameKind)) (acc:List (Str×Addr)),(∀x∈names,x.2=.free->∃c,env.cells.lookup x.1=some c) ->
  (∀x c,acc.lookup x=some c->env.cells.lookup x=some c) ->
  ∃cl,(forIn names acc λ(x:Str×NameKind) (cs:List (Str×Addr))=>(if(x.2==NameKind.free)=true then(do let c <-cellOf env x.1;pure (ForInStep.yield ((x.1,c)::cs)))else pure (ForInStep.yield cs):Sem (ForInStep (List (Str×Addr)))))=pure cl /\
   (∀x c,cl.lookup x=some c->env.cells.lookup x=some c)/\(∀x,(acc.lookup x).isSome->(cl.lookup x).isSome)/\∀x∈names,x.2=.free->(cl.lookup x.1).isSome
 | [],acc,_,ha=>⟨acc,rfl,ha,λ_ h=>h,λ_ h=>nomatch h⟩
 | (n,k)::r,acc,hn,ha=>by
  cases hk:(k==NameKind.free)with
  | true =>
   obtain⟨c,hc⟩:=hn (n,k) au (by simpa using hk)
   have ha':∀x d,((n,c)::acc).lookup x=some d->env.cells.lookup x=some d:=λx d e=>by
    rw[lm]at e
    cases q:x==n with
    | true =>
     rw[q]at e
     have:x=n:=by simpa using q
     subst this
     exact hc.trans e
    | false=>rw[q]at e;exact ha x d e
   obtain⟨cl,e,h1,h2,h3⟩:=j8 r ((n,c)::acc) (λx hx=>hn x (zzg _ hx)) ha'
   have grow:∀x,(acc.lookup x).isSome->(((n,c)::acc).lookup x).isSome:=λx hx=>by
    rw[lm]
    cases q:x==n with
    | true=>rfl
    | false=>exact hx
   refine⟨cl,?_,h1,λx hx=>h2 x (grow x hx),λx hx hf=>?_⟩
   ·rw[List.forIn_cons]
    have q:cellOf env n=pure c:=by
     unfold cellOf
     rw[hc]
    simp only[hk,LF,q]
    exact e
   ·rcases List.mem_cons.mp hx with rfl|hx
    ·exact h2 _ (by simp[lm])
    ·exact h3 x hx hf
  | false =>
   obtain⟨cl,e,h1,h2,h3⟩:=j8 r acc (λx hx=>hn x (zzg _ hx)) ha
   refine⟨cl,?_,h1,h2,λx hx hf=>?_⟩
   ·rw[List.forIn_cons]
    simp only[hk,LR,if_false]
    exact e
   ·rcases List.mem_cons.mp hx with rfl|hx
    ·exfalso;have:k=.free:=hf;subst this;simp at hk
    ·exact h3 x hx hf
theorem pO{env:Env}(h:∀x∈scope.names,x.2=.free->∃c,env.cells.lookup x.1=some c) :
  ∃cl,closureFor scope env=pure cl/\(∀x c,cl.lookup x=some c->env.cells.lookup x=some c)/\∀x∈scope.names,x.2=.free->(cl.lookup x.1).isSome:=by
 obtain⟨cl,e,h1,_,h3⟩:=j8 (env:=env) scope.names [] h (λx c e=>by simp at e)
 refine⟨cl,?_,h1,h3⟩
 unfold closureFor
 have q:(forIn scope.names [] λ(x:Str×NameKind) (cs:List (Str×Addr))=>(match x with|(name,kind)=>if(kind==NameKind.free)=true then(do let c <-cellOf env name;pure (ForInStep.yield ((name,c)::cs)))else pure (ForInStep.yield cs):Sem (ForInStep (List (Str×Addr)))))=pure cl:=e
 first
  | (simp only[];rw[q];rfl)
  | (show(do let cs <-_;pure cs)=_;rw[q];rfl)
  | (rw[show(forIn scope.names [] _)=pure cl from q];rfl)
structure CompOk(X:Cx)(N':List Str)(k:Nat)(scope:Scope):Prop where
 kind:scope.kind=.function
 len:N'.length=X.N.length+k
 nocell:∀y∈scope.names,y.2≠.cell
 names:∀y∈scope.names,y.2=.local->scope.names.lookup y.1=some .local
 outer:∀(i:Nat) x,i<X.N.length->N'[i]? = some x->(scope.names.lookup x).isSome->(scope.names.lookup x=some .free\/scope.names.lookup x=some .local\/scope.names.lookup x=some .cell)->X.N[i]? = some x/\scope.names.lookup x=some .free
 free:∀y∈scope.names,y.2=.free->X.env.kindOf y.1=some .cell\/X.env.kindOf y.1=some .free
def xY(wi:TI)(k:Nat)(g:TG)(tc:TT)(te:TE):TE:=λZ H Q=>wi Z H λJ H1=>∃W:Nat->Nat->List V->St->Hp->Prop,(∃m,W 0 m [] (Z++List.replicate k none) H1) /\
 ∀i m vs σ' H',W i m vs σ' H'->vs.length<=sizeLine /\
  ((J.stop i H'/\∀p,H' p=none->Q (.ref p) (upd H' p (.lst vs))) \/
   (J.go i H'/\∀x H2,J.yld i H' x H2->g x σ' H2 λσ3 H3=>tc σ3 H3 λb H4=>if b=true then te σ3 H4 λy H5=>∃m',m'<m/\W (i+1) m' (vs++[y]) σ3 H5 else ∃m',m'<m/\W (i+1) m' vs σ3 H4))
section
variable {H2:Hp} {s2:Shared}
theorem HOk.track{h:Heap}{D:Addr}{vs:List V}{ys:List Value}{k:Nat}(x:HOk P w H h)(hn:H D=none)(hl:vs.length<=sizeLine)(r:Vals vs ys)(e:h.get? D=some (lobj ys k)) :
  HOk P w (upd H D (.lst vs)) h:=λb u q=>by
 by_cases hb:b=D
 ·subst hb
  rw[aR]at q
  cases q
  exact⟨hl,ys,k,r,e⟩
 ·rw[aL hb]at q
  exact(x b u q).stay (λ_ _ _ z=>z) (λc z=>by rw[aL (bA z hn)];exact z) λc xs z=>by rw[aL (bA z hn)];exact z
theorem rK{k:Nat}{cl:List (Str×Addr)}{J:It}{fp:List Addr}{it:Addr}{tn:Nat->Heap->Prop}{E:zzj}
  {RR:Value->Addr->Result->Shared->Prop} {Q:VK}
  (hc:X.calm=true) (S:CompOk X N' k scope) (hcl:∀x c,cl.lookup x=some c->X.env.cells.lookup x=some c) (hcf:∀x∈scope.names,x.2=.free->(cl.lookup x.1).isSome)
  (I:Inv X pins Z H2 s2) (T:Turn X.prog X.w X.K tg J fp it tn) (st:tn 0 s2.heap) (ff:∀b∈fp,qh X pins H2 b)
  (hg:∀C,PG (bp X N' scope cl s2 H2 fp C) tg g) (ht:∀C,PTs (bp X N' scope cl s2 H2 fp C) ifs tc) (he:∀C,PE (bp X N' scope cl s2 H2 fp C) elt te)
  (rd:∃W:Nat->Nat->List V->St->Hp->Prop,(∃m,W 0 m [] (Z++List.replicate k none) H2) /\
   ∀i m vs σ' H',W i m vs σ' H'->vs.length<=sizeLine /\
    ((J.stop i H'/\∀p,H' p=none->Q (.ref p) (upd H' p (.lst vs))) \/
     (J.go i H'/\∀x H2,J.yld i H' x H2->g x σ' H2 λσ3 H3=>tc σ3 H3 λb H4=>if b=true then te σ3 H4 λy H5=>∃m',m'<m/\W (i+1) m' (vs++[y]) σ3 H5 else ∃m',m'<m/\W (i+1) m' vs σ3 H4)))
  (hRR:∀D C s' H',Inv X pins Z H' s'->(∃m,s'.heap.Ns C m)->qh X pins H' C->Q (.ref D) H'->RR (.ref D) C (.ok .next) s') :
  wpAny (model X.prog X.w) X.A (newList []) (λacc s₃=>wpAny (model X.prog X.w) X.A (newFunctionEnv scope X.env.globals cl [] X.env.qual none .none (some X.env)) (λcenv s₄ =>
   codeAny (model X.prog X.w) X.A (.compStart (.ListComp elt [⟨tg,iter,ifs,0⟩] scope pos) 0 (.ref it) acc { cenv with scope:=relabel scope X.env }) (RR acc cenv.locals) s₄) E s₃) E s2:=by
 obtain⟨W,⟨m0,w0⟩,turn⟩:=rd
 refine mo (wpAny_newFunctionEnv S.nocell (by intro y hy;simp at hy) (λh₁ hns₁ hsb₁=>?_) S.kind)
 dsimp only at hns₁ hsb₁ ⊢
 generalize hH2:s2.heap.push { cls:=.type "list",dict:=none,data:=.seq ([]:List Value).toArray }=G2 at hns₁ hsb₁ ⊢
 have hCs:G2.objs.size=s2.heap.objs.size+1:=by rw[<-hH2,ve]
 have hDC:s2.heap.objs.size≠G2.objs.size:=by rw[hCs];exact bu (Lw _)
 have hCle:s2.heap.objs.size<=G2.objs.size:=by rw[hCs];exact Nat.le_succ _
 have below:∀b,b<s2.heap.objs.size->b≠G2.objs.size/\b≠s2.heap.objs.size:=λb hb=>⟨by rw[hCs];exact bu (om hb),bu hb⟩
 have old:∀b o,s2.heap.get? b=some o->h₁.get? b=some o:=λb o e=>hsb₁.extBut b o (below b (be e)).1 (zzc _ (hH2▸zzc _ e))
 have hacc:h₁.get? s2.heap.objs.size=some (lobj [] 0):=hsb₁.extBut _ _ hDC (zzc _ (hH2▸zze _ rfl))
 generalize hDe:s2.heap.objs.size=D at *
 generalize hCe:G2.objs.size=C at *
 have fpD:qh X pins H2 D:=I.fpOk (by rw[hDe];exact ay _) (I.hok.fresh (by rw[hDe];exact ay _))
 have fpC:∀H',H' C=none->qh X pins H' C:=λH' hn=>I.fpOk (by rw[hDe];exact hCle) hn
 have hfpD:∀b∈fp,b<D:=λb hb=>by
  obtain⟨o,e,_⟩:=T.obj _ _ st b hb
  rw[<-hDe];exact be e
 have nofr:∀b,D<=b->b∉frs X.stack:=λb hb hm=>by
  rcases List.mem_cons.mp (I.stkSub b hm)with e|hm
  ·have:=I.lt;rw[hDe]at this;rw[e]at hb;exact absurd (bo this hb) (ny _)
  ·exact I.nofs (by rw[hDe];exact hb) hm
 let X':=bp X N' scope cl s2 H2 fp C
 have cellLt:∀x c,cl.lookup x=some c->c<D:=λx c e=>by
  obtain⟨v,z⟩:=I.cell x c (hcl x c e)
  rw[<-hDe];exact z.lt
 have ok':X'.Ok:=by
  refine⟨I.ok.mod,S.kind,I.ok.glob,I.ok.blt,?_,λx y c e1 e2=>I.ok.inj x y c (hcl _ _ e1) (hcl _ _ e2),λx hx=>?_,λx c hf _=>(nomatch hf),I.ok.hd,I.ok.frames,.inl rfl,λb hb=>⟨?_,λx c e z=>?_⟩,I.bs,?_,λb o e hb=>?_,λb hb hm=>?_,I.stack,I.stkFree⟩
  ·show s2.heap.objs.size<=C
   rw[hDe];exact hCle
  ·have hx':(relabel scope X.env).names.lookup x=some .cell\/(relabel scope X.env).names.lookup x=some .free:=hx
   have e:=fS (env:=X.env) (names:=scope.names) (x:=x)
   have e':(relabel scope X.env).names.lookup x=(scope.names.lookup x).map λk=>if(k==NameKind.free&&X.env.scope.kind==.function&&X.env.kindOf x==some .cell)then NameKind.cell else k:=e
   rw[e']at hx'
   cases q:scope.names.lookup x with
   | none=>rw[q]at hx';rcases hx' with z|z<;>cases z
   | some kd =>
    have hmem:=si q
    rw[q]at hx'
    have hkd:kd=.free:=by
     by_cases hz:kd=.free
     ·exact hz
     ·exfalso
      have hb:(kd==NameKind.free)=false:=by simpa using hz
      simp only[hb,yi,LR,if_false,Option.map_some]at hx'
      rcases hx' with z|z
      ·exact S.nocell _ hmem (Option.some.inj z)
      ·exact hz (Option.some.inj z)
    exact Option.isSome_iff_exists.mp (hcf _ hmem hkd)
  ·exact bu (bo (hfpD b hb) hCle)
  ·exact(ff b hb).2.2.2.2.1 x c (hcl x c e) z
  ·exact bj I.ok.bsz I.sz
  ·obtain⟨_,_,_,hx,_⟩:=ff b hb
   rcases hx with hx|hx
   ·exact I.ok.noex b o e hx
   ·exact absurd (bo (be (I.ok.bs b o e).1) hx) (ny _)
  ·obtain⟨_,hl,hfs,_⟩:=ff b hb
   rcases List.mem_cons.mp (I.stkSub b hm)with e|hm
   ·exact hl e
   ·exact hfs hm
 have lenσ:(Z++List.replicate k none).length=N'.length:=by rw[zzf,List.length_replicate,I.len,S.len]
 have I0:Inv X' [(D,lobj [] 0)] (Z++List.replicate k none) H2 { s2 with heap:=h₁,toks:=s2.toks+([]:List (Str×Value)).length }:=by
  refine⟨ok',rfl,I.bare,Un.kept old,⟨_,hns₁,λi x v e1 e2 e3=>?_⟩,λx c e=>?_,I.hok.fresh (by rw[hDe];exact hCle),λx c e=>I.freeC x c (hcl x c e),λp hp=>?_,I.hok.kept old,lenσ⟩
  ·have hi:i<Z.length:=by
    by_cases hi:i<Z.length
    ·exact hi
    ·rw[LO (Nat.not_lt.mp hi),L8]at e2
     split at e2<;>cases e2
   rw[eT hi]at e2
   have e':(relabel scope X.env).names.lookup x=(scope.names.lookup x).map λk=>if(k==NameKind.free&&X.env.scope.kind==.function&&X.env.kindOf x==some .cell)then NameKind.cell else k:=fS (env:=X.env) (names:=scope.names) (x:=x)
   have hsome:∃kd,scope.names.lookup x=some kd/\(kd=.free\/kd=.local\/kd=.cell):=by
    have e3':(relabel scope X.env).names.lookup x=some .local\/(relabel scope X.env).names.lookup x=some .cell\/(relabel scope X.env).names.lookup x=some .free:=e3
    rw[e']at e3'
    cases q:scope.names.lookup x with
    | none=>rw[q]at e3';rcases e3' with z|z|z<;>cases z
    | some kd =>
     refine⟨kd,rfl,?_⟩
     rw[q]at e3'
     by_cases hz:kd=.free
     ·exact .inl hz
     ·have hb:(kd==NameKind.free)=false:=by simpa using hz
      simp only[hb,yi,LR,if_false,Option.map_some,Option.some.injEq]at e3'
      rcases e3' with z|z|z
      ·exact .inr (.inl z)
      ·exact .inr (.inr z)
      ·exact .inl z
   obtain⟨kd,hk1,hk2⟩:=hsome
   obtain⟨hN,hfree⟩:=S.outer i x (by rw[<-I.len];exact hi) e1 (by rw[hk1];rfl) (by rcases hk2 with z|z|z<;>subst z<;>simp[hk1])
   have hmem:=si hfree
   have hko:=S.free _ hmem rfl
   have hkx:X.env.kindOf x=some .cell\/X.env.kindOf x=some .free:=hko
   obtain⟨m,hn,hl⟩:=I.loc
   obtain⟨u,r,lk⟩:=hl i x v hN e2 (by rcases hkx with z|z;exact .inr (.inl z);exact .inr (.inr z))
   refine⟨u,r,.inr ⟨?_,?_⟩⟩
   ·show(relabel scope X.env).names.lookup x=some .cell\/(relabel scope X.env).names.lookup x=some .free
    rw[e',hfree,Option.map_some]
    split
    ·exact .inl rfl
    ·exact .inr rfl
   ·rcases lk with ⟨kl,_⟩|⟨_,c,ec,hcell⟩
    ·rcases hkx with z|z<;>(rw[z]at kl;cases kl)
    ·obtain⟨c',ec'⟩:=Option.isSome_iff_exists.mp (hcf _ hmem rfl)
     have q:=hcl _ _ ec'
     rw[ec]at q
     cases q
     exact⟨c,ec',hcell.keeps old⟩
  ·obtain⟨v,z⟩:=I.cell x c (hcl x c e)
   exact⟨v,z.keeps old⟩
  ·have hp':p∈([]:zzk)++[(D,lobj [] 0)]:=hp
   have ep:p=(D,lobj [] 0):=by simpa using hp'
   subst ep
   exact⟨hacc,fpD.1,hDC,nofr D (ay _),λv z=>nomatch z⟩
 have stat:∀{H':Hp} {o:Obj},(∀b∈fp,H' b=none)->∀b∈fp,qh X' [(D,o)] H' b:=λ{H' o} hn b hb=>by
  refine⟨hn b hb,bu (bo (hfpD b hb) hCle),ok'.exfs b hb,.inl hb,λx c e z=>(ff b hb).2.2.2.2.1 x c (hcl x c e) z,λp hp=>?_⟩
  have hp':p∈([]:zzk)++[(D,o)]:=hp
  have ep:p=(D,o):=by simpa using hp'
  subst ep
  exact HI (hfpD b hb)
 have loop:∀s₃:Shared,s₃={ s2 with heap:=h₁,toks:=s2.toks+([]:List (Str×Value)).length } ->
   codeAny (model X.prog X.w) X.A (.compLoop (.ListComp elt [⟨tg,iter,ifs,0⟩] scope pos) 0 (.ref it) (.ref D) (compEnvC scope cl C X.env)) (RR (.ref D) C) s₃:=by
  rintro s₃ rfl
  refine jb (λn s'=>∃i vs ys kk σ' H',Inv X' [(D,lobj ys kk)] σ' H' s'/\tn i s'.heap/\(∀b∈fp,H' b=none)/\Vals vs ys/\W i n vs σ' H') ?_ m0
   ⟨0,[],[],0,_,H2,I0,T.keep _ _ _ st λb _ o e=>old b o e,λb hb=>(ff b hb).1,.nil,w0⟩
  rintro n s3 ⟨i,vs,ys,kk,σ3,H3,I3,st3,fr3,rv,w3⟩
  obtain⟨hvl,hcase⟩:=turn i n vs σ3 H3 w3
  have pinD:∀{o:Obj} {σ' H' s'},Inv X' [(D,o)] σ' H' s'->s'.heap.get? D=some o/\H' D=none:=λJ=>⟨(J.pin _ (gn _ au)).1,(J.pin _ (gn _ au)).2.1⟩
  rcases hcase with ⟨stop,qn⟩|⟨go,step⟩
  ·refine thn (T.done X' rfl rfl rfl hc i _ s3 σ3 H3 (λ_ _=>False) I3 (stat fr3) st3 stop) λr s4 ⟨hr,I4⟩=>?_
   subst hr
   obtain⟨gD,nD⟩:=pinD I4
   obtain⟨m',hm',_⟩:=I4.loc
   have hC4:H3 C=none:=I4.free
   have u0:Un (frs X.stack) fp H2 H3 s2.heap s4.heap:=I4.base
   have neD:∀b o,s2.heap.get? b=some o->b≠D:=λb o e=>by rw[<-hDe];exact bu (be e)
   have u1:Un (frs X.stack) fp H2 (upd H3 D (.lst vs)) s2.heap s4.heap :=
    ⟨u0.keep,u0.slot,λb o e n hx=>by rw[aL (neD b o e)];exact u0.free b o e n hx,u0.there,
     λb xs e=>by have q:=u0.tups b xs e;rw[aL (bA q nD)];exact q,
     λb o u e=>by have q:=u0.frzs b o u e;rw[aL (bA q nD)];exact q,
     λb ps e=>by obtain⟨more,q⟩:=u0.tbls b ps e;exact⟨more,by rw[aL (bA q nD)];exact q⟩⟩
   have I5:Inv X pins Z (upd H3 D (.lst vs)) s4:=I.call' I4.os u1 (I4.hok.track nD hvl rv gD) I4.bare λb hb=>⟨(ff b hb).2.2.2.1,(ff b hb).2.1,(ff b hb).2.2.2.2.1,(ff b hb).2.2.2.2.2⟩
   exact hRR D C s4 _ I5 ⟨m',hm'⟩ (fpC _ (by rw[aL (Ne.symm hDC)];exact hC4)) (qn D nD)
  ·refine thn (T.item X' rfl rfl rfl hc i _ s3 σ3 H3 (λ_ _=>False) I3 (stat fr3) st3 go) λr s4 ⟨u,hr,h4⟩=>?_
   subst hr
   refine thn h4 λ_ s5 ⟨x,H5,I5,r5,y5,st5,fr5⟩=>?_
   have I5':=I5.pinned (stat fr5) (T.obj _ _ st5)
   refine thn (hg C _ s5 σ3 H5 x u _ I5' r5 (step x H5 y5)) λ_ s6 ⟨σ6,H6,I6,q6⟩=>?_
   refine thn (ht C _ s6 σ6 H6 _ I6 q6) λok s7 ⟨H7,I7,q7⟩=>?_
   have unpin:∀{σ' H' s'},Inv X' ([(D,lobj ys kk)]++n6 fp s5.heap) σ' H' s'->Inv X' [(D,lobj ys kk)] σ' H' s'/\tn (i+1) s'.heap/\∀b∈fp,H' b=none:=λ{σ' H' s'} J =>
    ⟨J.unpinned,T.keep _ _ _ st5 λb hb o e=>(J.pin (b,o) (gn _ (gn _ (g7 hb e)))).1,λb hb=>by
     obtain⟨o,e,d⟩:=T.obj _ _ st5 b hb
     exact(J.pin (b,o) (gn _ (gn _ (g7 hb e)))).2.1⟩
   cases ok with
   | false =>
    rw[ac wP]
    rw[ac wP]at q7
    obtain⟨m',hm',w7⟩:=q7
    obtain⟨J1,J2,J3⟩:=unpin I7
    exact⟨m',hm',i+1,vs,ys,kk,σ6,H7,J1,J2,J3,rv,w7⟩
   | true =>
    rw[ai rfl]
    rw[ai rfl]at q7
    refine thn (he C _ s7 σ6 H7 _ I7 q7) λuy s8 ⟨y,H8,I8,r8,m',hm',w8⟩=>?_
    obtain⟨J1,J2,J3⟩:=unpin I8
    obtain⟨gD,nD⟩:=pinD J1
    refine append_at (hsz:=by show ys.toArray.size<=sizeLine;rw[ce,<-rv.length];exact hvl) gD λh9 hs9 hD9=>?_
    have J1':Inv X' [] σ6 H8 s8:=J1.pins_of λp hp=>nomatch hp
    have J9:Inv X' [] σ6 H8 { s8 with heap:=h9 }:=J1'.turned (t':=s8.toks) (it:=D) (λb o hb e=>hs9.extBut b o hb e) nD hDC (.inr (by show s2.heap.objs.size<=D;rw[hDe];exact ay _)) (λx c e=>bu (cellLt x c e)) λp hp=>nomatch hp
    have eo:({ cls:=.type "list",data:=.seq (ys.toArray.push uy) (kk+1) }:Obj)=lobj (ys++[uy]) (kk+1):=by
     unfold lobj
     rw[List.push_toArray]
    refine⟨m',hm',i+1,vs++[y],ys++[uy],kk+1,σ6,H8,J9.pins_of λp hp=>?_,T.keep _ _ _ J2 λb hb o e=>hs9.extBut b o (bu (hfpD b hb)) e,J3,rv.append (.cons r8 .nil),w8⟩
    have ep:p=(D,lobj (ys++[uy]) (kk+1)):=by simpa using hp
    subst ep
    exact⟨by show h9.get? D=_;rw[hD9,eo],nD,hDC,nofr D (ay _),λv z=>nomatch z⟩
 exact codeAny_compStart_list (loop _ rfl) (T.self _ 0 _ _ _ (T.keep _ _ _ st λb _ o e=>old b o e) (loop _ rfl))
end
section
theorem yw{k:Nat}{wi:TI}
  (hc:X.calm=true) (S:CompOk X N' k scope) (hcells:∀x∈scope.names,x.2=.free->∃c,X.env.cells.lookup x.1=some c) (hi:PI X tg iter wi)
  (hg:∀cl s H fp C,PG (bp X N' scope cl s H fp C) tg g) (ht:∀cl s H fp C,PTs (bp X N' scope cl s H fp C) ifs tc) (he:∀cl s H fp C,PE (bp X N' scope cl s H fp C) elt te)
  (hs:∀x,foldedSetIterable iter X.env x=pure x:=by intro _;rfl) :
  PE X (.ListComp elt [⟨tg,iter,ifs,0⟩] scope pos) (xY wi k g tc te):=by
 intro pins s Z H Q I h
 obtain⟨cl,hclos,h1,h2⟩:=pO (env:=X.env) (scope:=scope) hcells
 rw[eval_ListComp]
 refine wpAny_comprehension_free (use:=none) rfl hs hclos S.kind S.names (thn (hi pins s Z H _ I h) λxv s1 h1'=>thn h1' λitv s2 h2'=>?_)
 obtain⟨it,fp,tn,J,H2,e,I2,T,st2,f2,rd⟩:=h2'
 subst e
 refine rK hc S h1 h2 I2 T st2 f2 (λC=>hg _ _ _ _ C) (λC=>ht _ _ _ _ C) (λC=>he _ _ _ _ C) rd λD C s' H' I' ⟨m,hm⟩ fC q=>?_
 refine⟨m,hm,λh' hs'=>⟨.ref D,H',?_,rfl,q⟩⟩
 exact I'.turned (t':=s'.toks) (it:=C) (λb o hb e=>hs'.extBut b o hb e) fC.1 fC.2.1 fC.2.2.2.1 fC.2.2.2.2.1 fC.2.2.2.2.2
theorem n4{pos' spos:Pos}{k i:Nat}{y:Str}{wi:TI}
  (hN:X.N.Nodup) (hy:X.N[i]? = some y) (hly:Loc X.env.scope y) (hfn:X.fn y=true\/X.env.scope.names.lookup y=some .local)
  (hc:X.calm=true) (S:CompOk X N' k scope) (hcells:∀x∈scope.names,x.2=.free->∃c,X.env.cells.lookup x.1=some c) (hi:PI X tg iter wi)
  (hg:∀cl s H fp C,PG (bp X N' scope cl s H fp C) tg g) (ht:∀cl s H fp C,PTs (bp X N' scope cl s H fp C) ifs tc) (he:∀cl s H fp C,PE (bp X N' scope cl s H fp C) elt te)
  (hsw:swapsWith (.ListComp elt [⟨tg,iter,ifs,0⟩] scope pos) (some (.Name y pos')) spos.line X.env=pure true)
  (hs:∀x,foldedSetIterable iter X.env x=pure x:=by intro _;rfl) :
  PS X (.Assign [.Name y pos'] (.ListComp elt [⟨tg,iter,ifs,0⟩] scope pos) spos) (FO (xY wi k g tc te) (vk i)):=by
 intro pins s Z H D₀ I h
 obtain⟨cl,hclos,h1,h2⟩:=pO (env:=X.env) (scope:=scope) hcells
 rw[exec_Assign_Name_used _ _ _ _ hsw]
 refine zza (Db (zza ?_))
 show wpAny _ X.A (do let _ <-comprehension (.ListComp elt [⟨tg,iter,ifs,0⟩] scope pos) scope X.env _ (newList []) false (eval iter X.env) (some (assign (.Name y pos') X.env))) _ _ s
 refine zza (je (wpAny_comprehension_free (use:=some (assign (.Name y pos') X.env)) (Q:=λ_ s'=>SP X pins D₀ .next s') rfl hs hclos S.kind S.names
  (thn (hi pins s Z H _ I h) λxv s1 h1'=>thn h1' λitv s2 h2'=>?_)) (λ_ s' hq=>zzb (zzb hq)) λ_ _ e=>e)
 obtain⟨it,fp,tn,J,H2,e,I2,T,st2,f2,rd⟩:=h2'
 subst e
 refine rK (Q:=λx H1=>vk i x Z H1 D₀.nx) hc S h1 h2 I2 T st2 f2 (λC=>hg _ _ _ _ C) (λC=>ht _ _ _ _ C) (λC=>he _ _ _ _ C) rd λD C s' H' I' ⟨m,hm⟩ fC q=>?_
 show wpAny _ X.A (assign (.Name y pos') X.env (.ref D)) _ _ _
 refine wpAny_assign_Name (qM I' hN hy hly (show RelV (.ref D) (.ref D)from rfl) (λs'' I'' ⟨a,hsb,ha⟩=>?_) hfn)
 have hCa:C≠a:=by
  rcases ha with rfl|ha
  ·exact fC.2.1
  ·exact λz=>fC.2.2.2.2.1 y a ha z.symm
 refine⟨m,hm.sameBut hsb hCa,λh' hs'=>⟨_,H',?_,q⟩⟩
 exact I''.turned (t':=s''.toks) (it:=C) (λb o hb e=>hs'.extBut b o hb e) fC.1 fC.2.1 fC.2.2.2.1 fC.2.2.2.2.1 fC.2.2.2.2.2
end
section
variable {κ:Type} [DecidableEq κ]
def ko(kvs:List (κ×V))(k:κ):Option V:=(kvs.find? λkv=>decide (kv.1=k)).map (·.2)
def putK(kvs:List (κ×V))(k:κ)(v:V):List (κ×V) :=
 if(kvs.any λkv=>decide (kv.1=k))=true then kvs.map (λkv=>if kv.1=k then(kv.1,v)else kv)else kvs++[(k,v)]
theorem ud{p:κ×V}{r:List (κ×V)}{k:κ}(e:p.1=k):ko (p::r) k=some p.2:=by simp[ko,tu,e]
theorem uf{p:κ×V}{r:List (κ×V)}{k:κ}(e:¬ p.1=k):ko (p::r) k=ko r k:=by simp[ko,tu,e]
theorem uY(kvs:List (κ×V))(k:κ)(v:V):(putK kvs k v).length<=kvs.length+1:=by
 unfold putK
 split
 ·rw[zzd];lia
 ·rw[zzf,ci,ou];lia
theorem RelO.isSome_eq{u:Option Value}(r:RelO o u):o.isSome=u.isSome:=by
 cases o with
 | none=>cases u with
  | none=>rfl
  | some _=>exact(show False from r).elim
 | some _=>cases u with
  | none=>exact(show False from r).elim
  | some _=>rfl
theorem KV.val{kvs:List (κ×V)}{vs:List (κ×Value)}(r:KV kvs vs)(k:κ):RelO (ko kvs k) (valueAt vs k):=by
 unfold KV at r
 induction r with
 | nil=>exact True.intro
 | @cons p q ps qs h t ih =>
  obtain⟨h1,h2⟩:=h
  by_cases e:p.1=k
  ·have e':q.1=k:=h1.symm.trans e
   have b:valueAt (q::qs) k=some q.2:=by simp[valueAt,tu,e']
   rw[ud e,b];exact h2
  ·have e':¬ q.1=k:=λz=>e (h1.trans z)
   have b:valueAt (q::qs) k=valueAt qs k:=by simp[valueAt,tu,e']
   rw[uf e,b];exact ih
theorem KV.any{kvs:List (κ×V)}{vs:List (κ×Value)}(r:KV kvs vs)(k:κ):(kvs.any λkv=>decide (kv.1=k))=vs.any λkv=>decide (kv.1=k):=by
 unfold KV at r
 induction r with
 | nil=>rfl
 | cons h t ih=>rw[L5,L5,ih,h.1]
theorem KV.repl{kvs:List (κ×V)}{vs:List (κ×Value)}(r:KV kvs vs)(k:κ)(ry:RelV y u) :
  KV (kvs.map λkv=>if kv.1=k then(kv.1,y)else kv) (vs.map λkv=>if kv.1=k then(kv.1,u)else kv):=by
 unfold KV at r ⊢
 induction r with
 | nil=>exact .nil
 | @cons p q ps qs h t ih =>
  rw[ba,ba]
  refine .cons ?_ ih
  obtain⟨h1,h2⟩:=h
  by_cases e:p.1=k
  ·rw[ai e,ai (h1.symm.trans e)];exact⟨h1,ry⟩
  ·rw[ac e,ac (λz=>e (h1.trans z))];exact⟨h1,h2⟩
theorem KV.put{kvs:List (κ×V)}{vs:List (κ×Value)}(r:KV kvs vs)(k:κ)(ry:RelV y u):KV (putK kvs k y) (stored vs k u):=by
 unfold putK stored
 rw[r.any k]
 by_cases e:(vs.any λkv=>decide (kv.1=k))=true
 ·rw[ai e,ai e];exact r.repl k ry
 ·rw[ac e,ac e];exact Paired.snoc r ⟨rfl,ry⟩
end
theorem oX{k:Key}(r:RelV (kV k) u):(bY P w).is k u=true:=by
 cases k with
 | inl i=>obtain⟨t,e⟩:=(show ∃t,u=Value.int i t from r);subst e;exact uV P w i t
 | inr x=>obtain⟨t,e⟩:=(show ∃t,u=Value.str x t from r);subst e;exact uU P w x t
theorem rB{P:Program}{w:World}:∀{ks:List Key} {us:List Value},Vals (ks.map kV) us->ItemsAre (bY P w) ks us
 | [],_,r=>by rw[wE]at r;cases r;exact .nil
 | k::ks,_,r=>by
  rw[ba]at r
  cases r with
  | cons h t=>exact .cons (oX h) (rB t)
abbrev KT(H:Hp):List (List Key×V)->List (List Key×Addr×Value)->Prop:=Paired λp q=>p.1=q.1/\H q.2.1=some (.tup (p.1.map kV))/\RelV p.2 q.2.2
theorem KT.val{xs:List (List Key×Addr×Value)}(r:KT H kvs xs)(k:List Key):RelO (ko kvs k) ((atKey xs k).map (·.2)):=by
 induction r with
 | nil=>exact True.intro
 | @cons p q ps qs h t ih =>
  obtain⟨h1,_,h2⟩:=h
  by_cases e:p.1=k
  ·have e':q.1=k:=h1.symm.trans e
   have b:atKey (q::qs) k=some q.2:=by simp[atKey,tu,e']
   rw[ud e,b];exact h2
  ·have e':¬ q.1=k:=λz=>e (h1.trans z)
   have b:atKey (q::qs) k=atKey qs k:=by simp[atKey,tu,e']
   rw[uf e,b];exact ih
section
variable {h:Heap}
theorem E5{u:HO}(ok:HOk P w H h)(e:Rd H a u):ObjOk P w H h a u:=e.ok ok
theorem vv{kvs:List (Key×V)}(ok:HOk P w H h)(e:Rd H a (.dK kvs)):kvs.length<=sizeLine/\(a==sysModules)=false/\∃vs,KV kvs vs/\h.DictOf (bY P w) a vs :=
 show ObjOk P w H h a (.dK kvs)from E5 ok e
theorem Cg{kvs:List (Key×V)}(ok:HOk P w H h)(e:H a=some (.dK kvs)):kvs.length<=sizeLine/\(a==sysModules)=false/\∃vs,KV kvs vs/\h.DictOf (bY P w) a vs:=vv ok (.inl e)
theorem md{ks:List Key}(ok:HOk P w H h)(e:H a=some (.tup (ks.map kV))):(tupleKind (bY P w)).is h ks a:=by
 obtain⟨_,its,r,⟨o,h1,h2,n,h3⟩,_⟩:=(show ObjOk P w H h a (.tup (ks.map kV))from ok a _ e)
 exact⟨o,its.toArray,n,h1,h2,h3,by simpa using rB r⟩
theorem vt(ok:HOk P w H h)(e:Rd H a (.dT kvs)):kvs.length<=sizeLine/\(a==sysModules)=false /\
  ∃xs,KT H kvs xs/\h.DictOfH (tupleKind (bY P w)) a xs:=by
 obtain⟨z,y,xs,r,o,es,ep,h1,h2,h3,h4,h5⟩:=(show ObjOk P w H h a (.dT kvs)from E5 ok e)
 refine⟨z,y,xs,r,o,es,ep,h1,h2,h3,h4,λx hx=>?_,h5⟩
 have all:∀{l:List (List Key×V)} {m:List (List Key×Addr×Value)},KT H l m->∀x∈m,(tupleKind (bY P w)).is h x.1 x.2.1:=by
  intro l m q
  induction q with
  | nil=>intro x hx;exact nomatch hx
  | @cons p q ps qs hq t ih =>
   intro x hx
   rcases List.mem_cons.mp hx with e|hx
   ·subst e
    exact md ok (by rw[<-hq.1];exact hq.2.1)
   ·exact ih x hx
 exact all r x hx
theorem FD(ok:HOk P w H h)(e:H a=some (.dT kvs)):kvs.length<=sizeLine/\(a==sysModules)=false /\
  ∃xs,KT H kvs xs/\h.DictOfH (tupleKind (bY P w)) a xs:=vt ok (.inl e)
end
def DGet(H:Hp)(a:Addr)(y:V)(r:Option V):Prop :=
 (∃kvs k,Rd H a (.dK kvs)/\y=kV k/\r=ko kvs k)\/∃kvs k b,Rd H a (.dT kvs)/\y=.ref b/\H b=some (.tup (k.map kV))/\r=ko kvs k
theorem DGet.k{H:Hp}{a:Addr}{kvs:List (Key×V)}{k:Key}(e:H a=some (.dK kvs)):DGet H a (kV k) (ko kvs k):=.inl ⟨kvs,k,.inl e,rfl,rfl⟩
theorem DGet.t{b:Addr}{k:List Key}(e:H a=some (.dT kvs))(eb:H b=some (.tup (k.map kV))):DGet H a (.ref b) (ko kvs k):=.inr ⟨kvs,k,b,.inl e,rfl,eb,rfl⟩
section
variable {s:Shared} {v:V} {r:Value} {A:Around} {E:zzj}
theorem Inv.big(I:Inv X pins Z H s):sysModules<s.heap.objs.size:=by
 have h:mainGlobals<s.heap.objs.size:=(I.mod.glob.keeps I.bk).lt
 exact Nat.lt_trans (by decide) h
theorem Aj(hu:A.units+1<cLine)(I:Inv X pins Z H s)(g:DGet H a y (some v))(ry:RelV y u)(h:∀w' s',Inv X pins Z H s'->RelV v w'->Q w' s') :
  wpAny (model X.prog X.w) A (getItem (.ref a) u) Q E s:=by
 rcases g with ⟨kvs,k,e,ey,l⟩|⟨kvs,k,b,e,ey,eb,l⟩
 ·subst ey
  obtain⟨z,hd,vs,rel,dd⟩:=vv I.hok e
  obtain⟨w',hw,rw'⟩:=RelO.some_of (v:=v) (o:=valueAt vs k) (by rw[l];exact rel.val k)
  exact wpAny_getItem_of (oX ry) dd.mapOf hw (h w' _ (I.tok _) rw')
 ·subst ey
  cases (show u=Value.ref b from ry)
  obtain⟨z,hd,xs,rel,dd⟩:=vt I.hok e
  obtain⟨w',hw,rw'⟩:=RelO.some_of (v:=v) (o:=(atKey xs k).map (·.2)) (by rw[l];exact rel.val k)
  obtain⟨p,hp,hp2⟩:=Option.map_eq_some_iff.mp hw
  refine wpAny_getItem_heap (ES hu) (md I.hok eb) dd hp ?_
  rw[hp2]
  exact h w' _ (I.tok _) rw'
theorem K9(hu:A.units+1<cLine)(I:Inv X pins Z H s)(g:DGet H a y o)(ry:RelV y u)(h:∀s',Inv X pins Z H s'->Q (.bool o.isSome) s') :
  wpAny (model X.prog X.w) A (compareOp .In u (.ref a)) Q E s:=by
 rcases g with ⟨kvs,k,e,ey,l⟩|⟨kvs,k,b,e,ey,eb,l⟩
 ·subst ey
  obtain⟨z,hd,vs,rel,dd⟩:=vv I.hok e
  refine wpAny_in_of (oX ry) hd dd.mapOf ?_
  rw[<-(rel.val k).isSome_eq,<-l]
  exact h _ (I.tok _)
 ·subst ey
  cases (show u=Value.ref b from ry)
  obtain⟨z,hd,xs,rel,dd⟩:=vt I.hok e
  refine wpAny_in_heap (ES hu) (md I.hok eb) hd dd ?_
  have q:=(rel.val k).isSome_eq
  rw[Option.isSome_map]at q
  rw[<-q,<-l]
  exact h _ (I.tok _)
theorem Eo(hu:A.units+1<cLine)(I:Inv X pins Z H s)(g:DGet H a y o)(ry:RelV y u)(h:∀s',Inv X pins Z H s'->Q (.bool (!o.isSome)) s') :
  wpAny (model X.prog X.w) A (compareOp .NotIn u (.ref a)) Q E s:=by
 rcases g with ⟨kvs,k,e,ey,l⟩|⟨kvs,k,b,e,ey,eb,l⟩
 ·subst ey
  obtain⟨z,hd,vs,rel,dd⟩:=vv I.hok e
  refine wpAny_notIn_of (oX ry) hd dd.mapOf ?_
  rw[<-(rel.val k).isSome_eq,<-l]
  exact h _ (I.tok _)
 ·subst ey
  cases (show u=Value.ref b from ry)
  obtain⟨z,hd,xs,rel,dd⟩:=vt I.hok e
  refine wpAny_notIn_heap (ES hu) (md I.hok eb) hd dd ?_
  have q:=(rel.val k).isSome_eq
  rw[Option.isSome_map]at q
  rw[<-q,<-l]
  exact h _ (I.tok _)
theorem Em{h':Heap}{t':Nat}{ob:HO}(I:Inv X pins Z H s)(mu:Mut (H a))(hs:Heap.SameBut a s.heap h')(he:∃q,h'.get? a=some q)(new:ObjOk X.prog X.w (upd H a ob) h' a ob) :
  Inv X pins Z (upd H a ob) { s with heap:=h',toks:=t' } :=
 I.write (x:=a) (e:=a) mu (.inl rfl) (λb q hb z=>(hs.2 b hb).trans z) he new
theorem Hq{h':Heap}{kvs:List (Key×V)}{vs:List (Key×Value)}(z:kvs.length<=sizeLine)(hd:(a==sysModules)=false)(rel:KV kvs vs)(dd:h'.DictOf (bY P w) a vs) :
  ObjOk P w H' h' a (.dK kvs):=⟨z,hd,vs,rel,dd⟩
end
theorem vw{s:Shared}(I:Inv X pins Z H s)(g:DGet H a y o):s.TypeIs (.ref a) "dict":=by
 rcases g with ⟨kvs,k,e,_,_⟩|⟨kvs,k,b,e,_,_,_⟩
 ·obtain⟨_,_,vs,_,dd⟩:=vv I.hok e
  exact dd.typeIs
 ·obtain⟨_,_,xs,_,dd⟩:=vt I.hok e
  exact dd.typeIs
theorem Cj(h:Heap)(hb:sysModules<h.objs.size):ObjOk P w H (h.push { cls:=.type "dict",data:=.dict #[] }) h.objs.size (.dK []) :=
 ⟨eE _,beq_eq_false_iff_ne.mpr (Ne.symm (bu hb)),[],.nil,Heap.DictOf.new h⟩
def rZ:List (TE×TE)->St->Hp->(List (V×V)->Hp->Prop)->Prop
 | [],_,H,Q=>Q [] H
 | (tk,tv)::r,Z,H,Q=>tk Z H λx H1=>tv Z H1 λy H2=>rZ r Z H2 λps H3=>Q ((x,y)::ps) H3
abbrev VV:List (V×V)->List (Value×Value)->Prop:=Paired λp q=>RelV p.1 q.1/\RelV p.2 q.2
def PPs(X:Cx)(pos:Pos)(keys:List (Option Expr))(values:List Expr)(trs:List (TE×TE)):Prop :=
 ∀(pins:zzk) (s:Shared) (Z:St) (H:Hp) (Q:List (V×V)->Hp->Prop),Inv X pins Z H s->rZ trs Z H Q ->
  wpAny (model X.prog X.w) X.A (evalPairs (pairTrees keys values X.env pos)) (λvs s'=>∃ps H',Inv X pins Z H' s'/\VV ps vs/\Q ps H') X.xe s
theorem Dw:PPs X pos [] [] []:=λpins s Z H Q I h=>pairTrees_nil_walk ⟨[],H,I,.nil,h⟩
theorem n5{k v:Expr}{ks:List (Option Expr)}{vs:List Expr}{tk tv:TE}{trs:List (TE×TE)}(hk:PE X k tk)(hv:PE X v tv)(hr:PPs X pos ks vs trs) :
  PPs X pos (some k::ks) (v::vs) ((tk,tv)::trs):=λpins s Z H Q I h =>
 pairTrees_cons_walk (thn (hk pins s Z H _ I h) λu s1 ⟨x,H1,I1,rx,q1⟩=>thn (hv pins s1 Z H1 _ I1 q1) λw2 s2 ⟨y,H2,I2,ry,q2⟩ =>
  thn (hr pins s2 Z H2 _ I2 q2) λws s3 ⟨ps,H3,I3,rel,q3⟩=>⟨(x,y)::ps,H3,I3,.cons ⟨rx,ry⟩ rel,q3⟩)
def lX(kvs more:List (Key×V)):List (Key×V):=more.foldl (λacc kv=>putK acc kv.1 kv.2) kvs
theorem KV.merge:∀{more:List (Key×V)} {rs:List (Key×Value)} {kvs:List (Key×V)} {vs:List (Key×Value)},KV more rs->KV kvs vs->KV (lX kvs more) (merged vs rs):=by
 intro more rs kvs vs r
 unfold KV at r
 induction r generalizing kvs vs with
 | nil=>intro q;exact q
 | @cons p q ps qs h t ih =>
  intro r0
  have e:KV (putK kvs p.1 p.2) (stored vs q.1 q.2):=by
   have:=r0.put p.1 h.2
   rw[<-h.1];exact this
  exact ih e
theorem jG:∀(more kvs:List (Key×V)),(lX kvs more).length<=kvs.length+more.length
 | [],kvs=>by show kvs.length<=kvs.length+0;lia
 | p::r,kvs=>by
  have h1:=jG r (putK kvs p.1 p.2)
  have h2:=uY kvs p.1 p.2
  show(lX (putK kvs p.1 p.2) r).length<=_
  rw[ci];lia
theorem pQ{P:Program}{w:World}:∀{kvs:List (Key×V)} {ws:List (Value×Value)},VV (kvs.map λkv=>(kV kv.1,kv.2)) ws->∃rs,Carries (bY P w) ws rs/\KV kvs rs
 | [],_,r=>by rw[wE]at r;cases r;exact⟨[],True.intro,.nil⟩
 | p::kvs,_,r=>by
  rw[ba]at r
  cases r with
  | @cons a b as bs h t =>
   obtain⟨rs,c,q⟩:=pQ (P:=P) (w:=w) t
   obtain⟨b1,b2⟩:=b
   exact⟨(p.1,b2)::rs,⟨oX h.1,rfl,c⟩,.cons ⟨rfl,h.2⟩ q⟩
def Ia(trs:List (TE×TE)):TE:=λZ H Q=>∀p,H p=none->rZ trs Z (upd H p (.dK [])) λps H2=>H2 p=some (.dK [])/\∃kvs:List (Key×V),ps=kvs.map (λkv=>(kV kv.1,kv.2))/\kvs.length<=15/\Q (.ref p) (upd H2 p (.dK (lX [] kvs)))
theorem DA{keys:List (Option Expr)}{values:List Expr}{trs:List (TE×TE)}(h:PPs X pos keys values trs)(hall:keys.all (·.isSome)=true)(hl:keys.length=values.length)(h0:keys≠[])
  (h15:keys.length<=15):PE X (.Dict keys values pos) (Ia trs):=by
 intro pins s Z H Q I q
 have hn:=I.hok.fresh (ay s.heap.objs.size)
 have I1:=I.laid (a:=s.heap.objs.size) (o:=.dK []) (h':=s.heap.push { cls:=.type "dict",data:=.dict #[] }) (t':=s.toks) (λ_ _ q=>zzc _ q) (ay _) (Cj s.heap I.big)
 refine wpAny_Dict_walk (knd:=bY X.prog X.w) hall hl h0 h15 (thn (h pins _ Z _ _ I1 (q _ hn)) λws s2 ⟨ps,H2,I2,rel,e,kvs,ep,lk,q2⟩=>?_)
 subst ep
 obtain⟨rs,c,rk⟩:=pQ (P:=X.prog) (w:=X.w) rel
 obtain⟨z,hd,vs0,r0,dd⟩:=Cg I2.hok e
 cases r0
 refine⟨rs,c,dd,λh' dd' hs=>⟨.ref s.heap.objs.size,_,?_,rfl,q2⟩⟩
 have hz:(lX [] kvs).length<=sizeLine:=by
  have h1:=jG kvs []
  rw[ou]at h1
  rw[sizeLine_eq];lia
 have he:∃q,h'.get? s.heap.objs.size=some q:=let ⟨q,_,_,hq,_⟩:=dd';⟨q,hq⟩
 exact Em I2 (by rw[e];exact True.intro) hs he (Hq hz hd (rk.merge .nil) dd')
end L2
namespace L4
open PySem PySem.Spec PyProof.Rows L2 PySem.W
def XO(e C:Addr)(dd:Option Addr):Heap->Prop:=λh=>∃oe,h.get? e=some oe/\oe.cls=.ref C/\oe.dict=dd/\PySem.W.notCls oe=true
def XD(dx:Addr)(fs:List (Str×V)):Heap->Prop:=λh=>∃mA,h.Ns1 dx mA/\PySem.Within mA (fs.map (·.1))/\∀f,RelO (fs.lookup f) (mA f)
abbrev bmV:List Value:=[.type "ValueError",.type "Exception",.type "BaseException",.type "object"]
structure XC(K:Frag)(C D fI:Addr):Prop where
 obj:∃nm q N bs sn sub ab col dd k0 k1 k2 k3 k5,K.lookup C=some (excClassObj nm q C N bs (.ref D::bmV) true sn sub ab col dd k0 k1 k2 k3 k5 "ValueError.__new__")
 tl:tailIn K bmV (.ref D::bmV)=true
 ini:findIn K (.ref C) "__init__" = some (some (.ref fI))
 fn:typeIn K (.ref fI)=some (.type "function")
 sa:findIn K (.ref C) "__setattr__" = some (some (.builtin "object.__setattr__"))
 ga:findIn K (.ref C) "__getattribute__" = some (some (.builtin "BaseException.__getattribute__"))
 gr:findIn K (.ref C) "__getattr__" = some none
structure KC(K:Frag)(C:Addr):Prop where
 ha:findIn K (.ref C) "__class__" = some (some (.builtin "object.__class__"))
 hn:specialIn K (.builtin "object.__class__") "__get__" = some (some (.builtin "getset_descriptor.__get__"))
 htk:takesIn K (.builtin "object.__class__")=some true
def qi(T:String):Bool:=T == "bool" || T == "int" || T == "str" || T == "list" || T == "tuple" || T == "dict"
structure XQ(K:Frag)(C:Addr)(x:Str):Prop where
 ns:nsIn K mainGlobals x=some (some (.ref C))
 xc:∃D fI,XC K C D fI
 kc:KC K C
 no:∀T,qi T=true->kitOne K (.ref C) (.type T)=some false
def FX(F:Hp)(dd:Option Addr)(fv:List (Str×V)):Prop:=(dd=none/\fv=[])\/∃dx,dd=some dx/\F dx=some (.ext (XD dx fv))
theorem FX.mono{F F':Hp}{dd:Option Addr}{fv:List (Str×V)}(e:Same F F')(h:FX F dd fv):FX F' dd fv:=h.imp id λ⟨dx,h1,h2⟩=>⟨dx,h1,e _ _ h2⟩
end L4
namespace L3
open PySem PySem.Spec PyProof.Rows L2
variable {F H F':Hp}{v:V}{vs:List V}{a p:Addr}{o:HO}{Z:L2.St}
abbrev D:=PyData
abbrev Fg:=PySem.W.Frag
def keyD:Key->D
 | .inl i=>.int i
 | .inr x=>.str x
def qx(k:List Key):D:=.tuple (k.map keyD)
mutual
inductive Rep(K:Fg)(F:Hp):V->D->Prop
 | non:Rep K F .non .none
 | bl (b):Rep K F (.bl b) (.bool b)
 | int (i):Rep K F (.int i) (.int i)
 | str (x):Rep K F (.str x) (.str x)
 | tup {a vs ds}:F a=some (.tup vs)->RepL K F vs ds->Rep K F (.ref a) (.tuple ds)
 | lst {a vs ds}:SqL K F a vs->RepL K F vs ds->Rep K F (.ref a) (.list ds)
 | dct {a kvs es}:F a=some (.dT kvs)->es.map (·.1)=kvs.map (λp=>qx p.1)->RepL K F (kvs.map (·.2)) (es.map (·.2))->Rep K F (.ref a) (.dict es)
 | dck {a kvs es}:F a=some (.dK kvs)->es.map (·.1)=kvs.map (λp=>keyD p.1)->RepL K F (kvs.map (·.2)) (es.map (·.2))->Rep K F (.ref a) (.dict es)
 | exc {a C dd cl fv es}:F a=some (.ext (L4.XO a C dd))->L4.XQ K C cl->L4.FX F dd fv->es.map (·.1)=fv.map (λp=>.str p.1)->RepL K F (fv.map (·.2)) (es.map (·.2))->Rep K F (.ref a) (.dict ((.none,.str cl)::es))
 | fn {a f}:PySem.W.nsIn K mainGlobals f=some (some (.ref a))->Rep K F (.ref a) (.dict [(.bool true,.str f)])
inductive RepL(K:Fg)(F:Hp):List V->List D->Prop
 | nil:RepL K F [] []
 | cons {v d vs ds}:Rep K F v d->RepL K F vs ds->RepL K F (v::vs) (d::ds)
end
theorem gA{K:Fg}{xs:List V}(e:Same F F')(h:SqT K F a xs):SqT K F' a xs:=by
 rcases h with (h|⟨o,h⟩)|h
 ·exact .inl (.inl (e _ _ h))
 ·exact .inl (.inr ⟨o,e _ _ h⟩)
 ·exact .inr h
theorem Rep.mono{K:Fg}(e:Same F F'){d:D}(h:Rep K F v d):Rep K F' v d :=
 Rep.rec (motive_1:=λv d _=>Rep K F' v d) (motive_2:=λvs ds _=>RepL K F' vs ds) .non .bl .int .str (λh _ r=>.tup (e _ _ h) r) (λh _ r=>.lst (e.seq h) r) (λh k _ r=>.dct (e _ _ h) k r) (λh k _ r=>.dck (e _ _ h) k r) (λh q f k _ r=>.exc (e _ _ h) q (f.mono e) k r) (λh=>.fn h) .nil (λ_ _ a b=>.cons a b) h
theorem RepL.mono{K:Fg}(e:Same F F'){ds:List D}(h:RepL K F vs ds):RepL K F' vs ds:=by
 induction vs generalizing ds with
 | nil=>cases h;exact .nil
 | cons v vs ih=>cases h with
  | cons a b=>exact .cons (a.mono e) (ih b)
def Iu(K:Fg)(F:Hp):D->V->Prop
 | .none,v=>v=.non
 | .bool b,v=>v=.bl b
 | .int i,v=>v=.int i
 | .str x,v=>v=.str x
 | .tuple ds,v=>∃a vs,v=.ref a/\F a=some (.tup vs)/\RepL K F vs ds
 | .list ds,v=>∃a vs,v=.ref a/\SqL K F a vs/\RepL K F vs ds
 | _,_=>True
theorem Rep.inv{K:Fg}{d:D}(h:Rep K F v d):Iu K F d v :=
 Rep.casesOn (motive_1:=λv d _=>Iu K F d v) h rfl (λ_=>rfl) (λ_=>rfl) (λ_=>rfl) (λh r=>⟨_,_,rfl,h,r⟩) (λh r=>⟨_,_,rfl,h,r⟩) (λ_ _ _=>True.intro) (λ_ _ _=>True.intro) (λ_ _ _ _ _=>True.intro) (λ_=>True.intro)
theorem Rep.int_inv{K:Fg}{i:Int}(h:Rep K F v (.int i)):v=.int i:=h.inv
theorem Rep.bool_inv{K:Fg}{i:Bool}(h:Rep K F v (.bool i)):v=.bl i:=h.inv
theorem Rep.str_inv{K:Fg}{i:Str}(h:Rep K F v (.str i)):v=.str i:=h.inv
theorem Rep.tup_inv{K:Fg}{ds:List D}(h:Rep K F v (.tuple ds)):∃a vs,v=.ref a/\F a=some (.tup vs)/\RepL K F vs ds:=h.inv
theorem Rep.lst_inv{K:Fg}{ds:List D}(h:Rep K F v (.list ds)):∃a vs,v=.ref a/\SqL K F a vs/\RepL K F vs ds:=h.inv
def E4(K:Fg)(F:Hp):List D->List V->Prop
 | [],vs=>vs=[]
 | d::ds,vs=>∃v us,vs=v::us/\Rep K F v d/\RepL K F us ds
theorem RepL.inv{K:Fg}{ds:List D}(h:RepL K F vs ds):E4 K F ds vs :=
 RepL.casesOn (motive_2:=λvs ds _=>E4 K F ds vs) h rfl (λa b=>⟨_,_,rfl,a,b⟩)
theorem RepL.one_inv{K:Fg}{d:D}(h:RepL K F vs [d]):∃v,vs=[v]/\Rep K F v d:=by
 obtain⟨v,us,rfl,a,b⟩:=(h.inv:∃v us,vs=v::us/\Rep K F v d/\RepL K F us [])
 obtain rfl:us=[]:=b.inv
 exact⟨v,rfl,a⟩
theorem RepL.two_inv{K:Fg}{d e:D}(h:RepL K F vs [d,e]):∃v u,vs=[v,u]/\Rep K F v d/\Rep K F u e:=by
 obtain⟨v,us,rfl,a,b⟩:=(h.inv:∃v us,vs=v::us/\Rep K F v d/\RepL K F us [e])
 obtain⟨u,rfl,c⟩:=b.one_inv
 exact⟨v,u,rfl,a,c⟩
theorem RepL.length{K:Fg}:∀{vs ds},RepL K F vs ds->vs.length=ds.length
 | _,_,.nil=>rfl
 | _,_,.cons _ r=>by simp[RepL.length r]
theorem RepL.get{K:Fg}:∀{vs ds} {i:Nat} {d:D},RepL K F vs ds->ds[i]? = some d->∃v,vs[i]? = some v/\Rep K F v d
 | _,_,_,_,.nil,e=>by simp at e
 | _,_,0,_,.cons h _,e=>by simp at e;subst e;exact⟨_,rfl,h⟩
 | _,_,i+1,d,.cons _ r,e=>by
  obtain⟨v,h1,h2⟩:=RepL.get (i:=i) (d:=d) r (by simpa using e)
  exact⟨v,by simpa using h1,h2⟩
theorem RepL.append{K:Fg}{ds:List D}{us:List V}{es:List D}(h:RepL K F vs ds)(s:RepL K F us es):RepL K F (vs++us) (ds++es):=by
 induction vs generalizing ds with
 | nil=>cases h;exact s
 | cons v vs ih=>cases h with
  | cons a b=>exact .cons a (ih b)
theorem RepL.take{K:Fg}:∀{vs ds} (n:Nat),RepL K F vs ds->RepL K F (vs.take n) (ds.take n)
 | _,_,0,_=>.nil
 | _,_,_+1,.nil=>.nil
 | _,_,n+1,.cons h r=>.cons h (RepL.take n r)
theorem RepL.drop{K:Fg}:∀{vs ds} (n:Nat),RepL K F vs ds->RepL K F (vs.drop n) (ds.drop n)
 | _,_,0,r=>r
 | _,_,_+1,.nil=>.nil
 | _,_,n+1,.cons _ r=>RepL.drop n r
theorem RepL.set{K:Fg}{d:D}(h:Rep K F v d):∀{vs ds} (i:Nat),RepL K F vs ds->RepL K F (vs.set i v) (ds.set i d)
 | _,_,_,.nil=>.nil
 | _,_,0,.cons _ r=>.cons h r
 | _,_,i+1,.cons q r=>.cons q (RepL.set h i r)
theorem RepL.ints{K:Fg}:∀(ns:List Int),RepL K F (ns.map V.int) (ns.map PyData.int)
 | []=>.nil
 | n::r=>.cons (.int n) (RepL.ints r)
section
variable {X:Cx} {pins:zzk} {s:Shared}
theorem qQ{u:List Value}(r:Vals [] u):∃as,ReadsAll s.heap u [] as:=by cases r;exact⟨_,.nil⟩
theorem nV{d:D}{ds:List D}(h:d.canLay0=true->∀{u},RelV v u->∃as,Reads s.heap u d as)(t:PyData.canLayAll0 ds=true->∀{us},Vals vs us->∃as,ReadsAll s.heap us ds as)(c:PyData.canLayAll0 (d::ds)=true){us:List Value}(r:Vals (v::vs) us):∃as,ReadsAll s.heap us (d::ds) as:=by
 simp only[PyData.canLayAll0,am]at c
 cases r with
 | cons r rr =>
  obtain⟨as,ra⟩:=h c.1 r
  obtain⟨bs,rb⟩:=t c.2 rr
  exact⟨_,.cons ra rb⟩
theorem zL(I:Inv X pins Z H s){ds:List D}(hq:H a=some (.tup vs))(ih:PyData.canLayAll0 ds=true->∀{us},Vals vs us->∃as,ReadsAll s.heap us ds as)(c:(PyData.tuple ds).canLay0=true){u:Value}(r:RelV (.ref a) u):∃as,Reads s.heap u (.tuple ds) as:=by
 cases r
 obtain⟨its,rv,⟨o,e1,e2,n',e3⟩,hz⟩:=I.tuple (SqT.of hq)
 obtain⟨as,ra⟩:=ih (by simpa[PyData.canLay0]using c) rv
 exact⟨_,.tuple e1 e2 e3 (by simpa using ra)⟩
theorem zM(I:Inv X pins Z H s){ds:List D}(hq:SqL X.K H a vs)(ih:PyData.canLayAll0 ds=true->∀{us},Vals vs us->∃as,ReadsAll s.heap us ds as)(c:(PyData.list ds).canLay0=true){u:Value}(r:RelV (.ref a) u):∃as,Reads s.heap u (.list ds) as:=by
 cases r
 obtain⟨its,rv,⟨o,n',e1,e2,e3,e4⟩,hz⟩:=I.list hq
 obtain⟨as,ra⟩:=ih (by simpa[PyData.canLay0]using c) rv
 exact⟨_,.list e1 e2 e4 (by simpa using ra)⟩
theorem jp{es:List (D×D)}{P:Prop}(c:(PyData.dict es).canLay0=true):P:=by simp[PyData.canLay0]at c
theorem A9(I:Inv X pins Z H s){d:D}(h:Rep X.K H v d):d.canLay0=true->∀{u},RelV v u->∃as,Reads s.heap u d as :=
 Rep.rec (motive_1:=λv d _=>d.canLay0=true->∀{u},RelV v u->∃as,Reads s.heap u d as) (motive_2:=λvs ds _=>PyData.canLayAll0 ds=true->∀{us},Vals vs us->∃as,ReadsAll s.heap us ds as)
  (λ_ {_} r=>by cases r;exact⟨_,.none⟩) (λb _ {_} r=>by cases r;exact⟨_,.bool b⟩) (λi _ {_} r=>by obtain⟨t,rfl⟩:=r;exact⟨_,.int i t⟩) (λx _ {_} r=>by obtain⟨t,rfl⟩:=r;exact⟨_,.str x t⟩)
  (λhq _ ih=>zL I hq ih) (λhq _ ih=>zM I hq ih) (λ_ _ _ _ c=>jp c) (λ_ _ _ _ c=>jp c) (λ_ _ _ _ _ _ c=>jp c) (λ_ c=>jp c)
  (λ_ {_} r=>qQ r) (λ_ _ a b=>nV a b) h
theorem Gf(I:Inv X pins Z H s){ds:List D}(h:RepL X.K H vs ds):PyData.canLayAll0 ds=true->∀{us},Vals vs us->∃as,ReadsAll s.heap us ds as:=by
 induction vs generalizing ds with
 | nil=>cases h;exact λ_ _ r=>qQ r
 | cons v vs ih=>cases h with
  | cons a b=>exact nV (A9 I a) (ih b)
end
theorem bR{X:Cx}{pins:zzk}{s:Shared}(I:Inv X pins Z H s) :
  (∀{v d},Rep X.K H v d->d.canLay0=true->∀{u},RelV v u->∃as,Reads s.heap u d as)/\(∀{vs ds},RepL X.K H vs ds->PyData.canLayAll0 ds=true->∀{us},Vals vs us->∃as,ReadsAll s.heap us ds as) :=
 ⟨λ{v d} h c {u} r=>A9 I h c r,λ{vs ds} h c {us} r=>Gf I h c r⟩
def o7:List (D×D)->Bool
 | (.none,_)::_=>true
 | (.bool _,_)::_=>true
 | _=>false
def isFn:D->Bool
 | .dict ((.bool _,_)::_)=>true
 | _=>false
inductive OC where
 | l (ds:List D)
 | t (es:List (D×D))
 | k (es:List (D×D))
 | i (x:Str) (ns:List Str) (ds:List D)
def OC.isI:OC->Bool
 | .i _ _ _=>true
 | _=>false
inductive AV where
 | fz (d:D)
 | ol (c:OC)
 | op (c:OC)
abbrev En:=List (Option AV)
inductive RV where
 | fz (d:D)
 | fr (c:OC)
 | bor (i:Nat)
def Av:HO->Prop
 | .tup _=>False
 | .ext _=>False
 | _=>True
structure Gh where
 P:Nat->Option Addr
 O:Hp
 B:Hp
def Held(K:Fg)(F H:Hp)(a:Addr):OC->Prop
 | .l ds=>∃vs,H a=some (.lst vs)/\RepL K F vs ds
 | .t es=>∃kvs,H a=some (.dT kvs)/\es.map (·.1)=kvs.map (λp=>qx p.1)/\RepL K F (kvs.map (·.2)) (es.map (·.2))
 | .k es=>∃kvs,H a=some (.dK kvs)/\es.map (·.1)=kvs.map (λp=>keyD p.1)/\RepL K F (kvs.map (·.2)) (es.map (·.2))
 | .i x ns ds=>∃C dx fs,H a=some (.ins C dx fs)/\PySem.W.nsIn K mainGlobals x=some (some (.ref C))/\fs.map (·.1)=ns/\RepL K F (fs.map (·.2)) ds
structure OwnAt(K:Fg)(G:Gh)(F H:Hp)(a:Addr)(c:OC):Prop where
 nf:F a=none
 no:G.O a=none
 he:Held K F H a c
def own(ρ:En)(i:Nat)(c:OC):Prop:=ρ[i]? = some (some (.ol c))\/ρ[i]? = some (some (.op c))
structure StOk(K:Fg)(G:Gh)(F:Hp)(Z:L2.St)(H:Hp)(ρ:En):Prop where
 fh:Same F H
 oh:Same G.O H
 fo:∀b o,G.O b=some o->F b=none/\Av o
 ln:Z.length=ρ.length
 fz:∀(i:Nat) (d:D),ρ[i]? = some (some (AV.fz d))->∃v,Z[i]? = some (some v)/\Rep K F v d
 ow:∀(i:Nat) (c:OC),own ρ i c->∃a:Addr,Z[i]? = some (some (V.ref a))/\OwnAt K G F H a c
 dj:∀(i j:Nat) (c e:OC) (a:Addr),own ρ i c->own ρ j e->Z[i]? = some (some (V.ref a))->Z[j]? = some (some (V.ref a))->i=j
 pp:∀(i:Nat) (a:Addr),G.P i=some a->Z[i]? = some (some (V.ref a))/\∃c,ρ[i]? = some (some (AV.op c))
 pq:∀(i:Nat) (c:OC),ρ[i]? = some (some (AV.op c))->∃a,G.P i=some a
 fb:Same G.B F
def RVR(K:Fg)(G:Gh)(F:Hp)(Z:L2.St)(H:Hp)(ρ:En)(v:V):RV->Prop
 | .fz d=>Rep K F v d
 | .fr c=>∃a,v=.ref a/\OwnAt K G F H a c/\∀(i:Nat) (e:OC),own ρ i e->Z[i]? ≠ some (some (V.ref a))
 | .bor i=>∃c,own ρ i c/\Z[i]? = some (some v)
theorem Held.mono{K:Fg}{c:OC}(e:Same F F')(h:Held K F H a c):Held K F' H a c:=by
 cases c with
 | l ds=>obtain⟨vs,h1,h2⟩:=h;exact⟨vs,h1,h2.mono e⟩
 | t es=>obtain⟨vs,h1,h2,h3⟩:=h;exact⟨vs,h1,h2,h3.mono e⟩
 | k es=>obtain⟨vs,h1,h2,h3⟩:=h;exact⟨vs,h1,h2,h3.mono e⟩
 | i x ns ds=>obtain⟨C,dx,fs,h1,h2,h3,h4⟩:=h;exact⟨C,dx,fs,h1,h2,h3,h4.mono e⟩
theorem Held.some{K:Fg}{c:OC}(h:Held K F H a c):∃o,H a=some o:=by
 cases c with
 | l ds=>obtain⟨vs,h1,h2⟩:=h;exact⟨_,h1⟩
 | t es=>obtain⟨vs,h1,h2⟩:=h;exact⟨_,h1⟩
 | k es=>obtain⟨vs,h1,h2⟩:=h;exact⟨_,h1⟩
 | i x ns ds=>obtain⟨C,dx,fs,h1,_⟩:=h;exact⟨_,h1⟩
theorem Held.at{K:Fg}{H':Hp}{c:OC}(h:Held K F H a c)(e:H' a=H a):Held K F H' a c:=by
 cases c with
 | l ds=>obtain⟨vs,h1,h2⟩:=h;exact⟨vs,e.trans h1,h2⟩
 | t es=>obtain⟨vs,h1,h2⟩:=h;exact⟨vs,e.trans h1,h2⟩
 | k es=>obtain⟨vs,h1,h2⟩:=h;exact⟨vs,e.trans h1,h2⟩
 | i x ns ds=>obtain⟨C,dx,fs,h1,h2⟩:=h;exact⟨C,dx,fs,e.trans h1,h2⟩
theorem eM(h:F p=none):Same F (upd F p o):=λb u e=>by
 rw[aL (bA e h)]
 exact e
theorem fF(s:Same F H)(h:F p=none):Same F (upd H p o):=λb u e=>by
 rw[aL (bA e h)]
 exact s b u e
section
variable {K:Fg} {G:Gh} {ρ:En}
theorem StOk.lay(S:StOk K G F Z H ρ)(hp:H p=none):StOk K G F Z (upd H p o) ρ:=by
 have fp:F p=none:=S.fh.free hp
 have op:G.O p=none:=S.oh.free hp
 refine⟨fF S.fh fp,fF S.oh op,S.fo,S.ln,S.fz,λi c h=>?_,S.dj,S.pp,S.pq,S.fb⟩
 obtain⟨a,e,oa⟩:=S.ow i c h
 refine⟨a,e,oa.nf,oa.no,oa.he.at ?_⟩
 obtain⟨u,hu⟩:=oa.he.some
 exact aL (bA hu hp)
theorem StOk.fresh_ne(S:StOk K G F Z H ρ)(hp:H p=none):∀(i:Nat) (e:OC),own ρ i e->Z[i]? ≠ some (some (V.ref p)):=λi e h q=>by
 obtain⟨a,e1,oa⟩:=S.ow i e h
 rw[e1]at q
 injection q with q;injection q with q;injection q with q
 subst q
 obtain⟨u,hu⟩:=oa.he.some
 rw[hp]at hu;cases hu
theorem StOk.freeze(S:StOk K G F Z H ρ)(ha:H a=some o)(fa:F a=none)(oa:G.O a=none)(ne:∀(i:Nat) (e:OC),own ρ i e->Z[i]? ≠ some (some (V.ref a))):StOk K G (upd F a o) Z H ρ:=by
 have sm:Same F (upd F a o):=eM fa
 refine⟨λb u e=>?_,S.oh,λb u e=>?_,S.ln,λi d h=>?_,λi c h=>?_,S.dj,S.pp,S.pq,S.fb.trans sm⟩
 ·by_cases hb:b=a
  ·subst hb;rw[aR]at e;cases e;exact ha
  ·rw[aL hb]at e;exact S.fh b u e
 ·rw[aL (bA e oa)];exact S.fo b u e
 ·obtain⟨v,e,r⟩:=S.fz i d h;exact⟨v,e,r.mono sm⟩
 ·obtain⟨b,e,ob⟩:=S.ow i c h
  refine⟨b,e,?_,ob.no,ob.he.mono sm⟩
  rw[aL (λz=>ne i c h (by rw[e,z]))]
  exact ob.nf
theorem StOk.newTup(S:StOk K G F Z H ρ){ds:List D}(hp:H p=none)(r:RepL K F vs ds) :
  Same F (upd F p (.tup vs))/\StOk K G (upd F p (.tup vs)) Z (upd H p (.tup vs)) ρ/\Rep K (upd F p (.tup vs)) (.ref p) (.tuple ds):=by
 have fp:F p=none:=S.fh.free hp
 refine⟨eM fp,(S.lay hp).freeze aR fp (S.oh.free hp) (S.fresh_ne hp),?_⟩
 exact .tup aR (r.mono (eM fp))
theorem StOk.newLst(S:StOk K G F Z H ρ){ds:List D}(hp:H p=none)(r:RepL K F vs ds) :
  StOk K G F Z (upd H p (.lst vs)) ρ/\RVR K G F Z (upd H p (.lst vs)) ρ (.ref p) (.fr (.l ds)) :=
 ⟨S.lay hp,p,rfl,⟨S.fh.free hp,S.oh.free hp,vs,aR,r⟩,S.fresh_ne hp⟩
theorem StOk.settle(S:StOk K G F Z H ρ){ds:List D}(r:RVR K G F Z H ρ v (.fr (.l ds))) :
  ∃F',Same F F'/\StOk K G F' Z H ρ/\Rep K F' v (.list ds):=by
 obtain⟨a,rfl,oa,ne⟩:=r
 obtain⟨vs,h1,h2⟩:=oa.he
 exact⟨upd F a (.lst vs),eM oa.nf,S.freeze h1 oa.nf oa.no ne,.lst (.inl (.inl aR)) (h2.mono (eM oa.nf))⟩
def OC.d:OC->D
 | .l ds=>.list ds
 | .t es=>.dict es
 | .k es=>.dict es
 | .i _ _ _=>.none
theorem Ec{c:OC}(hI:c.isI=false)(h:Held K F H a c):∃o,H a=some o/\∀F',Same F F'->F' a=some o->Rep K F' (.ref a) c.d:=by
 cases c with
 | l ds=>obtain⟨vs,h1,h2⟩:=h;exact⟨_,h1,λF' s e=>.lst (.inl (.inl e)) (h2.mono s)⟩
 | t es=>obtain⟨vs,h1,h2,h3⟩:=h;exact⟨_,h1,λF' s e=>.dct e h2 (h3.mono s)⟩
 | k es=>obtain⟨vs,h1,h2,h3⟩:=h;exact⟨_,h1,λF' s e=>.dck e h2 (h3.mono s)⟩
 | i x ns ds=>cases hI
theorem StOk.store(S:StOk K G F Z H ρ){j:Nat}{av:AV}(hj:∀c,ρ[j]? ≠ some (some (.op c)))(hl:j<ρ.length)
  (h:(∃d,av=.fz d/\Rep K F v d)\/∃c,av=.ol c/\RVR K G F Z H ρ v (.fr c)):StOk K G F (Z.set j (some v)) H (ρ.set j (some av)):=by
 have hls:j<Z.length:=by rw[S.ln];exact hl
 have ne:∀i,i≠j->(ρ.set j (some av))[i]? = ρ[i]?:=λi hi=>ge (Ne.symm hi)
 have nes:∀i,i≠j->(Z.set j (some v))[i]? = Z[i]?:=λi hi=>ge (Ne.symm hi)
 have atj:(ρ.set j (some av))[j]? = some (some av):=il hl
 have atjs:(Z.set j (some v))[j]? = some (some v):=il hls
 have owni:∀i c,i≠j->own (ρ.set j (some av)) i c->own ρ i c:=λi c hi h=>by
  unfold own at h ⊢
  rw[ne i hi]at h
  exact h
 refine⟨S.fh,S.oh,S.fo,by simpa using S.ln,λi d q=>?_,λi c q=>?_,λi k c e a q1 q2 e1 e2=>?_,λi a q=>?_,λi c q=>?_,S.fb⟩
 ·by_cases hi:i=j
  ·subst hi
   rw[atj]at q
   rcases h with ⟨d',rfl,r⟩|⟨c,rfl,_⟩
   ·cases q;exact⟨v,atjs,r⟩
   ·cases q
  ·rw[ne i hi]at q
   obtain⟨w,e,r⟩:=S.fz i d q
   exact⟨w,by rw[nes i hi];exact e,r⟩
 ·by_cases hi:i=j
  ·subst hi
   rcases h with ⟨d',rfl,r⟩|⟨c',rfl,a,rfl,oa,_⟩
   ·rcases q with q|q<;>(rw[atj]at q;cases q)
   ·rcases q with q|q
    ·rw[atj]at q;cases q;exact⟨a,atjs,oa⟩
    ·rw[atj]at q;cases q
  ·obtain⟨a,e,oa⟩:=S.ow i c (owni i c hi q)
   exact⟨a,by rw[nes i hi];exact e,oa⟩
 ·by_cases hi:i=j
  ·by_cases hk:k=j
   ·rw[hi,hk]
   ·exfalso
    subst hi
    rw[nes k hk]at e2
    rw[atjs]at e1
    injection e1 with e1;injection e1 with e1
    subst e1
    rcases h with ⟨d',rfl,r⟩|⟨c',rfl,a',e,oa,nn⟩
    ·rcases q1 with q|q<;>(rw[atj]at q;cases q)
    ·injection e with e;subst e
     exact nn k _ (owni k _ hk q2) e2
  ·by_cases hk:k=j
   ·exfalso
    subst hk
    rw[nes i hi]at e1
    rw[atjs]at e2
    injection e2 with e2;injection e2 with e2
    subst e2
    rcases h with ⟨d',rfl,r⟩|⟨c',rfl,a',e,oa,nn⟩
    ·rcases q2 with q|q<;>(rw[atj]at q;cases q)
    ·injection e with e;subst e
     exact nn i _ (owni i _ hi q1) e1
   ·rw[nes i hi]at e1
    rw[nes k hk]at e2
    exact S.dj i k _ _ a (owni i _ hi q1) (owni k _ hk q2) e1 e2
 ·obtain⟨q1,c,q2⟩:=S.pp i a q
  have hi:i≠j:=by rintro rfl;exact hj c q2
  exact⟨by rw[nes i hi];exact q1,c,by rw[ne i hi];exact q2⟩
 ·have hi:i≠j:=by
   rintro rfl
   rw[atj]at q
   rcases h with ⟨d',rfl,r⟩|⟨c',rfl,_⟩<;>cases q
  rw[ne i hi]at q
  exact S.pq i c q
theorem StOk.change(S:StOk K G F Z H ρ){j:Nat}{c c':OC}(hj:own ρ j c)(ha:Z[j]? = some (some (.ref a)))(hh:Held K F (upd H a o) a c') :
  StOk K G F Z (upd H a o) (ρ.set j ((ρ[j]?.join).map fun | .op _=>.op c'|_=>.ol c')):=by
 obtain⟨b,e,ob⟩:=S.ow j c hj
 rw[ha]at e
 injection e with e;injection e with e;injection e with e
 subst e
 have hl:j<ρ.length:=by rcases hj with h|h<;>exact(List.getElem?_eq_some_iff.mp h).1
 generalize hav:((ρ[j]?.join).map λ(x:AV)=>match x with | .op _=>AV.op c'|_=>AV.ol c')=av
 have ne:∀i,i≠j->(ρ.set j av)[i]? = ρ[i]?:=λi hi=>ge (Ne.symm hi)
 have atj:(ρ.set j av)[j]? = some av:=il hl
 have owni:∀i e,i≠j->own (ρ.set j av) i e->own ρ i e:=λi c hi h=>by
  unfold own at h ⊢
  rw[ne i hi]at h
  exact h
 have kind:(ρ[j]? = some (some (.ol c))/\av=some (.ol c'))\/(ρ[j]? = some (some (.op c))/\av=some (.op c')):=by
  rcases hj with h|h
  ·exact .inl ⟨h,by rw[<-hav,h];rfl⟩
  ·exact .inr ⟨h,by rw[<-hav,h];rfl⟩
 have ownj:∀e,own (ρ.set j av) j e->e=c':=λe h=>by
  unfold own at h
  rw[atj]at h
  rcases kind with ⟨_,k⟩|⟨_,k⟩<;>rw[k]at h<;>rcases h with h|h<;>cases h<;>rfl
 refine⟨fF S.fh ob.nf,fF S.oh ob.no,S.fo,by simpa using S.ln,λi d q=>?_,λi e q=>?_,λi k c1 e1 b q1 q2=>?_,λi b q=>?_,λi e q=>?_,S.fb⟩
 ·by_cases hi:i=j
  ·subst hi
   rw[atj]at q
   rcases kind with ⟨_,k⟩|⟨_,k⟩<;>rw[k]at q<;>cases q
  ·rw[ne i hi]at q;exact S.fz i d q
 ·by_cases hi:i=j
  ·subst hi
   have:=ownj e q
   subst this
   exact⟨a,ha,ob.nf,ob.no,hh⟩
  ·have q':=owni i e hi q
   obtain⟨b',e',ob'⟩:=S.ow i e q'
   refine⟨b',e',ob'.nf,ob'.no,ob'.he.at (aL λz=>hi (S.dj i j _ _ a q' hj (by rw[e',z]) ha))⟩
 ·have o1:∃e,own ρ i e:=by
   by_cases hi:i=j
   ·exact⟨c,hi▸hj⟩
   ·exact⟨_,owni i _ hi q1⟩
  have o2:∃e,own ρ k e:=by
   by_cases hk:k=j
   ·exact⟨c,hk▸hj⟩
   ·exact⟨_,owni k _ hk q2⟩
  exact S.dj i k _ _ b o1.choose_spec o2.choose_spec
 ·obtain⟨q1,e,q2⟩:=S.pp i b q
  refine⟨q1,?_⟩
  by_cases hi:i=j
  ·subst hi
   rcases kind with ⟨k1,k⟩|⟨k1,k⟩
   ·rw[k1]at q2;cases q2
   ·exact⟨c',by rw[atj,k]⟩
  ·exact⟨e,by rw[ne i hi];exact q2⟩
 ·by_cases hi:i=j
  ·subst hi
   rcases kind with ⟨k1,k⟩|⟨k1,k⟩
   ·rw[atj,k]at q;cases q
   ·exact S.pq i c k1
  ·rw[ne i hi]at q;exact S.pq i e q
end
end L3
namespace L4
open PySem PySem.Spec PyProof.Rows L2 L3
variable {e L C:Addr}{Q:Unit->Shared->Prop}{H:Hp}{A:Around}{base:Heap}{outer:List Env}{dd:Option Addr}{P:Program}{w:World}
def jA(h:Heap)(e b:Addr):Prop:=∃oe vs,h.get? e=some oe/\oe.data=.fields vs/\vs[1]? = some (.ref b)
structure Ent(fs:List Addr)(h h':Heap)(e T:Addr)(oe:Obj)(ts:Array Value):Prop where
 keep:∀b o,h.get? b=some o->b∉fs->b≠e->h'.get? b=some o
 slot:∀b o,h.get? b=some o->b≠e->∃sl,h'.get? b=some { o with slots:=sl }
 new:h.objs.size<=T
 exc:h'.get? e=some (oe.mapFields (·.setIfInBounds 1 (.ref T)))
 way:∃oT,h'.get? T=some oT/\oT.data=.fields ts
section
variable {M:Model} {E:zzj} {s:Shared} {env:Env} {oe:Obj} {vs:Array Value}
theorem pL{top:Value}{nx:Bool}(hA:A.frames=some (env::outer))(hF:s.heap.FunFrames base (env::outer))(hL:env.frame=some L)
  (he:s.heap.get? e=some oe) (hd:oe.data=.fields vs) (hz:1<vs.size)
  (k:∀h' T ts,Ent (frs (env::outer)) s.heap h' e T oe ts->3<ts.size->ts[3]? = some (rawInt L)->Q () { s with heap:=h' }) :
  wpAny M A (do let a <-frameOf env;let pl <-entryPlaceOf L nx;let b <-EntryCells.newEntry top a .none (rawInt L) .none pl;setField (.ref e) 1 b) Q E s:=by
 have ne:e∉frs (env::outer):=λz=>by
  obtain⟨_,o,q,r⟩:=hF.mem z
  rw[he]at q;cases q
  exact r vs hd
 refine zza (wpAny_frameOf_fun hA hF hL λh1 so=>zza (wpAny_entryPlaceOf λpl ip=>?_))
 simp only[EntryCells.newEntry,newFields]
 refine zza (mo ?_ (ip.sizeOk5 _ _ _ _ _))
 generalize hts:([top,.ref L,.none,rawInt L,.none]++(if pl.isEmpty then List.replicate 6 Value.none else pl)).toArray=ts
 have z3:3<ts.size:=by
  rw[<-hts,ce,zzf]
  simp only[ci,ou]
  lia
 have g3:ts[3]? = some (rawInt L):=by rw[<-hts];simp
 generalize htb:({ cls:=.type "traceback",dict:=none,data:=.fields ts }:Obj)=tb
 have fr:tb.isFreed=false:=by rw[<-htb];rfl
 have e1:h1.get? e=some oe:=by rw[so.2.1 e ne];exact he
 have lt:e<h1.objs.size:=be e1
 refine xv (zzc tb e1) hd hz ?_
 have hd':=ib hd (·.setIfInBounds 1 (Value.ref h1.objs.size))
 have up:∀b,b≠e->((h1.push tb).update e (Obj.mapFields (·.setIfInBounds 1 (.ref h1.objs.size)))).get? b=(h1.push tb).get? b:=λb hb=>mn _ _ (Ne.symm hb)
 refine k _ h1.objs.size ts ⟨λb o q nf nb=>?_,λb o q nb=>?_,by rw[so.1];exact ay _,?_,⟨tb,?_,?_⟩⟩ z3 g3
 ·exact(up b nb).trans (zzc _ ((so.2.1 b nf).trans q))
 ·obtain⟨sl,q'⟩:=so.2.2 b o q
  exact⟨sl,(up b nb).trans (zzc _ q')⟩
 ·exact la _ (zzc tb e1) (sE hd')
 ·exact(up _ (HI lt)).trans (zze h1 fr)
 ·rw[<-htb]
end
structure XS(H:Hp)(h:Heap)(lo:Nat)(e C:Addr)(dd:Option Addr):Prop where
 yg:lo<=e
 trk:H e=some (.ext (XO e C dd))
 obj:∃oe vs,h.get? e=some oe/\oe.cls=.ref C/\oe.dict=dd/\oe.data=.fields vs/\1<vs.size /\
  (vs[1]? = some .none\/∃T oT ts,vs[1]? = some (.ref T)/\T≠e/\lo<=T/\H T=none/\h.get? T=some oT/\oT.data=.fields ts/\ts[3]? = some .none)
structure Mv(fs:List Addr)(h h':Heap)(e:Addr):Prop where
 keep:∀b o,h.get? b=some o->b∉fs->b≠e->¬ jA h e b->h'.get? b=some o
 slot:∀b o,h.get? b=some o->b≠e->¬ jA h e b->∃sl,h'.get? b=some { o with slots:=sl }
 there:∀b o,h.get? b=some o->∃o',h'.get? b=some o'
theorem y7(f:Array Value->Array Value)(o:Obj):(o.mapFields f).dict=o.dict:=by
 obtain⟨c,d,dt,sl⟩:=o
 cases dt<;>rfl
theorem Jm:¬ ((Value.none==rawInt L)=true):=by simp[rawInt]
section
variable {M:Model} {E:zzj} {s:Shared} {env:Env} {lo:Nat}
theorem pE{oe:Obj}{vs:Array Value}{h0:Heap}{T:Addr}{ts:Array Value}(en:Ent (frs (env::outer)) h0 s.heap e T oe ts)(hd:oe.data=.fields vs)(hz:1<vs.size)(z3:3<ts.size)(hh:e<h0.objs.size)
  (k:∀h',(∀b,b≠T->h'.get? b=s.heap.get? b)->(∃oT tz,h'.get? T=some oT/\oT.data=.fields tz/\tz[3]? = some .none)->Q () { s with heap:=h' }):wpAny M A (setFlight (.ref e) none) Q E s:=by
 obtain⟨oT,q1,q2⟩:=en.way
 have d':=ib hd (·.setIfInBounds 1 (Value.ref T))
 simp only[setFlight]
 refine zza (wa en.exc d' (x:=.ref T) (by simp[hz]) ?_)
 rw[ai (by simp)]
 refine xv q1 q2 z3 (k _ (λb hb=>mn _ _ (Ne.symm hb)) ⟨_,_,la _ q1 (sE (ib q2 _)),ib q2 _,by simp[z3]⟩)
theorem uS(hA:A.frames=some (env::outer))(hF:s.heap.FunFrames base (env::outer))(hL:env.frame=some L)(hk:HOk P w H s.heap)(xs:XS H s.heap lo e C dd)
  (k:∀h',Mv (frs (env::outer)) s.heap h' e->XS H h' lo e C dd->(∀b,jA h' e b->s.heap.objs.size<=b)->Q () { s with heap:=h' }) :
  wpAny M A (noteFrame (.ref e) env) (λ_ s2=>wpAny M A (setFlight (.ref e) none) Q E s2) E s:=by
 obtain⟨oe,vs,he,hc,hdd,hd,hz,tb⟩:=xs.obj
 have elt:e<s.heap.objs.size:=be he
 have hlo:lo<=s.heap.objs.size:=bj xs.yg (ze elt)
 simp only[noteFrame,hL]
 rcases tb with tb|⟨T,oT,ts,tb,hTe,hTl,hTn,hT,hTd,t3⟩
 ·refine zza (wa he hd tb ?_)
  rw[ac (by decide)]
  refine pL hA hF hL he hd hz λh1 T1 t1 en z3 g3=>?_
  refine pE (s:={ s with heap:=h1 }) en hd hz z3 elt λh2 same way=>?_
  have nT:∀b o,s.heap.get? b=some o->b≠T1:=λb o q=>bu (bo (be q) en.new)
  have d1:=ib hd (·.setIfInBounds 1 (Value.ref T1))
  refine k h2 ⟨λb o q nf nb _=>?_,λb o q nb _=>?_,λb o q=>?_⟩ ⟨xs.yg,xs.trk,_,_,?_,?_,?_,d1,by simpa using hz,.inr ?_⟩ ?_
  ·rw[same b (nT b o q)];exact en.keep b o q nf nb
  ·obtain⟨sl,z⟩:=en.slot b o q nb
   exact⟨sl,by rw[same b (nT b o q)];exact z⟩
  ·by_cases nb:b=e
   ·subst nb;exact⟨_,by rw[same _ (nT _ o q)];exact en.exc⟩
   ·obtain⟨sl,z⟩:=en.slot b o q nb
    exact⟨_,by rw[same b (nT b o q)];exact z⟩
  ·rw[same e (nT e _ he)];exact en.exc
  ·rw[LV];exact hc
  ·rw[y7];exact hdd
  ·obtain⟨o1,tz,w1,w2,w3⟩:=way
   exact⟨T1,o1,tz,by simp[hz],λz=>nT e _ he z.symm,bj hlo en.new,hk.fresh en.new,w1,w2,w3⟩
  ·intro b ⟨oe',vs',g1,g2,g3⟩
   rw[same e (nT e _ he),en.exc]at g1
   cases g1
   rw[d1]at g2
   cases g2
   have:Value.ref T1=Value.ref b:=by simpa[hz]using g3
   injection this with this
   rw[<-this]
   exact en.new
 ·refine zza (wa he hd tb ?_)
  rw[ai (by simp)]
  refine zza (wa hT hTd t3 ?_)
  rw[ac Jm]
  have z3':3<ts.size:=(Array.getElem?_eq_some_iff.mp t3).1
  refine zza (xv hT hTd z3' ?_)
  have off:∀b,b≠T->(s.heap.update T (Obj.mapFields (·.setIfInBounds 3 Value.none))).get? b=s.heap.get? b:=λb hb=>mn _ _ (Ne.symm hb)
  have hF':(s.heap.update T (Obj.mapFields (·.setIfInBounds 3 Value.none))).FunFrames base (env::outer):=hF.of_keeps λb o q r=>⟨o,(off b λz=>by subst z;rw[hT]at q;cases q;exact r ts hTd).trans q,rfl⟩
  have he':(s.heap.update T (Obj.mapFields (·.setIfInBounds 3 Value.none))).get? e=some oe:=(off e (Ne.symm hTe)).trans he
  have zz:(s.heap.update T (Obj.mapFields (·.setIfInBounds 3 Value.none))).objs.size=s.heap.objs.size:=qu ..
  refine pL (s:={ s with heap:=s.heap.update T (Obj.mapFields (·.setIfInBounds 3 Value.none)) }) hA hF' hL he' hd hz λh1 T1 t1 en z3 g3=>?_
  refine pE (s:={ s with heap:=h1 }) en hd hz z3 (by rw[zz];exact elt) λh2 same way=>?_
  have nw:s.heap.objs.size<=T1:=by have:=en.new;rw[zz]at this;exact this
  have nT:∀b o,s.heap.get? b=some o->b≠T1:=λb o q=>bu (bo (be q) nw)
  have isT:jA s.heap e T:=⟨oe,vs,he,hd,tb⟩
  have nTT:∀b,¬ jA s.heap e b->b≠T:=λb z q=>z (q▸isT)
  have d1:=ib hd (·.setIfInBounds 1 (Value.ref T1))
  have T0:(s.heap.update T (Obj.mapFields (·.setIfInBounds 3 Value.none))).get? T=some (oT.mapFields (·.setIfInBounds 3 Value.none)):=la _ hT (sE (ib hTd _))
  refine k h2 ⟨λb o q nf nb nt=>?_,λb o q nb nt=>?_,λb o q=>?_⟩ ⟨xs.yg,xs.trk,_,_,?_,?_,?_,d1,by simpa using hz,.inr ?_⟩ ?_
  ·rw[same b (nT b o q)];exact en.keep b o ((off b (nTT b nt)).trans q) nf nb
  ·obtain⟨sl,z⟩:=en.slot b o ((off b (nTT b nt)).trans q) nb
   exact⟨sl,by rw[same b (nT b o q)];exact z⟩
  ·by_cases nb:b=e
   ·subst nb;exact⟨_,by rw[same _ (nT _ o q)];exact en.exc⟩
   ·by_cases nt:b=T
    ·subst nt
     obtain⟨sl,z⟩:=en.slot b _ T0 nb
     exact⟨_,by rw[same b (nT b o q)];exact z⟩
    ·obtain⟨sl,z⟩:=en.slot b o ((off b nt).trans q) nb
     exact⟨_,by rw[same b (nT b o q)];exact z⟩
  ·rw[same e (nT e _ he)];exact en.exc
  ·rw[LV];exact hc
  ·rw[y7];exact hdd
  ·obtain⟨o1,tz,w1,w2,w3⟩:=way
   exact⟨T1,o1,tz,by simp[hz],λz=>nT e _ he z.symm,bj hlo nw,hk.fresh nw,w1,w2,w3⟩
  ·intro b ⟨oe',vs',g1,g2,g3⟩
   rw[same e (nT e _ he),en.exc]at g1
   cases g1
   rw[d1]at g2
   cases g2
   have:Value.ref T1=Value.ref b:=by simpa[hz]using g3
   injection this with this
   rw[<-this]
   exact nw
theorem wW(hA:A.frames=some (env::outer))(hF:s.heap.FunFrames base (env::outer))(hL:env.frame=some L)(hk:HOk P w H s.heap)(xs:XS H s.heap lo e C dd)
  (k:∀h',Mv (frs (env::outer)) s.heap h' e->XS H h' lo e C dd->Q () { s with heap:=h' }):wpAny M A (leaving env (.ref e)) Q E s:=by
 unfold leaving
 exact zza (uS hA hF hL hk xs λh' m x _=>k h' m x)
end
section
variable {fs:List Addr} {h h':Heap} {lo:Nat}
theorem XO.ok{H':Hp}(x:XO e C dd h):ObjOk P w H' h e (.ext (XO e C dd)):=by
 obtain⟨oe,q,r⟩:=x
 exact⟨⟨oe,q,r⟩,⟨oe,q⟩,λh1 h2 ⟨o,z,r⟩ k=>⟨o,k o z,r⟩⟩
theorem XS.xo(xs:XS H h lo e C dd):XO e C dd h:=by
 obtain⟨oe,vs,q,c,d,z,_⟩:=xs.obj
 exact⟨oe,q,c,d,by unfold PySem.W.notCls;rw[z]⟩
theorem XS.tb(xs:XS H h lo e C dd){b:Addr}(t:jA h e b):H b=none/\lo<=b/\b≠e/\∃oT ts,h.get? b=some oT/\oT.data=.fields ts:=by
 obtain⟨oe,vs,q,c,d,z,_,k⟩:=xs.obj
 obtain⟨oe',vs',q',z',k'⟩:=t
 rw[q]at q';cases q'
 rw[z]at z';cases z'
 rcases k with k|⟨T,oT,ts,k,ne,l,n,g,gd,_⟩
 ·rw[k]at k';cases k'
 ·rw[k]at k'
  cases k'
  exact⟨n,l,ne,oT,ts,g,gd⟩
theorem XS.tb_list(xs:XS H h lo e C dd):∃ch:List Addr,∀b,b∈ch↔jA h e b:=by
 obtain⟨oe,vs,q,c,d,z,_,k⟩:=xs.obj
 rcases k with k|⟨T,oT,ts,k,_⟩
 ·exact⟨[],λb=>⟨λz=>(nomatch z),λ⟨oe',vs',q',z',k'⟩=>by rw[q]at q';cases q';rw[z]at z';cases z';rw[k]at k';cases k'⟩⟩
 ·refine⟨[T],λb=>⟨λy=>?_,λ⟨oe',vs',q',z',k'⟩=>?_⟩⟩
  ·rw[List.mem_singleton.mp y];exact⟨oe,vs,q,z,k⟩
  ·rw[q]at q';cases q'
   rw[z]at z';cases z'
   rw[k]at k';cases k'
   exact List.mem_singleton.mpr rfl
theorem Mv.hok(m:Mv fs h h' e)(ok:HOk P w H h)(xs:XS H h lo e C dd)(xs':XS H h' lo e C dd)(hf:∀b∈fs,H b=none):HOk P w H h':=λa o q=>by
 by_cases ae:a=e
 ·subst ae
  rw[xs.trk]at q;cases q
  exact xs'.xo.ok
 ·refine(ok a o q).stay (λb u hb z=>?_) (λ_ z=>z) λ_ _ z=>z
  have hbH:∃v,H b=some v:=by
   rcases hb with rfl|hb
   ·exact⟨o,q⟩
   ·exact⟨_,hb⟩
  obtain⟨v,hv⟩:=hbH
  refine m.keep b u z (λy=>by rw[hf b y]at hv;cases hv) (λy=>?_) λy=>by rw[(xs.tb y).1]at hv;cases hv
  subst y
  rcases hb with rfl|hb
  ·exact ae rfl
  ·rw[xs.trk]at hb;cases hb
theorem Mv.un{ch:List Addr}(m:Mv fs h h' e)(xs:XS H h lo e C dd)(hc:∀b,b∈ch↔jA h e b):Un fs ch H H h h' where
 keep:=λb o q n hb hx=>m.keep b o q hb (λz=>by subst z;rw[xs.trk]at n;cases n) λz=>hx ((hc b).mpr z)
 slot:=λb o q n hb hx=>m.slot b o q (λz=>by subst z;rw[xs.trk]at n;cases n) λz=>hx ((hc b).mpr z)
 free:=λ_ _ _ n _=>n
 there:=λb o q _=>m.there b o q
 tups:=λ_ _ z=>z
 frzs:=λ_ _ _ z=>z
 tbls:=λb ps z=>⟨#[],by rw[z];simp⟩
end
section
variable {X:Cx} {pins:zzk} {Z:L2.St} {s:Shared} {h':Heap} {lo:Nat}
theorem Inv.mv(I:Inv X pins Z H s)(m:Mv (frs X.stack) s.heap h' e)(xs:XS H s.heap lo e C dd)(xs':XS H h' lo e C dd)(hlo:X.s₀.heap.objs.size<=lo)(hp:∀p∈X.pn++pins,¬ jA s.heap e p.1)(t':Nat):Inv X pins Z H { s with heap:=h',toks:=t' }:=by
 obtain⟨ch,hc⟩:=xs.tb_list
 refine I.call (g':=s.gens) (d':=s.drawn) (t':=t') (m.un xs hc) (m.hok I.hok xs xs' I.stkFree) I.bare λb hb=>?_
 have tb:=(hc b).mp hb
 obtain⟨n,l,ne,oT,ts,g,gd⟩:=xs.tb tb
 refine⟨.inr (bj hlo l),λz=>?_,λx c q z=>?_,λp hp' z=>hp p hp' (z▸tb)⟩
 ·subst z
  obtain⟨m,⟨o,es,ep,ho,hd,_⟩,_⟩:=I.loc
  rw[g]at ho;cases ho
  rw[gd]at hd;cases hd
 ·subst z
  obtain⟨v,o,ho,hd⟩:=I.cell x c q
  rw[g]at ho;cases ho
  rw[gd]at hd;cases hd
end
def CX1(P:Program)(w:World):CXT:=λouter H s E e s'=>∃a C dd H',e=.ref a/\s'.os=s.os/\AllBare s'.gens/\Un (frs outer) [] H H' s.heap s'.heap/\HOk P w H' s'.heap/\XS H' s'.heap s.heap.objs.size a C dd/\E (.ref C) dd H'
theorem DY{K:Fg}{mg:zzl}{N:List Str}{qual:Str}{scope:Scope}{f:Addr}{cd:Value}{s:Shared}{E:XK}
  {pins:zzk} {Z:L2.St} {H':Hp} {s':Shared} {a C:Addr} {dd:Option Addr} (I:Inv (mC (CX1 P w) P w K mg base N qual scope f cd A outer s H E) pins Z H' s') (xs:XS H' s'.heap s.heap.objs.size a C dd) (hE:E (.ref C) dd H') :
  (mC (CX1 P w) P w K mg base N qual scope f cd A outer s H E).xe (.ref a) s':=by
 have hF:=I.stack
 have hS:=I.stkFree
 refine wW (base:=base) (L:=s.heap.objs.size) (P:=P) (w:=w) (s:=s') I.ok.frames hF rfl I.hok xs λh1 m xs1=>?_
 have un:Un (frs outer) [] H H' s.heap s'.heap:=I.base
 have lt:∀b o,s.heap.get? b=some o->b<s.heap.objs.size:=λb o q=>be q
 have ne:∀b o,s.heap.get? b=some o->b≠a:=λb o q=>bu (bo (lt b o q) xs.yg)
 have nt:∀b o,s.heap.get? b=some o->¬ jA s'.heap a b:=λb o q z=>absurd (bo (lt b o q) (xs.tb z).2.1) (ny _)
 refine⟨a,C,dd,H',rfl,I.os,I.bare,⟨λb o q n hb hx=>?_,λb o q n hb hx=>?_,un.free,λb o q hx=>?_,un.tups,un.frzs,un.tbls⟩,m.hok I.hok xs xs1 hS,xs1,hE⟩
 ·refine m.keep b o (un.keep b o q n hb hx) (λz=>?_) (ne b o q) (nt b o q)
  rcases List.mem_cons.mp (I.stkSub b z)with y|y
  ·exact absurd (lt b o q) (by rw[y];exact ny _)
  ·exact hb y
 ·obtain⟨sl,z⟩:=un.slot b o q n hb hx
  obtain⟨sl',z'⟩:=m.slot b _ z (ne b o q) (nt b o q)
  exact⟨sl',z'⟩
 ·obtain⟨o',z⟩:=un.there b o q hx
  exact m.there b o' z
end L4
namespace L4
open PySem PySem.Spec PyProof.Rows L2 L3 PySem.W
variable {C x fI:Addr}{K:Frag}{E:zzj}{ox:Obj}{od:Option Obj}{prog:Program}{w:World}{A:Around}{name:Str}
section
variable {s:Shared} {expr:Bool} {Q:zzj}
theorem Ef{v:Value}(X:K.In s.heap)(I:PySem.W.InstAt s.heap x ox C od)(hga:findIn K (.ref C) "__getattribute__" = some (some (.builtin "BaseException.__getattribute__")))(hgr:findIn K (.ref C) "__getattr__" = some none)(hb:mroIn K C (.type "BaseException")=some true)
  (hf:findObj K C od name=some (.value v)) (hh:handedIn v=true) (h:Q v { s with toks:=s.toks+1 }):wpAny (model prog w) A (getAttr (.ref x) name expr) Q E s:=by
 obtain⟨hp,g,d,t,os⟩:=s
 have L0:=I.type (M:=model prog w)
 have L1:=looks_findIn (M:=model prog w) X hga
 have L2:=looks_findIn (M:=model prog w) X hgr
 have L3:=looks_find (M:=model prog w) X I hf
 have L4:=looks_mroIn (M:=model prog w) X hb
 have bnd:=F.attr_ValueError.ga.bind (.ref x)
 have ok:=F.args_bexc_ga (.ref x) (.str name t)
 have kd:builtinKind "BaseException.__getattribute__" = some .slot:=by decide +kernel
 have sp:splitId "BaseException.__getattribute__" = some ("BaseException", "__getattribute__"):=by decide +kernel
 unfold getAttr getAttrBy
 refine zza (wpAny_mkText (ng (zza (L0.at (zza (L1.at ?_))))))
 show wpAny _ _ (getAttrByItsOwn _ _ _ _ _ _) _ _ _
 unfold getAttrByItsOwn
 repeat (any_goals (first|assumption|with_reducible refine L0.at ?_|with_reducible refine L2.at ?_|wp_step))
 rw[ac (by cases expr<;>decide)]
 unfold boundAndCalled
 rw[bnd]
 repeat (any_goals (first|assumption|with_reducible refine L0.at ?_|with_reducible refine L2.at ?_|wp_step))
 refine xz F.attr_ValueError.ga.plain F.entry_bexc_ga ?_
 simp only[checkBuiltinCall,kd,sp]
 refine zza ?_
 unfold isInstance
 refine zza (L0.at (L4.at ?_))
 repeat (any_goals (first|assumption|with_reducible refine L0.at ?_|with_reducible refine L3.at ?_|wp_step))
 show wpAny _ _ (handedOut v) _ _ _
 rw[handedOut_of hh]
 exact zzb h
end
section
variable {s:Shared} {D:Addr} {v:Value} {Q:Unit->Shared->Prop}
theorem A1{cd:ClassData}{bmB:List Value}(X:K.In s.heap)(hx:s.heap.get? x=some ox)(hc:ox.cls=.ref C)(hn:notCls ox=true)(hdn:ox.dict=none)(hs:findIn K (.ref C) "__setattr__" = some (some (.builtin "object.__setattr__")))
  (hcd:clsIn K C=some cd) (hm:cd.mro=.ref C::.ref D::[.type "ValueError",.type "Exception",.type "BaseException",.type "object"]) (hd:cd.hasDict=true) (hna:findIn K (.ref C) name=some none)
  (h:∀h' dx tk,s.heap.objs.size<=dx->h'.Ns1 dx (λy=>if y=name then some v else none)->h'.get? x=some { ox with dict:=some dx }->(∀b o,b≠x->s.heap.get? b=some o->h'.get? b=some o)->Q () { s with heap:=h',toks:=tk }) :
  wpAny (model prog w) A (setAttr (.ref x) name v) Q E s:=by
 obtain⟨hp,g,d,t,os⟩:=s
 obtain⟨oc,odi,oda,osl⟩:=ox
 dsimp only at hc hdn
 subst hc hdn
 have I:PySem.W.InstAt hp x ⟨.ref C,none,oda,osl⟩ C none:=⟨hx,rfl,hn,trivial⟩
 refine PySem.W.set_plain X I hs ?_
 have SF:=F.store_ValueError
 have L0:=I.type (M:=model prog w)
 have L1:=looks_findIn (M:=model prog w) X hna
 have L4:=looks_mroIn (M:=model prog w) (r:=true) X (C:=C) (base:=.type "object") (by unfold mroIn;rw[hcd,ut,hm];rfl)
 have LC:=looks_clsIn (M:=model prog w) X hcd
 have pass:=SF.passes (.ref x)
 have ok:=SF.args (.ref x) (.str name t) v
 refine xz SF.slot.plain SF.entry ?_
 simp only[checkBuiltinCall,SF.kind,SF.split]
 refine zza ?_
 unfold isInstance
 refine zza (L0.at (L4.at ?_))
 have LM:Looks (model prog w) hp (mroOf (.ref C)) cd.mro:=(looks_clsIn X hcd).andThen .now
 rw[ac (by decide)]
 have run:∀A',wpAny (model prog w) A' (Builtin.«object.__setattr__» { pos:=[Value.ref x,Value.str name t,v] }) (λfin s'=>∃f,fin=.done (.ret f)/\Q () s') E ⟨hp,g,d,t+1,os⟩:=by
  intro A'
  unfold Builtin.«object.__setattr__»
  repeat (first|rw[refuse_eq]|with_reducible refine LM.at ?_|(rw[hm,refuseLoop_ref,refuseLoop_ref,pass])|with_reducible refine L0.at ?_|with_reducible refine L1.at ?_|(with_reducible refine LC.at ?_;rw[hd])|wp_step)
  have fin:wpAny (model prog w) A' (do
    let d <-alloc { cls:=Value.type "dict",data:=Data.dict #[] }
    update x λo=>{ cls:=o.cls,dict:=some d,data:=o.data,slots:=o.slots }
    dictMade (.ref C) x d)
    (λa s'=>wpAny (model prog w) A' (match a with
     | some d=>Builtin.ObjectAttr.storeInDict d (Value.str name t) name v
     | none=>Builtin.ObjectAttr.noDictFor (Value.ref x) (Value.ref C) name (none:Option Value).isSome) (λfin s'=>∃f,fin=Fin.done (Flow.ret f)/\Q () s') E s') E ⟨hp,g,d,t+1,os⟩:=by
   refine zza (wpAny_alloc' (zza (wpAny_update' (zzc _ hx) (zzb ?_))))
   have xs:x≠hp.objs.size:=bu (be hx)
   show wpAny _ _ (Builtin.ObjectAttr.storeInDict hp.objs.size (.str name t) name v) _ _ _
   have e0:((hp.push { cls:=.type "dict",data:=.dict #[] }).update x λo=>{ cls:=o.cls,dict:=some hp.objs.size,data:=o.data,slots:=o.slots }).get? hp.objs.size=some { cls:=.type "dict",data:=.dict #[] }:=by
    rw[mn _ _ xs];exact zze hp rfl
   have n0:((hp.push { cls:=.type "dict",data:=.dict #[] }).update x λo=>{ cls:=o.cls,dict:=some hp.objs.size,data:=o.data,slots:=o.slots }).Ns hp.objs.size (λ_=>none):=⟨_,#[],_,e0,rfl,λe he=>absurd he (by simp),λ_=>rfl⟩
   unfold Builtin.ObjectAttr.storeInDict Builtin.ObjectAttr.newKeyGuard
   refine zza (zzb (zza (wpAny_nsSet1 (Heap.Ns1.of_empty n0) λh' n1 sb=>?_)))
   obtain⟨oD,esD,epD,q1,q2,q3⟩:=n1.count (PySem.Within.cons name v PySem.Within.nil)
   refine zza (wpAny_lookBehind q1 (by rw[q2];exact pastItsLine_dict (bj q3 (show 1<=sizeLine+1 from by decide))) (zzb ⟨_,rfl,?_⟩))
   refine h h' hp.objs.size _ (ay _) n1 ?_ λb o nb q=>?_
   ·rw[sb.2 x xs]
    refine la _ (zzc _ hx) ?_
    have fr:=(Heap.get?_some_iff.mp hx).2
    cases oda<;>first|rfl|exact fr
   ·rw[sb.2 b (bu (be q)),mn _ _ (Ne.symm nb)]
    exact zzc _ q
  cases oda<;>first|exact fin|cases hn
 have fin:wpAny (model prog w) A.in1 (Builtin.«object.__setattr__» { pos:=[Value.ref x,Value.str name t,v] }) (λfin s'=>match fin with
   | .done f=>(match (Except.ok f:Result)with | .ok (.ret v)=>Q () s' | .ok a=>False | .error e=>E e s')
   | .again c'=>c'.quiet=true/\codeAny (model prog w) A c' (λr s'=>match r with | .ok (.ret v)=>Q () s' | .ok a=>False | .error e=>E e s') s') E ⟨hp,g,d,t+1,os⟩ :=
  je (run _) (λf s' z=>by obtain⟨u,rfl,q⟩:=z;exact q) λ_ _ z=>z
 cases hsig:Manifest.signature? "object.__setattr__" with
 | none=>exact zzb fin
 | some sig =>
  simp only[argsOk,hsig]at ok
  show wpAny _ _ (Bind.checkArgs "object.__setattr__" sig ⟨[.ref x,.str name t,v],[]⟩) _ _ _
  rw[show Bind.checkArgs "object.__setattr__" sig ⟨[.ref x,.str name t,v],[]⟩=pure ()from ok]
  exact zzb fin
theorem A0{cd:ClassData}{dx:Addr}{mA:zzl}{ns:List Str}(X:K.In s.heap)(hx:s.heap.get? x=some ox)(hc:ox.cls=.ref C)(hn:notCls ox=true)(hdn:ox.dict=some dx)(hne:dx≠x)(hA:s.heap.Ns1 dx mA)(hw:PySem.Within mA ns)(hz:ns.length<=1000)(hs:findIn K (.ref C) "__setattr__" = some (some (.builtin "object.__setattr__")))
  (hcd:clsIn K C=some cd) (hm:cd.mro=.ref C::.ref D::[.type "ValueError",.type "Exception",.type "BaseException",.type "object"]) (hd:cd.hasDict=true) (hna:findIn K (.ref C) name=some none)
  (h:∀h' tk,h'.Ns1 dx (λy=>if y=name then some v else mA y)->(∀b o,b≠dx->s.heap.get? b=some o->h'.get? b=some o)->Q () { s with heap:=h',toks:=tk }) :
  wpAny (model prog w) A (setAttr (.ref x) name v) Q E s:=by
 obtain⟨hp,g,d,t,os⟩:=s
 obtain⟨oc,odi,oda,osl⟩:=ox
 dsimp only at hc hdn
 subst hc hdn
 obtain⟨od,qd⟩:∃od,hp.get? dx=some od:=by obtain⟨o,_,_,q,_⟩:=hA;exact⟨o,q⟩
 have I:PySem.W.InstAt hp x ⟨.ref C,some dx,oda,osl⟩ C (some od):=⟨hx,rfl,hn,qd⟩
 refine PySem.W.set_plain X I hs ?_
 have SF:=F.store_ValueError
 have L0:=I.type (M:=model prog w)
 have L1:=looks_findIn (M:=model prog w) X hna
 have L4:=looks_mroIn (M:=model prog w) (r:=true) X (C:=C) (base:=.type "object") (by unfold mroIn;rw[hcd,ut,hm];rfl)
 have LC:=looks_clsIn (M:=model prog w) X hcd
 have pass:=SF.passes (.ref x)
 have ok:=SF.args (.ref x) (.str name t) v
 refine xz SF.slot.plain SF.entry ?_
 simp only[checkBuiltinCall,SF.kind,SF.split]
 refine zza ?_
 unfold isInstance
 refine zza (L0.at (L4.at ?_))
 have LM:Looks (model prog w) hp (mroOf (.ref C)) cd.mro:=(looks_clsIn X hcd).andThen .now
 rw[ac (by decide)]
 have run:∀A',wpAny (model prog w) A' (Builtin.«object.__setattr__» { pos:=[Value.ref x,Value.str name t,v] }) (λfin s'=>∃f,fin=.done (.ret f)/\Q () s') E ⟨hp,g,d,t+1,os⟩:=by
  intro A'
  have st:wpAny (model prog w) A' (Builtin.ObjectAttr.storeInDict dx (.str name t) name v) (λfin s'=>∃f,fin=.done (.ret f)/\Q () s') E ⟨hp,g,d,t+1,os⟩:=by
   unfold Builtin.ObjectAttr.storeInDict Builtin.ObjectAttr.newKeyGuard
   refine zza (zzb (zza (wpAny_nsSet1 hA λh' n1 sb=>?_)))
   obtain⟨oD,esD,epD,q1,q2,q3⟩:=n1.count (PySem.Within.cons name v hw)
   refine zza (wpAny_lookBehind q1 (by rw[q2];exact pastItsLine_dict (bj q3 (bj (Nat.succ_le_succ hz) (show 1001<=sizeLine+1 from by decide)))) (zzb ⟨_,rfl,?_⟩))
   exact h h' _ n1 λb o nb q=>(sb.2 b nb).trans q
  unfold Builtin.«object.__setattr__»
  repeat (first|with_reducible exact st|rw[refuse_eq]|with_reducible refine LM.at ?_|(rw[hm,refuseLoop_ref,refuseLoop_ref,pass])|with_reducible refine L0.at ?_|with_reducible refine L1.at ?_|(with_reducible refine LC.at ?_;rw[hd])|wp_step)
 have fin:wpAny (model prog w) A.in1 (Builtin.«object.__setattr__» { pos:=[Value.ref x,Value.str name t,v] }) (λfin s'=>match fin with
   | .done f=>(match (Except.ok f:Result)with | .ok (.ret v)=>Q () s' | .ok a=>False | .error e=>E e s')
   | .again c'=>c'.quiet=true/\codeAny (model prog w) A c' (λr s'=>match r with | .ok (.ret v)=>Q () s' | .ok a=>False | .error e=>E e s') s') E ⟨hp,g,d,t+1,os⟩ :=
  je (run _) (λf s' z=>by obtain⟨u,rfl,q⟩:=z;exact q) λ_ _ z=>z
 cases hsig:Manifest.signature? "object.__setattr__" with
 | none=>exact zzb fin
 | some sig =>
  simp only[argsOk,hsig]at ok
  show wpAny _ _ (Bind.checkArgs "object.__setattr__" sig ⟨[.ref x,.str name t,v],[]⟩) _ _ _
  rw[show Bind.checkArgs "object.__setattr__" sig ⟨[.ref x,.str name t,v],[]⟩=pure ()from ok]
  exact zzb fin
end
theorem tP{D:Addr}(c:XC K C D fI):∃cd,PySem.W.clsIn K C=some cd/\cd.mro=.ref C::.ref D::bmV/\cd.hasDict=true:=by
 obtain⟨nm,q,N,bs,sn,sub,ab,col,dd,k0,k1,k2,k3,k5,lk⟩:=c.obj
 refine⟨_,by unfold PySem.W.clsIn;rw[lk],rfl,rfl⟩
section
variable {s:Shared}
theorem Ep{Q:Option Value->Shared->Prop}(X:K.In s.heap)(I:PySem.W.InstAt s.heap x ox C od)(hga:findIn K (.ref C) "__getattribute__" = some (some (.builtin "BaseException.__getattribute__")))(hgr:findIn K (.ref C) "__getattr__" = some none)(hb:mroIn K C (.type "BaseException")=some true)
  (hf:findObj K C od "__class__" = some (.bind (.builtin "getset_descriptor.__get__") (.builtin "object.__class__"))) (hm:mroIn K C (.type "object")=some true) (h:Q (some (.ref C)) { s with toks:=s.toks+1 }):wpAny (model prog w) A (getAttr? (.ref x) "__class__") Q E s:=by
 obtain⟨hp,g,d,t,os⟩:=s
 have L0:=I.type (M:=model prog w)
 have L1:=looks_findIn (M:=model prog w) X hga
 have L2:=looks_findIn (M:=model prog w) X hgr
 have L3:=looks_find (M:=model prog w) X I hf
 have L4:=looks_mroIn (M:=model prog w) X hb
 have bnd:=F.attr_ValueError.ga.bind (.ref x)
 have ok:=F.args_bexc_ga (.ref x) (.str "__class__" t)
 have kd:builtinKind "BaseException.__getattribute__" = some .slot:=by decide +kernel
 have sp:splitId "BaseException.__getattribute__" = some ("BaseException", "__getattribute__"):=by decide +kernel
 unfold getAttr? getAttrBy?
 refine zza (wpAny_mkText (zza (wpAny_attempt ?_)))
 unfold getAttrBy
 refine ng (zza (L0.at (zza (L1.at ?_))))
 show wpAny _ _ (getAttrByItsOwn _ _ _ _ _ _) _ _ _
 unfold getAttrByItsOwn
 repeat (any_goals (first|assumption|with_reducible refine L0.at ?_|with_reducible refine L2.at ?_|wp_step))
 refine xz F.attr_ValueError.ga.plain F.entry_bexc_ga ?_
 simp only[checkBuiltinCall,kd,sp]
 refine zza ?_
 unfold isInstance
 refine zza (L0.at (L4.at ?_))
 repeat (any_goals (first|assumption|with_reducible refine L0.at ?_|with_reducible refine L3.at ?_|wp_step))
 refine class_get (s:=⟨hp,g,d,t+1,os⟩) (ox:=ox) (od:=od) X I hm ?_
 exact zzb (handed_on rfl (zzb h))
theorem BV{D:Addr}(c:XC K C D fI)(hb:mroIn K C (.type "BaseException")=some true)
  (hf:findObj K C od "__class__" = some (.bind (.builtin "getset_descriptor.__get__") (.builtin "object.__class__"))) (hm:mroIn K C (.type "object")=some true) :
  KitX K (.ref x) (.ref C) (λh=>PySem.W.InstAt h x ox C od) where
 ty:=λ_ _ _ I=>I.type
 it:=λ_ _ X _=>by
  obtain⟨nm,q,N,bs,sn,sub,ab,col,dd,k0,k1,k2,k3,k5,ho⟩:=c.obj
  intro A' Q' E' s' k q
  unfold isType loadHead
  exact zza (wpAny_loadPart (k _ _ (X _ _ ho)) (zzb q))
 ne:=λh tp dd its n sl X htp=>by
  obtain⟨nm,q,N,bs,sn,sub,ab,col,dd',k0,k1,k2,k3,k5,ho⟩:=c.obj
  refine Bool.eq_false_iff.mpr λq=>?_
  have e:C=tp:=Value.ref.inj (beq_iff_eq.mp q)
  subst e
  have z:=(X _ _ ho).symm.trans htp
  injection z with z
  injection z with z1 z2 z3
  cases z3
 ca:=λX I k=>Ep X I c.ga c.gr hb hf hm k
end
def XAt(H:Hp)(a C:Addr)(dd:Option Addr):Prop:=H a=some (.ext (XO a C dd))/\∀dx,dd=some dx->∃fv,H dx=some (.ext (XD dx fv))
theorem Eb{X:Cx}{pins:zzk}{Z:L2.St}{H:Hp}{s:Shared}{a:Addr}{dd:Option Addr}(I:Inv X pins Z H s)(h:XAt H a C dd):∃ox od,PySem.W.InstAt s.heap a ox C od:=by
 obtain⟨h1,h2⟩:=h
 obtain⟨⟨oe,q1,q2,q3,q4⟩,_⟩:=I.hok a _ h1
 cases dd with
 | none=>exact⟨oe,none,q1,q2,q4,by rw[q3];trivial⟩
 | some dx =>
  obtain⟨fv,h2⟩:=h2 dx rfl
  obtain⟨⟨mA,na,wi,r⟩,_⟩:=I.hok dx _ h2
  obtain⟨od,z1,hlk⟩:=lY na
  exact⟨oe,some od,q1,q2,q4,by rw[q3];exact z1⟩
theorem qy{a g:Value}(hc:(clsIn K C).isSome=true)(ha:findIn K (.ref C) name=some (some a))(hg:specialIn K a "__get__" = some (some g))(ht:takesIn K a=some true):findObj K C od name=some (.bind g a):=by
 obtain⟨cd,hc⟩:=Option.isSome_iff_exists.mp hc
 unfold findObj
 rw[hc,ut,ha,ut]
 simp[hg,ht]
section
variable {X:Cx} {pins:zzk} {Z:L2.St} {H:Hp} {s:Shared} {a D:Addr} {dd:Option Addr} {Q:zzj} {b:Bool}
theorem wZ(c:XC X.K C D fI)(kc:KC X.K C):KitX X.K (.ref a) (.ref C) (λh=>PySem.W.InstAt h a ox C od):=by
 obtain⟨cd,k1,k2,k3⟩:=tP c
 refine BV c (by unfold PySem.W.mroIn;rw[k1,ut,k2];rfl) (qy (by rw[k1];rfl) kc.ha kc.hn kc.htk) (by unfold PySem.W.mroIn;rw[k1,ut,k2];rfl)
theorem oZ(I:Inv X pins Z H s)(c:XC X.K C D fI)(kc:KC X.K C)(h:XAt H a C dd){cv:Value}(e:kitOne X.K (.ref C) cv=some b)(q:∀tk,Q (.bool b) { s with toks:=tk }) :
  wpAny (model X.prog X.w) X.A (call (.builtin "isinstance") [.ref a,cv]) Q E s:=by
 obtain⟨ox,od,It⟩:=Eb I h
 exact kia_one (wZ c kc) I.kIn It e (λz=>nomatch z) q
end
end L4
namespace L4
open PySem PySem.Spec PyProof.Rows L2 L3
variable {F H F' H':Hp}{K:Fg}{X:Cx}{Z:L2.St}{ρ:En}{G:Gh}{S α:Type}{i n j:Nat}{vs:List V}{x y:Str}{e tg b:Expr}{v:V}{pos p pos':Pos}{r:R2}{a f C:Addr}{es:List Expr}{c:OC}{Q:VK}{ex dd:Option Addr}{T:String}{R:It->Hp->Prop}{fd:FuncData}{ps:List Str}{E:XK}{op:CmpOp}{st:Stmt}{P:Program}{w:World}{mg:zzl}{base:Heap}{A:Around}
structure Ex where
 cls:Str
 fs:List (Str×D)
inductive M(S:Type) where
 | ret (s:S)
 | exc (x:Ex)
 | bad
def M.on{S T:Type}(m:M S)(x:Ex->M T)(k:S->M T):M T:=match m with
 | .ret s=>k s
 | .exc e=>x e
 | .bad=>.bad
def bd{S T:Type}(m:M S)(k:S->M T):M T:=m.on .exc k
def oM{S:Type}(o:Option S):M S:=match o with
 | some s=>.ret s
 | none=>.bad
section
variable {T U:Type}
@[simp] theorem GG(s:S)(x:Ex->M T)(k:S->M T):(M.ret s).on x k=k s:=rfl
@[simp] theorem gy(s:S)(k:S->M T):bd (.ret s) k=k s:=rfl
end
abbrev Pu(α:Type):=En->M α
def XR(K:Fg)(F:Hp)(C:Addr)(dd:Option Addr)(x:Ex):Prop:=XQ K C x.cls /\
 ∃fv,FX F dd fv/\Paired (λ(p:Str×V) (q:Str×D)=>p.1=q.1/\Rep K F p.2 q.2) fv x.fs
def m9(x:Ex):D:=.dict ((.none,.str x.cls)::x.fs.map λp=>(.str p.1,p.2))
theorem oq:∀{fv:List (Str×V)} {fs:List (Str×D)},Paired (λ(p:Str×V) (q:Str×D)=>p.1=q.1/\Rep K F p.2 q.2) fv fs->(fs.map λp=>((PyData.str p.1,p.2):D×D)).map (·.1)=fv.map (λp=>.str p.1)/\RepL K F (fv.map (·.2)) ((fs.map λp=>((PyData.str p.1,p.2):D×D)).map (·.2))
:=by
 intro fv fs h
 induction h with
 | nil=>exact⟨rfl,.nil⟩
 | cons h _ ih=>exact⟨by simp only[ba,ih.1,h.1],by simp only[ba];exact .cons h.2 ih.2⟩
theorem XR.rep{x:Ex}(h:XR K F C dd x)(e:F a=some (.ext (XO a C dd))):Rep K F (.ref a) (m9 x):=by
 obtain⟨q,fv,fx,p⟩:=h
 exact .exc e q fx (oq p).1 (oq p).2
theorem XR.mono{x:Ex}(s:Same F F')(h:XR K F C dd x):XR K F' C dd x:=by
 obtain⟨q,fv,fx,p⟩:=h
 refine⟨q,fv,fx.mono s,?_⟩
 clear fx q
 revert p
 generalize x.fs=fs
 intro p
 induction p with
 | nil=>exact .nil
 | cons h t ih=>exact .cons ⟨h.1,h.2.mono s⟩ ih
structure FzOk(K:Fg)(F:Hp)(Z:L2.St)(ρ:En):Prop where
 ln:Z.length=ρ.length
 fz:∀(i:Nat) (d:D),ρ[i]? = some (some (AV.fz d))->∃v,Z[i]? = some (some v)/\Rep K F v d
theorem _root_.L3.StOk.fzok(S:StOk K G F Z H ρ)(s:Same F F'):FzOk K F' Z ρ:=⟨S.ln,λi d q=>by
 obtain⟨v,e,r⟩:=S.fz i d q
 exact⟨v,e,r.mono s⟩⟩
structure GOk(G:Gh)(F H:Hp):Prop where
 fh:Same F H
 oh:Same G.O H
 fo:∀b o,G.O b=some o->F b=none/\Av o
 fb:Same G.B F
def XW(X:Cx)(G:Gh)(F:Hp)(ρ:En)(x:Ex):Prop:=∀F' H' s' a C dd pins Z,GOk G F' H'->FzOk X.K F' Z ρ->Inv X pins Z H' s'->XS H' s'.heap X.s₀.heap.objs.size a C dd->(∀p∈X.pn++pins,¬ jA s'.heap a p.1)->XR X.K F' C dd x->X.xe (.ref a) s'
theorem XW.mono{x:Ex}(s:Same F F')(h:XW X G F ρ x):XW X G F' ρ x:=h
def W(X:Cx)(G:Gh)(F:Hp)(Z:L2.St)(ρ:En){α:Type}(m:M α)(C:α->Hp->Hp->Prop):Prop:=match m with
 | .ret a=>∀F' H',Same F F'->StOk X.K G F' Z H' ρ->C a F' H'
 | .exc x=>XW X G F ρ x
 | .bad=>False
section
variable {β:Type} {m:M α} {k:α->M β} {C C':α->Hp->Hp->Prop}
theorem W.up{C:β->Hp->Hp->Prop}{m:M β}(s:Same F F')(h:W X G F Z ρ m C):W X G F' Z ρ m C:=by
 cases m with
 | ret a=>exact λF2 H2 s2 S2=>h F2 H2 (s.trans s2) S2
 | exc x=>exact XW.mono (X:=X) (G:=G) (ρ:=ρ) (x:=x) s h
 | bad=>exact h
theorem W.bind{C:β->Hp->Hp->Prop}(h:W X G F Z ρ (bd m k) C):W X G F Z ρ m λa F' H'=>W X G F' Z ρ (k a) C:=by
 cases m with
 | ret a=>exact λF2 H2 s2 S2=>W.up s2 h
 | exc x=>exact h
 | bad=>exact h
theorem W.imp(h:W X G F Z ρ m C)(w:∀a F' H',Same F F'->StOk X.K G F' Z H' ρ->C a F' H'->C' a F' H'):W X G F Z ρ m C':=by
 cases m with
 | ret a=>exact λF2 H2 s2 S2=>w a F2 H2 s2 S2 (h F2 H2 s2 S2)
 | exc x=>exact h
 | bad=>exact h
theorem W.opt{o:Option α}(h:W X G F Z ρ (oM o) C):∃a,o=some a/\∀F' H',Same F F'->StOk X.K G F' Z H' ρ->C a F' H':=by
 cases o with
 | none=>exact h.elim
 | some a=>exact⟨a,rfl,h⟩
end
@[irreducible] def eA(X:Cx)(e:Expr):TE:=λZ H Q=>∀(pins:zzk) (s:Shared),Inv X pins Z H s->wpAny (model X.prog X.w) X.A (eval e X.env) (EP X pins Z Q) X.xe s
@[irreducible] def qG(X:Cx)(e:Expr):TT:=λZ H Q=>∀(pins:zzk) (s:Shared),Inv X pins Z H s->wpAny (model X.prog X.w) X.A (isTrue e X.env (eval e X.env)) (TP X pins Z Q) X.xe s
@[irreducible] def uk(X:Cx)(e:Expr):TT:=λZ H Q=>∀(whole:Sem Value) (pins:zzk) (s:Shared),Inv X pins Z H s->wpAny (model X.prog X.w) X.A (isTrue e X.env whole) (TP X pins Z Q) X.xe s
@[irreducible] def eL(X:Cx)(es:List Expr):TA:=λZ H Q=>∀(pos:Pos) (pins:zzk) (s:Shared),Inv X pins Z H s->wpAny (model X.prog X.w) X.A (spliced (backTo pos (starEach es X.env))) (AP X pins Z Q) X.xe s
section
theorem aI:PE X e (eA X e):=λpins s Z H Q I h=>by unfold eA at h;exact h pins s I
theorem fO:PT X e (qG X e):=λpins s Z H Q I h=>by unfold qG at h;exact h pins s I
theorem wA:PW X e (uk X e):=λwh pins s Z H Q I h=>by unfold uk at h;exact h wh pins s I
theorem cx:PA X es (eL X es):=λpos pins s Z H Q I h=>by unfold eL at h;exact h pos pins s I
theorem sem{t:TE}(h:PE X e t)(q:t Z H Q):eA X e Z H Q:=by unfold eA;exact λpins s I=>h pins s Z H Q I q
theorem sv{t:TT}{Q:Bool->Hp->Prop}(h:PT X e t)(q:t Z H Q):qG X e Z H Q:=by unfold qG;exact λpins s I=>h pins s Z H Q I q
theorem Dn{t:TT}{Q:Bool->Hp->Prop}(h:PW X e t)(q:t Z H Q):uk X e Z H Q:=by unfold uk;exact λwh pins s I=>h wh pins s Z H Q I q
theorem uw{t:TA}{Q:List V->Hp->Prop}(h:PA X es t)(q:t Z H Q):eL X es Z H Q:=by unfold eL;exact λpos pins s I=>h pos pins s Z H Q I q
end
def iM(ρ:En)(i:Nat):Option (List D):=match ρ[i]? with
 | some (some (.ol (.l ds)))=>some ds
 | some (some (.op (.l ds)))=>some ds
 | _=>none
theorem kF{ds:List D}(h:iM ρ i=some ds):own ρ i (.l ds):=by
 unfold iM at h
 split at h
 ·rename_i q;cases h;exact .inl q
 ·rename_i q;cases h;exact .inr q
 ·cases h
def VO(K:Fg)(F:Hp)(Z:L2.St)(ρ:En)(v:V)(d:D):Prop:=Rep K F v d\/∃i c,own ρ i c/\Z[i]? = some (some v)/\d=c.d/\c.isI=false
inductive VOs(K:Fg)(F:Hp)(Z:L2.St)(ρ:En):List V->List D->Prop
 | nil:VOs K F Z ρ [] []
 | cons {v d vs ds}:VO K F Z ρ v d->VOs K F Z ρ vs ds->VOs K F Z ρ (v::vs) (d::ds)
theorem VO.mono{d:D}(s:Same F F')(h:VO K F Z ρ v d):VO K F' Z ρ v d:=h.imp (Rep.mono s) id
def OR(K:Fg)(F H:Hp)(v:V)(d:D):Prop:=Rep K F v d\/∃a c,v=.ref a/\d=c.d/\Held K F H a c/\c.isI=false
inductive ORs(K:Fg)(F H:Hp):List V->List D->Prop
 | nil:ORs K F H [] []
 | cons {v d vs ds}:OR K F H v d->ORs K F H vs ds->ORs K F H (v::vs) (d::ds)
theorem VO.or{d:D}(S:StOk K G F Z H ρ)(h:VO K F Z ρ v d):OR K F H v d:=by
 rcases h with h|⟨i,c,ho,hv,rfl,hI⟩
 ·exact .inl h
 ·obtain⟨a,e1,oa⟩:=S.ow i _ ho
  rw[hv]at e1
  injection e1 with e1;injection e1 with e1
  exact .inr ⟨a,c,e1,rfl,oa.he,hI⟩
theorem VOs.ors(S:StOk K G F Z H ρ):∀{vs ds},VOs K F Z ρ vs ds->ORs K F H vs ds
 | _,_,.nil=>.nil
 | _,_,.cons h t=>.cons (h.or S) (t.ors S)
section
variable {ds:List D}
theorem OR.rep{d:D}(s:Same F H)(h:OR K F H v d):Rep K H v d:=by
 rcases h with h|⟨a,c,rfl,rfl,h1,hI⟩
 ·exact h.mono s
 ·obtain⟨o,e,r⟩:=Ec hI h1;exact r H s e
theorem OR.list(s:Same F H)(h:OR K F H v (.list ds)):∃a vs,v=.ref a/\SqL K H a vs/\RepL K F vs ds:=by
 rcases h with h|⟨a,c,e,e2,h1,hI⟩
 ·obtain⟨a,vs,e,h1,h2⟩:=h.lst_inv
  exact⟨a,vs,e,s.seq h1,h2⟩
 ·cases c<;>cases e2
  obtain⟨vs,h1,h2⟩:=h1
  exact⟨a,vs,e,.inl (.inl h1),h2⟩
theorem OR.tuple(s:Same F H)(h:OR K F H v (.tuple ds)):∃a vs,v=.ref a/\SqT K H a vs/\RepL K F vs ds:=by
 rcases h with h|⟨a,c,e,e2,h1,hI⟩
 ·obtain⟨a,vs,e,h1,h2⟩:=h.tup_inv
  exact⟨a,vs,e,SqT.of (s _ _ h1),h2⟩
 ·cases c<;>cases e2
theorem OR.tup'(h:OR K F H v (.tuple ds)):Rep K F v (.tuple ds):=by
 rcases h with h|⟨a,c,e,e2,h1,hI⟩
 ·exact h
 ·cases c<;>cases e2
theorem OR.int{i:Int}(h:OR K F H v (.int i)):v=.int i:=by
 rcases h with h|⟨a,c,e,e2,h1,hI⟩
 ·exact h.inv
 ·cases c<;>cases e2
theorem OR.bool{i:Bool}(h:OR K F H v (.bool i)):v=.bl i:=by
 rcases h with h|⟨a,c,e,e2,h1,hI⟩
 ·exact h.inv
 ·cases c<;>cases e2
theorem OR.str{i:Str}(h:OR K F H v (.str i)):v=.str i:=by
 rcases h with h|⟨a,c,e,e2,h1,hI⟩
 ·exact h.inv
 ·cases c<;>cases e2
theorem OR.none(h:OR K F H v .none):v=.non:=by
 rcases h with h|⟨a,c,e,e2,h1,hI⟩
 ·exact h.inv
 ·cases c with
  | i _ _ _=>cases hI
  | _=>cases e2
theorem bW{d:D}{ds:List D}(h:ORs K F H vs (d::ds)):∃v r,vs=v::r/\OR K F H v d/\ORs K F H r ds:=by
 cases h with|cons a b=>exact⟨_,_,rfl,a,b⟩
theorem cJ(h:ORs K F H vs []):vs=[]:=by cases h;rfl
end
def AP(X:Cx)(e:Expr)(p:Pu D):Prop :=
 ∀(G:Gh) (F:Hp) (Z:L2.St) (H:Hp) (ρ:En) (Q:VK),StOk X.K G F Z H ρ->W X G F Z ρ (p ρ) (λd F' H'=>∀v,Rep X.K F' v d->Q v H')->eA X e Z H Q
def AO(X:Cx)(e:Expr)(p:Pu D):Prop :=
 ∀(G:Gh) (F:Hp) (Z:L2.St) (H:Hp) (ρ:En) (Q:VK),StOk X.K G F Z H ρ->W X G F Z ρ (p ρ) (λd F' H'=>∀v,VO X.K F' Z ρ v d->Q v H')->eA X e Z H Q
def AT(X:Cx)(e:Expr)(p:Pu Bool):Prop :=
 ∀(G:Gh) (F:Hp) (Z:L2.St) (H:Hp) (ρ:En) (Q:Bool->Hp->Prop),StOk X.K G F Z H ρ->W X G F Z ρ (p ρ) (λd F' H'=>Q d H')->qG X e Z H Q
def AW(X:Cx)(e:Expr)(p:Pu Bool):Prop :=
 ∀(G:Gh) (F:Hp) (Z:L2.St) (H:Hp) (ρ:En) (Q:Bool->Hp->Prop),StOk X.K G F Z H ρ->W X G F Z ρ (p ρ) (λd F' H'=>Q d H')->uk X e Z H Q
def AB(X:Cx)(e:Expr)(p:Pu Bool):Prop :=
 ∀(G:Gh) (F:Hp) (Z:L2.St) (H:Hp) (ρ:En) (Q:VK),StOk X.K G F Z H ρ->W X G F Z ρ (p ρ) (λd F' H'=>Q (.bl d) H')->eA X e Z H Q
def AA{α:Type}(X:Cx)(es:List Expr)(m:(List D->M α)->En->M α):Prop :=
 ∀(G:Gh) (F:Hp) (Z:L2.St) (H:Hp) (ρ:En) (Q:List V->Hp->Prop) (k:List D->M α) (C:α->Hp->Hp->Prop),StOk X.K G F Z H ρ->W X G F Z ρ (m k ρ) C ->
  (∀ds vs F' H',Same F F'->StOk X.K G F' Z H' ρ->vs.length=es.length->RepL X.K F' vs ds->W X G F' Z ρ (k ds) C->Q vs H')->eL X es Z H Q
def AAo{α:Type}(X:Cx)(es:List Expr)(m:(List D->M α)->En->M α):Prop :=
 ∀(G:Gh) (F:Hp) (Z:L2.St) (H:Hp) (ρ:En) (Q:List V->Hp->Prop) (k:List D->M α) (C:α->Hp->Hp->Prop),StOk X.K G F Z H ρ->W X G F Z ρ (m k ρ) C ->
  (∀ds vs F' H',Same F F'->StOk X.K G F' Z H' ρ->VOs X.K F' Z ρ vs ds->W X G F' Z ρ (k ds) C->Q vs H')->eL X es Z H Q
def Frs(K:Fg)(G:Gh)(F:Hp)(Z:L2.St)(H:Hp)(ρ:En)(v:V)(c:OC):Prop:=∃a,v=.ref a/\OwnAt K G F H a c/\∀(i:Nat) (e:OC),own ρ i e->Z[i]? ≠ some (some (V.ref a))
def AL(X:Cx)(e:Expr)(p:Pu (List D)):Prop :=
 ∀(G:Gh) (F:Hp) (Z:L2.St) (H:Hp) (ρ:En) (Q:VK),StOk X.K G F Z H ρ->W X G F Z ρ (p ρ) (λds F' H'=>∀v,Frs X.K G F' Z H' ρ v (.l ds)->Q v H')->eA X e Z H Q
def Gy(i:Nat):Pu D:=λρ=>match ρ[i]? with
 | some (some (.fz d))=>.ret d
 | _=>.bad
def Hr(c:OC):M D:=match c with
 | .i _ _ _=>.bad
 | c=>.ret c.d
def Ff(i:Nat):Pu D:=λρ=>match ρ[i]? with
 | some (some (.ol c))=>Hr c
 | some (some (.op c))=>Hr c
 | _=>.bad
def uI(d:D):Pu D:=λ_=>.ret d
def Jd(f:D->D->Option D)(a b:Pu D):Pu D:=λρ=>bd (a ρ) λx=>bd (b ρ) λy=>oM (f x y)
def Fl(f:D->D->Option Bool)(a b:Pu D):Pu Bool:=λρ=>bd (a ρ) λx=>bd (b ρ) λy=>oM (f x y)
def pUn(f:D->Option D)(a:Pu D):Pu D:=λρ=>bd (a ρ) λx=>oM (f x)
abbrev Pa(α:Type):=(List D->M α)->En->M α
def Ja{α:Type}:Pa α:=λk _=>k []
def Fj{α:Type}(a:Pu D)(r:Pa α):Pa α:=λk ρ=>bd (a ρ) λx=>r (λxs=>k (x::xs)) ρ
def eO{S:Type}(ds:List S):M (List S):=if ds.length<=sizeLine then .ret ds else .bad
def Kw(ps:Pa D):Pu D:=λρ=>ps (λds=>.ret (.tuple ds)) ρ
def KA(ps:Pa (List D)):Pu (List D):=λρ=>ps (λds=>.ret ds) ρ
theorem lZ(h:n<=1000):n<=sizeLine:=bj h (by decide)
def Fk(f:List D->Option D)(ps:Pa D):Pu D:=λρ=>ps (λds=>oM (f ds)) ρ
def GA(f:List D->Option Bool)(ps:Pa Bool):Pu Bool:=λρ=>ps (λds=>oM (f ds)) ρ
def wF(f:List D->Option (List D))(ps:Pa (List D)):Pu (List D):=λρ=>ps (λds=>oM (f ds)) ρ
def pB(p:Pu Bool):Pu D:=λρ=>bd (p ρ) λb=>.ret (.bool b)
def pZ(p:Pu (List D)):Pu D:=λρ=>bd (p ρ) λds=>.ret (.list ds)
def asB(d:D):M Bool:=match d with
 | .bool b=>.ret b
 | _=>.bad
def KM(p:Pu D):Pu Bool:=λρ=>bd (p ρ) asB
def kq:D->Option Bool
 | .none=>some false
 | .bool b=>some b
 | .int i=>some (i != 0)
 | .str x=>if x.length<=sizeLine then some ((x.length:Int) != 0)else none
 | .list ds=>some (!ds.isEmpty)
 | .tuple ds=>some (!ds.isEmpty)
 | .dict _=>none
def Ky(p:Pu D):Pu Bool:=λρ=>bd (p ρ) λd=>oM (kq d)
def Je(a b:Pu Bool):Pu Bool:=λρ=>bd (a ρ) λt=>if t then b ρ else .ret false
def pOr(a b:Pu Bool):Pu Bool:=λρ=>bd (a ρ) λt=>if t then .ret true else b ρ
def I9(a:Pu Bool):Pu Bool:=λρ=>bd (a ρ) λt=>.ret (!t)
def pIf{α:Type}(c:Pu Bool)(a b:Pu α):Pu α:=λρ=>bd (c ρ) λt=>if t then a ρ else b ρ
def OpD(K:Fg)(r:R2)(f:D->D->Option D):Prop :=
 ∀(G:Gh) (F:Hp) (Z:L2.St) (H:Hp) (ρ:En) (x y:V) (dx dy:D) (res:D) (Q:VK),StOk K G F Z H ρ->OR K F H x dx->OR K F H y dy->f dx dy=some res ->
  (∀v F' H',Same F F'->StOk K G F' Z H' ρ->Rep K F' v res->Q v H')->r x y H Q
def OpB(K:Fg)(r:R2)(f:D->D->Option Bool):Prop :=
 ∀(G:Gh) (F:Hp) (Z:L2.St) (H:Hp) (ρ:En) (x y:V) (dx dy:D) (res:Bool) (Q:VK),StOk K G F Z H ρ->OR K F H x dx->OR K F H y dy->f dx dy=some res->Q (.bl res) H->r x y H Q
def UnD(K:Fg)(r:V->Hp->VK->Prop)(f:D->Option D):Prop :=
 ∀(G:Gh) (F:Hp) (Z:L2.St) (H:Hp) (ρ:En) (x:V) (dx:D) (res:D) (Q:VK),StOk K G F Z H ρ->OR K F H x dx->f dx=some res ->
  (∀v F' H',Same F F'->StOk K G F' Z H' ρ->Rep K F' v res->Q v H')->r x H Q
def jI(K:Fg)(r:List V->Hp->VK->Prop)(f:List D->Option D):Prop :=
 ∀(G:Gh) (F:Hp) (Z:L2.St) (H:Hp) (ρ:En) (xs:List V) (ds:List D) (res:D) (Q:VK),StOk K G F Z H ρ->ORs K F H xs ds->f ds=some res ->
  (∀v F' H',Same F F'->StOk K G F' Z H' ρ->Rep K F' v res->Q v H')->r xs H Q
def ub(K:Fg)(r:List V->Hp->VK->Prop)(f:List D->Option Bool):Prop :=
 ∀(G:Gh) (F:Hp) (Z:L2.St) (H:Hp) (ρ:En) (xs:List V) (ds:List D) (res:Bool) (Q:VK),StOk K G F Z H ρ->ORs K F H xs ds->f ds=some res->Q (.bl res) H->r xs H Q
def isStar:Expr->Bool
 | .Starred _ _=>true
 | _=>false
theorem cI{env:Env}:∀{e:Expr} {es:List Expr},isStar e=false->starEach (e::es) env=(false,eval e env)::starEach es env:=by
 intro e es h
 cases e<;>first|rfl|cases h
def DW(o:Option NameKind):Bool:=match o with
 | some .local=>true
 | some .cell=>true
 | _=>false
theorem lo{sc:Scope}(h:DW (sc.names.lookup x)=true):L2.Loc sc x:=by
 unfold L2.Loc
 generalize sc.names.lookup x=o at *
 unfold DW at h
 split at h
 ·exact .inl rfl
 ·exact .inr rfl
 ·cases h
def HQ(o:Option NameKind):Bool:=match o with
 | some .free=>true
 | o=>DW o
theorem vi{sc:Scope}(h:HQ (sc.names.lookup x)=true):L2.Vis sc x:=by
 unfold L2.Vis
 generalize sc.names.lookup x=o at *
 unfold HQ DW at h
 split at h
 ·exact .inr (.inr rfl)
 ·split at h
  ·exact .inl rfl
  ·exact .inr (.inl rfl)
  ·cases h
section
variable {a c:Expr} {rest:List Expr} {p pa pb:Pu D} {ta tb tc:Pu Bool} {ps:Pa D} {pb':Pa Bool} {pl:Pa (List D)} {pα:Pa α} {qs:Pu (List D)}
theorem HE(hN:X.N[i]? = some x)(hv:Vis X.env.scope x)(hd:(x==("__debug__" : Str))=false:=by decide)(hcd:(x==("__classdict__" : Str))=false:=by decide):AP X (.Name x pos) (Gy i) :=
 λG F Z H ρ Q S w=>sem (dD hN hv hd hcd)<|by
  unfold Gy at w
  split at w
  ·rename_i d q
   obtain⟨v,e1,r1⟩:=S.fz i d q
   exact⟨v,e1,w F H (Same.refl _) S v r1⟩
  ·exact w.elim
theorem jy(hN:X.N[i]? = some x:=by rfl)(hv:Vis X.env.scope x:=by exact vi rfl)(hd:(x==("__debug__" : Str))=false:=by decide)(hcd:(x==("__classdict__" : Str))=false:=by decide):AO X (.Name x pos) (Ff i) :=
 λG F Z H ρ Q S w=>sem (dD hN hv hd hcd)<|by
  have go:∀c:OC,own ρ i c->W X G F Z ρ (Hr c) (λd F' H'=>∀v,VO X.K F' Z ρ v d->Q v H')->zB i Z H Q:=λc ho w=>by
   obtain⟨a,e1,oa⟩:=S.ow i _ ho
   cases c with
   | i _ _ _=>exact w.elim
   | _=>exact⟨_,e1,w F H (Same.refl _) S _ (.inr ⟨i,_,ho,e1,rfl,rfl⟩)⟩
  unfold Ff at w
  split at w
  ·rename_i ds q;exact go ds (.inl q) w
  ·rename_i ds q;exact go ds (.inr q) w
  ·exact w.elim
theorem ao(h:AP X e p):AO X e p:=λG F Z H ρ Q S w=>h G F Z H ρ Q S (w.imp λd F' H' _ _ q v r=>q v (.inl r))
theorem qa{d:D}(h:PE X e (tC v))(r:∀F,Rep X.K F v d):AP X e (uI d) :=
 λG F Z H ρ Q S w=>sem h (w F H (Same.refl _) S v (r F))
theorem aj{i j}:AP X (.Constant (.int i) j pos) (uI (.int i)):=qa sG λ_=>.int _
theorem jH{i j}:AP X (.Constant (.bool i) j pos) (uI (.bool i)):=qa IY λ_=>.bl _
theorem aD{i j}:AP X (.Constant (.str i) j pos) (uI (.str i)):=qa og λ_=>.str _
theorem dh{j}:AP X (.Constant .none j pos) (uI .none):=qa Gv λ_=>.non
theorem tT{f:D->D->M α}{C:α->Hp->Hp->Prop}(ha:AO X a pa)(hb:AO X b pb)(S:StOk X.K G F Z H ρ)(w:W X G F Z ρ (bd (pa ρ) λx=>bd (pb ρ) λy=>f x y) C)
  (k:∀x y dx dy F' H',Same F F'->StOk X.K G F' Z H' ρ->OR X.K F' H' x dx->OR X.K F' H' y dy->W X G F' Z ρ (f dx dy) C->r x y H' Q):tOp r (eA X a) (eA X b) Z H Q :=
 ha G F Z H ρ _ S (w.bind.imp λdx F1 H1 s1 S1 w1 x hx=>hb G F1 Z H1 ρ _ S1 (w1.bind.imp λdy F2 H2 s2 S2 w2 y hy=>k x y dx dy F2 H2 (s1.trans s2) S2 ((hx.mono s2).or S2) (hy.or S2) w2))
theorem aH{op:Operator}{f:D->D->Option D}(ho:OpR X (binaryOp op) r)(hf:OpD X.K r f)(ha:AO X a pa)(hb:AO X b pb):AP X (.BinOp a op b pos) (Jd f pa pb) :=
 λG F Z H ρ Q S w=>sem (Fc ho aI aI) (tT ha hb S w λx y dx dy F' H' s' S' hx hy w'=>by
  obtain⟨res,e,k⟩:=w'.opt
  exact hf G F' Z H' ρ x y dx dy res Q S' hx hy e λv F2 H2 s2 S2 r2=>k F2 H2 s2 S2 v r2)
theorem cw{f:D->D->Option D}(hr:IxR X r)(hf:OpD X.K r f)(ha:AO X a pa)(hb:AO X b pb)(hs:t0 b:=by exact λ_ _=>rfl):AP X (.Subscript a b pos) (Jd f pa pb) :=
 λG F Z H ρ Q S w=>sem (Fe hr aI aI hs) (tT ha hb S w λx y dx dy F' H' s' S' hx hy w'=>by
  obtain⟨res,e,k⟩:=w'.opt
  exact hf G F' Z H' ρ x y dx dy res Q S' hx hy e λv F2 H2 s2 S2 r2=>k F2 H2 s2 S2 v r2)
theorem xP{f:D->D->Option Bool}(ho:OpR X (compareOp op) r)(hf:OpB X.K r f)(ha:AO X a pa)(hb:AO X b pb)(hm:behindInMarks op b=false:=by rfl):AB X (.Compare a [op] [b] pos) (Fl f pa pb) :=
 λG F Z H ρ Q S w=>sem (DB ho aI aI hm) (tT ha hb S w λx y dx dy F' H' s' S' hx hy w'=>by
  obtain⟨res,e,k⟩:=w'.opt
  exact hf G F' Z H' ρ x y dx dy res Q S' hx hy e (k F' H' (Same.refl _) S'))
theorem aG{f:D->D->Option Bool}(ho:OpR X (compareOp op) r)(hf:OpB X.K r f)(ha:AO X a pa)(hb:AO X b pb)(hm:behindInMarks op b=false:=by rfl):AT X (.Compare a [op] [b] pos) (Fl f pa pb) :=
 λG F Z H ρ Q S w=>sv (yn ho aI aI hm) (tT (Q:=λx H'=>∃k,x=.bl k/\Q k H') ha hb S w λx y dx dy F' H' s' S' hx hy w'=>by
  obtain⟨res,e,k⟩:=w'.opt
  exact hf G F' Z H' ρ x y dx dy res _ S' hx hy e ⟨res,rfl,k F' H' (Same.refl _) S'⟩)
theorem CK(h:AB X e ta):AP X e (pB ta):=λG F Z H ρ Q S w=>h G F Z H ρ Q S (w.bind.imp λb F' H' s1 S1 w1=>w1 F' H' (Same.refl _) S1 _ (.bl b))
theorem JQ{op:UnaryOp}{r:V->Hp->VK->Prop}{f:D->Option D}(ho:UnR X (unaryOp op) r)(hf:UnD X.K r f)(ha:AO X a pa):AP X (.UnaryOp op a pos) (pUn f pa) :=
 λG F Z H ρ Q S w=>sem (IW ho aI) (ha G F Z H ρ _ S (w.bind.imp λdx F1 H1 s1 S1 w1 x hx=>by
  obtain⟨res,e,k⟩:=w1.opt
  exact hf G F1 Z H1 ρ x dx res Q S1 (hx.or S1) e λv F2 H2 s2 S2 r2=>k F2 H2 s2 S2 v r2))
theorem eS(h:AL X e qs):AP X e (pZ qs):=λG F Z H ρ Q S w=>h G F Z H ρ Q S (w.bind.imp λds F' H' s1 S1 w1 v fr=>by
 obtain⟨F2,s2,S2,r2⟩:=S1.settle (v:=v) (ds:=ds) fr
 exact w1 F2 H' s2 S2 v r2)
theorem aE:AA (α:=α) X [] Ja:=λG F Z H ρ Q k C S w kk=>uw lK (kk [] [] F H (Same.refl _) S rfl .nil w)
theorem aa(h:AP X e p)(hr:AA X es pα)(hs:starEach (e::es) X.env=(false,eval e X.env)::starEach es X.env:=by exact cI rfl):AA X (e::es) (Fj p pα) :=
 λG F Z H ρ Q k C S w kk=>uw (eH aI cx hs) (h G F Z H ρ _ S (w.bind.imp λd F1 H1 s1 S1 w1 v r1 =>
  hr G F1 Z H1 ρ _ _ C S1 w1 λds vs F2 H2 s2 S2 hl r2 w2=>kk (d::ds) (v::vs) F2 H2 (s1.trans s2) S2 (by simp[hl]) (.cons (r1.mono s2) r2) w2))
theorem aZ:AAo (α:=α) X [] Ja:=λG F Z H ρ Q k C S w kk=>uw lK (kk [] [] F H (Same.refl _) S .nil w)
theorem aQ(h:AO X e p)(hr:AAo X es pα)(hs:starEach (e::es) X.env=(false,eval e X.env)::starEach es X.env:=by exact cI rfl):AAo X (e::es) (Fj p pα) :=
 λG F Z H ρ Q k C S w kk=>uw (eH aI cx hs) (h G F Z H ρ _ S (w.bind.imp λd F1 H1 s1 S1 w1 v r1 =>
  hr G F1 Z H1 ρ _ _ C S1 w1 λds vs F2 H2 s2 S2 r2 w2=>kk (d::ds) (v::vs) F2 H2 (s1.trans s2) S2 (.cons (r1.mono s2) r2) w2))
theorem W.fit{ds:List α}{C:List α->Hp->Hp->Prop}(h:W X G F Z ρ (eO ds) C):ds.length<=sizeLine/\∀F' H',Same F F'->StOk X.K G F' Z H' ρ->C ds F' H':=by
 unfold eO at h
 split at h
 ·exact⟨by assumption,h⟩
 ·exact h.elim
theorem bH{x1}(h:AA X es ps)(hz:es.length<=1000:=by decide +kernel):AP X (.Tuple es x1 pos) (Kw ps) :=
 λG F Z H ρ Q S w=>sem (Bw cx) (h G F Z H ρ _ _ _ S w λds vs F1 H1 s1 S1 hl r1 w1=>by
  refine⟨by rw[hl];exact lZ hz,λq hq=>?_⟩
  obtain⟨s2,S2,r2⟩:=S1.newTup hq r1
  exact w1 _ _ s2 S2 _ r2)
theorem d8(h:AA X es pl)(hz:es.length<=1000:=by decide +kernel):AL X (.List es pos) (KA pl) :=
 λG F Z H ρ Q S w=>sem (Bx cx) (h G F Z H ρ _ _ _ S w λds vs F1 H1 s1 S1 hl r1 w1=>by
  refine⟨by rw[hl];exact lZ hz,λq hq=>?_⟩
  obtain⟨S2,r2⟩:=S1.newLst hq r1
  exact w1 _ _ (Same.refl _) S2 _ r2)
theorem tS{r:List V->Hp->VK->Prop}{f:List D->M α}{C:α->Hp->Hp->Prop}(ha:AAo X es pα)(S:StOk X.K G F Z H ρ)(w:W X G F Z ρ (pα f ρ) C)
  (k:∀xs ds F' H',Same F F'->StOk X.K G F' Z H' ρ->ORs X.K F' H' xs ds->W X G F' Z ρ (f ds) C->r xs H' Q):tCB r (eL X es) Z H Q :=
 ha G F Z H ρ _ _ C S w λds xs F1 H1 s1 S1 hx w1=>k xs ds F1 H1 s1 S1 (hx.ors S1) w1
theorem bC{p:Pos}{id:String}{r:List V->Hp->VK->Prop}{f:List D->Option D}(hc:CallR X (.builtin id) r)(hf:jI X.K r f)(hm:X.mg x=none)(hv:bootBuiltins x=some (.builtin id))(ha:AAo X (e::es) ps)(hg:Gl X x:=by rfl)
  (hn:x ≠ "__name__":=by decide) (hdb:(x==("__debug__" : Str))=false:=by decide) (he:starEach (e::es) X.env=(false,eval e X.env)::starEach es X.env:=by rfl) (hpl:(backTo pos (starEach es X.env)).any (·.1)=false:=by rfl):AP X (.Call (.Name x p) (e::es) [] pos) (Fk f ps) :=
 λG F Z H ρ Q S w=>sem (iL hc hg hm hv cx hn hdb he hpl) (tS ha S w λxs ds F' H' s' S' hx w'=>by
  obtain⟨res,e,k⟩:=w'.opt
  exact hf G F' Z H' ρ xs ds res Q S' hx e λv F2 H2 s2 S2 r2=>k F2 H2 s2 S2 v r2)
theorem vO{p:Pos}{id:String}{r:List V->Hp->VK->Prop}{f:List D->Option Bool}(hc:CallR X (.builtin id) r)(hf:ub X.K r f)(hg:Gl X x)(hm:X.mg x=none)(hv:bootBuiltins x=some (.builtin id))(ha:AAo X (e::es) pb')
  (hn:x ≠ "__name__":=by decide) (hdb:(x==("__debug__" : Str))=false:=by decide) (he:starEach (e::es) X.env=(false,eval e X.env)::starEach es X.env:=by rfl) (hpl:(backTo pos (starEach es X.env)).any (·.1)=false:=by rfl):AB X (.Call (.Name x p) (e::es) [] pos) (GA f pb') :=
 λG F Z H ρ Q S w=>sem (iL hc hg hm hv cx hn hdb he hpl) (tS ha S w λxs ds F' H' s' S' hx w'=>by
  obtain⟨res,e,k⟩:=w'.opt
  exact hf G F' Z H' ρ xs ds res Q S' hx e (k F' H' (Same.refl _) S'))
theorem cD{p:Pos}{r:List V->Hp->VK->Prop}{f:List D->Option D}(hc:CallR X (.type T) r)(hf:jI X.K r f)(hm:X.mg x=none)(hv:bootBuiltins x=some (.type T))(ha:AAo X (e::es) ps)(hg:Gl X x:=by rfl)
  (hn:x ≠ "__name__":=by decide) (hdb:(x==("__debug__" : Str))=false:=by decide) (he:starEach (e::es) X.env=(false,eval e X.env)::starEach es X.env:=by rfl) (hpl:(backTo pos (starEach es X.env)).any (·.1)=false:=by rfl):AP X (.Call (.Name x p) (e::es) [] pos) (Fk f ps) :=
 λG F Z H ρ Q S w=>sem (qU hc hg hm hv cx hn hdb he hpl) (tS ha S w λxs ds F' H' s' S' hx w'=>by
  obtain⟨res,e,k⟩:=w'.opt
  exact hf G F' Z H' ρ xs ds res Q S' hx e λv F2 H2 s2 S2 r2=>k F2 H2 s2 S2 v r2)
theorem lz{ds:List D}(h:RepL K F vs ds):(!vs.isEmpty) = !ds.isEmpty:=by cases h<;>rfl
theorem tV(ha:AO X a pa)(he:∀whole,isTrue a X.env whole=(do let v <-whole;standAt a.pos;holding [v] (truthy v))):AT X a (Ky pa) :=
 λG F Z H ρ Q S w=>sv (nX aI he) (ha G F Z H ρ _ S (w.bind.imp λx F1 H1 s1 S1 w1 v hv=>by
  obtain⟨bb,hb,k⟩:=w1.opt
  refine⟨bb,?_,k F1 H1 (Same.refl _) S1⟩
  have o:=hv.or S1
  cases x with
  | none=>rw[o.none];cases hb;exact rfl
  | bool i=>rw[o.bool];cases hb;exact rfl
  | int i=>rw[o.int];cases hb;exact rfl
  | str i =>
   rw[o.str]
   unfold kq at hb
   dsimp only at hb
   split at hb
   ·rename_i hl;cases hb;exact⟨hl,rfl⟩
   ·cases hb
  | list ds=>obtain⟨a,vs,rfl,h1,h2⟩:=o.list S1.fh;cases hb;exact .inl ⟨vs,h1,(lz h2).symm⟩
  | tuple ds=>obtain⟨a,vs,rfl,h1,h2⟩:=o.tuple S1.fh;cases hb;exact .inr (.inl ⟨vs,h1,(lz h2).symm⟩)
  | dict ds=>cases hb))
theorem tW(ha:AB X a ta)(he:∀whole,isTrue a X.env whole=(do let v <-whole;standAt a.pos;holding [v] (truthy v))):AT X a ta :=
 λG F Z H ρ Q S w=>sv (nX aI he) (ha G F Z H ρ _ S (w.imp λx F1 H1 s1 S1 w1=>⟨x,rfl,w1⟩))
theorem tU(ha:AT X a ta):AW X (.BoolOp .And [a] pos) ta:=λG F Z H ρ Q S w=>Dn (Ds fO) (ha G F Z H ρ Q S w)
theorem hZ(ha:AT X a ta):AW X (.BoolOp .Or [a] pos) ta:=λG F Z H ρ Q S w=>Dn (Gi fO) (ha G F Z H ρ Q S w)
theorem xK(ha:AT X a ta)(hb:AW X (.BoolOp .And (b::rest) pos) tb):AW X (.BoolOp .And (a::b::rest) pos) (Je ta tb) :=
 λG F Z H ρ Q S w=>Dn (Gj fO wA) (ha G F Z H ρ _ S (w.bind.imp λt F1 H1 s1 S1 w1=>by
  cases t with
  | true=>refine vg ?_;exact hb G F1 Z H1 ρ Q S1 w1
  | false=>refine vh ?_;exact w1 F1 H1 (Same.refl _) S1))
theorem e9(ha:AT X a ta)(hb:AW X (.BoolOp .Or (b::rest) pos) tb):AW X (.BoolOp .Or (a::b::rest) pos) (pOr ta tb) :=
 λG F Z H ρ Q S w=>Dn (IR fO wA) (ha G F Z H ρ _ S (w.bind.imp λt F1 H1 s1 S1 w1=>by
  cases t with
  | true=>refine vg ?_;exact w1 F1 H1 (Same.refl _) S1
  | false=>refine vh ?_;exact hb G F1 Z H1 ρ Q S1 w1))
theorem iq(h:AW X e ta):AT X e ta:=λG F Z H ρ Q S w=>sv (λpins s Z H Q I h=>wA _ pins s Z H Q I h) (h G F Z H ρ Q S w)
theorem jf(ha:AT X a ta):AT X (.UnaryOp .Not a pos) (I9 ta) :=
 λG F Z H ρ Q S w=>sv (Bl fO) (ha G F Z H ρ _ S (w.bind.imp λt F1 H1 s1 S1 w1=>w1 F1 H1 (Same.refl _) S1))
theorem JT(h:AP X a pa):AB X a (KM pa):=λG F Z H ρ Q S w=>h G F Z H ρ Q S (w.bind.imp λd F1 H1 s1 S1 w1 v r=>by
 cases r with
 | bl b=>exact w1 F1 H1 (Same.refl _) S1
 | non=>exact w1.elim
 | int i=>exact w1.elim
 | str i=>exact w1.elim
 | tup _ _=>exact w1.elim
 | lst _ _=>exact w1.elim
 | dct _ _ _=>exact w1.elim
 | dck _ _ _=>exact w1.elim
 | exc _ _ _ _ _=>exact w1.elim
 | fn _=>exact w1.elim)
theorem CW{op}(h:AB X a ta):AB X (.BoolOp op [a] pos) ta:=λG F Z H ρ Q S w=>sem (Gs aI) (h G F Z H ρ Q S w)
theorem C2(ha:AB X a ta)(hb:AB X (.BoolOp .And (b::rest) pos) tb):AB X (.BoolOp .And (a::b::rest) pos) (Je ta tb) :=
 λG F Z H ρ Q S w=>sem (Gx aI aI) (ha G F Z H ρ _ S (w.bind.imp λt F1 H1 s1 S1 w1=>⟨t,rfl,by
  cases t with
  | true=>refine vg ?_;exact hb G F1 Z H1 ρ Q S1 w1
  | false=>refine vh ?_;exact w1 F1 H1 (Same.refl _) S1⟩))
theorem HG(ha:AB X a ta):AB X (.UnaryOp .Not a pos) (I9 ta) :=
 λG F Z H ρ Q S w=>sem (Gu aI) (ha G F Z H ρ _ S (w.bind.imp λt F1 H1 s1 S1 w1=>⟨t,rfl,w1 F1 H1 (Same.refl _) S1⟩))
theorem gk(hc:AT X c tc)(ha:AP X a pa)(hb:AP X b pb):AP X (.IfExp c a b pos) (pIf tc pa pb) :=
 λG F Z H ρ Q S w=>sem (uH fO aI aI) (hc G F Z H ρ _ S (w.bind.imp λt F1 H1 s1 S1 w1=>by
  cases t with
  | true=>refine vg ?_;exact ha G F1 Z H1 ρ Q S1 w1
  | false=>refine vh ?_;exact hb G F1 Z H1 ρ Q S1 w1))
end
def yE(i j:Int):Bool:=(decide (-(2^64)<i)&&decide (i<2^64))||(decide (-(2^64)<j)&&decide (j<2^64))
def aJ:D->D->Option D
 | .int i,.int j=>some (.int (i+j))
 | .str a,.str b=>if a.length+b.length<=sizeLine then some (.str (a++b))else none
 | .tuple a,.tuple b=>if a.length+b.length<=sizeLine then some (.tuple (a++b))else none
 | .list a,.list b=>if a.length+b.length<=sizeLine then some (.list (a++b))else none
 | _,_=>none
def cy:D->D->Option D
 | .int i,.int j=>some (.int (i - j))
 | _,_=>none
def eW:D->D->Option D
 | .int i,.int j=>if yE i j then some (.int (i*j))else none
 | _,_=>none
def uM:D->D->Option D
 | .int i,.int j=>if decide (0<j)&&decide (j<1073741824)then some (.int (i / j))else none
 | _,_=>none
def fQ:D->D->Option D
 | .int i,.int j=>if 0<j then some (.int (i % j))else none
 | _,_=>none
def uL:D->D->Option D
 | .int i,.int j=>if decide (0<=j)&&decide (j<=1000000)&&decide (i.natAbs<2^64)then some (.int (i^j.toNat))else none
 | _,_=>none
def BA:D->Option D
 | .int i=>some (.int (-i))
 | _=>none
def zU:D->D->Option Bool
 | .int i,.int j=>some (decide (i<j))
 | _,_=>none
def Jh:D->D->Option Bool
 | .int i,.int j=>some (decide (i<=j))
 | _,_=>none
def kH:D->D->Option Bool
 | .int i,.int j=>some (decide (j<i))
 | _,_=>none
def BB:D->D->Option Bool
 | .int i,.int j=>some (decide (j<=i))
 | _,_=>none
def E9(K:Fg):R2:=λx y H Q=>∃a b xs ys,x=.ref a/\y=.ref b/\SqT K H a xs/\SqT K H b ys/\xs.length+ys.length<=sizeLine /\
 (xs=[]->Q (.ref b) H)/\(xs≠[]->ys=[]->Q (.ref a) H)/\(xs≠[]->ys≠[]->∀p,H p=none->Q (.ref p) (upd H p (.tup (xs++ys))))
theorem op_cat0:OpR X (binaryOp .Add) (E9 X.K):=by
 intro pins s Z H x y v u Q I rx ry h
 obtain⟨a,b,xs,ys,rfl,rfl,ha,hb,hz,q0,q1,q2⟩:=h
 by_cases hx:xs=[]
 ·cases rx
  cases ry
  obtain⟨its,r1,p1,_⟩:=I.tuple ha
  obtain⟨its2,r2,p2,_⟩:=I.tuple hb
  have hv:its=[]:=r1.nil_iff.mpr hx
  obtain⟨⟨cls,dd,data,sl⟩,ho,hc,n,hd⟩:=id p1
  obtain⟨⟨cls2,dd2,data2,sl2⟩,ho2,hc2,n2,hd2⟩:=id p2
  simp only at hc hd hc2 hd2
  subst hc hd hc2 hd2
  exact concat_meets ⟨_,ho,rfl⟩ ⟨_,ho2,rfl⟩ noFill_tuple_add seq_tuple_add Md L7 (LY _ _)
   (tuple_addW0 a b its.toArray its2.toArray n n2 dd dd2 sl sl2 (by simp[hv])) ⟨ho,ho2,⟨.ref b,H,I,rfl,q0 hx⟩⟩
 ·exact DH pins s Z H _ _ v u Q I rx ry ⟨a,b,xs,ys,rfl,rfl,ha,hb,hx,hz,q1 hx,q2 hx⟩
section
theorem noS{a:α}{P:Prop}(e:(none:Option α)=some a):P:=nomatch e
theorem okI{C:Int->Int->Prop}{g:Int->Int->V}{f:D->D->Option D}(h:∀dx dy res,f dx dy=some res->∃i j,dx=.int i/\dy=.int j/\C i j/\∀K F,Rep K F (g i j) res):OpD K (rI C g) f:=by
 intro G F Z H ρ x y dx dy res Q S ox oy e k
 obtain⟨i,j,rfl,rfl,hc,hr⟩:=h dx dy res e
 exact⟨i,j,ox.int,oy.int,hc,k _ F H (Same.refl _) S (hr K F)⟩
theorem okB{g:Int->Int->Bool}{f:D->D->Option Bool}(h:∀dx dy res,f dx dy=some res->∃i j,dx=.int i/\dy=.int j/\res=g i j):OpB K (rI0 λi j=>.bl (g i j)) f:=by
 intro G F Z H ρ x y dx dy res Q S ox oy e k
 obtain⟨i,j,rfl,rfl,rfl⟩:=h dx dy res e
 exact⟨i,j,ox.int,oy.int,k⟩
theorem eF:OpD K (rI0 λi j=>.int (i - j)) cy:=by
 intro G F Z H ρ x y dx dy res Q S ox oy e k
 cases dx<;>first|exact noS e|(cases dy<;>first|exact noS e|cases e)
 exact⟨_,_,ox.int,oy.int,k _ F H (Same.refl _) S (.int _)⟩
theorem Jj:OpB K (rI0 λi j=>.bl (decide (i<j))) zU:=okB λdx dy res e=>by
 cases dx<;>first|exact noS e|(cases dy<;>first|exact noS e|cases e)
 exact⟨_,_,rfl,rfl,rfl⟩
theorem Jk:OpB K (rI0 λi j=>.bl (decide (i<=j))) Jh:=okB λdx dy res e=>by
 cases dx<;>first|exact noS e|(cases dy<;>first|exact noS e|cases e)
 exact⟨_,_,rfl,rfl,rfl⟩
theorem qY:OpB K (rI0 λi j=>.bl (decide (j<i))) kH:=okB λdx dy res e=>by
 cases dx<;>first|exact noS e|(cases dy<;>first|exact noS e|cases e)
 exact⟨_,_,rfl,rfl,rfl⟩
theorem Fq:OpB K (rI0 λi j=>.bl (decide (j<=i))) BB:=okB λdx dy res e=>by
 cases dx<;>first|exact noS e|(cases dy<;>first|exact noS e|cases e)
 exact⟨_,_,rfl,rfl,rfl⟩
theorem BE:OpD K (rI J0 λi j=>.int (i / j)) uM:=okI λdx dy res e=>by
 cases dx<;>first|exact noS e|(cases dy<;>try (exact noS e))
 rename_i i j
 dsimp only[uM]at e
 split at e
 ·rename_i hc
  cases e
  simp only[am,zzi]at hc
  exact⟨i,j,rfl,rfl,hc,λ_ _=>.int _⟩
 ·cases e
theorem iU:OpD K (rI (λ_ j=>0<j) λi j=>.int (i % j)) fQ:=okI λdx dy res e=>by
 cases dx<;>first|exact noS e|(cases dy<;>try (exact noS e))
 rename_i i j
 dsimp only[fQ]at e
 split at e
 ·rename_i hc
  cases e
  exact⟨i,j,rfl,rfl,hc,λ_ _=>.int _⟩
 ·cases e
theorem GH:OpD K (rI JZ λi j=>.int (i^j.toNat)) uL:=okI λdx dy res e=>by
 cases dx<;>first|exact noS e|(cases dy<;>try (exact noS e))
 rename_i i j
 dsimp only[uL]at e
 split at e
 ·rename_i hc
  cases e
  simp only[am,zzi]at hc
  exact⟨i,j,rfl,rfl,⟨hc.1.1,hc.1.2,hc.2⟩,λ_ _=>.int _⟩
 ·cases e
theorem GI:UnD K (rU λi=>.int (-i)) BA:=by
 intro G F Z H ρ x dx res Q S ox e k
 cases dx<;>cases e
 exact⟨_,ox.int,k _ F H (Same.refl _) S (.int _)⟩
theorem kB{ds:List D}(r:RepL K F vs ds):vs=[]↔ds=[]:=by cases r<;>simp
def E8(K:Fg):R2:=λx y H Q=>∃l b xs zs,x=.ref l/\y=.ref b/\SqL K H l xs/\SqL K H b zs/\xs.length+zs.length<=sizeLine/\∀p,H p=none->Q (.ref p) (upd H p (.lst (xs++zs)))
theorem DI:OpR X (binaryOp .Add) (E8 X.K):=by
 intro pins s Z H x y v u Q I rx ry h
 obtain⟨l,b,xs,zs,rfl,rfl,hH,hB,hz,q⟩:=h
 cases rx
 cases ry
 obtain⟨its,r,pl,_⟩:=I.list hH
 obtain⟨its2,r2,pl2,_⟩:=I.list hB
 obtain⟨⟨cls,dd,data,sl⟩,ho,hc,n,hd⟩:=id pl.isList
 obtain⟨⟨cls2,dd2,data2,sl2⟩,ho2,hc2,n2,hd2⟩:=id pl2.isList
 simp only at hc hd hc2 hd2
 subst hc hd hc2 hd2
 have e:its.toArray++its2.toArray=(its++its2).toArray:=by simp
 refine concat_meets ⟨_,ho,rfl⟩ ⟨_,ho2,rfl⟩ noFill_list_add seq_list_add PySem.F.slot_list_add PySem.F.entry_list_add (PySem.F.args_list_add_2 _ _) (list_addW l b its.toArray its2.toArray n n2 dd dd2 sl sl2 (by rw[ce,ce,<-r.length,<-r2.length];exact hz)) ⟨ho,ho2,?_⟩
 rw[e]
 exact⟨.ref _,_,I.laid (t':=s.toks) (o:=.lst (xs++zs)) (λb ob q=>zzc _ q) (ay _) ⟨by rw[zzf];exact hz,_,0,r.append r2,zze _ rfl⟩,rfl,q _ (I.hok.fresh (ay _))⟩
def Iv:R2:=λx y H Q=>∃i j,x=.str i/\y=.str j/\i.length+j.length<=sizeLine/\Q (.str (i++j)) H
def Fb(K:Fg):R2:=λx y H Q=>rI0 (λi j=>.int (i+j)) x y H Q\/(Iv x y H Q\/(E9 K x y H Q\/E8 K x y H Q))
theorem aP:OpR X (binaryOp .Add) (Fb X.K):=op_add.or (OpR.or wI (op_cat0.or DI))
theorem aY:OpD K (Fb K) aJ:=by
 intro G F Z H ρ x y dx dy res Q S ox oy e k
 cases dx<;>first|exact noS e|(cases dy<;>try (exact noS e))
 ·cases e;exact .inl ⟨_,_,ox.int,oy.int,k _ F H (Same.refl _) S (.int _)⟩
 ·dsimp only[aJ]at e
  split at e
  ·rename_i hz
   cases e
   exact .inr (.inl ⟨_,_,ox.str,oy.str,hz,k _ F H (Same.refl _) S (.str _)⟩)
  ·cases e
 ·dsimp only[aJ]at e
  split at e
  ·rename_i hz
   cases e
   obtain⟨a,vs,rfl,h1,h2⟩:=ox.list S.fh
   obtain⟨b,us,rfl,g1,g2⟩:=oy.list S.fh
   refine .inr (.inr (.inr ⟨a,b,vs,us,rfl,rfl,h1,g1,by rw[h2.length,g2.length];exact hz,λp hp=>?_⟩))
   obtain⟨S2,r2⟩:=S.newLst hp (h2.append g2)
   obtain⟨F2,s3,S3,r3⟩:=S2.settle r2
   exact k _ F2 _ s3 S3 r3
  ·cases e
 ·dsimp only[aJ]at e
  split at e
  ·rename_i hz
   cases e
   obtain⟨a,vs,rfl,h1,h2⟩:=ox.tuple S.fh
   obtain⟨b,us,rfl,g1,g2⟩:=oy.tuple S.fh
   refine .inr (.inr (.inl ⟨a,b,vs,us,rfl,rfl,h1,g1,by rw[h2.length,g2.length];exact hz,λz=>?_,λ_ z=>?_,λ_ _ p hp=>?_⟩))
   ·have z':=(kB h2).mp z
    subst z'
    exact k _ F H (Same.refl _) S oy.tup'
   ·have z':=(kB g2).mp z
    subst z'
    exact k _ F H (Same.refl _) S (by rw[iz];exact ox.tup')
   ·obtain⟨s2,S2,r2⟩:=S.newTup hp (h2.append g2)
    exact k _ _ _ s2 S2 r2
  ·cases e
theorem lO:OpD K (rI CMul λi j=>.int (i*j)) eW:=okI λdx dy res e=>by
 cases dx<;>first|exact noS e|(cases dy<;>try (exact noS e))
 rename_i i j
 dsimp only[eW]at e
 split at e
 ·rename_i hc
  cases e
  unfold yE at hc
  simp only[gt,am,zzi]at hc
  exact⟨i,j,rfl,rfl,hc,λ_ _=>.int _⟩
 ·cases e
end
def eqOk(d e:D):Bool:=d.canLay0&&e.canLay0&&decide (d.depth<=1000)
def aW(d e:D):Option Bool:=if eqOk d e then some (PyData.eqv d e)else none
def kG(d e:D):Option Bool:=if eqOk d e then some (!PyData.eqv d e)else none
def inOk(d:D)(xs:List D):Bool:=PyData.canLayAll0 xs&&d.canLay0&&decide (d.depth<=1000)
def rE(i j:Str):Bool:=!(Builtin.Str.occurrences j i 0 j.length 1).isEmpty
def DJ(d c:D):Option Bool:=match c with
 | .list xs=>if inOk d xs then some (xs.any λy=>PyData.eqv y d)else none
 | .tuple xs=>if inOk d xs then some (xs.any λy=>PyData.eqv y d)else none
 | .str j=>match d with
  | .str i=>some (rE i j)
  | _=>none
 | _=>none
def nv(d c:D):Option Bool:=match c with
 | .list xs=>if inOk d xs then some (!xs.any λy=>PyData.eqv y d)else none
 | .tuple xs=>if inOk d xs then some (!xs.any λy=>PyData.eqv y d)else none
 | .str j=>match d with
  | .str i=>some (!rE i j)
  | _=>none
 | _=>none
def isNone:D->Bool
 | .none=>true
 | _=>false
def Fp(d e:D):Option Bool:=match e with
 | .none=>some (isNone d)
 | _=>none
def rD2(K:Fg)(f:D->D->Option Bool):R2:=λx y H Q=>∃d e b,Rep K H x d/\Rep K H y e/\f d e=some b/\Q (.bl b) H
theorem bq{f:D->D->Option Bool}:OpB K (rD2 K f) f:=by
 intro G F Z H ρ x y dx dy res Q S ox oy e k
 exact⟨dx,dy,res,ox.rep S.fh,oy.rep S.fh,e,k⟩
theorem Rep.non_iff{d:D}(r:Rep K F v d):(decide (v=.non))=isNone d:=by
 cases r<;>rfl
section
theorem bh(hu:X.A.units+1100<cLine):OpR X (compareOp .Eq) (rD2 X.K aW):=by
 intro pins s Z H x y v u Q I rx ry ⟨d,e,b,r1,r2,ho,q⟩
 unfold aW at ho
 split at ho
 case isFalse=>cases ho
 rename_i hc
 cases ho
 simp only[eqOk,am,zzi]at hc
 obtain⟨as,ra⟩:=(bR I).1 r1 hc.1.1 rx
 obtain⟨bs,rb⟩:=(bR I).1 r2 hc.1.2 ry
 exact SeqAt.compareEq_reads ra rb hc.1.1 hc.1.2 (by have:=Nat.min_le_left d.depth e.depth;lia) ⟨.bl _,H,I,rfl,q⟩
theorem oC(hu:X.A.units+1100<cLine):OpR X (compareOp .NotEq) (rD2 X.K kG):=by
 intro pins s Z H x y v u Q I rx ry ⟨d,e,b,r1,r2,ho,q⟩
 unfold kG at ho
 split at ho
 case isFalse=>cases ho
 rename_i hc
 cases ho
 simp only[eqOk,am,zzi]at hc
 obtain⟨as,ra⟩:=(bR I).1 r1 hc.1.1 rx
 obtain⟨bs,rb⟩:=(bR I).1 r2 hc.1.2 ry
 exact SeqAt.compareNe_reads ra rb hc.1.1 hc.1.2 (by have:=Nat.min_le_left d.depth e.depth;lia) ⟨.bl _,H,I,rfl,q⟩
theorem GB(hu:X.A.units+1100<cLine):OpR X (compareOp .In) (rD2 X.K DJ):=by
 intro pins s Z H x y v u Q I rx ry ⟨d,e,b,r1,r2,ho,q⟩
 unfold DJ at ho
 split at ho
 ·rename_i xs
  split at ho
  case isFalse=>cases ho
  rename_i hc
  cases ho
  simp only[inOk,am,zzi]at hc
  obtain⟨as,ra⟩:=(bR I).1 r1 hc.1.2 rx
  obtain⟨bs,rb⟩:=(bR I).1 r2 (by simpa[PyData.canLay0]using hc.1.1) ry
  exact SeqAt.in_list_reads rb ra hc.1.1 hc.1.2 (by have:=y4 (PyData.depthAll xs) d.depth;lia) ⟨.bl _,H,I,rfl,q⟩
 ·rename_i xs
  split at ho
  case isFalse=>cases ho
  rename_i hc
  cases ho
  simp only[inOk,am,zzi]at hc
  obtain⟨as,ra⟩:=(bR I).1 r1 hc.1.2 rx
  obtain⟨bs,rb⟩:=(bR I).1 r2 (by simpa[PyData.canLay0]using hc.1.1) ry
  exact SeqAt.in_tuple_reads rb ra hc.1.1 hc.1.2 (by have:=y4 (PyData.depthAll xs) d.depth;lia) ⟨.bl _,H,I,rfl,q⟩
 ·split at ho
  ·cases ho
   obtain rfl:=r1.str_inv;obtain rfl:=r2.str_inv
   exact zT pins s Z H _ _ v u Q I rx ry ⟨_,_,rfl,rfl,q⟩
  ·cases ho
 ·cases ho
theorem zS(hu:X.A.units+1100<cLine):OpR X (compareOp .NotIn) (rD2 X.K nv):=by
 intro pins s Z H x y v u Q I rx ry ⟨d,e,b,r1,r2,ho,q⟩
 unfold nv at ho
 split at ho
 ·rename_i xs
  split at ho
  case isFalse=>cases ho
  rename_i hc
  cases ho
  simp only[inOk,am,zzi]at hc
  obtain⟨as,ra⟩:=(bR I).1 r1 hc.1.2 rx
  obtain⟨bs,rb⟩:=(bR I).1 r2 (by simpa[PyData.canLay0]using hc.1.1) ry
  exact SeqAt.notIn_list_reads rb ra hc.1.1 hc.1.2 (by have:=y4 (PyData.depthAll xs) d.depth;lia) ⟨.bl _,H,I,rfl,q⟩
 ·rename_i xs
  split at ho
  case isFalse=>cases ho
  rename_i hc
  cases ho
  simp only[inOk,am,zzi]at hc
  obtain⟨as,ra⟩:=(bR I).1 r1 hc.1.2 rx
  obtain⟨bs,rb⟩:=(bR I).1 r2 (by simpa[PyData.canLay0]using hc.1.1) ry
  exact SeqAt.notIn_tuple_reads rb ra hc.1.1 hc.1.2 (by have:=y4 (PyData.depthAll xs) d.depth;lia) ⟨.bl _,H,I,rfl,q⟩
 ·split at ho
  ·cases ho
   obtain rfl:=r1.str_inv;obtain rfl:=r2.str_inv
   exact sJ pins s Z H _ _ v u Q I rx ry ⟨_,_,rfl,rfl,q⟩
  ·cases ho
 ·cases ho
theorem DE:OpR X (compareOp .Is) (rD2 X.K Fp):=by
 intro pins s Z H x y v u Q I rx ry ⟨d,e,b,r1,r2,ho,q⟩
 unfold Fp at ho
 split at ho
 ·cases ho
  cases r2
  refine GF pins s Z H x _ v u Q I rx ry ⟨rfl,?_⟩
  rw[Rep.non_iff r1]
  exact q
 ·cases ho
end
def jz:D->D->Option D
 | .list ds,.int i=>atI ds i
 | .tuple ds,.int i=>atI ds i
 | .str z,.int i=>if z.length<=sizeLine then(atI z.cps.toList i).map λc=>.str ⟨#[c]⟩else none
 | _,_=>none
theorem zo{ds:List D}{i:Int}{d:D}(r:RepL K F vs ds)(h:atI ds i=some d):∃v,atI vs i=some v/\Rep K F v d:=by
 unfold atI at h ⊢
 rw[r.length]
 cases q:ixN ds.length i with
 | none=>rw[q]at h;cases h
 | some j =>
  rw[q]at h
  exact r.get (i:=j) h
theorem Jl:OpD K (rIx K) jz:=by
 intro G F Z H ρ x y dx dy res Q S ox oy e k
 cases dx<;>first|exact noS e|(cases dy<;>try (exact noS e))
 ·dsimp only[jz]at e
  split at e
  ·rename_i hz
   obtain⟨c,hc,rfl⟩:=Option.map_eq_some_iff.mp e
   exact .inr (.inr ⟨_,_,c,ox.str,oy.int,hz,hc,k _ F H (Same.refl _) S (.str _)⟩)
  ·cases e
 ·obtain⟨a,vs,rfl,h1,h2⟩:=ox.list S.fh
  obtain⟨v,e1,e2⟩:=zo h2 e
  exact .inl ⟨a,vs,_,v,rfl,oy.int,h1,e1,k v F H (Same.refl _) S e2⟩
 ·obtain⟨a,vs,rfl,h1,h2⟩:=ox.tuple S.fh
  obtain⟨v,e1,e2⟩:=zo h2 e
  exact .inr (.inl ⟨a,vs,_,v,rfl,oy.int,h1,e1,k v F H (Same.refl _) S e2⟩)
theorem Vals.one{us:List Value}(h:Vals [v] us):∃u,us=[u]/\RelV v u:=by
 cases h with|cons a b=>cases b;exact⟨_,rfl,a⟩
def ej:List D->Option D
 | [.list ds]=>some (.int ds.length)
 | [.tuple ds]=>some (.int ds.length)
 | [.str z]=>if z.length<=sizeLine then some (.int z.length)else none
 | _=>none
def gw:List D->Option D
 | [.list ds]=>some (.tuple ds)
 | [.tuple ds]=>some (.tuple ds)
 | _=>none
def xy:List D->Option D
 | [.int i]=>some (.int (if i<0 then -i else i))
 | _=>none
def vn:List D->Option D
 | [.int i,.int j]=>some (.int (if j<i then j else i))
 | _=>none
def ID(K:Fg):List V->Hp->VK->Prop:=λxs H Q=>(∃p ys,xs=[.ref p]/\(SqL K H p ys\/SqT K H p ys)/\Q (.int ys.length) H)\/∃z,xs=[.str z]/\z.length<=sizeLine/\Q (.int z.length) H
theorem bK:CallR X (.builtin "len") (ID X.K):=CallR.or tR tQ
theorem df:jI K (ID K) ej:=by
 intro G F Z H ρ xs ds res Q S o e k
 unfold ej at e
 split at e
 ·rename_i es
  cases e
  obtain⟨v,r,rfl,ho,hr⟩:=bW o
  obtain rfl:=cJ hr
  obtain⟨a,vs,rfl,h1,h2⟩:=ho.list S.fh
  exact .inl ⟨a,vs,rfl,.inl h1,k _ F H (Same.refl _) S (by rw[h2.length];exact .int _)⟩
 ·rename_i es
  cases e
  obtain⟨v,r,rfl,ho,hr⟩:=bW o
  obtain rfl:=cJ hr
  obtain⟨a,vs,rfl,h1,h2⟩:=ho.tuple S.fh
  exact .inl ⟨a,vs,rfl,.inr h1,k _ F H (Same.refl _) S (by rw[h2.length];exact .int _)⟩
 ·split at e
  ·rename_i hz
   cases e
   obtain⟨v,r,rfl,ho,hr⟩:=bW o
   obtain rfl:=cJ hr
   exact .inr ⟨_,by rw[ho.str],hz,k _ F H (Same.refl _) S (.int _)⟩
  ·cases e
 ·cases e
theorem gF:jI K (λxs H Q=>∃p ys,xs=[.ref p]/\((SqL K H p ys/\∀l,H l=none->Q (.ref l) (upd H l (.tup ys)))\/(SqT K H p ys/\Q (.ref p) H))) gw:=by
 intro G F Z H ρ xs ds res Q S o e k
 unfold gw at e
 split at e
 ·rename_i es
  cases e
  obtain⟨v,r,rfl,ho,hr⟩:=bW o
  obtain rfl:=cJ hr
  obtain⟨a,vs,rfl,h1,h2⟩:=ho.list S.fh
  refine⟨a,vs,rfl,.inl ⟨h1,λl hl=>?_⟩⟩
  obtain⟨s2,S2,r2⟩:=S.newTup hl h2
  exact k _ _ _ s2 S2 r2
 ·rename_i es
  cases e
  obtain⟨v,r,rfl,ho,hr⟩:=bW o
  obtain rfl:=cJ hr
  have ho:=ho.tup'
  cases ho with
  | tup h1 h2=>exact⟨_,_,rfl,.inr ⟨SqT.of (S.fh _ _ h1),k _ F H (Same.refl _) S (show Rep K F _ _ from .tup h1 h2)⟩⟩
 ·cases e
theorem BF:jI K (λxs H Q=>∃i,xs=[.int i]/\Q (.int (if i<0 then -i else i)) H) xy:=by
 intro G F Z H ρ xs ds res Q S o e k
 unfold xy at e
 split at e
 ·cases e
  obtain⟨v,r,rfl,ho,hr⟩:=bW o
  obtain rfl:=cJ hr
  exact⟨_,by rw[ho.int],k _ F H (Same.refl _) S (show Rep K F _ _ from .int _)⟩
 ·cases e
theorem DO:jI K (λxs H Q=>∃i j,xs=[.int i,.int j]/\Q (.int (if j<i then j else i)) H) vn:=by
 intro G F Z H ρ xs ds res Q S o e k
 unfold vn at e
 split at e
 ·cases e
  obtain⟨v,r,rfl,ho,hr⟩:=bW o
  obtain⟨v2,r2,rfl,ho2,hr2⟩:=bW hr
  obtain rfl:=cJ hr2
  exact⟨_,_,by rw[ho.int,ho2.int],k _ F H (Same.refl _) S (show Rep K F _ _ from .int _)⟩
 ·cases e
def nQ(d:D):Bool:=d.showable&&d.canLay0&&decide (d.depth<=1000)&&decide (d.shown.length<=sizeLine)
def pG:List D->Option D
 | [d]=>if nQ d then some (.str d.shown)else none
 | _=>none
def E6(K:Fg):List V->Hp->VK->Prop:=λxs H Q=>∃v d,xs=[v]/\Rep K H v d/\nQ d=true/\Q (.str d.shown) H
theorem yC:jI K (E6 K) pG:=by
 intro G F Z H ρ xs ds res Q S o e k
 unfold pG at e
 split at e
 ·rename_i d
  split at e
  ·rename_i hc
   cases e
   obtain⟨v,r,rfl,ho,hr⟩:=bW o
   obtain rfl:=cJ hr
   exact⟨v,d,rfl,ho.rep S.fh,hc,k _ F H (Same.refl _) S (.str _)⟩
  ·cases e
 ·cases e
theorem rQ(hu:X.A.units+1100<cLine)(hg:X.A.guards=some []):CallR X (.builtin "repr") (E6 X.K):=by
 intro pins s Z H xs us Q I r h0
 obtain⟨v,d,rfl,rp,hc,q⟩:=h0
 obtain⟨u,rfl,ru⟩:=Vals.one r
 simp only[nQ,am,zzi]at hc
 obtain⟨as,ra⟩:=(bR I).1 rp hc.1.1.2 ru
 have big:∀a,v=.ref a->wpAny (model X.prog X.w) X.A (call (.builtin "repr") [u]) (EP X pins Z Q) X.xe s:=λa e=>by
  subst e
  cases ru
  exact repr_of_reads' ra hc.1.1.1 (PyData.noDict_hsm (PyData.hasDict_of_canLay d hc.1.1.2)) hg (by lia) (λ_ _ e=>e) (λh' u tk hk=>⟨.str _,H,I.kept hk,⟨_,rfl⟩,q⟩) hc.2
 cases rp with
 | non=>cases ru;exact PySem.P.repr_of_none ⟨.str _,H,I.tok _,⟨_,rfl⟩,q⟩
 | bl b=>cases ru;exact PySem.P.repr_of_bool ⟨.str _,H,I.tok _,⟨_,rfl⟩,q⟩
 | int i=>obtain⟨t,rfl⟩:=ru;exact PySem.P.repr_of_int (by simpa[PyData.showable]using hc.1.1.1) ⟨.str _,H,I.tok _,⟨_,rfl⟩,q⟩
 | str x=>obtain⟨t,rfl⟩:=ru;exact PySem.P.repr_of_str ⟨.str _,H,I.tok _,⟨_,rfl⟩,q⟩ hc.2
 | tup h1 h2=>exact big _ rfl
 | lst h1 h2=>exact big _ rfl
 | dct h1 h2 h3=>exact big _ rfl
 | dck h1 h2 h3=>exact big _ rfl
 | exc _ _ _ _ _=>exact big _ rfl
 | fn _=>exact big _ rfl
def tyD:D->String
 | .none => "NoneType"
 | .bool _ => "bool"
 | .int _ => "int"
 | .str _ => "str"
 | .list _ => "list"
 | .tuple _ => "tuple"
 | .dict es=>if o7 es then "" else "dict"
def isS(T S:String):Bool:=S==T||(S == "bool" && T == "int")
def isT(T:String)(d:D):Bool:=isS T (tyD d)
def intsOf:List D->Option (List Int)
 | []=>some []
 | .int i::r=>match intsOf r with
  | some l=>some (i::l)
  | none=>none
 | _=>none
theorem fG:∀{ds:List D} {ns:List Int},intsOf ds=some ns->ds=ns.map PyData.int
 | [],ns,h=>by cases h;rfl
 | .int i::r,ns,h=>by
  dsimp only[intsOf]at h
  split at h
  ·rename_i l e;cases h;rw[fG e];rfl
  ·cases h
 | .none::_,_,h=>by cases h
 | .bool _::_,_,h=>by cases h
 | .str _::_,_,h=>by cases h
 | .list _::_,_,h=>by cases h
 | .tuple _::_,_,h=>by cases h
 | .dict _::_,_,h=>by cases h
theorem pf(ns:List Int):intsOf (ns.map PyData.int)=some ns:=by
 induction ns with
 | nil=>rfl
 | cons n r ih=>simp[intsOf,ih]
theorem gE{K:Fg}{F:Hp}:∀{vs:List V} {ns:List Int},RepL K F vs (ns.map PyData.int)->vs=ns.map V.int
 | _,[],h=>by cases h;rfl
 | _,n::r,h=>by
  cases h with
  | cons a b=>cases a;rw[gE b];rfl
def Jv(S T:String):Option Bool:=if(Value.type S==Value.type T)=true then some true else if PySem.W.kitMeta T=true then(fastBuiltinMro S).map (·.contains (.type T))else none
theorem D5(K:Fg)(S T:String):PySem.W.kitOne K (.type S) (.type T)=Jv S T:=rfl
theorem D4:∀S∈["NoneType", "bool", "int", "str", "list", "tuple", "dict"],∀T∈["bool", "int", "str", "list", "tuple", "dict"],Jv S T=some (isS T S):=by decide +kernel
theorem GY(K:Fg)(h:qi T=true)(d:D)(hx:∀es,d=.dict es->o7 es=false):PySem.W.kitOne K (.type (tyD d)) (.type T)=some (isT T d):=by
 simp only[qi,gt,um]at h
 rw[D5]
 refine D4 (tyD d) ?_ T (by rcases h with ((((rfl|rfl)|rfl)|rfl)|rfl)|rfl<;>simp)
 cases d with
 | dict es=>simp[tyD,hx es rfl]
 | _=>simp[tyD]
theorem tx{kvs:List (List Key×V)}{es:List (D×D)}(h:es.map (·.1)=kvs.map (λp=>qx p.1)):o7 es=false:=by
 cases es with
 | nil=>rfl
 | cons e r =>
  cases kvs with
  | nil=>cases h
  | cons k ks =>
   obtain⟨e1,e2⟩:=e
   simp only[ba,List.cons.injEq]at h
   rw[h.1]
   rfl
theorem tB{kvs:List (Key×V)}{es:List (D×D)}(h:es.map (·.1)=kvs.map (λp=>keyD p.1)):o7 es=false:=by
 cases es with
 | nil=>rfl
 | cons e r =>
  cases kvs with
  | nil=>cases h
  | cons k ks =>
   obtain⟨e1,e2⟩:=e
   obtain⟨k1,k2⟩:=k
   simp only[ba,List.cons.injEq]at h
   rw[h.1]
   cases k1<;>rfl
theorem C8(h:qi T=true):isS T "" = false:=by
 simp only[qi,gt,um]at h
 rcases h with ((((rfl|rfl)|rfl)|rfl)|rfl)|rfl<;>rfl
theorem w6(hT:qi T=true){pins:zzk}{s:Shared}{d:D}{u:Value}{Q:zzj}{E:zzj}(I:Inv X pins Z H s)(rp:Rep X.K H v d)(nf:isFn d=false)(ru:RelV v u)
  (h:∀tk,Q (.bool (isT T d)) { s with toks:=tk }):wpAny (model X.prog X.w) X.A (call (.builtin "isinstance") [u,.type T]) Q E s:=by
 have ee:=GY X.K hT d
 cases rp with
 | non =>
  have e:=ee λ_ z=>by cases z
  cases ru;exact tt PySem.W.kitx_none I.kIn True.intro e (λz=>nomatch z) h
 | bl y =>
  have e:=ee λ_ z=>by cases z
  cases ru;exact tt PySem.W.kitx_bool I.kIn True.intro e (λz=>nomatch z) h
 | int i =>
  have e:=ee λ_ z=>by cases z
  obtain⟨t,rfl⟩:=ru;exact tt PySem.W.kitx_int I.kIn True.intro e (λz=>nomatch z) h
 | str y =>
  have e:=ee λ_ z=>by cases z
  obtain⟨t,rfl⟩:=ru;exact tt PySem.W.kitx_str I.kIn True.intro e (λz=>nomatch z) h
 | lst h1 h2 =>
  have e:=ee λ_ z=>by cases z
  cases ru
  obtain⟨its,_,⟨o,n,e1,e2,_⟩,_⟩:=I.list h1
  exact tt PySem.W.kitx_list I.kIn ⟨o,e1,e2⟩ e (λz=>nomatch z) h
 | tup h1 h2 =>
  have e:=ee λ_ z=>by cases z
  cases ru
  obtain⟨its,_,⟨o,e1,e2,_⟩,_⟩:=I.tuple (SqT.of h1)
  exact tt PySem.W.kitx_tuple I.kIn ⟨o,e1,e2⟩ e (λz=>nomatch z) h
 | dct h1 h2 h3 =>
  have e:=ee λ_ z=>by cases z;exact tx h2
  rw[show tyD (.dict _) = "dict" from by simp[tyD,tx h2]]at e
  cases ru
  obtain⟨z,y,xs,kt,o,es,ep,g1,g2,_⟩:=FD I.hok h1
  exact tt PySem.W.kitx_dict I.kIn ⟨o,g1,g2.1⟩ e (λz=>nomatch z) h
 | dck h1 h2 h3 =>
  have e:=ee λ_ z=>by cases z;exact tB h2
  rw[show tyD (.dict _) = "dict" from by simp[tyD,tB h2]]at e
  cases ru
  obtain⟨z,y,xs,kt,o,es,ep,g1,g2,_⟩:=Cg I.hok h1
  exact tt PySem.W.kitx_dict I.kIn ⟨o,g1,g2.1⟩ e (λz=>nomatch z) h
 | exc h1 q fx h2 h3 =>
  cases ru
  obtain⟨D,fI,xc⟩:=q.xc
  have at_:XAt H _ _ _:=⟨h1,λdx z=>by
   rcases fx with ⟨z',_⟩|⟨dx',z',y⟩
   ·rw[z']at z;cases z
   ·rw[z']at z;cases z;exact⟨_,y⟩⟩
  refine oZ I xc q.kc at_ (q.no T hT) ?_
  rw[show isT T (.dict ((.none,.str _)::_))=false from C8 hT]at h
  exact h
 | fn _=>cases nf
section
variable {ρ':En}
theorem _root_.L3.StOk.weak(S:StOk K G F Z H ρ)(hl:ρ'.length=ρ.length)(h:∀(i:Nat) (av:AV),ρ'[i]? = some (some av)->ρ[i]? = some (some av))(hp:∀(i:Nat) (c:OC),ρ[i]? = some (some (AV.op c))->ρ'[i]? = some (some (AV.op c))):StOk K G F Z H ρ':=by
 have ow':∀j c,own ρ' j c->own ρ j c:=λj c q=>q.imp (h _ _) (h _ _)
 refine⟨S.fh,S.oh,S.fo,S.ln.trans hl.symm,λj d q=>S.fz j d (h _ _ q),λj c q=>S.ow j c (ow' j c q),λj k c e a h1 h2=>S.dj j k c e a (ow' j c h1) (ow' k e h2),λj a q=>?_,λj c q=>S.pq j c (h _ _ q),S.fb⟩
 obtain⟨q1,c,q2⟩:=S.pp j a q
 exact⟨q1,c,hp _ _ q2⟩
theorem gJ{k:Nat}{av:AV}(h:(ρ++List.replicate k none)[i]? = some (some av)):ρ[i]? = some (some av):=by
 by_cases hi:i<ρ.length
 ·rw[eT hi]at h;exact h
 ·rw[LO (Nat.not_lt.mp hi),L8]at h
  split at h<;>cases h
theorem _root_.L3.StOk.grow(S:StOk K G F Z H ρ)(k:Nat):StOk K G F (Z++List.replicate k none) H (ρ++List.replicate k none):=by
 have ap:∀{i:Nat} {v:V},Z[i]? = some (some v)->(Z++List.replicate k none)[i]? = some (some v):=λ{i v} e=>by
  rw[eT (List.getElem?_eq_some_iff.mp e).1];exact e
 have apr:∀{i:Nat} {v:AV},ρ[i]? = some (some v)->(ρ++List.replicate k none)[i]? = some (some v):=λ{i v} e=>by
  rw[eT (List.getElem?_eq_some_iff.mp e).1];exact e
 have ow':∀i c,own (ρ++List.replicate k none) i c->own ρ i c:=λi c h=>by
  rcases h with h|h
  ·exact .inl (gJ h)
  ·exact .inr (gJ h)
 refine⟨S.fh,S.oh,S.fo,by simp[S.ln],λi d h=>?_,λi c h=>?_,λi j c e a h1 h2 e1 e2=>?_,λi a h=>?_,λi c h=>S.pq i c (gJ h),S.fb⟩
 ·obtain⟨v,e,r⟩:=S.fz i d (gJ h);exact⟨v,ap e,r⟩
 ·obtain⟨a,e,oa⟩:=S.ow i c (ow' i c h);exact⟨a,ap e,oa⟩
 ·have o1:=ow' i c h1
  have o2:=ow' j e h2
  obtain⟨a1,q1,_⟩:=S.ow i c o1
  obtain⟨a2,q2,_⟩:=S.ow j e o2
  rw[ap q1]at e1;rw[ap q2]at e2
  injection e1 with e1;injection e2 with e2
  exact S.dj i j c e a o1 o2 (by rw[q1,e1]) (by rw[q2,e2])
 ·obtain⟨e,c,q⟩:=S.pp i a h;exact⟨ap e,c,apr q⟩
theorem _root_.L3.StOk.shrink(S:StOk K G F Z H ρ)(hn:n<=ρ.length)(hp:∀i a,G.P i=some a->i<n):StOk K G F (Z.take n) H (ρ.take n):=by
 have tk:∀{i:Nat} {v:AV},(ρ.take n)[i]? = some (some v)->i<n/\ρ[i]? = some (some v):=λ{i v} e=>by
  have hi:i<n:=by
   have:=(List.getElem?_eq_some_iff.mp e).1
   rw[ls]at this;lia
  rw[gi hi]at e
  exact⟨hi,e⟩
 have ow':∀i c,own (ρ.take n) i c->i<n/\own ρ i c:=λi c h=>by
  rcases h with h|h
  ·exact⟨(tk h).1,.inl (tk h).2⟩
  ·exact⟨(tk h).1,.inr (tk h).2⟩
 refine⟨S.fh,S.oh,S.fo,by simp[S.ln],λi d h=>?_,λi c h=>?_,λi j c e a h1 h2 e1 e2=>?_,λi a h=>?_,λi c h=>S.pq i c (tk h).2,S.fb⟩
 ·obtain⟨v,e,r⟩:=S.fz i d (tk h).2;exact⟨v,by rw[gi (tk h).1];exact e,r⟩
 ·obtain⟨a,e,oa⟩:=S.ow i c (ow' i c h).2;exact⟨a,by rw[gi (ow' i c h).1];exact e,oa⟩
 ·rw[gi (ow' i c h1).1]at e1
  rw[gi (ow' j e h2).1]at e2
  exact S.dj i j c e a (ow' i c h1).2 (ow' j e h2).2 e1 e2
 ·obtain⟨e,c,q⟩:=S.pp i a h
  exact⟨by rw[gi (hp i a h)];exact e,c,by rw[gi (hp i a h)];exact q⟩
end
theorem nI{l l':List α}(h:∀j,j<n->l'[j]? = l[j]?)(hl:l.length=n):l'.take n=l:=by
 apply List.ext_getElem?
 intro i
 by_cases hi:i<n
 ·rw[gi hi,h i hi]
 ·rw[List.getElem?_eq_none_iff.mpr (by rw[ls];lia),List.getElem?_eq_none_iff.mpr (by lia)]
inductive Kd where
 | dead|f|o|p|t|k
 | i (x:Str) (ns:List Str)|j (x:Str) (ns:List Str)
@[reducible] def SOf:List Kd->Type
 | []=>Unit
 | .dead::r=>SOf r
 | .f::r=>D×SOf r
 | .o::r=>List D×SOf r
 | .p::r=>List D×SOf r
 | .t::r=>List (D×D)×SOf r
 | .k::r=>List (D×D)×SOf r
 | .i _ _::r=>List D×SOf r
 | .j _ _::r=>List D×SOf r
def rd:(sh:List Kd)->En->Option (SOf sh)
 | [],[]=>some ()
 | .dead::r,x::ρ=>match x with
  | some (.op _)=>none
  | _=>rd r ρ
 | .f::r,x::ρ=>match x with
  | some (.fz d)=>match rd r ρ with
   | some s=>some (d,s)
   | none=>none
  | _=>none
 | .o::r,x::ρ=>match x with
  | some (.ol (.l ds))=>match rd r ρ with
   | some s=>some (ds,s)
   | none=>none
  | _=>none
 | .p::r,x::ρ=>match x with
  | some (.op (.l ds))=>match rd r ρ with
   | some s=>some (ds,s)
   | none=>none
  | _=>none
 | .t::r,x::ρ=>match x with
  | some (.ol (.t ds))=>match rd r ρ with
   | some s=>some (ds,s)
   | none=>none
  | _=>none
 | .k::r,x::ρ=>match x with
  | some (.ol (.k ds))=>match rd r ρ with
   | some s=>some (ds,s)
   | none=>none
  | _=>none
 | .i y ns::r,x::ρ=>match x with
  | some (.ol (.i z ms ds))=>if z=y/\ms=ns then(match rd r ρ with
   | some s=>some (ds,s)
   | none=>none)else none
  | _=>none
 | .j y ns::r,x::ρ=>match x with
  | some (.op (.i z ms ds))=>if z=y/\ms=ns then(match rd r ρ with
   | some s=>some (ds,s)
   | none=>none)else none
  | _=>none
 | _,_=>none
def wr:(sh:List Kd)->SOf sh->En
 | [],_=>[]
 | .dead::r,s=>none::wr r s
 | .f::r,s=>some (.fz s.1)::wr r s.2
 | .o::r,s=>some (.ol (.l s.1))::wr r s.2
 | .p::r,s=>some (.op (.l s.1))::wr r s.2
 | .t::r,s=>some (.ol (.t s.1))::wr r s.2
 | .k::r,s=>some (.ol (.k s.1))::wr r s.2
 | .i y ns::r,s=>some (.ol (.i y ns s.1))::wr r s.2
 | .j y ns::r,s=>some (.op (.i y ns s.1))::wr r s.2
def Wk(w ρ:En):Prop:=w.length=ρ.length/\(∀(i:Nat) (av:AV),w[i]? = some (some av)->ρ[i]? = some (some av))/\(∀(i:Nat) (c:OC),ρ[i]? = some (some (AV.op c))->w[i]? = some (some (AV.op c)))
theorem gM{w:En}{x:Option AV}(h:Wk w ρ):Wk (x::w) (x::ρ):=by
 refine⟨congrArg (· + 1) h.1,λi av q=>?_,λi c q=>?_⟩
 ·cases i with
  | zero=>exact q
  | succ i=>exact h.2.1 i av q
 ·cases i with
  | zero=>exact q
  | succ i=>exact h.2.2 i c q
theorem C7{w:En}{x:Option AV}(hx:∀c,x≠some (AV.op c))(h:Wk w ρ):Wk (none::w) (x::ρ):=by
 refine⟨congrArg (· + 1) h.1,λi av q=>?_,λi c q=>?_⟩
 ·cases i with
  | zero=>cases q
  | succ i=>exact h.2.1 i av q
 ·cases i with
  | zero=>exact absurd (Option.some.inj q) (hx c)
  | succ i=>exact h.2.2 i c q
theorem iK:∀(sh:List Kd) (ρ:En) (s:SOf sh),rd sh ρ=some s->Wk (wr sh s) ρ
 | [],[],s,h=>⟨rfl,λi av q=>q,λi c q=>q⟩
 | [],_::_,s,h=>by cases h
 | a::r,[],s,h=>by cases a<;>cases h
 | .dead::r,x::ρ,s,h=>by
  dsimp only[rd]at h
  split at h
  ·cases h
  ·rename_i hx
   exact C7 hx (iK r ρ s h)
 | .f::r,x::ρ,s,h=>by
  dsimp only[rd]at h
  split at h
  ·split at h
   ·rename_i s' e
    cases h
    exact gM (iK r ρ s' e)
   ·cases h
  ·cases h
 | .o::r,x::ρ,s,h=>by
  dsimp only[rd]at h
  split at h
  ·split at h
   ·rename_i s' e
    cases h
    exact gM (iK r ρ s' e)
   ·cases h
  ·cases h
 | .p::r,x::ρ,s,h=>by
  dsimp only[rd]at h
  split at h
  ·split at h
   ·rename_i s' e
    cases h
    exact gM (iK r ρ s' e)
   ·cases h
  ·cases h
 | .t::r,x::ρ,s,h=>by
  dsimp only[rd]at h
  split at h
  ·split at h
   ·rename_i s' e
    cases h
    exact gM (iK r ρ s' e)
   ·cases h
  ·cases h
 | .k::r,x::ρ,s,h=>by
  dsimp only[rd]at h
  split at h
  ·split at h
   ·rename_i s' e
    cases h
    exact gM (iK r ρ s' e)
   ·cases h
  ·cases h
 | .i y ns::r,x::ρ,s,h=>by
  dsimp only[rd]at h
  split at h
  ·split at h
   ·rename_i hc
    split at h
    ·rename_i s' e
     cases h
     obtain⟨rfl,rfl⟩:=hc
     exact gM (iK r ρ s' e)
    ·cases h
   ·cases h
  ·cases h
 | .j y ns::r,x::ρ,s,h=>by
  dsimp only[rd]at h
  split at h
  ·split at h
   ·rename_i hc
    split at h
    ·rename_i s' e
     cases h
     obtain⟨rfl,rfl⟩:=hc
     exact gM (iK r ρ s' e)
    ·cases h
   ·cases h
  ·cases h
theorem _root_.L3.StOk.rd{sh:List Kd}{s:SOf sh}(S:StOk K G F Z H ρ)(h:L4.rd sh ρ=some s):StOk K G F Z H (wr sh s):=by
 obtain⟨h1,h2,h3⟩:=iK sh ρ s h
 exact S.weak h1 h2 h3
def rdk{S:Type}(sh:List Kd)(k:SOf sh->M S)(ρ:En):M S:=match rd sh ρ with
 | some s=>k s
 | none=>.bad
abbrev Ev(S α:Type):=(Ex->En->M S)->(α->En->M S)->En->M S
structure KS(S:Type) where
 nx:En->M S
 rt:D->En->M S
 rl:OC->En->M S
 bk:En->M S
 ct:En->M S
 x:Ex->En->M S
def KOk{S:Type}(OK:M S->Prop):Prop:=¬ OK .bad
def XL{S:Type}(X:Cx)(OK:M S->Prop)(x:Ex->En->M S)(G:Gh):Prop:=∀F ρ e,OK (x e ρ)->XW X G F ρ e
def AE{S:Type}(X:Cx)(e:Expr)(m:Ev S D):Prop :=
 ∀(OK:M S->Prop) (x:Ex->En->M S) (k:D->En->M S) (G:Gh) (F:Hp) (Z:L2.St) (H:Hp) (ρ:En) (Q:VK),KOk OK->XL X OK x G->StOk X.K G F Z H ρ->OK (m x k ρ) ->
  (∀d v F' H' ρ',Same F F'->StOk X.K G F' Z H' ρ'->Rep X.K F' v d->OK (k d ρ')->Q v H')->eA X e Z H Q
def AEt{S:Type}(X:Cx)(e:Expr)(m:Ev S Bool):Prop :=
 ∀(OK:M S->Prop) (x:Ex->En->M S) (k:Bool->En->M S) (G:Gh) (F:Hp) (Z:L2.St) (H:Hp) (ρ:En) (Q:Bool->Hp->Prop),KOk OK->XL X OK x G->StOk X.K G F Z H ρ->OK (m x k ρ) ->
  (∀d F' H' ρ',Same F F'->StOk X.K G F' Z H' ρ'->OK (k d ρ')->Q d H')->qG X e Z H Q
def AEb{S:Type}(X:Cx)(e:Expr)(m:Ev S Bool):Prop :=
 ∀(OK:M S->Prop) (x:Ex->En->M S) (k:Bool->En->M S) (G:Gh) (F:Hp) (Z:L2.St) (H:Hp) (ρ:En) (Q:VK),KOk OK->XL X OK x G->StOk X.K G F Z H ρ->OK (m x k ρ) ->
  (∀d F' H' ρ',Same F F'->StOk X.K G F' Z H' ρ'->OK (k d ρ')->Q (.bl d) H')->eA X e Z H Q
def AEa{S:Type}(X:Cx)(es:List Expr)(m:Ev S (List D)):Prop :=
 ∀(OK:M S->Prop) (x:Ex->En->M S) (k:List D->En->M S) (G:Gh) (F:Hp) (Z:L2.St) (H:Hp) (ρ:En) (Q:List V->Hp->Prop),KOk OK->XL X OK x G->StOk X.K G F Z H ρ->OK (m x k ρ) ->
  (∀ds vs F' H' ρ',Same F F'->StOk X.K G F' Z H' ρ'->vs.length=es.length->RepL X.K F' vs ds->OK (k ds ρ')->Q vs H')->eL X es Z H Q
def AEl{S:Type}(X:Cx)(e:Expr)(m:Ev S (List D)):Prop :=
 ∀(OK:M S->Prop) (x:Ex->En->M S) (k:List D->En->M S) (G:Gh) (F:Hp) (Z:L2.St) (H:Hp) (ρ:En) (Q:VK),KOk OK->XL X OK x G->StOk X.K G F Z H ρ->OK (m x k ρ) ->
  (∀ds v F' H' ρ',Same F F'->StOk X.K G F' Z H' ρ'->Frs X.K G F' Z H' ρ' v (.l ds)->OK (k ds ρ')->Q v H')->eA X e Z H Q
def ePu{S α:Type}(p:Pu α):Ev S α:=λx k ρ=>(p ρ).on (λe=>x e ρ) (λa=>k a ρ)
section
variable {OK:M S->Prop} {x:Ex->En->M S} {k:α->En->M S} {p:Pu α} {C:α->Hp->Hp->Prop}
theorem W.of(hO:KOk OK)(hX:XL X OK x G)(h:OK (ePu p x k ρ))(w:∀a F' H',Same F F'->StOk X.K G F' Z H' ρ->OK (k a ρ)->C a F' H'):W X G F Z ρ (p ρ) C:=by
 unfold ePu at h
 cases hp:p ρ with
 | ret a=>rw[hp]at h;exact λF' H' s S'=>w a F' H' s S' h
 | exc e=>rw[hp]at h;exact hX F ρ e h
 | bad=>rw[hp]at h;exact hO h
end
section
variable {a c:Expr} {rest:List Expr} {p:Pu D} {pt:Pu Bool} {ps:Pu (List D)}
theorem aq(h:AP X e p):AE (S:=S) X e (ePu p):=λOK x k G F Z H ρ Q hO hX St ok kk=>h G F Z H ρ Q St (W.of hO hX ok λd F' H' s S' o v r=>kk d v F' H' ρ s S' r o)
theorem bm(h:AT X e pt):AEt (S:=S) X e (ePu pt):=λOK x k G F Z H ρ Q hO hX St ok kk=>h G F Z H ρ Q St (W.of hO hX ok λd F' H' s S' o=>kk d F' H' ρ s S' o)
theorem xM(h:AL X e ps):AEl (S:=S) X e (ePu ps):=λOK x k G F Z H ρ Q hO hX St ok kk=>h G F Z H ρ Q St (W.of hO hX ok λd F' H' s S' o v r=>kk d v F' H' ρ s S' r o)
def eZ(m:Ev S (List D)):Ev S D:=λx k ρ=>m x (λds ρ1=>k (.list ds) ρ1) ρ
def K8(m:Ev S D):Ev S Bool:=λx k ρ=>m x (λd ρ1=>(asB d).on (λe=>x e ρ1) (λb=>k b ρ1)) ρ
def Hm(f:D->D->Option D)(a b:Ev S D):Ev S D:=λx k ρ=>a x (λd ρ1=>b x (λd2 ρ2=>(oM (f d d2)).on (λe=>x e ρ2) (λr=>k r ρ2)) ρ1) ρ
def JL(f:D->D->Option Bool)(a b:Ev S D):Ev S Bool:=λx k ρ=>a x (λd ρ1=>b x (λd2 ρ2=>(oM (f d d2)).on (λe=>x e ρ2) (λr=>k r ρ2)) ρ1) ρ
def K4:Ev S (List D):=λ_ k ρ=>k [] ρ
def JJ(m:Ev S D)(ms:Ev S (List D)):Ev S (List D):=λx k ρ=>m x (λd ρ1=>ms x (λds ρ2=>k (d::ds) ρ2) ρ1) ρ
def K2(ms:Ev S (List D)):Ev S D:=λx k ρ=>ms x (λds ρ1=>k (.tuple ds) ρ1) ρ
def K5(ms:Ev S (List D)):Ev S (List D):=λx k ρ=>ms x (λds ρ1=>k ds ρ1) ρ
def JK(f:List D->Option D)(ms:Ev S (List D)):Ev S D:=λx k ρ=>ms x (λds ρ1=>(oM (f ds)).on (λe=>x e ρ1) (λr=>k r ρ1)) ρ
def K3(a:Ev S Bool):Ev S Bool:=λx k ρ=>a x (λt ρ1=>k (!t) ρ1) ρ
def eIf{α:Type}(c:Ev S Bool)(a b:Ev S α):Ev S α:=λx k ρ=>c x (λt ρ1=>if t then a x k ρ1 else b x k ρ1) ρ
theorem iP{OK:M S->Prop}(hO:KOk OK){o:Option α}{x:Ex->M S}{k:α->M S}(h:OK ((oM o).on x k)):∃a,o=some a/\OK (k a):=by
 cases o with
 | none=>exact(hO h).elim
 | some a=>exact⟨a,rfl,h⟩
theorem Hi{OK:M S->Prop}(hO:KOk OK){ds:List α}{x:Ex->M S}{k:List α->M S}(h:OK ((eO ds).on x k)):ds.length<=sizeLine/\OK (k ds):=by
 unfold eO at h
 split at h
 ·exact⟨by assumption,h⟩
 ·exact(hO h).elim
variable {ma mb m:Ev S D} {ta tb tc:Ev S Bool} {ms:Ev S (List D)}
theorem HF(h:AEl X e ms):AE X e (eZ ms):=λOK x k G F Z H ρ Q hO hX St ok kk=>h OK x _ G F Z H ρ Q hO hX St ok λds v F' H' ρ' s S' fr o=>by
 obtain⟨F2,s2,S2,r2⟩:=S'.settle (v:=v) (ds:=ds) fr
 exact kk _ v F2 H' ρ' (s.trans s2) S2 r2 o
theorem CP(h:AE X e m):AEb X e (K8 m):=λOK x k G F Z H ρ Q hO hX St ok kk=>h OK x _ G F Z H ρ Q hO hX St ok λd v F' H' ρ' s S' r o=>by
 cases r with
 | bl b=>exact kk b F' H' ρ' s S' o
 | non=>exact(hO o).elim
 | int i=>exact(hO o).elim
 | str i=>exact(hO o).elim
 | tup _ _=>exact(hO o).elim
 | lst _ _=>exact(hO o).elim
 | dct _ _ _=>exact(hO o).elim
 | dck _ _ _=>exact(hO o).elim
 | exc _ _ _ _ _=>exact(hO o).elim
 | fn _=>exact(hO o).elim
theorem tM{OK:M S->Prop}{x:Ex->En->M S}{f:D->D->En->M S}(ha:AE X a ma)(hb:AE X b mb)(hO:KOk OK)(hX:XL X OK x G)(St:StOk X.K G F Z H ρ)
  (ok:OK (ma x (λd ρ1=>mb x (λd2 ρ2=>f d d2 ρ2) ρ1) ρ)) (k:∀u v dx dy F' H' ρ',Same F F'->StOk X.K G F' Z H' ρ'->Rep X.K F' u dx->Rep X.K F' v dy->OK (f dx dy ρ')->r u v H' Q):tOp r (eA X a) (eA X b) Z H Q :=
 ha OK x _ G F Z H ρ _ hO hX St ok λd v F1 H1 ρ1 s1 S1 r1 o1=>hb OK x _ G F1 Z H1 ρ1 _ hO hX S1 o1 λd2 u F2 H2 ρ2 s2 S2 r2 o2=>k v u d d2 F2 H2 ρ2 (s1.trans s2) S2 (r1.mono s2) r2 o2
theorem eY{op:Operator}{f:D->D->Option D}(ho:OpR X (binaryOp op) r)(hf:OpD X.K r f)(ha:AE X a ma)(hb:AE X b mb):AE X (.BinOp a op b pos) (Hm f ma mb) :=
 λOK x k G F Z H ρ Q hO hX St ok kk=>sem (Fc ho aI aI) (tM ha hb hO hX St ok λu v dx dy F' H' ρ' s S' r1 r2 o=>by
  obtain⟨res,e,o'⟩:=iP hO o
  exact hf G F' Z H' ρ' u v dx dy res Q S' (.inl r1) (.inl r2) e λw F2 H2 s2 S2 r3=>kk res w F2 H2 ρ' (s.trans s2) S2 r3 o')
theorem JS{f:D->D->Option D}(hr:IxR X r)(hf:OpD X.K r f)(ha:AE X a ma)(hb:AE X b mb)(hs:t0 b:=by exact λ_ _=>rfl):AE X (.Subscript a b pos) (Hm f ma mb) :=
 λOK x k G F Z H ρ Q hO hX St ok kk=>sem (Fe hr aI aI hs) (tM ha hb hO hX St ok λu v dx dy F' H' ρ' s S' r1 r2 o=>by
  obtain⟨res,e,o'⟩:=iP hO o
  exact hf G F' Z H' ρ' u v dx dy res Q S' (.inl r1) (.inl r2) e λw F2 H2 s2 S2 r3=>kk res w F2 H2 ρ' (s.trans s2) S2 r3 o')
theorem tZ{f:D->D->Option Bool}(ho:OpR X (compareOp op) r)(hf:OpB X.K r f)(ha:AE X a ma)(hb:AE X b mb)(hm:behindInMarks op b=false:=by rfl):AEt X (.Compare a [op] [b] pos) (JL f ma mb) :=
 λOK x k G F Z H ρ Q hO hX St ok kk=>sv (yn ho aI aI hm) (tM (Q:=λx H'=>∃k,x=.bl k/\Q k H') ha hb hO hX St ok λu v dx dy F' H' ρ' s S' r1 r2 o=>by
  obtain⟨res,e,o'⟩:=iP hO o
  exact hf G F' Z H' ρ' u v dx dy res _ S' (.inl r1) (.inl r2) e ⟨res,rfl,kk res F' H' ρ' s S' o'⟩)
theorem aF:AEa (S:=S) X [] K4:=λOK x k G F Z H ρ Q hO hX St ok kk=>uw lK (kk [] [] F H ρ (Same.refl _) St rfl .nil ok)
theorem ag(h:AE X e m)(hr:AEa X es ms)(hs:starEach (e::es) X.env=(false,eval e X.env)::starEach es X.env:=by exact cI rfl):AEa X (e::es) (JJ m ms) :=
 λOK x k G F Z H ρ Q hO hX St ok kk=>uw (eH aI cx hs) (h OK x _ G F Z H ρ _ hO hX St ok λd v F1 H1 ρ1 s1 S1 r1 o1 =>
  hr OK x _ G F1 Z H1 ρ1 _ hO hX S1 o1 λds vs F2 H2 ρ2 s2 S2 hl r2 o2=>kk (d::ds) (v::vs) F2 H2 ρ2 (s1.trans s2) S2 (by simp[hl]) (.cons (r1.mono s2) r2) o2)
theorem jh{x1}(h:AEa X es ms)(hz:es.length<=1000:=by decide +kernel):AE X (.Tuple es x1 pos) (K2 ms) :=
 λOK x k G F Z H ρ Q hO hX St ok kk=>sem (Bw cx) (h OK x _ G F Z H ρ _ hO hX St ok λds vs F1 H1 ρ1 s1 S1 hl r1 o1=>by
  refine⟨by rw[hl];exact lZ hz,λq hq=>?_⟩
  obtain⟨s2,S2,r2⟩:=S1.newTup hq r1
  exact kk _ _ _ _ ρ1 (s1.trans s2) S2 r2 o1)
theorem EM(h:AEa X es ms)(hz:es.length<=1000:=by decide +kernel):AEl X (.List es pos) (K5 ms) :=
 λOK x k G F Z H ρ Q hO hX St ok kk=>sem (Bx cx) (h OK x _ G F Z H ρ _ hO hX St ok λds vs F1 H1 ρ1 s1 S1 hl r1 o1=>by
  refine⟨by rw[hl];exact lZ hz,λq hq=>?_⟩
  obtain⟨S2,r2⟩:=S1.newLst hq r1
  exact kk _ _ _ _ ρ1 s1 S2 r2 o1)
theorem EL(ha:AEt X a ta):AEt X (.UnaryOp .Not a pos) (K3 ta) :=
 λOK x k G F Z H ρ Q hO hX St ok kk=>sv (Bl fO) (ha OK x _ G F Z H ρ _ hO hX St ok λt F1 H1 ρ1 s1 S1 o1=>kk (!t) F1 H1 ρ1 s1 S1 o1)
theorem FE(ha:AEb X a ta)(he:∀whole,isTrue a X.env whole=(do let v <-whole;standAt a.pos;holding [v] (truthy v))):AEt X a ta :=
 λOK x k G F Z H ρ Q hO hX St ok kk=>sv (nX aI he) (ha OK x _ G F Z H ρ _ hO hX St ok λt F1 H1 ρ1 s1 S1 o1=>⟨t,rfl,kk t F1 H1 ρ1 s1 S1 o1⟩)
theorem FF(hc:AEt X c tc)(ha:AE X a ma)(hb:AE X b mb):AE X (.IfExp c a b pos) (eIf tc ma mb) :=
 λOK x k G F Z H ρ Q hO hX St ok kk=>sem (uH fO aI aI) (hc OK x _ G F Z H ρ _ hO hX St ok λt F1 H1 ρ1 s1 S1 o1=>by
  cases t with
  | true=>refine vg ?_;exact ha OK x k G F1 Z H1 ρ1 Q hO hX S1 o1 λd v F2 H2 ρ2 s2 S2 r2 o2=>kk d v F2 H2 ρ2 (s1.trans s2) S2 r2 o2
  | false=>refine vh ?_;exact hb OK x k G F1 Z H1 ρ1 Q hO hX S1 o1 λd v F2 H2 ρ2 s2 S2 r2 o2=>kk d v F2 H2 ρ2 (s1.trans s2) S2 r2 o2)
end
structure Walk(K:Fg)(J:It)(ds:List D)(F:Hp):Prop where
 go:∀(i:Nat) (G:Gh) (F2:Hp) (Z:L2.St) (H2:Hp) (ρ:En),Same F F2->StOk K G F2 Z H2 ρ->i<ds.length->J.go i H2
 yld:∀(i:Nat) (G:Gh) (F2:Hp) (Z:L2.St) (H2:Hp) (ρ:En) (x:V) (H3:Hp) (d:D),Same F F2->StOk K G F2 Z H2 ρ->ds[i]? = some d->J.yld i H2 x H3->∃F3,Same F2 F3/\StOk K G F3 Z H3 ρ/\Rep K F3 x d
 stop:∀(G:Gh) (F2:Hp) (Z:L2.St) (H2:Hp) (ρ:En),Same F F2->StOk K G F2 Z H2 ρ->J.stop ds.length H2
theorem zx{ds:List D}(h:SqL K F a vs)(r:RepL K F vs ds):Walk K (Itl K a) ds F where
 go:=λi G F2 Z H2 ρ s S hi=>by
  have hi':i<vs.length:=by rw[r.length];exact hi
  exact⟨vs,vs[i],S.fh.seq (s.seq h),by simp[hi']⟩
 yld:=λi G F2 Z H2 ρ x H3 d s S hd ⟨e,q⟩=>by
  subst e
  obtain⟨v,e1,e2⟩:=r.get hd
  have:=q vs (S.fh.seq (s.seq h))
  rw[e1]at this
  cases this
  exact⟨F2,Same.refl _,S,e2.mono s⟩
 stop:=λG F2 Z H2 ρ s S=>⟨vs,S.fh.seq (s.seq h),by rw[r.length];exact ay _⟩
theorem Ay{ds:List D}(h:SqT K F a vs)(r:RepL K F vs ds):Walk K (Itt K a) ds F where
 go:=λi G F2 Z H2 ρ s S hi=>by
  have hi':i<vs.length:=by rw[r.length];exact hi
  exact⟨vs,vs[i],gA S.fh (gA s h),by simp[hi']⟩
 yld:=λi G F2 Z H2 ρ x H3 d s S hd ⟨e,q⟩=>by
  subst e
  obtain⟨v,e1,e2⟩:=r.get hd
  have:=q vs (gA S.fh (gA s h))
  rw[e1]at this
  cases this
  exact⟨F2,Same.refl _,S,e2.mono s⟩
 stop:=λG F2 Z H2 ρ s S=>⟨vs,gA S.fh (gA s h),by rw[r.length];exact ay _⟩
def gW(lo:Int)(n:Nat):List D:=(List.range n).map λ(i:Nat)=>PyData.int (lo+(i:Int))
theorem gs(lo:Int)(n:Nat):(gW lo n).length=n:=by simp[gW]
theorem nH(lo:Int)(n:Nat):Walk K (Itr lo n) (gW lo n) F where
 go:=λi G F2 Z H2 ρ s S hi=>by rw[gs]at hi;exact hi
 yld:=λi G F2 Z H2 ρ x H3 d s S hd ⟨e,q⟩=>by
  subst e q
  have e':(gW lo n)[i]? = some d:=hd
  unfold gW at e'
  rw[ug]at e'
  have hi:i<n:=by
   have:=(List.getElem?_eq_some_iff.mp hd).1
   rw[gs]at this;exact this
  rw[List.getElem?_range hi]at e'
  cases e'
  exact⟨F2,Same.refl _,S,.int _⟩
 stop:=λG F2 Z H2 ρ s S=>by rw[gs];exact ay _
@[irreducible] def h8(X:Cx)(tg iter:Expr):TI:=λZ H R=>∀(pins:zzk) (s:Shared),Inv X pins Z H s->wpAny (model X.prog X.w) X.A (eval iter X.env) (λv s1=>wpAny (model X.prog X.w) X.A (pyIter v) (PIE X pins Z tg R) X.xe s1) X.xe s
theorem n8:PI X tg e (h8 X tg e):=λpins s Z H R I h=>by unfold h8 at h;exact h pins s I
theorem Do{t:TI}(h:PI X tg e t)(q:t Z H R):h8 X tg e Z H R:=by unfold h8;exact λpins s I=>h pins s Z H R I q
def AI(X:Cx)(tg e:Expr)(p:Pu (List D)):Prop :=
 ∀(G:Gh) (F:Hp) (Z:L2.St) (H:Hp) (ρ:En) (R:It->Hp->Prop),StOk X.K G F Z H ρ->W X G F Z ρ (p ρ) (λds F' H'=>∀J,Walk X.K J ds F'->R J H')->h8 X tg e Z H R
def AEi{S:Type}(X:Cx)(tg e:Expr)(m:Ev S (List D)):Prop :=
 ∀(OK:M S->Prop) (x:Ex->En->M S) (k:List D->En->M S) (G:Gh) (F:Hp) (Z:L2.St) (H:Hp) (ρ:En) (R:It->Hp->Prop),KOk OK->XL X OK x G->StOk X.K G F Z H ρ->OK (m x k ρ) ->
  (∀ds J F' H' ρ',Same F F'->StOk X.K G F' Z H' ρ'->Walk X.K J ds F'->OK (k ds ρ')->R J H')->h8 X tg e Z H R
theorem jg{ps:Pu (List D)}(h:AI X tg e ps):AEi (S:=S) X tg e (ePu ps):=λOK x k G F Z H ρ Q hO hX St ok kk=>h G F Z H ρ Q St (W.of hO hX ok λd F' H' s S' o v r=>kk d v F' H' ρ s S' r o)
def Dm:D->Option (List D)
 | .list ds=>some ds
 | .tuple ds=>some ds
 | _=>none
def gP(i:Int):Bool:=decide (-(2^62)<=i)&&decide (i<2^62)
theorem eB{i:Int}(h:gP i=true) : -(2^62)<=i/\i<2^62:=by
 unfold gP at h
 simp only[am,zzi]at h
 exact h
def bZ:List D->Option (List D)
 | [.int j]=>if gP j then some (gW 0 j.toNat)else none
 | _=>none
def hU:List D->Option (List D)
 | [.int i,.int j]=>if gP i&&gP j then some (gW i (j - i).toNat)else none
 | _=>none
def Hl{S:Type}(f:List D->Option (List D))(ms:Ev S (List D)):Ev S (List D):=λx k ρ=>ms x (λds ρ1=>(oM (f ds)).on (λe=>x e ρ1) (λr=>k r ρ1)) ρ
section
variable {a:Expr} {pp:Pu D} {ps:Pa (List D)} {m:Ev S D} {ms:Ev S (List D)}
theorem A2{d:D}{ds:List D}(s:Same F H)(r:Rep X.K F v d)(hd:Dm d=some ds)(k:∀J,Walk X.K J ds F->R J H) :
  (∃a,v=.ref a/\(∃xs,SqL X.K H a xs)/\R (Itl X.K a) H)\/∃a,v=.ref a/\(∃xs,SqT X.K H a xs)/\R (Itt X.K a) H:=by
 cases d with
 | list xs =>
  cases hd
  obtain⟨a,vs,rfl,h1,h2⟩:=r.lst_inv
  exact .inl ⟨_,rfl,⟨_,s.seq h1⟩,k _ (zx h1 h2)⟩
 | tuple xs =>
  cases hd
  obtain⟨a,vs,rfl,h1,h2⟩:=r.tup_inv
  exact .inr ⟨_,rfl,⟨_,SqT.of (s _ _ h1)⟩,k _ (Ay (SqT.of h1) h2)⟩
 | _=>exact noS hd
theorem qS{ds out:List D}(r:RepL X.K F vs ds)(h:bZ ds=some out)(k:∀J,Walk X.K J out F->R J H):∃j,vs=[.int j] /\ -(2^62)<=j/\j<2^62/\R (Itr 0 j.toNat) H:=by
 unfold bZ at h
 split at h
 ·rename_i j
  split at h
  ·rename_i hs
   cases h
   obtain⟨v,rfl,r1⟩:=r.one_inv
   obtain rfl:=r1.int_inv
   exact⟨j,rfl,(eB hs).1,(eB hs).2,k _ (nH 0 j.toNat)⟩
  ·cases h
 ·cases h
theorem zN{ds out:List D}(r:RepL X.K F vs ds)(h:hU ds=some out)(k:∀J,Walk X.K J out F->R J H) :
  ∃i j,vs=[.int i,.int j]/\(-(2^62)<=i/\i<2^62 /\ -(2^62)<=j/\j<2^62)/\R (Itr i (j - i).toNat) H:=by
 unfold hU at h
 split at h
 ·rename_i i j
  split at h
  ·rename_i hs
   cases h
   rw[am]at hs
   obtain⟨v,u,rfl,r1,r3⟩:=r.two_inv
   obtain rfl:=r1.int_inv
   obtain rfl:=r3.int_inv
   exact⟨i,j,rfl,⟨(eB hs.1).1,(eB hs.1).2,(eB hs.2).1,(eB hs.2).2⟩,k _ (nH i (j - i).toNat)⟩
  ·cases h
 ·cases h
theorem dL(hg:Gl X "range")(hm:X.mg "range" = none)(ha:AA X [a] ps)(hs:starEach [a] X.env=[(false,eval a X.env)]):AI X tg (.Call (.Name "range" p) [a] [] pos) (wF bZ ps) :=
 λG F Z H ρ R S w=>Do (qT hg hm cx hs) (ha G F Z H ρ _ _ _ S w λds vs F1 H1 s1 S1 _ r1 w1=>by
  obtain⟨out,hd,k⟩:=w1.opt
  exact qS r1 hd (k F1 H1 (Same.refl _) S1))
theorem Au(hg:Gl X "range")(hm:X.mg "range" = none)(ha:AA X [a,b] ps)(hs:starEach [a,b] X.env=[(false,eval a X.env),(false,eval b X.env)])(hs2:starEach [b] X.env=[(false,eval b X.env)]):AI X tg (.Call (.Name "range" p) [a,b] [] pos) (wF hU ps) :=
 λG F Z H ρ R S w=>Do (zR hg hm cx hs hs2) (ha G F Z H ρ _ _ _ S w λds vs F1 H1 s1 S1 _ r1 w1=>by
  obtain⟨out,hd,k⟩:=w1.opt
  exact zN r1 hd (k F1 H1 (Same.refl _) S1))
theorem xN(hg:Gl X "range")(hm:X.mg "range" = none)(ha:AEa X [a] ms)(hs:starEach [a] X.env=[(false,eval a X.env)]):AEi X tg (.Call (.Name "range" p) [a] [] pos) (Hl bZ ms) :=
 λOK x k G F Z H ρ R hO hX St ok kk=>Do (qT hg hm cx hs) (ha OK x _ G F Z H ρ _ hO hX St ok λds vs F1 H1 ρ1 s1 S1 _ r1 o1=>by
  obtain⟨out,hd,o⟩:=iP hO o1
  exact qS r1 hd λJ wk=>kk out J F1 H1 ρ1 s1 S1 wk o)
end
abbrev Tg(S:Type):=D->(En->M S)->En->M S
def jC(ρ:En)(i:Nat):Bool:=decide (i<ρ.length)&&(match ρ[i]? with
 | some (some (.op _))=>false
 | _=>true)
theorem eN(h:jC ρ i=true):i<ρ.length/\∀c,ρ[i]? ≠ some (some (.op c)):=by
 unfold jC at h
 rw[am]at h
 refine⟨by simpa using h.1,λc e=>?_⟩
 rw[e]at h
 exact absurd h.2 (by simp)
@[irreducible] def qH(X:Cx)(tg:Expr):TG:=λv Z H Q=>∀(pins:zzk) (s:Shared) (u:Value),Inv X pins Z H s->RelV v u->wpAny (model X.prog X.w) X.A (assign tg X.env u) (λ_ s'=>∃σ' H',Inv X pins σ' H' s'/\Q σ' H') X.xe s
@[irreducible] def nJ(X:Cx)(tgs:List Expr):TGs:=λvs Z H Q=>∀(pins:zzk) (s:Shared) (us:List Value),Inv X pins Z H s->Vals vs us->wpAny (model X.prog X.w) X.A (assignInOrder ((assignEach tgs X.env).map (·.2)) us) (λ_ s'=>∃σ' H',Inv X pins σ' H' s'/\Q σ' H') X.xe s
theorem jU:PG X tg (qH X tg):=λpins s Z H v u Q I r h=>by unfold qH at h;exact h pins s u I r
theorem yv{tgs:List Expr}:PGs X tgs (nJ X tgs):=λpins s Z H vs us Q I r h=>by unfold nJ at h;exact h pins s us I r
theorem Ih{t:TG}{Q:L2.St->Hp->Prop}(h:PG X tg t)(q:t v Z H Q):qH X tg v Z H Q:=by unfold qH;exact λpins s u I r=>h pins s Z H v u Q I r q
theorem EZ{tgs:List Expr}{t:TGs}{Q:L2.St->Hp->Prop}(h:PGs X tgs t)(q:t vs Z H Q):nJ X tgs vs Z H Q:=by unfold nJ;exact λpins s us I r=>h pins s Z H vs us Q I r q
def AG{S:Type}(X:Cx)(n:Nat)(tg:Expr)(st:Tg S):Prop :=
 ∀(OK:M S->Prop) (k:En->M S) (G:Gh) (F:Hp) (Z:L2.St) (H:Hp) (ρ:En) (v:V) (d:D) (Q:L2.St->Hp->Prop),KOk OK->StOk X.K G F Z H ρ->Rep X.K F v d->OK (st d k ρ) ->
  (∀σ' ρ',StOk X.K G F σ' H ρ'->(∀j,j<n->σ'[j]? = Z[j]? /\ ρ'[j]? = ρ[j]?)->σ'.length=Z.length->ρ'.length=ρ.length->OK (k ρ')->Q σ' H)->qH X tg v Z H Q
def AGs{S:Type}(X:Cx)(n:Nat)(tgs:List Expr)(st:List D->(En->M S)->En->M S):Prop :=
 ∀(OK:M S->Prop) (k:En->M S) (G:Gh) (F:Hp) (Z:L2.St) (H:Hp) (ρ:En) (vs:List V) (ds:List D) (Q:L2.St->Hp->Prop),KOk OK->StOk X.K G F Z H ρ->RepL X.K F vs ds->OK (st ds k ρ) ->
  (∀σ' ρ',StOk X.K G F σ' H ρ'->(∀j,j<n->σ'[j]? = Z[j]? /\ ρ'[j]? = ρ[j]?)->σ'.length=Z.length->ρ'.length=ρ.length->OK (k ρ')->Q σ' H)->nJ X tgs vs Z H Q
def JD{S:Type}(i:Nat):Tg S:=λd k ρ=>match jC ρ i with
 | true=>k (ρ.set i (some (.fz d)))
 | false=>.bad
def JC{S:Type}:List D->(En->M S)->En->M S
 | [],k,ρ=>k ρ
 | _,_,_=>.bad
def He{S:Type}(t:Tg S)(ts:List D->(En->M S)->En->M S):List D->(En->M S)->En->M S
 | d::ds,k,ρ=>t d (λρ1=>ts ds k ρ1) ρ
 | [],_,_=>.bad
def un2{S:Type}(d:D)(k:D->D->M S):M S:=match d with
 | .tuple [a,b]=>k a b
 | _=>.bad
def FA{S:Type}(ts:List D->(En->M S)->En->M S):Tg S:=λd k ρ=>un2 d λa b=>ts [a,b] k ρ
section
theorem bL(hn:n<=i)(hN:X.N.Nodup)(hi:X.N[i]? = some x:=by rfl)(hx:Loc X.env.scope x:=by exact lo rfl)(hf:X.fn x=true\/X.env.scope.names.lookup x=some .local:=by first|exact .inl rfl|exact .inr rfl):AG (S:=S) X n (.Name x pos) (JD i):=by
 intro OK k G F Z H ρ v d Q hO S r ok kk
 unfold JD at ok
 split at ok
 ·rename_i ho
  obtain⟨hl,hop⟩:=eN ho
  refine Ih (Dz hN hi hx hf) ?_
  exact kk _ _ (S.store hop hl (.inl ⟨d,rfl,r⟩)) (λj hj=>⟨ge (by lia),ge (by lia)⟩) (by simp) (by simp) ok
 ·exact(hO ok).elim
theorem EI:AGs (S:=S) X n [] JC:=by
 intro OK k G F Z H ρ vs ds Q hO S r ok kk
 cases ds with
 | nil =>
  cases r
  exact EZ Dy ⟨rfl,kk Z ρ S (λ_ _=>⟨rfl,rfl⟩) rfl rfl ok⟩
 | cons d ds=>exact(hO ok).elim
theorem vK{st:Tg S}{sts:List D->(En->M S)->En->M S}(h1:AG X n e st)(h2:AGs X n es sts)
  (hs:(assignEach (e::es) X.env).map (·.2)=assign e X.env::(assignEach es X.env).map (·.2)):AGs X n (e::es) (He st sts):=by
 intro OK k G F Z H ρ vs ds Q hO S r ok kk
 cases ds with
 | nil=>exact(hO ok).elim
 | cons d ds =>
  cases r with
  | cons rv rr =>
   refine EZ (Bu jU yv hs) ⟨_,_,rfl,?_⟩
   refine h1 OK _ G F Z H ρ _ d _ hO S rv ok λσ1 ρ1 S1 kp1 l1 m1 o1=>?_
   exact h2 OK k G F σ1 H ρ1 _ ds _ hO S1 rr o1 λσ2 ρ2 S2 kp2 l2 m2 o2=>kk σ2 ρ2 S2 (λj hj=>⟨(kp2 j hj).1.trans (kp1 j hj).1,(kp2 j hj).2.trans (kp1 j hj).2⟩) (l2.trans l1) (m2.trans m1) o2
theorem EJ{kk l:Nat}{sts:List D->(En->M S)->En->M S}{st:Tg S}(hc:X.calm=true)(h:AGs X n es sts)(hn:(assignEach es X.env).length=l)(hst:(assignEach es X.env).findIdx? (·.1)=none)
  (hw:∀(OK:M S->Prop) d k ρ,KOk OK->OK (st d k ρ)->∃ds,d=.tuple ds/\ds.length=l/\OK (sts ds k ρ)):AG X n (.Tuple es kk pos) st:=by
 intro OK k G F Z H ρ v d Q hO S r ok k2
 obtain⟨ds,rfl,hl,ok⟩:=hw OK d k ρ hO ok
 cases r with
 | tup h1 h2 =>
  refine Ih (Gp hc yv hn hst) ⟨_,_,rfl,SqT.of (S.fh _ _ h1),by rw[h2.length];exact hl,?_⟩
  exact h OK k G F Z H ρ _ ds _ hO S h2 ok k2
theorem EK{kk:Nat}{sts:List D->(En->M S)->En->M S}(hc:X.calm=true)(h:AGs X n es sts)(hn:(assignEach es X.env).length=2)(hst:(assignEach es X.env).findIdx? (·.1)=none):AG X n (.Tuple es kk pos) (FA sts) :=
 EJ hc h hn hst λOK d k ρ hO o=>by
  unfold FA un2 at o
  split at o
  ·exact⟨_,rfl,rfl,o⟩
  ·exact(hO o).elim
end
abbrev SM(S:Type):=KS S->En->M S
structure EOk{S:Type}(X:Cx)(OK:M S->Prop)(K:KS S)(G:Gh)(F:Hp)(E:Ends):Prop where
 nx:∀F' σ' H' ρ',Same F F'->StOk X.K G F' σ' H' ρ'->OK (K.nx ρ')->E.nx σ' H'
 rt:∀F' σ' H' ρ' d v,Same F F'->StOk X.K G F' σ' H' ρ'->Rep X.K F' v d->OK (K.rt d ρ')->E.rt v H'
 rl:∀F' σ' H' ρ' c v,Same F F'->StOk X.K G F' σ' H' ρ'->Frs X.K G F' σ' H' ρ' v c->OK (K.rl c ρ')->E.rt v H'
 bk:∀F' σ' H' ρ',Same F F'->StOk X.K G F' σ' H' ρ'->OK (K.bk ρ')->E.bk σ' H'
 ct:∀F' σ' H' ρ',Same F F'->StOk X.K G F' σ' H' ρ'->OK (K.ct ρ')->E.ct σ' H'
theorem EOk.up{OK:M S->Prop}{K:KS S}{E:Ends}(h:EOk X OK K G F E)(s:Same F F'):EOk X OK K G F' E :=
 ⟨λF2 σ' H' ρ' s2=>h.nx F2 σ' H' ρ' (s.trans s2),λF2 σ' H' ρ' d v s2=>h.rt F2 σ' H' ρ' d v (s.trans s2),λF2 σ' H' ρ' d v s2=>h.rl F2 σ' H' ρ' d v (s.trans s2),λF2 σ' H' ρ' s2=>h.bk F2 σ' H' ρ' (s.trans s2),λF2 σ' H' ρ' s2=>h.ct F2 σ' H' ρ' (s.trans s2)⟩
@[irreducible] def ku(X:Cx)(st:Stmt):TS:=λE Z H=>∀(pins:zzk) (s:Shared),Inv X pins Z H s->wpAny (model X.prog X.w) X.A (exec st X.env) (SP X pins E) X.xe s
@[irreducible] def mI(X:Cx)(sts:List Stmt):TS:=λE Z H=>∀(pins:zzk) (s:Shared),Inv X pins Z H s->wpAny (model X.prog X.w) X.A (execs sts X.env) (SP X pins E) X.xe s
section
variable {sts:List Stmt} {E:Ends} {t:TS}
theorem Bo:PS X st (ku X st):=λpins s Z H E I h=>by unfold ku at h;exact h pins s I
theorem fZ:PSs X sts (mI X sts):=λpins s Z H E I h=>by unfold mI at h;exact h pins s I
theorem ky(h:PS X st t)(q:t E Z H):ku X st E Z H:=by unfold ku;exact λpins s I=>h pins s Z H E I q
theorem FU(h:PSs X sts t)(q:t E Z H):mI X sts E Z H:=by unfold mI;exact λpins s I=>h pins s Z H E I q
end
def AS{S:Type}(X:Cx)(st:Stmt)(m:SM S):Prop :=
 ∀(OK:M S->Prop) (K:KS S) (G:Gh) (F:Hp) (Z:L2.St) (H:Hp) (ρ:En) (E:Ends),KOk OK->XL X OK K.x G->StOk X.K G F Z H ρ->OK (m K ρ)->EOk X OK K G F E->ku X st E Z H
def ASs{S:Type}(X:Cx)(st:List Stmt)(m:SM S):Prop :=
 ∀(OK:M S->Prop) (K:KS S) (G:Gh) (F:Hp) (Z:L2.St) (H:Hp) (ρ:En) (E:Ends),KOk OK->XL X OK K.x G->StOk X.K G F Z H ρ->OK (m K ρ)->EOk X OK K G F E->mI X st E Z H
section
def Im:SM S:=λK ρ=>K.nx ρ
def Kj(m n:SM S):SM S:=λK ρ=>m { K with nx:=λρ1=>n K ρ1 } ρ
def sIf(c:Ev S Bool)(m n:SM S):SM S:=λK ρ=>c K.x (λb ρ1=>if b then m K ρ1 else n K ρ1) ρ
def sTo(sh:List Kd)(m:SM S):SM S:=λK ρ=>m { K with nx:=λρ1=>rdk sh (λs=>K.nx (wr sh s)) ρ1 } ρ
def FZ(i:Nat)(m:Ev S D):SM S:=λK ρ=>m K.x (λd ρ1=>match jC ρ1 i with
 | true=>K.nx (ρ1.set i (some (.fz d)))
 | false=>.bad) ρ
def Ij(i:Nat)(m:Ev S (List D)):SM S:=λK ρ=>m K.x (λds ρ1=>match jC ρ1 i with
 | true=>K.nx (ρ1.set i (some (.ol (.l ds))))
 | false=>.bad) ρ
def Kp(t:Tg S)(m:Ev S D):SM S:=λK ρ=>m K.x (λd ρ1=>t d K.nx ρ1) ρ
def Kk(m:Ev S D):SM S:=λK ρ=>m K.x K.rt ρ
def Il(m:Ev S (List D)):SM S:=λK ρ=>m K.x (λds=>K.rl (.l ds)) ρ
def Iq(m:Ev S D):SM S:=λK ρ=>m K.x (λ_ ρ1=>K.nx ρ1) ρ
def su(ρ:En)(i:Nat)(ds:List D):En:=match ρ[i]? with
 | some (some (.op _))=>ρ.set i (some (.op (.l ds)))
 | _=>ρ.set i (some (.ol (.l ds)))
def Ip(i:Nat)(f:List D->List D->Option (List D))(ms:Ev S (List D)):SM S:=λK ρ=>match iM ρ i with
 | some _=>ms K.x (λas ρ1=>match iM ρ1 i with
  | some ds=>(oM (f ds as)).on (λe=>K.x e ρ1) (λds'=>K.nx (su ρ1 i ds'))
  | none=>.bad) ρ
 | none=>.bad
def cp{T:Type}(step:T->D->(T->M S)->M S):List D->T->(T->M S)->M S
 | [],s,k=>k s
 | d::r,s,k=>step s d (λs'=>cp step r s' k)
@[reducible] def yH(sh:List Kd)(K:KS S)(kn:SOf sh->M S):KS S:={ K with
  nx:=λρ3=>rdk sh kn ρ3
  ct:=λρ3=>rdk sh kn ρ3
  bk:=λρ3=>rdk sh (λs'=>K.nx (wr sh s')) ρ3 }
def Gc(sh:List Kd)(it:Ev S (List D))(t:Tg S)(mb:SM S):SM S:=λK ρ=>it K.x (λds ρ1=>rdk sh (λs=>cp (λs d kn=>t d (λρ2=>mb (yH sh K kn) ρ2) (wr sh s)) ds s (λs'=>K.nx (wr sh s'))) ρ1) ρ
end
theorem mJ(ρ:En)(i:Nat)(ds ds0:List D)(h:iM ρ i=some ds0):su ρ i ds=ρ.set i ((ρ[i]?.join).map fun | .op _=>.op (.l ds)|_=>.ol (.l ds)):=by
 unfold iM at h
 unfold su
 split at h
 ·rename_i q;rw[q];rfl
 ·rename_i q;rw[q];rfl
 ·cases h
theorem jQ{OK:M S->Prop}(hO:KOk OK){sh:List Kd}{k:SOf sh->M S}(h:OK (rdk sh k ρ)):∃s,rd sh ρ=some s/\OK (k s):=by
 unfold rdk at h
 split at h
 ·rename_i s e;exact⟨s,e,h⟩
 ·exact(hO h).elim
section
variable {sts rest:List Stmt} {m n:SM S} {c a:Expr} {me:Ev S D} {mt:Ev S Bool} {ml:Ev S (List D)} {tpos:Pos}
theorem aX:ASs (S:=S) X [] Im:=λOK K G F Z H ρ E hO hX St ok eo=>FU yo (eo.nx F Z H ρ (Same.refl _) St ok)
theorem af(h1:AS X st m)(h2:ASs X rest n):ASs X (st::rest) (Kj m n):=λOK K G F Z H ρ E hO hX St ok eo =>
 FU (nZ Bo fZ) (h1 OK { K with nx:=λρ1=>n K ρ1 } G F Z H ρ _ hO hX St ok ⟨λF' σ' H' ρ' s S' o=>h2 OK K G F' σ' H' ρ' E hO hX S' o (eo.up s),eo.rt,eo.rl,eo.bk,eo.ct⟩)
theorem az(h1:AS X st m):ASs X [st] m:=λOK K G F Z H ρ E hO hX St ok eo=>FU (Dv Bo) (h1 OK K G F Z H ρ E hO hX St ok eo)
theorem bJ{A B:List Stmt}(hc:AEt X c mt)(ha:ASs X A m)(hb:ASs X B n):AS X (.If c A B pos) (sIf mt m n):=λOK K G F Z H ρ E hO hX St ok eo =>
 ky (IV fO fZ fZ) (hc OK K.x _ G F Z H ρ _ hO hX St ok λt F1 H1 ρ1 s1 S1 o1=>by
  cases t with
  | true=>exact ha OK K G F1 Z H1 ρ1 E hO hX S1 o1 (eo.up s1)
  | false=>exact hb OK K G F1 Z H1 ρ1 E hO hX S1 o1 (eo.up s1))
theorem aO{sh:List Kd}(h:AS X st m):AS X st (sTo sh m):=λOK K G F Z H ρ E hO hX St ok eo =>
 h OK { K with nx:=λρ1=>rdk sh (λs=>K.nx (wr sh s)) ρ1 } G F Z H ρ E hO hX St ok ⟨λF' σ' H' ρ' s S' o=>by
  obtain⟨s',e',o'⟩:=jQ hO o
  exact eo.nx F' σ' H' _ s (S'.rd e') o',eo.rt,eo.rl,eo.bk,eo.ct⟩
theorem aM(he:AE X e me):AS X (.Return (some e) pos) (Kk me):=λOK K G F Z H ρ E hO hX St ok eo =>
 ky (Bp aI) (he OK K.x K.rt G F Z H ρ _ hO hX St ok λd v F1 H1 ρ1 s1 S1 r1 o1=>eo.rt F1 Z H1 ρ1 d v s1 S1 r1 o1)
theorem EF(he:AEl X e ml):AS X (.Return (some e) pos) (Il ml):=λOK K G F Z H ρ E hO hX St ok eo =>
 ky (Bp aI) (he OK K.x (λds=>K.rl (.l ds)) G F Z H ρ _ hO hX St ok λd v F1 H1 ρ1 s1 S1 r1 o1=>eo.rl F1 Z H1 ρ1 (.l d) v s1 S1 r1 o1)
theorem aK(hN:X.N.Nodup)(he:AE X e me)(hi:X.N[i]? = some x:=by rfl)(hx:Loc X.env.scope x:=by exact lo rfl)(hs:swapsWith e (some (.Name x pos')) pos.line X.env=pure false:=by rfl)(hf:X.fn x=true\/X.env.scope.names.lookup x=some .local:=by exact .inl rfl) :
  AS X (.Assign [.Name x pos'] e pos) (FZ i me):=λOK K G F Z H ρ E hO hX St ok eo =>
 ky (wB hN hi hx aI hs hf) (he OK K.x _ G F Z H ρ _ hO hX St ok λd v F1 H1 ρ1 s1 S1 r1 o1=>by
  split at o1
  ·rename_i ho
   obtain⟨hl,hop⟩:=eN ho
   exact eo.nx F1 _ H1 _ s1 (S1.store hop hl (.inl ⟨d,rfl,r1⟩)) o1
  ·exact(hO o1).elim)
theorem zq(hN:X.N.Nodup)(he:AEl X e ml)(hi:X.N[i]? = some x:=by rfl)(hx:Loc X.env.scope x:=by exact lo rfl)(hs:swapsWith e (some (.Name x pos')) pos.line X.env=pure false:=by rfl)(hf:X.fn x=true\/X.env.scope.names.lookup x=some .local:=by exact .inl rfl) :
  AS X (.Assign [.Name x pos'] e pos) (Ij i ml):=λOK K G F Z H ρ E hO hX St ok eo =>
 ky (wB hN hi hx aI hs hf) (he OK K.x _ G F Z H ρ _ hO hX St ok λd v F1 H1 ρ1 s1 S1 r1 o1=>by
  split at o1
  ·rename_i ho
   obtain⟨hl,hop⟩:=eN ho
   exact eo.nx F1 _ H1 _ s1 (S1.store hop hl (.inr ⟨.l d,rfl,r1⟩)) o1
  ·exact(hO o1).elim)
theorem Hz{t:Tg S}(he:AE X e me)(hg:AG X 0 tg t)(hs:swapsWithSole [tg] e pos.line X.env=pure false)(hw:swappedStores [tg] e X.env=pure none)
  (h1:(assignEach [tg] X.env).map (·.2)=[assign tg X.env]):AS X (.Assign [tg] e pos) (Kp t me):=λOK K G F Z H ρ E hO hX St ok eo =>
 ky (Bq aI jU hs hw h1) (he OK K.x _ G F Z H ρ _ hO hX St ok λd v F1 H1 ρ1 s1 S1 r1 o1 =>
  hg OK K.nx G F1 Z H1 ρ1 v d _ hO S1 r1 o1 λσ' ρ' S' _ _ _ o'=>eo.nx F1 σ' H1 ρ' s1 S' o')
theorem h7(he:AE X e me)(hs:swapsWith e none pos.line X.env=pure false):AS X (.Expr e pos) (Iq me):=λOK K G F Z H ρ E hO hX St ok eo =>
 ky (yq aI hs) (he OK K.x _ G F Z H ρ _ hO hX St ok λd v F1 H1 ρ1 s1 S1 r1 o1=>eo.nx F1 Z H1 ρ1 s1 S1 o1)
end
section
variable {m n mb:SM S} {c a o:Expr} {me mi:Ev S D} {mt:Ev S Bool} {ml ms:Ev S (List D)} {tpos apos cpos:Pos}
theorem Hy{iter:Expr}{body:List Stmt}{sh:List Kd}{t:Tg S}(hp:PassesOwn (model X.prog X.w) X.A X.env X.xe)(hc:X.calm=true)(hi:AEi X tg iter ml)(hg:AG X 0 tg t)(hb:ASs X body mb)
  (hs:∀x,foldedSetIterable iter X.env x=pure x):AS X (.For tg iter body [] pos) (Gc sh ml t mb):=λOK K G F Z H ρ E hO hX St ok eo =>
 ky (Gm hp hc n8 jU fZ hs) (hi OK K.x _ G F Z H ρ _ hO hX St ok λds J F1 H1 ρ1 s1 S1 wk o1=>by
  obtain⟨s0,e0,o0⟩:=jQ hO o1
  have S0:=S1.rd e0
  clear o1
  generalize hstep:(λ(s:SOf sh) d (kn:SOf sh->M S)=>t d (λρ2=>mb (yH sh K kn) ρ2) (wr sh s))=step at o0
  refine⟨λi m σ' H'=>∃F' s,m=ds.length - i/\i<=ds.length/\Same F1 F'/\StOk X.K G F' σ' H' (wr sh s)/\OK (cp step (ds.drop i) s (λs'=>K.nx (wr sh s'))),⟨ds.length,F1,s0,rfl,eE _,Same.refl _,S0,o0⟩,?_⟩
  rintro i m σ' H' ⟨F',s,rfl,hi,s2,S2,go⟩
  by_cases hlt:i<ds.length
  ·have ed:ds.drop i=ds[i]::ds.drop (i+1):=LS hlt
   rw[ed]at go
   dsimp only[cp]at go
   rw[<-hstep]at go
   have again:∀F5 σ5 H5 ρ5,Same F' F5->StOk X.K G F5 σ5 H5 ρ5->OK (rdk sh (λs'=>cp step (ds.drop (i+1)) s' λs'=>K.nx (wr sh s')) ρ5) ->
     ∃m',m'<ds.length - i/\∃F' s,m'=ds.length - (i+1)/\i+1<=ds.length/\Same F1 F'/\StOk X.K G F' σ5 H5 (wr sh s)/\OK (cp step (ds.drop (i+1)) s (λs'=>K.nx (wr sh s'))):=λF5 σ5 H5 ρ5 s5 S5 o5=>by
    obtain⟨s',e',o'⟩:=jQ hO o5
    exact⟨ds.length - (i+1),by omega,F5,s',rfl,hlt,s2.trans s5,S5.rd e',o'⟩
   refine .inr ⟨wk.go i G F' σ' H' _ s2 S2 hlt,λσ4 H4=>∃m',m'<ds.length - i/\∃F' s,m'=ds.length - (i+1)/\i+1<=ds.length/\Same F1 F'/\StOk X.K G F' σ4 H4 (wr sh s)/\OK (cp step (ds.drop (i+1)) s (λs'=>K.nx (wr sh s'))),λσ4 H4 h4=>h4,λx H2 y=>?_⟩
   obtain⟨F3,s3,S3,r3⟩:=wk.yld i G F' σ' H' _ x H2 ds[i] s2 S2 (by simp[hlt]) y
   refine hg OK _ G F3 σ' H2 (wr sh s) x ds[i] _ hO S3 r3 go λσ3 ρ3 S4 _ _ _ o4=>?_
   rw[hstep]at o4
   refine hb OK (yH sh K λs'=>cp step (ds.drop (i+1)) s' λs'=>K.nx (wr sh s')) G F3 σ3 H2 ρ3 _ hO hX S4 o4 ⟨λF5 σ5 H5 ρ5 s5 S5 o5=>?_,λF5 σ5 H5 ρ5 d v s5=>eo.rt F5 σ5 H5 ρ5 d v ((s1.trans (s2.trans s3)).trans s5),λF5 σ5 H5 ρ5 d v s5=>eo.rl F5 σ5 H5 ρ5 d v ((s1.trans (s2.trans s3)).trans s5),λF5 σ5 H5 ρ5 s5 S5 o5=>?_,λF5 σ5 H5 ρ5 s5 S5 o5=>?_⟩
   ·exact again F5 σ5 H5 ρ5 (s3.trans s5) S5 o5
   ·obtain⟨s',e',o'⟩:=jQ hO o5
    exact eo.nx F5 σ5 H5 _ ((s1.trans (s2.trans s3)).trans s5) (S5.rd e') o'
   ·exact again F5 σ5 H5 ρ5 (s3.trans s5) S5 o5
  ·have ei:i=ds.length:=by omega
   subst ei
   rw[List.drop_length]at go
   exact .inl ⟨wk.stop G F' σ' H' _ s2 S2,eo.nx F' σ' H' _ (s1.trans s2) S2 go⟩)
theorem kE{ds:List D}(St:StOk K G F Z H ρ)(h:iM ρ i=some ds):∃a vs,Z[i]? = some (some (.ref a))/\H a=some (.lst vs)/\RepL K F vs ds:=by
 obtain⟨a,ea,oa⟩:=St.ow i _ (kF h)
 obtain⟨vs,h1,h2⟩:=oa.he
 exact⟨a,vs,ea,h1,h2⟩
theorem yz{a:Addr}{ds ds':List D}{vs':List V}(St:StOk K G F Z H ρ)(h:iM ρ i=some ds)(ha:Z[i]? = some (some (.ref a)))(r:RepL K F vs' ds') :
  StOk K G F Z (upd H a (.lst vs')) (su ρ i ds'):=by
 rw[mJ ρ i ds' ds h]
 exact St.change (kF h) ha (c':=.l ds') ⟨_,aR,r⟩
def BI(ds as:List D):Option (List D):=match as with
 | [d]=>if ds.length<sizeLine then some (ds++[d])else none
 | _=>none
theorem HA(hN:X.N[i]? = some x)(hv:Vis X.env.scope x)(he:AEa X [e] ms)
  (hbase:attributeBase (.Name x pos') "append" X.env (eval (.Name x pos') X.env)=eval (.Name x pos') X.env)
  (hfew:((backTo cpos (starEach [e] X.env)).all (λx=>!x.1)&&(backToKw cpos (keywordEach [] X.env)).all (λx=>x.1.isSome)
   && decide ([e].length+([]:List Keyword).length+(if([]:List Keyword).isEmpty then 0 else 1)<30))=true)
  (hline:(apos.endLine==cpos.line)=true) (hs:starEach [e] X.env=(false,eval e X.env)::starEach [] X.env) (hplain:(backTo cpos (starEach [] X.env)).any (·.1)=false)
  (hsw:swapsWith (.Call (.Attribute (.Name x pos') "append" apos) [e] [] cpos) none pos.line X.env=pure false) (hd:(x==("__debug__" : Str))=false:=by decide) (hcd:(x==("__classdict__" : Str))=false:=by decide) :
  AS X (.Expr (.Call (.Attribute (.Name x pos') "append" apos) [e] [] cpos) pos) (Ip i BI ms):=λOK K G F Z H ρ E hO hX St ok eo =>
 ky (yq (IX PySem.F.plainAttrs_list PySem.F.slot_list_append PySem.F.type_list_append zZ (dD hN hv hd hcd) cx hbase hfew hline hs hplain) hsw) (by
  unfold Ip at ok
  split at ok
  case h_2=>exact(hO ok).elim
  ·rename_i ds0 h0
   obtain⟨a,vs0,ea,hh,_⟩:=kE St h0
   refine⟨_,ea,.inl ⟨rfl,vs0,.inl (.inl hh)⟩,he OK K.x _ G F Z H ρ _ hO hX St ok λas ws F1 H1 ρ1 s1 S1 _ r1 o1=>?_⟩
   split at o1
   ·rename_i ds hds
    obtain⟨ds',hf,o2⟩:=iP hO o1
    obtain⟨a',vs,ea',hh',rv⟩:=kE S1 hds
    rw[ea]at ea'
    injection ea' with ea';injection ea' with ea';injection ea' with ea'
    subst ea'
    unfold BI at hf
    split at hf
    ·split at hf
     ·rename_i hz
      cases hf
      cases r1 with
      | cons ra rb =>
       cases rb
       refine⟨a,vs,_,rfl,rfl,hh',by rw[rv.length];exact hz,?_⟩
       exact eo.nx F1 Z _ _ s1 (yz S1 hds ea (rv.append (.cons ra .nil))) o2
     ·cases hf
    ·cases hf
   ·exact(hO o1).elim)
end
theorem map_some_get{l:List α}{x:α}:(l.map some)[i]? = some (some x)↔l[i]? = some x:=by
 rw[ug]
 cases l[i]? <;> simp
open Classical in
noncomputable def bw(G:Gh)(Z:L2.St)(ρ:En)(H:Hp)(ex:Option Addr):Hp:=λb=>if(∃(i:Nat) (c:OC),own ρ i c/\Z[i]? = some (some (V.ref b)))/\some b≠ex then H b else G.O b
def setC(ρ:En)(j:Nat)(c:OC):En:=ρ.set j ((ρ[j]?.join).map fun | .op _=>.op c|_=>.ol c)
section
variable {ds:List D}
theorem cN(S:StOk K G F Z H ρ){b:Addr}{o:HO}(h:G.O b=some o):bw G Z ρ H ex b=some o:=by
 unfold bw
 rw[ac]
 ·exact h
 ·rintro⟨⟨i,c,ho,e⟩,_⟩
  obtain⟨a,e',oa⟩:=S.ow i c ho
  rw[e]at e'
  injection e' with e';injection e' with e';injection e' with e'
  subst e'
  rw[oa.no]at h;cases h
theorem gc{b:Addr}(ho:own ρ i c)(e:Z[i]? = some (some (V.ref b)))(hx:some b≠ex):bw G Z ρ H ex b=H b:=by
 unfold bw
 rw[ai ⟨⟨i,c,ho,e⟩,hx⟩]
theorem rO(S:StOk K G F Z H ρ):Same (bw G Z ρ H ex) H:=λb o h=>by
 unfold bw at h
 split at h
 ·exact h
 ·exact S.oh b o h
theorem _root_.L3.Held.notup{o:HO}(h:Held K F H a c)(e:H a=some o):Av o:=by
 cases c with
 | l ds=>obtain⟨vs,h1,_⟩:=h;rw[h1]at e;cases e;exact True.intro
 | t es=>obtain⟨vs,h1,_⟩:=h;rw[h1]at e;cases e;exact True.intro
 | k es=>obtain⟨vs,h1,_⟩:=h;rw[h1]at e;cases e;exact True.intro
 | i x ns ds=>obtain⟨C,dx,fs,h1,_⟩:=h;rw[h1]at e;cases e;exact True.intro
theorem rP(S:StOk K G F Z H ρ):∀b o,bw G Z ρ H ex b=some o->F b=none/\Av o:=λb o h=>by
 unfold bw at h
 split at h
 ·rename_i hc
  obtain⟨⟨i,c,ho,e⟩,_⟩:=hc
  obtain⟨a,e',oa⟩:=S.ow i c ho
  rw[e]at e'
  injection e' with e';injection e' with e';injection e' with e'
  subst e'
  exact⟨oa.nf,oa.he.notup h⟩
 ·exact S.fo b o h
theorem j5{av:AV}(h:((ds.map AV.fz).map some)[i]? = some (some av)):∃d,av=.fz d/\ds[i]? = some d:=by
 rw[map_some_get,ug]at h
 cases q:ds[i]? with
 | none=>rw[q]at h;cases h
 | some d=>rw[q]at h;cases h;exact⟨d,rfl,rfl⟩
theorem gu(h:own ((ds.map AV.fz).map some) i c):False:=by
 rcases h with h|h<;>(obtain⟨d,z,_⟩:=j5 h;cases z)
theorem fJ(S:StOk K G F Z H ρ)(r:RepL K F vs ds):StOk K ⟨λ_=>none,bw G Z ρ H none,F⟩ F (vs.map some) H ((ds.map AV.fz).map some):=by
 refine⟨S.fh,rO S,rP S,by simp[r.length],λi d h=>?_,λi c h=>(gu h).elim,λi j c e a h=>(gu h).elim,λi a h=>(nomatch h),λi c h=>?_,Same.refl _⟩
 ·obtain⟨d',z,e⟩:=j5 h
  cases z
  obtain⟨v,e1,e2⟩:=r.get e
  exact⟨v,map_some_get.mpr e1,e2⟩
 ·obtain⟨d',z,e⟩:=j5 h;cases z
theorem j9{avs':List AV}(S:StOk K G F Z H ρ)(s1:Same F F')(S1:StOk K ⟨λ_=>none,bw G Z ρ H none,F⟩ F' (vs.map some) H' (avs'.map some)) :
  StOk K G F' Z H' ρ/\∀v c,Frs K ⟨λ_=>none,bw G Z ρ H none,F⟩ F' (vs.map some) H' (avs'.map some) v c->Frs K G F' Z H' ρ v c:=by
 have oo:∀b,bw G Z ρ H none b=none->G.O b=none:=λb h=>by
  cases q:G.O b with
  | none=>rfl
  | some o=>rw[cN S q]at h;cases h
 refine⟨⟨S1.fh,λb o h=>S1.oh b o (cN S h),λb o h=>S1.fo b o (cN S h),S.ln,λi d h=>?_,λi c h=>?_,S.dj,S.pp,S.pq,S.fb.trans s1⟩,λv cc h=>?_⟩
 ·obtain⟨v,e,r⟩:=S.fz i d h;exact⟨v,e,r.mono s1⟩
 ·obtain⟨a,e,oa⟩:=S.ow i c h
  obtain⟨o,ho⟩:=oa.he.some
  have q:bw G Z ρ H none a=some o:=by rw[gc h e (by simp)];exact ho
  exact⟨a,e,(S1.fo a o q).1,oa.no,(oa.he.mono s1).at (by rw[S1.oh a o q,ho])⟩
 ·obtain⟨a,rfl,oa,_⟩:=h
  refine⟨a,rfl,⟨oa.nf,oo a oa.no,oa.he⟩,λi e ho q=>?_⟩
  obtain⟨a',e',oa'⟩:=S.ow i e ho
  rw[q]at e'
  injection e' with e';injection e' with e';injection e' with e'
  subst e'
  obtain⟨o,hh⟩:=oa'.he.some
  have:=oa.no
  rw[show(⟨λ_=>none,bw G Z ρ H none,F⟩:Gh).O a=bw G Z ρ H none a from rfl,gc ho q (by simp),hh]at this
  cases this
def P1(a:Addr):Nat->Option Addr
 | 0=>some a
 | _=>none
theorem ju(S:StOk K G F Z H ρ)(hj:own ρ j c)(ha:Z[j]? = some (some (V.ref a)))(r:RepL K F vs ds) :
  StOk K ⟨P1 a,bw G Z ρ H (some a),F⟩ F ((V.ref a::vs).map some) H ((AV.op c::ds.map AV.fz).map some):=by
 obtain⟨a',e',oa⟩:=S.ow j c hj
 rw[ha]at e'
 injection e' with e';injection e' with e';injection e' with e'
 subst e'
 have at0:∀i d,own ((AV.op c::ds.map AV.fz).map some) i d->i=0/\d=c:=λi d h=>by
  cases i with
  | zero=>rcases h with h|h<;>(simp at h);exact⟨rfl,h.symm⟩
  | succ i=>exact(gu (ds:=ds) (i:=i) (c:=d) (by unfold own at h ⊢;simpa using h)).elim
 refine⟨S.fh,rO S,rP S,by simp[r.length],λi d h=>?_,λi d h=>?_,λi k d e b h1 h2 _ _=>?_,λi b h=>?_,λi d h=>?_,Same.refl _⟩
 ·cases i with
  | zero=>simp at h
  | succ i =>
   obtain⟨d',z,e⟩:=j5 (ds:=ds) (i:=i) (av:=.fz d) (by simpa using h)
   cases z
   obtain⟨v,e1,e2⟩:=r.get e
   exact⟨v,by simpa using e1,e2⟩
 ·obtain⟨rfl,rfl⟩:=at0 i d h
  refine⟨a,rfl,oa.nf,?_,oa.he⟩
  show bw G Z ρ H (some a) a=none
  unfold bw
  rw[ac (by simp)]
  exact oa.no
 ·rw[(at0 i d h1).1,(at0 k e h2).1]
 ·cases i with
  | zero=>cases h;exact⟨rfl,c,rfl⟩
  | succ i=>cases h
 ·cases i with
  | zero=>exact⟨a,rfl⟩
  | succ i =>
   obtain⟨d',z,e⟩:=j5 (ds:=ds) (i:=i) (av:=.op d) (by simpa using h)
   cases z
theorem ka{c':OC}{l:List AV}(S:StOk K G F Z H ρ)(hj:own ρ j c)(ha:Z[j]? = some (some (V.ref a)))(s1:Same F F')
  (S1:StOk K ⟨P1 a,bw G Z ρ H (some a),F⟩ F' ((V.ref a::vs).map some) H' ((AV.op c'::l).map some)) :
  StOk K G F' Z H' (setC ρ j c')/\∀v cc,Frs K ⟨P1 a,bw G Z ρ H (some a),F⟩ F' ((V.ref a::vs).map some) H' ((AV.op c'::l).map some) v cc->Frs K G F' Z H' (setC ρ j c') v cc:=by
 have oo:∀b,bw G Z ρ H (some a) b=none->G.O b=none:=λb h=>by
  cases q:G.O b with
  | none=>rfl
  | some o=>rw[cN S q]at h;cases h
 obtain⟨a',e',oa⟩:=S.ow j c hj
 rw[ha]at e'
 injection e' with e';injection e' with e';injection e' with e'
 subst e'
 have hl:j<ρ.length:=by rcases hj with h|h<;>exact(List.getElem?_eq_some_iff.mp h).1
 generalize hav:((ρ[j]?.join).map λ(x:AV)=>match x with | .op _=>AV.op c'|_=>AV.ol c')=av
 have hset:setC ρ j c'=ρ.set j av:=by rw[<-hav];rfl
 rw[hset]
 have ne:∀i,i≠j->(ρ.set j av)[i]? = ρ[i]?:=λi hi=>ge (Ne.symm hi)
 have atj:(ρ.set j av)[j]? = some av:=il hl
 have kind:(ρ[j]? = some (some (.ol c))/\av=some (.ol c'))\/(ρ[j]? = some (some (.op c))/\av=some (.op c')):=by
  rcases hj with h|h
  ·exact .inl ⟨h,by rw[<-hav,h];rfl⟩
  ·exact .inr ⟨h,by rw[<-hav,h];rfl⟩
 have owni:∀i e,own (ρ.set j av) i e->(i=j/\e=c')\/(i≠j/\own ρ i e):=λi e h=>by
  by_cases hi:i=j
  ·subst hi
   unfold own at h
   rw[atj]at h
   rcases kind with ⟨_,k⟩|⟨_,k⟩<;>rw[k]at h<;>rcases h with h|h<;>cases h<;>exact .inl ⟨rfl,rfl⟩
  ·unfold own at h ⊢
   rw[ne i hi]at h
   exact .inr ⟨hi,h⟩
 have nea:∀i e b,i≠j->own ρ i e->Z[i]? = some (some (V.ref b))->b≠a:=λi e b hi ho q z=>by
  subst z
  exact hi (S.dj i j e c b ho hj q ha)
 have own1:OwnAt K ⟨P1 a,bw G Z ρ H (some a),F⟩ F' H' a c':=by
  obtain⟨b,e1,ob⟩:=S1.ow 0 c' (.inr rfl)
  have:V.ref a=V.ref b:=by simpa using e1
  injection this with this
  subst this
  exact ob
 refine⟨⟨S1.fh,λb o h=>S1.oh b o (cN S h),λb o h=>S1.fo b o (cN S h),by simpa using S.ln,λi d h=>?_,λi e h=>?_,λi k d e b h1 h2=>?_,λi b h=>?_,λi d h=>?_,S.fb.trans s1⟩,λv cc h=>?_⟩
 ·by_cases hi:i=j
  ·subst hi
   rw[atj]at h
   rcases kind with ⟨_,k⟩|⟨_,k⟩<;>rw[k]at h<;>cases h
  ·rw[ne i hi]at h
   obtain⟨v,e,r⟩:=S.fz i d h;exact⟨v,e,r.mono s1⟩
 ·rcases owni i e h with ⟨rfl,rfl⟩|⟨hi,ho⟩
  ·exact⟨a,ha,own1.nf,oa.no,own1.he⟩
  ·obtain⟨b,eb,ob⟩:=S.ow i e ho
   obtain⟨o,hh⟩:=ob.he.some
   have q:bw G Z ρ H (some a) b=some o:=by rw[gc ho eb (λz=>nea i e b hi ho eb (Option.some.inj z))];exact hh
   exact⟨b,eb,(S1.fo b o q).1,ob.no,(ob.he.mono s1).at (by rw[S1.oh b o q,hh])⟩
 ·have f:∀i e,own (ρ.set j av) i e->∃d,own ρ i d:=λi e h=>by
   rcases owni i e h with ⟨rfl,_⟩|⟨_,ho⟩
   ·exact⟨c,hj⟩
   ·exact⟨e,ho⟩
  exact S.dj i k _ _ b (f i d h1).choose_spec (f k e h2).choose_spec
 ·obtain⟨q1,e,q2⟩:=S.pp i b h
  refine⟨q1,?_⟩
  by_cases hi:i=j
  ·subst hi
   rcases kind with ⟨k1,k⟩|⟨k1,k⟩
   ·rw[k1]at q2;cases q2
   ·exact⟨c',by rw[atj,k]⟩
  ·exact⟨e,by rw[ne i hi];exact q2⟩
 ·by_cases hi:i=j
  ·subst hi
   rcases kind with ⟨k1,k⟩|⟨k1,k⟩
   ·rw[atj,k]at h;cases h
   ·exact S.pq i c k1
  ·rw[ne i hi]at h;exact S.pq i d h
 ·obtain⟨b,rfl,ob,nn⟩:=h
  refine⟨b,rfl,⟨ob.nf,oo b ob.no,ob.he⟩,λi e ho q=>?_⟩
  rcases owni i e ho with ⟨rfl,_⟩|⟨hi,ho'⟩
  ·rw[ha]at q
   injection q with q;injection q with q;injection q with q
   subst q
   exact nn 0 c' (.inr rfl) rfl
  ·obtain⟨b',eb,ob'⟩:=S.ow i e ho'
   rw[q]at eb
   injection eb with eb;injection eb with eb;injection eb with eb
   subst eb
   obtain⟨o,hh⟩:=ob'.he.some
   have:=ob.no
   rw[show(⟨P1 a,bw G Z ρ H (some a),F⟩:Gh).O b=bw G Z ρ H (some a) b from rfl,gc ho' q (λz=>nea i e b hi ho' q (Option.some.inj z)),hh]at this
   cases this
end
abbrev fzs(ds:List D):En:=(ds.map AV.fz).map some
def KD:KS D:=⟨λ_=>.ret .none,λd _=>.ret d,λ_ _=>.bad,λ_=>.bad,λ_=>.bad,λe _=>.exc e⟩
def asL{S:Type}(c:OC)(k:List D->M S):M S:=match c with
 | .l ds=>k ds
 | _=>.bad
def KL:KS (List D):=⟨λ_=>.bad,λ_ _=>.bad,λc _=>asL c .ret,λ_=>.bad,λ_=>.bad,λe _=>.exc e⟩
def at0{S:Type}(ρ:En)(k:List D->M S):M S:=match (ρ[0]? : Option (Option AV))with
 | some (some (AV.op (OC.l f)))=>k f
 | _=>.bad
def K1:KS (D×List D):=⟨λρ=>at0 ρ λf=>.ret (.none,f),λd ρ=>at0 ρ λf=>.ret (d,f),λ_ _=>.bad,λ_=>.bad,λ_=>.bad,λe _=>.exc e⟩
def kj(K:Fg)(G:Gh)(E:XK){α:Type}(m:M α)(C:α->Prop):Prop:=match m with
 | .ret a=>C a
 | .exc x=>∀F' H' Cl dd,GOk G F' H'->XR K F' Cl dd x->E (.ref Cl) dd H'
 | .bad=>False
def spD(K:Fg)(n:Nat)(mf:List D->M D):Sp:=λvs H Q E=>∃G F ds,vs.length=n/\StOk K G F (vs.map some) H (fzs ds)/\kj K G E (mf ds) λd=>∀v F' H',Same F F'->StOk K G F' (vs.map some) H' (fzs ds)->Rep K F' v d->Q v H'
def spL(K:Fg)(n:Nat)(mf:List D->M (List D)):Sp:=λvs H Q E=>∃G F ds,vs.length=n/\StOk K G F (vs.map some) H (fzs ds)/\kj K G E (mf ds) λd=>∀v F' H',Same F F'->StOk K G F' (vs.map some) H' (fzs ds)->Frs K G F' (vs.map some) H' (fzs ds) v (.l d)->Q v H'
def sp1(K:Fg)(n:Nat)(mf:List D->List D->M (D×List D)):Sp:=λvs H Q E=>∃G F f ds,vs.length=n/\StOk K G F (vs.map some) H (some (.op (.l f))::fzs ds)/\kj K G E (mf f ds) λr =>
 ∀v F' H',Same F F'->StOk K G F' (vs.map some) H' (some (.op (.l r.2))::fzs ds)->Rep K F' v r.1->Q v H'
section
variable {ds:List D}
theorem xJ(S:StOk K G F (vs.map some) H (fzs ds))(s1:Same F F')(S1:StOk K G F' Z H' ρ):StOk K G F' (vs.map some) H' (fzs ds):=by
 refine⟨S1.fh,S1.oh,S1.fo,S.ln,λi d q=>?_,λi c q=>(gu q).elim,λi j c e a q=>(gu q).elim,S.pp,S.pq,S1.fb⟩
 obtain⟨v,e,r⟩:=S.fz i d q
 exact⟨v,e,r.mono s1⟩
theorem EC(S1:StOk K G F' Z H' ρ)(h:Frs K G F' Z H' ρ v c):Frs K G F' (vs.map some) H' (fzs ds) v c:=by
 obtain⟨a,rfl,oa,_⟩:=h
 exact⟨a,rfl,oa,λi e q=>(gu q).elim⟩
theorem own1{f:List D}(h:own (some (.op (.l f))::fzs ds) i c):i=0/\c=.l f:=by
 cases i with
 | zero=>rcases h with h|h<;>simp at h;exact⟨rfl,h.symm⟩
 | succ i=>exact(gu (ds:=ds) (i:=i) (c:=c) (by unfold own at h ⊢;simpa using h)).elim
theorem CA{f f':List D}(S:StOk K G F (vs.map some) H (some (.op (.l f))::fzs ds))(s1:Same F F')(S1:StOk K G F' Z H' ρ)(h0:ρ[0]? = some (some (.op (.l f')))) :
  StOk K G F' (vs.map some) H' (some (.op (.l f'))::fzs ds)/\∀v c,Frs K G F' Z H' ρ v c->Frs K G F' (vs.map some) H' (some (.op (.l f'))::fzs ds) v c:=by
 obtain⟨a,ha⟩:=S1.pq 0 _ h0
 obtain⟨e1,_⟩:=S1.pp 0 a ha
 obtain⟨e2,_⟩:=S.pp 0 a ha
 obtain⟨b,eb,ob⟩:=S1.ow 0 _ (.inr h0)
 rw[e1]at eb
 injection eb with eb;injection eb with eb;injection eb with eb
 subst eb
 have only:∀i b,G.P i=some b->i=0:=λi b h=>by
  obtain⟨_,c,q⟩:=S.pp i b h
  exact(own1 (.inr q)).1
 refine⟨⟨S1.fh,S1.oh,S1.fo,S.ln,λi d q=>?_,λi c q=>?_,λi j c e b q1 q2 _ _=>?_,λi b q=>?_,λi c q=>?_,S1.fb⟩,λv c h=>?_⟩
 ·cases i with
  | zero=>simp at q
  | succ i =>
   obtain⟨v,e,r⟩:=S.fz (i+1) d (by simpa using q)
   exact⟨v,e,r.mono s1⟩
 ·obtain⟨rfl,rfl⟩:=own1 q
  exact⟨a,e2,ob⟩
 ·rw[(own1 q1).1,(own1 q2).1]
 ·have:=only i b q
  subst this
  exact⟨(S.pp 0 b q).1,_,rfl⟩
 ·obtain⟨rfl,_⟩:=own1 (.inr q)
  exact⟨a,ha⟩
 ·obtain⟨b,rfl,ob2,nn⟩:=h
  refine⟨b,rfl,ob2,λi e q z=>?_⟩
  obtain⟨rfl,rfl⟩:=own1 q
  rw[e2]at z
  injection z with z;injection z with z;injection z with z
  subst z
  exact nn 0 _ (.inr h0) e1
end
section
variable {qual:Str} {N:List Str} {k:Nat}
theorem uo{ds:List D}(hl:vs.length=ps.length)(S0:StOk K G F (vs.map some) H (fzs ds)):StOk K G F (L2.start N vs) H (fzs ds++List.replicate (N.length - ps.length) none):=by
 have e0:L2.start N vs=vs.map some++List.replicate (N.length - ps.length) none:=by unfold L2.start;rw[hl]
 rw[e0]
 exact S0.grow _
theorem B7{sp:Sp}(Fn:Fun K x qual st f fd)(S:FnScope N ps (aB st))(len:∀vs H Q E,sp vs H Q E->vs.length=ps.length)
  (hbody:∀(cdv:Value) (A:Around) (outer:List Env) (s:Shared) (H:Hp) (vs:List V) (Q:VK) (E:XK),Room k (A.deeper (envOfC qual (aB st) s.heap.objs.size f cdv))->sp vs H Q E ->
   ∃t,PSs (mC (CX1 P w) P w K mg base N qual (aB st) f cdv A outer s H E) (bS st) t/\t { nx:=λ_ H'=>Q .non H',rt:=Q } (start N vs) H):FnOk P w K mg base (CX1 P w) (k+1) f fd ps sp:=by
 obtain⟨oc,od,kV,doc,pm,an,cdv,ct,osl,rfl,lk,hcd⟩:=Fn.ex
 exact JF lk hcd S len λA outer s H vs Q E hr hsp=>hbody cdv A outer s H vs Q E hr hsp
theorem y6{C:α->Prop}{N:List Str}{qual:Str}{scope:Scope}{cdv:Value}{outer:List Env}{s:Shared}{e:Ex}(h:kj K G E (M.exc e:M α) C):XW (mC (CX1 P w) P w K mg base N qual scope f cdv A outer s H E) G F ρ e :=
 λF' H' s' a Cl dd pins Z g _ I xs _ xr=>DY I xs (h F' H' Cl dd g xr)
theorem dg{mb:SM D}{mf:List D->M D}(Fn:Fun K x qual st f fd)(Sc:FnScope N ps (aB st))
  (hb:∀(cdv:Value) (A:Around) (outer:List Env) (s:Shared) (H:Hp) (E:XK),Room k (A.deeper (envOfC qual (aB st) s.heap.objs.size f cdv)) ->
   ASs (mC (CX1 P w) P w K mg base N qual (aB st) f cdv A outer s H E) (bS st) mb)
  (hm:∀ds,ds.length=ps.length->mf ds=mb KD (fzs ds++List.replicate (N.length - ps.length) none)):FnOk P w K mg base (CX1 P w) (k+1) f fd ps (spD K ps.length mf):=by
 refine B7 Fn Sc (λvs H Q E h=>?_) (λcdv A outer s H vs Q E hr h=>?_)
 ·obtain⟨_,_,_,h1,_⟩:=h;exact h1
 ·obtain⟨G,F0,ds,h1,S0,e⟩:=h
  have hl:ds.length=ps.length:=by have:=S0.ln;simp at this;lia
  rw[hm ds hl]at e
  refine⟨_,fZ,hb cdv A outer s H E hr (λm=>kj K G E m _) KD G F0 _ H _ _ (λz=>z) (λF ρ e z=>y6 z) (uo h1 S0) e ?_⟩
  exact⟨λF' σ' H' ρ' s S' o=>(by exact o .non F' H' s (xJ S0 s S') .non),λF' σ' H' ρ' d' v s S' r o=>(by exact o v F' H' s (xJ S0 s S') r),λF' σ' H' ρ' d' v s S' r o=>(o:False).elim,λF' σ' H' ρ' s S' o=>(o:False).elim,λF' σ' H' ρ' s S' o=>(o:False).elim⟩
theorem HB{k:List D->M S}{C:S->Prop}(h:kj K G E (asL c k) C):∃ds,c=.l ds/\kj K G E (k ds) C:=by
 cases c with
 | l ds=>exact⟨ds,rfl,h⟩
 | _=>exact(h:False).elim
theorem Hf{mb:SM (List D)}{mf:List D->M (List D)}(Fn:Fun K x qual st f fd)(Sc:FnScope N ps (aB st))
  (hb:∀(cdv:Value) (A:Around) (outer:List Env) (s:Shared) (H:Hp) (E:XK),Room k (A.deeper (envOfC qual (aB st) s.heap.objs.size f cdv)) ->
   ASs (mC (CX1 P w) P w K mg base N qual (aB st) f cdv A outer s H E) (bS st) mb)
  (hm:∀ds,ds.length=ps.length->mf ds=mb KL (fzs ds++List.replicate (N.length - ps.length) none)):FnOk P w K mg base (CX1 P w) (k+1) f fd ps (spL K ps.length mf):=by
 refine B7 Fn Sc (λvs H Q E h=>?_) (λcdv A outer s H vs Q E hr h=>?_)
 ·obtain⟨_,_,_,h1,_⟩:=h;exact h1
 ·obtain⟨G,F0,ds,h1,S0,e⟩:=h
  have hl:ds.length=ps.length:=by have:=S0.ln;simp at this;lia
  rw[hm ds hl]at e
  refine⟨_,fZ,hb cdv A outer s H E hr (λm=>kj K G E m _) KL G F0 _ H _ _ (λz=>z) (λF ρ e z=>y6 z) (uo h1 S0) e ?_⟩
  exact⟨λF' σ' H' ρ' s S' o=>(o:False).elim,λF' σ' H' ρ' d' v s S' r o=>(o:False).elim,λF' σ' H' ρ' d' v s S' r o=>(by obtain⟨ds',rfl,o⟩:=HB o;exact o v F' H' s (xJ S0 s S') (EC S' r)),λF' σ' H' ρ' s S' o=>(o:False).elim,λF' σ' H' ρ' s S' o=>(o:False).elim⟩
theorem CD{k:List D->M S}{C:S->Prop}(h:kj K G E (at0 ρ k) C):∃f,ρ[0]? = some (some (AV.op (OC.l f)))/\kj K G E (k f) C:=by
 unfold at0 at h
 split at h
 ·rename_i f q;exact⟨f,q,h⟩
 ·exact h.elim
theorem Df{ds g:List D}(hl:vs.length=ps.length)(S0:StOk K G F (vs.map some) H (some (.op (.l g))::fzs ds)):StOk K G F (L2.start N vs) H (some (.op (.l g))::fzs ds++List.replicate (N.length - ps.length) none):=by
 have e0:L2.start N vs=vs.map some++List.replicate (N.length - ps.length) none:=by unfold L2.start;rw[hl]
 rw[e0]
 exact S0.grow _
theorem mz{mb:SM (D×List D)}{mf:List D->List D->M (D×List D)}(Fn:Fun K x qual st f fd)(Sc:FnScope N ps (aB st))
  (hb:∀(cdv:Value) (A:Around) (outer:List Env) (s:Shared) (H:Hp) (E:XK),Room k (A.deeper (envOfC qual (aB st) s.heap.objs.size f cdv)) ->
   ASs (mC (CX1 P w) P w K mg base N qual (aB st) f cdv A outer s H E) (bS st) mb)
  (hm:∀g ds,ds.length+1=ps.length->mf g ds=mb K1 (some (.op (.l g))::fzs ds++List.replicate (N.length - ps.length) none)):FnOk P w K mg base (CX1 P w) (k+1) f fd ps (sp1 K ps.length mf):=by
 refine B7 Fn Sc (λvs H Q E h=>?_) (λcdv A outer s H vs Q E hr h=>?_)
 ·obtain⟨_,_,_,_,h1,_⟩:=h;exact h1
 ·obtain⟨G,F0,g,ds,h1,S0,e⟩:=h
  have hl:ds.length+1=ps.length:=by have:=S0.ln;simp at this;lia
  rw[hm g ds hl]at e
  refine⟨_,fZ,hb cdv A outer s H E hr (λm=>kj K G E m _) K1 G F0 _ H _ _ (λz=>z) (λF ρ e z=>y6 z) (Df h1 S0) e ?_⟩
  refine⟨λF' σ' H' ρ' s S' o=>?_,λF' σ' H' ρ' d' v s S' rv o=>?_,λF' σ' H' ρ' d' v s S' r o=>(o:False).elim,λF' σ' H' ρ' s S' o=>(o:False).elim,λF' σ' H' ρ' s S' o=>(o:False).elim⟩
  ·obtain⟨f',q,e'⟩:=CD o
   exact e' .non F' H' s (CA S0 s S' q).1 .non
  ·obtain⟨f',q,e'⟩:=CD o
   exact e' v F' H' s (CA S0 s S' q).1 rv
end
structure CF(P:Program)(w:World)(K:Fg)(mg:zzl)(base:Heap)(x:Str)(k:Nat)(sp:Sp):Prop where
 ex:∃(f:Addr) (fd:FuncData) (ps:List Str),FnOk P w K mg base (CX1 P w) k f fd ps sp/\mg x=some (.ref f)/\PySem.W.keepIn K (.ref f)=true/\L2.Binds K fd ps []
def KI(mf:List D->M D)(ps:Pa D):Pu D:=λρ=>ps (λds=>mf ds) ρ
def KG(mf:List D->M (List D))(ps:Pa (List D)):Pu (List D):=λρ=>ps (λds=>mf ds) ρ
section
def K6(mf:List D->M D)(ms:Ev S (List D)):Ev S D:=λx k ρ=>ms x (λds ρ1=>(mf ds).on (λe=>x e ρ1) (λd=>k d ρ1)) ρ
def K7(mf:List D->List D->M (D×List D))(i:Nat)(ms:Ev S (List D)):Ev S D:=λx k ρ=>ms x (λds ρ1=>match iM ρ1 i with
 | some f=>(mf f ds).on (λe=>x e ρ1) (λr=>k r.1 (su ρ1 i r.2))
 | none=>.bad) ρ
end
def EX(X:Cx)(G:Gh)(Z:L2.St):XK:=λc dd H'=>∃x ρ F1 F' C,c=.ref C/\XW X G F1 ρ x/\GOk G F' H'/\FzOk X.K F' Z ρ/\XR X.K F' C dd x
theorem XS.older{h:Heap}{lo lo':Nat}{e:Addr}(xs:XS H h lo e C dd)(hl:lo'<=lo):XS H h lo' e C dd:=by
 obtain⟨oe,vs,q,c,d,z,z1,k⟩:=xs.obj
 refine⟨bj hl xs.yg,xs.trk,oe,vs,q,c,d,z,z1,k.imp id ?_⟩
 rintro⟨T,oT,ts,k,ne,l,r⟩
 exact⟨T,oT,ts,k,ne,bj hl l,r⟩
def qc(X:Cx)(Z:L2.St)(E:XK):Prop:=∀(pins:zzk) (H:Hp) (s:Shared) (e:Value) (s':Shared),Inv X pins Z H s->CX1 X.prog X.w X.stack H s E e s'->X.xe e s'
theorem oj:qc X Z (EX X G Z):=λpins H s e s' I h=>by
 obtain⟨a,C,dd,H',rfl,ho,hb,un,hk,xs,x,ρ,F1,F',C',ec,xw,g,fz,xr⟩:=h
 cases ec
 refine xw F' H' s' a C dd pins Z g fz (I.call' ho un hk hb λb z=>absurd z (by simp)) (xs.older I.sz) (λp hp z=>?_) xr
 exact absurd (bo (be (I.pin p hp).1) (xs.tb z).2.1) (ny _)
theorem EX.of{x:Ex}{p:Nat->Option Addr}(S:StOk X.K G F Z H ρ)(xw:XW X G F ρ x)(g:GOk ⟨p,bw G Z ρ H ex,F⟩ F' H')(xr:XR X.K F' C dd x):EX X G Z (.ref C) dd H' :=
 ⟨x,ρ,F,F',C,rfl,xw,⟨g.fh,λb o h=>g.oh b o (cN S h),λb o h=>g.fo b o (cN S h),S.fb.trans g.fb⟩,S.fzok g.fb,xr⟩
section
variable {k:Nat} {sp:Sp}
theorem wx{pins:zzk}{s:Shared}{us:List Value}(F:FnOk X.prog X.w X.K X.mg X.base (CX1 X.prog X.w) k f fd ps sp)(hr:Room k X.A)(hb:L2.Binds X.K fd ps [])(hx:qc X Z E)
  (I:Inv X pins Z H s) (r:Vals vs us) (h:sp vs H Q E):wpAny (model X.prog X.w) X.A (call (.ref f) us) (EP X pins Z Q) X.xe s:=by
 have hl:(us++[]).length=ps.length:=by rw[iz,<-r.length];exact F.len _ _ _ _ h
 have bb:=hb s us I.kIn hl
 rw[iz]at bb
 refine wpAny_call (GU (F.run X.A X.stack s H ⟨us,[]⟩ us vs Q E hr I.env0 bb r h) λr s' hq=>?_)
 cases r with
 | error e=>exact hx pins H s e s' I hq
 | ok fl =>
  cases fl with
  | ret u=>exact I.after hq
  | next=>exact False.elim hq
  | brk=>exact False.elim hq
  | cont=>exact False.elim hq
theorem iA(F:FnOk X.prog X.w X.K X.mg X.base (CX1 X.prog X.w) k f fd ps sp)(hr:Room k X.A)(hg:Gl X x)(hm:X.mg x=some (.ref f))(hk:PySem.W.keepIn X.K (.ref f)=true)(hb:L2.Binds X.K fd ps [])(hx:qc X Z E)
  (hdb:(x==("__debug__" : Str))=false) (he:starEach (e::es) X.env=(false,eval e X.env)::starEach es X.env) (hpl:(backTo pos (starEach es X.env)).any (·.1)=false)
  (h:eL X (e::es) Z H λvs H1=>sp vs H1 Q E):eA X (.Call (.Name x p) (e::es) [] pos) Z H Q:=by
 unfold eA
 intro pins s I
 unfold eL at h
 refine EA (lc I hg hm ?_ hdb)
 refine LK (h₀:=X.base) I.ok.mod.kin hk (thn (h pos pins s I) λus s1 ⟨vs,H1,I1,r,q⟩=>⟨I1.kIn,?_⟩) he hpl
 exact wx F hr hb hx I1 r q
end
section
variable {k:Nat} {mf:List D->M D} {ml:List D->M (List D)} {m1:List D->List D->M (D×List D)} {m1L:List D->List D->M (List D×List D)} {pn:Pos} {ps:Pa D} {pl:Pa (List D)} {ms:Ev S (List D)}
theorem dZ(C:CF X.prog X.w X.K X.mg X.base x k (spD X.K n mf))(hr:Room k X.A)(ha:AA X (e::es) ps)(hg:Gl X x:=by rfl)(hn:(e::es).length=n:=by rfl)
  (hdb:(x==("__debug__" : Str))=false:=by decide) (he:starEach (e::es) X.env=(false,eval e X.env)::starEach es X.env:=by rfl) (hpl:(backTo pos (starEach es X.env)).any (·.1)=false:=by rfl):AP X (.Call (.Name x p) (e::es) [] pos) (KI mf ps):=by
 obtain⟨f,fd,pl,Fn,h1,h2,h3⟩:=C.ex
 intro G F Z H ρ Q St w
 refine iA Fn hr hg h1 h2 h3 (oj (G:=G)) hdb he hpl ?_
 refine ha G F Z H ρ _ _ _ St w λds vs F1 H1 s1 S1 hl r1 w1=>?_
 show spD X.K n mf vs H1 Q (EX X G Z)
 cases hd:mf ds with
 | bad=>rw[hd]at w1;exact w1.elim
 | exc e =>
  rw[hd]at w1
  exact⟨_,F1,ds,hl.trans hn,fJ S1 r1,by rw[hd];exact λF' H' Cl dd g xr=>EX.of S1 w1 g xr⟩
 | ret d =>
  rw[hd]at w1
  refine⟨_,F1,ds,hl.trans hn,fJ S1 r1,?_⟩
  rw[hd]
  intro v F2 H2 s2 S2 r2
  obtain⟨S3,t3⟩:=j9 (avs':=ds.map AV.fz) S1 s2 S2
  exact w1 F2 H2 s2 S3 v r2
theorem JR(C:CF X.prog X.w X.K X.mg X.base x k (spL X.K n ml))(hr:Room k X.A)(ha:AA X (e::es) pl)(hg:Gl X x:=by rfl)(hn:(e::es).length=n:=by rfl)
  (hdb:(x==("__debug__" : Str))=false:=by decide) (he:starEach (e::es) X.env=(false,eval e X.env)::starEach es X.env:=by rfl) (hpl:(backTo pos (starEach es X.env)).any (·.1)=false:=by rfl):AL X (.Call (.Name x p) (e::es) [] pos) (KG ml pl):=by
 obtain⟨f,fd,pz,Fn,h1,h2,h3⟩:=C.ex
 intro G F Z H ρ Q St w
 refine iA Fn hr hg h1 h2 h3 (oj (G:=G)) hdb he hpl ?_
 refine ha G F Z H ρ _ _ _ St w λds vs F1 H1 s1 S1 hl r1 w1=>?_
 show spL X.K n ml vs H1 Q (EX X G Z)
 cases hd:ml ds with
 | bad=>rw[hd]at w1;exact w1.elim
 | exc e =>
  rw[hd]at w1
  exact⟨_,F1,ds,hl.trans hn,fJ S1 r1,by rw[hd];exact λF' H' Cl dd g xr=>EX.of S1 w1 g xr⟩
 | ret d =>
  rw[hd]at w1
  refine⟨_,F1,ds,hl.trans hn,fJ S1 r1,?_⟩
  rw[hd]
  intro v F2 H2 s2 S2 r2
  obtain⟨S3,t3⟩:=j9 (avs':=ds.map AV.fz) S1 s2 S2
  exact w1 F2 H2 s2 S3 v (t3 v _ r2)
theorem zE{f g:List D}(h:iM ρ i=some g):su ρ i f=setC ρ i (.l f):=mJ ρ i f g h
theorem FG(C:CF X.prog X.w X.K X.mg X.base x k (spD X.K n mf))(hr:Room k X.A)(ha:AEa X (e::es) ms)(hg:Gl X x:=by rfl)(hn:(e::es).length=n:=by rfl)
  (hdb:(x==("__debug__" : Str))=false:=by decide) (he:starEach (e::es) X.env=(false,eval e X.env)::starEach es X.env:=by rfl) (hpl:(backTo pos (starEach es X.env)).any (·.1)=false:=by rfl):AE X (.Call (.Name x p) (e::es) [] pos) (K6 mf ms):=by
 obtain⟨f,fd,pl,Fn,h1,h2,h3⟩:=C.ex
 intro OK y kk G F Z H ρ Q hO hX St ok k2
 refine iA Fn hr hg h1 h2 h3 (oj (G:=G)) hdb he hpl ?_
 refine ha OK y _ G F Z H ρ _ hO hX St ok λds vs F1 H1 ρ1 s1 S1 hl r1 o1=>?_
 show spD X.K n mf vs H1 Q (EX X G Z)
 cases hd:mf ds with
 | bad=>rw[hd]at o1;exact(hO o1).elim
 | exc e =>
  rw[hd]at o1
  exact⟨_,F1,ds,hl.trans hn,fJ S1 r1,by rw[hd];exact λF' H' Cl dd g xr=>EX.of S1 (hX F1 ρ1 e o1) g xr⟩
 | ret d =>
  rw[hd]at o1
  refine⟨_,F1,ds,hl.trans hn,fJ S1 r1,?_⟩
  rw[hd]
  intro v F2 H2 s2 S2 r2
  obtain⟨S3,t3⟩:=j9 (avs':=ds.map AV.fz) S1 s2 S2
  exact k2 d v F2 H2 ρ1 (s1.trans s2) S3 r2 o1
theorem xH{OK:M S->Prop}{z:Ex->En->M S}{kk:List D->En->M S}{Q:List V->Hp->Prop}(hN:X.N[i]? = some y)(hv:Vis X.env.scope y)(hd:(y==("__debug__" : Str))=false)(hcd:(y==("__classdict__" : Str))=false)
  (ha:AEa X es ms) (he:starEach (.Name y pn::es) X.env=(false,eval (.Name y pn) X.env)::starEach es X.env) (hO:KOk OK) (hX:XL X OK z G) (St:StOk X.K G F Z H ρ) (ok:OK (ms z (λds ρ1=>match iM ρ1 i with|some f=>kk (.list f::ds) ρ1|none=>.bad) ρ))
  (h0:(iM ρ i).isSome=true)
  (k2:∀a f ds vs F' H' ρ',Same F F'->StOk X.K G F' Z H' ρ'->iM ρ' i=some f->Z[i]? = some (some (V.ref a))->vs.length=es.length->RepL X.K F' vs ds->OK (kk (.list f::ds) ρ')->Q (.ref a::vs) H'):eL X (.Name y pn::es) Z H Q:=by
 obtain⟨f0,hf0⟩:=Option.isSome_iff_exists.mp h0
 obtain⟨a,_,ea,_,_⟩:=kE St hf0
 refine uw (eH (dD hN hv hd hcd) cx he) ⟨_,ea,?_⟩
 refine ha OK z _ G F Z H ρ _ hO hX St ok λds vs F1 H1 ρ1 s1 S1 hl r1 o1=>?_
 split at o1
 ·rename_i f hf
  exact k2 a f ds vs F1 H1 ρ1 s1 S1 hf ea hl r1 o1
 ·exact(hO o1).elim
def ck{S α:Type}(i:Nat)(m:Ev S α):Ev S α:=λx k ρ=>match (iM ρ i).isSome with
 | true=>m x k ρ
 | false=>.bad
theorem pR{ds f:List D}(S:StOk K G F Z H ρ)(hj:iM ρ j=some f)(ha:Z[j]? = some (some (V.ref a)))(r:RepL K F vs ds) :
  StOk K ⟨P1 a,bw G Z ρ H (some a),F⟩ F ((V.ref a::vs).map some) H (some (.op (.l f))::fzs ds):=ju S (kF hj) ha r
theorem bx(C:CF X.prog X.w X.K X.mg X.base x k (sp1 X.K n m1))(hr:Room k X.A)(ha:AEa X es ms)(hg:Gl X x:=by rfl)(hN:X.N[i]? = some y:=by rfl)(hv:Vis X.env.scope y:=by exact vi rfl)(hn:es.length+1=n:=by rfl)
  (hdb:(x==("__debug__" : Str))=false:=by decide) (he:starEach (.Name y pn::es) X.env=(false,eval (.Name y pn) X.env)::starEach es X.env:=by rfl) (hpl:(backTo pos (starEach es X.env)).any (·.1)=false:=by rfl)
  (hd:(y==("__debug__" : Str))=false:=by decide) (hcd:(y==("__classdict__" : Str))=false:=by decide):AE X (.Call (.Name x p) (.Name y pn::es) [] pos) (ck i (K7 m1 i ms)):=by
 obtain⟨f,fd,pl,Fn,h1,h2,h3⟩:=C.ex
 intro OK z kk G F Z H ρ Q hO hX St ok k2
 unfold ck at ok
 split at ok
 case h_2=>exact(hO ok).elim
 rename_i h0
 refine iA Fn hr hg h1 h2 h3 (oj (G:=G)) hdb he hpl ?_
 refine xH (OK:=OK) (z:=z) (kk:=λl ρ1=>match l with | .list f::ds=>(m1 f ds).on (λe=>z e ρ1) (λr=>kk r.1 (su ρ1 i r.2))|_=>.bad) hN hv hd hcd ha he hO hX St ok h0 λa f ds vs F1 H1 ρ1 s1 S1 hf ea hl r1 o1=>?_
 have o1':OK ((m1 f ds).on (λe=>z e ρ1) (λr=>kk r.1 (su ρ1 i r.2))):=o1
 show sp1 X.K n m1 (V.ref a::vs) H1 Q (EX X G Z)
 cases hd:m1 f ds with
 | bad=>rw[hd]at o1';exact(hO o1').elim
 | exc e =>
  rw[hd]at o1'
  exact⟨_,F1,f,ds,by simp[hl];exact hn,pR S1 hf ea r1,by rw[hd];exact λF' H' Cl dd g xr=>EX.of S1 (hX F1 ρ1 e o1') g xr⟩
 | ret r =>
  rw[hd]at o1'
  refine⟨_,F1,f,ds,by simp[hl];exact hn,pR S1 hf ea r1,?_⟩
  rw[hd]
  intro v F2 H2 s2 S2 r2
  obtain⟨S3,t3⟩:=ka (c':=.l r.2) (l:=ds.map AV.fz) S1 (kF hf) ea s2 S2
  rw[<-zE hf]at S3
  exact k2 r.1 v F2 H2 _ (s1.trans s2) S3 r2 o1'
end
theorem CF.zero(k n:Nat)(h1:mg x=some (.ref f))(h2:PySem.W.keepIn K (.ref f)=true)(h3:L2.Binds K fd ps []) :
  CF P w K mg base x k (spD K n λ_=>.bad):=⟨f,fd,ps,⟨λvs H Q E h=>(by obtain⟨_,_,_,_,_,z⟩:=h;exact z.elim),λA outer s H args us vs Q E hr e0 hb hv h=>(by obtain⟨_,_,_,_,_,z⟩:=h;exact z.elim)⟩,h1,h2,h3⟩
theorem CF.zero1(k n:Nat)(h1:mg x=some (.ref f))(h2:PySem.W.keepIn K (.ref f)=true)(h3:L2.Binds K fd ps []) :
  CF P w K mg base x k (sp1 K n λ_ _=>.bad):=⟨f,fd,ps,⟨λvs H Q E h=>(by obtain⟨_,_,_,_,_,_,z⟩:=h;exact z.elim),λA outer s H args us vs Q E hr e0 hb hv h=>(by obtain⟨_,_,_,_,_,_,z⟩:=h;exact z.elim)⟩,h1,h2,h3⟩
theorem _root_.L2.Room.m{k:Nat}(r:Room k A)(h:j<=k:=by decide):Room j A:=r.mono h
theorem aA{k:Nat}(r:Room k A):A.units+1100<cLine:=by have:=r.un;lia
def noX{S:Type}(m:M S):M S:=match m with
 | .ret s=>.ret s
 | _=>.bad
theorem fm(s:S):noX (M.ret s)=.ret s:=rfl
def bg(step:D->M (Option D)):List D->M (List D)
 | []=>.ret []
 | d::r=>bd (noX (step d)) λo=>bd (bg step r) λxs=>.ret (o.toList++xs)
theorem vB{step:D->M (Option D)}:∀{ds:List D} {e:Ex},bg step ds≠.exc e
 | [],e,h=>by cases h
 | d::r,e,h=>by
  unfold bg at h
  cases hs:step d with
  | ret o =>
   rw[hs,fm,gy]at h
   cases hr:bg step r with
   | ret xs=>rw[hr]at h;cases h
   | exc e'=>exact vB hr
   | bad=>rw[hr]at h;cases h
  | exc e'=>rw[hs]at h;cases h
  | bad=>rw[hs]at h;cases h
def yy(k:Nat)(it:Pu (List D))(t:Tg (Option D))(pt:Pu Bool)(pe:Pu D):Pu (List D):=λρ=>bd (it ρ) λds =>
 bd (bg (λd=>t d (λρ1=>bd (pt ρ1) λb=>if b then bd (pe ρ1) λv=>.ret (some v)else .ret none) (ρ++List.replicate k none)) ds) eO
def cZ{T:Type}(step:T->D->M (Option D×T)):List D->T->M (List D×T)
 | [],s=>.ret ([],s)
 | d::r,s=>bd (noX (step s d)) λp=>bd (cZ step r p.2) λq=>.ret (p.1.toList++q.1,q.2)
theorem vA{T:Type}{step:T->D->M (Option D×T)}:∀{ds:List D} {s:T} {e:Ex},cZ step ds s≠.exc e
 | [],s,e,h=>by cases h
 | d::r,s,e,h=>by
  unfold cZ at h
  cases hs:step s d with
  | ret o =>
   rw[hs,fm,gy]at h
   cases hr:cZ step r o.2 with
   | ret xs=>rw[hr]at h;cases h
   | exc e'=>exact vA hr
   | bad=>rw[hr]at h;cases h
  | exc e'=>rw[hs]at h;cases h
  | bad=>rw[hs]at h;cases h
def Ce{S:Type}(sh:List Kd)(k:Nat)(it:Ev S (List D))(t:Tg (Option D×SOf sh))(et:Ev (Option D×SOf sh) Bool)(ee:Ev (Option D×SOf sh) D):Ev S (List D):=λx kk ρ=>it x (λds ρ1=>rdk sh (λs =>
 (cZ (λs d=>t d (λρ2=>et (λe _=>.exc e) (λb ρ3=>if b then ee (λe _=>.exc e) (λv ρ4=>rdk sh (λs'=>.ret (some v,s')) (ρ4.take sh.length)) ρ3 else rdk sh (λs'=>.ret (none,s')) (ρ3.take sh.length)) ρ2) (wr sh s++List.replicate k none)) ds s).on
  (λe=>x e ρ1) (λq=>(eO q.1).on (λe=>x e ρ1) (λout=>kk out (wr sh q.2)))) ρ1) ρ
def IZ:Pu Bool:=λ_=>.ret true
def ATs(X:Cx)(ifs:List Expr)(p:Pu Bool):Prop :=
 ∀(G:Gh) (F:Hp) (Z:L2.St) (H:Hp) (ρ:En) (Q:Bool->Hp->Prop),StOk X.K G F Z H ρ->W X G F Z ρ (p ρ) (λd F' H'=>Q d H')->∀(pins:zzk) (s:Shared),Inv X pins Z H s ->
  wpAny (model X.prog X.w) X.A (forIn ifs true λc r=>if r=true then do let ok <-isTrue c X.env (eval c X.env);pure (ForInStep.yield ok)else pure (ForInStep.yield r)) (TP X pins Z Q) X.xe s
theorem fD:ATs X [] IZ:=λG F Z H ρ Q S w pins s I=>Du pins s Z H Q I (w F H (Same.refl _) S)
theorem nE{c:Expr}{p:Pu Bool}(h:AT X c p):ATs X [c] p:=λG F Z H ρ Q S w pins s I=>ym fO pins s Z H Q I (h G F Z H ρ Q S w)
def C5{S:Type}(X:Cx)(ifs:List Expr)(m:Ev S Bool):Prop :=
 ∀(OK:M S->Prop) (x:Ex->En->M S) (k:Bool->En->M S) (G:Gh) (F:Hp) (Z:L2.St) (H:Hp) (ρ:En) (Q:Bool->Hp->Prop),KOk OK->XL X OK x G->StOk X.K G F Z H ρ->OK (m x k ρ) ->
  (∀d F' H' ρ',Same F F'->StOk X.K G F' Z H' ρ'->OK (k d ρ')->Q d H')->∀(pins:zzk) (s:Shared),Inv X pins Z H s ->
  wpAny (model X.prog X.w) X.A (forIn ifs true λc r=>if r=true then do let ok <-isTrue c X.env (eval c X.env);pure (ForInStep.yield ok)else pure (ForInStep.yield r)) (TP X pins Z Q) X.xe s
theorem zr{ifs:List Expr}{p:Pu Bool}(h:ATs X ifs p):C5 (S:=S) X ifs (ePu p):=λOK x k G F Z H ρ Q hO hX St ok kk=>h G F Z H ρ Q St (W.of hO hX ok λd F' H' s S' o=>kk d F' H' ρ s S' o)
theorem CO{c:Expr}{m:Ev S Bool}(h:AEt X c m):C5 X [c] m:=λOK x k G F Z H ρ Q hO hX St ok kk pins s I=>ym fO pins s Z H Q I (h OK x k G F Z H ρ Q hO hX St ok kk)
theorem W.rets{m:M α}{a:α}{C:α->Hp->Hp->Prop}(e:m=.ret a)(h:∀F' H',Same F F'->StOk X.K G F' Z H' ρ->C a F' H'):W X G F Z ρ m C:=by subst e;exact h
theorem Ax:∀(sh:List Kd) (s:SOf sh),(wr sh s).length=sh.length:=by
 intro sh
 induction sh with
 | nil=>intro s;rfl
 | cons a r ih=>intro s;cases a<;>simp[wr,ih]
inductive CIv{τ:Type}(K:Fg)(G:Gh)(Z:L2.St)(k:Nat)(ds:List D)(F1:Hp)(en:τ->En)(go:Nat->τ->List D->Prop)(out:List D):Nat->Nat->List V->L2.St->Hp->Prop
 | mk {i:Nat} {vs:List V} {σ':L2.St} {H':Hp} (F':Hp) (acc rest:List D) (s:τ) (hi:i<=ds.length) (s2:Same F1 F') (S2:StOk K G F' σ' H' (en s)) (kp:∀j,j<Z.length->σ'[j]? = Z[j]?) (hl:σ'.length=Z.length+k) (rp:RepL K F' vs acc) (g:go i s rest) (eo:out=acc++rest):CIv K G Z k ds F1 en go out i (ds.length - i) vs σ' H'
theorem CIv.on{τ:Type}{k:Nat}{ds:List D}{F1:Hp}{en:τ->En}{go:Nat->τ->List D->Prop}{out:List D}{σ':L2.St}(F':Hp)(acc rest:List D)(s:τ)(hi:i<ds.length)(s2:Same F1 F')(S2:StOk K G F' σ' H' (en s))(kp:∀j,j<Z.length->σ'[j]? = Z[j]?)(hl:σ'.length=Z.length+k)(rp:RepL K F' vs acc)(g:go (i+1) s rest)(eo:out=acc++rest):∃m',m'<ds.length - i/\CIv K G Z k ds F1 en go out (i+1) m' vs σ' H' :=
 ⟨ds.length - (i+1),by lia,⟨F',acc,rest,s,hi,s2,S2,kp,hl,rp,g,eo⟩⟩
theorem xD{step:D->M (Option D)}{d:D}{r rest:List D}(h:bg step (d::r)=.ret rest):∃o rest',step d=.ret o/\bg step r=.ret rest'/\rest=o.toList++rest':=by
 unfold bg at h
 cases hs:step d with
 | bad=>rw[hs]at h;cases h
 | exc e=>rw[hs]at h;cases h
 | ret o =>
  rw[hs,fm,gy]at h
  cases hr:bg step r with
  | bad=>rw[hr]at h;cases h
  | exc e=>rw[hr]at h;cases h
  | ret rest'=>rw[hr,gy]at h;cases h;exact⟨o,rest',rfl,rfl,rfl⟩
theorem xC{T:Type}{step:T->D->M (Option D×T)}{d:D}{r rest:List D}{s sf:T}(h:cZ step (d::r) s=.ret (rest,sf)):∃o sn rest',step s d=.ret (o,sn)/\cZ step r sn=.ret (rest',sf)/\rest=o.toList++rest':=by
 unfold cZ at h
 cases hs:step s d with
 | bad=>rw[hs]at h;cases h
 | exc e=>rw[hs]at h;cases h
 | ret o =>
  obtain⟨o,sn⟩:=o
  rw[hs,fm,gy]at h
  cases hr:cZ step r sn with
  | bad=>rw[hr]at h;cases h
  | exc e=>rw[hr]at h;cases h
  | ret q'=>obtain⟨rest',sf'⟩:=q';rw[hr,gy]at h;cases h;exact⟨o,sn,rest',rfl,hr,rfl⟩
theorem rW{A B:Type}{m:M A}{f:A->M B}{b:B}(h:bd m f=.ret b):∃a,m=.ret a/\f a=.ret b:=by
 cases m with
 | bad=>cases h
 | exc e=>cases h
 | ret a=>exact⟨a,rfl,h⟩
section
def qJ(X:Cx)(N':List Str)(scope:Scope)(tg:Expr):TG:=λv Z H Q=>∀cl s H0 fp C,qH (bp X N' scope cl s H0 fp C) tg v Z H Q
def qI(X:Cx)(N':List Str)(scope:Scope)(ifs:List Expr):TT:=λZ H Q=>∀cl s0 H0 fp C,∀(pins:zzk) (s:Shared),Inv (bp X N' scope cl s0 H0 fp C) pins Z H s ->
  wpAny (model X.prog X.w) (bp X N' scope cl s0 H0 fp C).A (forIn ifs true λc r=>if r=true then do let ok <-isTrue c (bp X N' scope cl s0 H0 fp C).env (eval c (bp X N' scope cl s0 H0 fp C).env);pure (ForInStep.yield ok)else pure (ForInStep.yield r)) (TP (bp X N' scope cl s0 H0 fp C) pins Z Q) (bp X N' scope cl s0 H0 fp C).xe s
def qK(X:Cx)(N':List Str)(scope:Scope)(e:Expr):TE:=λZ H Q=>∀cl s H0 fp C,eA (bp X N' scope cl s H0 fp C) e Z H Q
variable {elt iter:Expr} {ifs:List Expr} {scope:Scope} {N':List Str} {k:Nat}
theorem zf{it:Pu (List D)}{t:Tg (Option D)}{pt:Pu Bool}{pe:Pu D}(hi:AI X tg iter it)
  (hg:∀cl s H fp C,AG (bp X N' scope cl s H fp C) X.N.length tg t) (ht:∀cl s H fp C,ATs (bp X N' scope cl s H fp C) ifs pt) (he:∀cl s H fp C,AP (bp X N' scope cl s H fp C) elt pe)
  (hσ:Z.length=X.N.length) (St:StOk X.K G F Z H ρ) (w:W X G F Z ρ (yy k it t pt pe ρ) λds F' H'=>∀v,Frs X.K G F' Z H' ρ v (.l ds)->Q v H') :
  xY (h8 X tg iter) k (qJ X N' scope tg) (qI X N' scope ifs) (qK X N' scope elt) Z H Q:=by
 refine hi G F Z H ρ _ St (w.bind.imp λds F1 H1 s1 S1 w1 J wk=>?_)
 have hP:∀i a,G.P i=some a->i<Z.length:=λi a h=>(List.getElem?_eq_some_iff.mp (S1.pp i a h).1).1
 have hln:Z.length=ρ.length:=S1.ln
 have wc:=w1.bind
 revert wc
 generalize hstep:(λd=>t d (λρ1=>bd (pt ρ1) λb=>if b then bd (pe ρ1) λv=>.ret (some v)else .ret none) (ρ++List.replicate k none))=step
 intro wc
 cases hcc:bg step ds with
 | bad=>rw[hcc]at wc;exact wc.elim
 | exc e=>exact(vB hcc).elim
 | ret out =>
  rw[hcc]at wc
  have wf:∀F' H',Same F1 F'->StOk X.K G F' Z H' ρ->W X G F' Z ρ (eO out) λds F' H'=>∀v,Frs X.K G F' Z H' ρ v (.l ds)->Q v H':=wc
  have hfit:out.length<=sizeLine:=(wf F1 H1 (Same.refl _) S1).fit.1
  have fin:∀F' H',Same F1 F'->StOk X.K G F' Z H' ρ->∀v,Frs X.K G F' Z H' ρ v (.l out)->Q v H':=λF' H' s' S'=>(wf F' H' s' S').fit.2 F' H' (Same.refl _) S'
  have grown:∀{F' H' σ' ρ'},StOk X.K G F' σ' H' ρ'->(∀j,j<Z.length->σ'[j]? = Z[j]? /\ ρ'[j]? = ρ[j]?)->σ'.length=Z.length+k->StOk X.K G F' σ' H' (ρ++List.replicate k none):=λ{F' H' σ' ρ'} S' kp hl=>by
   refine S'.weak (by have:=S'.ln;simp;lia) (λi av q=>?_) (λi c q=>?_)
   ·have q':=gJ q
    have hi:i<Z.length:=by rw[hln];exact(List.getElem?_eq_some_iff.mp q').1
    rw[(kp i hi).2];exact q'
   ·obtain⟨a,ha⟩:=S'.pq i c q
    have hi:=hP i a ha
    rw[eT (by lia),<-(kp i hi).2]
    exact q
  refine⟨CIv X.K G Z k ds F1 (λ_:Unit=>ρ++List.replicate k none) (λi _ rest=>bg step (ds.drop i)=.ret rest) out,
   ⟨_,⟨F1,[],out,(),eE _,Same.refl _,S1.grow k,λj hj=>by rw[eT hj],by simp,.nil,hcc,rfl⟩⟩,?_⟩
  rintro i m vs σ' H' ⟨F',acc,rest,_,hi,s2,S2,kp,hlen,rp,go,eo⟩
  refine⟨by rw[rp.length];rw[eo,zzf]at hfit;lia,?_⟩
  by_cases hlt:i<ds.length
  ·refine .inr ⟨wk.go i G F' σ' H' _ s2 S2 hlt,λx H2 y cl s0 H0 fp C=>?_⟩
   obtain⟨F3,s3,S3,r3⟩:=wk.yld i G F' σ' H' _ x H2 ds[i] s2 S2 (LZ hlt) y
   rw[LS hlt]at go
   obtain⟨o,rest',hst,hr,er⟩:=xD go
   subst er
   clear go
   rw[<-hstep]at hst
   refine hg cl s0 H0 fp C (λm=>m=.ret o) _ G F3 σ' H2 _ x ds[i] _ (λz=>nomatch z) S3 r3 hst λσ3 ρ3 S4 kp3 hl3 ml3 o4=>?_
   have kp':∀j,j<Z.length->σ3[j]? = Z[j]? /\ ρ3[j]? = ρ[j]?:=λj hj=>⟨((kp3 j (by lia)).1).trans (kp j hj),by rw[(kp3 j (by lia)).2,eT (by lia)]⟩
   obtain⟨b,hpt,o4⟩:=rW o4
   intro cl s0 H0 fp C
   refine ht cl s0 H0 fp C G F3 σ3 H2 ρ3 _ S4 (W.rets hpt λF5 H5 s5 S5=>?_)
   cases b with
   | true =>
    refine vg ?_
    obtain⟨v,hpe,o5⟩:=rW (m:=pe ρ3) o4
    cases o5
    intro cl s0 H0 fp C
    refine he cl s0 H0 fp C G F5 σ3 H5 ρ3 _ S5 (W.rets hpe λF6 H6 s6 S6 u ru=>?_)
    exact CIv.on F6 (acc++[v]) rest' () hlt (((s2.trans s3).trans s5).trans s6) (grown S6 kp' (by lia)) (λj hj=>(kp' j hj).1) (by lia) ((rp.mono ((s3.trans s5).trans s6)).append (.cons ru .nil)) hr (by rw[eo];simp)
   | false =>
    refine vh ?_
    have o4':(M.ret none:M (Option D))=M.ret o:=o4
    cases o4'
    exact CIv.on F5 acc rest' () hlt ((s2.trans s3).trans s5) (grown S5 kp' (by lia)) (λj hj=>(kp' j hj).1) (by lia) (rp.mono (s3.trans s5)) hr (by rw[eo];simp)
  ·have ei:i=ds.length:=by lia
   subst ei
   rw[List.drop_length]at go
   cases go
   rw[iz]at eo
   subst eo
   refine .inl ⟨wk.stop G F' σ' H' _ s2 S2,λp hp=>?_⟩
   have Ssh:=S2.shrink (n:=Z.length) (by simp;lia) hP
   have e1:σ'.take Z.length=Z:=nI kp rfl
   have e2:(ρ++List.replicate k none).take Z.length=ρ:=by rw[hln,List.take_left]
   rw[e1,e2]at Ssh
   obtain⟨S5,r5⟩:=Ssh.newLst hp rp
   exact fin F' _ s2 S5 _ r5
theorem gl{it:Pu (List D)}{t:Tg (Option D)}{pt:Pu Bool}{pe:Pu D}(hc:X.calm=true)(Sc:CompOk X N' k scope)(hi:AI X tg iter it)
  (hg:∀cl s H fp C,AG (bp X N' scope cl s H fp C) X.N.length tg t) (ht:∀cl s H fp C,ATs (bp X N' scope cl s H fp C) ifs pt) (he:∀cl s H fp C,AP (bp X N' scope cl s H fp C) elt pe)
  (hs:∀x,foldedSetIterable iter X.env x=pure x:=by exact λ_=>rfl):AL X (.ListComp elt [⟨tg,iter,ifs,0⟩] scope pos) (yy k it t pt pe):=by
 intro G F Z H ρ Q St w;unfold eA;intro pins s I
 refine yw (wi:=h8 X tg iter) (g:=qJ X N' scope tg) (tc:=qI X N' scope ifs) (te:=qK X N' scope elt) hc Sc (λx hx hf=>I.ok.has x.1 (Sc.free x hx hf)) n8
  (λcl s H fp C pins s' Z H v u Q I r h=>jU pins s' Z H v u Q I r (h cl _ _ fp C)) (λcl s H fp C pins s' Z H Q I h=>h cl _ _ fp C pins s' I) (λcl s H fp C pins s' Z H Q I h=>aI pins s' Z H Q I (h cl _ _ fp C)) hs pins s Z H Q I (zf hi hg ht he I.len St w)
theorem vq{sh:List Kd}{it:Ev S (List D)}{t:Tg (Option D×SOf sh)}{et:Ev (Option D×SOf sh) Bool}{ee:Ev (Option D×SOf sh) D}{OK:M S->Prop}{x:Ex->En->M S}{kk:List D->En->M S}(hi:AEi X tg iter it)
  (hg:∀cl s H fp C,AG (bp X N' scope cl s H fp C) X.N.length tg t) (ht:∀cl s H fp C,C5 (bp X N' scope cl s H fp C) ifs et) (he:∀cl s H fp C,AE (bp X N' scope cl s H fp C) elt ee)
  (hσ:Z.length=X.N.length) (hO:KOk OK) (hX:XL X OK x G) (St:StOk X.K G F Z H ρ) (ok:OK (Ce sh k it t et ee x kk ρ)) (k2:∀ds v F' H' ρ',Same F F'->StOk X.K G F' Z H' ρ'->Frs X.K G F' Z H' ρ' v (.l ds)->OK (kk ds ρ')->Q v H') :
  xY (h8 X tg iter) k (qJ X N' scope tg) (qI X N' scope ifs) (qK X N' scope elt) Z H Q:=by
 refine hi OK x _ G F Z H ρ _ hO hX St ok λds J F1 H1 ρ1 s1 S1 wk o1=>?_
 obtain⟨s0,e0,o0⟩:=jQ hO o1
 clear o1
 have S0:=S1.rd e0
 have hshl:sh.length=Z.length:=(Ax sh s0).symm.trans S0.ln.symm
 have hlen0:∀s:SOf sh,(wr sh s).length=Z.length:=λs=>(Ax sh s).trans hshl
 have hP:∀i a,G.P i=some a->i<Z.length:=λi a h=>(List.getElem?_eq_some_iff.mp (S1.pp i a h).1).1
 revert o0
 generalize hstep:(λ(s:SOf sh) d=>t d (λρ2=>et (λe _=>.exc e) (λb ρ3=>if b then ee (λe _=>.exc e) (λv ρ4=>rdk sh (λs'=>.ret (some v,s')) (ρ4.take sh.length)) ρ3 else rdk sh (λs'=>.ret (none,s')) (ρ3.take sh.length)) ρ2) (wr sh s++List.replicate k none))=step
 intro o0
 cases hcc:cZ step ds s0 with
 | bad=>rw[hcc]at o0;exact(hO o0).elim
 | exc e=>exact(vA hcc).elim
 | ret q =>
  obtain⟨out,sf⟩:=q
  rw[hcc,GG]at o0
  obtain⟨hfit,o0⟩:=Hi hO o0
  have again:∀{F' H' σ' ρ'} {s':SOf sh},StOk X.K G F' σ' H' ρ'->(∀j,j<Z.length->σ'[j]? = Z[j]?)->σ'.length=Z.length+k->rd sh (ρ'.take sh.length)=some s'->StOk X.K G F' σ' H' (wr sh s'++List.replicate k none):=λ{F' H' σ' ρ' s'} S' kp hl e'=>by
   obtain⟨h1,h2,h3⟩:=iK sh _ s' e'
   have hρ':ρ'.length=Z.length+k:=by rw[<-S'.ln];exact hl
   refine S'.weak (by simp[hlen0];lia) (λi av q=>?_) (λi c q=>?_)
   ·have q':=gJ q
    have:=h2 i av q'
    have hi:i<sh.length:=by
     have:=(List.getElem?_eq_some_iff.mp this).1
     rw[ls]at this;lia
    rw[gi hi]at this
    exact this
   ·obtain⟨a,ha⟩:=S'.pq i c q
    have hi:=hP i a ha
    rw[eT (by rw[hlen0];exact hi)]
    exact h3 i c (by rw[gi (by lia)];exact q)
  refine⟨CIv X.K G Z k ds F1 (λs=>wr sh s++List.replicate k none) (λi s rest=>cZ step (ds.drop i) s=.ret (rest,sf)) out,
   ⟨_,⟨F1,[],out,s0,eE _,Same.refl _,S0.grow k,λj hj=>by rw[eT hj],by simp,.nil,hcc,rfl⟩⟩,?_⟩
  rintro i m vs σ' H' ⟨F',acc,rest,sc,hi,s2,S2,kp,hlen,rp,go,eo⟩
  refine⟨by rw[rp.length];rw[eo,zzf]at hfit;lia,?_⟩
  by_cases hlt:i<ds.length
  ·refine .inr ⟨wk.go i G F' σ' H' _ s2 S2 hlt,λx H2 y cl sx H0 fp C=>?_⟩
   obtain⟨F3,s3,S3,r3⟩:=wk.yld i G F' σ' H' _ x H2 ds[i] s2 S2 (LZ hlt) y
   rw[LS hlt]at go
   obtain⟨o,sn,rest',hst,hr,er⟩:=xC go
   subst er
   clear go
   rw[<-hstep]at hst
   refine hg cl sx H0 fp C (λm=>m=.ret (o,sn)) _ G F3 σ' H2 _ x ds[i] _ (λz=>nomatch z) S3 r3 hst λσ3 ρ3 S4 kp3 hl3 ml3 o4=>?_
   have kp':∀j,j<Z.length->σ3[j]? = Z[j]?:=λj hj=>((kp3 j (by lia)).1).trans (kp j hj)
   intro cl sx H0 fp C
   refine ht cl sx H0 fp C (λm=>m=.ret (o,sn)) (λe _=>.exc e) _ G F3 σ3 H2 ρ3 _ (λz=>nomatch z) (λF ρ e z=>nomatch z) S4 o4 λb F5 H5 ρ5 s5 S5 o5=>?_
   cases b with
   | true =>
    refine vg ?_
    intro cl sx H0 fp C
    refine he cl sx H0 fp C (λm=>m=.ret (o,sn)) (λe _=>.exc e) _ G F5 σ3 H5 ρ5 _ (λz=>nomatch z) (λF ρ e z=>nomatch z) S5 o5 λv u F6 H6 ρ6 s6 S6 ru o6=>?_
    obtain⟨s',e',o'⟩:=jQ (OK:=λm=>m=.ret (o,sn)) (λz=>nomatch z) o6
    cases o'
    exact CIv.on F6 (acc++[v]) rest' sn hlt (((s2.trans s3).trans s5).trans s6) (again S6 kp' (by lia) e') kp' (by lia) ((rp.mono ((s3.trans s5).trans s6)).append (.cons ru .nil)) hr (by rw[eo];simp)
   | false =>
    refine vh ?_
    obtain⟨s',e',o'⟩:=jQ (OK:=λm=>m=.ret (o,sn)) (λz=>nomatch z) o5
    cases o'
    exact CIv.on F5 acc rest' sn hlt ((s2.trans s3).trans s5) (again S5 kp' (by lia) e') kp' (by lia) (rp.mono (s3.trans s5)) hr (by rw[eo];simp)
  ·have ei:i=ds.length:=by lia
   subst ei
   rw[List.drop_length]at go
   cases go
   rw[iz]at eo
   subst eo
   refine .inl ⟨wk.stop G F' σ' H' _ s2 S2,λp hp=>?_⟩
   have Ssh:=S2.shrink (n:=Z.length) (by simp[hlen0]) hP
   have e1:σ'.take Z.length=Z:=nI kp rfl
   have e2:(wr sh sf++List.replicate k none).take Z.length=wr sh sf:=by rw[<-hlen0 sf,List.take_left]
   rw[e1,e2]at Ssh
   obtain⟨S5,r5⟩:=Ssh.newLst hp rp
   exact k2 _ _ F' _ _ (s1.trans s2) S5 r5 o0
theorem vL{sh:List Kd}{it:Ev S (List D)}{t:Tg (Option D×SOf sh)}{et:Ev (Option D×SOf sh) Bool}{ee:Ev (Option D×SOf sh) D}(hc:X.calm=true)(Sc:CompOk X N' k scope)(hi:AEi X tg iter it)
  (hg:∀cl s H fp C,AG (bp X N' scope cl s H fp C) X.N.length tg t) (ht:∀cl s H fp C,C5 (bp X N' scope cl s H fp C) ifs et) (he:∀cl s H fp C,AE (bp X N' scope cl s H fp C) elt ee)
  (hs:∀x,foldedSetIterable iter X.env x=pure x:=by exact λ_=>rfl):AEl X (.ListComp elt [⟨tg,iter,ifs,0⟩] scope pos) (Ce sh k it t et ee):=by
 intro OK x kk G F Z H ρ Q hO hX St ok k2;unfold eA;intro pins s I
 refine yw (wi:=h8 X tg iter) (g:=qJ X N' scope tg) (tc:=qI X N' scope ifs) (te:=qK X N' scope elt) hc Sc (λx hx hf=>I.ok.has x.1 (Sc.free x hx hf)) n8
  (λcl s H fp C pins s' Z H v u Q I r h=>jU pins s' Z H v u Q I r (h cl _ _ fp C)) (λcl s H fp C pins s' Z H Q I h=>h cl _ _ fp C pins s' I) (λcl s H fp C pins s' Z H Q I h=>aI pins s' Z H Q I (h cl _ _ fp C)) hs pins s Z H Q I (vq hi hg ht he I.len hO hX St ok k2)
theorem kh{spos:Pos}{it:Pu (List D)}{t:Tg (Option D)}{pt:Pu Bool}{pe:Pu D}
  (hN:X.N.Nodup) (hy:X.N[i]? = some y) (hly:Loc X.env.scope y) (hfn:X.fn y=true\/X.env.scope.names.lookup y=some .local) (hc:X.calm=true) (Sc:CompOk X N' k scope) (hi:AI X tg iter it)
  (hg:∀cl s H fp C,AG (bp X N' scope cl s H fp C) X.N.length tg t) (ht:∀cl s H fp C,ATs (bp X N' scope cl s H fp C) ifs pt) (he:∀cl s H fp C,AP (bp X N' scope cl s H fp C) elt pe)
  (hsw:swapsWith (.ListComp elt [⟨tg,iter,ifs,0⟩] scope pos) (some (.Name y pos')) spos.line X.env=pure true) (hs:∀x,foldedSetIterable iter X.env x=pure x) :
  AS (S:=S) X (.Assign [.Name y pos'] (.ListComp elt [⟨tg,iter,ifs,0⟩] scope pos) spos) (FZ i (ePu (pZ (yy k it t pt pe)))):=by
 intro OK K G F Z H ρ E hO hX St ok eo;unfold ku;intro pins s I
 refine n4 (wi:=h8 X tg iter) (g:=qJ X N' scope tg) (tc:=qI X N' scope ifs) (te:=qK X N' scope elt) hN hy hly hfn hc Sc (λx hx hf=>I.ok.has x.1 (Sc.free x hx hf)) n8
  (λcl s H fp C pins s' Z H v u Q I r h=>jU pins s' Z H v u Q I r (h cl _ _ fp C)) (λcl s H fp C pins s' Z H Q I h=>h cl _ _ fp C pins s' I) (λcl s H fp C pins s' Z H Q I h=>aI pins s' Z H Q I (h cl _ _ fp C)) hsw hs pins s Z H E I ?_
 refine zf hi hg ht he I.len St ?_
 have w:W X G F Z ρ (pZ (yy k it t pt pe) ρ) (λd F' H'=>∀v,Rep X.K F' v d->vk i v Z H' E.nx):=W.of hO hX ok λd F' H' s S' o v r=>by
  have o':OK (match jC ρ i with|true=>K.nx (ρ.set i (some (.fz d)))|false=>.bad):=o
  split at o'
  ·rename_i ho
   obtain⟨hl,hop⟩:=eN ho
   exact eo.nx F' _ H' _ s (S'.store hop hl (.inl ⟨d,rfl,r⟩)) o'
  ·exact(hO o').elim
 refine w.bind.imp λds F' H' s1 S1 w1 v fr=>?_
 obtain⟨F2,s2,S2,r2⟩:=S1.settle (v:=v) (ds:=ds) fr
 exact w1 F2 H' s2 S2 v r2
theorem vI{spos:Pos}{sh:List Kd}{it:Ev S (List D)}{t:Tg (Option D×SOf sh)}{et:Ev (Option D×SOf sh) Bool}{ee:Ev (Option D×SOf sh) D}
  (hN:X.N.Nodup) (hy:X.N[i]? = some y) (hly:Loc X.env.scope y) (hfn:X.fn y=true\/X.env.scope.names.lookup y=some .local) (hc:X.calm=true) (Sc:CompOk X N' k scope) (hi:AEi X tg iter it)
  (hg:∀cl s H fp C,AG (bp X N' scope cl s H fp C) X.N.length tg t) (ht:∀cl s H fp C,C5 (bp X N' scope cl s H fp C) ifs et) (he:∀cl s H fp C,AE (bp X N' scope cl s H fp C) elt ee)
  (hsw:swapsWith (.ListComp elt [⟨tg,iter,ifs,0⟩] scope pos) (some (.Name y pos')) spos.line X.env=pure true) (hs:∀x,foldedSetIterable iter X.env x=pure x) :
  AS X (.Assign [.Name y pos'] (.ListComp elt [⟨tg,iter,ifs,0⟩] scope pos) spos) (FZ i (eZ (Ce sh k it t et ee))):=by
 intro OK K G F Z H ρ E hO hX St ok eo;unfold ku;intro pins s I
 refine n4 (wi:=h8 X tg iter) (g:=qJ X N' scope tg) (tc:=qI X N' scope ifs) (te:=qK X N' scope elt) hN hy hly hfn hc Sc (λx hx hf=>I.ok.has x.1 (Sc.free x hx hf)) n8
  (λcl s H fp C pins s' Z H v u Q I r h=>jU pins s' Z H v u Q I r (h cl _ _ fp C)) (λcl s H fp C pins s' Z H Q I h=>h cl _ _ fp C pins s' I) (λcl s H fp C pins s' Z H Q I h=>aI pins s' Z H Q I (h cl _ _ fp C)) hsw hs pins s Z H E I ?_
 refine vq hi hg ht he I.len hO hX St ok λds v F' H' ρ' s S' r o=>?_
 have o':OK (match jC ρ' i with|true=>K.nx (ρ'.set i (some (.fz (.list ds))))|false=>.bad):=o
 split at o'
 ·rename_i ho
  obtain⟨hl,hop⟩:=eN ho
  obtain⟨F2,s2,S2,r2⟩:=S'.settle (v:=v) (ds:=ds) r
  exact eo.nx F2 _ H' _ (s.trans s2) (S2.store hop hl (.inl ⟨_,rfl,r2⟩)) o'
 ·exact(hO o').elim
end
end L4
namespace HT
open PySem PySem.Spec PyProof.Rows
section
variable {prog:Program}{w:World}{A:Around}{E:zzj}{s:Shared}
theorem getItem_tuple_all{t sl:Addr}{items:Array Value}{vl vu:Value}{lo hi:Option Int}{Q:zzj}(ht:IsTup s.heap t items)(hs:s.heap.IsSliceOf sl vl vu .none)(pl:IsPart vl lo)(pu:IsPart vu hi)
  (hw:sIx items.size 0 lo=0/\sIx items.size items.size hi=items.size) (h:Q (.ref t) s):wpAny (model prog w) A (getItem (.ref t) (.ref sl)) Q E s:=by
 obtain⟨os,hos,hcs,hds⟩:=id hs
 have hTs:s.TypeIs (.ref sl) "slice":=⟨os,hos,hcs⟩
 unfold getItem
 try with_reducible refine ng ?_
 first|refine zza (zzb ?_)|skip
 refine zza (wpAny_sequenceKey ht.typeIs (by decide) ?_)
 refine zza (L6 (name:=Str.ofString "__getitem__") ht.typeIs ur
  (y3 ur ht.typeIs entry_tuple_getitem ?_ (args_tuple_getitem _ _)))
 show wpAny _ _ (Builtin.Tuple.tupleItemsOf (.ref t) >>= _) _ _ s
 refine zza (tupleItemsOf_ ht ?_)
 refine zza (wpAny_typeOf hTs ?_)
 rw[ai (by decide)]
 refine zza (gC hs pl pu ?_)
 have hyes:((((sIx items.size 0 lo:Nat):Int)==0&&(1:Int)==1&&(sIx items.size items.size hi - sIx items.size 0 lo)==items.size)=true):=by
  rw[hw.1,hw.2]
  simp
 show wpAny _ _ (if(((sIx items.size 0 lo:Nat):Int)==0&&(1:Int)==1&&(sIx items.size items.size hi - sIx items.size 0 lo)==items.size)=true then _ else _) _ _ s
 rw[ai hyes]
 obtain⟨o,ho,hc,n,hd⟩:=id ht
 have hex:∀{Q':Bool->Shared->Prop},Q' true s->wpAny (model prog w) A.in1 (Builtin.Tuple.tupleIsExact (.ref t)) Q' E s:=λ{Q'} q=>by
  unfold Builtin.Tuple.tupleIsExact
  refine zza (wpAny_typeOf ht.typeIs (zzb ?_))
  exact q
 first
  | exact zza (hex (zza (L9 (zzb ⟨_,rfl,zzb h⟩))))
  | exact zza (zza (hex (zza (L9 (zzb (zzb ⟨_,rfl,zzb h⟩))))))
end
end HT
namespace L4
open PySem PySem.Spec PyProof.Rows L2 L3
variable {X:Cx}{K:Fg}{pos:Pos}{e a b:Expr}{x:Str}
def cutD(ds:List D)(lo hi:Option Int):List D:=(ds.drop (HT.sIx ds.length 0 lo)).take (HT.sIx ds.length ds.length hi - HT.sIx ds.length 0 lo)
theorem y9{F:Hp}{vs:List V}{ds:List D}(r:RepL K F vs ds)(lo hi:Option Int):RepL K F (vx vs lo hi) (cutD ds lo hi):=by
 unfold vx cutD
 rw[r.length]
 exact(r.drop _).take _
def Kt(K:Fg):V->Option Int->Option Int->Hp->VK->Prop:=λx lo hi H Q=>∃a xs,x=.ref a/\SqT K H a xs/\(HT.sIx xs.length 0 lo=0/\HT.sIx xs.length xs.length hi=xs.length)/\Q x H
theorem sl_tupA:SlR X (Kt X.K):=by
 intro pins s Z H x v vl vu lo hi sl Q I rx hs pl pu h
 obtain⟨a,xs,rfl,hx,hw,q⟩:=h
 cases rx
 obtain⟨its,r,ht,hz⟩:=I.tuple hx
 have hlen:its.toArray.size=xs.length:=by rw[ce];exact r.length.symm
 refine⟨"tuple",_,PyProof.Rows.slot_tuple_getitem.lookup,ht.typeIs,?_⟩
 exact HT.getItem_tuple_all ht hs pl pu (by rw[hlen];exact hw) ⟨.ref a,H,I,rfl,q⟩
def Kz:Pu (Option Int):=λ_=>.ret none
def asI(d:D):M (Option Int):=match d with
 | .int i=>.ret (some i)
 | _=>.bad
def KF(p:Pu D):Pu (Option Int):=λρ=>bd (p ρ) asI
def K0(d:D)(lo hi:Option Int):Option D:=match d with
 | .tuple ds=>some (.tuple (cutD ds lo hi))
 | .list ds=>some (.list (cutD ds lo hi))
 | _=>none
def APo(X:Cx)(e:Option Expr)(p:Pu (Option Int)):Prop :=
 ∀(G:Gh) (F:Hp) (Z:L2.St) (H:Hp) (ρ:En) (Q:Option Int->Hp->Prop),StOk X.K G F Z H ρ->W X G F Z ρ (p ρ) (λd F' H'=>Q d H')->∀(pins:zzk) (s:Shared),Inv X pins Z H s ->
  wpAny (model X.prog X.w) X.A (evalPart e X.env) (λu s'=>∃o H',Inv X pins Z H' s'/\IsPart u o/\Q o H') X.xe s
def HW(X:Cx)(e:Option Expr):TO:=λZ H Q=>∀(pins:zzk) (s:Shared),Inv X pins Z H s->wpAny (model X.prog X.w) X.A (evalPart e X.env) (λu s'=>∃o H',Inv X pins Z H' s'/\IsPart u o/\Q o H') X.xe s
theorem Br{e:Option Expr}:PO X e (HW X e):=λpins s Z H Q I h=>h pins s I
section
variable {lo hi:Option Expr} {p:Pu D} {pl ph:Pu (Option Int)} {p2:Pos}
theorem dm:APo X none Kz:=λG F Z H ρ Q S w pins s I=>yt pins s Z H Q I (w F H (Same.refl _) S)
theorem cG(h:AP X e p):APo X (some e) (KF p):=λG F Z H ρ Q S w pins s I=>yr aI pins s Z H Q I (h G F Z H ρ _ S (w.bind.imp λd F1 H1 s1 S1 w1 v r=>by
 cases r with
 | int i=>exact⟨i,rfl,w1 F1 H1 (Same.refl _) S1⟩
 | bl b=>exact w1.elim
 | non=>exact w1.elim
 | str i=>exact w1.elim
 | tup _ _=>exact w1.elim
 | lst _ _=>exact w1.elim
 | dct _ _ _=>exact w1.elim
 | dck _ _ _=>exact w1.elim
 | exc _ _ _ _ _=>exact w1.elim
 | fn _=>exact w1.elim))
end
def wD(f g:D->D->Option Bool)(a b c:Pu D):Pu Bool:=λρ=>bd (a ρ) λx=>bd (b ρ) λy=>bd (oM (f x y)) λt=>if t then bd (c ρ) λz=>oM (g y z)else .ret false
section
variable {c:Expr} {pa pb pc:Pu D} {op op':CmpOp} {r r':R2} {f g:D->D->Option Bool}
theorem vC{G:Gh}{F H:Hp}{Z:L2.St}{ρ:En}{Q:VK}(hf:OpB X.K r f)(hg:OpB X.K r' g)(ha:AO X a pa)(hb:AO X b pb)(hc:AO X c pc)(S:StOk X.K G F Z H ρ)(w:W X G F Z ρ (wD f g pa pb pc ρ) λt F' H'=>Q (.bl t) H') :
  v9 r r' (eA X a) (eA X b) (eA X c) Z H Q :=
 ha G F Z H ρ _ S (w.bind.imp λdx F1 H1 s1 S1 w1 x hx=>hb G F1 Z H1 ρ _ S1 (w1.bind.imp λdy F2 H2 s2 S2 w2 y hy=>by
  have w3:=w2.bind
  obtain⟨t,e,k⟩:=w3.opt
  refine hf G F2 Z H2 ρ x y dx dy t _ S2 ((hx.mono s2).or S2) (hy.or S2) e ⟨t,rfl,?_⟩
  have w4:=k F2 H2 (Same.refl _) S2
  cases t with
  | true =>
   refine vg ?_
   exact hc G F2 Z H2 ρ _ S2 ((show W X G F2 Z ρ (bd (pc ρ) λz=>oM (g dy z)) _ from w4).bind.imp λdz F3 H3 s3 S3 w5 z hz=>by
    obtain⟨t',e',k'⟩:=w5.opt
    exact hg G F3 Z H3 ρ y z dy dz t' _ S3 ((hy.mono s3).or S3) (hz.or S3) e' (k' F3 H3 (Same.refl _) S3))
  | false =>
   refine vh ?_
   exact(show W X G F2 Z ρ (.ret false) _ from w4) F2 H2 (Same.refl _) S2))
theorem C1(ho:OpR X (compareOp op) r)(ho':OpR X (compareOp op') r')(hf:OpB X.K r f)(hg:OpB X.K r' g)(ha:AO X a pa)(hb:AO X b pb)(hc:AO X c pc)(hm:lastMarks [op,op'] [b,c]=false):AB X (.Compare a [op,op'] [b,c] pos) (wD f g pa pb pc) :=
 λG F Z H ρ Q S w=>sem (By ho ho' aI aI aI hm) (vC hf hg ha hb hc S w)
theorem pY(ho:OpR X (compareOp op) r)(ho':OpR X (compareOp op') r')(hf:OpB X.K r f)(hg:OpB X.K r' g)(ha:AO X a pa)(hb:AO X b pb)(hc:AO X c pc)(hm:lastMarks [op,op'] [b,c]=false):AT X (.Compare a [op,op'] [b,c] pos) (wD f g pa pb pc) :=
 λG F Z H ρ Q S w=>sv (Bm ho ho' aI aI aI hm) (vC (Q:=λx H'=>∃k,x=.bl k/\Q k H') hf hg ha hb hc S (w.imp λt F' H' _ _ q=>⟨t,rfl,q⟩))
end
def jB(d e:D):Option Bool:=match d,e with
 | .bool a,.bool b=>some (a==b)
 | _,.none=>some (isNone d)
 | _,_=>none
section
theorem sI:OpR X (compareOp .Is) (rD2 X.K jB):=by
 intro pins s Z H x y v u Q I rx ry ⟨d,e,b,r1,r2,ho,q⟩
 unfold jB at ho
 split at ho
 ·cases ho
  obtain rfl:=r1.bool_inv
  obtain rfl:=r2.bool_inv
  cases rx
  cases ry
  exact PyProof.Rows.is_bool ⟨.bl _,H,I,rfl,q⟩
 ·exact DE pins s Z H x y v u Q I rx ry ⟨d,.none,b,r1,r2,by rw[<-ho];rfl,q⟩
 ·cases ho
end
def i3(T:String)(d:D):Option Bool:=if isFn d then none else some (isT T d)
def pIs(T:String)(p:Pu D):Pu Bool:=λρ=>bd (p ρ) λd=>oM (i3 T d)
def Ku(K:Fg)(T:String):List V->Hp->VK->Prop:=λxs H Q=>∃v d,xs=[v,.ty T]/\Rep K H v d/\isFn d=false/\Q (.bl (isT T d)) H
theorem Et{T:String}(hT:qi T=true):CallR X (.builtin "isinstance") (Ku X.K T):=by
 intro pins s Z H xs us Q I r h
 obtain⟨v,d,rfl,rp,nf,q⟩:=h
 obtain⟨u,w,rfl,ru,rw'⟩:=vals2 r
 cases rw'
 exact w6 hT I rp nf ru λtk=>⟨.bl _,H,I.tok tk,rfl,q⟩
section
variable {p:Pu D} {p1 p2:Pos} {T:String}
theorem zu(hT:qi T=true)(hg:Gl X "isinstance")(hm:X.mg "isinstance" = none)(hgT:Gl X x)(hmT:X.mg x=none)(hv:bootBuiltins x=some (.type T))(ha:AO X e p)(hs:starEach [e,.Name x p2] X.env=(false,eval e X.env)::starEach [.Name x p2] X.env)(hs2:starEach [.Name x p2] X.env=(false,eval (.Name x p2) X.env)::starEach [] X.env)
  (hpl:(backTo pos (starEach [.Name x p2] X.env)).any (·.1)=false) (hn:x ≠ "__name__":=by decide) (hd:(x==("__debug__" : Str))=false:=by decide):AB X (.Call (.Name "isinstance" p1) [e,.Name x p2] [] pos) (pIs T p) :=
 λG F Z H ρ Q S w=>sem (iL (Et hT) hg hm (by decide +kernel) (eH aI (eH (DC hgT hmT hv (v:=.ty T) rfl hn hd) lK hs2) hs) (by decide) (by decide) hs hpl) (ha G F Z H ρ _ S (w.bind.imp λd F1 H1 s1 S1 w1 v hv=>by
  obtain⟨b,hb,k⟩:=w1.opt
  unfold i3 at hb
  split at hb
  ·cases hb
  ·rename_i nf
   cases hb
   exact⟨v,d,rfl,(hv.or S1).rep S1.fh,by simpa using nf,k F1 H1 (Same.refl _) S1⟩))
end
def boolsOf:List D->Option (List Bool)
 | []=>some []
 | .bool b::r=>match boolsOf r with
  | some l=>some (b::l)
  | none=>none
 | _=>none
theorem kg:∀{ds:List D} {bs:List Bool},boolsOf ds=some bs->ds=bs.map PyData.bool
 | [],_,h=>by cases h;rfl
 | .bool i::r,ns,h=>by
  dsimp only[boolsOf]at h
  split at h
  ·rename_i l e;cases h;rw[kg e];rfl
  ·cases h
 | .none::_,_,h=>by cases h
 | .int _::_,_,h=>by cases h
 | .str _::_,_,h=>by cases h
 | .list _::_,_,h=>by cases h
 | .tuple _::_,_,h=>by cases h
 | .dict _::_,_,h=>by cases h
theorem mT(bs:List Bool):boolsOf (bs.map PyData.bool)=some bs:=by
 induction bs with
 | nil=>rfl
 | cons b r ih=>simp[boolsOf,ih]
theorem nU{K:Fg}{F:Hp}:∀{vs:List V} {bs:List Bool},RepL K F vs (bs.map PyData.bool)->vs=bs.map V.bl
 | _,[],h=>by cases h;rfl
 | _,n::r,h=>by
  cases h with
  | cons a b=>cases a;rw[nU b];rfl
theorem jJ:∀{bs:List Bool} {us:List Value},Vals (bs.map V.bl) us->us=bs.map Value.bool
 | [],_,h=>by cases h;rfl
 | n::r,_,h=>by
  cases h with
  | cons a b=>cases a;rw[jJ b];rfl
def B8:List D->Option Bool
 | [.list ds]=>(boolsOf ds).map λbs=>bs.all id
 | _=>none
def vo:List D->Option Bool
 | [.list ds]=>(boolsOf ds).map λbs=>bs.any id
 | _=>none
def nW(K:Fg)(f:List Bool->Bool):List V->Hp->VK->Prop:=λxs H Q=>∃a bs,xs=[.ref a]/\SqL K H a (bs.map V.bl)/\Q (.bl (f bs)) H
theorem uP{f:List Bool->Bool}{g:List D->Option Bool}(hg:∀l b,g l=some b->∃bs,l=[.list (bs.map PyData.bool)]/\b=f bs):ub K (nW K f) g:=by
 intro G F Z H ρ xs ds res Q S o e k
 obtain⟨bs,rfl,rfl⟩:=hg _ _ e
 obtain⟨v,r,rfl,ho,hr⟩:=bW o
 obtain rfl:=cJ hr
 obtain⟨a,vs,rfl,h1,h2⟩:=ho.list S.fh
 rw[nU h2]at h1
 exact⟨a,bs,rfl,h1,k⟩
theorem GL:ub K (nW K λbs=>bs.all id) B8:=uP λl b h=>by
 unfold B8 at h
 split at h
 ·obtain⟨bs,e,rfl⟩:=Option.map_eq_some_iff.mp h
  exact⟨bs,by rw[kg e],rfl⟩
 ·cases h
theorem GK:ub K (nW K λbs=>bs.any id) vo:=uP λl b h=>by
 unfold vo at h
 split at h
 ·obtain⟨bs,e,rfl⟩:=Option.map_eq_some_iff.mp h
  exact⟨bs,by rw[kg e],rfl⟩
 ·cases h
theorem rA{prog:Program}{w:World}{A:Around}{E:zzj}{s:Shared}{l:Addr}{its:Array Value}{Q:zzj}(hl:s.heap.IsList l its)
  (h:∀s₂:Shared,s₂={ s with heap:=s.heap.push { cls:=.type "list_iterator",data:=.fields #[.ref l,.int 0 0] } } ->
   (s₂.heap.IsListIter s.heap.objs.size l 0/\s₂.heap.IsList l its)->l≠s.heap.objs.size->Q (.ref s.heap.objs.size) s₂) :
  wpAny (model prog w) A (pyIter (.ref l)) Q E s:=by
 have hlt:l<s.heap.objs.size:=by obtain⟨_,e,_⟩:=hl;exact be e
 exact wpAny_pyIter_list hl (h _ rfl ⟨⟨_,zze _ rfl,rfl,rfl⟩,hl.push _⟩ (bu hlt))
theorem mH{prog:Program}{w:World}{A:Around}(bs:List Bool):TruthOf prog w A (λi v=>(bs.map Value.bool).toArray[i]? = some v) (λi=>bs.getD i false):=λi v s Q E hP hQ=>by
 dsimp only at hP hQ
 rw[List.getElem?_toArray,ug]at hP
 obtain⟨b,e,rfl⟩:=Option.map_eq_some_iff.mp hP
 rw[List.getD_eq_getElem?_getD,e]at hQ
 exact re hQ
theorem all_range(bs:List Bool):(List.range bs.length).all (λi=>bs.getD i false)=bs.all id:=by
 induction bs with
 | nil=>rfl
 | cons b r ih =>
  rw[ci,List.range_succ_eq_map,DS,List.all_map,DS]
  simp only[List.getD_cons_zero,id_eq]
  congr 1
theorem any_range(bs:List Bool):(List.range bs.length).any (λi=>bs.getD i false)=bs.any id:=by
 induction bs with
 | nil=>rfl
 | cons b r ih =>
  rw[ci,List.range_succ_eq_map,L5,LH,L5]
  simp only[List.getD_cons_zero,id_eq]
  congr 1
theorem Cv(hc:X.calm=true):CallR X (.builtin "all") (nW X.K λbs=>bs.all id):=by
 intro pins s Z H xs us Q I r h
 obtain⟨a,bs,rfl,hq,q⟩:=h
 obtain⟨u,rfl,ru⟩:=Vals.one r
 cases ru
 obtain⟨its,rv,pl,hz⟩:=I.list hq
 rw[jJ rv]at pl
 refine call_all_walk (rA pl.isList λs₂ e st hlI=>?_)
 subst e
 refine⟨_,_,_,_,_,_,_,rfl,Walks.list (A:=X.A.in1) (I.ok.hd hc) _ a hlI (bs.map Value.bool).toArray,st,mH bs,λh' tk hk=>?_⟩
 refine⟨.bl (bs.all id),H,I.kept (old_kept hk),?_,q⟩
 show _=_
 rw[<-all_range bs]
 simp
theorem Ct(hc:X.calm=true):CallR X (.builtin "any") (nW X.K λbs=>bs.any id):=by
 intro pins s Z H xs us Q I r h
 obtain⟨a,bs,rfl,hq,q⟩:=h
 obtain⟨u,rfl,ru⟩:=Vals.one r
 cases ru
 obtain⟨its,rv,pl,hz⟩:=I.list hq
 rw[jJ rv]at pl
 refine call_any_walk (rA pl.isList λs₂ e st hlI=>?_)
 subst e
 refine⟨_,_,_,_,_,_,_,rfl,Walks.list (A:=X.A.in1) (I.ok.hd hc) _ a hlI (bs.map Value.bool).toArray,st,mH bs,λh' tk hk=>?_⟩
 refine⟨.bl (bs.any id),H,I.kept (old_kept hk),?_,q⟩
 show _=_
 rw[<-any_range bs]
 simp
def Ej:List D->Option D
 | [.int i]=>some (.int i)
 | [.bool b]=>some (.int (if b then 1 else 0))
 | _=>none
theorem GJ:jI K (λxs H Q=>(∃i,xs=[.int i]/\Q (.int i) H)\/∃k,xs=[.bl k]/\Q (.int (if k then 1 else 0)) H) Ej:=by
 intro G F Z H ρ xs ds res Q S o e k
 unfold Ej at e
 split at e
 ·cases e
  obtain⟨v,r,rfl,ho,hr⟩:=bW o
  obtain rfl:=cJ hr
  exact .inl ⟨_,by rw[ho.int],k _ F H (Same.refl _) S (.int _)⟩
 ·cases e
  obtain⟨v,r,rfl,ho,hr⟩:=bW o
  obtain rfl:=cJ hr
  exact .inr ⟨_,by rw[ho.bool],k _ F H (Same.refl _) S (.int _)⟩
 ·cases e
def pF:List D->Option D
 | [.int i]=>if i.natAbs.log2<1920 then some (.str (toString i))else none
 | _=>none
theorem BD:jI K (λxs H Q=>∃i,xs=[.int i]/\i.natAbs.log2<1920/\Q (.str (toString i)) H) pF:=by
 intro G F Z H ρ xs ds res Q S o e k
 unfold pF at e
 split at e
 ·split at e
  ·rename_i hz
   cases e
   obtain⟨v,r,rfl,ho,hr⟩:=bW o
   obtain rfl:=cJ hr
   exact⟨_,by rw[ho.int],hz,k _ F H (Same.refl _) S (.str _)⟩
  ·cases e
 ·cases e
theorem jx{v:V}{u:Value}{d:D}(hg:Gl X x)(hm:X.mg x=some u)(r:RelV v u)(rp:∀F,Rep X.K F v d)(hd:(x==("__debug__" : Str))=false):AP X (.Name x pos) (uI d) :=
 qa (sH hg hm r hd) rp
section
variable {S:Type}
def putD(ds:List D)(j d:D):Option (List D):=match j with
 | .int k=>(ixN ds.length k).map λq=>ds.set q d
 | _=>none
def Kl(i:Nat)(mi me:Ev S D):SM S:=λK ρ=>me K.x (λd ρ1=>match iM ρ1 i with
 | some _=>mi K.x (λj ρ2=>match iM ρ2 i with
  | some ds=>(oM (putD ds j d)).on (λe=>K.x e ρ2) (λds'=>K.nx (su ρ2 i ds'))
  | none=>.bad) ρ1
 | none=>.bad) ρ
variable {mi me:Ev S D} {pos' tpos apos cpos:Pos} {ml:Ev S (List D)}
theorem CI{i:Nat}(hN:X.N[i]? = some x)(hv:Vis X.env.scope x)(hi:AE X b mi)(he:AE X e me)(ha:∀v,assign (.Subscript (.Name x pos') b tpos) X.env v=(do
   let ov <-holding [v] (eval (.Name x pos') X.env)
   let iv <-holding [v,ov] (eval b X.env)
   standAt tpos
   holding [v,ov,iv] (setItem ov iv v)
   release [v,ov,iv] []))
  (hs:swapsWithSole [.Subscript (.Name x pos') b tpos] e pos.line X.env=pure false) (hw:swappedStores [.Subscript (.Name x pos') b tpos] e X.env=pure none)
  (h1:(assignEach [.Subscript (.Name x pos') b tpos] X.env).map (·.2)=[assign (.Subscript (.Name x pos') b tpos) X.env])
  (hd:(x==("__debug__" : Str))=false:=by decide) (hcd:(x==("__classdict__" : Str))=false:=by decide):AS X (.Assign [.Subscript (.Name x pos') b tpos] e pos) (Kl i mi me):=λOK K G F Z H ρ E hO hX St ok eo =>
 ky (Bq aI (Gq (dD hN hv hd hcd) aI set_list ha) hs hw h1) (he OK K.x _ G F Z H ρ _ hO hX St ok λd v F1 H1 ρ1 s1 S1 r1 o1=>by
  split at o1
  case h_2=>exact(hO o1).elim
  rename_i ds0 hd0
  obtain⟨a,vs0,ea,_,_⟩:=kE S1 hd0
  refine⟨_,ea,hi OK K.x _ G F1 Z H1 ρ1 _ hO hX S1 o1 λj u F2 H2 ρ2 s2 S2 r2 o2=>?_⟩
  split at o2
  case h_2=>exact(hO o2).elim
  rename_i ds hds
  obtain⟨ds',hp,o3⟩:=iP hO o2
  obtain⟨a',vs,ea',hh,rv⟩:=kE S2 hds
  rw[ea]at ea'
  injection ea' with ea';injection ea' with ea';injection ea' with ea'
  subst ea'
  unfold putD at hp
  split at hp
  ·rename_i k
   obtain⟨q,hq,rfl⟩:=Option.map_eq_some_iff.mp hp
   obtain rfl:=r2.int_inv
   refine⟨a,vs,k,q,rfl,rfl,hh,by rw[rv.length];exact hq,?_⟩
   exact eo.nx F2 Z _ _ (s1.trans s2) (yz S2 hds ea (RepL.set (r1.mono s2) q rv)) o3
  ·cases hp)
end
def kindB(k:NameKind):Option NameKind->Bool
 | some k'=>k==k'
 | none=>false
def zg(N N':List Str)(k:Nat)(scope sc:Scope):Bool :=
 (scope.kind==.function)&&(N'.length==N.length+k)&&scope.names.all (λy=>y.2 != .cell)&&scope.names.all (λy=>y.2 != .local||kindB .local (scope.names.lookup y.1))
  && ((List.range N.length).all λi=>match N'[i]? with
   | some x=>!(kindB .free (scope.names.lookup x)||kindB .local (scope.names.lookup x)||kindB .cell (scope.names.lookup x))||(N[i]? == some x&&kindB .free (scope.names.lookup x))
   | none=>true)
  && scope.names.all (λy=>y.2 != .free||kindB .cell (sc.names.lookup y.1)||kindB .free (sc.names.lookup y.1))
theorem lv{k:NameKind}{o:Option NameKind}(h:kindB k o=true):o=some k:=by
 cases o with
 | none=>cases h
 | some k'=>simp[kindB]at h;rw[h]
theorem BW{k:NameKind}{o:Option NameKind}(h:o=some k):kindB k o=true:=by subst h;simp[kindB]
theorem bQ{N N':List Str}{k:Nat}{scope sc:Scope}(h:zg N N' k scope sc=true)(hN:X.N=N)(hs:X.env.scope=sc):CompOk X N' k scope:=by
 subst hN hs
 simp only[zg,am,ke,um,gt,bne_iff_ne,ne_eq]at h
 obtain⟨⟨⟨⟨⟨h1,h2⟩,h3⟩,h4⟩,h5⟩,h6⟩:=h
 refine⟨h1,h2,λy hy=>h3 y hy,λy hy hl=>?_,λi x hi hx _ hk=>?_,λy hy hf=>?_⟩
 ·rcases h4 y hy with z|z
  ·exact absurd hl z
  ·exact lv z
 ·have:=h5 i (List.mem_range.mpr hi)
  rw[hx]at this
  simp only[gt,ot,am,um]at this
  rcases this with z|⟨z1,z2⟩
  ·exfalso
   rcases hk with hk|hk|hk<;>simp[BW hk]at z
  ·exact⟨z1,lv z2⟩
 ·rcases h6 y hy with (z|z)|z
  ·exact absurd hf z
  ·exact .inl (lv z)
  ·exact .inr (lv z)
section
variable {S:Type} {ms:Ev S (List D)}
def Km(i j:Nat)(ms:Ev S (List D)):SM S:=λK ρ=>ms K.x (λds ρ1=>match ds with
 | [u,v]=>(match jC ρ1 i&&jC (ρ1.set i (some (.fz u))) j with
  | true=>K.nx ((ρ1.set i (some (.fz u))).set j (some (.fz v)))
  | false=>.bad)
 | _=>.bad) ρ
theorem Hx{i j:Nat}{y:Str}{px py pt:Pos}{kt k2 pt2}(hc:X.calm=true)(hN:X.N.Nodup)(hi:X.N[i]? = some x)(hj:X.N[j]? = some y)(hij:i≠j)
  (hx:X.env.scope.names.lookup x=some .local) (hy:X.env.scope.names.lookup y=some .local) (ha:AEa X [a,b] ms)
  (hw:swappedStores [.Tuple [.Name x px,.Name y py] kt pt] (.Tuple [a,b] k2 pt2) X.env=pure (some [x,y]))
  (hs:swapsWithSole [.Tuple [.Name x px,.Name y py] kt pt] (.Tuple [a,b] k2 pt2) pos.line X.env=pure false) :
  AS X (.Assign [.Tuple [.Name x px,.Name y py] kt pt] (.Tuple [a,b] k2 pt2) pos) (Km i j ms):=λOK K G F Z H ρ E hO hX St ok eo =>
 ky (Gk hc hN hi hj hij hx hy cx hw hs) (ha OK K.x _ G F Z H ρ _ hO hX St ok λds vs F1 H1 ρ1 s1 S1 hl r1 o1=>by
  split at o1
  ·split at o1
   ·rename_i _ u v _ hok
    rw[am]at hok
    obtain⟨h1,h2⟩:=eN hok.1
    obtain⟨h3,h4⟩:=eN hok.2
    cases r1 with
    | cons ra rb =>
     cases rb with
     | cons rb rc =>
      cases rc
      refine⟨_,_,rfl,eo.nx F1 _ H1 _ s1 ?_ o1⟩
      exact(S1.store h2 h1 (.inl ⟨u,rfl,ra⟩)).store h4 h3 (.inl ⟨v,rfl,rb⟩)
   ·exact(hO o1).elim
  ·exact(hO o1).elim)
end
theorem z9{H:Hp}{a:Addr}{ns:List Int}{mf:List D->M D}(hS:SqL K H a (ns.map V.int))(h:mf [.list (ns.map PyData.int)]=.ret (.bool true)):spD K 1 mf [.ref a] H (λv _=>v=.bl true) λ_ _ _=>False:=by
 refine⟨⟨λ_=>none,λ_=>none,H⟩,H,[.list (ns.map PyData.int)],rfl,⟨Same.refl _,λb o z=>(nomatch z),λb o z=>(nomatch z),rfl,λi d z=>?_,λi c z=>(gu (ds:=[.list (ns.map PyData.int)]) z).elim,λi j c e a z=>(gu (ds:=[.list (ns.map PyData.int)]) z).elim,λi a z=>(nomatch z),λi c z=>?_,Same.refl _⟩,?_⟩
 ·obtain⟨d',e,q⟩:=j5 (ds:=[.list (ns.map PyData.int)]) z
  cases e
  cases i with
  | zero=>simp at q;subst q;exact⟨_,rfl,.lst hS (RepL.ints ns)⟩
  | succ i=>simp at q
 ·obtain⟨d',e,q⟩:=j5 (ds:=[.list (ns.map PyData.int)]) z
  cases e
 ·rw[h]
  intro v F' H' s S' r
  cases r
  rfl
end L4
namespace HT
end HT
namespace L4
open PySem PySem.Spec PyProof.Rows L2 L3
noncomputable def tI{S T:Type}:(T->D->(T->M S)->M S)->List D->T->(T->M S)->M S:=Classical.choose (⟨@cp S T,rfl⟩:∃f,f = @cp S T)
theorem cV{S T:Type} : @tI S T = @cp S T:=Classical.choose_spec (⟨@cp S T,rfl⟩:∃f,f = @cp S T)
section
variable {S:Type}
noncomputable def A5(sh:List Kd)(it:Ev S (List D))(t:Tg S)(mb:SM S):SM S:=λK ρ=>it K.x (λds ρ1=>rdk sh (λs=>tI (λs d kn=>t d (λρ2=>mb (yH sh K kn) ρ2) (wr sh s)) ds s (λs'=>K.nx (wr sh s'))) ρ1) ρ
theorem A4(sh:List Kd)(it:Ev S (List D))(t:Tg S)(mb:SM S):A5 sh it t mb=Gc sh it t mb:=by
 unfold A5 Gc
 rw[cV]
variable {X:Cx}{mb:SM S}{c:Expr}{mt:Ev S Bool}{ml:Ev S (List D)}{pos:Pos}
theorem jw{tg iter:Expr}{body:List Stmt}{sh:List Kd}{t:Tg S}(hp:PassesOwn (model X.prog X.w) X.A X.env X.xe)(hc:X.calm=true)(hi:AEi X tg iter ml)(hg:AG X 0 tg t)(hb:ASs X body mb)
  (hs:∀x,foldedSetIterable iter X.env x=pure x:=by exact λ_=>rfl):AS X (.For tg iter body [] pos) (A5 sh ml t mb):=by
 rw[A4]
 exact Hy hp hc hi hg hb hs
end
end L4
namespace HT
end HT
namespace PySem
end PySem
namespace L4
open PySem PySem.Spec PyProof.Rows L2 L3
variable {K:Fg}{H F:Hp}{a:Addr}{X:Cx}{y:V}
def fT:D->Bool
 | .int _=>true
 | .str _=>true
 | _=>false
def g9:D->Bool
 | .tuple ds=>ds.all fT
 | _=>false
def vb:D->D->Bool
 | .int i,.int j=>decide (i=j)
 | .str i,.str j=>decide (i=j)
 | _,_=>false
def oW:List D->List D->Bool
 | [],[]=>true
 | a::r,b::t=>vb a b&&oW r t
 | _,_=>false
def BX:D->D->Bool
 | .tuple a,.tuple b=>oW a b
 | a,b=>vb a b
def keyOk(es:List (D×D))(k:D):Bool:=(g9 k&&es.all λp=>g9 p.1)||(fT k&&es.all λp=>fT p.1)
theorem tq{es:List (D×D)}{k:D}(h:keyOk es k=true):o7 es=false:=by
 unfold o7
 split
 ·simp[keyOk,g9,fT]at h
 ·simp[keyOk,g9,fT]at h
 ·rfl
def vj(es:List (D×D))(k:D):Option D:=(es.find? λp=>BX p.1 k).map (·.2)
theorem va(a b:Key):vb (keyD a) (keyD b)=decide (a=b):=by
 cases a<;>cases b<;>simp[vb,keyD]
theorem u9:∀(a b:List Key),oW (a.map keyD) (b.map keyD)=decide (a=b)
 | [],[]=>by simp[oW]
 | [],_::_=>by simp[oW]
 | _::_,[]=>by simp[oW]
 | x::xs,y::ys=>by
  simp only[ba,oW,va,u9 xs ys]
  by_cases h:x=y<;>by_cases g:xs=ys<;>simp[h,g]
theorem G5(a b:List Key):BX (qx a) (qx b)=decide (a=b):=u9 a b
theorem G6(a b:Key):BX (keyD a) (keyD b)=decide (a=b):=by
 have h:BX (keyD a) (keyD b)=vb (keyD a) (keyD b):=by cases a<;>cases b<;>rfl
 rw[h];exact va a b
theorem mm{d:D}(h:fT d=true):∃k,d=keyD k:=by
 cases d<;>first|exact⟨.inl _,rfl⟩|exact⟨.inr _,rfl⟩|cases h
theorem o8:∀{ds:List D},ds.all fT=true->∃k:List Key,ds=k.map keyD
 | [],_=>⟨[],rfl⟩
 | d::ds,h=>by
  rw[DS,am]at h
  obtain⟨k,rfl⟩:=mm h.1
  obtain⟨ks,rfl⟩:=o8 h.2
  exact⟨k::ks,rfl⟩
theorem rC{d:D}(h:g9 d=true):∃k,d=qx k:=by
 cases d<;>first|cases h|skip
 obtain⟨k,rfl⟩:=o8 h
 exact⟨k,rfl⟩
theorem B1(k:Key):g9 (keyD k)=false:=by cases k<;>rfl
theorem B2(k:List Key):fT (qx k)=false:=rfl
section
variable {v:V}
theorem nS{k:Key}(r:Rep K F v (keyD k)):v=kV k:=by
 cases k with
 | inl i=>cases (show Rep K F v (.int i)from r);rfl
 | inr i=>cases (show Rep K F v (.str i)from r);rfl
theorem qP:∀{vs:List V} {k:List Key},RepL K F vs (k.map keyD)->vs=k.map kV
 | _,[],r=>by rw[wE]at r;cases r;rfl
 | _,k::ks,r=>by
  rw[ba]at r
  cases r with
  | cons a b=>rw[nS a,qP b];rfl
theorem uD{k:List Key}(r:Rep K F v (qx k)):∃b,v=.ref b/\F b=some (.tup (k.map kV)):=by
 unfold qx at r
 cases r with
 | tup h1 h2=>rw[qP h2]at h1;exact⟨_,rfl,h1⟩
def DT(K:Fg)(F H:Hp)(a:Addr)(es:List (D×D)):Prop:=∃kvs,H a=some (.dT kvs)/\es.map (·.1)=kvs.map (λp=>qx p.1)/\RepL K F (kvs.map (·.2)) (es.map (·.2))
def DK(K:Fg)(F H:Hp)(a:Addr)(es:List (D×D)):Prop:=∃kvs,H a=some (.dK kvs)/\es.map (·.1)=kvs.map (λp=>keyD p.1)/\RepL K F (kvs.map (·.2)) (es.map (·.2))
theorem OR.dict{es:List (D×D)}(s:Same F H)(h:OR K F H v (.dict es))(hx:o7 es=false):∃a,v=.ref a/\(DT K F H a es\/DK K F H a es):=by
 rcases h with h|⟨a,c,e,e2,h1,hI⟩
 ·cases h with
  | dct h1 h2 h3=>exact⟨_,rfl,.inl ⟨_,s _ _ h1,h2,h3⟩⟩
  | dck h1 h2 h3=>exact⟨_,rfl,.inr ⟨_,s _ _ h1,h2,h3⟩⟩
  | exc _ _ _ _ _=>cases hx
  | fn _=>cases hx
 ·cases c<;>cases e2
  ·exact⟨a,e,.inl h1⟩
  ·exact⟨a,e,.inr h1⟩
theorem tG{κ:Type}[DecidableEq κ]{kd:κ->D}(inj:∀a b,BX (kd a) (kd b)=decide (a=b))(k:κ):∀{kvs:List (κ×V)} {es:List (D×D)},es.map (·.1)=kvs.map (λp=>kd p.1)->RepL K F (kvs.map (·.2)) (es.map (·.2)) ->
  (∃d v,vj es (kd k)=some d/\ko kvs k=some v/\Rep K F v d)\/(vj es (kd k)=none/\ko kvs k=none)
 | [],[],_,_=>.inr ⟨rfl,rfl⟩
 | [],_::_,e,_=>by simp at e
 | _::_,[],e,_=>by simp at e
 | p::kvs,q::es,e,r=>by
  simp only[ba,List.cons.injEq]at e
  cases r with
  | cons r1 r2 =>
   unfold vj ko
   rw[tu,tu,e.1,inj]
   by_cases h:p.1=k
   ·simp only[h,decide_true]
    exact .inl ⟨_,_,rfl,rfl,r1⟩
   ·simp only[h,decide_false]
    exact tG inj k e.2 r2
end
def ua(H:Hp)(a:Addr):Prop:=H a=some (.dT [])\/H a=some (.dK [])
theorem pN{pins:zzk}{Z:L2.St}{s:Shared}(I:Inv X pins Z H s)(h:ua H a) :
  s.heap.DictOfH (tupleKind (bY X.prog X.w)) a []/\s.heap.DictOf (bY X.prog X.w) a []/\(a==sysModules)=false:=by
 rcases h with h|h
 ·obtain⟨z,y,xs,kt,o,es,ep,h1,h2,h3,h4,h5,h6⟩:=FD I.hok h
  cases kt
  have e0:es = #[]:=by
   have:es.toList=[]:=h4
   exact Array.toList_inj.mp this
  subst e0
  exact⟨⟨o,_,ep,h1,h2,h3,rfl,(λx hx=>by simp at hx),List.nodup_nil⟩,⟨o,_,ep,h1,h2,h3,λe he=>by simp at he,.nil,List.nodup_nil⟩,y⟩
 ·obtain⟨z,y,vs,kv,o,es,ep,h1,h2,h3,h4,h5,h6⟩:=Cg I.hok h
  cases kv
  have e0:es = #[]:=by
   have:es.toList=[]:=by
    generalize es.toList=l at h5
    cases h5
    rfl
   exact Array.toList_inj.mp this
  subst e0
  exact⟨⟨o,_,ep,h1,h2,h3,rfl,(λx hx=>by simp at hx),List.nodup_nil⟩,⟨o,_,ep,h1,h2,h3,λe he=>by simp at he,.nil,List.nodup_nil⟩,y⟩
theorem DT.empty(h:DT K F H a []):ua H a:=by
 obtain⟨kvs,h1,h2,_⟩:=h
 cases kvs with
 | nil=>exact .inl h1
 | cons _ _=>simp at h2
theorem DK.empty(h:DK K F H a []):ua H a:=by
 obtain⟨kvs,h1,h2,_⟩:=h
 cases kvs with
 | nil=>exact .inr h1
 | cons _ _=>simp at h2
def HL(H:Hp)(y:V):Prop:=(∃k,y=kV k)\/∃(b:Addr) (ks:List Key),y=.ref b/\H b=some (.tup (ks.map kV))
def C4(H:Hp)(a:Addr)(y:V)(o:Option V):Prop:=DGet H a y o\/(ua H a/\HL H y/\o=none)
theorem xL{es:List (D×D)}{k:D}(s:Same F H)(h:DT K F H a es\/DK K F H a es)(r:Rep K F y k)(hk:keyOk es k=true) :
  (∃d v,vj es k=some d/\C4 H a y (some v)/\Rep K F v d)\/(vj es k=none/\C4 H a y none):=by
 unfold keyOk at hk
 rw[gt,am,am]at hk
 have kT:g9 k=true->HL H y:=λh=>by
  obtain⟨ks,rfl⟩:=rC h
  obtain⟨b,rfl,hb⟩:=uD r
  exact .inr ⟨b,ks,rfl,s _ _ hb⟩
 have kK:fT k=true->HL H y:=λh=>by
  obtain⟨ks,rfl⟩:=mm h
  exact .inl ⟨ks,nS r⟩
 cases es with
 | nil =>
  refine .inr ⟨rfl,.inr ⟨?_,?_,rfl⟩⟩
  ·rcases h with h|h
   ·exact h.empty
   ·exact h.empty
  ·rcases hk with hk|hk
   ·exact kT hk.1
   ·exact kK hk.1
 | cons p es =>
  rcases h with ⟨kvs,h1,h2,h3⟩|⟨kvs,h1,h2,h3⟩
  ·rcases hk with ⟨hk,_⟩|⟨_,hk⟩
   ·obtain⟨ks,rfl⟩:=rC hk
    obtain⟨b,rfl,hb⟩:=uD r
    rcases tG G5 ks h2 h3 with ⟨d,v,e1,e2,e3⟩|⟨e1,e2⟩
    ·exact .inl ⟨d,v,e1,.inl (e2▸DGet.t h1 (s _ _ hb)),e3⟩
    ·exact .inr ⟨e1,.inl (e2▸DGet.t h1 (s _ _ hb))⟩
   ·exfalso
    cases kvs with
    | nil=>simp at h2
    | cons q kvs =>
     simp only[ba,List.cons.injEq]at h2
     rw[DS,h2.1,B2,yi]at hk
     cases hk
  ·rcases hk with ⟨_,hk⟩|⟨hk,_⟩
   ·exfalso
    cases kvs with
    | nil=>simp at h2
    | cons q kvs =>
     simp only[ba,List.cons.injEq]at h2
     rw[DS,h2.1,B1,yi]at hk
     cases hk
   ·obtain⟨ks,rfl⟩:=mm hk
    obtain rfl:=nS r
    rcases tG G6 ks h2 h3 with ⟨d,v,e1,e2,e3⟩|⟨e1,e2⟩
    ·exact .inl ⟨d,v,e1,.inl (e2▸DGet.k h1),e3⟩
    ·exact .inr ⟨e1,.inl (e2▸DGet.k h1)⟩
section
variable {pins:zzk} {Z:L2.St} {s:Shared} {d:V} {u r:Value} {o:Option V} {A:Around} {E:zzj}
theorem Ld{Q:zzj}(hu:A.units+1<cLine)(I:Inv X pins Z H s)(g:C4 H a y o)(ry:RelV y u)(h:∀s',Inv X pins Z H s'->Q (.bool o.isSome) s') :
  wpAny (model X.prog X.w) A (compareOp .In u (.ref a)) Q E s:=by
 rcases g with g|⟨e,k,rfl⟩
 ·exact K9 hu I g ry h
 ·obtain⟨h1,h2,hd⟩:=pN I e
  rcases k with ⟨k,rfl⟩|⟨b,ks,rfl,hb⟩
  ·exact wpAny_in_of (oX ry) hd h2.mapOf (h _ (I.tok _))
  ·cases (show u=Value.ref b from ry)
   exact wpAny_in_heap (ES hu) (md I.hok hb) hd h1 (h _ (I.tok _))
theorem ER{Q:zzj}(hu:A.units+1<cLine)(I:Inv X pins Z H s)(g:C4 H a y o)(ry:RelV y u)(h:∀s',Inv X pins Z H s'->Q (.bool (!o.isSome)) s') :
  wpAny (model X.prog X.w) A (compareOp .NotIn u (.ref a)) Q E s:=by
 rcases g with g|⟨e,k,rfl⟩
 ·exact Eo hu I g ry h
 ·obtain⟨h1,h2,hd⟩:=pN I e
  rcases k with ⟨k,rfl⟩|⟨b,ks,rfl,hb⟩
  ·exact wpAny_notIn_of (oX ry) hd h2.mapOf (h _ (I.tok _))
  ·cases (show u=Value.ref b from ry)
   exact wpAny_notIn_heap (ES hu) (md I.hok hb) hd h1 (h _ (I.tok _))
end
def bO(d c:D):Option Bool:=match c with
 | .dict es=>if keyOk es d then some (vj es d).isSome else none
 | _=>DJ d c
def fP(d c:D):Option Bool:=match c with
 | .dict es=>if keyOk es d then some (!(vj es d).isSome)else none
 | _=>nv d c
def aS(x y:D):Option D:=match x with
 | .dict es=>if keyOk es y then vj es y else none
 | _=>jz x y
def IM(neg:Bool):R2:=λx y H Q=>∃a o,y=.ref a/\C4 H a x o/\Q (.bl (if neg then !o.isSome else o.isSome)) H
def IL(K:Fg):R2:=λx y H Q=>rD2 K DJ x y H Q\/IM false x y H Q
def yj(K:Fg):R2:=λx y H Q=>rD2 K nv x y H Q\/IM true x y H Q
def IP:R2:=λx y H Q=>∃a v,x=.ref a/\DGet H a y (some v)/\Q v H
def IK(K:Fg):R2:=λx y H Q=>rIx K x y H Q\/IP x y H Q
section
theorem fk(hu:X.A.units+1100<cLine):OpR X (compareOp .In) (IL X.K):=OpR.or (GB hu) (by
 intro pins s Z H x y v u Q I rx ry ⟨a,o,e,g,q⟩
 subst e
 obtain rfl:u=Value.ref a:=ry
 exact Ld (by lia) I g rx λs' I'=>⟨.bl _,H,I',rfl,q⟩)
theorem oB(hu:X.A.units+1100<cLine):OpR X (compareOp .NotIn) (yj X.K):=OpR.or (zS hu) (by
 intro pins s Z H x y v u Q I rx ry ⟨a,o,e,g,q⟩
 subst e
 obtain rfl:u=Value.ref a:=ry
 exact ER (by lia) I g rx λs' I'=>⟨.bl _,H,I',rfl,q⟩)
theorem D7(hu:X.A.units+1100<cLine):IxR X IP:=by
 intro value slice pins s Z H x y v u Q I rx ry ⟨a,w,e,g,q⟩ hs
 subst e
 obtain rfl:v=Value.ref a:=rx
 have hT:s.TypeIs (.ref a) "dict":=vw I g
 unfold subscriptTail
 refine zza ?_
 rw[getitemInPython_of_ne hT.not_modules]
 refine zza (wpAny_specialOf hT PySem.F.slot_dict_getitem.lookup ?_)
 have h₂:wpAny (model X.prog X.w) X.A (getItem (.ref a) u) (EP X pins Z Q) X.xe s:=Aj (by lia) I g ry λw' s3 I3 rw'=>⟨w,H,I3,rw',q⟩
 have fin:wpAny (model X.prog X.w) X.A (subscripted slice false (.ref a) u) (λr s₃=>wpAny (model X.prog X.w) X.A (letTemporaryGo value (.ref a) r >>= λ_=>pure r) (EP X pins Z Q) X.xe s₃) X.xe s:=by
  rw[hs]
  exact wpAny_operating (je h₂ (λr s₃ h₃=>zza (wpAny_letTemporaryGo (zzb h₃))) λ_ _ x=>x)
 first
  | exact zzb (zza fin)
  | exact zza (zzb (zza fin))
  | exact zza fin
theorem bG(hu:X.A.units+1100<cLine):IxR X (IK X.K):=IxR.or G8 (D7 hu)
theorem mj{es:List (D×D)}{k:D}(h:OR K F H y k)(hk:keyOk es k=true):Rep K F y k:=by
 rcases h with h|⟨a,c,e,e2,h1,hI⟩
 ·exact h
 ·exfalso
  subst e2
  unfold keyOk at hk
  cases c<;>simp[OC.d,g9,fT]at hk
theorem gX:OpB K (IL K) bO:=by
 intro G F Z H ρ x y dx dy res Q S ox oy e k
 unfold bO at e
 split at e
 ·rename_i es
  split at e
  case isFalse=>cases e
  rename_i hk
  cases e
  obtain⟨a,rfl,hh⟩:=oy.dict S.fh (tq hk)
  rcases xL S.fh hh (mj ox hk) hk with ⟨d,v,e1,g,r⟩|⟨e1,g⟩
  ·exact .inr ⟨a,_,rfl,g,by rw[e1]at k;exact k⟩
  ·exact .inr ⟨a,_,rfl,g,by rw[e1]at k;exact k⟩
 ·exact .inl (bq G F Z H ρ x y dx dy res Q S ox oy e k)
theorem qX:OpB K (yj K) fP:=by
 intro G F Z H ρ x y dx dy res Q S ox oy e k
 unfold fP at e
 split at e
 ·rename_i es
  split at e
  case isFalse=>cases e
  rename_i hk
  cases e
  obtain⟨a,rfl,hh⟩:=oy.dict S.fh (tq hk)
  rcases xL S.fh hh (mj ox hk) hk with ⟨d,v,e1,g,r⟩|⟨e1,g⟩
  ·exact .inr ⟨a,_,rfl,g,by rw[e1]at k;exact k⟩
  ·exact .inr ⟨a,_,rfl,g,by rw[e1]at k;exact k⟩
 ·exact .inl (bq G F Z H ρ x y dx dy res Q S ox oy e k)
theorem bF:OpD K (IK K) aS:=by
 intro G F Z H ρ x y dx dy res Q S ox oy e k
 unfold aS at e
 split at e
 ·rename_i es
  split at e
  case isFalse=>cases e
  rename_i hk
  obtain⟨a,rfl,hh⟩:=ox.dict S.fh (tq hk)
  rcases xL S.fh hh (mj oy hk) hk with ⟨d,v,e1,g,r⟩|⟨e1,g⟩
  ·rw[e1]at e
   cases e
   rcases g with g|⟨_,_,z⟩
   ·exact .inr ⟨a,v,rfl,g,k v F H (Same.refl _) S r⟩
   ·cases z
  ·rw[e1]at e;cases e
 ·exact .inl (Jl G F Z H ρ x y dx dy res Q S ox oy e k)
end
end L4
namespace HT
open PySem PyProof.Rows
def lexLe:List Int->List Int->Bool
 | [],[]=>true
 | [],_::_=>true
 | _::_,[]=>false
 | x::xs,y::ys=>if x=y then lexLe xs ys else decide (x<=y)
theorem wU(x y:Int)(xs ys:List Int):lexLe (x::xs) (y::ys)=if x=y then lexLe xs ys else decide (x<=y):=rfl
theorem qw:lexLe [] []=true:=rfl
theorem oR(y:Int)(ys:List Int):lexLe [] (y::ys)=true:=rfl
theorem oS(x:Int)(xs:List Int):lexLe (x::xs) []=false:=rfl
theorem Be(A:Around)(s:Shared)(a:Int)(t:Tok)(c:Int)(u:Tok)(prog:Program)(w:World)(E:zzj)(Q:zzj)(h:Q (.bool (decide (a<=c))) s) :
  wpAny (model prog w) A (richCompare .LtE (.int a t) (.int c u)) Q E s :=
 (PyProof.Rows.le_int h:wpAny (model prog w) A (compareOp .LtE (.int a t) (.int c u)) Q E s)
section
open PySem.SeqAt
open PySem.AutoSeq1 (wpAny_loadPart')
open PySem.MeetsSeq PySem.MeetsSeq2 PySem.MeetsSeq3
theorem qk(l b:Addr)(items items2:Array Value)(n n2:Nat)(dd dd2:Option Addr)(sl sl2:Array (Option Value))(ns ms:List Int)(hi:IntsAre items.toList ns)(hj:IntsAre items2.toList ms) :
  Meets (Builtin.«tuple.__le__» ⟨[.ref l,.ref b],[]⟩)
   (λ_ R s=>s.heap.get? l=some { cls:=.type "tuple",dict:=dd,data:=.seq items n,slots:=sl }/\s.heap.get? b=some { cls:=.type "tuple",dict:=dd2,data:=.seq items2 n2,slots:=sl2 } /\
    R (.ok (.ret (.bool (lexLe ns ms)))) s) :=
 .of_wp λprog w A R s h=>by
  obtain⟨hp,g,d,tk,os⟩:=s;obtain⟨hl,hb,h⟩:=h
  have f2:=AutoSeq1.sub_tuple_tuple
  have z1:items.size=ns.length:=by rw[<-hi.length];simp
  have z2:items2.size=ms.length:=by rw[<-hj.length];simp
  wp_walk using wpAny_loadPart' hl,wpAny_loadPart' hb,wpAny_forIn_list _ (λrest b s'=>b.1=none/\s'=⟨hp,g,d,tk,os⟩/\∃(vs ws:List Value) (ns' ms':List Int),rest=vs.zip ws /\
   IntsAre vs ns'/\IntsAre ws ms'/\ns'.length+items2.size=ms'.length+items.size/\R (.ok (.ret (.bool (lexLe ns' ms')))) ⟨hp,g,d,tk,os⟩) _
  case turn =>
   rintro⟨y,x⟩ rest b s' ⟨hb',rfl,vs,ws,ns',ms',hz,hvi,hwi,hlen,hR⟩
   cases hvi with
   | nil=>rw[List.zip_nil_left]at hz;cases hz
   | cons a t hvi' =>
    cases hwi with
    | nil=>rw[LL]at hz;cases hz
    | cons c u hwi' =>
     rw[wo]at hz
     injection hz with hyx hrest
     injection hyx with hy hx
     subst hy hx
     rw[wU]at hR
     simp only[ci]at hlen
     obtain⟨e,he,hiff⟩:=vp A.in1 ⟨hp,g,d,tk,os⟩ a t c u
     refine zza (he prog w _ _ ?_)
     cases e with
     | true =>
      rw[ai (hiff.mp rfl)]at hR
      wp_walk
      exact⟨rfl,rfl,_,_,_,_,hrest,hvi',hwi',by lia,hR⟩
     | false =>
      rw[ac (λq=>absurd (hiff.mpr q) wP)]at hR
      have hri:=Be A.in1 ⟨hp,g,d,tk,os⟩ a t c u prog w
      wp_walk using hri
      exact⟨_,rfl,by simpa using hR⟩
  case fin =>
   rintro⟨b1,b2⟩ s' ⟨hb',rfl,vs,ws,ns',ms',hz,hvi,hwi,hlen,hR⟩
   simp only at hb'
   subst hb'
   have hv:lexLe ns' ms'=decide (items.size<=items2.size):=by
    cases hvi with
    | nil =>
     cases hwi with
     | nil =>
      simp only[ou]at hlen
      rw[qw]
      exact(aw (by lia)).symm
     | cons c u hw =>
      simp only[ou,ci]at hlen
      rw[oR]
      exact(aw (by lia)).symm
    | cons a t hv =>
     cases hwi with
     | nil =>
      simp only[ou,ci]at hlen
      rw[oS]
      exact(bi (by lia)).symm
     | cons c u hw =>
      rw[wo]at hz
      cases hz
   rw[hv]at hR
   wp_walk
   exact⟨_,rfl,by simpa[Builtin.Tuple.tupleCompareSizes]using hR⟩
  case h =>
   exact⟨rfl,rfl,items.toList,items2.toList,ns,ms,rfl,hi,hj,by lia,h⟩
end
section
variable {prog:Program}{w:World}{A:Around}{E:zzj}{s:Shared}
theorem le_tupInts{l b:Addr}{items items2:Array Value}{ns ms:List Int}{Q:zzj}(hl:IsTup s.heap l items)(hb:IsTup s.heap b items2)(hi:IntsAre items.toList ns)(hj:IntsAre items2.toList ms)
  (hu:A.units<cLine) (h:Q (.bool (lexLe ns ms)) s):wpAny (model prog w) A (compareOp .LtE (.ref l) (.ref b)) Q E s:=by
 obtain⟨⟨cls,dd,data,sl⟩,ho,hc,n,hd⟩:=id hl
 obtain⟨⟨cls2,dd2,data2,sl2⟩,ho2,hc2,n2,hd2⟩:=id hb
 simp only at hc hd hc2 hd2
 subst hc hd hc2 hd2
 exact richCompare_meets_room (op:=.LtE) ⟨_,ho,rfl⟩ ⟨_,ho2,rfl⟩ PySem.F.slot_tuple_le PySem.F.entry_tuple_le (PySem.F.args_tuple_le_2 _ _) (qk l b items items2 n n2 dd dd2 sl sl2 ns ms hi hj)
  ⟨ho,ho2,show Value.bool (lexLe ns ms)≠Value.notImplemented/\Q (.bool (lexLe ns ms)) s from⟨(λx=>nomatch x),h⟩⟩ hu
end
end HT
namespace L4
open PySem PySem.Spec PyProof.Rows L2 L3
variable {X:Cx}
def IE(K:PySem.W.Frag):R2:=λx y H Q=>∃a b ns ms,x=.ref a/\y=.ref b/\SqT K H a (ns.map V.int)/\SqT K H b (ms.map V.int)/\Q (.bl (HT.lexLe ns ms)) H
theorem GE(hu:X.A.units<cLine):OpR X (compareOp .LtE) (IE X.K):=by
 intro pins s Z H x y v u Q I rx ry h
 obtain⟨a,b,ns,ms,rfl,rfl,ha,hb,q⟩:=h
 cases rx
 cases ry
 obtain⟨its,r1,p1,_⟩:=I.tuple ha
 obtain⟨its2,r2,p2,_⟩:=I.tuple hb
 have i1:IntsAre its.toArray.toList ns:=intsAre_of r1
 have i2:IntsAre its2.toArray.toList ms:=intsAre_of r2
 exact HT.le_tupInts p1 p2 i1 i2 hu ⟨.bl (HT.lexLe ns ms),H,I,rfl,q⟩
def ie(x y:D):Option Bool:=match x,y with
 | .tuple a,.tuple b=>match intsOf a,intsOf b with
  | some m,some n=>some (HT.lexLe m n)
  | _,_=>none
 | x,y=>Jh x y
def iT(x y:D):Option Bool:=match x,y with
 | .tuple a,.tuple b=>match intsOf a,intsOf b with
  | some m,some n=>some (HT.lexLt m n)
  | _,_=>none
 | x,y=>zU x y
def IF(K:Fg):R2:=λx y H Q=>rI0 (λi j=>.bl (decide (i<=j))) x y H Q\/IE K x y H Q
def IB(K:Fg):R2:=λx y H Q=>rI0 (λi j=>.bl (decide (i<j))) x y H Q\/IA K x y H Q
theorem iR(hu:X.A.units+1100<cLine):OpR X (compareOp .LtE) (IF X.K):=OpR.or Jg (GE (by lia))
theorem wH(hu:X.A.units+1100<cLine):OpR X (compareOp .Lt) (IB X.K):=OpR.or Jf (GD (by lia))
theorem iV{K:Fg}:OpB K (IF K) ie:=by
 intro G F Z H ρ x y dx dy res Q S ox oy e k
 unfold ie at e
 split at e
 ·rename_i a b
  split at e
  ·rename_i m n hm hn
   cases e
   obtain⟨p,vs,rfl,h1,h2⟩:=ox.tuple S.fh
   obtain⟨q,us,rfl,g1,g2⟩:=oy.tuple S.fh
   rw[fG hm]at h2
   rw[fG hn]at g2
   rw[gE h2]at h1
   rw[gE g2]at g1
   exact .inr ⟨p,q,m,n,rfl,rfl,h1,g1,k⟩
  ·cases e
 ·exact .inl (Jk G F Z H ρ x y dx dy res Q S ox oy e k)
theorem wJ{K:Fg}:OpB K (IB K) iT:=by
 intro G F Z H ρ x y dx dy res Q S ox oy e k
 unfold iT at e
 split at e
 ·rename_i a b
  split at e
  ·rename_i m n hm hn
   cases e
   obtain⟨p,vs,rfl,h1,h2⟩:=ox.tuple S.fh
   obtain⟨q,us,rfl,g1,g2⟩:=oy.tuple S.fh
   rw[fG hm]at h2
   rw[fG hn]at g2
   rw[gE h2]at h1
   rw[gE g2]at g1
   exact .inr ⟨p,q,m,n,rfl,rfl,h1,g1,k⟩
  ·cases e
 ·exact .inl (Jj G F Z H ρ x y dx dy res Q S ox oy e k)
end L4
namespace PySem
open Sem (wp)
open AutoSeq1 (wpAny_loadPart')
end PySem
namespace L3
open PySem PySem.Spec PyProof.Rows L2 L4
end L3
namespace L4
open PySem PySem.Spec PyProof.Rows L2 L3
def Gh.add(G:Gh)(p:Addr)(o:HO):Gh:={ G with O:=upd G.O p o }
theorem _root_.L3.StOk.hold{K:Fg}{G:Gh}{F H:Hp}{Z:L2.St}{ρ:En}(S:StOk K G F Z H ρ){p:Addr}{o:HO}(hp:H p=some o)(fp:F p=none)(ne:∀(i:Nat) (e:OC),own ρ i e->Z[i]? ≠ some (some (V.ref p)))(nt:Av o:=by exact True.intro):StOk K (Gh.add G p o) F Z H ρ:=by
 refine⟨S.fh,λb u e=>?_,λb u e=>?_,S.ln,S.fz,λi c h=>?_,S.dj,S.pp,S.pq,S.fb⟩
 ·by_cases hb:b=p
  ·subst hb
   rw[show(Gh.add G b o).O b=some o from aR]at e
   cases e;exact hp
  ·rw[show(Gh.add G p o).O b=G.O b from aL hb]at e
   exact S.oh b u e
 ·by_cases hb:b=p
  ·subst hb
   rw[show(Gh.add G b o).O b=some o from aR]at e
   cases e
   exact⟨fp,nt⟩
  ·rw[show(Gh.add G p o).O b=G.O b from aL hb]at e
   exact S.fo b u e
 ·obtain⟨a,e,oa⟩:=S.ow i c h
  refine⟨a,e,oa.nf,?_,oa.he⟩
  have:a≠p:=λz=>ne i c h (by rw[e,z])
  exact(show(Gh.add G p o).O a=G.O a from aL this).trans oa.no
theorem _root_.L3.StOk.unhold{K:Fg}{G:Gh}{F H:Hp}{Z:L2.St}{ρ:En}{p:Addr}{o:HO}(hn:G.O p=none)(S:StOk K (Gh.add G p o) F Z H ρ) :
  StOk K G F Z H ρ/\H p=some o/\F p=none/\∀(i:Nat) (e:OC),own ρ i e->Z[i]? ≠ some (some (V.ref p)):=by
 have at_p:(Gh.add G p o).O p=some o:=aR
 have tW:∀b,b≠p->(Gh.add G p o).O b=G.O b:=λb hb=>aL hb
 have nb:∀b u,G.O b=some u->b≠p:=λb u e z=>by rw[z,hn]at e;cases e
 refine⟨⟨S.fh,λb u e=>S.oh b u ((tW b (nb b u e)).trans e),λb u e=>S.fo b u ((tW b (nb b u e)).trans e),S.ln,S.fz,λi c h=>?_,S.dj,S.pp,S.pq,S.fb⟩,S.oh p o at_p,(S.fo p o at_p).1,λi c h e=>?_⟩
 ·obtain⟨a,e,oa⟩:=S.ow i c h
  have:a≠p:=λz=>by have:=oa.no;rw[z,at_p]at this;cases this
  exact⟨a,e,oa.nf,(tW a this).symm.trans oa.no,oa.he⟩
 ·obtain⟨a,e',oa⟩:=S.ow i c h
  rw[e]at e'
  injection e' with e';injection e' with e';injection e' with e'
  have:=oa.no
  rw[<-e',at_p]at this
  cases this
end L4
namespace HT
end HT
namespace L4
open PySem PySem.Spec PyProof.Rows L2 L3 PySem.W
section
variable {prog:Program}{w:World}{A:Around}{E:zzj}{K:Frag}{C D fI:Addr}{h:Heap}{g:Array GenState}{d:Drawn}{t:Nat}{os:OsState}{rest:List Value}
abbrev wK(h:Heap)(C:Addr)(rest:List Value):Heap:=(h.push { cls:=.type "tuple",data:=.seq rest.toArray }).push { cls:=.ref C,data:=.fields #[.ref h.objs.size,.none,.none,.none,.bool false,.none] }
theorem q8{b:Addr}{o:Obj}(q:h.get? b=some o):(wK h C rest).get? b=some o:=zzc _ (zzc _ q)
theorem yD:(wK h C rest).get? (h.objs.size+1)=some { cls:=.ref C,data:=.fields #[.ref h.objs.size,.none,.none,.none,.bool false,.none] }:=by
 have z:=zze (h.push { cls:=.type "tuple",data:=.seq rest.toArray }) (o:={ cls:=.ref C,data:=.fields #[.ref h.objs.size,.none,.none,.none,.bool false,.none] }) rfl
 rwa [ve]at z
theorem tf(X:K.In h)(c:XC K C D fI){Q:Fin->Shared->Prop}(hz:rest.length<=sizeLine)
  (hq:wpAny (model prog w) A (call (.ref fI) (.ref (h.objs.size+1)::rest)) (λr s'=>r=.none/\Q (.done (.ret (.ref (h.objs.size+1)))) s') E ⟨wK h C rest,g,d,t,os⟩) :
  wpAny (model prog w) A (Builtin.«type.__call__» ⟨.ref C::rest,[]⟩) Q E ⟨h,g,d,t,os⟩:=by
 obtain⟨nm,q,N,bs,sn,sub,ab,col,dd,k0,k1,k2,k3,k5,lk⟩:=c.obj
 have hC:=X _ _ lk
 have T:OwnTail h bmV (.ref D::bmV):=tail_of_in X c.tl
 have B:=F.excBase_ValueError
 repeat (first|with_reducible refine FI hC ?_|with_reducible refine wpAny_madeBy_exc hC ?_|wp_step)
 refine codeAny_call_builtin_code (LQ _ B.quiet) (wpAny_check_new_subT B T hC (codeAny_exc_new_subT B T hC ?_ hz))
 show wpAny _ _ _ _ _ _
 have X1:K.In (wK h C rest):=X.keeps λb o z=>q8 z
 have LI:=looks_findIn (M:=model prog w) X1 c.ini
 have LB:=bind_fn (M:=model prog w) X1 (.ref (h.objs.size+1)) c.fn
 have hC1:=q8 (rest:=rest) (C:=C) hC
 have yes:(Value.ref C::.ref D::bmV).contains (.ref C)=true:=by simp
 unfold isInstance
 repeat (first|with_reducible refine FI yD ?_|(with_reducible refine wpAny_isSubtype_exc hC1 ?_;rw[yes])|wp_step)
 show wpAny _ _ (typeLookup (.ref C) _) _ _ _
 refine LI.at ?_
 refine ng (zza (LB.at ?_))
 refine zza (je hq (λr s' z=>?_) λ_ _ z=>z)
 obtain⟨rfl,z⟩:=z
 wp_walk
 exact z
theorem call_exc(X:K.In h)(c:XC K C D fI){Q:zzj}(hz:rest.length<=sizeLine)
  (hq:wpAny (model prog w) (A.under (.builtin "type.__call__" ⟨.ref C::rest,[]⟩)) (call (.ref fI) (.ref (h.objs.size+1)::rest)) (λr s'=>r=.none/\Q (.ref (h.objs.size+1)) s') E ⟨wK h C rest,g,d,t,os⟩) :
  wpAny (model prog w) A (call (.ref C) rest) Q E ⟨h,g,d,t,os⟩:=by
 obtain⟨nm,q,N,bs,sn,sub,ab,col,dd,k0,k1,k2,k3,k5,lk⟩:=c.obj
 have hC:=X _ _ lk
 have f1:=tc_lookup
 have f2:=tc_bind (.ref C)
 have ty:(⟨h,g,d,t,os⟩:Shared).TypeIs (.ref C) "type":=⟨_,hC,rfl⟩
 refine wpAny_call (codeAny_of_tree ?_)
 show wpAny _ _ (callAny (.ref C) _) _ _ _
 repeat (any_goals (first|assumption|with_reducible refine FI hC ?_|wp_step))
 refine⟨rfl,codeAny_call_builtin_at (LQ _ (by decide +kernel)) entry_typeCall (wpAny_check_type_call_sub hC (tf X c hz ?_))⟩
 exact hq
end
end L4
namespace L4
open PySem PySem.Spec PyProof.Rows L2 L3
variable {X:Cx}{H F H':Hp}{C e fI:Addr}{pos cpos:Pos}{K:Fg}{Z:L2.St}{E:zzj}{A:Around}{w:World}{pins:zzk}{Q:Unit->Shared->Prop}{o tg:Expr}{x f n:Str}{P:Program}{dd:Option Addr}{fl:List Str}{G:Gh}{ρ:En}{es:List Expr}
def XN(e C:Addr)(dd:Option Addr):Heap->Prop:=λh=>∃oe vs,h.get? e=some oe/\oe.cls=.ref C/\oe.dict=dd/\oe.data=.fields vs/\1<vs.size/\vs[1]? = some .none
section
variable {h h':Heap} {dx:Addr} {fs:List (Str×V)}
theorem XN.ok(x:XN e C dd h):ObjOk P w H' h e (.ext (XN e C dd)):=by
 obtain⟨oe,vs,q,r⟩:=x
 exact⟨⟨oe,vs,q,r⟩,⟨oe,q⟩,λh1 h2 ⟨o,vs,z,r⟩ k=>⟨o,vs,k o z,r⟩⟩
theorem XD.ok(x:XD dx fs h):ObjOk P w H' h dx (.ext (XD dx fs)):=by
 obtain⟨mA,n,r⟩:=x
 obtain⟨o,es,ep,q,z⟩:=id n
 exact⟨⟨mA,n,r⟩,⟨o,q⟩,λh1 h2 ⟨m,n,r⟩ k=>⟨m,n.at λo q=>k o q,r⟩⟩
theorem HR{fr:List Addr}{o1 o2:HO}(ea:∃φ,H e=some (.ext φ))(hd:h.objs.size<=dx)(hn:H dx=none)(heo:∃o,h'.get? e=some o)(k:∀b o,b≠e->h.get? b=some o->h'.get? b=some o):Un fr [] H (upd (upd H dx o1) e o2) h h':=by
 obtain⟨φ,ea⟩:=ea
 have nd:∀b o,h.get? b=some o->b≠dx:=λb o q=>bu (bo (be q) hd)
 have ne:∀b,H b=none->b≠e:=λb n z=>by subst z;rw[ea]at n;cases n
 have kp:∀b u,H b=some u->(∀φ,u≠.ext φ)->(upd (upd H dx o1) e o2) b=some u:=λb u q nu=>by
  rw[aL (λz=>by subst z;rw[ea]at q;cases q;exact nu _ rfl),aL (λz=>by subst z;rw[hn]at q;cases q)]
  exact q
 refine⟨λb o q n _ _=>k b o (ne b n) q,λb o q n _ _=>⟨o.slots,k b o (ne b n) q⟩,λb o q n _=>?_,λb o q _=>?_,λb xs q=>kp b _ q (λ_ z=>by cases z),λb o u q=>kp b _ q (λ_ z=>by cases z),λb ps q=>⟨#[],?_⟩⟩
 ·rw[aL (ne b n),aL (nd b o q)];exact n
 ·by_cases z:b=e
  ·subst z;exact heo
  ·exact⟨o,k b o z q⟩
 ·rw[kp b _ q (λ_ z=>by cases z)];simp
theorem Hd{o1 o2:HO}(ok:HOk P w H h)(ea:∃φ,H e=some (.ext φ))(hn:H dx=none)(k:∀b o,b≠e->h.get? b=some o->h'.get? b=some o)
  (h1:ObjOk P w (upd (upd H dx o1) e o2) h' dx o1) (h2:ObjOk P w (upd (upd H dx o1) e o2) h' e o2):HOk P w (upd (upd H dx o1) e o2) h':=λa o q=>by
 obtain⟨φ,ea⟩:=ea
 have kp:∀b u,H b=some u->(∀φ,u≠.ext φ)->(upd (upd H dx o1) e o2) b=some u:=λb u r nu=>by
  rw[aL (λz=>by subst z;rw[ea]at r;cases r;exact nu _ rfl),aL (λz=>by subst z;rw[hn]at r;cases r)]
  exact r
 by_cases z:a=e
 ·subst z;rw[aR]at q;cases q;exact h2
 ·rw[aL z]at q
  by_cases y:a=dx
  ·subst y;rw[aR]at q;cases q;exact h1
  ·rw[aL y]at q
   refine(ok a o q).stay (λb u hb r=>k b u (λx=>?_) r) (λb r=>kp b _ r (λ_ z=>by cases z)) λb xs r=>kp b _ r (λ_ z=>by cases z)
   subst x
   rcases hb with rfl|hb
   ·exact z rfl
   ·rw[ea]at hb;cases hb
end
section
variable {s:Shared} {D dx:Addr} {y:V} {u:Value} {fs:List (Str×V)}
theorem Ig(I:Inv X pins Z H s)(ea:H e=some (.ext (XN e C none)))(c:XC X.K C D fI)(n:NoAttr X.K C f)(ry:RelV y u)
  (h:∀s' dx,H dx=none->dx≠e->Inv X pins Z (upd (upd H dx (.ext (XD dx [(f,y)]))) e (.ext (XN e C (some dx)))) s'->Q () s'):wpAny (model X.prog X.w) A (setAttr (.ref e) f u) Q E s:=by
 obtain⟨⟨oe,vs,q,q1,q2,q3,q4,q5⟩,_⟩:=I.hok e _ ea
 obtain⟨cd,k1,k2,k3⟩:=tP c
 refine A1 (bmB:=bmV) I.kIn q q1 (by unfold PySem.W.notCls;rw[q3]) q2 c.sa k1 k2 k3 n λh' dx tk hd ns he kp=>?_
 have hn:H dx=none:=I.hok.fresh hd
 have nx:dx≠e:=λz=>by subst z;rw[ea]at hn;cases hn
 have xn:XN e C (some dx) h':=⟨_,vs,he,q1,rfl,q3,q4,q5⟩
 have xd:XD dx [(f,y)] h':=by
  refine⟨_,ns,λg hg=>?_,λg=>?_⟩
  ·by_cases z:g=f
   ·subst z;exact List.mem_singleton.mpr rfl
   ·exact absurd (show(if g=f then some u else none)=none from ac z) hg
  ·by_cases z:g=f
   ·subst z
    rw[show List.lookup g [(g,y)]=some y by simp[List.lookup],show(if g=g then some u else none)=some u from ai rfl]
    exact ry
   ·rw[show List.lookup g [(f,y)]=none by simp[List.lookup,beq_eq_false_iff_ne.mpr z],show(if g=f then some u else none)=none from ac z]
    exact True.intro
 exact h _ dx hn nx (I.un (HR ⟨_,ea⟩ hd hn ⟨_,he⟩ kp) (Hd I.hok ⟨_,ea⟩ hn kp xd.ok xn.ok))
theorem Ie(I:Inv X pins Z H s)(ea:H e=some (.ext (XN e C (some dx))))(hd:H dx=some (.ext (XD dx fs)))(c:XC X.K C D fI)(n:NoAttr X.K C f)(hl:fs.length<=900)(ry:RelV y u)
  (h:∀s',Inv X pins Z (upd H dx (.ext (XD dx (eg f y fs)))) s'->Q () s'):wpAny (model X.prog X.w) A (setAttr (.ref e) f u) Q E s:=by
 obtain⟨⟨oe,vs,q,q1,q2,q3,q4,q5⟩,_⟩:=I.hok e _ ea
 obtain⟨⟨mA,na,wi,r⟩,_⟩:=I.hok dx _ hd
 obtain⟨cd,k1,k2,k3⟩:=tP c
 have ne:dx≠e:=λz=>by
  subst z
  obtain⟨o,es,ep,z1,z2,_⟩:=na
  rw[q]at z1;cases z1
  rw[q3]at z2;cases z2
 refine A0 (D:=D) I.kIn q q1 (by unfold PySem.W.notCls;rw[q3]) q2 ne na wi (by rw[zzd];omega) c.sa k1 k2 k3 n λh' tk ns kp=>?_
 have xd:XD dx (eg f y fs) h':=by
  refine⟨_,ns,λg hg=>?_,λg=>?_⟩
  ·by_cases z:g=f
   ·rw[z];exact(gH f y fs).1
   ·refine(gH f y fs).2 g (wi g λz'=>hg ?_)
    show(if g=f then some u else mA g)=none
    rw[ac z];exact z'
  ·show RelO ((eg f y fs).lookup g) (if g=f then some u else mA g)
   rw[iZ]
   by_cases z:g=f
   ·rw[ai z,ai z];exact ry
   ·rw[ac z,ac z];exact r g
 obtain⟨o',es',ep',z',_⟩:=id ns
 exact h _ (I.write (x:=dx) (e:=dx) (by rw[hd];exact True.intro) (.inl rfl) (λb o nb z=>kp b o nb z) ⟨o',z'⟩ xd.ok)
end
def sX1(C:Addr)(f:Str)(i:Nat):TS:=λD Z H=>∃e y,Z[0]? = some (some (.ref e))/\Z[i]? = some (some y)/\H e=some (.ext (XN e C none))/\∀dx,H dx=none->dx≠e->D.nx Z (upd (upd H dx (.ext (XD dx [(f,y)]))) e (.ext (XN e C (some dx))))
def sX2(C:Addr)(f:Str)(i:Nat):TS:=λD Z H=>∃e y dx fs,Z[0]? = some (some (.ref e))/\Z[i]? = some (some y)/\H e=some (.ext (XN e C (some dx)))/\H dx=some (.ext (XD dx fs))/\fs.length<=900/\D.nx Z (upd H dx (.ext (XD dx (eg f y fs))))
section
variable {D:Addr} {value:Expr} {i:Nat} {pos':Pos}
theorem IU(c:XC X.K C D fI)(n:NoAttr X.K C f)(ha:PE X o (zB 0))(hv:PE X value (zB i))(hs:swapsWith value (some (.Attribute o f pos')) pos.line X.env=pure false):PS X (.Assign [.Attribute o f pos'] value pos) (sX1 C f i):=by
 intro pins s Z H Dd I h
 obtain⟨e,y,h0,hi,he,k⟩:=h
 refine IT (thn (hv pins s Z H (λv H'=>v=y/\H'=H) I ⟨y,hi,rfl,rfl⟩) λu s1 ⟨y',H1,I1,ry,e1,e2⟩=>thn (ha pins s1 Z H1 (λv H'=>v=.ref e/\H'=H) (by rw[e2]at I1 ⊢;exact I1) ⟨_,h0,rfl,e2⟩) λov s2 ⟨x,H2,I2,rx,e3,e4⟩=>?_) hs
 subst e1 e2 e3 e4
 obtain rfl:ov=Value.ref e:=rx
 exact Ig I2 he c n ry λs3 dx hn ne I3=>⟨Z,_,I3,k dx hn ne⟩
theorem IS(c:XC X.K C D fI)(n:NoAttr X.K C f)(ha:PE X o (zB 0))(hv:PE X value (zB i))(hs:swapsWith value (some (.Attribute o f pos')) pos.line X.env=pure false):PS X (.Assign [.Attribute o f pos'] value pos) (sX2 C f i):=by
 intro pins s Z H Dd I h
 obtain⟨e,y,dx,fs,h0,hi,he,hd,hl,k⟩:=h
 refine IT (thn (hv pins s Z H (λv H'=>v=y/\H'=H) I ⟨y,hi,rfl,rfl⟩) λu s1 ⟨y',H1,I1,ry,e1,e2⟩=>thn (ha pins s1 Z H1 (λv H'=>v=.ref e/\H'=H) (by rw[e2]at I1 ⊢;exact I1) ⟨_,h0,rfl,e2⟩) λov s2 ⟨x,H2,I2,rx,e3,e4⟩=>?_) hs
 subst e1 e2 e3 e4
 obtain rfl:ov=Value.ref e:=rx
 exact Ie I2 he hd c n hl ry λs3 I3=>⟨Z,_,I3,k⟩
end
def spI(C:Addr)(fl:List Str):Sp:=λvs H Q _=>∃e args,vs=.ref e::args/\args.length=fl.length/\H e=some (.ext (XN e C none)) /\
 ((fl=[]/\Q .non H)\/(fl≠[]/\∀dx,H dx=none->dx≠e->Q .non (upd (upd H dx (.ext (XD dx (fl.zip args)))) e (.ext (XN e C (some dx))))))
section
variable {mg:zzl} {base:Heap} {qual:Str} {st:Stmt} {f:Addr} {fd:FuncData} {k:Nat} {D:Addr} {f1 f2 q1 q2 self:Str} {a1 a2 a3 a4 b1 b2 b3 b4:Pos}
theorem Jy(Fn:Fun K "__init__" qual st f fd)(Sc:FnScope [self,q1,q2] [self,q1,q2] (aB st))(hb:bS st=[.Assign [.Attribute (.Name self a1) f1 a2] (.Name q1 a3) a4,.Assign [.Attribute (.Name self b1) f2 b2] (.Name q2 b3) b4])(c:XC K C D f)(n:NoAttr K C f1)(n2:NoAttr K C f2)(ne12:f1≠f2)
  (v0:Vis (aB st) self:=by first|exact Or.inl rfl|exact Or.inr (Or.inl rfl)|exact Or.inr (Or.inr rfl)) (v1:Vis (aB st) q1:=by first|exact Or.inl rfl|exact Or.inr (Or.inl rfl)|exact Or.inr (Or.inr rfl)) (v2:Vis (aB st) q2:=by first|exact Or.inl rfl|exact Or.inr (Or.inl rfl)|exact Or.inr (Or.inr rfl))
  (d0:(self==("__debug__" : Str))=false:=by decide) (d1:(q1==("__debug__" : Str))=false:=by decide) (d2:(q2==("__debug__" : Str))=false:=by decide) (c0:(self==("__classdict__" : Str))=false:=by decide) (c1:(q1==("__classdict__" : Str))=false:=by decide) (c2:(q2==("__classdict__" : Str))=false:=by decide):FnOk P w K mg base (CX1 P w) (k+1) f fd [self,q1,q2] (spI C [f1,f2]):=by
 refine B7 Fn Sc (λvs H Q E h=>?_) (λcdv A outer s H vs Q E hr h=>?_)
 ·obtain⟨e,args,rfl,hl,_⟩:=h;simp at hl ⊢;exact hl
 ·obtain⟨e,args,rfl,hl,he,h⟩:=h
  match args,hl with
  | [y,z],_ =>
   rw[hb]
   refine⟨_,nZ (IU (i:=1) c n (dD rfl v0 d0 c0) (dD rfl v1 d1 c1) rfl) (nZ (IS (i:=2) c n2 (dD rfl v0 d0 c0) (dD rfl v2 d2 c2) rfl) yo),e,y,rfl,rfl,he,λdx hn ne=>?_⟩
   rcases h with ⟨h,_⟩|⟨_,h⟩
   ·cases h
   ·refine⟨e,z,dx,[(f1,y)],rfl,rfl,aR,by rw[aL ne,aR],by simp,?_⟩
    have e1:eg f2 z [(f1,y)]=[(f1,y),(f2,z)]:=by
     show(if f1=f2 then(f1,z)::[]else(f1,y)::eg f2 z [])=_
     rw[ac ne12];rfl
    have e2:∀(a b:HO),upd (upd (upd H dx a) e b) dx (.ext (XD dx [(f1,y),(f2,z)]))=upd (upd H dx (.ext (XD dx [(f1,y),(f2,z)]))) e b:=λa b=>by
     funext q
     unfold upd
     by_cases q1:q=dx
     ·rw[ai q1]
      rw[ac (λz=>ne (q1▸z)),ai q1]
     ·rw[ac q1]
      by_cases q2:q=e
      ·rw[ai q2,ai q2]
      ·rw[ac q2,ac q2,ac q1,ac q1]
    rw[e1]
    show Q .non _
    rw[e2]
    exact h dx hn ne
end
section
variable {M:Model} {s:Shared} {env:Env} {D:Addr}
theorem uF{x:Sem Value}{Q:Flow->Shared->Prop}(c:XC K C D fI)(hh:A.handled=none)
  (h:wpAny M A x (λv s1=>∃e oe vs,v=.ref e/\K.In s1.heap/\s1.heap.get? e=some oe/\oe.cls=.ref C/\oe.data=.fields vs/\vs[1]? = some .none/\E (.ref e) s1) E s) :
  wpAny M A (raiseStmt env (some x) none) Q E s:=by
 obtain⟨nm,q,N,bs,sn,sub,ab,col,dd,k0,k1,k2,k3,k5,lk⟩:=c.obj
 have isB:(Value.ref C::.ref D::bmV).contains (.type "BaseException")=true:=by rfl
 unfold raiseStmt
 refine zza (je h (λv s1 z=>?_) λ_ _ z=>z)
 obtain⟨e,oe,vs,rfl,X,he,hc,hd,h1,hE⟩:=z
 obtain⟨hp,g,d,t,os⟩:=s1
 have hC:=X _ _ lk
 repeat (first|(with_reducible refine FI he ?_;rw[hc])|with_reducible refine FI hC ?_|(with_reducible refine wpAny_isSubtype_exc hC ?_;rw[isB])|with_reducible refine wa he hd h1 ?_|wp_step)
 exact wpAny_raiseNew_none hh hE
end
def MadeX(H H':Hp)(e C:Addr)(fl:List Str)(vs:List V)(dd:Option Addr):Prop :=
 (fl=[]/\dd=none/\H'=upd H e (.ext (XN e C none)))\/(fl≠[]/\∃dx,dd=some dx/\H dx=none/\dx≠e/\H'=upd (upd (upd H e (.ext (XN e C none))) dx (.ext (XD dx (fl.zip vs)))) e (.ext (XN e C (some dx))))
section
variable {s:Shared} {D:Addr} {fd:FuncData} {ps:List Str} {k:Nat} {us:List Value} {vs:List V} {Q:zzj}
theorem B3(I:Inv X pins Z H s):Inv X pins Z (upd H (s.heap.objs.size+1) (.ext (XN (s.heap.objs.size+1) C none))) { s with heap:=wK s.heap C us }:=by
 have I1:=I.kept (h':=s.heap.push { cls:=.type "tuple",data:=.seq us.toArray }) (t':=s.toks) λb u q=>zzc _ q
 refine I1.laid (a:=s.heap.objs.size+1) (t':=s.toks) (h':=wK s.heap C us) (λb u q=>zzc _ q) (Nat.le_of_eq (ve _ _)) ?_
 exact XN.ok ⟨_,_,yD,rfl,rfl,rfl,(show 1<6 from by decide),rfl⟩
theorem zI(c:XC X.K C D fI)(Fn:FnOk X.prog X.w X.K X.mg X.base (CX1 X.prog X.w) k fI fd ps (spI C fl))(hr:Room (k+1) X.A)(hb:L2.Binds X.K fd ps [])(I:Inv X pins Z H s)(r:Vals vs us)(hl:vs.length=fl.length)(hz:us.length<=sizeLine)
  (h:∀e dd H' s',s.heap.objs.size<=e->Inv X pins Z H' s'->MadeX H H' e C fl vs dd->H' e=some (.ext (XN e C dd))->Q (.ref e) s'):wpAny (model X.prog X.w) X.A (call (.ref C) us) Q E s:=by
 have I2:=B3 (C:=C) (us:=us) I
 have hn:H (s.heap.objs.size+1)=none:=I.hok.fresh (Nat.le_succ _)
 obtain⟨hp,g,d,t,os⟩:=s
 have sp:∀E',spI C fl (V.ref (hp.objs.size+1)::vs) (upd H (hp.objs.size+1) (.ext (XN (hp.objs.size+1) C none))) (λv H'=>v=.non/\∃dd,MadeX H H' (hp.objs.size+1) C fl vs dd/\H' (hp.objs.size+1)=some (.ext (XN (hp.objs.size+1) C dd))) E':=by
  intro E'
  refine⟨_,vs,rfl,hl,aR,?_⟩
  by_cases z:fl=[]
  ·exact .inl ⟨z,rfl,none,.inl ⟨z,rfl,rfl⟩,aR⟩
  ·exact .inr ⟨z,λdx q ne=>⟨rfl,some dx,.inr ⟨z,dx,rfl,by rw[aL ne]at q;exact q,ne,rfl⟩,aR⟩⟩
 have r2:Vals (V.ref (hp.objs.size+1)::vs) (Value.ref (hp.objs.size+1)::us):=.cons rfl r
 have hl2:((Value.ref (hp.objs.size+1)::us)++[]).length=ps.length:=by
  have e:=r2.length
  rw[Fn.len _ _ _ _ (sp λ_ _ _=>False)]at e
  rw[iz]
  exact e.symm
 refine call_exc I.kIn c hz (wpAny_call (GU (Fn.run _ X.stack _ _ ⟨Value.ref (hp.objs.size+1)::us,[]⟩ (Value.ref (hp.objs.size+1)::us) _ _ (λ_ _ _=>False) (hr.make C us []) (I2.env0.make C us []) (by
  have:=hb _ (Value.ref (hp.objs.size+1)::us) I2.kIn hl2
  rw[iz]at this
  exact this) r2 (sp _)) λr s' q=>?_))
 cases r with
 | error e=>obtain⟨_,_,_,_,_,_,_,_,_,_,z⟩:=q;exact z.elim
 | ok fl' =>
  cases fl' with
  | ret u =>
   obtain⟨v,H',I3,rv,ev,dd,mk,he⟩:=I2.after q
   subst ev
   exact⟨rv,h _ dd H' s' (Nat.le_succ _) I3 mk he⟩
  | next=>exact False.elim q
  | brk=>exact False.elim q
  | cont=>exact False.elim q
end
structure CCl(P:Program)(w:World)(K:Fg)(mg:zzl)(base:Heap)(x:Str)(k:Nat)(fl:List Str):Prop where
 ex:∃C D fI fd ps,XC K C D fI/\FnOk P w K mg base (CX1 P w) k fI fd ps (spI C fl)/\L2.Binds K fd ps []/\mg x=some (.ref C)/\XQ K C x/\PySem.W.keepIn K (.ref C)=true/\(∀f∈fl,NoAttr K C f)/\PySem.W.exmOne K (.ref C) (.ref C)=some true
def Ga{S:Type}(x:Str)(fl:List Str)(ms:Ev S (List D)):SM S:=λK ρ=>ms K.x (λds ρ1=>K.x ⟨x,fl.zip ds⟩ ρ1) ρ
theorem C6:∀{fl:List Str} {vs:List V} {ds:List D},RepL K F vs ds->fl.length=vs.length->Paired (λ(p:Str×V) (q:Str×D)=>p.1=q.1/\Rep K F p.2 q.2) (fl.zip vs) (fl.zip ds)
:=by
 intro fl vs ds r h
 induction vs generalizing fl ds with
 | nil=>cases r;rw[LL,LL];exact .nil
 | cons v vs ih=>cases r with
  | cons a b=>cases fl with
   | nil=>cases h
   | cons f fl=>exact .cons ⟨rfl,a⟩ (ih b (Nat.succ.inj h))
section
variable {s:Shared} {vs:List V} {ds:List D}
theorem Bf(I:Inv X pins Z H' s)(hs:X.s₀.heap.objs.size<=e)(hn:H e=none)(mk:MadeX H H' e C fl vs dd)(he:H' e=some (.ext (XN e C dd)))(St:StOk X.K G F Z H ρ)(r:RepL X.K F vs ds)(hl:fl.length=vs.length)
  (hc:XQ X.K C x) (xw:XW X G F ρ ⟨x,fl.zip ds⟩):X.xe (.ref e) s:=by
 obtain⟨⟨oe,ws,q1,q2,q3,q4,q5,q6⟩,_⟩:=I.hok e _ he
 have I2:Inv X pins Z (upd H' e (.ext (XO e C dd))) s:=by
  have:=I.write (x:=e) (e:=e) (o:=.ext (XO e C dd)) (h':=s.heap) (t':=s.toks) (by rw[he];exact True.intro) (.inl rfl) (λb u _ z=>z) ⟨_,q1⟩ (XO.ok ⟨oe,q1,q2,q3,by unfold PySem.W.notCls;rw[q4]⟩)
  exact this
 have low:∀b u,b≠e->H b=some u->upd H' e (.ext (XO e C dd)) b=some u:=λb u ne z=>by
  rw[aL ne]
  rcases mk with ⟨_,_,rfl⟩|⟨_,dx,_,hd,_,rfl⟩
  ·rw[aL ne];exact z
  ·rw[aL ne,aL (λy=>by subst y;rw[hd]at z;cases z),aL ne];exact z
 have ne:∀b u,H b=some u->b≠e:=λb u z y=>by subst y;rw[hn]at z;cases z
 have xs:XS (upd H' e (.ext (XO e C dd))) s.heap X.s₀.heap.objs.size e C dd:=⟨hs,aR,oe,ws,q1,q2,q3,q4,q5,.inl q6⟩
 have nt:∀b,¬ jA s.heap e b:=λb ⟨oe',vs',z1,z2,z3⟩=>by
  rw[q1]at z1;cases z1
  rw[q4]at z2;cases z2
  rw[q6]at z3;cases z3
 have fh0:Same F (upd H' e (.ext (XO e C dd))):=λb u z=>low b u (ne b u (St.fh b u z)) (St.fh b u z)
 have oh0:Same G.O (upd H' e (.ext (XO e C dd))):=λb u z=>low b u (ne b u (St.oh b u z)) (St.oh b u z)
 rcases mk with ⟨z,rfl,_⟩|⟨z,dx,rfl,hd,nx,rfl⟩
 ·subst z
  refine xw F _ s e C none pins Z ⟨fh0,oh0,St.fo,St.fb⟩ (St.fzok (Same.refl _)) I2 xs (λp _=>nt p.1) ⟨hc,[],.inl ⟨rfl,rfl⟩,.nil⟩
 ·have fd:F dx=none:=St.fh.free hd
  have od:G.O dx=none:=St.oh.free hd
  have sm:Same F (upd F dx (.ext (XD dx (fl.zip vs)))):=eM fd
  refine xw (upd F dx (.ext (XD dx (fl.zip vs)))) _ s e C (some dx) pins Z ⟨λb u z=>?_,oh0,λb u z=>?_,St.fb.trans sm⟩ (St.fzok sm) I2 xs (λp _=>nt p.1) ⟨hc,_,.inr ⟨dx,rfl,aR⟩,C6 (r.mono sm) hl⟩
  ·by_cases y:b=dx
   ·subst y
    rw[aR]at z
    cases z
    rw[aL nx,aL nx,aR]
   ·rw[aL y]at z
    exact fh0 b u z
  ·rw[aL (bA z od)]
   exact St.fo b u z
end
section
variable {S:Type} {k:Nat} {p:Pos} {e:Expr} {ms:Ev S (List D)}
theorem CH(C:CCl X.prog X.w X.K X.mg X.base x k fl)(hr:Room (k+1) X.A)(hg:Gl X x)(ha:AEa X (e::es) ms)(hn:(e::es).length=fl.length)(hz:fl.length<=1000)
  (hdb:(x==("__debug__" : Str))=false) (he:starEach (e::es) X.env=(false,eval e X.env)::starEach es X.env) (hpl:(backTo cpos (starEach es X.env)).any (·.1)=false) :
  AS X (.Raise (some (.Call (.Name x p) (e::es) [] cpos)) none pos) (Ga x fl ms):=by
 obtain⟨Cl,D,fI,fd,ps,c,Fn,hb,hm,hc,kp,_⟩:=C.ex
 intro OK K G F Z H ρ E hO hX St ok eo
 unfold ku
 intro pins s I
 rw[arm_exec_Raise]
 refine zza (Db (uF c hr.hd ?_))
 refine zza (je (EA (lc I hg hm (LK (h₀:=X.base) I.ok.mod.kin kp (Q:=λv s1=>∃e oe vs,v=.ref e/\X.K.In s1.heap/\s1.heap.get? e=some oe/\oe.cls=.ref Cl/\oe.data=.fields vs/\vs[1]? = some .none/\X.xe (.ref e) s1) ?_ he hpl) hdb)) (λv s3 z=>zza (Db (zzb z))) λ_ _ z=>z)
 have ar:eL X (e::es) Z H λvs H1=>∃F1 ρ1 ds,StOk X.K G F1 Z H1 ρ1/\vs.length=(e::es).length/\RepL X.K F1 vs ds/\OK (K.x ⟨x,fl.zip ds⟩ ρ1) :=
  ha OK K.x _ G F Z H ρ _ hO hX St ok λds vs F1 H1 ρ1 s1 S1 hl r1 o1=>⟨F1,ρ1,ds,S1,hl,r1,o1⟩
 unfold eL at ar
 refine thn (ar cpos pins s I) λus s1 ⟨vs,H1,I1,rv,F1,ρ1,ds,S1,hl,r1,o1⟩=>⟨I1.kIn,?_⟩
 have hlv:vs.length=fl.length:=hl.trans hn
 refine zI (vs:=vs) c Fn hr hb I1 rv hlv (by rw[List.nil_append,<-rv.length,hlv];exact lZ hz) λa dd H2 s2 hs I2 mk hh=>?_
 obtain⟨⟨oe,ws,q1,q2,q3,q4,q5,q6⟩,_⟩:=I2.hok a _ hh
 exact⟨a,oe,ws,rfl,I2.kIn,q1,q2,q4,q6,Bf I2 (bj I1.sz hs) (I1.hok.fresh hs) mk hh S1 r1 hlv.symm hc (hX F1 ρ1 _ o1)⟩
end
section
variable {prog:Program} {s:Shared} {env:Env}
theorem Ag{t:Expr}{b0:Stmt}{suite:List Stmt}{rest:List ExceptHandler}{Q:Flow->Shared->Prop}
  (h:wpAny (model prog w) (A.mark (some (.ref e))) (eval t env) (λc s1=>K.In s1.heap/\PySem.W.exmOne K (.ref C) c=some true/\(∃oe,s1.heap.get? e=some oe/\oe.cls=.ref C) /\
   wpAny (model prog w) (A.mark (some (.ref e))) (setFlight (.ref e) none) (λ_ s2=>wpAny (model prog w) (A.mark (some (.ref e))) (storeName env n (.ref e)) (λ_ s3 =>
    wpAny (model prog w) (A.mark (some (.ref e))) (execs (b0::suite) env) (λf s4=>wpAny (model prog w) A (do bindName env n .none;unbindBehindTheSuite env n pos) (λ_ s5=>Q f s5) E s4) (λ_ _=>False) s3) (λ_ _=>False) s2) (λ_ _=>False) s1) (λ_ _=>False) s) :
  wpAny (model prog w) A (handleBy (.ref e) env (.ExceptHandler (some t) (some n) (b0::suite) pos::rest)) Q E s:=by
 refine wpAny_handleBy_cons (codeAny_handlers_test (je h (λc s1 z=>?_) λ_ _ z=>z.elim)) (λz=>nomatch z)
 obtain⟨X,hx,⟨oe,he,hc⟩,k⟩:=z
 have LT:PySem.W.Looks (model prog w) s1.heap (typeOf (.ref e)) (.ref C):=hc▸(PySem.W.Looks.ld he).andThen .now
 obtain⟨hp,g,d,tk,os⟩:=s1
 refine(PySem.W.exm_one (M:=model prog w) X LT hx).at ?_
 refine codeAny_handlers_suite_as (je k (λ_ s2 k2=>je k2 (λ_ s3 k3=>je k3 (λf s4 k4=>k4) λ_ _ z=>z.elim) λ_ _ z=>z.elim) λ_ _ z=>z.elim)
theorem name_goes{m:zzl}(hl:env.kindOf n=some .local)(hn:s.heap.Ns env.locals m)(hk:env.scope.kind=.function)
  (k:∀h' v t',h'.Ns env.locals (λy=>if y=n then v else m y)->Heap.SameBut env.locals s.heap h'->Q () { s with heap:=h',toks:=t' }):wpAny (model prog w) A (do bindName env n .none;unbindBehindTheSuite env n pos) Q E s:=by
 have hc:(env.scope.kind==.class||(env.scope.kind==.module&&env.locals != env.globals))=false:=by rw[hk];rfl
 refine zza (wpAny_bindName (wpAny_storeName_local hl hn (λh1 n1 b1=>?_) hc))
 simp only[unbindBehindTheSuite,unbindName]
 refine wpAny_onRaise (zza (wpAny_point (zza ?_)))
 unfold deleteName
 simp only[hl,hc]
 rw[ac (by decide)]
 refine zza (wpAny_nsDel_keeps n1 λh2 v n2 b2=>?_)
 simp only[LF,Option.isSome_some,Bool.not_true,LR,if_false]
 refine zzb (wpAny_point (k h2 v _ ?_ (b1.trans b2)))
 refine(show(λy=>if y=n then v else if y=n then some Value.none else m y)=(λy=>if y=n then v else m y)from ?_)▸n2
 funext y
 by_cases q:y=n
 ·rw[ai q,ai q]
 ·rw[ac q,ac q,ac q]
end
section
variable {s:Shared} {j:Nat}
theorem Ed(I:Inv X pins Z H s)(hN:X.N.Nodup)(hj:X.N[j]? = some n)(hl:X.env.kindOf n=some .local)
  (k:∀s',Inv X pins (Z.set j none) H s'->Q () s'):wpAny (model X.prog X.w) A (do bindName X.env n .none;unbindBehindTheSuite X.env n pos) Q E s:=by
 obtain⟨m,hn,hv⟩:=id I.loc
 refine name_goes hl hn I.ok.kind λh' v t' n1 b1=>k _ ?_
 have neL:∀b o,X.s₀.heap.get? b=some o->b≠X.env.locals:=λb o q=>bu (bo (be q) I.ok.above)
 refine⟨I.ok,I.os,I.bare,⟨λb o q z hb hx=>?_,λb o q z hb hx=>?_,I.base.free,λb o q hx=>?_,I.base.tups,I.base.frzs,I.base.tbls⟩,⟨_,n1,λi x u q1 q2 q3=>?_⟩,λx c q=>?_,I.free,I.freeC,λp hp=>?_,λb o q=>?_,by simpa using I.len⟩
 ·exact(b1.2 b (neL b o q)).trans (I.base.keep b o q z hb hx)
 ·obtain⟨sl,r⟩:=I.base.slot b o q z hb hx
  exact⟨sl,(b1.2 b (neL b o q)).trans r⟩
 ·obtain⟨o',r⟩:=I.base.there b o q hx
  exact⟨o',(b1.2 b (neL b o q)).trans r⟩
 ·have ne:i≠j:=λz=>by
   subst z
   have hi:i<Z.length:=by rw[I.len];exact(List.getElem?_eq_some_iff.mp q1).1
   rw[il hi]at q2
   cases q2
  rw[ge (Ne.symm ne)]at q2
  obtain⟨w',r,l⟩:=hv i x u q1 q2 q3
  refine⟨w',r,?_⟩
  rcases l with ⟨l1,l2⟩|⟨l1,c,l2,l3⟩
  ·refine .inl ⟨l1,?_⟩
   have nx:x≠n:=λz=>by subst z;exact ne (oI hN q1 hj)
   show(if x=n then v else m x)=_
   rw[ac nx];exact l2
  ·refine .inr ⟨l1,c,l2,?_⟩
   obtain⟨oc,g1,g2⟩:=l3
   exact⟨oc,(b1.2 c (I.cne x c l2)).trans g1,g2⟩
 ·obtain⟨v',oc,g1,g2⟩:=I.cell x c q
  exact⟨v',oc,(b1.2 c (I.cne x c q)).trans g1,g2⟩
 ·obtain⟨g1,g2,g3,g4⟩:=I.pin p hp
  exact⟨(b1.2 p.1 g3).trans g1,g2,g3,g4⟩
 ·refine(I.hok b o q).stay (λc u hc r=>(b1.2 c ?_).trans r) (λ_ r=>r) λ_ _ r=>r
  rintro rfl
  rcases hc with z|z
  ·rw[<-z,I.free]at q;cases q
  ·rw[I.free]at z;cases z
abbrev cau(X:Cx)(e:Addr):Cx:={ X with A:=X.A.mark (some (.ref e)),calm:=false,xe:=λ_ _=>False }
theorem rN(I:Inv X pins Z H s):Inv (cau X e) pins Z H s :=
 ⟨⟨I.ok.mod,I.ok.kind,I.ok.glob,I.ok.blt,I.ok.above,I.ok.inj,I.ok.has,I.ok.cab,(λz=>nomatch z),I.ok.frames,I.ok.stk,I.ok.exf,I.ok.bs,I.ok.bsz,I.ok.noex,I.ok.exfs,I.ok.funs,I.ok.frf⟩,I.os,I.bare,I.base,I.loc,I.cell,I.free,I.freeC,I.pin,I.hok,I.len⟩
theorem xE(h:X.calm=true->X.A.handled=none)(I:Inv (cau X e) pins Z H s):Inv X pins Z H s :=
 ⟨⟨I.ok.mod,I.ok.kind,I.ok.glob,I.ok.blt,I.ok.above,I.ok.inj,I.ok.has,I.ok.cab,h,I.ok.frames,I.ok.stk,I.ok.exf,I.ok.bs,I.ok.bsz,I.ok.noex,I.ok.exfs,I.ok.funs,I.ok.frf⟩,I.os,I.bare,I.base,I.loc,I.cell,I.free,I.freeC,I.pin,I.hok,I.len⟩
end
def J4(K:Fg)(ta:TE)(f:Str):TE:=λZ H Q=>ta Z H λx H1=>∃a C D fI dx fv v,x=.ref a/\XC K C D fI/\NoAttr K C f/\H1 a=some (.ext (XO a C (some dx)))/\H1 dx=some (.ext (XD dx fv))/\fv.lookup f=some v/\Q v H1
theorem Gr{ta:TE}(ha:PE X o ta)(hb:attributeBase o f X.env (eval o X.env)=eval o X.env):PE X (.Attribute o f pos) (J4 X.K ta f):=by
 intro pins s Z H Q I h
 refine zl hb (thn (ha pins s Z H _ I h) λu s1 ⟨x,H1,I1,rx,a,C,D,fI,dx,fv,v,ex,c,n,h1,h2,l,q⟩=>?_)
 subst ex
 obtain rfl:u=Value.ref a:=rx
 obtain⟨⟨oe,q1,q2,q3,q4⟩,_⟩:=I1.hok a _ h1
 obtain⟨⟨mA,na,wi,r⟩,_⟩:=I1.hok dx _ h2
 obtain⟨cd,k1,k2,k3⟩:=tP c
 obtain⟨od,z1,hlk⟩:=lY na
 have It:PySem.W.InstAt s1.heap a oe C (some od):=⟨q1,q2,q4,by rw[q3];exact z1⟩
 obtain⟨u,hu,ru⟩:=RelO.some_of (v:=v) (o:=mA f) (by rw[<-l];exact r f)
 have lk:PySem.W.lookIn f od=some (some u):=by rw[hlk,hu]
 refine Ef I1.kIn It c.ga c.gr (by unfold PySem.W.mroIn;rw[k1,ut,k2];rfl) (PySem.W.findObj_own (by unfold PySem.W.hasDictIn;rw[k1];exact k3) n rfl lk) (rF ru) ⟨v,H1,I1.tok _,ru,q⟩
section
variable {M:Model} {s:Shared} {lo:Nat}
theorem flight_again(fs:List Addr)(xs:XS H s.heap lo e C dd)(k:∀h',Mv fs s.heap h' e->XS H h' lo e C dd->Q () { s with heap:=h' }):wpAny M A (setFlight (.ref e) none) Q E s:=by
 obtain⟨oe,vs,he,hc,hdd,hd,hz,tb⟩:=xs.obj
 simp only[setFlight]
 rcases tb with tb|⟨T,oT,ts,tb,hTe,hTl,hTn,hT,hTd,t3⟩
 ·refine zza (wa he hd tb ?_)
  rw[ac (by decide)]
  exact zzb (k s.heap ⟨λ_ _ q _ _ _=>q,λb o q _ _=>⟨o.slots,q⟩,λb o q=>⟨o,q⟩⟩ xs)
 ·refine zza (wa he hd tb ?_)
  rw[ai (by simp)]
  have z3:3<ts.size:=(Array.getElem?_eq_some_iff.mp t3).1
  have isT:jA s.heap e T:=⟨oe,vs,he,hd,tb⟩
  have off:∀b,b≠T->(s.heap.update T (Obj.mapFields (·.setIfInBounds 3 ((none:Option Addr).elim Value.none λf=>rawInt f)))).get? b=s.heap.get? b:=λb hb=>mn _ _ (Ne.symm hb)
  have T0:(s.heap.update T (Obj.mapFields (·.setIfInBounds 3 ((none:Option Addr).elim Value.none λf=>rawInt f)))).get? T=some (oT.mapFields (·.setIfInBounds 3 ((none:Option Addr).elim Value.none λf=>rawInt f))):=la _ hT (sE (ib hTd _))
  have nt:∀b,¬ jA s.heap e b->b≠T:=λb z q=>z (q▸isT)
  refine xv hT hTd z3 (k _ ⟨λb o q _ _ z=>(off b (nt b z)).trans q,λb o q _ z=>⟨o.slots,(off b (nt b z)).trans q⟩,λb o q=>?_⟩ ⟨xs.yg,xs.trk,oe,vs,(off e (Ne.symm hTe)).trans he,hc,hdd,hd,hz,.inr ⟨T,_,_,tb,hTe,hTl,hTn,T0,ib hTd _,by simp[z3]⟩⟩)
  by_cases z:b=T
  ·subst z;exact⟨_,T0⟩
  ·exact⟨o,(off b z).trans q⟩
end
theorem _root_.L3.StOk.setdead(S:StOk K G F Z H ρ){j:Nat}(hj:∀av,ρ[j]? ≠ some (some av))(u:Option V):StOk K G F (Z.set j u) H ρ:=by
 have ne:∀i av,ρ[i]? = some (some av)->i≠j:=λi av q z=>by subst z;exact hj av q
 have at_:∀i av,ρ[i]? = some (some av)->(Z.set j u)[i]? = Z[i]?:=λi av q=>ge (Ne.symm (ne i av q))
 have ao:∀i c,own ρ i c->(Z.set j u)[i]? = Z[i]?:=λi c q=>by rcases q with q|q<;>exact at_ i _ q
 refine⟨S.fh,S.oh,S.fo,by simpa using S.ln,λi d q=>by rw[at_ i _ q];exact S.fz i d q,λi c q=>by rw[ao i c q];exact S.ow i c q,λi k c e a q1 q2 z1 z2=>?_,λi a q=>?_,S.pq,S.fb⟩
 ·rw[ao i c q1]at z1
  rw[ao k e q2]at z2
  exact S.dj i k c e a q1 q2 z1 z2
 ·obtain⟨z1,c,z2⟩:=S.pp i a q
  exact⟨by rw[at_ i _ z2];exact z1,c,z2⟩
theorem av(i:Nat)(hN:X.N[i]? = some x:=by rfl)(hv:Vis X.env.scope x:=by exact vi rfl)
  (hd:(x==("__debug__" : Str))=false:=by decide) (hcd:(x==("__classdict__" : Str))=false:=by decide):AP X (.Name x pos) (Gy i):=HE hN hv hd hcd
inductive Ty where
 | tup|lst|str
def Ty.s:Ty->String
 | .tup => "tuple"
 | .lst => "list"
 | .str => "str"
def onT{S:Type}(t:Ty)(d:D)(m:M S):M S:=match t,d with
 | .tup,.tuple _=>m
 | .lst,.list _=>m
 | .str,.str _=>m
 | _,_=>.bad
def tyW(K:Fg)(T:String)(x:V)(H:Hp):Prop:=tyV K T x H\/(T = "tuple" /\ ∃p xs,x=.ref p/\H p=some (.tup xs))
theorem FM{s:Shared}{T:String}{x:V}{v:Value}(I:Inv X pins Z H s)(r:RelV x v)(ty:tyW X.K T x H) :
  s.TypeIs v T/\∀a,v=.ref a->∃ob,s.heap.get? a=some ob/\ob.dict=none:=by
 rcases ty with ty|⟨rfl,p,xs,rfl,h⟩
 ·exact AD I r ty
 ·cases r
  obtain⟨_,its,_,⟨o,e,c,_⟩,ob,e2,d⟩:=I.hok p _ h
  refine⟨⟨o,e,c⟩,λa q=>?_⟩
  cases q
  exact⟨ob,e2,d⟩
def Bi(K:Fg)(f:D->List D->Option D):V->List V->Hp->VK->Prop:=λx xs H Q=>∃G F Z ρ d ds res,StOk K G F Z H ρ/\OR K F H x d/\RepL K F xs ds/\f d ds=some res /\
 ∀y F' H',Same F F'->StOk K G F' Z H' ρ->Rep K F' y res->Q y H'
def Bh(K:Fg)(f:D->List D->Option (List D)):V->List V->Hp->VK->Prop:=λx xs H Q=>∃G F Z ρ d ds res,StOk K G F Z H ρ/\OR K F H x d/\RepL K F xs ds/\f d ds=some res /\
 ∀y F' H',Same F F'->StOk K G F' Z H' ρ->Frs K G F' Z H' ρ y (.l res)->Q y H'
def tMt(K:Fg)(T:String)(r:V->List V->Hp->VK->Prop)(to:TE)(t:TA):TE:=λZ H Q=>to Z H λx H1=>tyW K T x H1/\t Z H1 λxs H2=>r x xs H2 Q
section
variable {e:Expr} {to:TE} {t:TA} {name:Str} {apos:Pos} {T id:String} {r:V->List V->Hp->VK->Prop}
theorem sF(pa:PlainAttrs T)(slot:Slot T name id)(hty:typeOf (.builtin id)=pure (.type "method_descriptor"))(hm:MtR X id r)(ho:PE X o to)(ha:PA X (e::es) t)
  (hbase:attributeBase o name X.env (eval o X.env)=eval o X.env)
  (hfew:((backTo cpos (starEach (e::es) X.env)).all (λx=>!x.1)&&(backToKw cpos (keywordEach [] X.env)).all (λx=>x.1.isSome)
   && decide ((e::es).length+([]:List Keyword).length+(if([]:List Keyword).isEmpty then 0 else 1)<30))=true)
  (hline:(apos.endLine==cpos.line)=true) (hs:starEach (e::es) X.env=(false,eval e X.env)::starEach es X.env) (hplain:(backTo cpos (starEach es X.env)).any (·.1)=false) :
  PE X (.Call (.Attribute o name apos) (e::es) [] cpos) (tMt X.K T r to t):=by
 intro pins s Z H Q I h
 refine wpAny_Call_method_late hbase hfew hline rfl (thn (ho pins s Z H _ I h) λv s1 ⟨x,H1,I1,r1,ty,q1⟩=>?_)
 obtain⟨h1,h2⟩:=FM I1 r1 ty
 refine⟨T,id,pa,slot,hty,h1,h2,?_⟩
 have hA:=ha cpos pins s1 Z H1 _ I1 q1
 rw[hs]at hA ⊢
 refine Calls.callWith_builtin (by show(false||(backTo cpos (starEach es X.env)).any (·.1))=false;rw[hplain]<;>rfl) (Calls.evalArgs_plain ?_)
 exact thn hA λus s2 ⟨vs,H2,I2,r2,q2⟩=>hm pins s2 Z H2 x vs v us Q I2 r1 r2 q2
end
def Jb(t:Ty)(f:D->List D->Option D)(po:Pu D)(ps:Pa D):Pu D:=λρ=>bd (po ρ) λd=>onT t d (ps (λds=>oM (f d ds)) ρ)
def Gz(t:Ty)(f:D->List D->Option (List D))(po:Pu D)(ps:Pa (List D)):Pu (List D):=λρ=>bd (po ρ) λd=>onT t d (ps (λds=>oM (f d ds)) ρ)
theorem BC{α:Type}{t:Ty}{d:D}{m:M α}{C:α->Hp->Hp->Prop}{v:V}(S:StOk X.K G F Z H ρ)(hv:VO X.K F Z ρ v d)(w:W X G F Z ρ (onT t d m) C) :
  tyW X.K t.s v H/\W X G F Z ρ m C:=by
 have o:=hv.or S
 cases t with
 | tup =>
  cases d with
  | tuple ds =>
   have r:=o.tup'
   cases r with
   | tup h1 h2=>exact⟨.inr ⟨rfl,_,_,rfl,S.fh _ _ h1⟩,w⟩
  | _=>exact False.elim w
 | lst =>
  cases d with
  | list ds =>
   obtain⟨a,vs,rfl,h1,h2⟩:=o.list S.fh
   exact⟨.inl (.inl ⟨rfl,_,h1⟩),w⟩
  | _=>exact False.elim w
 | str =>
  cases d with
  | str ds =>
   rw[o.str]
   exact⟨.inl rfl,w⟩
  | _=>exact False.elim w
section
variable {e:Expr} {name:Str} {apos:Pos} {id:String} {po:Pu D} {ps:Pa D} {pl:Pa (List D)} {ty:Ty}
theorem lD{f:D->List D->Option D}(pa:PlainAttrs ty.s)(slot:Slot ty.s name id)(hty:typeOf (.builtin id)=pure (.type "method_descriptor"))(hm:MtR X id (Bi X.K f))(ho:AO X o po)(ha:AA X (e::es) ps)
  (hbase:attributeBase o name X.env (eval o X.env)=eval o X.env)
  (hfew:((backTo cpos (starEach (e::es) X.env)).all (λx=>!x.1)&&(backToKw cpos (keywordEach [] X.env)).all (λx=>x.1.isSome)
   && decide ((e::es).length+([]:List Keyword).length+(if([]:List Keyword).isEmpty then 0 else 1)<30))=true)
  (hline:(apos.endLine==cpos.line)=true) (hs:starEach (e::es) X.env=(false,eval e X.env)::starEach es X.env) (hplain:(backTo cpos (starEach es X.env)).any (·.1)=false) :
  AP X (.Call (.Attribute o name apos) (e::es) [] cpos) (Jb ty f po ps) :=
 λG F Z H ρ Q S w=>sem (sF pa slot hty hm aI cx hbase hfew hline hs hplain) (ho G F Z H ρ _ S (w.bind.imp λd F1 H1 s1 S1 w1 v hv=>by
  obtain⟨ht,w2⟩:=BC S1 hv w1
  refine⟨ht,ha G F1 Z H1 ρ _ _ _ S1 w2 λds vs F2 H2 s2 S2 _ r2 w3=>?_⟩
  obtain⟨res,e,k⟩:=w3.opt
  exact⟨G,F2,Z,ρ,d,ds,res,S2,(hv.mono s2).or S2,r2,e,λy F3 H3 s3 S3 r3=>k F3 H3 s3 S3 y r3⟩))
theorem lE{f:D->List D->Option (List D)}(pa:PlainAttrs ty.s)(slot:Slot ty.s name id)(hty:typeOf (.builtin id)=pure (.type "method_descriptor"))(hm:MtR X id (Bh X.K f))(ho:AO X o po)(ha:AA X (e::es) pl)
  (hbase:attributeBase o name X.env (eval o X.env)=eval o X.env)
  (hfew:((backTo cpos (starEach (e::es) X.env)).all (λx=>!x.1)&&(backToKw cpos (keywordEach [] X.env)).all (λx=>x.1.isSome)
   && decide ((e::es).length+([]:List Keyword).length+(if([]:List Keyword).isEmpty then 0 else 1)<30))=true)
  (hline:(apos.endLine==cpos.line)=true) (hs:starEach (e::es) X.env=(false,eval e X.env)::starEach es X.env) (hplain:(backTo cpos (starEach es X.env)).any (·.1)=false) :
  AL X (.Call (.Attribute o name apos) (e::es) [] cpos) (Gz ty f po pl) :=
 λG F Z H ρ Q S w=>sem (sF pa slot hty hm aI cx hbase hfew hline hs hplain) (ho G F Z H ρ _ S (w.bind.imp λd F1 H1 s1 S1 w1 v hv=>by
  obtain⟨ht,w2⟩:=BC S1 hv w1
  refine⟨ht,ha G F1 Z H1 ρ _ _ _ S1 w2 λds vs F2 H2 s2 S2 _ r2 w3=>?_⟩
  obtain⟨res,e,k⟩:=w3.opt
  exact⟨G,F2,Z,ρ,d,ds,res,S2,(hv.mono s2).or S2,r2,e,λy F3 H3 s3 S3 r3=>k F3 H3 s3 S3 y r3⟩))
end
def Itc(x:Str):It:=⟨λi _=>i<x.cps.size,λi H v H'=>H'=H/\∃c,x.cps[i]? = some c/\v=.str ⟨#[c]⟩,λi _=>x.cps.size<=i⟩
theorem AH(it:Addr)(ty:String)(hty:ty = "str_ascii_iterator" \/ ty = "str_iterator")(x:Str)(t:Tok):Turn P w K tg (Itc x) [it] it (λi h=>h.IsStrIter it ty x t i) where
 mem:=by simp
 obj:=λi h st b hb=>by
  have e:b=it:=by simpa using hb
  subst e
  obtain⟨o,e,c,d⟩:=st
  exact⟨o,e,λv z=>by rw[d]at z;cases z⟩
 keep:=λi h h' st k=>by
  obtain⟨o,e,r⟩:=st
  exact⟨o,k it (by simp) o e,r⟩
 item:=by
  intro X hP hw hK hc i pins s Z H E I hf st hg
  subst hP hw hK
  obtain⟨f0,f1,f2,f3,f4,f5⟩:=hf it (by simp)
  have go:∀(W:Walks X.prog X.w X.A it [it] [it] x.cps.size (SignAt x) (λi h=>h.IsStrIter it ty x t i)),(∀o:Obj,o.cls=.type ty->True)->wpAny (model X.prog X.w) X.A (pyNext (.ref it)) (λr s1=>∃u,r=some u /\
   wpAny (model X.prog X.w) X.A (letOwnedTupleGo tg (.ref it) u) (λ_ s2=>∃y H',Inv X pins Z H' s2/\RelV y u/\(Itc x).yld i H y H'/\s2.heap.IsStrIter it ty x t (i+1)/\∀b∈[it],H' b=none) E s1) E s:=λW _=>by
   refine W.item i s _ _ hg st λv h' tk hv st' kk=>?_
   obtain⟨c,u,hc',rfl⟩:=hv
   have I1:Inv X pins Z H { s with heap:=h',toks:=tk }:=I.turned (λb o hb e=>kk b o (by simpa using hb) e) f0 f1 f3 f4 f5
   obtain⟨o,e,cl,d⟩:=id st'
   refine⟨_,rfl,yV (s:={ s with heap:=h',toks:=tk }) (n:=ty) e cl d ?_ ⟨.str ⟨#[c]⟩,H,I1,⟨u,rfl⟩,⟨rfl,c,hc',rfl⟩,st',λb hb=>(hf b hb).1⟩⟩
   rcases hty with rfl|rfl<;>decide
  rcases hty with rfl|rfl
  ·exact go (Walks.strAscii (I.ok.hd hc) it x t) λ_ _=>trivial
  ·exact go (Walks.strWide (I.ok.hd hc) it x t) λ_ _=>trivial
 done:=by
  intro X hP hw hK hc i pins s Z H E I hf st hg
  subst hP hw hK
  obtain⟨f0,f1,f2,f3,f4,f5⟩:=hf it (by simp)
  have hx:x.cps[i]? = none:=by
   have:x.cps.size<=i:=hg
   simp;omega
  rcases hty with rfl|rfl
  ·exact wpAny_pyNext_ascii_end (I.ok.hd hc) st hx λh' eb=>⟨rfl,I.turned (t':=s.toks) (λb o hb e=>eb b o hb e) f0 f1 f3 f4 f5⟩
  ·exact wpAny_pyNext_wide_end (I.ok.hd hc) st hx λh' eb=>⟨rfl,I.turned (t':=s.toks) (λb o hb e=>eb b o hb e) f0 f1 f3 f4 f5⟩
 self:=λ_ _ _ _ _ st h=>by
  rcases hty with rfl|rfl
  ·exact wpAny_pyIter_striter_ascii st h
  ·exact wpAny_pyIter_striter_wide st h
def pP(x:Str):List D:=x.cps.toList.map λc=>.str ⟨#[c]⟩
theorem Az(x:Str):Walk K (Itc x) (pP x) F where
 go:=λi G F2 Z H2 ρ s S hi=>by
  unfold pP at hi
  rw[zzd,cr]at hi
  exact hi
 yld:=λi G F2 Z H2 ρ y H3 d s S hd ⟨e,c,hc,q⟩=>by
  subst e q
  unfold pP at hd
  rw[ug,ir,hc]at hd
  cases hd
  exact⟨F2,Same.refl _,S,.str _⟩
 stop:=λG F2 Z H2 ρ s S=>by
  unfold pP
  rw[zzd,cr]
  exact ay _
def d9:D->Option (List D)
 | .str x=>some (pP x)
 | d=>Dm d
def KE(p:Pu D):Pu (List D):=λρ=>bd (p ρ) λd=>oM (d9 d)
def Jz(K:Fg)(tl:TE):TI:=λZ H R=>tl Z H λx H1=>((∃a,x=.ref a/\(∃xs,SqL K H1 a xs)/\R (Itl K a) H1)\/∃a,x=.ref a/\(∃xs,SqT K H1 a xs)/\R (Itt K a) H1)\/∃y,x=.str y/\R (Itc y) H1
theorem Dx{l:Expr}{tl:TE}(hl:PE X l tl):PI X tg l (Jz X.K tl):=by
 intro pins s Z H R I h
 refine thn (hl pins s Z H _ I h) λv s1 ⟨x,H1,I1,r1,q1⟩=>?_
 rcases q1 with (⟨a,e,⟨xs,hq⟩,q⟩|⟨a,e,⟨xs,hq⟩,q⟩)|⟨x,e,q⟩
 ·subst e
  cases r1
  obtain⟨its,rv,p,hz⟩:=I1.list hq
  refine wpAny_pyIter_list p.isList ?_
  refine⟨s1.heap.objs.size,[s1.heap.objs.size],_,_,H1,rfl,I1.kept (t':=s1.toks) λb o e=>zzc _ e,zA a _,⟨_,zze _ rfl,rfl,rfl⟩,λb hb=>?_,q⟩
  have e:b=s1.heap.objs.size:=by simpa using hb
  subst e
  exact I1.fpOk (ay _) (I1.hok.fresh (ay _))
 ·subst e
  cases r1
  obtain⟨its,rv,p,hz⟩:=I1.tuple hq
  refine wpAny_pyIter_tuple (show s1.heap.IsTuple a its.toArray from p) ?_
  refine⟨s1.heap.objs.size,[s1.heap.objs.size],_,_,H1,rfl,I1.kept (t':=s1.toks) λb o e=>zzc _ e,v5 a _,⟨_,zze _ rfl,rfl,rfl⟩,λb hb=>?_,q⟩
  have e:b=s1.heap.objs.size:=by simpa using hb
  subst e
  exact I1.fpOk (ay _) (I1.hok.fresh (ay _))
 ·subst e
  obtain⟨t,rfl⟩:=r1
  have fin:∀(ty:String) (hty:ty = "str_ascii_iterator" \/ ty = "str_iterator") (o:Obj),o.isFreed=false->o.cls=.type ty->o.data=.fields #[.str x t,.int 0 0]->PIE X pins Z tg R (.ref s1.heap.objs.size) { s1 with heap:=s1.heap.push o }:=λty hty o hfr c d=>by
   refine⟨s1.heap.objs.size,[s1.heap.objs.size],_,_,H1,rfl,I1.kept (t':=s1.toks) λb o e=>zzc _ e,AH _ ty hty x t,⟨_,zze _ hfr,c,d⟩,λb hb=>?_,q⟩
   have e:b=s1.heap.objs.size:=by simpa using hb
   subst e
   exact I1.fpOk (ay _) (I1.hok.fresh (ay _))
  cases ha:x.cps.all (· < 128)
  ·exact wpAny_pyIter_wide ha (fin _ (.inr rfl) _ rfl rfl rfl)
  ·exact wpAny_pyIter_ascii ha (fin _ (.inl rfl) _ rfl rfl rfl)
theorem zG{v:V}{d:D}{ds:List D}{R:It->Hp->Prop}(s:Same F H)(r:Rep X.K F v d)(hd:d9 d=some ds)(k:∀J,Walk X.K J ds F->R J H) :
  ((∃a,v=.ref a/\(∃xs,SqL X.K H a xs)/\R (Itl X.K a) H)\/∃a,v=.ref a/\(∃xs,SqT X.K H a xs)/\R (Itt X.K a) H)\/∃y,v=.str y/\R (Itc y) H:=by
 cases d with
 | str x =>
  cases hd
  cases r
  exact .inr ⟨x,rfl,k _ (Az x)⟩
 | _=>exact .inl (A2 s r hd k)
theorem eK{e:Expr}{pp:Pu D}(h:AP X e pp):AI X tg e (KE pp):=λG F Z H ρ R S w=>Do (Dx aI) (h G F Z H ρ _ S (w.bind.imp λd F1 H1 s1 S1 w1 v r1=>by
 obtain⟨ds,hd,k⟩:=w1.opt
 exact zG S1.fh r1 hd (k F1 H1 (Same.refl _) S1)))
def rH:List D->Option D
 | [.str x]=>if decide (x.length<=640)then(PySem.intText? x).map PyData.int else none
 | l=>Ej l
def E7:List V->Hp->VK->Prop:=λxs H Q=>((∃i,xs=[.int i]/\Q (.int i) H)\/∃k,xs=[.bl k]/\Q (.int (if k then 1 else 0)) H)\/∃x n,xs=[.str x]/\x.length<=640/\PySem.intText? x=some n/\Q (.int n) H
theorem mE:CallR X (.type "int") E7:=by
 intro pins s Z H xs us Q I r h0
 rcases h0 with h0|⟨x,n,rfl,hl,hn,q⟩
 ·exact Aq pins s Z H xs us Q I r h0
 ·obtain⟨u,rfl,ru⟩:=L2.Vals.one r
  obtain⟨t,rfl⟩:=ru
  exact PySem.W.KIN.call_text hn hl ⟨.int n,H,I.tok _,⟨_,rfl⟩,q⟩
theorem sM:jI K E7 rH:=by
 intro G F Z H ρ xs ds res Q S o e k
 by_cases hd:∃x,ds=[.str x]
 ·obtain⟨x,rfl⟩:=hd
  have e':(if decide (x.length<=640)=true then(PySem.intText? x).map PyData.int else none)=some res:=e
  split at e'
  ·rename_i hl
   rw[zzi]at hl
   cases hn:PySem.intText? x with
   | none=>rw[hn]at e';cases e'
   | some n =>
    rw[hn]at e'
    cases e'
    obtain⟨v,r,rfl,ho,hr⟩:=bW o
    obtain rfl:=cJ hr
    exact .inr ⟨x,n,by rw[ho.str],hl,hn,k _ F H (Same.refl _) S (.int _)⟩
  ·cases e'
 ·have e':Ej ds=some res:=by
   rw[<-e]
   unfold rH
   split
   ·rename_i x;exact absurd ⟨x,rfl⟩ hd
   ·rfl
  exact .inl (GJ G F Z H ρ xs ds res Q S o e' k)
theorem qD:∀l:List (Str×Tok),Vals ((l.map (·.1)).map V.str) (strValues l)
 | []=>.nil
 | (x,t)::l=>.cons ⟨t,rfl⟩ (qD l)
theorem uC{K:Fg}{F:Hp}:∀l:List Str,RepL K F (l.map V.str) (l.map PyData.str)
 | []=>.nil
 | x::l=>.cons (.str x) (uC l)
section
open Builtin Builtin.Str
theorem AR{prog:Program}{s:Shared}{y:Str}{t u:Tok}{Q:zzj}(hy:(y.length==0)=false)
  (hq:∀(l:List (Str×Tok)) (k:Nat),l.map (·.1)=Txt.split x y->Q (.ref s.heap.objs.size) { s with toks:=k,heap:=s.heap.push { cls:=.type "list",data:=.seq (strValues l).toArray } })
  (hsz:x.length<=sizeLine) (hsz2:(partsBetween x (occurrences x y 0 x.length (x.length+1)) y.length).length<=sizeLine) :
  wpAny (model prog w) A (call (.builtin "str.split") [.str x t,.str y u]) Q E s:=by
 cases h1:(decide (x.length<y.length)||decide (strKind x<strKind y))
 ·cases hf:(occurrences x y 0 x.length (x.length+1)).isEmpty
  ·refine call_meets F.slot_str_split (Ma _ _ _) F.entry_str_split (F.args_str_split_2 _ _) (meets_str_split_sep x y t u h1 hy hf hsz hsz2) ?_
   show wants Q E _ { s with toks:=_,heap:=s.heap.push { cls:=.type "list",data:=.seq (strsFrom s.toks (partsBetween x (occurrences x y 0 x.length (x.length+1)) y.length)).toArray } }
   rw[strsFrom_eq]
   exact hq (numbered s.toks _) _ ((numbered_texts _ _).trans ((ac (ne_true_of_eq_false h1)).trans (ac (ne_true_of_eq_false hf))).symm)
  ·exact call_meets F.slot_str_split (Ma _ _ _) F.entry_str_split (F.args_str_split_2 _ _) (meets_str_split_not_found x y t u h1 hy hf)
    (hq [(x,t)] s.toks ((ac (ne_true_of_eq_false h1)).trans (ai hf)).symm)
 ·exact call_meets F.slot_str_split (Ma _ _ _) F.entry_str_split (F.args_str_split_2 _ _) (meets_str_split_cannot_occur x y t u h1)
   (hq [(x,t)] s.toks (ai h1).symm)
def jm(x y:Str):Bool:=!(y.length==0)&&decide (x.length<=sizeLine)&&decide ((partsBetween x (occurrences x y 0 x.length (x.length+1)) y.length).length<=sizeLine)&&decide ((Txt.split x y).length<=sizeLine)
end
def hJ:D->List D->Option (List D)
 | .str x,[.str y]=>if jm x y then some ((Txt.split x y).map PyData.str)else none
 | _,_=>none
theorem iX:MtR X "str.split" (Bh X.K hJ):=by
 intro pins s Z H x xs v us Q I rx rxs ⟨G,F,σ',ρ,d,ds,res,S,ho,hr,e,k⟩
 unfold hJ at e
 split at e
 case h_2=>cases e
 rename_i z y
 split at e
 case isFalse=>cases e
 rename_i hc
 cases e
 unfold jm at hc
 rw[am,am,am,zzi,zzi,zzi,ot]at hc
 obtain⟨⟨⟨h1,h2⟩,h3⟩,h4⟩:=hc
 rw[ho.str]at rx
 obtain⟨t,rfl⟩:=rx
 cases hr with
 | cons hy hn =>
  cases hn
  cases hy
  obtain⟨u,rfl,ru⟩:=vals1 rxs
  obtain⟨t2,rfl⟩:=ru
  refine AR h1 (λl tk hl=>?_) h2 h3
  have hv:=qD l
  rw[hl]at hv
  refine⟨.ref s.heap.objs.size,upd H s.heap.objs.size (.lst ((Txt.split z y).map V.str)),I.laid (t':=tk) (λb o q=>zzc _ q) (ay _) ⟨by rw[zzd];exact h4,strValues l,0,hv,zze _ rfl⟩,rfl,?_⟩
  obtain⟨S2,r2⟩:=S.newLst (I.hok.fresh (ay _)) (uC (Txt.split z y))
  exact k _ F _ (Same.refl _) S2 r2
def strsOf:List D->Option (List Str)
 | []=>some []
 | .str x::r=>(strsOf r).map (x :: ·)
 | _::_=>none
theorem qL:∀{ds:List D} {xs:List Str},strsOf ds=some xs->ds=xs.map PyData.str
 | [],_,h=>by cases h;rfl
 | d::r,xs,h=>by
  cases d<;>first|(cases h;done)|skip
  rename_i x
  have h:(strsOf r).map (x :: ·)=some xs:=h
  cases e:strsOf r with
  | none=>rw[e]at h;cases h
  | some ys=>rw[e]at h;cases h;rw[qL e];rfl
theorem nK{K:Fg}{F:Hp}:∀{xs:List Str} {vs:List V} {its:List Value},RepL K F vs (xs.map PyData.str)->Vals vs its->∃l:List (Str×Tok),its=strValues l/\l.map (·.1)=xs
 | [],_,_,r,v=>by cases r;cases v;exact⟨[],rfl,rfl⟩
 | x::xs,_,_,r,v=>by
  cases r with
  | cons r1 r2 =>
   cases r1
   cases v with
   | cons v1 v2 =>
    obtain⟨t,rfl⟩:=v1
    obtain⟨l,e1,e2⟩:=nK r2 v2
    exact⟨(x,t)::l,by rw[e1];rfl,by rw[ba,e2]⟩
def im:D->List D->Option D
 | .str x,[.list ds]=>match strsOf ds with
  | some xs=>if JoinOk x xs then some (.str (Txt.join x xs))else none
  | none=>none
 | _,_=>none
theorem gZ:MtR X "str.join" (Bi X.K im):=by
 intro pins s Z H x xs v us Q I rx rxs ⟨G,F,σ',ρ,d,ds,res,S,ho,hr,e,k⟩
 unfold im at e
 split at e
 case h_2=>cases e
 rename_i z es
 split at e
 case h_2=>cases e
 rename_i ts hts
 split at e
 case isFalse=>cases e
 rename_i hc
 cases e
 rw[ho.str]at rx
 obtain⟨t,rfl⟩:=rx
 cases hr with
 | cons hy hn =>
  cases hn
  obtain⟨u,rfl,ru⟩:=vals1 rxs
  cases hy with
  | lst h1 h2 =>
   cases ru
   obtain⟨its,rv,p,hz⟩:=I.list (S.fh.seq h1)
   rw[qL hts]at h2
   obtain⟨l,e1,e2⟩:=nK h2 rv
   subst e1
   exact SC.join p.isList e2 hc λt' tk=>⟨.str _,H,I.tok tk,⟨t',rfl⟩,k _ F H (Same.refl _) S (.str _)⟩
def j7(x:Str)(lo hi:Option Int):Str:=if((Builtin.Str.strSliceIndices lo hi 1 x.length).length==x.length)=true then x else⟨((Builtin.Str.strSliceIndices lo hi 1 x.length).filterMap (x.cps[·]?)).toArray⟩
def Kr:V->Option Int->Option Int->Hp->VK->Prop:=λv lo hi H Q=>∃x,v=.str x/\(j7 x lo hi).length<=sizeLine/\Q (.str (j7 x lo hi)) H
theorem yx{v:Value}{o:Option Int}(h:IsPart v o):∃p:Option (Int×Tok),v=partValue p/\p.map (·.1)=o:=by
 cases h with
 | none=>exact⟨none,rfl,rfl⟩
 | int i t=>exact⟨some (i,t),rfl,rfl⟩
theorem sl_str:SlR X Kr:=by
 intro pins s Z H x v vl vu lo hi sl Q I rx hs pl pu h
 obtain⟨z,rfl,hz,q⟩:=h
 obtain⟨t,rfl⟩:=rx
 obtain⟨l,rfl,el⟩:=yx pl
 obtain⟨u,rfl,eu⟩:=yx pu
 refine⟨"str",_,PySem.F.slot_str_getitem.lookup,Ma _ _ _,?_⟩
 refine wpAny_getItem_str_slice (l:=l) (u:=u) (st:=none) hs rfl ?_
 have ep:slicePicked z l u none=Builtin.Str.strSliceIndices lo hi 1 z.length:=by
  unfold slicePicked
  rw[el,eu]
  rfl
 unfold sliceMade
 rw[ep]
 unfold j7 at q hz
 split
 ·rename_i c
  have c':((Builtin.Str.strSliceIndices lo hi 1 z.length).length==z.length)=true:=by
   rw[am]at c;exact c.2
  rw[ai c']at q
  exact⟨.str z,H,I,⟨t,rfl⟩,q⟩
 ·rename_i c
  have c':¬ ((Builtin.Str.strSliceIndices lo hi 1 z.length).length==z.length)=true:=λh=>c (by rw[am];exact⟨rfl,h⟩)
  rw[ac c']at q hz
  exact⟨hz,.str _,H,I.tok _,⟨_,rfl⟩,q⟩
def cY(d:D)(lo hi:Option Int):Option D:=match d with
 | .str x=>if decide ((j7 x lo hi).length<=sizeLine)then some (.str (j7 x lo hi))else none
 | _=>K0 d lo hi
def DD(p:Pu D)(l h:Pu (Option Int)):Pu D:=λρ=>bd (p ρ) λd=>bd (l ρ) λlo=>bd (h ρ) λhi=>oM (cY d lo hi)
section
variable {e:Expr} {lo hi:Option Expr} {p:Pu D} {pl ph:Pu (Option Int)} {p2:Pos}
theorem cC(he:AO X e p)(hl:APo X lo pl)(hh:APo X hi ph):AP X (.Subscript e (.Slice lo hi none p2) pos) (DD p pl ph) :=
 λG F Z H ρ Q S w=>sem (uG (sl_str.or (sl_tup.or (sl_tupA.or Dk))) aI Br Br) (he G F Z H ρ _ S (w.bind.imp λd F1 H1 s1 S1 w1 x hx =>
  hl G F1 Z H1 ρ _ S1 (w1.bind.imp λlo F2 H2 s2 S2 w2=>hh G F2 Z H2 ρ _ S2 (w2.bind.imp λhi F3 H3 s3 S3 w3=>by
   obtain⟨res,hr,k⟩:=w3.opt
   have ox:=(hx.mono (s2.trans s3)).or S3
   cases d<;>try (cases hr;done)
   ·rename_i z
    have hr':(if decide ((j7 z lo hi).length<=sizeLine)=true then some (PyData.str (j7 z lo hi))else none)=some res:=hr
    split at hr'
    case isFalse=>cases hr'
    rename_i hz
    rw[zzi]at hz
    cases hr'
    exact .inl ⟨z,ox.str,hz,k F3 H3 (Same.refl _) S3 _ (.str _)⟩
   ·cases hr
    obtain⟨a,vs,rfl,h1,h2⟩:=ox.list S3.fh
    refine .inr (.inr (.inr ⟨a,vs,rfl,h1,λq hq=>?_⟩))
    obtain⟨S4,r4⟩:=S3.newLst hq (y9 h2 lo hi)
    obtain⟨F5,s5,S5,r5⟩:=S4.settle r4
    exact k F5 _ s5 S5 _ r5
   ·rename_i ds
    cases hr
    obtain⟨a,vs,rfl,h1,h2⟩:=ox.tuple S3.fh
    by_cases hw:HT.sIx vs.length 0 lo=0/\HT.sIx vs.length vs.length hi=vs.length
    ·refine .inr (.inr (.inl ⟨a,vs,rfl,h1,hw,k F3 H3 (Same.refl _) S3 _ ?_⟩))
     have:cutD ds lo hi=ds:=by
      unfold cutD
      rw[<-h2.length,hw.1,hw.2]
      simp[h2.length]
     rw[this]
     exact ox.tup'
    ·refine .inr (.inl ⟨a,vs,rfl,h1,hw,λq hq=>?_⟩)
     obtain⟨s4,S4,r4⟩:=S3.newTup hq (y9 h2 lo hi)
     exact k _ _ s4 S4 _ r4))))
end
def wM(x:Str)(n:Int):Str:=if n<1 then Str.empty else if(n==1||x.length==0)=true then x else⟨(List.replicate n.toNat x.cps).foldl (· ++ ·) #[]⟩
def lV(x:Str)(n:Int):Bool:=decide (-(1000:Int)<=n)&&decide (n<=1000)&&decide (x.length<=1000)&&decide ((wM x n).length<=sizeLine)
def oE:D->D->Option D
 | .str x,.int n=>if lV x n then some (.str (wM x n))else none
 | x,y=>eW x y
def Bg:R2:=λx y H Q=>∃z n,x=.str z/\y=.int n/\lV z n=true/\Q (.str (wM z n)) H
theorem DG:OpR X (binaryOp .Mult) Bg:=by
 intro pins s Z H x y v u Q I rx ry h
 obtain⟨z,n,rfl,rfl,hc,q⟩:=h
 obtain⟨t,rfl⟩:=rx
 obtain⟨t2,rfl⟩:=ry
 unfold lV at hc
 rw[am,am,am,zzi,zzi,zzi,zzi]at hc
 obtain⟨⟨⟨h1,h2⟩,h3⟩,h4⟩:=hc
 refine P.mul_str (by simp;omega) (λa _=>?_) (λa _=>?_) ?_
 ·have:(1000:Int)<(2^63 - 1) / n:=by
   have:=Int.le_ediv_of_mul_le (a:=1001) (b:=(2^63 - 1:Int)) (c:=n) (by omega) (by omega)
   omega
  omega
 ·have:z.length*n.toNat<=1000*1000:=Nat.mul_le_mul h3 (by omega)
  show decide (z.length*n.toNat>sizeLine)=false
  rw[ic]
  have:(1000*1000:Nat)<=sizeLine:=by decide
  omega
 ·unfold wM at q h4
  split
  ·rename_i c
   rw[ai c]at q h4
   exact⟨h4,.str _,H,I.tok _,⟨_,rfl⟩,q⟩
  ·rename_i c
   rw[ac c]at q h4
   split
   ·rename_i c2
    rw[ai c2]at q
    exact⟨.str _,H,I,⟨t,rfl⟩,q⟩
   ·rename_i c2
    rw[ac c2]at q h4
    exact⟨h4,.str _,H,I.tok _,⟨_,rfl⟩,q⟩
theorem DF:OpR X (binaryOp .Mult) (λx y H Q=>rI CMul (λi j=>.int (i*j)) x y H Q\/Bg x y H Q):=op_mul.or DG
theorem DN:OpD K (λx y H Q=>rI CMul (λi j=>.int (i*j)) x y H Q\/Bg x y H Q) oE:=by
 intro G F Z H ρ x y dx dy res Q S ox oy e k
 by_cases h:∃z n,dx=.str z/\dy=.int n
 ·obtain⟨z,n,rfl,rfl⟩:=h
  have e':(if lV z n=true then some (PyData.str (wM z n))else none)=some res:=e
  split at e'
  case isFalse=>cases e'
  rename_i hc
  cases e'
  exact .inr ⟨z,n,ox.str,oy.int,hc,k _ F H (Same.refl _) S (.str _)⟩
 ·have e':eW dx dy=some res:=by
   rw[<-e]
   unfold oE
   split
   ·rename_i z n;exact absurd ⟨z,n,rfl,rfl⟩ h
   ·rfl
  exact .inl (lO G F Z H ρ x y dx dy res Q S ox oy e' k)
def tL:D->D->Option D
 | .str x,.int i=>if decide ((j7 x (some i) none).length<=sizeLine)then some (.str (j7 x (some i) none))else none
 | _,_=>none
theorem CS{S:Type}{a b:Expr}{ma mb:Ev S D}{p2:Pos}(ha:AE X a ma)(hb:AE X b mb):AE X (.Subscript a (.Slice (some b) none none p2) pos) (Hm tL ma mb) :=
 λOK x k G F Z H ρ Q hO hX St ok kk=>sem (uG sl_str aI (yr aI) yt) (ha OK x _ G F Z H ρ _ hO hX St ok λd v F1 H1 ρ1 s1 S1 r1 o1=>hb OK x _ G F1 Z H1 ρ1 _ hO hX S1 o1 λd2 v2 F2 H2 ρ2 s2 S2 r2 o2=>by
  obtain⟨res,e,o'⟩:=iP hO o2
  unfold tL at e
  split at e
  case h_2=>cases e
  rename_i z i
  split at e
  case isFalse=>cases e
  rename_i hz
  rw[zzi]at hz
  cases e
  cases r2
  cases r1
  exact⟨i,rfl,z,rfl,hz,kk _ _ F2 H2 ρ2 (s1.trans s2) S2 (.str _) o'⟩)
end L4
namespace TS
open PySem PyProof.Rows
variable {st:SortSt}{xs:Array Keyed}{i j z n:Nat}{p:Keyed}{Q:Option Nat->SortSt->Prop}
def kr(rk:Value->Int)(xs:Array Keyed)(i:Nat):Int:=(xs[i]?.map λp=>rk p.1).getD 0
def Asc(rk:Value->Int)(xs:Array Keyed)(lo hi:Nat):Prop:=∀i j:Nat,lo<=i->i<=j->j<hi->kr rk xs i<=kr rk xs j
def Dsc(rk:Value->Int)(xs:Array Keyed)(lo hi:Nat):Prop:=∀i j:Nat,lo<=i->i<=j->j<hi->kr rk xs j<=kr rk xs i
def nq(prog:Program)(w:World)(A:Around)(s:Shared)(κ:SortKind)(rk:Value->Int)(a₀:Array Keyed):Prop :=
 ∀x y,x∈a₀.toList->y∈a₀.toList->∀(E:zzj) (Q:Bool->Shared->Prop),Q (decide (rk x.1<rk y.1)) s->wpAny (model prog w) A (keyLt' κ x.1 y.1) Q E s
abbrev Runs:=Array (Nat×Nat×Nat)
structure SB(κ:SortKind)(a₀:Array Keyed)(lo:Nat)(old:Array Keyed)(P:Runs)(st:SortSt):Prop where
 pm:(arrOf st).Perm a₀
 kd:kindOf st=κ
 fl:failedOf st=none
 kp:∀i,i<lo->(arrOf st)[i]? = old[i]?
 pe:pendingOf st=P
section
variable {prog:Program} {w:World} {A:Around} {E:zzj} {s:Shared} {κ:SortKind} {rk:Value->Int} {a₀ old:Array Keyed} {lo:Nat} {P:Runs}
theorem SB.sz(h:SB κ a₀ lo old P st):(arrOf st).size=a₀.size:=h.pm.size_eq
theorem SB.to(h:SB κ a₀ lo old P st)(hp:xs.Perm (arrOf st))(hk:∀i,i<lo->xs[i]? = (arrOf st)[i]?):SB κ a₀ lo old P (setArr st xs) :=
 ⟨hp.trans h.pm,h.kd,h.fl,λi hi=>(hk i hi).trans (h.kp i hi),h.pe⟩
theorem SB.mem(h:SB κ a₀ lo old P st)(e:(arrOf st)[i]? = some p):p∈a₀.toList :=
 (Array.perm_iff_toList_perm.mp h.pm).mem_iff.mp (by
  obtain⟨hl,e⟩:=Array.getElem?_eq_some_iff.mp e
  rw[<-e];simp)
theorem yK(e:xs[i]? = some p):kr rk xs i=rk p.1:=by unfold kr;rw[e];rfl
theorem u7{ys:Array Keyed}(e:xs[i]? = ys[j]?):kr rk xs i=kr rk ys j:=by unfold kr;rw[e]
theorem FC{Q:Keyed->SortSt->Prop}(e:xs[i]? = some p)(q:Q p st):wpS (model prog w) A E s (elem' xs i) Q st:=by
 rw[elem'_eq,e];exact oz q
theorem Jp{x y:Keyed}{Q:Option Bool->SortSt->Prop}(hC:nq prog w A s κ rk a₀)(hk:kindOf st=κ)(hx:x∈a₀.toList)(hy:y∈a₀.toList)(q:Q (some (decide (rk x.1<rk y.1))) st) :
  wpS (model prog w) A E s (lt' x y) Q st:=by
 rw[lt'_eq]
 refine io (wpS_get ?_)
 rw[hk]
 refine io (wpS_lift (wpAny_attempt (hC x y hx hy _ _ ⟨rfl,?_⟩)))
 exact oz q
theorem vH{Q:Option Bool->SortSt->Prop}(hC:nq prog w A s κ rk a₀)(h:SB κ a₀ lo old P st)(hi:i<a₀.size)(hj:j<a₀.size)(q:Q (some (decide (kr rk (arrOf st) i<kr rk (arrOf st) j))) st) :
  wpS (model prog w) A E s (ltAt' i j) Q st:=by
 have e1:(arrOf st)[i]? = some ((arrOf st)[i]'(by rw[h.sz];exact hi)):=de _
 have e2:(arrOf st)[j]? = some ((arrOf st)[j]'(by rw[h.sz];exact hj)):=de _
 rw[ltAt'_eq]
 refine io (wpS_get ?_)
 refine io (FC e1 (io (FC e2 ?_)))
 refine Jp hC h.kd (h.mem e1) (h.mem e2) ?_
 rw[yK e1,yK e2]at q
 exact q
theorem sC{Q:Unit->SortSt->Prop}(q:Q () (setArr st (mirror (arrOf st) i j ((j - i) / 2)))):wpS (model prog w) A E s (reverseSlice' i j) Q st:=by
 rw[reverseSlice'_eq]
 exact wpS_modify q
theorem wY(hj:j<=xs.size)(k:Nat):kr rk (mirror xs i j ((j - i) / 2)) k=if i<=k/\k<j then kr rk xs (i+j - 1 - k)else kr rk xs k:=by
 have e:=getElem?_mirror_all (i:=i) hj k
 split
 ·rename_i c;rw[ai c]at e;exact u7 e
 ·rename_i c;rw[ac c]at e;exact u7 e
theorem kR{lo:Nat}(hj:j<=xs.size)(hl:lo<=i):∀k,k<lo->(mirror xs i j ((j - i) / 2))[k]? = xs[k]?:=λk hk=>by
 rw[getElem?_mirror_all hj k,ac (by lia)]
theorem oK(hj:j<=xs.size)(e:∀k,i<=k->k<j->kr rk xs k=kr rk xs (j - 1))(k:Nat):kr rk (mirror xs i j ((j - i) / 2)) k=kr rk xs k:=by
 rw[wY hj]
 split
 ·rename_i c;rw[e k c.1 c.2,e _ (by lia) (by lia)]
 ·rfl
abbrev Asl:=Option (Option Nat)×Nat
abbrev Dsl:=Option (Option Nat)×Nat×Nat
def upW(lo a z:Nat):StateT SortSt Sem Asl:=forIn [a:z] ((none,a):Asl) λ_ c=>do
 match <-ltAt' (lo+c.snd) (lo+c.snd - 1)with
 | some b=>if b=true then pure (ForInStep.done (none,c.snd))else pure (ForInStep.yield (none,c.snd+1))
 | _=>pure (ForInStep.done (some none,c.snd))
def Cc(lo n z:Nat):StateT SortSt Sem (Option Nat):=do
 reverseSlice' lo (lo+n)
 let c <-upW lo n z
 match c.fst with
 | some r=>pure r
 | none=>pure (some c.snd)
def dnW(lo n z:Nat):StateT SortSt Sem Dsl:=forIn [n:z] ((none,n,0):Dsl) λ_ c=>do
 match <-ltAt' (lo+c.snd.fst) (lo+c.snd.fst - 1)with
 | some b =>
  if b=true then
   if c.snd.snd>0 then do
    reverseSlice' (lo+c.snd.fst - (c.snd.snd+1)) (lo+c.snd.fst)
    pure (ForInStep.yield (none,c.snd.fst+1,0))
   else pure (ForInStep.yield (none,c.snd.fst+1,0))
  else do
   match <-ltAt' (lo+c.snd.fst - 1) (lo+c.snd.fst)with
   | some g=>if g=true then pure (ForInStep.done (none,c.snd.fst,c.snd.snd))else pure (ForInStep.yield (none,c.snd.fst+1,c.snd.snd+1))
   | _=>pure (ForInStep.done (some none,c.snd.fst,c.snd.snd))
 | _=>pure (ForInStep.done (some none,c.snd.fst,c.snd.snd))
def vm(lo n z:Nat):StateT SortSt Sem (Option Nat):=do
 liftM (rule "list.sort.descending-run")
 let c <-dnW lo (n+1) z
 match c.fst with
 | some r=>pure r
 | none =>
  if c.snd.snd>0 then do
   reverseSlice' (lo+c.snd.fst - (c.snd.snd+1)) (lo+c.snd.fst)
   Cc lo c.snd.fst z
  else Cc lo c.snd.fst z
theorem Ge(lo z:Nat):countRun' lo z=(do
  let c <-upW lo 1 z
  match c.fst with
  | some r=>pure r
  | none =>
   if(c.snd==z)=true then pure (some c.snd)
   else if c.snd>1 then do
    match <-ltAt' lo (lo+c.snd - 1)with
    | some b=>if b=true then pure (some c.snd)else do
      reverseSlice' lo (lo+c.snd)
      vm lo c.snd z
    | _=>pure none
   else vm lo c.snd z):=by
 rw[countRun'_eq]
 unfold vm Cc dnW upW
 dsimp only
 have tl:∀(x:StateT SortSt Sem Asl),(x >>= λc3=>match c3.fst with|some r=>pure r|none=>pure (some c3.snd):StateT SortSt Sem (Option Nat))=(x >>= λc3=>match c3.fst with|none=>pure (some c3.snd)|some r=>pure r):=λx=>by
  congr 1;funext c3;rcases c3 with ⟨_|r3,n3⟩<;>rfl
 congr 1
 funext c
 rcases c with ⟨_|r,n⟩
 ·dsimp only
  split
  ·rfl
  ·split
   ·congr 1
    funext x
    cases x with
    | none=>rfl
    | some b =>
     dsimp only
     split
     ·rfl
     ·congr 1;funext _;congr 1;funext _;congr 1;funext c2
      rcases c2 with ⟨_|r2,n2,q2⟩
      ·dsimp only
       split
       ·congr 1;funext _;congr 1;funext _;congr 1;funext c3;rcases c3 with ⟨_|r3,n3⟩<;>rfl
       ·congr 1;funext _;congr 1;funext c3;rcases c3 with ⟨_|r3,n3⟩<;>rfl
      ·rfl
   ·congr 1;funext _;congr 1;funext c2
    rcases c2 with ⟨_|r2,n2,q2⟩
    ·dsimp only
     split
     ·congr 1;funext _;congr 1;funext _;congr 1;funext c3;rcases c3 with ⟨_|r3,n3⟩<;>rfl
     ·congr 1;funext _;congr 1;funext c3;rcases c3 with ⟨_|r3,n3⟩<;>rfl
    ·rfl
 ·rfl
end
section
variable {prog:Program} {w:World} {A:Around} {E:zzj} {s:Shared} {κ:SortKind} {rk:Value->Int} {a₀ old:Array Keyed} {lo:Nat} {P:Runs}
theorem Asc.snoc{lo m:Nat}(h:Asc rk xs lo (lo+m))(h1:1<=m)(q:¬ kr rk xs (lo+m)<kr rk xs (lo+m - 1)):Asc rk xs lo (lo+(m+1)):=λi j hi hij hj=>by
 by_cases c:j<lo+m
 ·exact h i j hi hij c
 ·by_cases c2:i=j
  ·subst c2;exact ss _
  ·have e:j=lo+m:=by lia
   subst e
   have:=h i (lo+m - 1) hi (by lia) (by lia)
   lia
theorem qF{a:Nat}{Q:Asl->SortSt->Prop}(hC:nq prog w A s κ rk a₀)(hz:lo+z<=a₀.size)(h1:1<=a)(ha:a<=z)(h:SB κ a₀ lo old P st)(ho:Asc rk (arrOf st) lo (lo+a))
  (q:∀n,a<=n->n<=z->Asc rk (arrOf st) lo (lo+n)->(n=z\/kr rk (arrOf st) (lo+n)<kr rk (arrOf st) (lo+n - 1))->Q (none,n) st):wpS (model prog w) A E s (upW lo a z) Q st:=by
 refine LD (I:=λx c st'=>st'=st/\c=(none,x)/\Asc rk (arrOf st) lo (lo+x)) (λx c st' hx hxz I=>?_) (λc st' I=>?_) ⟨rfl,rfl,ho⟩
 ·obtain⟨rfl,rfl,o⟩:=I
  refine io (vH hC h (by dsimp only;lia) (by dsimp only;lia) ?_)
  dsimp only
  by_cases c:kr rk (arrOf st') (lo+x)<kr rk (arrOf st') (lo+x - 1)
  ·rw[aw c]
   exact oz (q x hx (by lia) o (.inr c))
  ·rw[bi c]
   exact oz ⟨rfl,rfl,o.snoc (by lia) c⟩
 ·obtain⟨rfl,rfl,o⟩:=I
  have e:max a z=z:=by lia
  rw[e]at o ⊢
  exact q z ha (ay _) o (.inl rfl)
def Run(κ:SortKind)(rk:Value->Int)(a₀ old:Array Keyed)(lo z:Nat)(P:Runs)(m:Nat)(st:SortSt):Prop:=SB κ a₀ lo old P st/\1<=m/\m<=z/\Asc rk (arrOf st) lo (lo+m)
theorem Cb(hC:nq prog w A s κ rk a₀)(hz:lo+z<=a₀.size)(h1:1<=n)(hn:n<=z)(h:SB κ a₀ lo old P st)(ho:Dsc rk (arrOf st) lo (lo+n))
  (q:∀m st',Run κ rk a₀ old lo z P m st'->Q (some m) st'):wpS (model prog w) A E s (Cc lo n z) Q st:=by
 have hl:lo+n<=(arrOf st).size:=by rw[h.sz];lia
 have h':=h.to (mirror_perm (arrOf st) lo (lo+n) ((lo+n - lo) / 2)) (kR hl (ay _))
 unfold Cc
 refine io (sC (io (qF hC hz h1 hn h' (λi j hi hij hj=>?_) λm m1 m2 o _=>oz (q m _ ⟨h',by lia,m2,o⟩))))
 show kr rk (mirror (arrOf st) lo (lo+n) _) i<=kr rk (mirror (arrOf st) lo (lo+n) _) j
 rw[wY hl,wY hl,ai ⟨hi,by lia⟩,ai ⟨by lia,hj⟩]
 exact ho _ _ (by lia) (by lia) (by lia)
theorem Dsc.snoc{ys:Array Keyed}{lo m:Nat}(h:Dsc rk xs lo (lo+m))(h1:1<=m)(e:∀k,kr rk ys k=kr rk xs k)(q:kr rk xs (lo+m)<=kr rk xs (lo+m - 1)):Dsc rk ys lo (lo+(m+1)):=λi j hi hij hj=>by
 rw[e,e]
 by_cases c:j<lo+m
 ·exact h i j hi hij c
 ·by_cases c2:i=j
  ·subst c2;exact ss _
  ·have e:j=lo+m:=by lia
   subst e
   have:=h i (lo+m - 1) hi (by lia) (by lia)
   lia
def Flat(rk:Value->Int)(xs:Array Keyed)(lo m q:Nat):Prop:=q+1<=m/\∀k,lo+m - (q+1)<=k->k<lo+m->kr rk xs k=kr rk xs (lo+m - 1)
theorem JM{Q:Dsl->SortSt->Prop}(hC:nq prog w A s κ rk a₀)(hz:lo+z<=a₀.size)(h1:1<=n)(hn:n<=z)(h:SB κ a₀ lo old P st)(ho:Dsc rk (arrOf st) lo (lo+n))
  (q:∀m r st',SB κ a₀ lo old P st'->n<=m->m<=z->Dsc rk (arrOf st') lo (lo+m)->Flat rk (arrOf st') lo m r->Q (none,m,r) st'):wpS (model prog w) A E s (dnW lo n z) Q st:=by
 refine LD (I:=λx c st'=>∃r,c=(none,x,r)/\SB κ a₀ lo old P st'/\Dsc rk (arrOf st') lo (lo+x)/\Flat rk (arrOf st') lo x r) (λx c st' hx hxz I=>?_) (λc st' I=>?_) ⟨0,rfl,h,ho,by lia,λk k1 k2=>by congr 1;lia⟩
 ·obtain⟨r,rfl,h',o,fl⟩:=I
  have hl:lo+x<=(arrOf st').size:=by rw[h'.sz];lia
  refine io (vH hC h' (by dsimp only;lia) (by dsimp only;lia) ?_)
  dsimp only
  by_cases c:kr rk (arrOf st') (lo+x)<kr rk (arrOf st') (lo+x - 1)
  ·rw[aw c]
   rw[ai rfl]
   split
   ·rename_i hr
    have hr':0<r:=hr
    have hfl:∀k,lo+x - (r+1)<=k->k<lo+x->kr rk (arrOf st') k=kr rk (arrOf st') (lo+x - 1):=fl.2
    have kp:=oK (rk:=rk) hl hfl
    have fl1:=fl.1
    refine io (sC (oz ⟨0,rfl,h'.to (mirror_perm _ _ _ _) (kR hl (by lia)),o.snoc (by lia) kp (by lia),by lia,λk k1 k2=>by congr 1;lia⟩))
   ·exact oz ⟨0,rfl,h',o.snoc (by lia) (λ_=>rfl) (by lia),by lia,λk k1 k2=>by congr 1;lia⟩
  ·rw[bi c]
   rw[ac (by decide)]
   refine io (vH hC h' (by lia) (by lia) ?_)
   by_cases c2:kr rk (arrOf st') (lo+x - 1)<kr rk (arrOf st') (lo+x)
   ·rw[aw c2]
    exact oz (q x r st' h' hx (by lia) o fl)
   ·rw[bi c2]
    refine oz ⟨r+1,rfl,h',o.snoc (by lia) (λ_=>rfl) (by lia),by have:=fl.1;lia,λk k1 k2=>?_⟩
    have e:kr rk (arrOf st') (lo+x)=kr rk (arrOf st') (lo+x - 1):=by lia
    rw[show lo+(x+1) - 1=lo+x by lia,e]
    by_cases c3:k=lo+x
    ·rw[c3];exact e
    ·exact fl.2 k (by lia) (by lia)
 ·obtain⟨r,rfl,h',o,fl⟩:=I
  have e:max n z=z:=by lia
  rw[e]at o fl ⊢
  exact q z r st' h' hn (ay _) o fl
theorem yY(hC:nq prog w A s κ rk a₀)(hz:lo+z<=a₀.size)(hn:n+1<=z)(h:SB κ a₀ lo old P st)(ho:Dsc rk (arrOf st) lo (lo+(n+1)))
  (q:∀m st',Run κ rk a₀ old lo z P m st'->Q (some m) st'):wpS (model prog w) A E s (vm lo n z) Q st:=by
 unfold vm
 refine io (wpS_lift (L9 ⟨rfl,io (JM hC hz (by lia) hn h ho λm r st' h' m1 m2 o fl=>?_)⟩))
 dsimp only
 have hl:lo+m<=(arrOf st').size:=by rw[h'.sz];lia
 have fl1:=fl.1
 split
 ·have kp:=oK (rk:=rk) hl fl.2
  refine io (sC (Cb hC hz (by lia) m2 (h'.to (mirror_perm _ _ _ _) (kR hl (by lia))) (λi j hi hij hj=>?_) q))
  show kr rk (mirror (arrOf st') _ _ _) j<=kr rk (mirror (arrOf st') _ _ _) i
  rw[kp,kp]
  exact o i j hi hij hj
 ·exact Cb hC hz (by lia) m2 h' o q
theorem Gd(hC:nq prog w A s κ rk a₀)(hz:lo+z<=a₀.size)(h1:1<=z)(h:SB κ a₀ lo old P st)
  (q:∀m st',Run κ rk a₀ old lo z P m st'->Q (some m) st'):wpS (model prog w) A E s (countRun' lo z) Q st:=by
 rw[Ge]
 refine io (qF hC hz (ay 1) h1 h (λi j hi hij hj=>by rw[show i=j by lia];exact ss _) λn n1 n2 o e=>?_)
 dsimp only
 by_cases c:n=z
 ·rw[ai (by simpa using c)]
  exact oz (q n st ⟨h,n1,n2,o⟩)
 ·rw[ac (by simpa using c)]
  have lt:=e.resolve_left c
  split
  ·refine io (vH hC h (by lia) (by lia) ?_)
   by_cases c2:kr rk (arrOf st) lo<kr rk (arrOf st) (lo+n - 1)
   ·rw[aw c2]
    exact oz (q n st ⟨h,n1,n2,o⟩)
   ·rw[bi c2]
    dsimp only
    rw[ac (by decide)]
    have hl:lo+n<=(arrOf st).size:=by rw[h.sz];lia
    have fl:∀k,lo<=k->k<lo+n->kr rk (arrOf st) k=kr rk (arrOf st) (lo+n - 1):=λk k1 k2=>by
     have a1:=o lo k (ay _) k1 k2
     have a2:=o k (lo+n - 1) k1 (by lia) (by lia)
     lia
    have kp:=oK (rk:=rk) hl fl
    have dd:Dsc rk (arrOf st) lo (lo+n):=λi j hi hij hj=>by rw[fl i hi (by lia),fl j (by lia) hj];exact ss _
    exact io (sC (yY hC hz (by lia) (h.to (mirror_perm _ _ _ _) (kR hl (ay _))) (dd.snoc n1 kp (by lia)) q))
  ·have e1:n=1:=by lia
   subst e1
   have dd:Dsc rk (arrOf st) lo (lo+1):=λi j hi hij hj=>by rw[show i=j by lia];exact ss _
   exact yY hC hz (by lia) h (dd.snoc (ay _) (λ_=>rfl) (by lia)) q
theorem BU{src d:Nat}(hs:src<xs.size)(hd:d<=src)(k:Nat):kr rk (bubble xs src d) k=if k=src - d then kr rk xs src else if src - d<k/\k<=src then kr rk xs (k - 1)else kr rk xs k:=by
 have e:=getElem?_bubble hs d hd k
 split
 ·rename_i c;rw[ai c]at e;exact u7 e
 ·rename_i c
  rw[ac c]at e
  split
  ·rename_i c2;rw[ai c2]at e;exact u7 e
  ·rename_i c2;rw[ac c2]at e;exact u7 e
theorem Hu{ok:Nat}{Q:Bool->SortSt->Prop}(hC:nq prog w A s κ rk a₀)(hn:lo+n<=a₀.size)(hk:ok<=n)(h:SB κ a₀ lo old P st)(ho:Asc rk (arrOf st) lo (lo+ok))
  (q:∀st',SB κ a₀ lo old P st'->Asc rk (arrOf st') lo (lo+n)->Q true st'):wpS (model prog w) A E s (binarySort' lo n ok) Q st:=by
 rw[binarySort'_eq]
 refine io (wpS_mono (LD (I:=λk c st'=>c=(none,())/\SB κ a₀ lo old P st'/\Asc rk (arrOf st') lo (lo+min k n))
  (Q:=λc st'=>c=(none,())/\SB κ a₀ lo old P st'/\Asc rk (arrOf st') lo (lo+n)) (λk c st' hk1 hkn I=>?_) (λc st' I=>?_) ⟨rfl,h,λi j hi hij hj=>?_⟩) λc st' I=>?_)
 ·obtain⟨rfl,h',o⟩:=I
  rw[show min k n=k by lia]at o
  have hsz:lo+k<(arrOf st').size:=by rw[h'.sz];lia
  refine io (wpS_mono (LD (I:=λx c st2=>st2=st'/\∃l r,c=(none,l,r)/\l<=r/\r<=k/\r - l<=k - x /\
    (∀i,i<l->kr rk (arrOf st') (lo+i)<=kr rk (arrOf st') (lo+k))/\(∀i,r<=i->i<k->kr rk (arrOf st') (lo+k)<kr rk (arrOf st') (lo+i)))
   (Q:=λc st2=>st2=st'/\∃l r,c=(none,l,r)/\l<=k/\(∀i,i<l->kr rk (arrOf st') (lo+i)<=kr rk (arrOf st') (lo+k))/\(∀i,l<=i->i<k->kr rk (arrOf st') (lo+k)<kr rk (arrOf st') (lo+i)))
   (λx c st2 _ hx J=>?_) (λc st2 J=>?_) ⟨rfl,0,k,rfl,by lia,by lia,by lia,λi hi=>by lia,λi i1 i2=>by lia⟩) λc st2 J=>?_)
  ·obtain⟨rfl,l,r,rfl,lr,rk',sz,b1,b2⟩:=J
   dsimp only
   by_cases c:l>=r
   ·rw[ai c]
    exact oz ⟨rfl,l,r,rfl,by lia,b1,λi i1 i2=>b2 i (by lia) i2⟩
   ·rw[ac c]
    refine io (vH hC h' (by lia) (by lia) ?_)
    by_cases c2:kr rk (arrOf st2) (lo+k)<kr rk (arrOf st2) (lo+(l+r) / 2)
    ·rw[aw c2]
     refine oz ⟨rfl,l,(l+r) / 2,rfl,by lia,by lia,by lia,b1,λi i1 i2=>?_⟩
     have:=o (lo+(l+r) / 2) (lo+i) (by lia) (by lia) (by lia)
     lia
    ·rw[bi c2]
     refine oz ⟨rfl,(l+r) / 2+1,r,rfl,by lia,by lia,by lia,λi i1=>?_,b2⟩
     have:=o (lo+i) (lo+(l+r) / 2) (by lia) (by lia) (by lia)
     lia
  ·obtain⟨rfl,l,r,rfl,lr,rk',sz,b1,b2⟩:=J
   exact⟨rfl,l,r,rfl,by lia,b1,λi i1 i2=>b2 i (by lia) i2⟩
  ·obtain⟨rfl,l,r,rfl,lk,b1,b2⟩:=J
   show wpS _ _ _ _ (moveDown' (lo+k) (lo+l) >>= λ_=>pure (ForInStep.yield (none,()))) _ _
   rw[moveDown'_eq]
   have ed:lo+k - (lo+k - (lo+l))=lo+l:=by lia
   refine io (wpS_modify (oz ⟨rfl,h'.to (bubble_perm _ _ _) (λi hi=>?_),λi j hi hij hj=>?_⟩))
   ·rw[getElem?_bubble hsz _ (by lia),ac (by lia),ac (by lia)]
   ·rw[show min (k+1) n=k+1 by lia]at hj
    show kr rk (bubble (arrOf st2) (lo+k) (lo+k - (lo+l))) i<=kr rk (bubble (arrOf st2) (lo+k) (lo+k - (lo+l))) j
    rw[BU hsz (by lia),BU hsz (by lia),ed]
    have t1:∀i,lo<=i->i<lo+l->kr rk (arrOf st2) i<=kr rk (arrOf st2) (lo+k):=λi i1 i2=>by
     have:=b1 (i - lo) (by lia)
     rwa [show lo+(i - lo)=i by lia]at this
    have t2:∀i,lo+l<=i->i<lo+k->kr rk (arrOf st2) (lo+k)<kr rk (arrOf st2) i:=λi i1 i2=>by
     have:=b2 (i - lo) (by lia) (by lia)
     rwa [show lo+(i - lo)=i by lia]at this
    split
    ·split
     ·exact ss _
     ·split
      ·exact Int.le_of_lt (t2 _ (by lia) (by lia))
      ·lia
    ·split
     ·split
      ·lia
      ·split
       ·exact o _ _ (by lia) (by lia) (by lia)
       ·lia
     ·split
      ·exact t1 _ hi (by lia)
      ·split
       ·exact o _ _ (by lia) (by lia) (by lia)
       ·exact o _ _ (by lia) (by lia) (by lia)
 ·obtain⟨rfl,h',o⟩:=I
  rw[show min (max (max ok 1) n) n=n by lia]at o
  exact⟨rfl,h',o⟩
 ·by_cases c:ok=0
  ·rw[show i=j by lia];exact ss _
  ·exact ho i j hi hij (by lia)
 ·obtain⟨rfl,h',o⟩:=I
  exact oz (q st' h' o)
end
abbrev SM':=StateT SortSt Sem
end TS
namespace TS
end TS
namespace TS
open PySem PyProof.Rows
section
variable {rk:Value->Int}
abbrev Le(rk:Value->Int)(x y:Keyed):Prop:=rk x.1<=rk y.1
theorem CG{a:Array Keyed}(h:Asc rk a 0 a.size):a.toList.Pairwise (Le rk):=by
 rw[List.pairwise_iff_getElem]
 intro i j hi hj hij
 have hi':i<a.size:=by simpa using hi
 have hj':j<a.size:=by simpa using hj
 have:=h i j (eE _) (ze hij) hj'
 rw[yK (de hi'),yK (de hj')]at this
 simpa using this
end
end TS
namespace TS
end TS
namespace TS
end TS
namespace TS
open PySem PyProof.Rows
section
variable {rk:Value->Int}
def Cov:List (Nat×Nat×Nat)->Nat->Nat->Prop
 | [],lo,hi=>lo=hi
 | (s,n,_)::r,lo,hi=>s=lo/\1<=n/\Cov r (lo+n) hi
structure Rn(κ:SortKind)(rk:Value->Int)(a₀:Array Keyed)(hi:Nat)(st:SortSt):Prop where
 pm:(arrOf st).Perm a₀
 kd:kindOf st=κ
 fl:failedOf st=none
 cv:Cov (pendingOf st).toList 0 hi
 so:∀x∈(pendingOf st).toList,Asc rk (arrOf st) x.1 (x.1+x.2.1)
 le:hi<=a₀.size
variable {prog:Program}{w:World}{A:Around}{E:zzj}{s:Shared}{κ:SortKind}{a₀:Array Keyed}
end
end TS
namespace TS
end TS
namespace TS
open PySem PyProof.Rows
variable {vs:List Value}{n:Nat}{a:Addr}
abbrev Cu:=Option Unit×Unit
def La(pw:Nat):SM' (ForInStep Cu):=do
 let st <-get
 match (if(pendingOf st).size>1 then(pendingOf st)[(pendingOf st).size - 2]? else none)with
 | some (_,_,o) =>
  if o<=pw then pure (.done (none,()))
  else do
   let b <-mergeAt' ((pendingOf st).size - 2)
   if(!b)=true then pure (.done (some (),()))else pure (.yield (none,()))
 | _=>pure (.done (none,()))
def addW(lo n:Nat):SM' (ForInStep (Option Unit×Nat)):=do
 modify λc=>setPending c ((pendingOf c).push (lo,n,0))
 pure (.yield (none,lo+n))
def yl(z lo n:Nat):SM' (ForInStep (Option Unit×Nat)):=do
 let st <-get
 match (pendingOf st).back? with
 | some (s1,n1,_)=>do
  let c <-forIn [0:z] ((none,()):Cu) λ_ _=>La (power' z (2*s1+n1) (2*s1+n1+n1+n) z)
  match c.1 with
  | some r=>pure (.done (some r,lo))
  | none=>do
   modify λc=>setPending c ((pendingOf c).modify ((pendingOf c).size - 1) λx=>(x.1,x.2.1,power' z (2*s1+n1) (2*s1+n1+n1+n) z))
   addW lo n
 | _=>addW lo n
def GX(P:Runs):Nat:=if((if P.size - 2>0 then P[P.size - 2 - 1]?.map (·.2.1)else none).any (· < (P[P.size - 2+1]?.elim 0 (·.2.1))))=true then P.size - 2 - 1 else P.size - 2
def Fu:SM' (ForInStep Cu):=do
 let st <-get
 if(pendingOf st).size<=1 then pure (.done (none,()))
 else do
  let b <-mergeAt' (GX (pendingOf st))
  if(!b)=true then pure (.done (some (),()))else pure (.yield (none,()))
theorem Di:sortRuns'=(do
  let st <-get
  let c <-forIn [0:(arrOf st).size] ((none,0):Option Unit×Nat) λ_ c =>
   if c.2>=(arrOf st).size then pure (.done (none,c.2))
   else do
    match <-countRun' c.2 ((arrOf st).size - c.2)with
    | some f =>
     if f<minRun' (arrOf st).size (arrOf st).size 0 then do
      liftM (rule "list.sort.binary-insertion")
      let b <-binarySort' c.2 (min ((arrOf st).size - c.2) (minRun' (arrOf st).size (arrOf st).size 0)) f
      if(!b)=true then pure (.done (some (),c.2))
      else yl (arrOf st).size c.2 (min ((arrOf st).size - c.2) (minRun' (arrOf st).size (arrOf st).size 0))
     else yl (arrOf st).size c.2 f
    | _=>pure (.done (some (),c.2))
  match c.1 with
  | some r=>pure r
  | none=>do
   let c <-forIn [0:(arrOf st).size] ((none,()):Cu) λ_ _=>Fu
   match c.1 with
   | some r=>pure r
   | none=>pure ()):=by
 kernel_rfl
section
variable {z:Nat} {rk:Value->Int} {prog:Program} {w:World} {A:Around} {E:zzj} {s:Shared} {κ:SortKind} {a₀:Array Keyed}
def Rp(κ:SortKind)(rk:Value->Int)(a₀:Array Keyed)(lo n:Nat)(st:SortSt):Prop:=Rn κ rk a₀ lo st/\1<=n/\lo+n<=a₀.size/\Asc rk (arrOf st) lo (lo+n)
theorem z4:∀n,n<64->minRun' n n 0=n:=by decide +kernel
theorem zt{st:SortSt}{Q:ForInStep (Option Unit×Nat)->SortSt->Prop}(h:Rp κ rk a₀ 0 n st)(hp:pendingOf st = #[])(q:∀st',Rn κ rk a₀ n st'->(pendingOf st').size<=1->Q (.yield (none,n)) st'):wpS (model prog w) A E s (yl z 0 n) Q st:=by
 obtain⟨r,n1,le,o⟩:=h
 unfold yl
 refine io (wpS_get ?_)
 rw[hp]
 show wpS (model prog w) A E s (addW 0 n) Q st
 unfold addW
 have e:0+n=n:=Nat.zero_add n
 rw[e]
 refine io (wpS_modify (oz (q _ ⟨r.pm,r.kd,r.fl,?_,λx hx=>?_,by omega⟩ ?_)))
 ·show Cov ((pendingOf st).push (0,n,0)).toList 0 n
  rw[hp]
  exact⟨rfl,n1,by show 0+n=n;exact e⟩
 ·have hx':x∈((pendingOf st).push (0,n,0)).toList:=hx
  rw[hp]at hx'
  rw[List.mem_singleton.mp hx'];exact o
 ·show((pendingOf st).push (0,n,0)).size<=1
  rw[hp];exact ay _
theorem Dh{st:SortSt}{Q:Unit->SortSt->Prop}(hC:nq prog w A s κ rk a₀)(h2:1<=a₀.size)(h64:a₀.size<64)(h:Rn κ rk a₀ 0 st)(q:∀st',(arrOf st').Perm a₀->failedOf st'=none->Asc rk (arrOf st') 0 a₀.size->Q () st')(hp0:pendingOf st = #[]):wpS (model prog w) A E s sortRuns' Q st:=by
 rw[Di]
 refine io (wpS_get ?_)
 have hsz:(arrOf st).size=a₀.size:=h.pm.size_eq
 rw[hsz,z4 _ h64]
 refine io (wpS_mono (LD (I:=λx c st'=>∃lo,c=(none,lo)/\Rn κ rk a₀ lo st'/\(x=0/\lo=0/\pendingOf st' = #[]\/lo=a₀.size/\(pendingOf st').size<=1)) (Q:=λc st'=>c=(none,a₀.size)/\Rn κ rk a₀ a₀.size st'/\(pendingOf st').size<=1) (λx c st' _ hx I=>?_) (λc st' I=>?_) ⟨0,rfl,h,.inl ⟨rfl,rfl,hp0⟩⟩) λc st' I=>?_)
 ·obtain⟨lo,rfl,r,hl⟩:=I
  have rle:=r.le
  dsimp only
  split
  ·rcases hl with ⟨_,rfl,_⟩|⟨rfl,hp⟩
   ·omega
   ·exact oz ⟨rfl,r,hp⟩
  ·rename_i c
   rcases hl with ⟨hx0,rfl,hp⟩|⟨rfl,hp⟩
   ·have sb:SB κ a₀ 0 (arrOf st') (pendingOf st') st':=⟨r.pm,r.kd,r.fl,λ_ _=>rfl,rfl⟩
    have back:∀st2 n,SB κ a₀ 0 (arrOf st') (pendingOf st') st2->1<=n->0+n<=a₀.size->Asc rk (arrOf st2) 0 (0+n)->Rp κ rk a₀ 0 n st2:=λst2 n b n1 n2 o=>by
     refine⟨⟨b.pm,b.kd,b.fl,by rw[b.pe,hp];rfl,λx hx=>?_,r.le⟩,n1,n2,o⟩
     rw[b.pe,hp]at hx
     cases hx
    refine io (Gd hC (by omega) (by omega) sb λm st2 ⟨b2,m1,m2,o2⟩=>?_)
    dsimp only
    split
    ·refine io (wpS_lift (L9 ⟨rfl,io (Hu hC (by omega) (by omega) b2 o2 λst3 b3 o3=>?_)⟩))
     rw[ac (by decide)]
     have em:min (a₀.size - 0) a₀.size=a₀.size:=by omega
     rw[em]at o3 ⊢
     exact zt (back st3 _ b3 (by omega) (by omega) o3) (by rw[b3.pe,hp]) λst4 r4 p4=>⟨_,rfl,r4,.inr ⟨rfl,p4⟩⟩
    ·have em:m=a₀.size:=by omega
     subst em
     exact zt (back st2 _ b2 m1 (by omega) o2) (by rw[b2.pe,hp]) λst4 r4 p4=>⟨_,rfl,r4,.inr ⟨rfl,p4⟩⟩
   ·omega
 ·obtain⟨lo,rfl,r,hl⟩:=I
  rcases hl with ⟨h0,_⟩|⟨rfl,hp⟩
  ·omega
  ·exact⟨rfl,r,hp⟩
 ·obtain⟨rfl,r,hp⟩:=I
  dsimp only
  refine io (wpS_mono (LD (I:=λx c st2=>c=(none,())/\Rn κ rk a₀ a₀.size st2/\(pendingOf st2).size<=1) (Q:=λc st2=>c=(none,())/\Rn κ rk a₀ a₀.size st2/\(pendingOf st2).size<=1) (λx c st2 _ hx I=>?_) (λc st2 I=>I) ⟨rfl,r,hp⟩) λc st2 I=>?_)
  ·obtain⟨rfl,r2,sz⟩:=I
   unfold Fu
   refine io (wpS_get ?_)
   rw[ai sz]
   exact oz ⟨rfl,r2,sz⟩
  ·obtain⟨rfl,r2,sz⟩:=I
   dsimp only
   refine oz (q st2 r2.pm r2.fl ?_)
   have cv:=r2.cv
   have so:=r2.so
   have hl:(pendingOf st2).toList.length<=1:=by rw[cr];exact sz
   match hP:(pendingOf st2).toList,hl,cv,so with
   | [],_,cv,_=>have:0=a₀.size:=cv;omega
   | [(a,n,p)],_,cv,so =>
    obtain⟨rfl,_,e⟩:=cv
    have e':0+n=a₀.size:=e
    have:=so (0,n,p) au
    dsimp only at this
    rw[e']at this
    exact this
   | _::_::_,hl,_,_=>simp at hl
end
def mid(s:Shared)(a:Addr)(vs:List Value):Shared:={ s with heap:=((s.heap.update a (Obj.mapSeq λ_=>#[])).push (seqObj "tuple" vs.toArray 0)).push (seqObj "list" #[] 0) }
section
variable {prog:Program} {w:World} {A:Around} {E:zzj} {s:Shared} {κ:SortKind} {rk:Value->Int}
theorem BJ{P:Fin->Shared->Prop}(ho:s.heap.get? a=some (seqObj "list" vs.toArray n))(h64:vs.length<64)
  (hk:2<=vs.length->∀Q:SortKind->Shared->Prop,Q κ (mid s a vs)->wpAny (model prog w) A (keyKind' vs.toArray) Q E (mid s a vs)) (hC:2<=vs.length->nq prog w A (mid s a vs) κ rk (pairsOf vs))
  (h:∀out:Array Value,out.toList.Perm vs->out.toList.Pairwise (λx y=>rk x<=rk y)->P (.done (.ret .none)) { s with heap:=sortedHeap s.heap a vs out }):wpAny (model prog w) A (Builtin.«list.sort» ⟨[.ref a],[]⟩) P E s:=by
 have hz:vs.length<=sizeLine:=bj (ze h64) (by decide)
 have hlt:=be ho
 obtain⟨ep,ho1⟩:∃ep,(s.heap.update a (Obj.mapSeq λ_=>#[])).get? a=some (seqObj "list" #[] ep):=⟨_,get?_update_seq ho λ_=>#[]⟩
 have ho2:(mid s a vs).heap.get? a=some (seqObj "list" #[] ep):=by
  unfold mid
  dsimp only
  rw[sd,sd]
  ·exact ho1
  ·rw[qu];exact bu hlt
  ·rw[Mb,qu];exact bu (om hlt)
 rw[list_sort_plain]
 refine zza (listItems_at ho rfl (zza (listUpdate_at ho rfl (zza (seqEpoch_at ho1 rfl (zza (wpAny_newTuple (zza (wpAny_newList (ng ?_)))))))  (by simpa using hz) (eE _))))
 have mem:∀p∈(pairsOf vs).toList,p.1=p.2/\p.1∈vs:=λp hp=>by
  rw[pairsOf_toList]at hp
  exact mem_zip_self hp
 have fin:∀c:SortSt,(arrOf c).Perm (pairsOf vs)->Asc rk (arrOf c) 0 (arrOf c).size->P (.done (.ret .none)) { s with heap:=sortedHeap s.heap a vs ((arrOf c).map (·.2)) }:=λc hp ha=>by
  have hp':=Array.perm_iff_toList_perm.mp hp
  have e:((arrOf c).map (·.2)).toList=(arrOf c).toList.map (·.1):=by
   rw[Array.toList_map]
   exact Ba λp q=>(mem p (hp'.mem_iff.mp q)).1.symm
  refine h _ ?_ ?_
  ·rw[e]
   have:=hp'.map (·.1)
   rwa [pairsOf_toList,List.map_fst_zip (ay _)]at this
  ·rw[e,xt]
   exact CG ha
 have size2:∀c:SortSt,(arrOf c).Perm (pairsOf vs)->((arrOf c).map (·.2)).size<=sizeLine+1:=λc hp=>by
  rw[Array.size_map,hp.size_eq,pairsOf_size];omega
 have vz:vs.toArray.size=vs.length:=ce ..
 show wpAny (model prog w) A _ P E (mid s a vs)
 by_cases c:vs.length<2
 ·rw[ai (by rw[vz];exact c),ai (by rw[vz];exact c)]
  refine zza (zzb ?_)
  dsimp only
  rw[StateT.run_pure]
  refine zza (zzb (zza (seqEpoch_at ho2 rfl (zza (listUpdate_at ho2 rfl ?_ (eE _) (size2 (SortSt.mk' general' (vs.toArray.zip vs.toArray) #[] 7 none) (Array.Perm.refl _)))))))
  rw[ac (by simp)]
  refine zzb (fin (SortSt.mk' general' (vs.toArray.zip vs.toArray) #[] 7 none) (Array.Perm.refl _) λi j _ ij hj=>?_)
  have hj':j<(pairsOf vs).size:=hj
  rw[pairsOf_size]at hj'
  rw[show i=j by omega]
  exact ss _
 ·rw[ac (by rw[vz];exact c),ac (by rw[vz];exact c)]
  refine zza (hk (by omega) _ ?_)
  have so:=Dh (E:=E) (hC (by omega)) (by rw[pairsOf_size];omega) (by rw[pairsOf_size];exact h64) (hp0:=rfl) (st:=SortSt.mk' κ (vs.toArray.zip vs.toArray) #[] 7 none) (Q:=λ_ c=>(arrOf c).Perm (pairsOf vs)/\failedOf c=none/\Asc rk (arrOf c) 0 (pairsOf vs).size)
   ⟨Array.Perm.refl _,rfl,rfl,rfl,(λx hx=>by cases hx),eE _⟩ (λc a1 a2 a3=>⟨a1,a2,a3⟩)
  refine zza (je so (λr s' ⟨e,a1,a2,a3⟩=>?_) λ_ _ e=>e)
  subst e
  obtain⟨⟨⟩,c⟩:=r
  dsimp only at a1 a2 a3 ⊢
  refine zza (seqEpoch_at ho2 rfl (zza (listUpdate_at ho2 rfl ?_ (eE _) (size2 c a1))))
  rw[a2]
  dsimp only
  rw[ac (by simp)]
  exact zzb (fin c a1 (by rw[a1.size_eq];exact a3))
def e8(s:Shared)(vs:List Value):Shared:={ s with heap:=s.heap.push (seqObj "list" vs.toArray 0) }
theorem wm{x:Value}{Q:zzj}(col:∀(E':zzj) (Q':List Value->Shared->Prop),(∀vs s2,(vs.length<64/\∃(κ:SortKind) (rk:Value->Int),
   (2<=vs.length->∀(E':zzj) (Q:SortKind->Shared->Prop),Q κ (mid (e8 s2 vs) s2.heap.objs.size vs)->wpAny (model prog w) A.in1.in1 (keyKind' vs.toArray) Q E' (mid (e8 s2 vs) s2.heap.objs.size vs)) /\
   (2<=vs.length->nq prog w A.in1.in1 (mid (e8 s2 vs) s2.heap.objs.size vs) κ rk (pairsOf vs)) /\
   ∀out:Array Value,out.toList.Perm vs->out.toList.Pairwise (λx y=>rk x<=rk y)->Q (.ref s2.heap.objs.size) { s2 with heap:=sortedHeap (e8 s2 vs).heap s2.heap.objs.size vs out })->Q' vs s2)->wpAny (model prog w) A.in1 (collect x) Q' E' s) :
  wpAny (model prog w) A (call (.builtin "sorted") [x]) Q E s:=by
 refine Calls.call_function_entry kind_sorted plain_sorted entry_sorted (args_sorted1 _) ?_
 unfold Builtin.«sorted»
 refine zza (m:=checkCount "sorted" 1 1 _) (zzb (zza (col _ _ λvs s2 ⟨hz,κ,rk,hk,hC,h⟩=>zza (wpAny_newList ?_))))
 have hg:(e8 s2 vs).heap.get? s2.heap.objs.size=some (seqObj "list" vs.toArray 0):=zze _ rfl
 show wpAny _ _ _ _ _ (e8 s2 vs)
 exact zza (ng (y3 slot_list_sort ⟨_,hg,rfl⟩ entry_list_sort (BJ hg hz (λc=>hk c _) hC λout a1 a2=>⟨_,rfl,zzb ⟨_,rfl,h out a1 a2⟩⟩) (args_list_sort _)))
theorem sq{h:Heap}{out:Array Value}{b:Addr}{o:Obj}(hab:b≠a)(e:h.get? b=some o):(sortedHeap h a vs out).get? b=some o:=by
 have hlt:b<h.objs.size:=be e
 unfold sortedHeap
 rw[Heap.get?_update_ne _ _ _ _ hab,sd _ _ _ (by rw[Mb,qu];exact bu (om hlt)),sd _ _ _ (by rw[qu];exact bu hlt),Heap.get?_update_ne _ _ _ _ hab]
 exact e
theorem wu{h:Heap}{out:Array Value}(ho:h.get? a=some (seqObj "list" vs.toArray n)):∃e,(sortedHeap h a vs out).get? a=some (seqObj "list" out e):=by
 have hlt:a<h.objs.size:=be ho
 obtain⟨ep,e1⟩:∃ep,(h.update a (Obj.mapSeq λ_=>#[])).get? a=some (seqObj "list" #[] ep):=⟨_,get?_update_seq ho λ_=>#[]⟩
 unfold sortedHeap
 refine⟨_,get?_update_seq (n:=ep) (xs:=#[]) ?_ λ_=>out⟩
 rw[sd _ _ _ (by rw[Mb,qu];exact bu (om hlt)),sd _ _ _ (by rw[qu];exact bu hlt)]
 exact e1
theorem DV{b:Addr}{o:Obj}(e:s.heap.get? b=some o):(mid (e8 s vs) s.heap.objs.size vs).heap.get? b=some o:=by
 have hlt:b<s.heap.objs.size:=be e
 unfold mid e8
 dsimp only
 rw[sd _ _ _ (by rw[Mb,qu,Mb];exact bu (om (om hlt))),sd _ _ _ (by rw[qu,Mb];exact bu (om hlt)),Heap.get?_update_ne _ _ _ _ (bu hlt)]
 exact zzc _ e
end
end TS
namespace L4
open PySem PySem.Spec PyProof.Rows L2 L3
variable {α:Type}
section
open HT
theorem wR:∀a:List Int,lexLt a a=false
 | []=>rfl
 | x::a=>by rw[lexLt_cons,ai rfl];exact wR a
theorem yG:∀{a b c:List Int},lexLt a b=true->lexLt b c=true->lexLt a c=true
 | [],[],_,h,_=>by cases h
 | [],_::_,[],_,h=>by cases h
 | [],_::_,_::_,_,_=>rfl
 | _::_,[],_,h,_=>by cases h
 | _::_,_::_,[],_,h=>by cases h
 | x::a,y::b,z::c,h1,h2=>by
  rw[lexLt_cons]at h1 h2 ⊢
  by_cases e1:x=y
  ·by_cases e2:y=z
   ·rw[ai e1]at h1;rw[ai e2]at h2;rw[ai (e1.trans e2)]
    exact yG h1 h2
   ·rw[ac e2,zzi]at h2
    rw[ac (by omega),zzi];omega
  ·rw[ac e1,zzi]at h1
   by_cases e2:y=z
   ·rw[ac (by omega),zzi];omega
   ·rw[ac e2,zzi]at h2
    rw[ac (by omega),zzi];omega
theorem oN:∀{a b:List Int},lexLt a b=false->lexLt b a=false->a=b
 | [],[],_,_=>rfl
 | [],_::_,h,_=>by cases h
 | _::_,[],_,h=>by cases h
 | x::a,y::b,h1,h2=>by
  rw[lexLt_cons]at h1 h2
  by_cases e:x=y
  ·rw[ai e]at h1;rw[ai e.symm]at h2
   rw[e,oN h1 h2]
  ·rw[ac e,ic]at h1
   rw[ac (λz=>e z.symm),ic]at h2
   omega
theorem Jo{a b:List Int}(h:lexLt a b=true):lexLt b a=false:=by
 cases q:lexLt b a with
 | false=>rfl
 | true=>have:=yG h q;rw[wR]at this;cases this
end
theorem Ak{p q:α->Bool}{l:List α}{x:α}(h:∀y∈l,p y=true->q y=true)(hx:x∈l)(h1:p x=false)(h2:q x=true):l.countP p<l.countP q:=by
 induction l with
 | nil=>cases hx
 | cons y l ih =>
  have hm:∀z∈l,p z=true->q z=true:=λz hz=>h z (zzg _ hz)
  have le:l.countP p<=l.countP q:=List.countP_mono_left hm
  rw[List.countP_cons,List.countP_cons]
  rcases List.mem_cons.mp hx with rfl|hx
  ·rw[h1,h2];simp;omega
  ·have:=ih hm hx
   have hy:=h y au
   cases e:p y with
   | false=>simp;omega
   | true=>rw[hy e];simp;omega
def rankOf{α:Type}(l:List α)(k:α->List Int)(x:α):Int:=(l.countP λu=>HT.lexLt (k u) (k x):Nat)
theorem sD{l:List α}{k:α->List Int}{x y:α}(hx:x∈l)(hy:y∈l):decide (rankOf l k x<rankOf l k y)=HT.lexLt (k x) (k y):=by
 have up:∀x y,x∈l->HT.lexLt (k x) (k y)=true->rankOf l k x<rankOf l k y:=λx y hx h=>by
  have:=Ak (p:=λu=>HT.lexLt (k u) (k x)) (q:=λu=>HT.lexLt (k u) (k y)) (l:=l) (λz _ hz=>yG hz h) hx (wR _) h
  unfold rankOf;omega
 cases e:HT.lexLt (k x) (k y)with
 | true=>exact aw (up x y hx e)
 | false =>
  rw[ic]
  intro z
  cases e2:HT.lexLt (k y) (k x)with
  | true=>have:=up y x hy e2;omega
  | false =>
   have ek:=oN e e2
   unfold rankOf at z
   rw[ek]at z
   omega
def w9:D->Bool
 | .tuple ds=>match intsOf ds with
  | some (_::_)=>true
  | _=>false
 | _=>false
def tD:D->Bool
 | .int _=>true
 | _=>false
def gO(ds:List D):Bool:=decide (ds.length<64)&&(ds.all tD||ds.all w9)
def keyD:D->List Int
 | .int i=>[i]
 | .tuple ds=>(intsOf ds).getD []
 | _=>[]
def leK(x y:D):Bool:=!HT.lexLt (keyD y) (keyD x)
def gB(ds:List D):List D:=ds.mergeSort leK
theorem cL(ds:List D):(gB ds).Perm ds:=List.mergeSort_perm ds leK
theorem GT(x y z:D)(h1:leK x y=true)(h2:leK y z=true):leK x z=true:=by
 unfold leK at *
 rw[ot]at *
 cases e:HT.lexLt (keyD z) (keyD x)with
 | false=>rfl
 | true =>
  exfalso
  cases e2:HT.lexLt (keyD x) (keyD y)with
  | true=>have:=yG e e2;rw[h2]at this;cases this
  | false=>rw[oN e2 h1,h2]at e;cases e
theorem DZ(x y:D):(leK x y||leK y x)=true:=by
 unfold leK
 cases e:HT.lexLt (keyD y) (keyD x)with
 | false=>rfl
 | true=>rw[Jo e];rfl
theorem fj(ds:List D):(gB ds).Pairwise λx y=>leK x y=true:=List.pairwise_mergeSort GT DZ ds
theorem jn{R:D->D->Prop}:∀{a b:List D},(∀x∈b,∀y∈b,R x y->R y x->x=y)->a.Perm b->a.Pairwise R->b.Pairwise R->a=b
 | [],b,_,hp,_,_=>by simpa using hp.symm.eq_nil
 | x::r,b,hR,hp,ha,hb=>by
  cases b with
  | nil=>exact absurd hp.length_eq (by simp)
  | cons y t =>
   rw[LN]at ha hb
   have hx:x∈y::t:=hp.mem_iff.mp au
   have hy:y∈x::r:=hp.mem_iff.mpr au
   have e:x=y:=by
    rcases List.mem_cons.mp hx with e|hx'
    ·exact e
    ·rcases List.mem_cons.mp hy with e|hy'
     ·exact e.symm
     ·exact hR x hx y au (ha.1 y hy') (hb.1 x hx')
   subst e
   rw[jn (λx hx y hy=>hR x (zzg _ hx) y (zzg _ hy)) (List.Perm.cons_inv hp) ha.2 hb.2]
theorem js{d:D}(h:w9 d=true):∃n r,d=.tuple ((n::r).map PyData.int):=by
 unfold w9 at h
 split at h
 ·rename_i ds
  split at h
  ·rename_i n r e;exact⟨n,r,by rw[fG e]⟩
  ·cases h
 ·cases h
theorem jr{d:D}(h:tD d=true):∃n,d=.int n:=by
 cases d<;>first|exact⟨_,rfl⟩|cases h
theorem D6{ds:List D}(h:gO ds=true):∀x∈ds,∀y∈ds,keyD x=keyD y->x=y:=λx hx y hy e=>by
 unfold gO at h
 rw[am]at h
 replace h:=h.2
 rw[gt,ke,ke]at h
 rcases h with h|h
 ·obtain⟨n,rfl⟩:=jr (h x hx)
  obtain⟨m,rfl⟩:=jr (h y hy)
  have e':[n]=[m]:=e
  injection e' with e'
  rw[e']
 ·obtain⟨n,r,rfl⟩:=js (h x hx)
  obtain⟨m,t,rfl⟩:=js (h y hy)
  have kt:∀l:List Int,keyD (.tuple (l.map PyData.int))=l:=λl=>by
   show(intsOf (l.map PyData.int)).getD []=l
   rw[pf];rfl
  rw[kt,kt]at e
  rw[e]
theorem AU{ds r:List D}(h:gO ds=true)(hp:r.Perm ds)(hs:r.Pairwise λx y=>leK x y=true):r=gB ds :=
 jn (λx hx y hy h1 h2=>D6 h x ((cL ds).mem_iff.mp hx) y ((cL ds).mem_iff.mp hy) (by
  unfold leK at h1 h2
  rw[ot]at h1 h2
  exact oN h2 h1)) (hp.trans (cL ds).symm) hs (fj ds)
theorem Bv{β:Type}{f:α->β}:∀{out:List β} {l:List α},out.Perm (l.map f)->∃l':List α,l'.Perm l/\l'.map f=out:=by
 intro out l h
 generalize e:l.map f=m at h
 induction h generalizing l with
 | nil =>
  cases l with
  | nil=>exact⟨[],.refl _,rfl⟩
  | cons y l=>cases e
 | @cons x a b hp ih =>
  cases l with
  | nil=>cases e
  | cons y l =>
   rw[ba]at e
   injection e with e1 e2
   obtain⟨l',h1,h2⟩:=ih e2
   exact⟨y::l',h1.cons y,by rw[ba,h2,e1]⟩
 | @swap x y a =>
  match l,e with
  | u::v::l,e =>
   rw[ba,ba]at e
   injection e with e1 e2
   injection e2 with e2 e3
   exact⟨v::u::l,.swap _ _ _,by rw[ba,ba,e1,e2,e3]⟩
 | @trans a b c h1 h2 ih1 ih2 =>
  obtain⟨l1,p1,q1⟩:=ih2 e
  obtain⟨l2,p2,q2⟩:=ih1 q1
  exact⟨l2,p2.trans p1,q2⟩
end L4
namespace L4
open PySem PySem.Spec PyProof.Rows L2 L3 TS
theorem mR{prog:Program}{w:World}{A:Around}{s:Shared}{b fin:Bool}{Q:Bool->Shared->Prop}:∀{vs us:List Value} {ns ms:List Int} (i:Nat),IntsAre vs ns->IntsAre us ms->fin=decide (vs.length<us.length)->Q (HT.lexLt ns ms) s ->
  PySem.W.KatLex prog w A b fin Q (vs.zip us) i s
 | _,_,_,_,i,.nil,.nil,e,q=>by
  subst e
  exact q
 | _,_,_,_,i,.nil,.cons _ _ _,e,q=>by
  subst e
  exact q
 | _,_,_,_,i,.cons _ _ _,.nil,e,q=>by
  subst e
  exact q
 | _,_,_,_,i,.cons x t h1,.cons y u h2,e,q=>by
  rw[wo]
  refine PySem.W.kat_cons (wpAny_eqBool_int ?_)
  rw[HT.lexLt_cons]at q
  by_cases c:x=y
  ·rw[ai c]at q
   rw[show(x==y)=true by simpa using c]
   exact PySem.W.kat_yes (mR (i+1) h1 h2 (by rw[e];simp) q)
  ·rw[ac c]at q
   rw[show(x==y)=false by simpa using c]
   refine PySem.W.kat_no ?_
   cases hb:(b&&i==0)with
   | true=>exact oneLt_int q
   | false=>exact PySem.W.kat_one _ _ (lt_int q)
theorem triples{K:Fg}{F:Hp}:∀{vs:List V} {ds:List D} {its:List Value},RepL K F vs ds->Vals vs its->∃L:List (V×D×Value),L.map (·.1)=vs/\L.map (·.2.1)=ds/\L.map (·.2.2)=its/\∀t∈L,Rep K F t.1 t.2.1/\RelV t.1 t.2.2
 | _,_,_,.nil,r=>by cases r;exact⟨[],rfl,rfl,rfl,λ_ h=>by cases h⟩
 | _,_,_,.cons h t,r=>by
  cases r with
  | cons r rr =>
   obtain⟨L,e1,e2,e3,e4⟩:=triples t rr
   refine⟨(_,_,_)::L,by rw[ba,e1],by rw[ba,e2],by rw[ba,e3],λx hx=>?_⟩
   rcases List.mem_cons.mp hx with rfl|hx
   ·exact⟨h,r⟩
   ·exact e4 x hx
theorem uh{K:Fg}{F:Hp}:∀{L:List (V×D×Value)},(∀t∈L,Rep K F t.1 t.2.1/\RelV t.1 t.2.2)->RepL K F (L.map (·.1)) (L.map (·.2.1))/\Vals (L.map (·.1)) (L.map (·.2.2))
 | [],_=>⟨.nil,.nil⟩
 | x::L,h=>by
  obtain⟨h1,h2⟩:=h x au
  obtain⟨h3,h4⟩:=uh (L:=L) λt ht=>h t (zzg _ ht)
  exact⟨.cons h1 h3,.cons h2 h4⟩
theorem BP{ds:List D}(h:gO ds=true):PyData.canLayAll0 ds=true:=by
 have all:∀l:List D,(∀d∈l,d.canLay0=true)->PyData.canLayAll0 l=true:=by
  intro l
  induction l with
  | nil=>intro _;simp[PyData.canLayAll0]
  | cons a l ih =>
   intro h
   simp only[PyData.canLayAll0,am]
   exact⟨h a au,ih λd hd=>h d (zzg _ hd)⟩
 refine all ds λd hd=>?_
 unfold gO at h
 rw[am]at h
 replace h:=h.2
 rw[gt,ke,ke]at h
 rcases h with h|h
 ·obtain⟨n,rfl⟩:=jr (h d hd)
  simp[PyData.canLay0]
 ·obtain⟨n,r,rfl⟩:=js (h d hd)
  simp only[PyData.canLay0]
  refine all _ λd hd=>?_
  obtain⟨m,_,rfl⟩:=List.mem_map.mp hd
  simp[PyData.canLay0]
theorem mq{h:Heap}:∀{vs:List Value} {ns:List Int} {as:List Addr},ReadsAll h vs (ns.map PyData.int) as->IntsAre vs ns
 | _,[],_,r=>by rw[wE]at r;cases r;exact .nil
 | _,n::ns,_,r=>by
  rw[ba]at r
  cases r with
  | cons a b =>
   cases a with
   | int i t=>exact .cons n t (mq b)
theorem all_ints:∀{ds:List D},ds.all tD=true->∃ns:List Int,ds=ns.map PyData.int
 | [],_=>⟨[],rfl⟩
 | d::ds,h=>by
  rw[DS,am]at h
  obtain⟨n,rfl⟩:=jr h.1
  obtain⟨ns,rfl⟩:=all_ints h.2
  exact⟨n::ns,rfl⟩
theorem zC{X:Cx}{pins:zzk}{Z σ':L2.St}{H F:Hp}{s:Shared}{G:Gh}{ρ:En}{vs:List V}{ds:List D}{its:List Value}{Q:VK}(I:Inv X pins Z H s)(S:StOk X.K G F σ' H ρ)(rl:RepL X.K F vs ds)(rv:Vals vs its)(hz:vs.length<=sizeLine)(hok:gO ds=true)
  (k:∀l vs,H l=none->RepL X.K F vs (gB ds)->Q (.ref l) (upd H l (.lst vs))):its.length<64/\∃(κ:SortKind) (rk:Value->Int),
   (2<=its.length->∀(E':zzj) (Q:SortKind->Shared->Prop),Q κ (mid (e8 s its) s.heap.objs.size its)->wpAny (model X.prog X.w) X.A.in1.in1 (keyKind' its.toArray) Q E' (mid (e8 s its) s.heap.objs.size its)) /\
   (2<=its.length->nq X.prog X.w X.A.in1.in1 (mid (e8 s its) s.heap.objs.size its) κ rk (pairsOf its)) /\
   ∀out:Array Value,out.toList.Perm its->out.toList.Pairwise (λx y=>rk x<=rk y)->EP X pins Z Q (.ref s.heap.objs.size) { s with heap:=sortedHeap (e8 s its).heap s.heap.objs.size its out }:=by
 have lay:=BP hok
 have I1:Inv X pins Z H (mid (e8 s its) s.heap.objs.size its):=I.kept (t':=s.toks) λb o e=>DV e
 obtain⟨as,ra⟩:=(bR I1).2 (rl.mono S.fh) lay rv
 generalize hs1:mid (e8 s its) s.heap.objs.size its=s1 at I1 ra
 have emap:its.map (SeqAt.readOf s1.heap)=ds:=SeqAt.readsAll_map ds _ _ lay ra
 let kf:Value->List Int:=λv=>keyD (SeqAt.readOf s1.heap v)
 have hmem:∀x,x∈(pairsOf its).toList->x.1∈its:=λx hx=>by
  rw[pairsOf_toList]at hx
  exact(mem_zip_self hx).2
 have hzl:its.length<=sizeLine:=by rw[<-rv.length];exact hz
 have fin:∀out:Array Value,out.toList.Perm its->out.toList.Pairwise (λx y=>rankOf its kf x<=rankOf its kf y)->EP X pins Z Q (.ref s.heap.objs.size) { s with heap:=sortedHeap (e8 s its).heap s.heap.objs.size its out }:=λout o1 o2=>by
  obtain⟨L,e1,e2,e3,e4⟩:=triples rl rv
  rw[<-e3]at o1
  obtain⟨L',p1,p2⟩:=Bv o1
  have e4':∀t∈L',Rep X.K F t.1 t.2.1/\RelV t.1 t.2.2:=λt ht=>e4 t (p1.mem_iff.mp ht)
  have rd:∀t∈L',SeqAt.readOf s1.heap t.2.2=t.2.1:=λt ht=>by
   obtain⟨a1,a2⟩:=e4' t ht
   have:t.2.1∈ds:=by rw[<-e2];exact List.mem_map.mpr ⟨t,p1.mem_iff.mp ht,rfl⟩
   have al:∀l:List D,PyData.canLayAll0 l=true->∀d∈l,d.canLay0=true:=by
    intro l
    induction l with
    | nil=>intro _ d hd;cases hd
    | cons a l ih =>
     intro h d hd
     simp only[PyData.canLayAll0,am]at h
     rcases List.mem_cons.mp hd with rfl|hd
     ·exact h.1
     ·exact ih h.2 d hd
   have hcl:=al ds lay _ this
   obtain⟨bs,rb⟩:=(bR I1).1 (a1.mono S.fh) hcl a2
   exact SeqAt.readOf_eq hcl rb
  obtain⟨u1,u2⟩:=uh e4'
  have es:L'.map (·.2.1)=gB ds:=by
   refine AU hok (by rw[<-e2];exact p1.map _) ?_
   rw[<-p2,xt]at o2
   rw[xt]
   refine List.Pairwise.imp_of_mem (λ{x y} hx hy h=>?_) o2
   have mx:x.2.2∈its:=by rw[<-e3];exact List.mem_map.mpr ⟨x,p1.mem_iff.mp hx,rfl⟩
   have my:y.2.2∈its:=by rw[<-e3];exact List.mem_map.mpr ⟨y,p1.mem_iff.mp hy,rfl⟩
   have q:=sD (k:=kf) my mx
   rw[bi (by omega)]at q
   show(!HT.lexLt (keyD y.2.1) (keyD x.2.1))=true
   rw[<-rd x hx,<-rd y hy]
   show(!HT.lexLt (kf y.2.2) (kf x.2.2))=true
   rw[<-q];rfl
  rw[es]at u1
  rw[p2]at u2
  obtain⟨ep,he⟩:=wu (out:=out) (show(e8 s its).heap.get? s.heap.objs.size=some (seqObj "list" its.toArray 0)from zze _ rfl)
  refine⟨.ref s.heap.objs.size,upd H s.heap.objs.size (.lst (L'.map (·.1))),I.laid (t':=s.toks) (λb o q=>sq (bu (be q)) (zzc _ q)) (ay _) ⟨?_,out.toList,ep,u2,?_⟩,rfl,k _ _ (I.hok.fresh (ay _)) u1⟩
  ·rw[u2.length,<-p2,zzd,p1.length_eq,<-zzd (f:=λt:V×D×Value=>t.2.2),e3];exact hzl
  ·exact he
 have h64:its.length<64:=by
  have h:=hok
  unfold gO at h
  rw[am,zzi]at h
  rw[<-rv.length,rl.length];exact h.1
 have hok':=hok
 unfold gO at hok'
 rw[am]at hok'
 replace hok':=hok'.2
 rw[gt]at hok'
 rcases hok' with hI|hT
 ·obtain⟨ns,rfl⟩:=all_ints hI
  have ia:IntsAre its ns:=mq ra
  have kfi:∀{m:Int} {t:Tok},kf (.int m t)=[m]:=λ{m t}=>by
   show keyD (SeqAt.readOf s1.heap (.int m t))=[m]
   rw[SeqAt.readOf_eq (d:=.int m) (by simp[PyData.canLay0]) (.int m t)]
   rfl
  refine⟨h64,oneType',rankOf its kf,λh2 E' Q' q=>?_,λh2 x y hx hy E' Q' q=>?_,fin⟩
  ·match its,ia,h2,q with
   | v1::v2::rest,ia,_,q =>
    rw[keyKind_ints ia]
    exact zzb q
  ·have hx':=hmem x hx
   have hy':=hmem y hy
   rw[sD hx' hy']at q
   obtain⟨m1,t1,e1⟩:=ia.all _ hx'
   obtain⟨m2,t2,e2⟩:=ia.all _ hy'
   rw[e1,e2]at q ⊢
   rw[kfi,kfi]at q
   rw[keyLt'_oneType]
   refine oneLt_int ?_
   have:HT.lexLt [m1] [m2]=decide (m1<m2):=by
    rw[HT.lexLt_cons]
    split
    ·rename_i e;rw[e];simp[HT.lexLt_nil_nil]
    ·rfl
   rw[this]at q
   exact q
 ·rw[ke]at hT
  have each:∀v∈its,∃(a:Addr) (o:Obj) (xs:List Value) (n:Nat) (m:Int) (ms:List Int),v=.ref a/\s1.heap.get? a=some o/\o.cls=.type "tuple" /\ o.data=.seq xs.toArray n/\IntsAre xs (m::ms)/\kf v=m::ms:=λv hv=>by
   obtain⟨dv,bs,rd,hl,_⟩:=SeqAt.readsAll_mem ds its _ lay ra v hv
   have er:=SeqAt.readOf_eq hl rd
   have hin:dv∈ds:=by rw[<-emap,<-er];exact List.mem_map.mpr ⟨v,hv,rfl⟩
   obtain⟨m,ms,rfl⟩:=js (hT dv hin)
   cases rd with
   | tuple g1 g2 g3 g4 =>
    rename_i a o vs' n
    refine⟨a,o,vs'.toList,n,m,ms,rfl,g1,g2,by rw[g3],mq g4,?_⟩
    show keyD (SeqAt.readOf s1.heap (.ref a))=_
    rw[er]
    show(intsOf ((m::ms).map PyData.int)).getD []=_
    rw[pf];rfl
  refine⟨h64,tuples' true,rankOf its kf,λh2 E' Q' q=>?_,λh2 x y hx hy E' Q' q=>?_,fin⟩
  ·have fs:∀l:List Value,(∀v∈l,v∈its)->∃fs:List Value,PySem.W.KatTups s1.heap l fs/\fs.length=l.length/\∀v∈fs,∃i t,v=.int i t:=by
    intro l
    induction l with
    | nil=>intro _;exact⟨[],trivial,rfl,λ_ h=>by cases h⟩
    | cons v l ih =>
     intro hl
     obtain⟨fs,f1,f2,f3⟩:=ih λv hv=>hl v (zzg _ hv)
     obtain⟨a,o,xs,n,m,ms,rfl,g1,g2,g3,g4,_⟩:=each v (hl v au)
     cases g4 with
     | cons _ t g5 =>
      refine⟨.int m t::fs,PySem.W.KatTups.cons g1 g2 g3 (by simp) f1,by simp[f2],λv hv=>?_⟩
      rcases List.mem_cons.mp hv with rfl|hv
      ·exact⟨_,_,rfl⟩
      ·exact f3 v hv
   obtain⟨fs,f1,f2,f3⟩:=fs its λ_ h=>h
   refine PySem.W.kat_kind f1 (by omega) (T:=.type "int") (λv hv=>?_) rfl q
   obtain⟨i,t,rfl⟩:=f3 v hv
   exact PySem.W.Looks.now
  ·have hx':=hmem x hx
   have hy':=hmem y hy
   rw[sD hx' hy']at q
   obtain⟨a1,o1,xs1,n1,m1,ms1,e1,g1,g2,g3,g4,g5⟩:=each _ hx'
   obtain⟨a2,o2,xs2,n2,m2,ms2,e2,k1,k2,k3,k4,k5⟩:=each _ hy'
   rw[g5,k5]at q
   rw[e1,e2]
   refine PySem.W.kat_lt g1 g3 k1 k3 ?_
   have:=mR (prog:=X.prog) (w:=X.w) (A:=X.A.in1.in1) (b:=true) (Q:=Q') 0 g4 k4 rfl q
   simpa using this
end L4
namespace TS
end TS
namespace L4
open PySem PySem.Spec PyProof.Rows L2 L3 TS
theorem Cs{prog:Program}{w:World}{A:Around}{E:zzj}{s:Shared}{T:String}{r d:Addr}{n:Nat}{P:Nat->Value->Prop}{OK:Heap->Prop}{Q:List Value->Shared->Prop}(K:PySem.W.KdlSrc prog w T r d n P OK)(hh:A.handled=none)(hok:OK s.heap)(hn:n<=sizeLine)
  (q:∀h' tk acc,(∀b o,s.heap.get? b=some o->h'.get? b=some o)->ItemsOf P acc n->Q acc.toList { s with heap:=h',toks:=tk }):wpAny (model prog w) A (collect (.ref r)) Q E s:=by
 have hlt:=K.there _ hok
 have e0:(s.heap.push (seqObj "list" #[] 0)).get? s.heap.objs.size=some (seqObj "list" #[] 0):=zze _ rfl
 have key:∀R:Result->Shared->Prop,(∀h' tk acc c,(∀b o,s.heap.get? b=some o->h'.get? b=some o)->h'.get? s.heap.objs.size=some { cls:=.type "list",dict:=none,data:=.seq acc c,slots:=#[] }->ItemsOf P acc n->R (.ok (.ret (.ref s.heap.objs.size))) { s with heap:=h',toks:=tk }) ->
   codeAny (model prog w) A (.builtin "proto.collect" ⟨[.ref r],[]⟩) R s:=λR hR=>by
  refine Er entry_proto_collect' ?_
  rw[yp PySem.F.plain_proto_collect _]
  show wpAny (model prog w) A.in1 (newList [] >>= λx=>again (.builtin "list.__iadd__" ⟨[x,.ref r],[]⟩)) _ _ s
  refine zza (wpAny_newList (zzb ⟨LQ _ (by decide +kernel),Er entry_list_iadd' ?_⟩))
  rw[yp PySem.F.plain_list_iadd _]
  show wpAny (model prog w) A.in1 (Builtin.List.listExtendWith (.ref s.heap.objs.size) (.ref r) (.ref s.heap.objs.size)) _ _ { s with heap:=s.heap.push (seqObj "list" #[] 0) }
  exact PySem.W.kdl_extend (s:={ s with heap:=s.heap.push (seqObj "list" #[] 0) }) K hh (K.keep _ _ hok λb _ o e=>zzc _ e) _ (HI hlt.1) (HI hlt.2) _ 0 e0 (λh' tk acc c kp e it=>hR h' tk acc c (λb o z=>kp b o (bu (be z)) (zzc _ z)) e it) hn
 unfold collect
 refine zza (wpAny_runValue (key _ λh' tk acc c kp e it=>?_))
 show wpAny (model prog w) A (load s.heap.objs.size >>= _) _ _ _
 exact zza (wpAny_load e (zzb (q h' tk acc kp it)))
end L4
namespace L4
open PySem PySem.Spec PyProof.Rows L2 L3
variable {K:Fg}{x f qual p0 nm p1 p2 y:Str}{C a:Addr}{X:Cx}{F H:Hp}{pos p:Pos}{Z:L2.St}{fd:FuncData}{G:Gh}{ρ:En}{i n j:Nat}{α S:Type}{st:Stmt}{v:V}{mg:zzl}{ms ps ns cs ws:List Str}{e:Expr}{h:Heap}{vs:List V}{c:OC}
theorem BM{us:List α}(h:us.length=n+1):∃a r,us=a::r/\r.length=n:=by
 cases us with
 | nil=>exact absurd h (Nat.succ_ne_zero n).symm
 | cons a r=>exact⟨a,r,rfl,Nat.succ.inj h⟩
theorem Ju{us:List α}(h:us.length=1):∃a0,us=[a0]:=by
 obtain⟨a0,r,rfl,h0⟩:=BM h
 obtain rfl:=List.eq_nil_of_length_eq_zero h0
 exact⟨a0,rfl⟩
theorem Jt{us:List α}(h:us.length=2):∃a0 a1,us=[a0,a1]:=by
 obtain⟨a0,r,rfl,h0⟩:=BM h
 obtain⟨a1,rfl⟩:=Ju h0
 exact⟨a0,a1,rfl⟩
theorem z7{us:List α}(h:us.length=3):∃a0 a1 a2,us=[a0,a1,a2]:=by
 obtain⟨a0,r,rfl,h0⟩:=BM h
 obtain⟨a1,a2,rfl⟩:=Jt h0
 exact⟨a0,a1,a2,rfl⟩
theorem Js{us:List α}(h:us.length=4):∃a0 a1 a2 a3,us=[a0,a1,a2,a3]:=by
 obtain⟨a0,r,rfl,h0⟩:=BM h
 obtain⟨a1,a2,a3,rfl⟩:=z7 h0
 exact⟨a0,a1,a2,a3,rfl⟩
theorem KP{us:List α}(h:us.length=5):∃a0 a1 a2 a3 a4,us=[a0,a1,a2,a3,a4]:=by
 obtain⟨a0,r,rfl,h0⟩:=BM h
 obtain⟨a1,a2,a3,a4,rfl⟩:=Js h0
 exact⟨a0,a1,a2,a3,a4,rfl⟩
theorem pW{f:Addr}(F:Fun K x qual st f fd)
  (h:∀(kV doc pm:Value) (an:Option Addr) (cdv ct:Value) (u0:Value),bindArgs (PySem.W.fnOf x qual (cW st) (bS st) (aB st) .none kV doc pm an cdv ct) ⟨[u0],[]⟩=pure (List.zip [p0] [u0])):Binds K fd [p0] [] :=
 F.binds λa b c d e g us hl=>by obtain⟨u0,rfl⟩:=Ju hl;exact h a b c d e g u0
theorem qA{f:Addr}(F:Fun K x qual st f fd)
  (h:∀(kV doc pm:Value) (an:Option Addr) (cdv ct:Value) (u0 u1:Value),bindArgs (PySem.W.fnOf x qual (cW st) (bS st) (aB st) .none kV doc pm an cdv ct) ⟨[u0,u1],[]⟩=pure (List.zip [p0,p1] [u0,u1])):Binds K fd [p0,p1] [] :=
 F.binds λa b c d e g us hl=>by obtain⟨u0,u1,rfl⟩:=Jt hl;exact h a b c d e g u0 u1
theorem vF{f:Addr}(F:Fun K x qual st f fd)
  (h:∀(kV doc pm:Value) (an:Option Addr) (cdv ct:Value) (u0 u1 u2:Value),bindArgs (PySem.W.fnOf x qual (cW st) (bS st) (aB st) .none kV doc pm an cdv ct) ⟨[u0,u1,u2],[]⟩=pure (List.zip [p0,p1,p2] [u0,u1,u2])):Binds K fd [p0,p1,p2] [] :=
 F.binds λa b c d e g us hl=>by obtain⟨u0,u1,u2,rfl⟩:=z7 hl;exact h a b c d e g u0 u1 u2
theorem Cz{f:Addr}{p3:Str}(F:Fun K x qual st f fd)
  (h:∀(kV doc pm:Value) (an:Option Addr) (cdv ct:Value) (u0 u1 u2 u3:Value),bindArgs (PySem.W.fnOf x qual (cW st) (bS st) (aB st) .none kV doc pm an cdv ct) ⟨[u0,u1,u2,u3],[]⟩=pure (List.zip [p0,p1,p2,p3] [u0,u1,u2,u3])):Binds K fd [p0,p1,p2,p3] [] :=
 F.binds λa b c d e g us hl=>by obtain⟨u0,u1,u2,u3,rfl⟩:=Js hl;exact h a b c d e g u0 u1 u2 u3
theorem JO{f:Addr}{p3 p4:Str}(F:Fun K x qual st f fd)
  (h:∀(kV doc pm:Value) (an:Option Addr) (cdv ct:Value) (u0 u1 u2 u3 u4:Value),bindArgs (PySem.W.fnOf x qual (cW st) (bS st) (aB st) .none kV doc pm an cdv ct) ⟨[u0,u1,u2,u3,u4],[]⟩=pure (List.zip [p0,p1,p2,p3,p4] [u0,u1,u2,u3,u4])):Binds K fd [p0,p1,p2,p3,p4] [] :=
 F.binds λa b c d e g us hl=>by obtain⟨u0,u1,u2,u3,u4,rfl⟩:=KP hl;exact h a b c d e g u0 u1 u2 u3 u4
def pj(tb:List (Str×Bool)):D->Option Bool
 | .dict ((.none,.str c)::_)=>tb.lookup c
 | _=>none
def Fh(tb:List (Str×Bool))(p:Pu D):Pu Bool:=λρ=>bd (p ρ) λd=>oM (pj tb d)
def Inst1(K:Fg)(cv:Value):List (Str×Bool)->Prop
 | []=>True
 | (c,b)::r=>(∃C,PySem.W.nsIn K mainGlobals c=some (some (.ref C))/\PySem.W.kitOne K (.ref C) cv=some b)/\Inst1 K cv r
theorem Inst1.at{K:Fg}{cv:Value}:∀{tb:List (Str×Bool)} {c:Str} {b:Bool} {C:Addr},Inst1 K cv tb->tb.lookup c=some b->PySem.W.nsIn K mainGlobals c=some (some (.ref C))->PySem.W.kitOne K (.ref C) cv=some b
 | (d,b')::r,c,b,C,h,l,n=>by
  rw[lm]at l
  cases q:c==d with
  | true =>
   rw[q]at l
   cases l
   have:c=d:=by simpa using q
   subst this
   obtain⟨⟨C',n',k⟩,_⟩:=h
   rw[n]at n'
   cases n'
   exact k
  | false=>rw[q]at l;exact Inst1.at h.2 l n
theorem B9{c:Str}{es:List (D×D)}(r:Rep K F v (.dict ((.none,.str c)::es))):∃a C dd fv,v=.ref a/\F a=some (.ext (XO a C dd))/\XQ K C c/\FX F dd fv/\es.map (·.1)=fv.map (λp=>.str p.1)/\RepL K F (fv.map (·.2)) (es.map (·.2)):=by
 cases r with
 | dct _ h _=>exact absurd (tx h) (by simp[o7])
 | dck _ h _=>exact absurd (tB h) (by simp[o7])
 | exc h1 q fx h2 h3=>exact⟨_,_,_,_,rfl,h1,q,fx,h2,h3⟩
theorem FX.xat{dd:Option Addr}{fv:List (Str×V)}(s:Same F H)(h1:F a=some (.ext (XO a C dd)))(fx:FX F dd fv):XAt H a C dd:=⟨s _ _ h1,λdx z=>by
 rcases fx with ⟨z',_⟩|⟨dx',z',y⟩
 ·rw[z']at z;cases z
 ·rw[z']at z;cases z;exact⟨_,s _ _ y⟩⟩
def Gg(K:Fg)(tb:List (Str×Bool))(vc:V):List V->Hp->VK->Prop:=λxs H Q=>∃v d b,xs=[v,vc]/\Rep K H v d/\pj tb d=some b/\Q (.bl b) H
theorem Ae{tb:List (Str×Bool)}{d:D}{b:Bool}(h:pj tb d=some b):∃c es,d=.dict ((.none,.str c)::es)/\tb.lookup c=some b:=by
 unfold pj at h
 split at h
 ·exact⟨_,_,rfl,h⟩
 ·cases h
theorem xG{tb:List (Str×Bool)}{vc:V}{cv:Value}(hv:RelV vc cv)(hu:∀u,RelV vc u->u=cv)(ht:Inst1 X.K cv tb):CallR X (.builtin "isinstance") (Gg X.K tb vc):=by
 intro pins s Z H xs us Q I r h
 obtain⟨v,d,b,rfl,rp,hb,q⟩:=h
 obtain⟨u,w,rfl,ru,rw'⟩:=vals2 r
 have:=hu w rw'
 subst this
 obtain⟨c,es,rfl,hl⟩:=Ae hb
 obtain⟨a,C,dd,fv,rfl,h1,xq,fx,_,_⟩:=B9 rp
 cases ru
 obtain⟨D,fI,xc⟩:=xq.xc
 exact oZ I xc xq.kc (fx.xat (Same.refl _) h1) (ht.at hl xq.ns) λtk=>⟨.bl _,H,I.tok tk,rfl,q⟩
section
variable {t:Expr} {ts:List Expr} {p:Pu D} {p1 p2:Pos} {tb:List (Str×Bool)} {x1:ExprContext}
theorem CZ{vc:V}{cv:Value}(hv:RelV vc cv)(hu:∀u,RelV vc u->u=cv)(htb:Inst1 X.K cv tb)(hg:Gl X "isinstance")(hm:X.mg "isinstance" = none)(ht:PE X t (tC vc))(ha:AP X e p)(hs:starEach [e,t] X.env=(false,eval e X.env)::starEach [t] X.env)(hs2:starEach [t] X.env=(false,eval t X.env)::starEach [] X.env)
  (hpl:(backTo pos (starEach [t] X.env)).any (·.1)=false):AB X (.Call (.Name "isinstance" p1) [e,t] [] pos) (Fh tb p) :=
 λG F Z H ρ Q S w=>sem (iL (xG hv hu htb) hg hm (by decide +kernel) (eH aI (eH ht lK hs2) hs) (by decide) (by decide) hs hpl) (ha G F Z H ρ _ S (w.bind.imp λd F1 H1 s1 S1 w1 v hv=>by
  obtain⟨b,hb,k⟩:=w1.opt
  exact⟨v,d,b,rfl,hv.mono S1.fh,hb,k F1 H1 (Same.refl _) S1⟩))
end
def uW:List (D×D)->Str->Option D
 | (.str g,d)::r,f=>if f==g then some d else uW r f
 | _::r,f=>uW r f
 | [],_=>none
def zm(cs:List Str)(f:Str):D->Option D
 | .dict ((.none,.str c)::es)=>if cs.contains c then uW es f else none
 | _=>none
def KJ(cs:List Str)(f:Str)(p:Pu D):Pu D:=λρ=>bd (p ρ) λd=>oM (zm cs f d)
def NoAtts(K:Fg)(f:Str):List Str->Prop
 | []=>True
 | c::r=>(∃C,PySem.W.nsIn K mainGlobals c=some (some (.ref C))/\NoAttr K C f)/\NoAtts K f r
theorem NoAtts.at{K:Fg}{f:Str}:∀{cs:List Str} {c:Str} {C:Addr},NoAtts K f cs->cs.contains c=true->PySem.W.nsIn K mainGlobals c=some (some (.ref C))->NoAttr K C f
 | d::r,c,C,h,l,n=>by
  rw[List.contains_cons,gt]at l
  rcases l with q|q
  ·have:c=d:=by simpa using q
   subst this
   obtain⟨⟨C',n',k⟩,_⟩:=h
   rw[n]at n'
   cases n'
   exact k
  ·exact NoAtts.at h.2 q n
theorem rf{K:Fg}{F:Hp}{f:Str}:∀{fv:List (Str×V)} {es:List (D×D)} {d:D},es.map (·.1)=fv.map (λp=>.str p.1)->RepL K F (fv.map (·.2)) (es.map (·.2))->uW es f=some d->∃v,fv.lookup f=some v/\Rep K F v d
 | [],[],d,_,_,h=>by cases h
 | [],_::_,d,h,_,_=>by cases h
 | _::_,[],d,h,_,_=>by cases h
 | (g,v)::fv,(k,x)::es,d,h,r,l=>by
  simp only[ba,List.cons.injEq]at h
  obtain⟨rfl,h⟩:=h
  simp only[ba]at r
  cases r with
  | cons r1 r2 =>
   unfold uW at l
   rw[lm]
   cases q:f==g with
   | true=>rw[q]at l;cases l;exact⟨v,rfl,r1⟩
   | false=>rw[q]at l;exact rf h r2 l
theorem CL{o:Expr}{p:Pu D}(hna:NoAtts X.K f cs)(ha:AP X o p)(hb:attributeBase o f X.env (eval o X.env)=eval o X.env):AP X (.Attribute o f pos) (KJ cs f p) :=
 λG F Z H ρ Q S w=>sem (Gr aI hb) (ha G F Z H ρ _ S (w.bind.imp λd F1 H1 s1 S1 w1 v hv=>by
  obtain⟨b,hb,k⟩:=w1.opt
  unfold zm at hb
  split at hb
  case h_2=>cases hb
  rename_i c es
  split at hb
  case isFalse=>cases hb
  rename_i hc
  obtain⟨a,C,dd,fv,rfl,h1,xq,fx,h2,h3⟩:=B9 hv
  obtain⟨D,fI,xc⟩:=xq.xc
  obtain⟨u,lu,ru⟩:=rf h2 h3 hb
  rcases fx with ⟨_,rfl⟩|⟨dx,rfl,hd⟩
  ·cases lu
  ·exact⟨a,C,D,fI,dx,fv,u,rfl,xc,hna.at hc xq.ns,S1.fh _ _ h1,S1.fh _ _ hd,lu,k F1 H1 (Same.refl _) S1 u ru⟩))
abbrev _root_.L2.Cx.wishP(X:Cx)(E:zzj)(pn:zzk):Cx:={ X with xe:=E,pn:=pn }
section
variable {pins pins':zzk} {s:Shared} {E:zzj}
theorem _root_.L2.Inv.wishP(I:Inv X pins Z H s)(E:zzj):Inv (X.wishP E (X.pn++pins)) [] Z H s :=
 ⟨⟨I.ok.mod,I.ok.kind,I.ok.glob,I.ok.blt,I.ok.above,I.ok.inj,I.ok.has,I.ok.cab,I.ok.hd,I.ok.frames,I.ok.stk,I.ok.exf,I.ok.bs,I.ok.bsz,I.ok.noex,I.ok.exfs,I.ok.funs,I.ok.frf⟩,I.os,I.bare,I.base,I.loc,I.cell,I.free,I.freeC,λp hp=>I.pin p (by simpa using hp),I.hok,I.len⟩
theorem _root_.L2.Inv.unwishP(I:Inv (X.wishP E (X.pn++pins)) pins' Z H s):Inv X pins Z H s :=
 ⟨⟨I.ok.mod,I.ok.kind,I.ok.glob,I.ok.blt,I.ok.above,I.ok.inj,I.ok.has,I.ok.cab,I.ok.hd,I.ok.frames,I.ok.stk,I.ok.exf,I.ok.bs,I.ok.bsz,I.ok.noex,I.ok.exfs,I.ok.funs,I.ok.frf⟩,I.os,I.bare,I.base,I.loc,I.cell,I.free,I.freeC,λp hp=>I.pin p (Ly _ hp),I.hok,I.len⟩
theorem wb{Dd:Ends}{f:Flow}{s':Shared}(h:SP (X.wishP E (X.pn++pins)) [] Dd f s'):SP X pins Dd f s':=by
 cases f with
 | next=>obtain⟨σ',H',I,q⟩:=h;exact⟨σ',H',I.unwishP,q⟩
 | brk=>obtain⟨σ',H',I,q⟩:=h;exact⟨σ',H',I.unwishP,q⟩
 | cont=>obtain⟨σ',H',I,q⟩:=h;exact⟨σ',H',I.unwishP,q⟩
 | ret u=>obtain⟨v,σ',H',I,r,q⟩:=h;exact⟨v,σ',H',I.unwishP,r,q⟩
end
theorem _root_.L3.StOk.reB{B:Hp}(S:StOk K { G with B:=B } F Z H ρ)(h:Same G.B F):StOk K G F Z H ρ :=
 ⟨S.fh,S.oh,S.fo,S.ln,S.fz,λi c q=>by obtain⟨a,e,oa⟩:=S.ow i c q;exact⟨a,e,oa.nf,oa.no,oa.he⟩,S.dj,S.pp,S.pq,h⟩
theorem _root_.L3.StOk.toB(S:StOk K G F Z H ρ):StOk K { G with B:=F } F Z H ρ :=
 ⟨S.fh,S.oh,S.fo,S.ln,S.fz,λi c q=>by obtain⟨a,e,oa⟩:=S.ow i c q;exact⟨a,e,oa.nf,oa.no,oa.he⟩,S.dj,S.pp,S.pq,Same.refl _⟩
def GP(ρ:En):Bool:=ρ.all λx=>match x with
 | some (.op _)=>false
 | _=>true
def kI(sh:List Kd):Bool:=sh.all λk=>match k with
 | .f=>true
 | .dead=>true
 | _=>false
theorem oF:∀{sh:List Kd} {s:SOf sh} {i:Nat} {av:AV},kI sh=true->(wr sh s)[i]? = some (some av)->∃d,av=.fz d
 | [],s,i,av,_,q=>by simp[wr]at q
 | .f::r,s,0,av,h,q=>by simp[wr]at q;exact⟨_,q.symm⟩
 | .f::r,s,i+1,av,h,q=>oF (sh:=r) (s:=s.2) (i:=i) (by simpa[kI]using h) (by simpa[wr]using q)
 | .dead::r,s,0,av,h,q=>by simp[wr]at q
 | .dead::r,s,i+1,av,h,q=>oF (sh:=r) (s:=s) (i:=i) (by simpa[kI]using h) (by simpa[wr]using q)
 | .o::r,s,i,av,h,q=>by simp[kI]at h
 | .p::r,s,i,av,h,q=>by simp[kI]at h
 | .t::r,s,i,av,h,q=>by simp[kI]at h
 | .k::r,s,i,av,h,q=>by simp[kI]at h
def mM{S:Type}(cs:List Str)(c:Str)(m:M S):M S:=match cs.contains c with
 | true=>m
 | false=>.bad
def AJ{S A B:Type}(m:M (A ⊕ (Ex×B)))(k:A->M S)(h:Ex->B->M S):M S:=bd m λr=>match r with
 | .inl a=>k a
 | .inr p=>h p.1 p.2
def onX{S T:Type}(h:Ex->M T)(m:M S)(k:S->M T):M T:=m.on h k
def KB(sh shx:List Kd):KS (SOf sh ⊕ (Ex×SOf shx)):=⟨rdk sh λs=>.ret (.inl s),λ_ _=>.bad,λ_ _=>.bad,λ_=>.bad,λ_=>.bad,λex ρ=>rdk shx (λs=>.ret (.inr (ex,s))) ρ⟩
def KH{S:Type}(j:Nat)(K:KS S):KS S:=⟨λρ=>K.nx (ρ.set j none),λ_ _=>.bad,λ_ _=>.bad,λ_=>.bad,λ_=>.bad,λ_ _=>.bad⟩
def FY{S:Type}(j:Nat)(cs:List Str)(sh shx:List Kd)(mb:SM (SOf sh ⊕ (Ex×SOf shx)))(mh:SM S):SM S:=λK ρ=>match GP ρ with
 | true=>AJ (mb (KB sh shx) ρ) (λs=>K.nx (wr sh s)) λex s=>mM cs ex.cls (mh (KH j K) ((wr shx s).set j (some (.fz (m9 ex)))))
 | false=>.bad
def HandL(K:Fg)(hv:Value):List Str->Prop
 | []=>True
 | c::r=>(∃C,PySem.W.nsIn K mainGlobals c=some (some (.ref C))/\PySem.W.exmOne K (.ref C) hv=some true)/\HandL K hv r
theorem HandL.at{K:Fg}{hv:Value}:∀{cs:List Str} {c:Str} {C:Addr},HandL K hv cs->cs.contains c=true->PySem.W.nsIn K mainGlobals c=some (some (.ref C))->PySem.W.exmOne K (.ref C) hv=some true
 | d::r,c,C,h,l,n=>by
  rw[List.contains_cons,gt]at l
  rcases l with q|q
  ·have:c=d:=by simpa using q
   subst this
   obtain⟨⟨C',n',k⟩,_⟩:=h
   rw[n]at n'
   cases n'
   exact k
  ·exact HandL.at h.2 q n
section
variable {n:Str} {b0:Stmt} {body suite:List Stmt} {pC ph:Pos} {sh shx:List Kd} {hv:Value} {mb:SM (SOf sh ⊕ (Ex×SOf shx))} {mh:SM S}
theorem Hw(hmx:X.mg x=some hv)(hgx:Gl X x)(hcs:HandL X.K hv cs)(hb:∀E pn,ASs (X.wishP E pn) body mb)(hh:∀a,ASs (cau X a) (b0::suite) mh)(hF:kI shx=true)
  (hN:X.N.Nodup) (hj:X.N[j]? = some n) (hnl:X.env.scope.names.lookup n=some .local) (stk:X.stack=X.env::X.outer) (frm:X.env.frame=some X.env.locals) (hdx:(x==("__debug__" : Str))=false) :
  AS X (.Try body [.ExceptHandler (some (.Name x pC)) (some n) (b0::suite) ph] [] [] pos) (FY j cs sh shx mb mh):=by
 intro OK K G F Z H ρ E hO hX St ok eo
 unfold FY at ok
 cases hq:GP ρ with
 | false=>rw[hq]at ok;exact(hO ok).elim
 | true =>
 rw[hq]at ok
 dsimp only at ok
 have noP:∀i a,G.P i≠some a:=λi a z=>by
  obtain⟨_,c,q⟩:=St.pp i a z
  unfold GP at hq
  have:=List.all_eq_true.mp hq _ (ii q)
  cases this
 unfold ku
 intro pins s I
 rw[arm_exec_Try]
 refine zza (Db (wpAny_tryStmt_except ?_))
 generalize hXE:(λ(e:Value) (s1:Shared)=>wpAny (model X.prog X.w) X.A (noteFrame e X.env) (λ_ s2=>wpAny (model X.prog X.w) X.A (setFlight e none) (λ_ s3=>wpAny (model X.prog X.w) X.A (handleBy e X.env [.ExceptHandler (some (.Name x pC)) (some n) (b0::suite) ph]) (SP X pins E) X.xe s3) X.xe s2) X.xe s1)=XE
 let E1:Ends:={ nx:=E.nx,rt:=λ_ _=>False,bk:=λ_ _=>False,ct:=λ_ _=>False }
 let OK1:M (SOf sh ⊕ (Ex×SOf shx))->Prop:=λm=>OK (AJ m (λs=>K.nx (wr sh s)) λex s=>mM cs ex.cls (mh (KH j K) ((wr shx s).set j (some (.fz (m9 ex))))))
 have hO1:KOk OK1:=λz=>hO z
 have bsem:mI (X.wishP XE (X.pn++pins)) body E1 Z H:=by
  refine hb XE (X.pn++pins) OK1 (KB sh shx) { G with B:=F } F Z H ρ E1 hO1 ?_ St.toB ok ⟨?_,λF' σ' H' ρ' d v s S' r o=>(hO1 o).elim,λF' σ' H' ρ' d v s S' r o=>(hO1 o).elim,λF' σ' H' ρ' s S' o=>(hO1 o).elim,λF' σ' H' ρ' s S' o=>(hO1 o).elim⟩
  ·
   intro F1 ρ1 ex o1
   intro F' H' s' a C dd pins' σ' g fz I' xs hp xr
   have o2:OK1 (rdk shx (λs=>.ret (.inr (ex,s))) ρ1):=o1
   unfold rdk at o2
   cases hr:rd shx ρ1 with
   | none=>rw[hr]at o2;exact(hO1 o2).elim
   | some sx =>
   rw[hr]at o2
   have o3:OK (mM cs ex.cls (mh (KH j K) ((wr shx sx).set j (some (.fz (m9 ex)))))):=o2
   unfold mM at o3
   cases hc:cs.contains ex.cls with
   | false=>rw[hc]at o3;exact(hO o3).elim
   | true =>
   rw[hc]at o3
   dsimp only at o3
   have I2:Inv X pins σ' H' s':=I'.unwishP
   have hlo:X.s₀.heap.objs.size<=X.s₀.heap.objs.size:=ay _
   have hp2:∀p∈X.pn++pins,¬ jA s'.heap a p.1:=λp q=>hp p (Ly _ q)
   show XE (.ref a) s'
   subst hXE
   refine uS (lo:=X.s₀.heap.objs.size) (base:=X.base) (env:=X.env) (outer:=X.outer) (L:=X.env.locals) (P:=X.prog) (w:=X.w) (I2.ok.frames.trans (congrArg some stk)) (stk▸I2.stack) frm I2.hok xs λh3 m3 xs3 tn=>?_
   have I3:Inv X pins σ' H' { s' with heap:=h3 }:=Inv.mv I2 (by rw[stk];exact m3) xs xs3 hlo hp2 s'.toks
   have hp3:∀p∈X.pn++pins,¬ jA h3 a p.1:=λp q z=>absurd (bo (be (I2.pin p q).1) (tn _ z)) (ny _)
   refine Ag (K:=X.K) (C:=C) (lc (X:=cau X a) (rN I3) hgx hmx ⟨I3.kIn,hcs.at hc xr.1.ns,?_,?_⟩ hdx)
   ·obtain⟨oe,_,q1,q2,_⟩:=xs3.obj
    exact⟨oe,q1,q2⟩
   refine flight_again (s:={ s' with heap:=h3 }) (frs X.stack) xs3 λh4 m4 xs4=>?_
   have I4:Inv X pins σ' H' { s' with heap:=h4 }:=Inv.mv (s:={ s' with heap:=h3 }) I3 m4 xs3 xs4 hlo hp3 s'.toks
   refine ix I4 hN hj (.inl hnl) (v:=.ref a) rfl (λs5 I5=>?_) (.inr hnl)
   have oa:G.O a=none:=by
    cases q:G.O a with
    | none=>rfl
    | some o =>
     have h1:=g.oh a o q
     rw[xs.trk]at h1
     cases h1
     exact((g.fo a _ q).2:False).elim
   obtain⟨F2,sm2,fh2,fo2,ra⟩:∃F2,Same F' F2/\Same F2 H'/\(∀b o,G.O b=some o->F2 b=none/\Av o)/\Rep X.K F2 (.ref a) (m9 ex):=by
    cases q:F' a with
    | some o =>
     have h1:=g.fh a o q
     rw[xs.trk]at h1
     cases h1
     exact⟨F',Same.refl _,g.fh,g.fo,xr.rep q⟩
    | none =>
     have sm:=eM (F:=F') (o:=.ext (XO a C dd)) q
     refine⟨upd F' a (.ext (XO a C dd)),sm,λb u z=>?_,λb u z=>?_,(xr.mono sm).rep aR⟩
     ·by_cases y:b=a
      ·subst y;rw[aR]at z;cases z;exact xs.trk
      ·rw[aL y]at z;exact g.fh b u z
     ·rw[aL (bA z oa)];exact g.fo b u z
   have FB:Same F F':=g.fb
   have hjl:j<σ'.length:=by rw[I2.len];exact(List.getElem?_eq_some_iff.mp hj).1
   obtain⟨wl,w1,w2⟩:=iK shx ρ1 sx hr
   have hjr:j<(wr shx sx).length:=by rw[wl,<-fz.ln];exact hjl
   have only:∀i av,((wr shx sx).set j (some (.fz (m9 ex))))[i]? = some (some av)->∃d,av=AV.fz d:=λi av q=>by
    by_cases y:i=j
    ·rw[y,il hjr]at q;injection q with q;injection q with q;exact⟨_,q.symm⟩
    ·rw[ge (Ne.symm y)]at q;exact oF hF q
   have noown:∀i c,¬ own ((wr shx sx).set j (some (.fz (m9 ex)))) i c:=λi c q=>by
    rcases q with q|q<;>(obtain⟨d,z⟩:=only i _ q;cases z)
   have S3:StOk X.K G F2 (σ'.set j (some (V.ref a))) H' ((wr shx sx).set j (some (.fz (m9 ex)))):=by
    refine⟨fh2,g.oh,fo2,by simp[wl,fz.ln],λi d q=>?_,λi c q=>(noown i c q).elim,λi k c e b q=>(noown i c q).elim,λi b z=>(noP i b z).elim,λi c q=>?_,(St.fb.trans FB).trans sm2⟩
    ·by_cases y:i=j
     ·rw[y,il hjr]at q
      injection q with q;injection q with q;injection q with q
      rw[<-q,y]
      exact⟨_,il hjl,ra⟩
     ·rw[ge (Ne.symm y)]at q
      obtain⟨v,e1,r1⟩:=fz.fz i d (w1 i _ q)
      exact⟨v,by rw[ge (Ne.symm y)];exact e1,r1.mono sm2⟩
    ·obtain⟨d,z⟩:=only i _ q;cases z
   have suite':=hh a OK (KH j K) G F2 _ H' _ { nx:=λσ6 H6=>∃F6 ρ6,Same F2 F6/\StOk X.K G F6 σ6 H6 ρ6/\OK (K.nx (ρ6.set j none)),rt:=λ_ _=>False,bk:=λ_ _=>False,ct:=λ_ _=>False } hO (λ_ _ _ z=>(hO z).elim) S3 o3
    ⟨λF6 σ6 H6 ρ6 s6 S6 o6=>⟨F6,ρ6,s6,S6,o6⟩,λF' σ' H' ρ' d v s S' r o=>(hO o).elim,λF' σ' H' ρ' d v s S' r o=>(hO o).elim,λF' σ' H' ρ' s S' o=>(hO o).elim,λF' σ' H' ρ' s S' o=>(hO o).elim⟩
   unfold mI at suite'
   refine je (suite' pins s5 (rN I5)) (λf s6 z=>?_) λ_ _ z=>z
   cases f with
   | next =>
    obtain⟨σ6,H6,I6,F6,ρ6,s6,S6,o6⟩:=z
    refine Ed (xE I2.ok.hd I6) hN hj hnl λs7 I7=>⟨σ6.set j none,H6,I7,?_⟩
    have S7:StOk X.K G F6 σ6 H6 (ρ6.set j none):=by
     refine S6.weak (by simp) (λi av q=>?_) (λi c q=>?_)
     ·by_cases y:i=j
      ·rw[y,List.getElem?_set]at q
       simp at q
      ·rw[ge (Ne.symm y)]at q;exact q
     ·obtain⟨b,z⟩:=S6.pq i c q
      exact(noP i b z).elim
    refine eo.nx F6 _ H6 (ρ6.set j none) ((FB.trans sm2).trans s6) (S7.setdead (λav q=>?_) none) o6
    rw[List.getElem?_set]at q
    simp at q
   | brk=>obtain⟨_,_,_,z⟩:=z;exact z.elim
   | cont=>obtain⟨_,_,_,z⟩:=z;exact z.elim
   | ret u=>obtain⟨_,_,_,_,_,z⟩:=z;exact z.elim
  ·intro F' σ' H' ρ' s1 S' o
   have o2:OK1 (rdk sh (λs=>.ret (.inl s)) ρ'):=o
   unfold rdk at o2
   cases hr:rd sh ρ' with
   | none=>rw[hr]at o2;exact(hO1 o2).elim
   | some sx =>
   rw[hr]at o2
   have S2:StOk X.K G F' σ' H' ρ':=S'.reB (St.fb.trans s1)
   exact eo.nx F' σ' H' (wr sh sx) s1 (S2.rd hr) o2
 unfold mI at bsem
 refine je (bsem [] s (I.wishP XE)) (λf s1 z=>?_) λe s1 z=>by subst hXE;exact z
 have z2:=wb z
 cases f with
 | next=>exact Me z2
 | brk=>obtain⟨_,_,_,z⟩:=z2;exact z.elim
 | cont=>obtain⟨_,_,_,z⟩:=z2;exact z.elim
 | ret u=>obtain⟨_,_,_,_,_,z⟩:=z2;exact z.elim
end
theorem A7:∀u,RelV (.ref a) u->u=.ref a:=λu h=>h
section
variable {ts:List Expr} {p:Pu D} {p1 p2:Pos} {tb:List (Str×Bool)}
theorem CY{c:Str}(h:∃C,X.mg c=some (.ref C)/\Inst1 X.K (.ref C) tb)(hgc:Gl X c)(hm:X.mg "isinstance" = none)(hg:Gl X "isinstance")(ha:AP X e p)(hs:starEach [e,.Name c p2] X.env=(false,eval e X.env)::starEach [.Name c p2] X.env)(hs2:starEach [.Name c p2] X.env=(false,eval (.Name c p2) X.env)::starEach [] X.env)
  (hpl:(backTo pos (starEach [.Name c p2] X.env)).any (·.1)=false) (hd:(c==("__debug__" : Str))=false):AB X (.Call (.Name "isinstance" p1) [e,.Name c p2] [] pos) (Fh tb p):=by
 obtain⟨C,h1,h2⟩:=h
 exact CZ (vc:=.ref C) rfl A7 h2 hg hm (sH hgc h1 rfl hd) ha hs hs2 hpl
end
section
variable {n:Str} {b0:Stmt} {body suite:List Stmt} {pC ph:Pos} {sh shx:List Kd} {mb:SM (SOf sh ⊕ (Ex×SOf shx))} {mh:SM S}
theorem EE(h:∃hv,X.mg x=some hv/\HandL X.K hv cs)(hgx:Gl X x)(hb:∀E pn,ASs (X.wishP E pn) body mb)(hh:∀a,ASs (cau X a) (b0::suite) mh)(hF:kI shx=true)
  (hN:X.N.Nodup) (hj:X.N[j]? = some n) (hnl:X.env.scope.names.lookup n=some .local) (stk:X.stack=X.env::X.outer) (frm:X.env.frame=some X.env.locals) (hdx:(x==("__debug__" : Str))=false) :
  AS X (.Try body [.ExceptHandler (some (.Name x pC)) (some n) (b0::suite) ph] [] [] pos) (FY j cs sh shx mb mh):=by
 obtain⟨hv,h1,h2⟩:=h
 exact Hw h1 hgx h2 hb hh hF hN hj hnl stk frm hdx
end
theorem HN(h:(["bool", "int", "str", "list", "tuple", "dict"].all λT=>PySem.W.kitOne K (.ref C) (.type T)==some false)=true):∀T,qi T=true->PySem.W.kitOne K (.ref C) (.type T)=some false:=λT hT=>by
 have h':∀T∈["bool", "int", "str", "list", "tuple", "dict"],PySem.W.kitOne K (.ref C) (.type T)=some false:=λT q=>by
  have:=List.all_eq_true.mp h T q
  simpa using this
 apply h'
 simp only[qi,gt,um]at hT
 rcases hT with ((((rfl|rfl)|rfl)|rfl)|rfl)|rfl<;>simp
def fnD(f:Str):D:=.dict [(.bool true,.str f)]
def fnQ(d:D)(f:Str):Bool:=match d with
 | .dict [(.bool true,.str g)]=>g==f
 | _=>false
theorem Hh{d:D}(h:fnQ d f=true):d=fnD f:=by
 unfold fnQ at h
 split at h
 ·rename_i g;have:g=f:=by simpa using h
  subst this;rfl
 ·cases h
theorem JG(r:Rep K F v (fnD f)):∃a,v=.ref a/\PySem.W.nsIn K mainGlobals f=some (some (.ref a)):=by
 unfold fnD at r
 cases r with
 | dct _ h _=>exact absurd (tx h) (by simp[o7])
 | dck _ h _=>exact absurd (tB h) (by simp[o7])
 | fn h=>exact⟨_,rfl,h⟩
theorem CJ(h:∃a,X.mg f=some (.ref a)/\PySem.W.nsIn X.K mainGlobals f=some (some (.ref a)))(hg:Gl X f)(hd:(f==("__debug__" : Str))=false):AP X (.Name f p) (uI (fnD f)):=by
 obtain⟨a,h1,h2⟩:=h
 exact λG F Z H ρ Q S w=>sem (sH (v:=.ref a) hg h1 rfl hd) (w F H (Same.refl _) S _ (.fn h2))
theorem _root_.L3.StOk.relay(S:StOk K G F Z H ρ){p:Addr}{o:HO}(fp:F p=none)(op:G.O p=none)(ne:∀(i:Nat) (e:OC),own ρ i e->Z[i]? ≠ some (some (V.ref p))):StOk K G F Z (upd H p o) ρ:=by
 refine⟨fF S.fh fp,fF S.oh op,S.fo,S.ln,S.fz,λi c h=>?_,S.dj,S.pp,S.pq,S.fb⟩
 obtain⟨a,e,oa⟩:=S.ow i c h
 exact⟨a,e,oa.nf,oa.no,oa.he.at (aL λz=>ne i c h (by rw[e,z]))⟩
section
variable {l:List α}
theorem ln0(h:l.length=0):l=[]:=List.eq_nil_of_length_eq_zero h
theorem lnS(h:l.length=n+1):∃a t,l=a::t/\t.length=n :=
 List.recOn (motive:=λl=>l.length=n+1->∃a t,l=a::t/\t.length=n) l (λh=>(Nat.succ_ne_zero n h.symm).elim) (λa t _ h=>⟨a,t,rfl,Nat.succ.inj h⟩) h
theorem ln1(h:l.length=1):∃a,l=[a]:=by obtain⟨a,t,e,q⟩:=lnS h;exact⟨a,by rw[e,ln0 q]⟩
theorem ln2(h:l.length=2):∃a b,l=[a,b]:=by obtain⟨a,t,rfl,q⟩:=lnS h;obtain⟨b,rfl⟩:=ln1 q;exact⟨a,b,rfl⟩
theorem ln3(h:l.length=3):∃a b c,l=[a,b,c]:=by obtain⟨a,t,rfl,q⟩:=lnS h;obtain⟨b,c,rfl⟩:=ln2 q;exact⟨a,b,c,rfl⟩
theorem ln4(h:l.length=4):∃a b c d,l=[a,b,c,d]:=by obtain⟨a,t,rfl,q⟩:=lnS h;obtain⟨b,c,d,rfl⟩:=ln3 q;exact⟨a,b,c,d,rfl⟩
theorem ln5(h:l.length=5):∃a b c d e,l=[a,b,c,d,e]:=by obtain⟨a,t,rfl,q⟩:=lnS h;obtain⟨b,c,d,e,rfl⟩:=ln4 q;exact⟨a,b,c,d,e,rfl⟩
end
section
variable {f T:Addr} {oc:Value} {od an:Option Addr} {osl:Array (Option Value)} {kV doc pm cdv ct:Value}
def Fa(K:Fg)(x:Str)(st:Stmt):Prop:=∃f fd,PySem.W.nsIn K mainGlobals x=some (some (.ref f))/\Fun K x x st f fd
theorem cK(a:PySem.W.nsIn K mainGlobals x=some (some (.ref f)))(l:K.lookup f=some ⟨oc,od,.func (PySem.W.fnOf x x (cW st) (bS st) (aB st) .none kV doc pm an cdv ct),osl⟩)
  (c:PySem.W.codeIn K cdv x=true) (k:PySem.W.keepIn K (.ref f)=true):Fa K x st:=⟨f,_,a,tH l c k⟩
def Xa(K:Fg)(x qual:Str)(st:Stmt)(fl:List Str):Prop:=∃C D f fd,PySem.W.nsIn K mainGlobals x=some (some (.ref C))/\Fun K "__init__" qual st f fd/\XC K C D f/\XQ K C x/\PySem.W.keepIn K (.ref C)=true/\(∀f∈fl,NoAttr K C f)/\PySem.W.exmOne K (.ref C) (.ref C)=some true
theorem HP{D N:Addr}{qn:Str}{bs sb:List Value}{sn:List Str}{ab:Bool}{co:Option Bool}{dd:Option Addr}{k0 k1 k2 k3 k5:Option Value}{fl:List Str}
  (xa:PySem.W.nsIn K mainGlobals x=some (some (.ref C))) (xb:K.lookup C=some (excClassObj nm qn C N bs (.ref D::bmV) true sn sb ab co dd k0 k1 k2 k3 k5 "ValueError.__new__")) (xc:PySem.W.findIn K (.ref C) "__init__" = some (some (.ref f)))
  (xd:K.lookup f=some ⟨oc,od,.func (PySem.W.fnOf "__init__" qual (cW st) (bS st) (aB st) .none kV doc pm an cdv ct),osl⟩) (xe:PySem.W.codeIn K cdv qual=true) (xf:PySem.W.keepIn K (.ref f)=true) (xg:PySem.W.keepIn K (.ref C)=true)
  (xh:PySem.W.tailIn K bmV (.ref D::bmV)=true) (xi:PySem.W.typeIn K (.ref f)=some (.type "function")) (xj:PySem.W.findIn K (.ref C) "__setattr__" = some (some (.builtin "object.__setattr__"))) (xk:PySem.W.findIn K (.ref C) "__getattribute__" = some (some (.builtin "BaseException.__getattribute__")))
  (xl:PySem.W.findIn K (.ref C) "__getattr__" = some none) (xm:PySem.W.exmOne K (.ref C) (.ref C)=some true) (xp:PySem.W.findIn K (.ref C) "__class__" = some (some (.builtin "object.__class__"))) (xq:PySem.W.specialIn K (.builtin "object.__class__") "__get__" = some (some (.builtin "getset_descriptor.__get__")))
  (xr:PySem.W.takesIn K (.builtin "object.__class__")=some true) (xo:(["bool", "int", "str", "list", "tuple", "dict"].all λT=>PySem.W.kitOne K (.ref C) (.type T)==some false)=true) (xn:∀f∈fl,NoAttr K C f):Xa K x qual st fl :=
 ⟨C,D,f,_,xa,tH xd xe xf,⟨⟨nm,qn,N,bs,sn,sb,ab,co,dd,k0,k1,k2,k3,k5,xb⟩,xh,xc,xi,xj,xk,xl⟩,⟨xa,⟨_,_,⟨nm,qn,N,bs,sn,sb,ab,co,dd,k0,k1,k2,k3,k5,xb⟩,xh,xc,xi,xj,xk,xl⟩,⟨xp,xq,xr⟩,HN xo⟩,xg,xn,xm⟩
theorem na0:∀f∈([]:List Str),NoAttr K C f:=λ_ h=>(nomatch h)
theorem naC{f:Str}{l:List Str}(h:PySem.W.findIn K (.ref C) f=some none)(t:∀f∈l,NoAttr K C f):∀g∈f::l,NoAttr K C g:=λg hg=>by
 rcases List.mem_cons.mp hg with rfl|hg
 ·exact h
 ·exact t g hg
theorem GN{D:Addr}(a:PySem.W.nsIn K mainGlobals x=some (some (.ref C)))(b:PySem.W.nsIn K mainGlobals x=some (some (.ref D))):C=D:=by
 rw[a]at b;cases b;rfl
def Jw:Option (Option Value)->Bool
 | some none=>true
 | _=>false
theorem JP{l:List Str}(X:K.In h)(G:h.Ns mainGlobals mg)(z:(l.all λx=>Jw (PySem.W.nsIn K mainGlobals x))=true):∀x∈l,mg x=none:=λx hx=>by
 have q:=List.all_eq_true.mp z x hx
 generalize e:PySem.W.nsIn K mainGlobals x=o at q
 match o,q with
 | some none,_=>exact PySem.W.mg_none_of X G e
end
def cX:List Str->List D->Str->Option D
 | n::ns,d::ds,f=>if n=f then some d else cX ns ds f
 | _,_,_=>none
def Dt:List Str->Str->List Str
 | n::ns,f=>if n=f then n::ns else n::Dt ns f
 | [],f=>[f]
def kD:List Str->List D->Str->D->List D
 | n::ns,d::ds,f,e=>if n=f then e::ds else d::kD ns ds f e
 | [],_,_,e=>[e]
 | _::_,[],_,_=>[]
theorem yI{d:D}:∀{fs:List (Str×V)} {ns:List Str} {ds:List D},fs.map (·.1)=ns->RepL K F (fs.map (·.2)) ds->cX ns ds f=some d->∃v,fs.lookup f=some v/\Rep K F v d:=by
 intro fs
 induction fs with
 | nil=>intro ns ds h r e;subst h;cases ds<;>cases e
 | cons p fs ih =>
  obtain⟨n,v⟩:=p
  intro ns ds h r e
  subst h
  obtain⟨d0,r',rfl,rv,rr⟩:∃d0 r',ds=d0::r'/\Rep K F v d0/\RepL K F (fs.map (·.2)) r':=by
   cases r with|cons a b=>exact⟨_,_,rfl,a,b⟩
  rw[ba,cX]at e
  rw[lm]
  by_cases h:n=f
  ·rw[ai h]at e
   cases e
   subst h
   simp only[Lv]
   exact⟨v,rfl,rv⟩
  ·rw[ac h]at e
   obtain⟨u,h1,h2⟩:=ih rfl rr e
   have hb:(f==n)=false:=beq_eq_false_iff_ne.mpr λz=>h z.symm
   simp only[hb]
   exact⟨u,h1,h2⟩
theorem yJ:∀{fs:List (Str×V)},f∉fs.map (·.1)->fs.lookup f=none:=by
 intro fs
 induction fs with
 | nil=>intro _;rfl
 | cons p fs ih =>
  intro h
  rw[ba,fe,not_or]at h
  rw[lm]
  have hb:(f==p.1)=false:=beq_eq_false_iff_ne.mpr h.1
  simp only[hb]
  exact ih h.2
theorem yk{d:D}(rv:Rep K F v d):∀{fs:List (Str×V)} {ns:List Str} {ds:List D},fs.map (·.1)=ns->RepL K F (fs.map (·.2)) ds->(eg f v fs).map (·.1)=Dt ns f/\RepL K F ((eg f v fs).map (·.2)) (kD ns ds f d):=by
 intro fs
 induction fs with
 | nil=>intro ns ds h r;subst h;cases r;exact⟨rfl,.cons rv .nil⟩
 | cons p fs ih =>
  obtain⟨n,u⟩:=p
  intro ns ds h r
  subst h
  obtain⟨d0,r',rfl,ru,rr⟩:∃d0 r',ds=d0::r'/\Rep K F u d0/\RepL K F (fs.map (·.2)) r':=by
   cases r with|cons a b=>exact⟨_,_,rfl,a,b⟩
  obtain⟨h1,h2⟩:=ih rfl rr
  rw[ba,Dt,kD,eg]
  by_cases h:n=f
  ·rw[ai h,ai h,ai h];exact⟨rfl,.cons rv rr⟩
  ·rw[ac h,ac h,ac h,ba,ba,h1]
   exact⟨rfl,.cons ru h2⟩
structure IC(K:Fg)(x:Str)(C:Addr):Prop where
 ns:PySem.W.nsIn K mainGlobals x=some (some (.ref C))
 cl:Cls K C
def i5(x:Str)(o:Option (Option AV)):Option (List Str×List D):=match o with
 | some (some (.ol (.i y ns ds)))=>if y=x then some (ns,ds)else none
 | some (some (.op (.i y ns ds)))=>if y=x then some (ns,ds)else none
 | _=>none
theorem jt{p:List Str×List D}(h:i5 x ρ[i]? = some p):own ρ i (.i x p.1 p.2):=by
 unfold i5 at h
 split at h
 ·rename_i q
  split at h
  ·rename_i e;cases h;subst e;exact .inl q
  ·cases h
 ·rename_i q
  split at h
  ·rename_i e;cases h;subst e;exact .inr q
  ·cases h
 ·cases h
theorem mr{p:List Str×List D}(S:StOk K G F Z H ρ)(c:IC K x C)(h:i5 x ρ[i]? = some p) :
  ∃a dx fs,Z[i]? = some (some (V.ref a))/\H a=some (.ins C dx fs)/\fs.map (·.1)=p.1/\RepL K F (fs.map (·.2)) p.2:=by
 obtain⟨a,e,oa⟩:=S.ow i _ (jt h)
 obtain⟨C',dx,fs,h1,h2,h3,h4⟩:=oa.he
 have:=c.ns.symm.trans h2
 injection this with this;injection this with this;injection this with this
 subst this
 exact⟨a,dx,fs,e,h1,h3,h4⟩
def Jc(x:Str)(i:Nat)(f:Str):Pu D:=λρ=>match i5 x ρ[i]? with
 | some p=>oM (cX p.1 p.2 f)
 | none=>.bad
theorem ki(c:IC X.K x C)(n:NoAttr X.K C f)(hN:X.N[i]? = some nm)(hv:Vis X.env.scope nm)(hb:attributeBase (.Name nm p) f X.env (eval (.Name nm p) X.env)=eval (.Name nm p) X.env)
  (hd:(nm==("__debug__" : Str))=false:=by decide) (hcd:(nm==("__classdict__" : Str))=false:=by decide):AP X (.Attribute (.Name nm p) f pos) (Jc x i f) :=
 λG F Z H ρ Q S w=>sem (Gw (dD hN hv hd hcd) hb)<|by
  unfold Jc at w
  split at w
  ·rename_i q hq
   obtain⟨a,dx,fs,e1,e2,e3,e4⟩:=mr S c hq
   obtain⟨d,hd,k⟩:=w.opt
   obtain⟨v,h1,h2⟩:=yI e3 e4 hd
   exact⟨_,e1,a,C,dx,fs,v,rfl,e2,c.cl,n,h1,k F H (Same.refl _) S v h2⟩
  ·exact w.elim
section
def FT(x:Str)(ρ:En)(i:Nat)(p:List Str×List D)(f:Str)(d:D):En:=setC ρ i (.i x (Dt p.1 f) (kD p.1 p.2 f d))
def Ik(x:Str)(i:Nat)(f:Str)(me:Ev S D):SM S:=λK ρ=>me K.x (λd ρ1=>match i5 x ρ1[i]? with
 | some p=>if p.1.length<900 then K.nx (FT x ρ1 i p f d)else .bad
 | none=>.bad) ρ
theorem yR{dx:Addr}{fs:List (Str×V)}{p:List Str×List D}{d:D}(S:StOk K G F Z H ρ)(c:IC K x C)(h:i5 x ρ[i]? = some p)(ea:Z[i]? = some (some (V.ref a)))
  (e3:fs.map (·.1)=p.1) (e4:RepL K F (fs.map (·.2)) p.2) (rv:Rep K F v d):StOk K G F Z (upd H a (.ins C dx (eg f v fs))) (FT x ρ i p f d) :=
 S.change (jt h) ea ⟨C,dx,eg f v fs,aR,c.ns,(yk rv e3 e4).1,(yk rv e3 e4).2⟩
theorem nF{value:Expr}{me:Ev S D}{pos':Pos}(c:IC X.K x C)(n:NoAttr X.K C f)(hN:X.N[i]? = some nm)(hv:Vis X.env.scope nm)(he:AE X value me)
  (hs:swapsWith value (some (.Attribute (.Name nm p) f pos')) pos.line X.env=pure false) (hd:(nm==("__debug__" : Str))=false:=by decide) (hcd:(nm==("__classdict__" : Str))=false:=by decide) :
  AS X (.Assign [.Attribute (.Name nm p) f pos'] value pos) (Ik x i f me):=λOK K G F Z H ρ E hO hX St ok eo =>
 ky (Gn (dD hN hv hd hcd) aI hs) (he OK K.x _ G F Z H ρ _ hO hX St ok λd v F1 H1 ρ1 s1 S1 r1 o1=>by
  split at o1
  ·rename_i q hq
   split at o1
   ·rename_i hl
    obtain⟨a,dx,fs,e1,e2,e3,e4⟩:=mr S1 c hq
    exact⟨_,e1,a,C,dx,fs,rfl,e2,c.cl,n,by rw[<-zzd (f:=(·.1)),e3];lia,eo.nx F1 Z _ _ s1 (yR S1 c hq e1 e3 e4 r1) o1⟩
   ·exact(hO o1).elim
  ·exact(hO o1).elim)
def vG(o:Option D)(k:Int->M S):M S:=match o with
 | some (.int a)=>k a
 | _=>.bad
def onI(d:D)(k:Int->M S):M S:=match d with
 | .int b=>k b
 | _=>.bad
def E0(x:Str)(i:Nat)(f:Str)(me:Ev S D):SM S:=λK ρ=>match i5 x ρ[i]? with
 | some p=>vG (cX p.1 p.2 f) λa=>me K.x (λd ρ1=>onI d λb=>match i5 x ρ1[i]? with
  | some q=>if q.1.length<900 then K.nx (FT x ρ1 i q f (.int (a+b)))else .bad
  | none=>.bad) ρ
 | none=>.bad
theorem nG{value:Expr}{me:Ev S D}{tpos:Pos}(c:IC X.K x C)(n:NoAttr X.K C f)(hN:X.N[i]? = some nm)(hv:Vis X.env.scope nm)(he:AE X value me)
  (hd:(nm==("__debug__" : Str))=false:=by decide) (hcd:(nm==("__classdict__" : Str))=false:=by decide) :
  AS X (.AugAssign (.Attribute (.Name nm p) f tpos) .Add value pos) (E0 x i f me):=λOK K G F Z H ρ E hO hX St ok eo =>
 ky (zO (dD hN hv hd hcd) aI Hb) (by
  unfold E0 at ok
  split at ok
  case h_2=>exact(hO ok).elim
  rename_i q hq
  unfold vG at ok
  split at ok
  case h_2=>exact(hO ok).elim
  rename_i a0 ha
  obtain⟨a,dx,fs,e1,e2,e3,e4⟩:=mr St c hq
  obtain⟨v,h1,h2⟩:=yI e3 e4 ha
  refine⟨_,e1,a,C,dx,fs,v,rfl,e2,c.cl,n,h1,he OK K.x _ G F Z H ρ _ hO hX St ok λd u F1 H1 ρ1 s1 S1 r1 o1=>?_⟩
  unfold onI at o1
  split at o1
  case h_2=>exact(hO o1).elim
  rename_i b
  split at o1
  case h_2=>exact(hO o1).elim
  rename_i q' hq'
  split at o1
  case isFalse=>exact(hO o1).elim
  rename_i hl
  obtain⟨a',dx',fs',e1',e2',e3',e4'⟩:=mr S1 c hq'
  rw[e1]at e1'
  injection e1' with e1';injection e1' with e1';injection e1' with e1'
  subst e1'
  have hv0:=h2.int_inv
  have hu0:=r1.int_inv
  subst hv0 hu0
  exact⟨a0,b,rfl,rfl,dx',fs',e2',by rw[<-zzd (f:=(·.1)),e3'];lia,eo.nx F1 Z _ _ s1 (yR S1 c hq' e1 e3' e4' (.int _)) o1⟩)
end
def cz(K:Fg)(x:Str)(ns ms:List Str)(n:Nat)(mf:List D->List D->M (D×List D)):Sp:=λvs H Q E=>∃G F f ds,vs.length=n/\StOk K G F (vs.map some) H (some (.op (.i x ns f))::fzs ds)/\kj K G E (mf f ds) λr =>
 ∀v F' H',Same F F'->StOk K G F' (vs.map some) H' (some (.op (.i x ms r.2))::fzs ds)->Rep K F' v r.1->Q v H'
def ED{S:Type}(x:Str)(ms:List Str)(ρ:En)(k:List D->M S):M S:=match (ρ[0]? : Option (Option AV))with
 | some (some (AV.op (OC.i y ns f)))=>if y=x/\ns=ms then k f else .bad
 | _=>.bad
def KI1(x:Str)(ms:List Str):KS (D×List D):=⟨λρ=>ED x ms ρ λf=>.ret (.none,f),λd ρ=>ED x ms ρ λf=>.ret (d,f),λ_ _=>.bad,λ_=>.bad,λ_=>.bad,λe _=>.exc e⟩
section
variable {F' H':Hp} {ds:List D}
theorem uK{c0:OC}(h:own (some (.op c0)::fzs ds) i c):i=0/\c=c0:=by
 cases i with
 | zero=>rcases h with h|h<;>simp at h;exact⟨rfl,h.symm⟩
 | succ i=>exact(gu (ds:=ds) (i:=i) (c:=c) (by unfold own at h ⊢;simpa using h)).elim
theorem zk{c0 c':OC}(S:StOk K G F (vs.map some) H (some (.op c0)::fzs ds))(s1:Same F F')(S1:StOk K G F' Z H' ρ)(h0:ρ[0]? = some (some (.op c'))) :
  StOk K G F' (vs.map some) H' (some (.op c')::fzs ds):=by
 obtain⟨a,ha⟩:=S1.pq 0 _ h0
 obtain⟨e1,_⟩:=S1.pp 0 a ha
 obtain⟨e2,_⟩:=S.pp 0 a ha
 obtain⟨b,eb,ob⟩:=S1.ow 0 _ (.inr h0)
 rw[e1]at eb
 injection eb with eb;injection eb with eb;injection eb with eb
 subst eb
 have only:∀i b,G.P i=some b->i=0:=λi b h=>by
  obtain⟨_,c,q⟩:=S.pp i b h
  exact(uK (.inr q)).1
 refine⟨S1.fh,S1.oh,S1.fo,S.ln,λi d q=>?_,λi c q=>?_,λi j c e b q1 q2 _ _=>?_,λi b q=>?_,λi c q=>?_,S1.fb⟩
 ·cases i with
  | zero=>simp at q
  | succ i =>
   obtain⟨v,e,r⟩:=S.fz (i+1) d (by simpa using q)
   exact⟨v,e,r.mono s1⟩
 ·obtain⟨rfl,rfl⟩:=uK q
  exact⟨a,e2,ob⟩
 ·rw[(uK q1).1,(uK q2).1]
 ·have:=only i b q
  subst this
  exact⟨(S.pp 0 b q).1,_,rfl⟩
 ·obtain⟨rfl,_⟩:=uK (.inr q)
  exact⟨a,ha⟩
end
theorem zp{k:List D->M S}{E:XK}{C:S->Prop}(h:kj K G E (ED x ms ρ k) C):∃f,ρ[0]? = some (some (AV.op (OC.i x ms f)))/\kj K G E (k f) C:=by
 unfold ED at h
 split at h
 ·rename_i y ns f q
  split at h
  ·rename_i e;obtain⟨rfl,rfl⟩:=e;exact⟨f,q,h⟩
  ·exact h.elim
 ·exact h.elim
section
variable {P:Program} {w:World} {base:Heap} {f:Addr} {N:List Str} {k:Nat}
theorem hG{mb:SM (D×List D)}{mf:List D->List D->M (D×List D)}(Fn:Fun K x qual st f fd)(Sc:FnScope N ps (aB st))
  (hb:∀(cdv:Value) (A:Around) (outer:List Env) (s:Shared) (H:Hp) (E:XK),Room k (A.deeper (envOfC qual (aB st) s.heap.objs.size f cdv)) ->
   ASs (mC (CX1 P w) P w K mg base N qual (aB st) f cdv A outer s H E) (bS st) mb)
  (hm:∀g ds,ds.length+1=ps.length->mf g ds=mb (KI1 y ms) (some (.op (.i y ns g))::fzs ds++List.replicate (N.length - ps.length) none)):FnOk P w K mg base (CX1 P w) (k+1) f fd ps (cz K y ns ms ps.length mf):=by
 refine B7 Fn Sc (λvs H Q E h=>?_) (λcdv A outer s H vs Q E hr h=>?_)
 ·obtain⟨_,_,_,_,h1,_⟩:=h;exact h1
 ·obtain⟨G,F0,g,ds,h1,S0,e⟩:=h
  have hl:ds.length+1=ps.length:=by have:=S0.ln;simp at this;lia
  have e0:L2.start N vs=vs.map some++List.replicate (N.length - ps.length) none:=by unfold L2.start;rw[h1]
  have S1:StOk K G F0 (L2.start N vs) H (some (.op (.i y ns g))::fzs ds++List.replicate (N.length - ps.length) none):=by rw[e0];exact S0.grow _
  rw[hm g ds hl]at e
  refine⟨_,fZ,hb cdv A outer s H E hr (λm=>kj K G E m _) (KI1 y ms) G F0 _ H _ _ (λz=>z) (λF ρ e z=>y6 z) S1 e ?_⟩
  refine⟨λF' σ' H' ρ' s S' o=>?_,λF' σ' H' ρ' d' v s S' rv o=>?_,λF' σ' H' ρ' d' v s S' r o=>(o:False).elim,λF' σ' H' ρ' s S' o=>(o:False).elim,λF' σ' H' ρ' s S' o=>(o:False).elim⟩
  ·obtain⟨f',q,e'⟩:=zp o
   exact e' .non F' H' s (zk S0 s S' q) .non
  ·obtain⟨f',q,e'⟩:=zp o
   exact e' v F' H' s (zk S0 s S' q) rv
end
section
def Ai(x:Str)(ns ms:List Str)(mf:List D->List D->M (D×List D))(i:Nat)(me:Ev S (List D)):Ev S D:=λz k ρ=>match i5 x ρ[i]? with
 | some q=>if q.1=ns then me z (λds ρ1=>match i5 x ρ1[i]? with
  | some p=>if p.1=ns then(mf p.2 ds).on (λe=>z e ρ1) (λr=>k r.1 (setC ρ1 i (.i x ms r.2)))else .bad
  | none=>.bad) ρ else .bad
 | none=>.bad
variable {k:Nat} {mf:List D->List D->M (D×List D)} {m:Str} {pn apos:Pos} {es:List Expr} {me:Ev S (List D)}
theorem pS{OK:M S->Prop}{z:Ex->En->M S}{kk:D->En->M S}{F1 H1:Hp}{ρ1:En}{Q:VK}{ds:List D}(hO:KOk OK)(hX:XL X OK z G)(s1:Same F F1)(S1:StOk X.K G F1 Z H1 ρ1)(hn:vs.length+1=n)(r1:RepL X.K F1 vs ds)(ea:Z[i]? = some (some (V.ref a)))
  (o1:OK (match i5 x ρ1[i]? with|some p=>if p.1=ns then(mf p.2 ds).on (λe=>z e ρ1) (λr=>kk r.1 (setC ρ1 i (.i x ms r.2)))else .bad|none=>.bad))
  (k2:∀d v F' H' ρ',Same F F'->StOk X.K G F' Z H' ρ'->Rep X.K F' v d->OK (kk d ρ')->Q v H'):cz X.K x ns ms n mf (V.ref a::vs) H1 Q (EX X G Z):=by
 split at o1
 case h_2=>exact(hO o1).elim
 rename_i q hq
 split at o1
 case isFalse=>exact(hO o1).elim
 rename_i hns
 have ho:=jt hq
 rw[hns]at ho
 cases hd:mf q.2 ds with
 | bad=>rw[hd]at o1;exact(hO o1).elim
 | exc e =>
  rw[hd]at o1
  exact⟨_,F1,q.2,ds,by simpa using hn,ju S1 ho ea r1,by rw[hd];exact λF' H' Cl dd g xr=>EX.of S1 (hX F1 ρ1 e o1) g xr⟩
 | ret r =>
  rw[hd]at o1
  refine⟨_,F1,q.2,ds,by simpa using hn,ju S1 ho ea r1,?_⟩
  rw[hd]
  intro v F2 H2 s2 S2 r2
  obtain⟨S3,t3⟩:=ka (c':=.i x ms r.2) (l:=ds.map AV.fz) S1 ho ea s2 S2
  exact k2 r.1 v F2 H2 _ (s1.trans s2) S3 r2 o1
theorem CQ{g:Str}(Cf:CF X.prog X.w X.K X.mg X.base g k (cz X.K x ns ms n mf))(hr:Room k X.A)(hg:Gl X g)(hN:X.N[i]? = some nm)(hv:Vis X.env.scope nm)(ha:AEa X es me)(hn:es.length+1=n)
  (hdb:(g==("__debug__" : Str))=false) (he:starEach (.Name nm pn::es) X.env=(false,eval (.Name nm pn) X.env)::starEach es X.env) (hpl:(backTo pos (starEach es X.env)).any (·.1)=false)
  (hd:(nm==("__debug__" : Str))=false:=by decide) (hcd:(nm==("__classdict__" : Str))=false:=by decide):AE X (.Call (.Name g p) (.Name nm pn::es) [] pos) (Ai x ns ms mf i me):=by
 obtain⟨f,fd,pl,Fn,h1,h2,h3⟩:=Cf.ex
 intro OK z kk G F Z H ρ Q hO hX St ok k2
 unfold Ai at ok
 split at ok
 case h_2=>exact(hO ok).elim
 rename_i q0 hq0
 split at ok
 case isFalse=>exact(hO ok).elim
 obtain⟨a,ea,_⟩:=St.ow i _ (jt hq0)
 refine iA Fn hr hg h1 h2 h3 (oj (G:=G)) hdb he hpl ?_
 refine uw (eH (dD hN hv hd hcd) cx he) ⟨_,ea,?_⟩
 refine ha OK z _ G F Z H ρ _ hO hX St ok λds vs F1 H1 ρ1 s1 S1 hl r1 o1=>?_
 exact pS hO hX s1 S1 (by rw[hl];exact hn) r1 ea o1 k2
structure CM(P:Program)(w:World)(K:Fg)(mg:zzl)(base:Heap)(C:Addr)(m:Str)(k:Nat)(sp:Sp):Prop where
 ex:∃(f:Addr) (fd:FuncData) (ps:List Str),FnOk P w K mg base (CX1 P w) k f fd ps sp/\Meth K C m f/\L2.Binds K fd ps []
theorem fV{pl:Sem Bool}(c:IC X.K x C)(Cm:CM X.prog X.w X.K X.mg X.base C m k (cz X.K x ns ms n mf))(hm:m∉ns)(hr:Room k X.A)(hN:X.N[i]? = some nm)(hv:Vis X.env.scope nm)(ha:AEa X (e::es) me)(hn:(e::es).length+1=n)
  (hst:starEach (e::es) X.env=(false,eval e X.env)::starEach es X.env) (hpl:(backTo pos (starEach es X.env)).any (·.1)=false)
  (ht:eval (.Call (.Attribute (.Name nm pn) m apos) (e::es) [] pos) X.env=(do
   let ov <-eval (.Name nm pn) X.env
   standAt apos.atName
   let (f,first) <-holding [ov] (getMethod ov m pl)
   callWith pos f first (backTo pos (starEach (e::es) X.env)) (backToKw pos (keywordEach [] X.env))))
  (hd:(nm==("__debug__" : Str))=false:=by decide) (hcd:(nm==("__classdict__" : Str))=false:=by decide):AE X (.Call (.Attribute (.Name nm pn) m apos) (e::es) [] pos) (Ai x ns ms mf i me):=by
 obtain⟨f,fd,pl,Fn,h1,h3⟩:=Cm.ex
 intro OK z kk G F Z H ρ Q hO hX St ok k2
 unfold Ai at ok
 split at ok
 case h_2=>exact(hO ok).elim
 rename_i q0 hq0
 split at ok
 case isFalse=>exact(hO ok).elim
 rename_i hns
 obtain⟨a,dx,fs,ea,eh,e3,e4⟩:=mr St c hq0
 have ar:eL X (e::es) Z H λvs H1=>cz X.K x ns ms n mf (V.ref a::vs) H1 Q (EX X G Z) :=
  ha OK z _ G F Z H ρ _ hO hX St ok λds vs F1 H1 ρ1 s1 S1 hl r1 o1=>pS hO hX s1 S1 (by rw[hl];exact hn) r1 ea o1 k2
 unfold eL at ar
 unfold eA
 intro pins s I
 refine PySem.W.methodCall_KW (thn (dD hN hv hd hcd pins s Z H (λy H'=>y=.ref a/\H'=H) I ⟨_,ea,rfl,rfl⟩) λu s1 hh=>?_) ht
 obtain⟨y,H1,I1,rx,rfl,rfl⟩:=hh
 obtain rfl:u=Value.ref a:=rx
 refine pk I1 eh c.cl h1 (yJ (by rw[e3,hns];exact hm)) ?_
 refine LK (first:=[.ref a]) (h₀:=X.base) I.ok.mod.kin h1.kp (thn (ar pos pins s1 I1) λus s2 hh=>?_) hst hpl
 obtain⟨vs,H2,I2,r,q2⟩:=hh
 exact⟨I2.kIn,wx (us:=.ref a::us) (vs:=.ref a::vs) Fn hr h3 (oj (G:=G)) I2 (.cons rfl r) q2⟩
theorem cg{pl:Sem Bool}(c:IC X.K x C)(Cm:CM X.prog X.w X.K X.mg X.base C m k (cz X.K x ns ms 1 mf))(hm:m∉ns)(hr:Room k X.A)(hN:X.N[i]? = some nm)(hv:Vis X.env.scope nm)
  (ht:eval (.Call (.Attribute (.Name nm pn) m apos) [] [] pos) X.env=(do
   let ov <-eval (.Name nm pn) X.env
   standAt apos.atName
   let (f,first) <-holding [ov] (getMethod ov m pl)
   callWith pos f first (backTo pos (starEach [] X.env)) (backToKw pos (keywordEach [] X.env))))
  (hd:(nm==("__debug__" : Str))=false:=by decide) (hcd:(nm==("__classdict__" : Str))=false:=by decide):AE X (.Call (.Attribute (.Name nm pn) m apos) [] [] pos) (Ai (S:=S) x ns ms mf i (λz k ρ=>k [] ρ)):=by
 obtain⟨f,fd,pl,Fn,h1,h3⟩:=Cm.ex
 intro OK z kk G F Z H ρ Q hO hX St ok k2
 unfold Ai at ok
 split at ok
 case h_2=>exact(hO ok).elim
 rename_i q0 hq0
 split at ok
 case isFalse=>exact(hO ok).elim
 rename_i hns
 obtain⟨a,dx,fs,ea,eh,e3,e4⟩:=mr St c hq0
 have sp:=pS (Q:=Q) (vs:=[]) (ds:=[]) hO hX (Same.refl _) St (n:=1) rfl .nil ea ok k2
 unfold eA
 intro pins s I
 refine PySem.W.methodCall_KW (thn (dD hN hv hd hcd pins s Z H (λy H'=>y=.ref a/\H'=H) I ⟨_,ea,rfl,rfl⟩) λu s1 hh=>?_) ht
 obtain⟨y,H1,I1,rx,rfl,rfl⟩:=hh
 obtain rfl:u=Value.ref a:=rx
 refine pk I1 eh c.cl h1 (yJ (by rw[e3,hns];exact hm)) ?_
 exact PySem.W.callWith_K0 (first:=[.ref a]) I1.kIn h1.kp (wx (us:=[.ref a]) (vs:=[.ref a]) Fn hr h3 (oj (G:=G)) I1 (.cons rfl .nil) sp)
end
theorem CF.zeroI{P:Program}{w:World}{base:Heap}{f:Addr}(k n:Nat)(h1:mg x=some (.ref f))(h2:PySem.W.keepIn K (.ref f)=true)(h3:L2.Binds K fd ps []) :
  CF P w K mg base x k (cz K y ns ms n λ_ _=>.bad):=⟨f,fd,ps,⟨λvs H Q E h=>(by obtain⟨_,_,_,_,_,_,z⟩:=h;exact z.elim),λA outer s H args us vs Q E hr e0 hb hv h=>(by obtain⟨_,_,_,_,_,_,z⟩:=h;exact z.elim)⟩,h1,h2,h3⟩
section
variable {F' H':Hp}
theorem cM{l:List α}{a b:α}(h:l[i]? = some a):(l++[b])[i]? = some a:=by
 rw[eT (List.getElem?_eq_some_iff.mp h).1]
 exact h
theorem StOk.more(S:StOk K G F Z H ρ)(oa:OwnAt K G F H a c)(ne:∀(i:Nat) (e:OC),own ρ i e->Z[i]? ≠ some (some (V.ref a))):StOk K G F (Z++[some (.ref a)]) H (ρ++[some (.ol c)]):=by
 have cut:∀i (av:AV),(ρ++[some (.ol c)])[i]? = some (some av)->ρ[i]? = some (some av)\/(i=ρ.length/\av=.ol c):=λi av h=>by
  rw[List.getElem?_append]at h
  split at h
  ·exact .inl h
  ·rename_i hi
   right
   have:i - ρ.length=0:=by
    have:=(List.getElem?_eq_some_iff.mp h).1
    simp at this
    lia
   rw[this]at h
   simp at h
   exact⟨by lia,h.symm⟩
 have cutO:∀i e,own (ρ++[some (.ol c)]) i e->own ρ i e\/(i=ρ.length/\e=c):=λi e h=>by
  rcases h with h|h
  ·rcases cut i _ h with q|⟨q,z⟩
   ·exact .inl (.inl q)
   ·injection z with z;exact .inr ⟨q,z⟩
  ·rcases cut i _ h with q|⟨q,z⟩
   ·exact .inl (.inr q)
   ·cases z
 have at':(Z++[some (V.ref a)])[ρ.length]? = some (some (V.ref a)):=by rw[<-S.ln];simp
 refine⟨S.fh,S.oh,S.fo,by simp[S.ln],λi d h=>?_,λi e h=>?_,λi j d e b h1 h2 q1 q2=>?_,λi b h=>?_,λi e h=>?_,S.fb⟩
 ·rcases cut i _ h with q|⟨_,z⟩
  ·obtain⟨v,e,r⟩:=S.fz i d q;exact⟨v,cM e,r⟩
  ·cases z
 ·rcases cutO i e h with q|⟨rfl,rfl⟩
  ·obtain⟨b,e1,ob⟩:=S.ow i e q;exact⟨b,cM e1,ob⟩
  ·exact⟨a,at',oa⟩
 ·have back:∀i e,own ρ i e->(Z++[some (V.ref a)])[i]? = some (some (V.ref b))->Z[i]? = some (some (V.ref b)):=λi e h q=>by
   obtain⟨b',e1,_⟩:=S.ow i e h
   rw[cM e1]at q
   rw[e1];exact q
  have no:∀i e,own ρ i e->(Z++[some (V.ref a)])[i]? = some (some (V.ref b))->(Z++[some (V.ref a)])[ρ.length]? = some (some (V.ref b))->False:=λi e h q1 q2=>by
   rw[at']at q2
   injection q2 with q2;injection q2 with q2
   rw[<-q2]at q1
   have:=back i e h (q2▸q1)
   exact ne i e h (q2▸this)
  rcases cutO i d h1 with z1|⟨z1,_⟩<;>rcases cutO j e h2 with z2|⟨z2,_⟩
  ·exact S.dj i j d e b z1 z2 (back i d z1 q1) (back j e z2 q2)
  ·subst z2;exact(no i d z1 q1 q2).elim
  ·subst z1;exact(no j e z2 q2 q1).elim
  ·rw[z1,z2]
 ·obtain⟨q1,e,q2⟩:=S.pp i b h;exact⟨cM q1,e,cM q2⟩
 ·rcases cut i _ h with q|⟨_,z⟩
  ·exact S.pq i e q
  ·cases z
theorem StOk.less{u:Option V}{av:AV}(S:StOk K G F Z H ρ)(S':StOk K G F' (Z++[some (.ref a)]) H' (ρ++[some (.ol c)])):StOk K G F' Z H' ρ/\RVR K G F' Z H' ρ (.ref a) (.fr c):=by
 have at':(ρ++[some (AV.ol c)])[ρ.length]? = some (some (.ol c)):=by simp
 have ats:(Z++[some (V.ref a)])[ρ.length]? = some (some (V.ref a)):=by rw[<-S.ln];simp
 have up:∀i e,own ρ i e->own (ρ++[some (.ol c)]) i e:=λi e h=>h.imp (λq=>cM q) (λq=>cM q)
 have dn:∀i (v:V),i<ρ.length->(Z++[some (V.ref a)])[i]? = some (some v)->Z[i]? = some (some v):=λi v hi h=>by
  rw[eT (by rw[S.ln];exact hi)]at h
  exact h
 have lt:∀i (av:AV),ρ[i]? = some (some av)->i<ρ.length:=λi av h=>(List.getElem?_eq_some_iff.mp h).1
 have lo:∀i e,own ρ i e->i<ρ.length:=λi e h=>by rcases h with h|h<;>exact lt _ _ h
 refine⟨⟨S'.fh,S'.oh,S'.fo,S.ln,λi d h=>?_,λi e h=>?_,λi j d e b h1 h2 q1 q2=>S'.dj i j d e b (up i d h1) (up j e h2) (cM q1) (cM q2),S.pp,S.pq,S'.fb⟩,a,rfl,?_,λi e h q=>?_⟩
 ·obtain⟨v,e,r⟩:=S'.fz i d (cM h);exact⟨v,dn i v (lt _ _ h) e,r⟩
 ·obtain⟨b,e1,ob⟩:=S'.ow i e (up i e h);exact⟨b,dn i _ (lo _ _ h) e1,ob⟩
 ·obtain⟨b,e1,ob⟩:=S'.ow ρ.length c (.inl at')
  rw[ats]at e1
  injection e1 with e1;injection e1 with e1;injection e1 with e1
  subst e1
  exact ob
 ·have:=S'.dj i ρ.length e c a (up i e h) (.inl at') (cM q) ats
  have:=lo i e h
  lia
theorem zF(c c':OC):setC (ρ++[some (.ol c)]) ρ.length c'=ρ++[some (.ol c')]:=by
 unfold setC
 simp
end
section
variable {k:Nat} {f:Addr} {sp:Sp}
theorem zJ{pins:zzk}{s:Shared}{Q:VK}{us:List Value}(M:Mk X.K C f)(F:FnOk X.prog X.w X.K X.mg X.base (CX1 X.prog X.w) k f fd ps sp)(hr:Room (k+1) X.A)(hb:L2.Binds X.K fd ps [])
  (I:Inv X pins Z H s) (r:Vals vs us)
  (h:∀x dx,H x=none->H dx=none->dx≠x->sp (.ref x::vs) (upd (upd H dx (.own x)) x (.ins C dx [])) (λv H2=>v=.non/\Q (.ref x) H2) (λ_ _ _=>False)) :
  wpAny (model X.prog X.w) X.A (call (.ref C) us) (EP X pins Z Q) X.xe s:=by
 refine L2.run_make (dvs:=[]) (ds:=[]) M F hr hb .nil (E:=λ_ _ _=>False) (λpins Z H s e s' I h=>?_) I r λx dx h1 h2 h3=>by rw[iz];exact h x dx h1 h2 h3
 obtain⟨_,_,_,_,_,_,_,_,_,_,z⟩:=h
 exact z.elim
end
section
def GQ(m:M (D×List D))(k:List D->M S):M S:=match m with
 | .ret (.none,f)=>k f
 | _=>.bad
def Io(j:Nat)(x:Str)(ms:List Str)(mf:List D->List D->M (D×List D))(me:Ev S (List D)):SM S:=λK ρ=>me K.x (λds ρ1=>GQ (mf [] ds) λf=>match jC ρ1 j with
 | true=>K.nx (ρ1.set j (some (.ol (.i x ms f))))
 | false=>.bad) ρ
structure CN(P:Program)(w:World)(K:Fg)(mg:zzl)(base:Heap)(C:Addr)(x:Str)(k:Nat)(sp:Sp):Prop where
 ex:∃(f:Addr) (fd:FuncData) (ps:List Str),FnOk P w K mg base (CX1 P w) k f fd ps sp/\Mk K C f/\L2.Binds K fd ps []/\mg x=some (.ref C)
variable {k:Nat} {f:Addr} {mf:List D->List D->M (D×List D)} {pos' pos2:Pos} {es:List Expr} {me:Ev S (List D)}
theorem EG(c:IC X.K x C)(Cn:CN X.prog X.w X.K X.mg X.base C x k (cz X.K x [] ms n mf))(hr:Room (k+1) X.A)(hg:Gl X x)
  (ha:AEa X (e::es) me) (hn:(e::es).length+1=n) (hdb:(x==("__debug__" : Str))=false) (he:starEach (e::es) X.env=(false,eval e X.env)::starEach es X.env) (hpl:(backTo pos2 (starEach es X.env)).any (·.1)=false)
  (hN:X.N.Nodup) (hi:X.N[j]? = some y) (hy:Loc X.env.scope y) (hs:swapsWith (.Call (.Name x p) (e::es) [] pos2) (some (.Name y pos')) pos.line X.env=pure false) (hf:X.fn y=true\/X.env.scope.names.lookup y=some .local) :
  AS X (.Assign [.Name y pos'] (.Call (.Name x p) (e::es) [] pos2) pos) (Io j x ms mf me):=λOK K G F Z H ρ E hO hX St ok eo=>by
 obtain⟨f,fd,ps,Fn,Mf,hb,hm⟩:=Cn.ex
 refine ky (wB hN hi hy aI hs hf) ?_
 show eA X (.Call (.Name x p) (e::es) [] pos2) Z H _
 unfold eA
 intro pins s I
 have ar:eL X (e::es) Z H λvs H1=>∀a dx,H1 a=none->H1 dx=none->dx≠a->cz X.K x [] ms n mf (.ref a::vs) (upd (upd H1 dx (.own a)) a (.ins C dx [])) (λv H2=>v=.non/\E.nx (Z.set j (some (.ref a))) H2) (λ_ _ _=>False) :=
  ha OK K.x _ G F Z H ρ _ hO hX St ok λds vs F1 H1 ρ1 s1 S1 hl r1 o1=>by
   intro a dx h1 h2 h3
   unfold GQ at o1
   split at o1
   case h_2=>exact(hO o1).elim
   rename_i g hd
   split at o1
   case h_2=>exact(hO o1).elim
   rename_i hok
   obtain⟨hlj,hop⟩:=eN hok
   have hx:(upd H1 dx (.own a)) a=none:=by rw[aL (Ne.symm h3)];exact h1
   have S2:StOk X.K G F1 Z (upd (upd H1 dx (.own a)) a (.ins C dx [])) ρ1:=(S1.lay h2).lay hx
   have oa:OwnAt X.K G F1 (upd (upd H1 dx (.own a)) a (.ins C dx [])) a (.i x [] []):=⟨S1.fh.free h1,S1.oh.free h1,C,dx,[],aR,c.ns,rfl,.nil⟩
   have ne:∀(i:Nat) (e:OC),own ρ1 i e->Z[i]? ≠ some (some (V.ref a)):=S1.fresh_ne h1
   have S3:=StOk.more S2 oa ne
   have ho:own (ρ1++[some (.ol (.i x [] []))]) ρ1.length (.i x [] []):=.inl (by simp)
   have hs':(Z++[some (V.ref a)])[ρ1.length]? = some (some (V.ref a)):=by rw[<-S1.ln];simp
   refine⟨_,F1,[],ds,by rw[ci,hl];exact hn,ju S3 ho hs' r1,?_⟩
   rw[hd]
   intro v F2 H2 s2 S4 r2
   obtain⟨S5,_⟩:=ka (c':=.i x ms g) (l:=ds.map AV.fz) S3 ho hs' s2 S4
   rw[zF]at S5
   obtain⟨S6,r6⟩:=StOk.less (u:=none) (av:=.fz .none) S2 S5
   refine⟨r2.inv,eo.nx F2 _ H2 _ (s1.trans s2) (S6.store hop hlj (.inr ⟨.i x ms g,rfl,r6⟩)) o1⟩
 unfold eL at ar
 refine EA (lc I hg hm ?_ hdb)
 refine LK (h₀:=X.base) I.ok.mod.kin Mf.kp (thn (ar pos2 pins s I) λus s1 hh=>?_) he hpl
 obtain⟨vs,H1,I1,r,q⟩:=hh
 exact⟨I1.kIn,zJ Mf Fn hr hb I1 r q⟩
end
def TK(K:Fg)(g:Str)(ws:List Str):Prop:=∃a o its n,PySem.W.nsIn K mainGlobals g=some (some (.ref a))/\K.lookup a=some o/\o.cls=.type "tuple" /\ o.data=.seq its n/\Vals (ws.map V.str) its.toList
def iS(g:Str)(ws:List Str)(x y:D):Option Bool:=if fnQ y g&&inOk x (ws.map PyData.str)then some (!(ws.map PyData.str).any λz=>PyData.eqv z x)else none
theorem A8:∀{ws:List Str} {us:List Value},Vals (ws.map V.str) us->∃as,ReadsAll h us (ws.map PyData.str) as:=by
 intro ws
 induction ws with
 | nil=>intro us r;cases r;exact⟨[],.nil⟩
 | cons w ws ih =>
  intro us r
  cases r with
  | cons a b =>
   obtain⟨t,rfl⟩:=a
   obtain⟨as,q⟩:=ih b
   exact⟨_,.cons (.str _ _) q⟩
theorem wG{g:Str}(hu:X.A.units+1100<cLine)(k:TK X.K g ws):OpR X (compareOp .NotIn) (rD2 X.K (iS g ws)):=by
 intro pins s Z H x y v u Q I rx ry hh
 obtain⟨d,e,b,r1,r2,ho,q⟩:=hh
 unfold iS at ho
 split at ho
 case isFalse=>cases ho
 rename_i hc
 cases ho
 rw[am]at hc
 obtain⟨hf,hc⟩:=hc
 obtain rfl:=Hh hf
 obtain⟨a,e1,e2⟩:=JG r2
 subst e1
 obtain rfl:u=Value.ref a:=ry
 obtain⟨a',o,its,n,h1,h2,h3,h4,h5⟩:=k
 have:=e2.symm.trans h1
 injection this with this;injection this with this;injection this with this
 subst this
 simp only[inOk,am,zzi]at hc
 obtain⟨as,ra⟩:=(bR I).1 r1 hc.1.2 rx
 obtain⟨bs,rb⟩:=A8 (h:=s.heap) h5
 refine SeqAt.notIn_tuple_reads (.tuple (I.kIn a o h2) h3 h4 rb) ra hc.1.1 hc.1.2 (by have:=y4 (PyData.depthAll (ws.map PyData.str)) d.depth;lia) ⟨.bl _,H,I,rfl,q⟩
section
variable {m:Str} {f:Addr} {oc:Value} {od an:Option Addr} {osl:Array (Option Value)} {kV doc pm cdv ct:Value}
def Fm(K:Fg)(C:Addr)(m qual:Str)(st:Stmt):Prop:=∃f fd,Meth K C m f/\Fun K m qual st f fd
theorem pA(a:PySem.W.findIn K (.ref C) m=some (some (.ref f)))(l:K.lookup f=some ⟨oc,od,.func (PySem.W.fnOf m qual (cW st) (bS st) (aB st) .none kV doc pm an cdv ct),osl⟩)
  (c:PySem.W.codeIn K cdv qual=true) (k:PySem.W.keepIn K (.ref f)=true) (i:PySem.W.isFn K (.ref f)=true):Fm K C m qual st:=⟨f,_,⟨a,i,k⟩,tH l c k⟩
def Fi(K:Fg)(C:Addr)(qual:Str)(st:Stmt):Prop:=∃f fd,Mk K C f/\Fun K "__init__" qual st f fd
theorem JH(a:PySem.W.findIn K (.ref C) "__init__" = some (some (.ref f)))(l:K.lookup f=some ⟨oc,od,.func (PySem.W.fnOf "__init__" qual (cW st) (bS st) (aB st) .none kV doc pm an cdv ct),osl⟩)
  (c:PySem.W.codeIn K cdv qual=true) (k:PySem.W.keepIn K (.ref f)=true) (i:PySem.W.isFn K (.ref f)=true) (mk:PySem.W.makesIn K C=true) (kp:PySem.W.keepIn K (.ref C)=true):Fi K C qual st:=⟨f,_,⟨mk,a,i,kp⟩,tH l c k⟩
def Ci(K:Fg)(x:Str)(C:Addr)(ns:List Str):Prop:=IC K x C/\∀f∈ns,NoAttr K C f
theorem JN(a:PySem.W.nsIn K mainGlobals x=some (some (.ref C)))(pg:PySem.W.plainGet K C Str.empty=true)(hd:PySem.W.hasDictIn K C=true)(po:PySem.W.plainOver K C=true)
  (sa:PySem.W.findIn K (.ref C) "__setattr__" = some (some (.builtin "object.__setattr__"))) (n:∀f∈ns,NoAttr K C f):Ci K x C ns:=⟨⟨a,⟨pg,hd,po,sa⟩⟩,n⟩
def Kc(K:Fg)(x:Str)(v:V):Prop:=∃u,PySem.W.nsIn K mainGlobals x=some (some u)/\RelV v u
theorem rh{u:Value}(a:PySem.W.nsIn K mainGlobals x=some (some u))(r:RelV v u):Kc K x v:=⟨u,a,r⟩
theorem rj(X:K.In h)(G:h.Ns mainGlobals mg)(c:Kc K x v):∃u,mg x=some u/\RelV v u:=let ⟨u,a,r⟩:=c;⟨u,di X G a,r⟩
theorem HS{o:Obj}{its:Array Value}(h1:PySem.W.nsIn K mainGlobals x=some (some (.ref a)))(h2:K.lookup a=some o)(h3:o.cls=.type "tuple")(h4:o.data=.seq its n)(h5:Vals (ws.map V.str) its.toList):TK K x ws:=⟨a,o,its,n,h1,h2,h3,h4,h5⟩
theorem HU(X:K.In h)(G:h.Ns mainGlobals mg)(c:TK K x ws):∃a,mg x=some (.ref a)/\PySem.W.nsIn K mainGlobals x=some (some (.ref a)):=let ⟨a,_,_,_,h,_⟩:=c;⟨a,di X G h,h⟩
end
end L4
namespace WS
open PySem PySem.SetTable
variable {j i:Nat}{xs:Array Nat}{h:Int}{α:Type}
def run(m i:Nat):List Nat:=List.range' i (runEnd m i+1 - i)
def lp(m:Nat)(q:Nat×Nat):Nat×Nat:=leap m q.1 q.2
def rdL(m:Nat):Nat->Nat×Nat->List Nat
 | 0,_=>[]
 | n+1,q=>run m q.1++rdL m n (lp m q)
def Rd(m:Nat)(h:Int):List Nat:=rdL m (turns m) (bits h % (m+1),bits h)
def Mk(m:Nat):Prop:=m=7\/m=31\/m=127
def itr(m:Nat):Nat->Nat×Nat->Nat×Nat
 | 0,q=>q
 | n+1,q=>itr m n (lp m q)
theorem lJ(m i:Nat):i<=runEnd m i:=by unfold runEnd;split<;>omega
theorem wy(m i:Nat):runEnd m i<=i+9:=by unfold runEnd;split<;>omega
theorem A6{m:Nat}(h:i<=m):runEnd m i<=m:=by unfold runEnd;split<;>omega
theorem ly(m:Nat):∀(a b:Nat) (q:Nat×Nat),itr m (a+b) q=itr m b (itr m a q)
 | 0,b,q=>by rw[Nat.zero_add];rfl
 | a+1,b,q=>by rw[Nat.add_right_comm];exact ly m a b (lp m q)
theorem yO(m:Nat):∀(n N:Nat) (q:Nat×Nat),n<N->(itr m n q).1∈rdL m N q
 | _,0,_,h=>by omega
 | 0,N+1,q,_=>by
  refine List.mem_append.mpr (.inl ?_)
  have:=lJ m q.1
  exact List.mem_range'_1.mpr ⟨ay _,by show q.1<q.1+(runEnd m q.1+1 - q.1);omega⟩
 | n+1,N+1,q,h=>List.mem_append.mpr (.inr (yO m n N (lp m q) (by omega)))
theorem Fx(m:Nat):∀(n:Nat) (q:Nat×Nat),(itr m n q).2=q.2 / 32^n
 | 0,q=>by show q.2=q.2 / 1;rw[Nat.div_one]
 | n+1,q=>by
  show(itr m n (lp m q)).2=_
  rw[Fx m n,Nat.pow_succ,Nat.mul_comm,<-Nat.div_div_eq_div_mul]
  rfl
theorem Jq(m:Nat)(q:Nat×Nat):(lp m q).1<=m:=Nat.le_of_lt_succ (Nat.mod_lt _ (Nat.succ_pos _))
theorem Fy{m:Nat}:∀(n:Nat) (q:Nat×Nat),q.1<=m->(itr m n q).1<=m
 | 0,q,h=>h
 | n+1,q,_=>Fy n (lp m q) (Jq m q)
theorem Eu(h:Int):bits h<2^64:=by unfold bits;omega
def Bz(m:Nat):Nat->Nat->List Nat
 | 0,_=>[]
 | n+1,i=>i::Bz m n ((i*5+1) % (m+1))
theorem Jr(m i:Nat):lp m (i,0)=((i*5+1) % (m+1),0):=by
 show((i*5+1+0 / 32) % (m+1),0 / 32)=_
 simp
theorem oA(m:Nat):∀(n i j:Nat),j∈Bz m n i->∃a,a<n/\itr m a (i,0)=(j,0)
 | 0,_,_,h=>by cases h
 | n+1,i,j,h=>by
  rcases List.mem_cons.mp h with rfl|h
  ·exact⟨0,by omega,rfl⟩
  ·obtain⟨a,ha,e⟩:=oA m n _ j h
   exact⟨a+1,by omega,by show itr m a (lp m (i,0))=_;rw[Jr];exact e⟩
def full(m:Nat):Bool:=(List.range (m+1)).all (λj=>(Bz m (m+1) 0).contains j)&&(Bz m (m+2) 0)[m+1]? == some 0
theorem yA(m:Nat):∀(n i k j:Nat),(Bz m n i)[k]? = some j->itr m k (i,0)=(j,0)
 | 0,_,_,_,h=>by cases h
 | n+1,i,0,j,h=>by cases h;rfl
 | n+1,i,k+1,j,h=>by show itr m k (lp m (i,0))=_;rw[Jr];exact yA m n _ k j h
theorem Eg{m:Nat}(h:Mk m):full m=true:=by
 rcases h with rfl|rfl|rfl<;>decide +kernel
theorem cyc{m:Nat}(h:Mk m)(hi:i<=m)(hj:j<=m):∃n,n<=m/\itr m n (i,0)=(j,0):=by
 have f:=Eg h
 unfold full at f
 rw[am,ke,um]at f
 obtain⟨f1,f2⟩:=f
 obtain⟨a,ha,ea⟩:=oA m _ _ _ (List.contains_iff_mem.mp (f1 i (List.mem_range.mpr (by omega))))
 obtain⟨b,hb,eb⟩:=oA m _ _ _ (List.contains_iff_mem.mp (f1 j (List.mem_range.mpr (by omega))))
 have ez:=yA m _ _ _ _ f2
 by_cases hab:a<=b
 ·refine⟨b - a,by omega,?_⟩
  rw[<-ea,<-ly,Nat.add_sub_cancel' hab,eb]
 ·refine⟨m+1+b - a,by omega,?_⟩
  rw[<-ea,<-ly,show a+(m+1+b - a)=(m+1)+b by omega,ly,ez,eb]
theorem cov{m:Nat}(hm:Mk m)(h:Int)(hj:j<=m):j∈Rd m h:=by
 have h2:(itr m 13 (bits h % (m+1),bits h)).2=0:=by
  rw[Fx]
  have:=Eu h
  exact Nat.div_eq_of_lt (bo this (by decide))
 have h1:(itr m 13 (bits h % (m+1),bits h)).1<=m:=Fy 13 _ (Nat.le_of_lt_succ (Nat.mod_lt _ (Nat.succ_pos _)))
 obtain⟨n,hn,e⟩:=cyc hm h1 hj
 have:=yO m (13+n) (turns m) (bits h % (m+1),bits h) (by unfold turns;omega)
 rw[ly,show itr m 13 (bits h % (m+1),bits h)=((itr m 13 (bits h % (m+1),bits h)).1,0)from Prod.ext rfl h2,e]at this
 exact this
theorem Bc{m:Nat}:∀(n:Nat) (q:Nat×Nat),q.1<=m->∀j∈rdL m n q,j<=m
 | 0,_,_,_,h=>by cases h
 | n+1,q,hq,j,h=>by
  rcases List.mem_append.mp h with h|h
  ·have h':j∈List.range' q.1 (runEnd m q.1+1 - q.1):=h
   have:=(List.mem_range'_1.mp h').2
   have:=A6 hq
   omega
  ·exact Bc n _ (Jq m q) j h
theorem JV{m:Nat}(x:j∈Rd m h):j<=m:=Bc _ _ (Nat.le_of_lt_succ (Nat.mod_lt _ (Nat.succ_pos _))) j x
theorem yf{m:Nat}:∀(n:Nat) (q:Nat×Nat),(rdL m n q).length<=10*n
 | 0,_=>ay _
 | n+1,q=>by
  show(run m q.1++rdL m n (lp m q)).length<=_
  rw[zzf]
  have:=yf (m:=m) n (lp m q)
  have:(run m q.1).length<=10:=by
   show(List.range' _ _).length<=10
   rw[List.length_range']
   have:=wy m q.1
   omega
  omega
def Up(xs:Array Nat):Prop:=xs.toList.Pairwise (· < ·)
theorem Up.lt(U:Up xs){a b u v:Nat}(h:a<b)(ha:xs[a]? = some u)(hb:xs[b]? = some v):u<v:=by
 rw[<-ir]at ha hb
 obtain⟨h1,e1⟩:=List.getElem?_eq_some_iff.mp ha
 obtain⟨h2,e2⟩:=List.getElem?_eq_some_iff.mp hb
 have:=List.pairwise_iff_getElem.mp U a b h1 h2 h
 rw[e1,e2]at this
 exact this
theorem pX{xs:Array Nat}(U:Up xs)(j:Nat):∀(fuel lo hi:Nat),hi - lo<=fuel->lo<=hi->hi<=xs.size->(∀i u,i<lo->xs[i]? = some u->u<j)->(∀i u,hi<=i->xs[i]? = some u->j<=u) ->
  (∀i u,i<below.go xs j fuel lo hi->xs[i]? = some u->u<j)/\(∀i u,below.go xs j fuel lo hi<=i->xs[i]? = some u->j<=u)/\below.go xs j fuel lo hi<=xs.size
 | 0,lo,hi,h1,h2,h3,a,b=>by
  have:lo=hi:=by omega
  subst this
  exact⟨a,b,h3⟩
 | fuel+1,lo,hi,h1,h2,h3,a,b=>by
  unfold below.go
  by_cases hl:lo<hi
  ·rw[ai hl]
   have hm:(lo+hi) / 2<xs.size:=by omega
   have em:xs[(lo+hi) / 2]? = some (xs.getD ((lo+hi) / 2) j):=by rw[LJ,de hm];rfl
   dsimp only
   by_cases hv:xs.getD ((lo+hi) / 2) j<j
   ·rw[ai hv]
    refine pX U j fuel _ hi (by omega) (by omega) h3 (λi u hi' e=>?_) b
    by_cases q:i=(lo+hi) / 2
    ·subst q;rw[em]at e;cases e;exact hv
    ·exact Nat.lt_trans (U.lt (show i<(lo+hi) / 2 by omega) e em) hv
   ·rw[ac hv]
    refine pX U j fuel lo _ (by omega) (by omega) (by omega) a (λi u hi' e=>?_)
    by_cases q:i=(lo+hi) / 2
    ·subst q;rw[em]at e;cases e;omega
    ·have:=U.lt (show(lo+hi) / 2<i by omega) em e;omega
  ·rw[ac hl]
   have:lo=hi:=by omega
   subst this
   exact⟨a,b,h3⟩
theorem hV(U:Up xs)(j:Nat):(∀i u,i<below xs j->xs[i]? = some u->u<j)/\(∀i u,below xs j<=i->xs[i]? = some u->j<=u)/\below xs j<=xs.size :=
 pX U j xs.size 0 xs.size (by omega) (by omega) (ay _) (λi u h=>by omega) (λi u h e=>by rw[sk h]at e;cases e)
theorem below_at(U:Up xs)(e:xs[i]? = some j):below xs j=i:=by
 obtain⟨a,b,c⟩:=hV U j
 have hi:i<xs.size:=(Array.getElem?_eq_some_iff.mp e).1
 rcases Nat.lt_trichotomy (below xs j) i with h|h|h
 ·have g:=de (show below xs j<xs.size by omega)
  have:=b _ _ (ay _) g
  have:=U.lt h g e
  omega
 ·exact h
 ·have:=a _ _ h e;omega
theorem xI(U:Up xs)(e:xs[i]? = some j):below xs (j+1)=i+1:=by
 obtain⟨a,b,c⟩:=hV U (j+1)
 rcases Nat.lt_trichotomy (below xs (j+1)) (i+1)with h|h|h
 ·have:=b i _ (by omega) e;omega
 ·exact h
 ·have g:=de (show i+1<xs.size by omega)
  have:=a _ _ h g
  have:=U.lt (Lw i) e g
  omega
theorem EB(U:Up xs):below xs 0=0:=by
 obtain⟨a,b,c⟩:=hV U 0
 rcases Nat.eq_zero_or_pos (below xs 0)with h|h
 ·exact h
 ·have g:=de (show 0<xs.size by omega)
  have:=a _ _ h g;omega
theorem zy(U:Up xs)(hj:j∉xs.toList):Up (insertAt xs (below xs j) j):=by
 obtain⟨a,b,c⟩:=hV U j
 unfold Up
 rw[LX]
 have ha:∀u∈xs.toList.take (below xs j),u<j:=λu hu=>by
  obtain⟨i,hi,e⟩:=List.mem_take_iff_getElem.mp hu
  exact a i u (by omega) (by rw[<-ir];exact List.getElem?_eq_some_iff.mpr ⟨by omega,e⟩)
 have hb:∀u∈xs.toList.drop (below xs j),j<u:=λu hu=>by
  have hm:=ye hu
  obtain⟨i,hi,e⟩:=List.mem_drop_iff_getElem.mp hu
  have:=b (below xs j+i) u (by omega) (by rw[<-ir];exact List.getElem?_eq_some_iff.mpr ⟨by omega,e⟩)
  have:u≠j:=λz=>hj (z▸hm)
  omega
 rw[List.pairwise_append,LN]
 refine⟨List.Pairwise.sublist (List.take_sublist _ _) U,⟨hb,List.Pairwise.sublist (List.drop_sublist _ _) U⟩,λu hu v hv=>?_⟩
 rcases List.mem_cons.mp hv with rfl|hv
 ·exact ha u hu
 ·exact Nat.lt_trans (ha u hu) (hb v hv)
def On(m:Nat)(h:Int)(P:List Nat)(j:Nat):Prop:=∃k:Nat,(Rd m h)[k]? = some j/\∀k',k'<k->∀x,(Rd m h)[k']? = some x->x∈P
theorem On.mono{m:Nat}{P P':List Nat}(x:On m h P j)(s:∀y∈P,y∈P'):On m h P' j:=let ⟨k,a,b⟩:=x;⟨k,a,λk' hk y e=>s y (b k' hk y e)⟩
structure Tb(t:SetTable)(es:Array (Int×Value)):Prop where
 km:Mk t.mask
 du:t.dummies = #[]
 sz:t.place.size=es.size
 up:Up t.place
 le:∀j∈t.place.toList,j<=t.mask
 pl:t.plain=true
 fu:t.place.size<=t.mask
 rd:∀e j,(e,j)∈es.toList.zip t.place.toList->On t.mask e.1 t.place.toList j
section
variable {t:SetTable} {es:Array (Int×Value)}
theorem Tb.fill(T:Tb t es):t.fill=t.place.size:=by unfold SetTable.fill;rw[T.du];rfl
theorem Tb.fits(T:Tb t es):t.fits es.size=true:=by
 have:=T.fu
 simp only[SetTable.fits,T.fill,T.sz,am,um,zzi,true_and]
 rw[<-T.sz];exact this
theorem yU(j:Nat):has #[] j=false:=rfl
theorem Tb.slot_in(T:Tb t es)(e:t.place[i]? = some j):t.slot j=.live i:=by
 unfold SetTable.slot
 dsimp only
 rw[below_at T.up e,ai (by rw[e];exact Lv _)]
theorem Tb.slot_out(T:Tb t es)(h:j∉t.place.toList):t.slot j=.empty:=by
 unfold SetTable.slot
 dsimp only
 rw[ac,T.du,yU,ac (by decide)]
 intro z
 have z':=eq_of_beq z
 rw[<-ir]at z'
 exact h (ii z')
def At(m:Nat)(p:Probe)(l:List Nat):Prop:=p.dummy=none/\∃n,l=List.range' p.j (p.more+1)++rdL m n (lp m (p.i,p.perturb))
theorem CB(t:SetTable)(h:Int):At t.mask (t.probeStart h) (Rd t.mask h):=by
 refine⟨rfl,t.mask+14,?_⟩
 show run t.mask (bits h % (t.mask+1))++rdL t.mask (t.mask+14) (lp t.mask _)=_
 unfold run probeStart
 dsimp only
 have:=lJ t.mask (bits h % (t.mask+1))
 rw[show runEnd t.mask (bits h % (t.mask+1)) - bits h % (t.mask+1)+1=runEnd t.mask (bits h % (t.mask+1))+1 - bits h % (t.mask+1) by omega]
theorem zn{p:Probe}{x:Nat}{l:List Nat}(a:At t.mask p (x::l)):x=p.j/\(l≠[]->At t.mask (t.advance p) l):=by
 obtain⟨hd,n,e⟩:=a
 rw[List.range'_succ,List.cons_append]at e
 injection e with e1 e2
 refine⟨e1,λhl=>?_⟩
 unfold SetTable.advance
 by_cases hm:p.more>0
 ·rw[ai hm]
  refine⟨hd,n,?_⟩
  dsimp only
  rw[show p.more - 1+1=p.more by omega]
  exact e2
 ·rw[ac hm]
  have h0:p.more=0:=by omega
  rw[h0]at e2
  cases n with
  | zero=>exact absurd e2 hl
  | succ n =>
   refine⟨hd,n,?_⟩
   have:=lJ t.mask (lp t.mask (p.i,p.perturb)).1
   show l=List.range' (lp t.mask (p.i,p.perturb)).1 (runEnd t.mask (lp t.mask (p.i,p.perturb)).1 - (lp t.mask (p.i,p.perturb)).1+1)++rdL t.mask n (lp t.mask (lp t.mask (p.i,p.perturb)))
   rw[show runEnd t.mask (lp t.mask (p.i,p.perturb)).1 - (lp t.mask (p.i,p.perturb)).1+1=runEnd t.mask (lp t.mask (p.i,p.perturb)).1+1 - (lp t.mask (p.i,p.perturb)).1 by omega]
   exact e2
theorem Fz(T:Tb t es){f:Nat->Int}{h:Int}:∀(q fuel:Nat) (p:Probe) (l:List Nat) (j0:Nat),At t.mask p l->l[q]? = some j0->j0∉t.place.toList->(∀k,k<q->∀x,l[k]? = some x->x∈t.place.toList)->q<fuel ->
  (probe.go t f h fuel p=some (.empty j0 none)/\∀k,k<q->∀i j,l[k]? = some j->t.place[i]? = some j->f i≠h) \/
  ∃(k i j:Nat) (nx:Probe),k<q/\l[k]? = some j/\t.place[i]? = some j/\f i=h/\probe.go t f h fuel p=some (.candidate j i nx)/\At t.mask nx (l.drop (k+1))/\∀k',k'<k->∀i j,l[k']? = some j->t.place[i]? = some j->f i≠h
 | q,fuel+1,p,[],j0,a,e0,hj,hu,hf=>by cases e0
 | 0,fuel+1,p,x::l,j0,a,e0,hj,hu,hf=>by
  cases e0
  obtain⟨rfl,_⟩:=zn a
  refine .inl ⟨?_,λk hk=>absurd hk (by omega)⟩
  unfold probe.go
  rw[T.slot_out hj,a.1]
 | q+1,fuel+1,p,x::l,j0,a,e0,hj,hu,hf=>by
  have e0':l[q]? = some j0:=e0
  have hl:l≠[]:=λz=>by rw[z]at e0';cases e0'
  obtain⟨rfl,hn⟩:=zn a
  have hx:=hu 0 (by omega) _ rfl
  obtain⟨i,hi,ei⟩:=List.getElem_of_mem hx
  have ei':t.place[i]? = some p.j:=by rw[<-ir];exact List.getElem?_eq_some_iff.mpr ⟨hi,ei⟩
  have one:∀i',t.place[i']? = some p.j->i'=i:=λi' e=>by
   rcases Nat.lt_trichotomy i' i with z|z|z
   ·have:=T.up.lt z e ei';omega
   ·exact z
   ·have:=T.up.lt z ei' e;omega
  unfold probe.go
  rw[T.slot_in ei']
  dsimp only
  by_cases hh:(f i==h)=true
  ·rw[ai hh]
   exact .inr ⟨0,i,_,_,by omega,rfl,ei',eq_of_beq hh,rfl,hn hl,λk' hk=>absurd hk (by omega)⟩
  ·rw[ac hh]
   have h0:∀i' j,(p.j::l)[0]? = some j->t.place[i']? = some j->f i'≠h:=λi' j e1 e2=>by
    cases e1
    rw[one i' e2]
    exact λz=>hh (by rw[z];exact Lv _)
   rcases Fz T q fuel _ l j0 (hn hl) e0' hj (λk hk x e=>hu (k+1) (by omega) x e) (by omega)with ⟨r,c⟩|⟨k,i2,j2,nx,r1,r2,r3,r4,r5,r6,r7⟩
   ·refine .inl ⟨r,λk hk=>?_⟩
    cases k with
    | zero=>exact h0
    | succ k=>exact c k (by omega)
   ·refine .inr ⟨k+1,i2,j2,nx,by omega,r2,r3,r4,r5,r6,λk' hk=>?_⟩
    cases k' with
    | zero=>exact h0
    | succ k'=>exact r7 k' (by omega)
theorem Tb.room(T:Tb t es):∃j,j<=t.mask/\j∉t.place.toList:=by
 by_cases h:∃j,j<=t.mask/\j∉t.place.toList
 ·exact h
 ·exfalso
  have sub:List.range (t.mask+1) ⊆ t.place.toList:=λj hj=>by
   by_cases hm:j∈t.place.toList
   ·exact hm
   ·exact absurd ⟨j,by have:=List.mem_range.mp hj;omega,hm⟩ h
  have:=List.nodup_range.length_le_of_subset sub
  rw[nc,cr]at this
  have:=T.fu
  omega
theorem rG{P:List Nat}:∀(l:List Nat) (j:Nat),j∈l->j∉P->∃(k j0:Nat),l[k]? = some j0/\j0∉P/\∀k',k'<k->∀x,l[k']? = some x->x∈P
 | [],_,h,_=>by cases h
 | x::l,j,h,hj=>by
  by_cases hx:x∈P
  ·rcases List.mem_cons.mp h with rfl|h
   ·exact absurd hx hj
   ·obtain⟨k,j0,a,b,c⟩:=rG l j h hj
    refine⟨k+1,j0,a,b,λk' hk y e=>?_⟩
    cases k' with
    | zero=>cases e;exact hx
    | succ k'=>exact c k' (by omega) y e
  ·exact⟨0,x,rfl,hx,λk' hk=>absurd hk (by omega)⟩
theorem Tb.free(T:Tb t es)(h:Int):∃(k j0:Nat),(Rd t.mask h)[k]? = some j0/\k<10*turns t.mask/\j0∉t.place.toList/\∀k',k'<k->∀x,(Rd t.mask h)[k']? = some x->x∈t.place.toList:=by
 obtain⟨j,h1,h2⟩:=T.room
 obtain⟨k,j0,a,b,c⟩:=rG _ j (cov T.km h h1) h2
 refine⟨k,j0,a,?_,b,c⟩
 have h3:=(List.getElem?_eq_some_iff.mp a).1
 have h4:(Rd t.mask h).length<=10*turns t.mask:=yf _ _
 omega
theorem mem_insertAt{xs:Array α}{p:Nat}{x y:α}:y∈(insertAt xs p x).toList↔y=x\/y∈xs.toList:=by
 rw[(Mc xs p x).mem_iff,Array.toList_push]
 simp[or_comm]
theorem dk{xs:Array α}{p:Nat}{x:α}:(insertAt xs p x).size=xs.size+1:=by
 have:=(Mc xs p x).length_eq
 rwa [cr,cr,Array.size_push]at this
theorem vZ{β:Type}{xs:List α}{ys:List β}(h:xs.length=ys.length)(p:Nat)(x:α)(y:β)(z:α×β)(hz:z∈(xs.take p++x::xs.drop p).zip (ys.take p++y::ys.drop p)):z=(x,y)\/z∈xs.zip ys:=by
 rw[List.zip_append (by simp[h])]at hz
 have e:xs.zip ys=(xs.take p).zip (ys.take p)++(xs.drop p).zip (ys.drop p):=by
  rw[<-List.zip_append (by simp[h]),wT,wT]
 rw[e]
 simp only[wo,List.mem_append,fe]at hz ⊢
 rcases hz with h|h|h
 ·exact .inr (.inl h)
 ·exact .inl h
 ·exact .inr (.inr h)
theorem Tb.put(T:Tb t es){x:Value}{k j0:Nat}(a:(Rd t.mask h)[k]? = some j0)(b:j0∉t.place.toList)(c:∀k',k'<k->∀x,(Rd t.mask h)[k']? = some x->x∈t.place.toList)(hf:t.place.size+1<=t.mask) :
  Tb (t.put j0).1 (insertAt es (t.put j0).2 (h,x))/\(t.put j0).1.mask=t.mask/\(t.put j0).1.led=t.led/\(t.put j0).1.place.size=t.place.size+1:=by
 have e:(t.put j0).1={ t with place:=insertAt t.place (below t.place j0) j0,dummies:=#[] }:=by
  show SetTable.mk _ _ _ _ _ _ _=_
  rw[T.du,yU]
  rfl
 have sub:∀y∈t.place.toList,y∈(insertAt t.place (below t.place j0) j0).toList:=λy hy=>mem_insertAt.mpr (.inr hy)
 rw[e]
 refine⟨⟨T.km,rfl,by show(insertAt _ _ _).size=(insertAt _ _ _).size;rw[dk,dk,T.sz],zy T.up b,λj hj=>?_,T.pl,by show(insertAt _ _ _).size<=_;rw[dk];exact hf,λz j hz=>?_⟩,rfl,rfl,dk⟩
 ·rcases mem_insertAt.mp hj with rfl|hj
  ·exact JV (ii a)
  ·exact T.le j hj
 ·have hz':(z,j)∈(es.toList.take (below t.place j0)++(h,x)::es.toList.drop (below t.place j0)).zip (t.place.toList.take (below t.place j0)++j0::t.place.toList.drop (below t.place j0)):=by
   have:=hz
   rwa [show(SetTable.put t j0).2=below t.place j0 from rfl,LX,LX]at this
  rcases vZ (by rw[cr,cr,T.sz]) _ _ _ _ hz' with z'|z'
  ·injection z' with z1 z2
   subst z1 z2
   exact⟨k,a,λk' hk y e=>sub y (c k' hk y e)⟩
  ·exact(T.rd z j z').mono sub
end
end WS
namespace WS
end WS
namespace WS
end WS
namespace WS
end WS
namespace WS
open PySem PySem.SetTable PyProof.Rows
section
variable {prog:Program}{w:World}{A:Around}{E:zzj}{s:Shared}
theorem Ah{h:Heap}{l:Addr}{o:Obj}{es es':Array (Int×Value)}{ep:Nat}{t t':SetTable}(ho:h.get? l=some o)(hd:o.data=.set es ep t):(h.update l (Obj.putSet es' t')).get? l=some { o with data:=.set es' (ep+1) t' }:=by
 have:=la (Obj.putSet es' t') ho (by rw[putSet_of es' t' hd];rfl)
 rw[putSet_of es' t' hd]at this
 exact this
end
section
variable {prog:Program}{w:World}{A:Around}{E:zzj}{s:Shared}
theorem pM:entryFor table "set.update.loop" = some Builtin.«set.update.loop»:=entryFor_of_tree (by kernel_rfl)
theorem jT:plainId "set.update.loop" = true:=by decide +kernel
end
end WS
set_option maxHeartbeats 3200000
namespace WS
open PySem PySem.SetTable
abbrev sZ(w:World):Obj:={ cls:=.type "set",dict:=none,data:=.set #[] 0 (.fresh 0 0 (!w.params.followText "set-order")) }
section
variable {prog:Program}{w:World}{A:Around}{E:zzj}{s:Shared}
theorem Al{v:Value}{Q₁:zzj}(h:Q₁ (.ref s.heap.objs.size) { s with heap:=s.heap.push (sZ w) }) :
  codeAny (model prog w) A (.call (.builtin "set.__new__") ⟨[.type "set",v],[]⟩) (wants Q₁ E) s:=by
 refine codeAny_of_tree ?_
 show wpAny _ A.in1 (do checkBuiltinCall "set.__new__" ⟨[.type "set",v],[]⟩;again (.builtin "set.__new__" ⟨[.type "set",v],[]⟩)) _ _ s
 refine zza (wpAny_of_eq (F.newCall_set_1 v) (zzb ⟨plainId_quiet F.plain_set_new _,Er F.entry_set_new ?_⟩))
 rw[yp F.plain_set_new _]
 unfold Builtin.«set.__new__» Builtin.Frozenset.newClass
 have hsub:=sub_set_self
 obtain⟨hp,g,d,tk,os⟩:=s
 dsimp only
 wp_walk
 refine wpAny_askSetting (zzb ?_)
 dsimp only
 simp only[newObj]
 refine zza (wpAny_alloc (zzb ?_))
 exact zzb h
theorem tb0(led:Bool):Tb (.fresh 0 0 led) #[] where
 km:=.inl rfl
 du:=rfl
 sz:=rfl
 up:=.nil
 le:=λj h=>absurd h (by simp[SetTable.fresh])
 pl:=rfl
 fu:=eE _
 rd:=λe j h=>absurd h (by simp)
end
end WS
namespace WS
open PySem PySem.SetTable PyProof.Rows
variable {i:Nat}{Q:Bool->Shared->Prop}
theorem pH{α:Type}:∀(l:List α) (i:Nat) (h:i<l.length),(l[i]::l.eraseIdx i).Perm l
 | a::l,0,_=>.refl _
 | a::l,i+1,h=>by
  have:=pH l i (by simpa using h)
  exact(List.Perm.swap _ _ _).trans (this.cons a)
theorem yu{α:Type}(next:Nat->Nat):∀(fuel k:Nat) (left:List α) (out:Array α),left.length<=fuel->(pickOrder.go next fuel k left out).toList.Perm (out.toList++left)
 | 0,k,left,out,h=>by
  have:left=[]:=List.length_eq_zero_iff.mp (by omega)
  subst this
  unfold pickOrder.go
  rw[iz]
 | fuel+1,k,left,out,h=>by
  unfold pickOrder.go
  cases left with
  | nil =>
   rw[List.getElem?_nil,iz]
  | cons a r =>
   have hi:next k % (a::r).length<(a::r).length:=Nat.mod_lt _ (by simp)
   rw[LZ hi]
   dsimp only
   refine(yu next fuel (k+1) _ _ (by rw[List.length_eraseIdx,ai hi];omega)).trans ?_
   rw[Array.toList_push,Ix]
   exact List.Perm.append_left _ (pH _ _ hi)
theorem zQ{α:Type}(next:Nat->Nat)(xs:Array α):(pickOrder next xs).toList.Perm xs.toList:=by
 have:=yu next xs.size 0 xs.toList #[] (by rw[cr];exact ay _)
 simpa[pickOrder]using this
theorem uJ:Manifest.owners.lookup (String.ofList ['r', 'o', 't', 'a', 'r', 'e', 't', 'i', '_', 't', 'e', 's'].reverse)=some Manifest.sig_set_iterator:=by kernel_rfl
theorem slot_next:Slot "set_iterator" "__next__" "set_iterator.__next__" :=
 .of (owner := "set_iterator") (n := "__next__") (by rw[typeLookup_type,builtinLookup_eq_fast];kernel_rfl) (by decide +kernel) (by decide +kernel) (by decide +kernel)
  (by first|exact .inl (by decide +kernel)|exact .inr (by decide +kernel)) (by rw[isSubtype_type];kernel_rfl)
theorem entry_next:entryFor table "set_iterator.__next__" = some Builtin.«set_iterator.__next__»:=entryFor_of_tree (by kernel_rfl)
theorem args_next(a:Value):argsOk "set_iterator.__next__" ⟨[a],[]⟩:=by
 unfold argsOk;rw[signature?_of (id := "set_iterator.__next__") (n:=['_', '_', 't', 'x', 'e', 'n', '_', '_']) (o:=['r', 'o', 't', 'a', 'r', 'e', 't', 'i', '_', 't', 'e', 's']) (by kernel_rfl) uJ];kernel_rfl
theorem qO:Slot "set_iterator" "__iter__" "set_iterator.__iter__" :=
 .of (owner := "set_iterator") (n := "__iter__") (by rw[typeLookup_type,builtinLookup_eq_fast];kernel_rfl) (by decide +kernel) (by decide +kernel) (by decide +kernel)
  (by first|exact .inl (by decide +kernel)|exact .inr (by decide +kernel)) (by rw[isSubtype_type];kernel_rfl)
theorem xA:entryFor table "set_iterator.__iter__" = some Builtin.«dict_keyiterator.__iter__» :=
 entryFor_alias (id' := "dict_keyiterator.__iter__") (by kernel_rfl) rfl (by decide +kernel) (by kernel_rfl)
theorem As(a:Value):argsOk "set_iterator.__iter__" ⟨[a],[]⟩:=by
 unfold argsOk;rw[signature?_of (id := "set_iterator.__iter__") (n:=['_', '_', 'r', 'e', 't', 'i', '_', '_']) (o:=['r', 'o', 't', 'a', 'r', 'e', 't', 'i', '_', 't', 'e', 's']) (by kernel_rfl) uJ];kernel_rfl
theorem pK:entryFor table "set.__iter__" = some Builtin.«frozenset.__iter__» :=
 entryFor_alias (id' := "frozenset.__iter__") (by kernel_rfl) rfl (by decide +kernel) (by kernel_rfl)
section
variable {prog:Program} {w:World} {A:Around} {E:zzj} {s:Shared} {l it:Addr} {o:Obj} {es:Array (Int×Value)} {ep:Nat} {t:SetTable}
def byT(w:World):Bool:=w.params.followText "set-order"
def wl(w:World)(l:Addr)(ep:Nat)(es:Array (Int×Value)):Array (Int×Value):=if byT w then pickOrder (w.params.setOrder l ep) es else es
theorem wl_perm:(wl w l ep es).toList.Perm es.toList:=by
 unfold wl
 split
 ·exact zQ _ _
 ·exact .refl _
theorem rY:(wl w l ep es).size=es.size:=by have:=(wl_perm (w:=w) (l:=l) (ep:=ep) (es:=es)).length_eq;rwa [cr,cr]at this
def sl(w:World)(t:SetTable):Nat->Nat
 | 0=>0
 | i+1=>if byT w then 0 else t.place.getD i 0+1
theorem AZ(T:Tb t es)(hb:byT w=false)(hi:i<=es.size):below t.place (sl w t i)=i:=by
 cases i with
 | zero=>exact EB T.up
 | succ i =>
  unfold sl
  rw[hb]
  have h:i<t.place.size:=by rw[T.sz];omega
  refine xI T.up ?_
  rw[LJ,de h];rfl
theorem wv(h:Q (byT w) s):wpAny (model prog w) A setsByText Q E s:=zza (wpAny_askSetting (zzb h))
theorem Ho(ho:s.heap.get? l=some o)(hd:o.data=.set es ep t)(T:Tb t es)(h:Q false s):wpAny (model prog w) A (setDrawn l) Q E s:=by
 unfold setDrawn
 refine zza (LU ho hd T.fits (zza (wv (zzb ?_))))
 show Q (!byT w&&(!t.plain&&decide (es.size>1))) s
 rw[T.pl,Bool.not_true,yi,Bool.and_false]
 exact h
theorem Jn{Q:Option (Value×Nat)->Shared->Prop}(ho:s.heap.get? l=some o)(hd:o.data=.set es ep t)(T:Tb t es)(hled:t.led = !byT w)(hi:i<=es.size)
  (h:Q ((wl w l ep es)[i]?.map λe=>(e.2,sl w t (i+1))) s):wpAny (model prog w) A (setNext l (sl w t i) i ep) Q E s:=by
 unfold setNext
 refine zza (LU ho hd T.fits (zza (wv ?_)))
 cases hb:byT w with
 | true =>
  rw[ai rfl]
  dsimp only
  rw[ac (by simp)]
  unfold setWalk
  refine zza (zza (LU ho hd T.fits (zza (wv ?_))))
  rw[hb,ai rfl]
  refine zza (wpAny_askSetting (zzb (zzb ?_)))
  have e0:∀k,sl w t k=0:=λk=>by
   cases k with
   | zero=>rfl
   | succ k =>
    show(if byT w then 0 else t.place.getD k 0+1)=0
    rw[hb];rfl
  have e1:sl w t i=sl w t (i+1):=(e0 _).trans (e0 _).symm
  unfold wl at h
  rw[hb,ai rfl]at h
  rw[e1]
  exact h
 | false =>
  rw[ac (by decide)]
  dsimp only
  refine(show wpAny _ _ (if(!t.plain&&decide (es.size>1))=true then _ else _) _ _ _ from ?_)
  rw[ac (show ¬ ((!t.plain&&decide (es.size>1))=true) by rw[T.pl];simp)]
  refine zza ?_
  show wpAny _ _ (if(!t.led && !es.isEmpty)=true then unsupported "set:maker-not-led" else pure ()) _ _ s
  rw[ac (by rw[hled,hb];simp)]
  refine zzb ?_
  rw[AZ T hb hi]
  refine zzb ?_
  unfold wl at h
  rw[hb,ac (by decide)]at h
  by_cases hs:i<es.size
  ·have h2:i<t.place.size:=by rw[T.sz];exact hs
   rw[de hs,de h2]
   rw[de hs]at h
   have:sl w t (i+1)=t.place[i]+1:=by
    show(if byT w then 0 else t.place.getD i 0+1)=_
    rw[hb,ac (by decide),LJ,de h2];rfl
   rw[Option.map_some,this]at h
   exact h
  ·rw[sk (by omega),sk (by rw[T.sz];omega)]
   rw[sk (by omega)]at h
   exact h
end
section
variable {prog:Program} {w:World} {A:Around} {E:zzj} {s:Shared} {l it:Addr} {o:Obj} {es:Array (Int×Value)} {ep:Nat} {t:SetTable}
def itO(w:World)(l:Addr)(t:SetTable)(n ep i:Nat):Obj:={ cls:=.type "set_iterator",data:=.fields #[.int (sl w t i) 0,.int i 0,.ref l,.int n 0,.int ep 0] }
def IsSI(w:World)(h:Heap)(it l:Addr)(t:SetTable)(n ep i:Nat):Prop:=∃o,h.get? it=some o/\o.cls=.type "set_iterator" /\ o.data=.fields #[.int (sl w t i) 0,.int i 0,.ref l,.int n 0,.int ep 0]
theorem IsSI.ty{n:Nat}(x:IsSI w s.heap it l t n ep i):s.TypeIs (.ref it) "set_iterator":=let ⟨o,e,c,_⟩:=x;⟨o,e,c⟩
theorem IsSI.kp{h h':Heap}{n:Nat}(x:IsSI w h it l t n ep i)(k:∀o,h.get? it=some o->h'.get? it=some o):IsSI w h' it l t n ep i:=let ⟨o,e,r⟩:=x;⟨o,k o e,r⟩
theorem G9{Q:zzj}(ho:s.heap.get? l=some o)(hex:o.ExactSet)(hd:o.data=.set es ep t)(T:Tb t es)(q:Q (.ref s.heap.objs.size) { s with heap:=s.heap.push (itO w l t es.size ep 0) }) :
  wpAny (model prog w) A (pyIter (.ref l)) Q E s:=by
 have hT:s.TypeIs (.ref l) "set":=⟨o,ho,hex.1⟩
 refine wpAny_pyIter_slot hT F.slot_set_iter (y3 F.slot_set_iter hT pK ?_ (F.args_set_iter_1 _))
 unfold Builtin.«frozenset.__iter__»
 refine(show wpAny (model prog w) _ (Builtin.Frozenset.sizeOf l >>= _) _ _ s from ?_)
 unfold Builtin.Frozenset.sizeOf
 refine zza (zza (wpAny_setEntries_of ho hd T.fits (zzb (zza (Ho ho hd T ?_)))))
 rw[ac (by decide)]
 refine zza (zzb (zza (wpAny_setEpoch_of ho hd T.fits (zza (mo (zzb ⟨_,rfl, "set_iterator",_,⟨_,zze _ rfl,rfl⟩,slot_next.lookup,?_⟩))))))
 simpa[rawInt,itO,sl]using q
theorem BG{Q:Option Value->Shared->Prop}(hit:IsSI w s.heap it l t es.size ep i)(ho:s.heap.get? l=some o)(hd:o.data=.set es ep t)(T:Tb t es)(hled:t.led = !byT w)(hi:i<=es.size)
  (q1:∀(h:i<(wl w l ep es).size) (h':Heap),IsSI w h' it l t es.size ep (i+1)->Heap.SameBut it s.heap h'->Q (some (wl w l ep es)[i].2) { s with heap:=h' })
  (q2:es.size<=i->A.handled=none/\∀h',Heap.ExtBut it s.heap h'->Q none { s with heap:=h' }):wpAny (model prog w) A (pyNext (.ref it)) Q E s:=by
 obtain⟨oi,hoi,hc,hdi⟩:=id hit
 have hTi:=hit.ty
 unfold pyNext
 refine zza (wpAny_attempt (L6 (name:=Str.ofString "__next__") hTi slot_next (y3 slot_next hTi entry_next ?_ (args_next _))))
 unfold Builtin.«set_iterator.__next__»
 refine(show wpAny (model prog w) _ (fieldsOf (.ref it) >>= _) _ _ s from zza (wpAny_fieldsOf hoi hdi ?_))
 dsimp only
 refine zza (wpAny_setEntries_of ho hd T.fits ?_)
 rw[ac (by simp)]
 rw[IN,IN,IN]
 refine zza (Jn ho hd T hled hi ?_)
 by_cases hw:i<(wl w l ep es).size
 ·rw[de hw]
  dsimp only[Option.map_some]
  refine zza (xv hoi hdi (by simp) ?_)
  have h1:=la (h:=s.heap) (Obj.mapFields (·.setIfInBounds 0 (rawInt (sl w t (i+1))))) hoi (sE (ib hdi _))
  have d1:(Obj.mapFields (·.setIfInBounds 0 (rawInt (sl w t (i+1)))) oi).data=.fields #[.int (sl w t (i+1)) 0,.int i 0,.ref l,.int es.size 0,.int ep 0]:=by rw[ib hdi];simp[rawInt]
  refine zza (xv h1 d1 (by simp) ?_)
  refine zzb ⟨_,rfl,zzb (q1 hw _ ⟨_,la _ h1 (sE (ib d1 _)),(LV ..).trans ((LV ..).trans hc),by rw[ib d1];simp[rawInt]⟩ ((Heap.SameBut.update ..).trans (Heap.SameBut.update ..)))⟩
 ·rw[sk (by omega)]
  obtain⟨hh,q⟩:=q2 (by rw[rY]at hw;omega)
  dsimp only[Option.map_none]
  refine zza (xv hoi hdi (by simp) ?_)
  refine(show wpAny (model prog w) _ (newExc (.type "StopIteration") [] >>= _) _ _ _ from zza ?_)
  simp only[newExc,newTuple]
  refine zza (mo ?_ (by size_fits))
  refine zza (m:=firstArgMember _ _) (wpAny_of_eq (a:=Value.none) (by first|rfl|(simp only[firstArgMember];rfl)) ?_)
  refine mo ?_ (by size_fits)
  simp only[raiseNew]
  refine zza (wpAny_handled ?_)
  rw[show A.in1.handled=none from hh]
  refine zza (zzb (wpAny_throw ?_))
  refine zza (wpAny_isInstance (T := "StopIteration") (b:=true) (by exact⟨_,zze _ rfl,rfl⟩) isSubtype_stop ?_)
  exact zzb (q _ (((Heap.SameBut.update ..).extBut.push _).push _))
theorem B4(hT:s.TypeIs (.ref l) "set")(h:Q false s):wpAny (model prog w) A (Builtin.List.listLengthHint (.ref l)) Q E s:=by
 unfold Builtin.List.listLengthHint
 refine zza (wpAny_specialOf hT PySem.F.slot_set_len.lookup ?_)
 generalize hid:("set.__len__" : String)=id0
 wp_delta
 rw[show splitId id0=some ("set", "__len__")from by subst hid;decide +kernel]
 subst hid
 refine zza (wpAny_isInstance (T := "set") (b:=true) hT (by rw[isSubtype_type];kernel_rfl) ?_)
 refine wpAny_ite_split (λhab=>absurd hab (by decide)) (λ_=>?_)
 refine wpAny_ite_split (λ_=>?_) (λhab=>absurd (by decide +kernel) hab)
 refine zza (wpAny_typeOf hT ?_)
 exact zzb h
theorem Dg(hex:o.ExactSet)(hd:o.data=.set es ep t)(T:Tb t es)(hled:t.led = !byT w):PySem.W.KdlSrc prog w "set" l l es.size (λi v=>∃e,(wl w l ep es)[i]? = some e/\v=e.2) (λh=>h.get? l=some o) where
 type:=λ_ x=>⟨o,x,hex.1⟩
 there:=λh x=>⟨be x,be x⟩
 keep:=λ_ _ x k=>k l (.inl rfl) o x
 notList:=by decide
 notTuple:=by decide
 hint:=λ_ _ _ _ x q=>B4 ⟨o,x,hex.1⟩ q
 iter:=λA s hh x=>by
  have hne:l≠s.heap.objs.size:=bu (be x)
  refine⟨_,λi h=>IsSI w h s.heap.objs.size l t es.size ep i/\h.get? l=some o,λE Q q=>G9 x hex hd T q,⟨?_,?_,?_,?_,?_⟩,⟨_,zze _ rfl,rfl,rfl⟩,zzc _ x⟩
  ·intro b hb
   rw[List.mem_singleton.mp hb]
   exact au
  ·intro i h h' st k
   exact⟨st.1.kp λo e=>k _ au o e,k l (by simp) o st.2⟩
  ·intro i s1 Q E hi st q
   refine BG st.1 st.2 hd T hled (by omega) (λhi h' a1 a2=>q _ h' s1.toks ⟨_,de hi,rfl⟩ ⟨a1,a2.extBut l o hne st.2⟩ λb o hb e=>a2.extBut b o (λz=>hb (by simp[z])) e) λz=>absurd hi (by lia)
  ·intro s1 Q E st q
   exact BG st.1 st.2 hd T hled (ay _) (λhi=>absurd hi (by rw[rY];exact ny _)) λ_=>⟨hh,λh' a=>q h' s1.toks λb o hb e=>a b o (λz=>hb (by simp[z])) e⟩
  ·intro i s1 Q E st q
   refine wpAny_pyIter_slot st.1.ty qO (y3 qO st.1.ty xA ?_ (As _))
   show wpAny _ _ (ret (.ref _)) _ _ s1
   exact zzb ⟨_,rfl, "set_iterator",_,st.1.ty,slot_next.lookup,q⟩
end
end WS
namespace L4
open PySem PySem.Spec PyProof.Rows L2 L3 TS WS
def xB(acc:List D)(d:D):List D:=if keyD d∈acc.map keyD then acc else acc++[d]
def El(ds:List D):List D:=ds.foldl xB []
theorem n9{α β:Type}{f:α->β}:∀{l:List β} {zs:List α},l.Perm (zs.map f)->∃zs':List α,zs'.Perm zs/\l=zs'.map f
 | [],zs,h=>by
  have:zs=[]:=by have:=h.length_eq;rw[zzd]at this;exact List.length_eq_zero_iff.mp this.symm
  subst this
  exact⟨[],.refl _,rfl⟩
 | x::l,zs,h=>by
  obtain⟨z,hz,rfl⟩:=List.mem_map.mp (h.mem_iff.mp au)
  obtain⟨as,bs,rfl⟩:=List.append_of_mem hz
  have h2:(f z::l).Perm (f z::(as++bs).map f):=h.trans (by rw[jo,ba,jo];exact List.perm_middle)
  obtain⟨zs',p1,p2⟩:=n9 h2.cons_inv
  exact⟨z::zs',(p1.cons z).trans List.perm_middle.symm,by rw[ba,p2]⟩
theorem BZ{es:Array (Int×Value)}{acc:Array Value}(h:ItemsOf (λi v=>∃e,es[i]? = some e/\v=e.2) acc es.size):acc.toList=es.toList.map (·.2):=by
 apply List.ext_getElem?
 intro j
 rw[ir,ug,ir]
 cases q:acc[j]? with
 | some v =>
  obtain⟨e,e1,rfl⟩:=h.2 j v q
  rw[e1];rfl
 | none =>
  have:es.size<=j:=by rw[<-h.1];exact Array.getElem?_eq_none_iff.mp q
  rw[sk this];rfl
end L4
namespace L4
open PySem PySem.Spec PyProof.Rows L2 L3
theorem vM{S:Type}{X:Cx}{e:Expr}{es:List Expr}{name:Str}{apos cpos p0:Pos}{id:String}{ms:Ev S (List D)}{x:Str}{j}{f:D->List D->Option D}(pa:PlainAttrs "str")(slot:Slot "str" name id)(hty:typeOf (.builtin id)=pure (.type "method_descriptor"))(hm:MtR X id (Bi X.K f))(ha:AEa X (e::es) ms)
  (hbase:attributeBase (.Constant (.str x) j p0) name X.env (eval (.Constant (.str x) j p0) X.env)=eval (.Constant (.str x) j p0) X.env)
  (hfew:((backTo cpos (starEach (e::es) X.env)).all (λx=>!x.1)&&(backToKw cpos (keywordEach [] X.env)).all (λx=>x.1.isSome)
   && decide ((e::es).length+([]:List Keyword).length+(if([]:List Keyword).isEmpty then 0 else 1)<30))=true)
  (hline:(apos.endLine==cpos.line)=true) (hs:starEach (e::es) X.env=(false,eval e X.env)::starEach es X.env) (hplain:(backTo cpos (starEach es X.env)).any (·.1)=false) :
  AE X (.Call (.Attribute (.Constant (.str x) j p0) name apos) (e::es) [] cpos) (JK (f (.str x)) ms) :=
 λOK y k G F Z H ρ Q hO hX St ok kk=>sem (sF (T := "str") pa slot hty hm og cx hbase hfew hline hs hplain) ⟨.inl rfl,ha OK y _ G F Z H ρ _ hO hX St ok λds vs F1 H1 ρ1 s1 S1 _ r1 o1=>by
  obtain⟨res,e,o'⟩:=iP hO o1
  exact⟨_,F1,_,ρ1,.str x,ds,res,S1,.inl (.str x),r1,e,λy F2 H2 s2 S2 r3=>kk res y F2 H2 ρ1 (s1.trans s2) S2 r3 o'⟩⟩
abbrev cKv(p:Str×Int):Key×V:=(.inr p.1,.int p.2)
theorem qV:∀(kvs:List (Str×Int)) {Z:L2.St} {H:Hp} {Q:List (V×V)->Hp->Prop},Q (kvs.map λp=>(V.str p.1,V.int p.2)) H->rZ (kvs.map λp=>(tC (.str p.1),tC (.int p.2))) Z H Q
 | [],_,_,_,h=>h
 | p::r,_,_,_,h=>qV r h
theorem ints_rep{K:Fg}(F:Hp):∀kvs:List (Str×Int),RepL K F ((kvs.map cKv).map (·.2)) ((kvs.map λp=>(PyData.str p.1,PyData.int p.2)).map (·.2))
 | []=>.nil
 | q::r=>.cons (.int _) (ints_rep F r)
theorem EH{X:Cx}{keys:List (Option Expr)}{values:List Expr}{pos:Pos}(kvs:List (Str×Int))(h:PPs X pos keys values (kvs.map λp=>(tC (.str p.1),tC (.int p.2))))(hall:keys.all (·.isSome)=true)(hl:keys.length=values.length)(h0:keys≠[])(h15:keys.length<=15)(h16:kvs.length<=15)(hm:lX [] (kvs.map cKv)=kvs.map cKv) :
  AP X (.Dict keys values pos) (uI (.dict (kvs.map λp=>(.str p.1,.int p.2)))):=by
 intro G F Z H ρ Q St w
 refine sem (DA h hall hl h0 h15) λp hp=>?_
 have fp:=St.fh.free hp
 have op:=St.oh.free hp
 refine qV kvs ⟨aR,kvs.map cKv,by rw[li];rfl,by rw[zzd];exact h16,?_⟩
 rw[hm]
 have S1:=(St.lay (o:=.dK []) hp).hold (p:=p) (o:=.dK []) aR fp (St.fresh_ne hp)
 obtain⟨S4,hp2,fp2,ne2⟩:=S1.unhold op
 have S5:=(S4.relay (o:=.dK (kvs.map cKv)) fp2 op ne2).freeze (a:=p) (o:=.dK (kvs.map cKv)) aR fp2 op ne2
 refine w _ _ (eM fp2) S5 (.ref p) (.dck aR ?_ ?_)
 ·rw[li,li];rfl
 ·exact ints_rep _ kvs
end L4
namespace WS
open PySem PySem.SetTable PyProof.Rows
variable {xs:List (Int×Tok)}{l:Addr}
section
variable {prog:Program} {w:World} {A:Around} {E:zzj} {s:Shared}
abbrev eI(p:Int×Tok):Int×Value:=(hashInt p.1,.int p.1 p.2)
def Sy(w:World)(h:Heap)(l:Addr)(xs:List (Int×Tok)):Prop :=
 ∃o es ep t,h.get? l=some o/\o.ExactSet/\o.data=.set es ep t/\Tb t es/\t.mask=7/\es.toList.Perm (xs.map eI)/\t.led = !w.params.followText "set-order"
def gz(xs:List (Int×Tok))(p:Int×Tok):List (Int×Tok):=if p.1∈xs.map (·.1)then xs else xs++[p]
def Fw(xs:List (Int×Tok)):Prop:=(xs.map (·.1)).Nodup/\∀p∈xs,0<=p.1/\p.1<4
theorem CT{p q:Int×Tok}(h:q∈gz xs p):q=p\/q∈xs:=by
 unfold gz at h
 split at h
 ·exact .inr h
 ·rcases List.mem_append.mp h with h|h
  ·exact .inr h
  ·exact .inl (List.mem_singleton.mp h)
theorem Fw.add(f:Fw xs){p:Int×Tok}(h1:0<=p.1)(h2:p.1<4):Fw (gz xs p):=by
 refine⟨?_,λq hq=>?_⟩
 ·unfold gz
  split
  ·exact f.1
  ·rename_i hn
   rw[jo,List.nodup_append]
   exact⟨f.1,by simp,λa ha b hb=>by
    rw[List.map_singleton,List.mem_singleton]at hb
    subst hb
    exact λz=>hn (z▸ha)⟩
 ·rcases CT hq with rfl|hq
  ·exact⟨h1,h2⟩
  ·exact f.2 q hq
theorem Fw.len(f:Fw xs):xs.length<=4:=by
 have:∀(l m:List Int),l.Nodup->(∀x∈l,x∈m)->l.length<=m.length:=by
  intro l
  induction l with
  | nil=>intro m _ _;exact eE _
  | cons a l ih =>
   intro m hn hs
   rw[List.nodup_cons]at hn
   have ha:=hs a au
   have h:=ih (m.erase a) hn.2 λx hx=>by
    have:x≠a:=λz=>hn.1 (z▸hx)
    exact(List.mem_erase_of_ne this).mpr (hs x (zzg _ hx))
   rw[List.length_erase_of_mem ha]at h
   have:0<m.length:=List.length_pos_of_mem ha
   rw[ci]
   omega
 have h:=this (xs.map (·.1)) [0,1,2,3] f.1 λx hx=>by
  obtain⟨p,hp,rfl⟩:=List.mem_map.mp hx
  have:=f.2 p hp
  simp only[fe,fi,se]
  omega
 rw[zzd]at h
 exact h
theorem Fw.lt(f:Fw xs){x:Int}(h1:0<=x)(h2:x<4)(hn:x∉xs.map (·.1)):xs.length<4:=by
 have:=(f.add (p:=(x,default)) h1 h2).len
 unfold gz at this
 rw[ac hn,zzf,List.length_singleton]at this
 omega
theorem EO{x:Int}{tk:Tok}{Q:Bool->Shared->Prop}(hS:Sy w s.heap l xs)(hF:Fw xs)(h1:0<=x)(h2:x<4)
  (h:∀r h',Heap.SameBut l s.heap h'->Sy w h' l (gz xs (x,tk))->Q r { s with heap:=h' }):wpAny (model prog w) A (setAddHashed l (.int x tk) (hashInt x)) Q E s:=by
 obtain⟨o,es,ep,t,ho,hex,hd,T,hm7,hp,hled⟩:=hS
 have hlen:es.size=xs.length:=by have:=hp.length_eq;rwa [cr,zzd]at this
 have hx4:=hF.len
 have hel:ElemsOf (intKind prog w) es.toList:=λe he=>by
  obtain⟨p,hp1,rfl⟩:=List.mem_map.mp (hp.mem_iff.mp he)
  exact⟨⟨p.1,intKind_is _ _ _ _,rfl⟩,rfl⟩
 have hb:es.size<scanBound:=by rw[hlen];unfold scanBound;omega
 have hkey:(intKind prog w).is x (.int x tk)=true:=intKind_is _ _ _ _
 have hfm:∀e∈es.toList,(intKind prog w).is x e.2=true->x∈xs.map (·.1):=λe he hi=>by
  obtain⟨p,hp1,rfl⟩:=List.mem_map.mp (hp.mem_iff.mp he)
  exact List.mem_map.mpr ⟨p,hp1,(intKind prog w).inj _ _ _ (intKind_is prog w p.1 p.2) hi⟩
 unfold setAddHashed setAddHashedIn
 refine ng (zza (LU ho hd T.fits ?_))
 dsimp only
 rw[byScan_of (knd:=intKind prog w) rfl hb hel]
 simp only[↓reduceIte]
 unfold setAddByScan
 refine zza ?_
 refine zza (L9 ?_)
 refine zza (wpAny_setScan_of (knd:=intKind prog w) (k:=x) hkey ho hd T.fits hel ?_)
 cases hr:List.findIdx? (λe=>(intKind prog w).is x e.2) es.toList with
 | some j =>
  dsimp only
  obtain⟨hj,hpj,_⟩:=List.findIdx?_eq_some_iff_getElem.mp hr
  have hin:=hfm _ (List.getElem_mem hj) hpj
  refine zzb (zzb ?_)
  have e:s={ s with heap:=s.heap }:=by cases s;rfl
  rw[e]
  exact h _ _ (Heap.SameBut.refl l s.heap) ⟨o,es,ep,t,ho,hex,hd,T,hm7,by unfold gz;rw[ai hin];exact hp,hled⟩
 | none =>
  dsimp only
  have hout:x∉xs.map (·.1):=λhin=>by
   obtain⟨p,hp1,hp2⟩:=List.mem_map.mp hin
   have hm:eI p∈es.toList:=hp.mem_iff.mpr (List.mem_map.mpr ⟨p,hp1,rfl⟩)
   have:=List.findIdx?_eq_none_iff.mp hr _ hm
   rw[<-hp2,intKind_is]at this
   exact Bool.noConfusion this
  have hlt:=hF.lt h1 h2 hout
  obtain⟨k,j0,r1,r2,r3,r4⟩:=T.free (hashInt x)
  have hns:t.place.size=xs.length:=by rw[T.sz,hlen]
  obtain⟨T1,q1,q2,q3⟩:=T.put (x:=.int x tk) r1 r3 r4 (by rw[hm7,hns];omega)
  have fs:t.freeSlot (hashInt x)=some (j0,false):=by
   unfold SetTable.freeSlot
   have g:=Fz (f:=λ_=>hashInt x+1) T k (10*turns t.mask) _ _ j0 (CB t (hashInt x)) r1 r3 r4 r2 (h:=hashInt x)
   rcases g with ⟨r,_⟩|⟨k',i,j,nx,_,_,_,z,_⟩
   ·unfold SetTable.probe
    rw[r]
    rfl
   ·omega
  have ln:layNew t es (hashInt x) (.int x tk)=(insertAt es (t.put j0).2 (hashInt x,.int x tk),(t.put j0).1,false,false):=by
   unfold layNew
   rw[fs]
   dsimp only
   unfold SetTable.orStandIn
   rw[T1.fits]
   rfl
  rw[ln]
  dsimp only
  refine zza (show wpAny _ _ (pure ()) _ _ _ from zzb ?_)
  rw[T1.pl,ai rfl]
  refine zza ?_
  rw[hashByValue_scannable 8 rfl]
  refine zzb ?_
  rw[show plainKind (.int x tk)=true from rfl,ai rfl]
  have hsl:(insertAt es (t.put j0).2 (hashInt x,Value.int x tk)).size<=sizeLine:=by
   rw[dk,hlen]
   exact bj (show xs.length+1<=1000 by omega) (by decide)
  refine zza (wpAny_storeSet_of ho hd ?_ hsl)
  have ho1:=Ah (es':=insertAt es (t.put j0).2 (hashInt x,Value.int x tk)) (t':=(t.put j0).1) ho hd
  have hfl:(t.put j0).1.tooFull=false:=by
   unfold SetTable.tooFull
   rw[T1.fill,q3,q1,hns,hm7]
   exact bi (by omega)
  rw[hfl,ac (by decide)]
  refine zzb ?_
  dsimp only
  refine zzb (h _ _ (Heap.SameBut.update s.heap l _) ⟨_,_,_,_,ho1,hex,rfl,T1,q1.trans hm7,?_,q2.trans hled⟩)
  unfold gz
  rw[ac hout]
  refine(Mc es _ _).trans ?_
  rw[Array.toList_push,jo]
  exact hp.append (.refl _)
theorem Sy.kp{h h':Heap}(S:Sy w h l xs)(k:∀o,h.get? l=some o->h'.get? l=some o):Sy w h' l xs:=let ⟨o,es,ep,tb,e,r⟩:=S;⟨o,es,ep,tb,k o e,r⟩
theorem BK{R:Result->Shared->Prop}(hh:A.handled=none){it p:Addr}{items:Array Value}(n1:l≠it)(n2:l≠p)(n3:it≠p):∀(rest:List (Int×Tok)) (i:Nat) (s:Shared) (xs:List (Int×Tok)),
  s.heap.IsListIter it p i->s.heap.IsList p items->items.toList.drop i=rest.map (λq=>Value.int q.1 q.2)->(∀q∈rest,0<=q.1/\q.1<4)->Sy w s.heap l xs->Fw xs ->
  (∀h' tk,(∀b o,b≠l->b≠it->s.heap.get? b=some o->h'.get? b=some o)->Sy w h' l (rest.foldl gz xs)->R (.ok (.ret .none)) { s with heap:=h',toks:=tk }) ->
  codeAny (model prog w) A (.builtin "set.update.loop" ⟨[.ref l,.ref it],[]⟩) R s:=by
 intro rest
 induction rest with
 | nil =>
  intro i s xs hit hl hd _ hS _ hR
  refine Er pM ?_
  rw[yp jT _]
  show wpAny _ A.in1 (pyNext (.ref it) >>= _) _ _ s
  have hx:items[i]? = none:=by
   rw[Array.getElem?_eq_none_iff,<-cr]
   have:=congrArg List.length hd
   rw[u8,wE,ou]at this
   omega
  refine zza (wpAny_pyNext_list_end (show A.in1.handled=none from hh) hit hl hx λh' e=>?_)
  exact zzb (hR h' s.toks (λb o _ hb z=>e b o hb z) (hS.kp λo z=>e l o n1 z))
 | cons q rest ih =>
  intro i s xs hit hl hd hT hS hX hR
  refine Er pM ?_
  rw[yp jT _]
  show wpAny _ A.in1 (pyNext (.ref it) >>= _) _ _ s
  have hx:items[i]? = some (.int q.1 q.2):=by
   have:=congrArg (λl=>l[0]?) hd
   simp only[List.getElem?_drop,Nat.add_zero,ba,List.getElem?_cons_zero,ir]at this
   exact this
  refine zza (wpAny_pyNext_list_item hit hl hx λh1 it1 sb1=>?_)
  dsimp only
  obtain⟨b1,b2⟩:=hT q au
  have S1:Sy w h1 l xs:=hS.kp λo e=>(sb1.2 l n1).trans e
  have l1:h1.IsList p items:=by obtain⟨o,e,r⟩:=hl;exact⟨o,(sb1.2 p (λz=>n3 z.symm)).trans e,r⟩
  refine zza (ng ?_)
  unfold setAdd
  refine ng (zza ((intKind prog w).pyHash (s:={ s with heap:=h1 }) (k:=q.1) (intKind_is _ _ _ _) ?_))
  refine EO (s:={ s with heap:=h1,toks:=_ }) S1 hX b1 b2 λr h2 sb2 S2=>?_
  refine zzb ⟨plainId_quiet jT _,?_⟩
  refine ih (i+1) _ (gz xs q) (it1.at λo e=>(sb2.2 it (λz=>n1 z.symm)).trans e) (by obtain⟨o,e,r⟩:=l1;exact⟨o,(sb2.2 p (λz=>n2 z.symm)).trans e,r⟩) (by rw[<-List.drop_drop,hd];rfl) (λy hy=>hT y (zzg _ hy)) S2 (hX.add b1 b2) λh' tk kp S'=>?_
  exact hR h' tk (λb o c1 c2 e=>kp b o c1 c2 ((sb2.2 b c1).trans ((sb1.2 b c2).trans e))) S'
theorem sy0{h:Heap}(e:h.get? l=some (sZ w)):Sy w h l []:=⟨_,#[],0,_,e,⟨rfl,rfl,rfl⟩,rfl,tb0 _,rfl,.nil,rfl⟩
theorem An{p:Addr}{items:Array Value}{Q:zzj}(hh:A.handled=none)(hu:A.units+10<cLine)(hl:s.heap.IsList p items)(hi:items.toList=xs.map (λq=>Value.int q.1 q.2))(hx:∀q∈xs,0<=q.1/\q.1<4)
  (h:∀h' tk,(∀b o,s.heap.get? b=some o->h'.get? b=some o)->Sy w h' s.heap.objs.size (xs.foldl gz [])->Q (.ref s.heap.objs.size) { s with heap:=h',toks:=tk }) :
  wpAny (model prog w) A (call (.type "set") [.ref p]) Q E s:=by
 obtain⟨c,tl,hmro⟩:=F.called_set.mro
 have hmade:=F.called_set.made
 have hsub:=F.called_set.sub
 refine wpAny_call (codeAny_of_tree ?_)
 show wpAny _ _ (callAny (.type "set") _) _ _ _
 refine zzb ⟨LQ _ (by decide +kernel),Er F.entry_type_call ?_⟩
 rw[Around.under_plain (weight_type_call_type "set" [.ref p] []) rfl]
 have h1:=F.called_set.notType
 have h2:=F.called_set.canCreate
 have hct:=F.typeCall_set_1 (.ref p)
 repeat (any_goals (first|assumption|wp_step))
 refine GU (Al (v:=.ref p) (E:=E) (Q₁:=λobj s₁=>obj=.ref s.heap.objs.size/\s₁={ s with heap:=s.heap.push (sZ w) }) ⟨rfl,rfl⟩) λr s₁ hr=>?_
 cases r with
 | error e=>exact hr
 | ok fl =>
  cases fl with
  | ret obj =>
   obtain⟨rfl,rfl⟩:=hr
   have hS:(s.heap.push (sZ w)).get? s.heap.objs.size=some (sZ w):=zze _ rfl
   have hT:Shared.TypeIs { s with heap:=s.heap.push (sZ w) } (.ref s.heap.objs.size) "set":=⟨_,hS,rfl⟩
   have hli:=F.called_set.init.lookup
   have hbi:=F.called_set.init.bind (.ref s.heap.objs.size)
   repeat (any_goals (first|assumption|wp_step))
   refine GU (xz (R:=wants (λr s₂=>r=.none/\∃h' tk,s₂={ s with heap:=h',toks:=tk } /\
     Sy w h' s.heap.objs.size (xs.foldl gz [])/\(∀b o,s.heap.get? b=some o->h'.get? b=some o)) E) F.called_set.init.plain F.entry_set_init (check_set_init_1 hT ?_)) λr₂ s₂ hr₂=>?_
   ·obtain⟨ol,hol,hcl,nl,hdl⟩:=hl
    obtain⟨ocls,odict,odata,oslots⟩:=ol
    simp only at hcl hdl
    subst hcl;subst hdl
    have hol':(s.heap.push (sZ w)).get? p=some { cls:=.type "list",dict:=odict,data:=.seq items nl,slots:=oslots }:=zzc _ hol
    have hsls:=F.sub_list_set
    have hslf:=F.sub_list_frozenset
    have hne:(Value.type "list" == Value.type "dict")=false:=by decide
    have hl1:(s.heap.push (sZ w)).IsList p items:=⟨_,hol',rfl,nl,rfl⟩
    unfold Builtin.«set.__init__» noKeywords Builtin.Frozenset.updateFrom
    generalize hPI:pyIter=PI
    wp_walk
    subst hPI
    refine wpAny_pyIter_list hl1 ?_
    refine zza (wpAny_runValue ?_)
    have hlS:p<s.heap.objs.size:=be hol
    have hh3:A.in1.in1.handled=none:=by simp[hh]
    refine BK hh3 (it:=(s.heap.push (sZ w)).objs.size) (p:=p) (items:=items) (by rw[ve];exact bu (Lw _)) (HI hlS) (by rw[ve];exact HI (om hlS)) xs 0 _ [] ⟨_,zze _ rfl,rfl,rfl⟩ (hl1.push _) (by rw[List.drop_zero];exact hi)
     hx (sy0 (zzc _ hS)) ⟨.nil,λq hq=>nomatch hq⟩ λh' tk kp S'=>?_
    show wpAny _ _ _ _ _ _
    refine zzb ?_
    show wpAny _ _ (ret Value.none) _ _ _
    refine zzb ⟨rfl,h',tk,rfl,S',λb o e=>?_⟩
    have hb:=be e
    exact kp b o (bu hb) (by rw[ve];exact bu (om hb)) (zzc _ (zzc _ e))
   ·cases r₂ with
    | error e=>exact hr₂
    | ok fl₂ =>
     cases fl₂ with
     | ret r =>
      obtain⟨rfl,h',tk,rfl,hS',hk'⟩:=hr₂
      repeat (any_goals (first|assumption|wp_step))
      exact h _ _ hk' hS'
     | _=>exact hr₂.elim
  | _=>exact hr.elim
end
end WS
namespace L4
open PySem PySem.Spec PyProof.Rows L2 L3 TS WS
variable {X:Cx}
def SV(X:Cx)(l:Addr)(zs:List (Int×Tok)):HO:=.ext λh=>Sy X.w h l zs
abbrev iD(p:Int×Tok):D:=.int p.1
def Ac:D->Bool
 | .int i=>decide (0<=i)&&decide (i<4)
 | _=>false
def lI(ds:List D):Bool:=decide (ds.length<=30000)&&ds.all Ac
theorem nC{d:D}(h:Ac d=true):∃i,d=.int i/\0<=i/\i<4:=by
 unfold Ac at h
 split at h
 ·rw[am,zzi,zzi]at h
  exact⟨_,rfl,h⟩
 ·cases h
def yZ:List D->Option (List D)
 | [.list ds]=>if lI ds then some (gB (El ds))else none
 | _=>none
def Iz(X:Cx):List V->Hp->VK->Prop:=λxs H Q=>∃(G:Gh) (F:Hp) (Z:L2.St) (ρ:En) (x:V) (ds:List D),xs=[x]/\StOk X.K G F Z H ρ/\OR X.K F H x (.list ds)/\lI ds=true /\
 ∀(l:Addr) (zs:List (Int×Tok)),H l=none->zs.map iD=ds->Fw (zs.foldl gz [])->Q (.ref l) (upd H l (SV X l (zs.foldl gz [])))
theorem EU{K:Fg}{F:Hp}:∀{vs:List V} {ds:List D} {us:List Value},RepL K F vs ds->Vals vs us->ds.all Ac=true ->
  ∃zs:List (Int×Tok),zs.map iD=ds/\us=zs.map (λp=>Value.int p.1 p.2)/\∀p∈zs,0<=p.1/\p.1<4
 | [],ds,us,r,v,_=>by
  cases r;cases v
  exact⟨[],rfl,rfl,λp h=>nomatch h⟩
 | x::vs,ds,us,r,v,h=>by
  cases r with
  | @cons _ d _ ds a b =>
   cases v with
   | cons c e =>
    rw[DS,am]at h
    obtain⟨i,rfl,h1⟩:=nC h.1
    have e2:=a.int_inv
    subst e2
    obtain⟨t,rfl⟩:=c
    obtain⟨zs,z1,z2,z3⟩:=EU b e h.2
    refine⟨(i,t)::zs,by rw[ba,z1],by rw[ba,<-z2],λp hp=>?_⟩
    rcases List.mem_cons.mp hp with rfl|hp
    ·exact h1
    ·exact z3 p hp
theorem yW:∀(zs acc:List (Int×Tok)),(∀p∈zs,0<=p.1/\p.1<4)->Fw acc->Fw (zs.foldl gz acc)
 | [],acc,_,h=>h
 | z::zs,acc,hz,h=>yW zs _ (λp hp=>hz p (zzg _ hp)) (h.add (hz z au).1 (hz z au).2)
theorem Ao(hc:X.calm=true)(hu:X.A.units+1100<cLine):CallR X (.type "set") (Iz X):=by
 intro pins s Z H xs us Q I r h0
 obtain⟨G,F,σ',ρ,x,ds,rfl,S,ho,hok,k⟩:=h0
 obtain⟨u,rfl,ru⟩:=L2.Vals.one r
 unfold lI at hok
 rw[am,zzi]at hok
 obtain⟨a,vs,rfl,h1,h2⟩:=ho.list S.fh
 cases ru
 obtain⟨its,rv,pl,hz⟩:=I.list h1
 obtain⟨o,e1,e2,n,e3⟩:=pl.isList
 obtain⟨zs,z1,z2,z3⟩:=EU h2 rv hok.2
 refine An (p:=a) (items:=its.toArray) (xs:=zs) (I.ok.hd hc) (by omega) ⟨o,e1,e2,n,e3⟩ z2 z3 λh' tk kp S'=>?_
 refine⟨.ref s.heap.objs.size,upd H s.heap.objs.size (SV X s.heap.objs.size (zs.foldl gz [])),I.laid (t':=tk) kp (ay _) ⟨S',?_,λh1 h2 p q=>p.kp q⟩,rfl,k _ zs (I.hok.fresh (ay _)) z1 (yW zs [] z3 ⟨.nil,λq hq=>nomatch hq⟩)⟩
 obtain⟨o',_,_,_,e,_⟩:=S'
 exact⟨o',e⟩
theorem lw(i:Int):keyD (.int i)=[i]:=rfl
theorem uv{a b:List D}(p:a.Perm b)(h:∀d∈b,Ac d=true):gB a=gB b:=by
 have pm:(gB a).Perm (gB b):=((cL a).trans p).trans (cL b).symm
 refine jn (R:=λx y=>leK x y=true) (λx hx y hy h1 h2=>?_) pm (fj a) (fj b)
 obtain⟨n,rfl,_⟩:=nC (h x ((cL b).mem_iff.mp hx))
 obtain⟨n',rfl,_⟩:=nC (h y ((cL b).mem_iff.mp hy))
 unfold leK at h1 h2
 rw[ot]at h1 h2
 have:=oN h2 h1
 rw[lw,lw]at this
 injection this with this
 rw[this]
def Iw(X:Cx):List V->Hp->VK->Prop:=λxs H Q=>∃(G:Gh) (F:Hp) (Z:L2.St) (ρ:En) (l:Addr) (zs:List (Int×Tok)),xs=[.ref l]/\StOk X.K G F Z H ρ/\H l=some (SV X l zs)/\Fw zs /\
 ∀l vs,H l=none->RepL X.K F vs (gB (zs.map iD))->Q (.ref l) (upd H l (.lst vs))
theorem yQ{K:Fg}{F:Hp}:∀zs:List (Int×Tok),RepL K F (zs.map λp=>V.int p.1) (zs.map iD)
 | []=>.nil
 | p::zs=>.cons (.int _) (yQ zs)
theorem yP:∀(zs:List (Int×Tok)),Vals (zs.map λp=>V.int p.1) (zs.map λp=>Value.int p.1 p.2)
 | []=>.nil
 | p::zs=>.cons ⟨p.2,rfl⟩ (yP zs)
theorem Ea{zs:List (Int×Tok)}(hF:Fw zs):∀d∈zs.map iD,Ac d=true:=λd hd=>by
 obtain⟨p,hp,rfl⟩:=List.mem_map.mp hd
 have:=hF.2 p hp
 show(decide (0<=p.1)&&decide (p.1<4))=true
 rw[aw this.1,aw this.2];rfl
theorem xF(hc:X.calm=true):CallR X (.builtin "sorted") (Iw X):=by
 intro pins s Z H xs us Q I r h0
 obtain⟨G,F,σ',ρ,l,zs,rfl,S,hl,hF,k⟩:=h0
 obtain⟨u,rfl,ru⟩:=L2.Vals.one r
 cases ru
 obtain⟨⟨o,es,ep,t,ho,hex,hd,T,_,hp,hled⟩,_,_⟩:=I.hok l _ hl
 have hlen:es.size=zs.length:=by have:=hp.length_eq;rwa [cr,zzd]at this
 have h4:=hF.len
 have hz:es.size<=sizeLine:=bj (show es.size<=1000 by omega) (by decide)
 refine wm λE' Q' q=>Cs (Dg hex hd T hled) (I.ok.hd hc) ho hz λh' tk acc kp it=>q _ _ ?_
 have I2:Inv X pins Z H { s with heap:=h',toks:=tk }:=I.kept (t':=tk) kp
 have it':ItemsOf (λi v=>∃e,(wl X.w l ep es)[i]? = some e/\v=e.2) acc (wl X.w l ep es).size:=by rw[rY];exact it
 obtain⟨zs',p1,p2⟩:=n9 (wl_perm.trans hp)
 have ea:acc.toList=zs'.map λp=>Value.int p.1 p.2:=by
  rw[BZ it',p2,li];rfl
 have pd:(zs'.map iD).Perm (zs.map iD):=p1.map _
 have i4:=Ea hF
 refine zC I2 S (yQ zs') (by rw[ea];exact yP zs') (by rw[zzd,p1.length_eq,<-hlen];exact hz) ?_ λl vs hl rp=>k l vs hl ?_
 ·unfold gO
  have:(zs'.map iD).all tD=true:=by
   rw[ke]
   intro d hd'
   obtain⟨i,rfl,_⟩:=nC (i4 d (pd.mem_iff.mp hd'))
   rfl
  rw[this,Bool.true_or,Bool.and_true,zzi,pd.length_eq,zzd]
  omega
 ·rw[<-uv pd i4]
  exact rp
theorem vN:∀(zs acc:List (Int×Tok)),(zs.foldl gz acc).map iD=(zs.map iD).foldl xB (acc.map iD)
 | [],acc=>rfl
 | z::zs,acc=>by
  rw[List.foldl_cons,ba,List.foldl_cons,vN zs]
  congr 1
  unfold gz xB
  have e:(acc.map iD).map keyD=(acc.map (·.1)).map (λi=>[i]):=by
   rw[li,li]
   rfl
  have e2:(keyD (iD z)∈(acc.map iD).map keyD)↔z.1∈acc.map (·.1):=by
   rw[e]
   constructor
   ·intro h
    obtain⟨i,hi,q⟩:=List.mem_map.mp h
    injection q with q
    exact q▸hi
   ·intro h
    exact List.mem_map.mpr ⟨z.1,h,rfl⟩
  by_cases h:z.1∈acc.map (·.1)
  ·rw[ai h,ai (e2.mpr h)]
  ·rw[ac h,ac (λq=>h (e2.mp q)),jo];rfl
theorem vJ{e:Expr}{ps:Pa (List D)}{p p2 pos pos2:Pos}(hc:X.calm=true)(hu:X.A.units+1100<cLine)(hg:Gl X "sorted")(hm:X.mg "sorted" = none)(hg2:Gl X "set")(hm2:X.mg "set" = none)(ha:AAo X [e] ps)
  (he:starEach [.Call (.Name "set" p2) [e] [] pos2] X.env=[(false,eval (.Call (.Name "set" p2) [e] [] pos2) X.env)]) (he2:starEach [e] X.env=[(false,eval e X.env)]):AL X (.Call (.Name "sorted" p) [.Call (.Name "set" p2) [e] [] pos2] [] pos) (wF yZ ps) :=
 λG F Z H ρ Q S w=>sem (iL (xF hc) hg hm (by decide +kernel) (eH (qU (Ao hc hu) hg2 hm2 (by decide +kernel) cx (by decide) (by decide) he2 rfl) lK he) (by decide) (by decide) he rfl) (ha G F Z H ρ _ _ _ S w λds xs F1 H1 s1 S1 hx w1=>by
  obtain⟨res,er,k⟩:=w1.opt
  have hx':=hx.ors S1
  unfold yZ at er
  split at er
  ·rename_i es
   split at er
   ·rename_i hok
    cases er
    obtain⟨v,r,rfl,ho,hr⟩:=bW hx'
    obtain rfl:=cJ hr
    refine⟨G,F1,Z,ρ,v,es,rfl,S1,ho,hok,λl zs hl ez fw=>?_⟩
    have S2:StOk X.K G F1 Z (upd H1 l (SV X l (zs.foldl gz []))) ρ:=S1.lay hl
    have ed:(zs.foldl gz []).map iD=El es:=by rw[vN,ez];rfl
    refine⟨G,F1,Z,ρ,l,zs.foldl gz [],rfl,S2,aR,fw,λl2 vs hl2 rp=>?_⟩
    rw[ed]at rp
    obtain⟨S3,r3⟩:=S2.newLst hl2 rp
    exact k F1 _ (Same.refl _) S3 _ r3
   ·cases er
  ·cases er)
end L4
set_option maxHeartbeats 8000000
namespace K09
open PySem PySem.Spec PyProof.Rows L2 L3 L4
variable {f:Addr}{fd:FuncData}{mg:zzl}
noncomputable section
def top(i:Nat):Stmt:=PySem.Challenge.pw_passersby_k09_texts_that_write_no_questi.main.body.getD i (.Pass ⟨0,0,0,0⟩)
abbrev BL:List Str:=["range", "len", "tuple", "min", "abs", "repr", "isinstance", "all", "any", "int", "str", "bool", "sorted", "set"]
def BN(mg:zzl):Prop:=∀x∈BL,mg x=none
theorem BN.range(B:BN mg):mg "range" = none:=B _ (by decide)
theorem BN.len(B:BN mg):mg "len" = none:=B _ (by decide)
theorem BN.tuple(B:BN mg):mg "tuple" = none:=B _ (by decide)
theorem BN.min(B:BN mg):mg "min" = none:=B _ (by decide)
theorem BN.abs(B:BN mg):mg "abs" = none:=B _ (by decide)
theorem BN.repr(B:BN mg):mg "repr" = none:=B _ (by decide)
theorem BN.isinstance(B:BN mg):mg "isinstance" = none:=B _ (by decide)
theorem BN.all(B:BN mg):mg "all" = none:=B _ (by decide)
theorem BN.any(B:BN mg):mg "any" = none:=B _ (by decide)
theorem BN.int(B:BN mg):mg "int" = none:=B _ (by decide)
theorem BN.str(B:BN mg):mg "str" = none:=B _ (by decide)
theorem BN.bool(B:BN mg):mg "bool" = none:=B _ (by decide)
theorem BN.sorted(B:BN mg):mg "sorted" = none:=B _ (by decide)
theorem BN.set(B:BN mg):mg "set" = none:=B _ (by decide)
structure KX(K:Fg)(mg:zzl):Prop where
 t_QUESTION_WORDS:TK K "QUESTION_WORDS" ["least", "more", "rest", "both", "either", "not"]
 f_QUESTION_WORDS:∃a,mg "QUESTION_WORDS" = some (.ref a)/\PySem.W.nsIn K mainGlobals "QUESTION_WORDS" = some (some (.ref a))
 i_NoText:∃C,mg "NoText" = some (.ref C)/\Inst1 K (.ref C) [("NoText",true)]
 a_row:NoAtts K "row" ["NoText"]
 a_word:NoAtts K "word" ["NoText"]
 h_PassError:∃hv,mg "PassError" = some hv/\HandL K hv ["NoText"]
structure KN(mg:zzl):Prop where
 MOST_QUESTIONS:∃u,mg "MOST_QUESTIONS" = some u/\RelV (.int 7) u
 MOST_WITHIN:∃u,mg "MOST_WITHIN" = some u/\RelV (.int 4) u
 MOST_LEAST:∃u,mg "MOST_LEAST" = some u/\RelV (.int 9) u
 MOST_REST:∃u,mg "MOST_REST" = some u/\RelV (.int 9) u
 FIGURES:∃u,mg "FIGURES" = some u/\RelV (.str "0123456789") u
 MOST_FIGURES:∃u,mg "MOST_FIGURES" = some u/\RelV (.int 9) u
section
variable {P:Program} {w:World} {K:Fg} {base:Heap}
abbrev ax:List Str:=["number", "words", "place", "asked"]
variable {CA_Row:Addr}
def fq(s:Stmt):List Stmt:=match s with
 | .ClassDef _ _ _ b _ _ _ _ _ _ _=>b
 | _=>[]
abbrev gp:Stmt:=(fq (top 2)).getD 0 (.Pass ⟨0,0,0,0⟩)
theorem nO:FnScope ["self", "row", "word"] ["self", "row", "word"] (aB gp):=⟨rfl,rfl,rfl,by decide +kernel,rfl,by decide +kernel,by decide +kernel⟩
theorem Am{Cl D:Addr}(Fn:Fun K "__init__" "NoText.__init__" gp f fd)(c:XC K Cl D f)(hm:mg "NoText" = some (.ref Cl))(hc:XQ K Cl "NoText")(kp:PySem.W.keepIn K (.ref Cl)=true)(na:∀f∈(["row", "word"]:List Str),NoAttr K Cl f)(ex:PySem.W.exmOne K (.ref Cl) (.ref Cl)=some true):CCl P w K mg base "NoText" 1 ["row", "word"] :=
 ⟨Cl,D,f,fd,["self", "row", "word"],c,Jy (k:=0) Fn nO rfl c (na _ (by simp)) (na _ (by simp)) (by decide),(vF Fn λ_ _ _ _ _ _ _ _ _=>rfl),hm,hc,kp,na,ex⟩
abbrev jN:Stmt:=top 4
abbrev xR:List Str:=["thing"]
theorem uz:FnScope xR ["thing"] (aB jN):=⟨rfl,rfl,rfl,by decide +kernel,rfl,by decide +kernel,by decide +kernel⟩
def kb(gaD:D):M D :=
 bd (bd (bd (oM (i3 "int" gaD)) λb2=>if b2 then bd (oM (i3 "bool" gaD)) λb1=>.ret (!b1)else .ret false) λb3=>.ret (.bool b3)) λx4=>.ret x4
def mN:List D->M D:=λl=>match l with
 | [gaD]=>kb gaD
 | _=>.bad
theorem uO(Fn:Fun K "is_whole" "is_whole" jN f fd)(hmg:mg "is_whole" = some (.ref f))(B:BN mg)(Kn:KN mg)(Kx:KX K mg):CF P w K mg base "is_whole" 1 (spD K 1 mN) :=
 ⟨f,fd,["thing"],dg (k:=0) Fn uz (λcdv A outer s H E hr =>
  (az (aM (aq (CK (C2 (zu (T := "int") (by decide) rfl B.isinstance rfl B.int (by decide +kernel) (ao (av 0)) rfl rfl rfl) (CW (HG (zu (T := "bool") (by decide) rfl B.isinstance rfl B.bool (by decide +kernel) (ao (av 0)) rfl rfl rfl)))))))))
 (λds hl=>(by obtain⟨gaD,rfl⟩:=ln1 hl;kernel_rfl)),hmg,Fn.kp,(pW Fn λ_ _ _ _ _ _ _=>rfl)⟩
abbrev iC:Stmt:=top 5
abbrev vQ:List Str:=["thing", "least", "most"]
theorem sB:FnScope vQ ["thing", "least", "most"] (aB iC):=⟨rfl,rfl,rfl,by decide +kernel,rfl,by decide +kernel,by decide +kernel⟩
def gf(gaD:D)(gaZ:D)(gbo:D):M D :=
 bd (bd (bd (bd (kb gaD) λx1=>asB x1) λb3=>if b3 then bd (oM (ie gaZ gaD)) λb2=>if b2 then oM (ie gaD gbo)else .ret false else .ret false) λb4=>.ret (.bool b4)) λx5=>.ret x5
def kS:List D->M D:=λl=>match l with
 | [gaD,gaZ,gbo]=>gf gaD gaZ gbo
 | _=>.bad
theorem sL(Fn:Fun K "is_within" "is_within" iC f fd)(hmg:mg "is_within" = some (.ref f))(B:BN mg)(Kn:KN mg)(Kx:KX K mg)(gbs:CF P w K mg base "is_whole" 1 (spD K 1 mN)):CF P w K mg base "is_within" 2 (spD K 3 kS) :=
 ⟨f,fd,["thing", "least", "most"],dg (k:=1) Fn sB (λcdv A outer s H E hr =>
  (az (aM (aq (CK (C2 (JT (dZ gbs hr.m (aa (av 0) aE))) (CW (C1 (iR (aA hr)) (iR (aA hr)) iV iV (ao (av 1)) (ao (av 0)) (ao (av 2)) (by with_unfolding_all rfl)))))))))
 (λds hl=>(by obtain⟨gaD,gaZ,gbo,rfl⟩:=ln3 hl;kernel_rfl)),hmg,Fn.kp,(vF Fn λ_ _ _ _ _ _ _ _ _=>rfl)⟩
abbrev iE:Stmt:=top 6
abbrev vR:List Str:=["sorts", "thing", "ahead", "sort"]
theorem sc_are_sorts:FnScope vR ["sorts", "thing"] (aB iE):=⟨rfl,rfl,rfl,by decide +kernel,rfl,by decide +kernel,by decide +kernel⟩
def jc(gaQ:D)(gbA:D):M D :=
 .ret (.bool true)
def dS(gaQ:D)(gbA:D)(d_:D)(kn5:D×D×Unit->M D):M D :=
 bd (bd (bd (bd (oM (aJ gbA (.int 1))) λx6=>bd (oM (cy gaQ (.int 1))) λx7=>gf d_ x6 x7) λx8=>oM (kq x8)) λb9=>.ret (!b9)) λb10=>if b10 then
  .ret (.bool false)
  else
  kn5 (gaQ,d_,())
def cu(gaw:D)(gaD:D):M D :=
 bd (bd (oM (i3 "tuple" gaD)) λb1=>.ret (!b1)) λb2=>if b2 then
  .ret (.bool false)
  else
  bd (oM (BA (.int 1))) λx3=>bd (oM (d9 gaD)) λl4=>tI (λs11 d12 kn=>dS s11.1 s11.2.1 d12 kn) l4 (gaw,x3,()) (λs11=>jc s11.1 s11.2.1)
def kU:List D->M D:=λl=>match l with
 | [gaw,gaD]=>cu gaw gaD
 | _=>.bad
theorem sN(Fn:Fun K "are_sorts" "are_sorts" iE f fd)(hmg:mg "are_sorts" = some (.ref f))(B:BN mg)(Kn:KN mg)(Kx:KX K mg)(gbh:CF P w K mg base "is_within" 2 (spD K 3 kS)):CF P w K mg base "are_sorts" 3 (spD K 2 kU) :=
 ⟨f,fd,["sorts", "thing"],dg (k:=2) Fn sc_are_sorts (λcdv A outer s H E hr =>
  (af (bJ (bm (jf (tW (zu (T := "tuple") (by decide) rfl B.isinstance rfl B.tuple (by decide +kernel) (ao (av 1)) rfl rfl rfl) (λ_=>rfl))))
  (az (aM (aq jH)))
  aX)
  (af (aO (sh:=[.f,.f,.f,.dead]) (aK (i:=2) sc_are_sorts.nd (aq (JQ FL GI (ao aj)))))
  (af (jw (sh:=[.f,.dead,.f,.dead]) PassesOwn.leaving rfl (jg (eK (av 1))) (bL (i:=3) (eE _) sc_are_sorts.nd)
  (af (bJ (bm (jf (tV (ao (dZ gbh hr.m (aa (av 3) (aa (aH aP aY (ao (av 2)) (ao aj)) (aa (aH eD eF (ao (av 0)) (ao aj)) aE))))) (λ_=>rfl))))
  (az (aM (aq jH)))
  aX)
  (az (aK (i:=2) sc_are_sorts.nd (aq (av 3))))))
  (az (aM (aq jH)))))))
 (λds hl=>(by obtain⟨gaw,gaD,rfl⟩:=ln2 hl;kernel_rfl)),hmg,Fn.kp,(qA Fn λ_ _ _ _ _ _ _ _=>rfl)⟩
abbrev jM:Stmt:=top 12
abbrev xQ:List Str:=["word"]
theorem ux:FnScope xQ ["word"] (aB jM):=⟨rfl,rfl,rfl,by decide +kernel,rfl,by decide +kernel,by decide +kernel⟩
def cO(gaJ:D):M D :=
 bd (oM (bO gaJ (.tuple [(.str "both"),(.str "either")]))) λb1=>if b1 then
  .ret (.int 2)
  else
  bd (bd (oM (aW gaJ (.str "not"))) λb2=>if b2 then .ret (.int 1)else .ret (.int 0)) λx3=>.ret x3
def iY:List D->M D:=λl=>match l with
 | [gaJ]=>cO gaJ
 | _=>.bad
theorem uN(Fn:Fun K "parts_of" "parts_of" jM f fd)(hmg:mg "parts_of" = some (.ref f))(B:BN mg)(Kn:KN mg)(Kx:KX K mg):CF P w K mg base "parts_of" 1 (spD K 1 iY) :=
 ⟨f,fd,["word"],dg (k:=0) Fn ux (λcdv A outer s H E hr =>
  (af (bJ (bm (aG (fk (aA hr)) gX (ao (av 0)) (ao (bH (aa aD (aa aD aE))))))
  (az (aM (aq aj)))
  aX)
  (az (aM (aq (gk (aG (bh (aA hr)) bq (ao (av 0)) (ao aD)) aj aj))))))
 (λds hl=>(by obtain⟨gaJ,rfl⟩:=ln1 hl;kernel_rfl)),hmg,Fn.kp,(pW Fn λ_ _ _ _ _ _ _=>rfl)⟩
abbrev iB:Stmt:=top 17
abbrev vP:List Str:=["word"]
theorem sA:FnScope vP ["word"] (aB iB):=⟨rfl,rfl,rfl,by decide +kernel,rfl,by decide +kernel,by decide +kernel⟩
abbrev N_number_of_0:List Str:=["word", "sign"]
theorem lR:N_number_of_0.Nodup:=by decide +kernel
def dJ(gaJ:D):M D :=
 bd (bd (bd (oM (ej [gaJ])) λx1=>bd (oM (ie (.int 1) x1)) λb2=>if b2 then oM (ie x1 (.int 9))else .ret false) λb3=>.ret (!b3)) λb4=>if b4 then
  .ret .none
  else
  bd (bd (bd (bd (bd (oM (d9 gaJ)) λl8=>bd (bg (λd5=>bd (bd (oM (bO d5 (.str "0123456789"))) λb6=>.ret (.bool b6)) λx7=>.ret (some x7)) l8) eO) λl9=>.ret (PyData.list l9)) λx10=>oM (B8 [x10])) λb11=>.ret (!b11)) λb12=>if b12 then
  .ret .none
  else
  bd (bd (bd (oM (aS gaJ (.int 0))) λx13=>oM (aW x13 (.str "0"))) λb15=>if b15 then bd (oM (ej [gaJ])) λx14=>oM (kH x14 (.int 1))else .ret false) λb16=>if b16 then
  .ret .none
  else
  bd (oM (rH [gaJ])) λx17=>.ret x17
def g6:List D->M D:=λl=>match l with
 | [gaJ]=>dJ gaJ
 | _=>.bad
theorem sK(Fn:Fun K "number_of" "number_of" iB f fd)(hmg:mg "number_of" = some (.ref f))(B:BN mg)(Kn:KN mg)(Kx:KX K mg):CF P w K mg base "number_of" 1 (spD K 1 g6) :=
 ⟨f,fd,["word"],dg (k:=0) Fn sA (λcdv A outer s H E hr =>
  (af (bJ (bm (jf (pY (iR (aA hr)) (iR (aA hr)) iV iV (ao aj) (ao (bC bK df B.len ig (aQ (ao (av 0)) aZ))) (ao (jx rfl Kn.MOST_FIGURES.choose_spec.1 Kn.MOST_FIGURES.choose_spec.2 (λ_=>.int _) (by decide))) (by with_unfolding_all rfl))))
  (az (aM (aq dh)))
  aX)
  (af (bJ (bm (jf (tW (vO (Cv rfl) GL rfl B.all (by decide +kernel) (aQ (ao (eS (gl (N':=N_number_of_0) (k:=1) rfl (bQ (by kernel_rfl) rfl rfl) (eK (av 0)) (λ_ _ _ _ _=>(bL (i:=1) (show 1<=1 by decide) lR)) (λ_ _ _ _ _=>fD) (λ_ _ _ _ _=>(CK (xP (fk (aA hr)) gX (ao (av 1)) (ao (jx rfl Kn.FIGURES.choose_spec.1 Kn.FIGURES.choose_spec.2 (λ_=>.str _) (by decide))))))))) aZ) (by decide) (by decide) rfl rfl) (λ_=>rfl))))
  (az (aM (aq dh)))
  aX)
  (af (bJ (bm (iq (xK (aG (bh (aA hr)) bq (ao (cw (bG (aA hr)) bF (ao (av 0)) (ao aj))) (ao aD)) (tU (aG qW qY (ao (bC bK df B.len ig (aQ (ao (av 0)) aZ))) (ao aj))))))
  (az (aM (aq dh)))
  aX)
  (az (aM (aq (cD mE sM B.int (by decide +kernel) (aQ (ao (av 0)) aZ)))))))))
 (λds hl=>(by obtain⟨gaJ,rfl⟩:=ln1 hl;kernel_rfl)),hmg,Fn.kp,(pW Fn λ_ _ _ _ _ _ _=>rfl)⟩
abbrev gQ:Stmt:=top 18
abbrev t5:List Str:=["word", "numbers"]
theorem sc_numbers_of:FnScope t5 ["word"] (aB gQ):=⟨rfl,rfl,rfl,by decide +kernel,rfl,by decide +kernel,by decide +kernel⟩
abbrev N_numbers_of_0:List Str:=["word", "numbers", "part"]
theorem kL:N_numbers_of_0.Nodup:=by decide +kernel
def ft(gaJ:D):M D :=
 bd (bd (bd (bd (bd (onT .str gaJ (oM (hJ gaJ [(.str ",")]))) λl1=>.ret (PyData.list l1)) λx2=>oM (d9 x2)) λl5=>bd (bg (λd3=>bd (dJ d3) λx4=>.ret (some x4)) l5) eO) λl6=>.ret (PyData.list l6)) λx7=>bd (bd (oM (bO .none x7)) λb8=>if b8 then .ret .none else oM (gw [x7])) λx9=>.ret x9
def jD:List D->M D:=λl=>match l with
 | [gaJ]=>ft gaJ
 | _=>.bad
theorem qp(Fn:Fun K "numbers_of" "numbers_of" gQ f fd)(hmg:mg "numbers_of" = some (.ref f))(B:BN mg)(Kn:KN mg)(Kx:KX K mg)(gaM:CF P w K mg base "number_of" 1 (spD K 1 g6)):CF P w K mg base "numbers_of" 2 (spD K 1 jD) :=
 ⟨f,fd,["word"],dg (k:=1) Fn sc_numbers_of (λcdv A outer s H E hr =>
  (af (aO (sh:=[.dead,.f]) (kh (i:=1) sc_numbers_of.nd rfl (lo rfl) (.inl rfl) (N':=N_numbers_of_0) (k:=1) rfl (bQ (by kernel_rfl) rfl rfl) (eK (eS (lE (ty:=.str) gh wn we iX (ao (av 0)) (aa aD aE) rfl rfl rfl rfl rfl))) (λ_ _ _ _ _=>(bL (i:=2) (show 2<=2 by decide) kL)) (λ_ _ _ _ _=>fD) (λ_ _ _ _ _=>(dZ gaM hr.m (aa (av 2) aE))) rfl (λ_=>rfl)))
  (az (aM (aq (gk (aG (fk (aA hr)) gX (ao dh) (ao (av 1))) dh (cD cH gF B.tuple (by decide +kernel) (aQ (ao (av 1)) aZ))))))))
 (λds hl=>(by obtain⟨gaJ,rfl⟩:=ln1 hl;kernel_rfl)),hmg,Fn.kp,(pW Fn λ_ _ _ _ _ _ _=>rfl)⟩
abbrev fN:Stmt:=(fq (top 19)).getD 0 (.Pass ⟨0,0,0,0⟩)
abbrev qg:List Str:=["self", "number", "text"]
theorem mX:FnScope qg ["self", "number", "text"] (aB fN):=⟨rfl,rfl,rfl,by decide +kernel,rfl,by decide +kernel,by decide +kernel⟩
def dY(gaq:List D)(gbw:D)(gbg:D):M (D×List D) :=
 bd (bd (onT .str gbg (oM (hJ gbg [(.str " ")]))) λl1=>.ret (PyData.list l1)) λx2=>.ret (.none,(kD ["number", "words", "place"] (kD ["number", "words"] (kD ["number"] (kD [] gaq "number" gbw) "words" x2) "place" (.int 0)) "asked" (.int 0)))
def ik:List D->List D->M (D×List D):=λgaq l=>match l with
 | [gbw,gbg]=>dY gaq gbw gbg
 | _=>.bad
theorem m5(Fn:Fun K "__init__" "Row.__init__" fN f fd)(hmk:Mk K CA_Row f)(hmg:mg "Row" = some (.ref CA_Row))(B:BN mg)(Kn:KN mg)(Kx:KX K mg)(IC_Row:IC K "Row" CA_Row)(NF_Row:∀f∈ax,NoAttr K CA_Row f):CN P w K mg base CA_Row "Row" 1 (cz K "Row" [] ax 3 ik) :=
 ⟨f,fd,["self", "number", "text"],hG (y := "Row") (ns:=[]) (ms:=ax) (k:=0) Fn mX (λcdv A outer s H E hr =>
  (af (aO (sh:=[.j "Row" ["number"],.dead,.f]) (nF (i:=0) IC_Row (NF_Row _ (by decide)) rfl (vi rfl) (aq (av 1)) rfl))
  (af (aO (sh:=[.j "Row" ["number", "words"],.dead,.dead]) (nF (i:=0) IC_Row (NF_Row _ (by decide)) rfl (vi rfl) (aq (eS (lE (ty:=.str) gh wn we iX (ao (av 2)) (aa aD aE) rfl rfl rfl rfl rfl))) rfl))
  (af (aO (sh:=[.j "Row" ["number", "words", "place"],.dead,.dead]) (nF (i:=0) IC_Row (NF_Row _ (by decide)) rfl (vi rfl) (aq aj) rfl))
  (az (nF (i:=0) IC_Row (NF_Row _ (by decide)) rfl (vi rfl) (aq aj) rfl))))))
 (λg ds hl=>(by obtain⟨gbw,gbg,rfl⟩:=ln2 (Nat.succ.inj hl);kernel_rfl)),hmk,(vF Fn λ_ _ _ _ _ _ _ _ _=>rfl),hmg⟩
abbrev gT:Stmt:=(fq (top 19)).getD 1 (.Pass ⟨0,0,0,0⟩)
abbrev t8:List Str:=["self"]
theorem qm:FnScope t8 ["self"] (aB gT):=⟨rfl,rfl,rfl,by decide +kernel,rfl,by decide +kernel,by decide +kernel⟩
def bD(gaq:List D):M (D×List D) :=
 bd (oM (cX ax gaq "number")) λx1=>bd (oM (cX ax gaq "place")) λx2=>.exc ⟨"NoText",[("row",x1),("word",x2)]⟩
def bT:List D->List D->M (D×List D):=λgaq l=>match l with
 | []=>bD gaq
 | _=>.bad
theorem qt(Fn:Fun K "refuse" "Row.refuse" gT f fd)(hme:Meth K CA_Row "refuse" f)(B:BN mg)(Kn:KN mg)(Kx:KX K mg)(IC_Row:IC K "Row" CA_Row)(NF_Row:∀f∈ax,NoAttr K CA_Row f)(X_NoText:CCl P w K mg base "NoText" 1 ["row", "word"]):CM P w K mg base CA_Row "refuse" 3 (cz K "Row" ax ax 1 bT) :=
 ⟨f,fd,["self"],hG (y := "Row") (ns:=ax) (ms:=ax) (k:=2) Fn qm (λcdv A outer s H E hr =>
  (az (CH X_NoText hr.m rfl (ag (aq (ki (i:=0) IC_Row (NF_Row _ (by decide)) rfl (vi rfl) rfl)) (ag (aq (ki (i:=0) IC_Row (NF_Row _ (by decide)) rfl (vi rfl) rfl)) aF)) rfl (by decide) (by decide) (cI rfl) rfl)))
 (λg ds hl=>(by obtain rfl:=ln0 (Nat.succ.inj hl);kernel_rfl)),hme,(pW Fn λ_ _ _ _ _ _ _=>rfl)⟩
abbrev fM:Stmt:=(fq (top 19)).getD 2 (.Pass ⟨0,0,0,0⟩)
abbrev qf:List Str:=["self"]
theorem mW:FnScope qf ["self"] (aB fM):=⟨rfl,rfl,rfl,by decide +kernel,rfl,by decide +kernel,by decide +kernel⟩
def cR(gaq:List D):M (D×List D) :=
 bd (bd (bd (oM (cX ax gaq "place")) λx2=>bd (bd (oM (cX ax gaq "words")) λx1=>oM (ej [x1])) λx3=>oM (iT x2 x3)) λb4=>.ret (.bool b4)) λx5=>.ret (x5,gaq)
def eX:List D->List D->M (D×List D):=λgaq l=>match l with
 | []=>cR gaq
 | _=>.bad
theorem mZ(Fn:Fun K "has_more" "Row.has_more" fM f fd)(hme:Meth K CA_Row "has_more" f)(B:BN mg)(Kn:KN mg)(Kx:KX K mg)(IC_Row:IC K "Row" CA_Row)(NF_Row:∀f∈ax,NoAttr K CA_Row f):CM P w K mg base CA_Row "has_more" 1 (cz K "Row" ax ax 1 eX) :=
 ⟨f,fd,["self"],hG (y := "Row") (ns:=ax) (ms:=ax) (k:=0) Fn mW (λcdv A outer s H E hr =>
  (az (aM (aq (CK (xP (wH (aA hr)) wJ (ao (ki (i:=0) IC_Row (NF_Row _ (by decide)) rfl (vi rfl) rfl)) (ao (bC bK df B.len ig (aQ (ao (ki (i:=0) IC_Row (NF_Row _ (by decide)) rfl (vi rfl) rfl)) aZ)))))))))
 (λg ds hl=>(by obtain rfl:=ln0 (Nat.succ.inj hl);kernel_rfl)),hme,(pW Fn λ_ _ _ _ _ _ _=>rfl)⟩
abbrev fL:Stmt:=(fq (top 19)).getD 3 (.Pass ⟨0,0,0,0⟩)
abbrev qe:List Str:=["self"]
theorem mV:FnScope qe ["self"] (aB fL):=⟨rfl,rfl,rfl,by decide +kernel,rfl,by decide +kernel,by decide +kernel⟩
def dX(ga9:List D):M (D×List D) :=
 bd (bd (oM (cX ax ga9 "words")) λx4=>bd (oM (cX ax ga9 "place")) λx5=>oM (aS x4 x5)) λx6=>.ret (x6,ga9)
def bN(gaq:List D):M (D×List D) :=
 bd (cR gaq) λr1=>bd (asB r1.1) λb2=>if(!b2)then
  bd (bD r1.2) λr3=>dX r3.2
  else
  dX r1.2
def dw:List D->List D->M (D×List D):=λgaq l=>match l with
 | []=>bN gaq
 | _=>.bad
theorem mY(Fn:Fun K "upcoming" "Row.upcoming" fL f fd)(hme:Meth K CA_Row "upcoming" f)(B:BN mg)(Kn:KN mg)(Kx:KX K mg)(IC_Row:IC K "Row" CA_Row)(NF_Row:∀f∈ax,NoAttr K CA_Row f)(gaC:CM P w K mg base CA_Row "has_more" 1 (cz K "Row" ax ax 1 eX))(gaf:CM P w K mg base CA_Row "refuse" 3 (cz K "Row" ax ax 1 bT)):CM P w K mg base CA_Row "upcoming" 4 (cz K "Row" ax ax 1 dw) :=
 ⟨f,fd,["self"],hG (y := "Row") (ns:=ax) (ms:=ax) (k:=3) Fn mV (λcdv A outer s H E hr =>
  (af (aO (sh:=[.j "Row" ax]) (bJ (EL (FE (CP (cg (i:=0) IC_Row gaC (by decide) hr.m rfl (vi rfl) rfl)) (λ_=>rfl)))
  (az (h7 (cg (i:=0) IC_Row gaf (by decide) hr.m rfl (vi rfl) rfl) rfl))
  aX))
  (az (aM (aq (cw (bG (aA hr)) bF (ao (ki (i:=0) IC_Row (NF_Row _ (by decide)) rfl (vi rfl) rfl)) (ao (ki (i:=0) IC_Row (NF_Row _ (by decide)) rfl (vi rfl) rfl))))))))
 (λg ds hl=>(by obtain rfl:=ln0 (Nat.succ.inj hl);kernel_rfl)),hme,(pW Fn λ_ _ _ _ _ _ _=>rfl)⟩
abbrev eV:Stmt:=(fq (top 19)).getD 4 (.Pass ⟨0,0,0,0⟩)
abbrev np:List Str:=["self", "choices", "word"]
theorem sc_Row_take_word:FnScope np ["self", "choices"] (aB eV):=⟨rfl,rfl,rfl,by decide +kernel,rfl,by decide +kernel,by decide +kernel⟩
def dI(ga9:List D)(gbE:D):M (D×List D) :=
 vG (cX ax ga9 "place") λa4=>.ret (gbE,(kD ax ga9 "place" (.int (a4+1))))
def dC(gaq:List D)(gbp:D):M (D×List D) :=
 bd (bN gaq) λr1=>bd (oM (iS "QUESTION_WORDS" ["least", "more", "rest", "both", "either", "not"] r1.1 gbp)) λb2=>if b2 then
  bd (bD r1.2) λr3=>dI r3.2 r1.1
  else
  dI r1.2 r1.1
def eG:List D->List D->M (D×List D):=λgaq l=>match l with
 | [gbp]=>dC gaq gbp
 | _=>.bad
theorem lQ(Fn:Fun K "take_word" "Row.take_word" eV f fd)(hme:Meth K CA_Row "take_word" f)(B:BN mg)(Kn:KN mg)(Kx:KX K mg)(IC_Row:IC K "Row" CA_Row)(NF_Row:∀f∈ax,NoAttr K CA_Row f)(gao:CM P w K mg base CA_Row "upcoming" 4 (cz K "Row" ax ax 1 dw))(gaf:CM P w K mg base CA_Row "refuse" 3 (cz K "Row" ax ax 1 bT)):CM P w K mg base CA_Row "take_word" 5 (cz K "Row" ax ax 2 eG) :=
 ⟨f,fd,["self", "choices"],hG (y := "Row") (ns:=ax) (ms:=ax) (k:=4) Fn sc_Row_take_word (λcdv A outer s H E hr =>
  (af (aO (sh:=[.j "Row" ax,.f,.f]) (aK (i:=2) sc_Row_take_word.nd (cg (i:=0) IC_Row gao (by decide) hr.m rfl (vi rfl) rfl)))
  (af (aO (sh:=[.j "Row" ax,.dead,.f]) (bJ (bm (aG (wG (aA hr) Kx.t_QUESTION_WORDS) bq (ao (av 2)) (ao (av 1))))
  (az (h7 (cg (i:=0) IC_Row gaf (by decide) hr.m rfl (vi rfl) rfl) rfl))
  aX))
  (af (aO (sh:=[.j "Row" ax,.dead,.f]) (nG (i:=0) IC_Row (NF_Row _ (by decide)) rfl (vi rfl) (aq aj)))
  (az (aM (aq (av 2))))))))
 (λg ds hl=>(by obtain⟨gbp,rfl⟩:=ln1 (Nat.succ.inj hl);kernel_rfl)),hme,(qA Fn λ_ _ _ _ _ _ _ _=>rfl)⟩
abbrev dP:Stmt:=(fq (top 19)).getD 5 (.Pass ⟨0,0,0,0⟩)
abbrev lH:List Str:=["self", "least", "most", "barred", "number"]
theorem sc_Row_take_number:FnScope lH ["self", "least", "most", "barred"] (aB dP):=⟨rfl,rfl,rfl,by decide +kernel,rfl,by decide +kernel,by decide +kernel⟩
def cQ(ga9:List D)(gbC:D):M (D×List D) :=
 vG (cX ax ga9 "place") λa9=>.ret (gbC,(kD ax ga9 "place" (.int (a9+1))))
def aV(gaq:List D)(gaZ:D)(gbo:D)(gaS:D):M (D×List D) :=
 bd (bN gaq) λr1=>bd (dJ r1.1) λr2=>bd (bd (oM (jB r2 .none)) λb6=>if b6 then .ret true else bd (bd (bd (oM (ie gaZ r2)) λb3=>if b3 then oM (ie r2 gbo)else .ret false) λb4=>.ret (!b4)) λb5=>if b5 then .ret true else oM (bO r2 gaS)) λb7=>if b7 then
  bd (bD r1.2) λr8=>cQ r8.2 r2
  else
  cQ r1.2 r2
def dG:List D->List D->M (D×List D):=λgaq l=>match l with
 | [gaZ,gbo,gaS]=>aV gaq gaZ gbo gaS
 | _=>.bad
theorem jX(Fn:Fun K "take_number" "Row.take_number" dP f fd)(hme:Meth K CA_Row "take_number" f)(B:BN mg)(Kn:KN mg)(Kx:KX K mg)(IC_Row:IC K "Row" CA_Row)(NF_Row:∀f∈ax,NoAttr K CA_Row f)(gaM:CF P w K mg base "number_of" 1 (spD K 1 g6))(gao:CM P w K mg base CA_Row "upcoming" 4 (cz K "Row" ax ax 1 dw))(gaf:CM P w K mg base CA_Row "refuse" 3 (cz K "Row" ax ax 1 bT)):CM P w K mg base CA_Row "take_number" 5 (cz K "Row" ax ax 4 dG) :=
 ⟨f,fd,["self", "least", "most", "barred"],hG (y := "Row") (ns:=ax) (ms:=ax) (k:=4) Fn sc_Row_take_number (λcdv A outer s H E hr =>
  (af (aO (sh:=[.j "Row" ax,.f,.f,.f,.f]) (aK (i:=4) sc_Row_take_number.nd (FG gaM hr.m (ag (cg (i:=0) IC_Row gao (by decide) hr.m rfl (vi rfl) rfl) aF))))
  (af (aO (sh:=[.j "Row" ax,.dead,.dead,.dead,.f]) (bJ (bm (iq (e9 (aG sI bq (ao (av 4)) (ao dh)) (e9 (jf (pY (iR (aA hr)) (iR (aA hr)) iV iV (ao (av 1)) (ao (av 4)) (ao (av 2)) (by with_unfolding_all rfl))) (hZ (aG (fk (aA hr)) gX (ao (av 4)) (ao (av 3))))))))
  (az (h7 (cg (i:=0) IC_Row gaf (by decide) hr.m rfl (vi rfl) rfl) rfl))
  aX))
  (af (aO (sh:=[.j "Row" ax,.dead,.dead,.dead,.f]) (nG (i:=0) IC_Row (NF_Row _ (by decide)) rfl (vi rfl) (aq aj)))
  (az (aM (aq (av 4))))))))
 (λg ds hl=>(by obtain⟨gaZ,gbo,gaS,rfl⟩:=ln3 (Nat.succ.inj hl);kernel_rfl)),hme,(Cz Fn λ_ _ _ _ _ _ _ _ _ _=>rfl)⟩
abbrev eC:Stmt:=(fq (top 19)).getD 6 (.Pass ⟨0,0,0,0⟩)
abbrev mG:List Str:=["self", "sorts", "fewest", "barred", "word", "some"]
theorem sc_Row_take_sorts:FnScope mG ["self", "sorts", "fewest", "barred"] (aB eC):=⟨rfl,rfl,rfl,by decide +kernel,rfl,by decide +kernel,by decide +kernel⟩
abbrev N_Row_take_sorts_0:List Str:=["self", "sorts", "fewest", "barred", "word", "some", "sort"]
theorem iw:N_Row_take_sorts_0.Nodup:=by decide +kernel
def bc(ga9:List D)(gbF:D):M (D×List D) :=
 vG (cX ax ga9 "place") λa17=>.ret (gbF,(kD ax ga9 "place" (.int (a17+1))))
def aU(gaq:List D)(gaw:D)(gbx:D)(gaS:D):M (D×List D) :=
 bd (bN gaq) λr1=>bd (bd (oM (aW r1.1 (.str "-"))) λb2=>if b2 then .ret (.tuple [])else ft r1.1) λx3=>bd (bd (bd (bd (cu gaw x3) λx4=>oM (kq x4)) λb5=>.ret (!b5)) λb14=>if b14 then .ret true else bd (bd (oM (ej [x3])) λx6=>oM (iT x6 gbx)) λb13=>if b13 then .ret true else bd (bd (bd (oM (d9 x3)) λl10=>bd (bg (λd7=>bd (bd (oM (bO d7 gaS)) λb8=>.ret (.bool b8)) λx9=>.ret (some x9)) l10) eO) λl11=>.ret (PyData.list l11)) λx12=>oM (vo [x12])) λb15=>if b15 then
  bd (bD r1.2) λr16=>bc r16.2 x3
  else
  bc r1.2 x3
def dR:List D->List D->M (D×List D):=λgaq l=>match l with
 | [gaw,gbx,gaS]=>aU gaq gaw gbx gaS
 | _=>.bad
theorem kJ(Fn:Fun K "take_sorts" "Row.take_sorts" eC f fd)(hme:Meth K CA_Row "take_sorts" f)(B:BN mg)(Kn:KN mg)(Kx:KX K mg)(IC_Row:IC K "Row" CA_Row)(NF_Row:∀f∈ax,NoAttr K CA_Row f)(gao:CM P w K mg base CA_Row "upcoming" 4 (cz K "Row" ax ax 1 dw))(gba:CF P w K mg base "numbers_of" 2 (spD K 1 jD))(gaf:CM P w K mg base CA_Row "refuse" 3 (cz K "Row" ax ax 1 bT))(gbi:CF P w K mg base "are_sorts" 3 (spD K 2 kU)):CM P w K mg base CA_Row "take_sorts" 5 (cz K "Row" ax ax 4 dR) :=
 ⟨f,fd,["self", "sorts", "fewest", "barred"],hG (y := "Row") (ns:=ax) (ms:=ax) (k:=4) Fn sc_Row_take_sorts (λcdv A outer s H E hr =>
  (af (aO (sh:=[.j "Row" ax,.f,.f,.f,.f,.dead]) (aK (i:=4) sc_Row_take_sorts.nd (cg (i:=0) IC_Row gao (by decide) hr.m rfl (vi rfl) rfl)))
  (af (aO (sh:=[.j "Row" ax,.f,.f,.f,.dead,.f]) (aK (i:=5) sc_Row_take_sorts.nd (aq (gk (aG (bh (aA hr)) bq (ao (av 4)) (ao aD)) (bH aE) (dZ gba hr.m (aa (av 4) aE))))))
  (af (aO (sh:=[.j "Row" ax,.dead,.dead,.dead,.dead,.f]) (bJ (bm (iq (e9 (jf (tV (ao (dZ gbi hr.m (aa (av 1) (aa (av 5) aE)))) (λ_=>rfl))) (e9 (aG (wH (aA hr)) wJ (ao (bC bK df B.len ig (aQ (ao (av 5)) aZ))) (ao (av 2))) (hZ (tW (vO (Ct rfl) GK rfl B.any (by decide +kernel) (aQ (ao (eS (gl (N':=N_Row_take_sorts_0) (k:=1) rfl (bQ (by kernel_rfl) rfl rfl) (eK (av 5)) (λ_ _ _ _ _=>(bL (i:=6) (show 6<=6 by decide) iw)) (λ_ _ _ _ _=>fD) (λ_ _ _ _ _=>(CK (xP (fk (aA hr)) gX (ao (av 6)) (ao (av 3)))))))) aZ) (by decide) (by decide) rfl rfl) (λ_=>rfl)))))))
  (az (h7 (cg (i:=0) IC_Row gaf (by decide) hr.m rfl (vi rfl) rfl) rfl))
  aX))
  (af (aO (sh:=[.j "Row" ax,.dead,.dead,.dead,.dead,.f]) (nG (i:=0) IC_Row (NF_Row _ (by decide)) rfl (vi rfl) (aq aj)))
  (az (aM (aq (av 5)))))))))
 (λg ds hl=>(by obtain⟨gaw,gbx,gaS,rfl⟩:=ln3 (Nat.succ.inj hl);kernel_rfl)),hme,(Cz Fn λ_ _ _ _ _ _ _ _ _ _=>rfl)⟩
abbrev gU:Stmt:=(fq (top 19)).getD 7 (.Pass ⟨0,0,0,0⟩)
abbrev t9:List Str:=["self"]
theorem qo:FnScope t9 ["self"] (aB gU):=⟨rfl,rfl,rfl,by decide +kernel,rfl,by decide +kernel,by decide +kernel⟩
def fB(gaq:List D):M (D×List D) :=
 bd (cR gaq) λr1=>bd (asB r1.1) λb2=>if b2 then
  bd (bD r1.2) λr3=>.ret (.none,r3.2)
  else
  .ret (.none,r1.2)
def jF:List D->List D->M (D×List D):=λgaq l=>match l with
 | []=>fB gaq
 | _=>.bad
theorem qv(Fn:Fun K "finish" "Row.finish" gU f fd)(hme:Meth K CA_Row "finish" f)(B:BN mg)(Kn:KN mg)(Kx:KX K mg)(IC_Row:IC K "Row" CA_Row)(NF_Row:∀f∈ax,NoAttr K CA_Row f)(gaC:CM P w K mg base CA_Row "has_more" 1 (cz K "Row" ax ax 1 eX))(gaf:CM P w K mg base CA_Row "refuse" 3 (cz K "Row" ax ax 1 bT)):CM P w K mg base CA_Row "finish" 4 (cz K "Row" ax ax 1 jF) :=
 ⟨f,fd,["self"],hG (y := "Row") (ns:=ax) (ms:=ax) (k:=3) Fn qo (λcdv A outer s H E hr =>
  (az (bJ (FE (CP (cg (i:=0) IC_Row gaC (by decide) hr.m rfl (vi rfl) rfl)) (λ_=>rfl))
  (az (h7 (cg (i:=0) IC_Row gaf (by decide) hr.m rfl (vi rfl) rfl) rfl))
  aX)))
 (λg ds hl=>(by obtain rfl:=ln0 (Nat.succ.inj hl);kernel_rfl)),hme,(pW Fn λ_ _ _ _ _ _ _=>rfl)⟩
abbrev dq:Stmt:=top 21
abbrev nh:List Str:=["row", "sorts", "within", "word", "parts", "question", "part", "these", "some", "by"]
theorem sc_take_question:FnScope nh ["row", "sorts", "within"] (aB dq):=⟨rfl,rfl,rfl,by decide +kernel,rfl,by decide +kernel,by decide +kernel⟩
def cF(self:List D->D->D->M (D×List D))(gbz:List D)(gaQ:D)(gbq:D)(gbt:List D):M (D×List D) :=
 bd (oM (gw [(PyData.list gbt)])) λx10=>.ret (x10,gbz)
def bX(self:List D->D->D->M (D×List D))(gbz:List D)(gaQ:D)(gbq:D)(gbt:List D)(d_:D)(kn11:List D×D×D×List D×Unit->M (D×List D)):M (D×List D) :=
 bd (oM (aJ gbq (.int 1))) λx12=>bd (self gbz gaQ x12) λr13=>bd (oM (BI gbt [r13.1])) λl14=>kn11 (r13.2,gaQ,gbq,l14,())
def dH(self:List D->D->D->M (D×List D))(gbz:List D)(gaQ:D)(gbq:D):M (D×List D) :=
 vG (cX ax gbz "asked") λa5=>bd (dC (kD ax gbz "asked" (.int (a5+1))) (fnD "QUESTION_WORDS")) λr6=>bd (cO r6.1) λx7=>bd (oM (kH x7 (.int 0))) λb8=>if b8 then
  bd (oM (bZ [x7])) λl9=>tI (λs15 d16 kn=>bX self s15.1 s15.2.1 s15.2.2.1 s15.2.2.2.1 d16 kn) l9 (r6.2,gaQ,gbq,[r6.1],()) (λs15=>cF self s15.1 s15.2.1 s15.2.2.1 s15.2.2.2.1)
  else
  bd (oM (aW r6.1 (.str "more"))) λb17=>if b17 then
  bd (aU r6.2 gaQ (.int 0) (.tuple [])) λr18=>bd (aU r18.2 gaQ (.int 0) r18.1) λr19=>.ret ((.tuple [r6.1,r18.1,r19.1]),r19.2)
  else
  bd (aU r6.2 gaQ (.int 1) (.tuple [])) λr20=>bd (oM (aW r6.1 (.str "least"))) λb21=>if b21 then
  bd (aV r20.2 (.int 1) (.int 9) (.tuple [])) λr22=>.ret ((.tuple [r6.1,r20.1,r22.1]),r22.2)
  else
  bd (aV r20.2 (.int 2) (.int 9) (.tuple [])) λr23=>bd (oM (cy r23.1 (.int 1))) λx24=>bd (aV r23.2 (.int 0) x24 (.tuple [])) λr25=>.ret ((.tuple [r6.1,r20.1,r23.1,r25.1]),r25.2)
def cq(self:List D->D->D->M (D×List D))(gbB:List D)(gaw:D)(gbe:D):M (D×List D) :=
 bd (bd (bd (oM (cX ax gbB "asked")) λx1=>oM (aW x1 (.int 7))) λb2=>if b2 then .ret true else oM (aW gbe (.int 4))) λb3=>if b3 then
  bd (bD gbB) λr4=>dH self r4.2 gaw gbe
  else
  dH self gbB gaw gbe
def bt:Nat->List D->D->D->M (D×List D)
 | 0=>λ_ _ _=>.bad
 | i+1=>cq (bt i)
def bU(i:Nat):List D->List D->M (D×List D):=λgbB l=>match l with
 | [gaw,gbe]=>bt i gbB gaw gbe
 | _=>.bad
theorem mw(Fn:Fun K "take_question" "take_question" dq f fd)(B:BN mg)(Kn:KN mg)(Kx:KX K mg)(IC_Row:IC K "Row" CA_Row)(NF_Row:∀f∈ax,NoAttr K CA_Row f)(gaE:CM P w K mg base CA_Row "take_word" 5 (cz K "Row" ax ax 2 eG))(gaY:CF P w K mg base "parts_of" 1 (spD K 1 iY))(gar:CM P w K mg base CA_Row "take_sorts" 5 (cz K "Row" ax ax 4 dR))(gam:CM P w K mg base CA_Row "take_number" 5 (cz K "Row" ax ax 4 dG))(gaf:CM P w K mg base CA_Row "refuse" 3 (cz K "Row" ax ax 1 bT))(i:Nat)(Cself:CF P w K mg base "take_question" (6+i) (cz K "Row" ax ax 3 (bU i))):FnOk P w K mg base (CX1 P w) (6+i+1) f fd ["row", "sorts", "within"] (cz K "Row" ax ax 3 (bU (i+1))) :=
 hG (y := "Row") (ns:=ax) (ms:=ax) (k:=6+i) Fn sc_take_question (λcdv A outer s H E hr =>
  (af (aO (sh:=[.j "Row" ax,.f,.f,.dead,.dead,.dead,.dead,.dead,.dead,.dead]) (bJ (bm (iq (e9 (aG (bh (aA hr)) bq (ao (ki (i:=0) IC_Row (NF_Row _ (by decide)) rfl (vi rfl) rfl)) (ao (jx rfl Kn.MOST_QUESTIONS.choose_spec.1 Kn.MOST_QUESTIONS.choose_spec.2 (λ_=>.int _) (by decide)))) (hZ (aG (bh (aA hr)) bq (ao (av 2)) (ao (jx rfl Kn.MOST_WITHIN.choose_spec.1 Kn.MOST_WITHIN.choose_spec.2 (λ_=>.int _) (by decide))))))))
  (az (h7 (cg (i:=0) IC_Row gaf (by decide) (hr.mono (by omega)) rfl (vi rfl) rfl) rfl))
  aX))
  (af (aO (sh:=[.j "Row" ax,.f,.f,.dead,.dead,.dead,.dead,.dead,.dead,.dead]) (nG (i:=0) IC_Row (NF_Row _ (by decide)) rfl (vi rfl) (aq aj)))
  (af (aO (sh:=[.j "Row" ax,.f,.f,.f,.dead,.dead,.dead,.dead,.dead,.dead]) (aK (i:=3) sc_take_question.nd (fV (i:=0) IC_Row gaE (by decide) (hr.mono (by omega)) rfl (vi rfl) (ag (aq (CJ Kx.f_QUESTION_WORDS rfl (by decide))) aF) rfl (cI rfl) rfl rfl)))
  (af (aO (sh:=[.j "Row" ax,.f,.f,.f,.f,.dead,.dead,.dead,.dead,.dead]) (aK (i:=4) sc_take_question.nd (aq (dZ gaY (hr.mono (by omega)) (aa (av 3) aE)))))
  (af (bJ (bm (aG qW qY (ao (av 4)) (ao aj)))
  (af (aO (sh:=[.j "Row" ax,.f,.f,.dead,.f,.o,.dead,.dead,.dead,.dead]) (zq (i:=5) sc_take_question.nd (xM (d8 (aa (av 3) aE)))))
  (af (jw (sh:=[.j "Row" ax,.f,.f,.dead,.dead,.o,.dead,.dead,.dead,.dead]) PassesOwn.leaving rfl (jg (dL rfl B.range (aa (av 4) aE) rfl)) (bL (i:=6) (eE _) sc_take_question.nd)
  (az (HA (i:=5) rfl (vi rfl) (ag (CQ (i:=0) Cself (hr.mono (by omega)) rfl rfl (vi rfl) (ag (aq (av 1)) (ag (aq (aH aP aY (ao (av 2)) (ao aj))) aF)) rfl (by decide) (cI rfl) rfl) aF) rfl rfl rfl rfl rfl rfl)))
  (az (aM (aq (cD cH gF B.tuple (by decide +kernel) (aQ (jy (i:=5)) aZ)))))))
  aX)
  (af (bJ (bm (aG (bh (aA hr)) bq (ao (av 3)) (ao aD)))
  (af (aO (sh:=[.j "Row" ax,.f,.dead,.f,.dead,.dead,.dead,.f,.dead,.dead]) (aK (i:=7) sc_take_question.nd (fV (i:=0) IC_Row gar (by decide) (hr.mono (by omega)) rfl (vi rfl) (ag (aq (av 1)) (ag (aq aj) (ag (aq (bH aE)) aF))) rfl (cI rfl) rfl rfl)))
  (az (aM (jh (ag (aq (av 3)) (ag (aq (av 7)) (ag (fV (i:=0) IC_Row gar (by decide) (hr.mono (by omega)) rfl (vi rfl) (ag (aq (av 1)) (ag (aq aj) (ag (aq (av 7)) aF))) rfl (cI rfl) rfl rfl) aF)))))))
  aX)
  (af (aO (sh:=[.j "Row" ax,.dead,.dead,.f,.dead,.dead,.dead,.dead,.f,.dead]) (aK (i:=8) sc_take_question.nd (fV (i:=0) IC_Row gar (by decide) (hr.mono (by omega)) rfl (vi rfl) (ag (aq (av 1)) (ag (aq aj) (ag (aq (bH aE)) aF))) rfl (cI rfl) rfl rfl)))
  (af (bJ (bm (aG (bh (aA hr)) bq (ao (av 3)) (ao aD)))
  (az (aM (jh (ag (aq (av 3)) (ag (aq (av 8)) (ag (fV (i:=0) IC_Row gam (by decide) (hr.mono (by omega)) rfl (vi rfl) (ag (aq aj) (ag (aq (jx rfl Kn.MOST_LEAST.choose_spec.1 Kn.MOST_LEAST.choose_spec.2 (λ_=>.int _) (by decide))) (ag (aq (bH aE)) aF))) rfl (cI rfl) rfl rfl) aF))))))
  aX)
  (af (aO (sh:=[.j "Row" ax,.dead,.dead,.f,.dead,.dead,.dead,.dead,.f,.f]) (aK (i:=9) sc_take_question.nd (fV (i:=0) IC_Row gam (by decide) (hr.mono (by omega)) rfl (vi rfl) (ag (aq aj) (ag (aq (jx rfl Kn.MOST_REST.choose_spec.1 Kn.MOST_REST.choose_spec.2 (λ_=>.int _) (by decide))) (ag (aq (bH aE)) aF))) rfl (cI rfl) rfl rfl)))
  (az (aM (jh (ag (aq (av 3)) (ag (aq (av 8)) (ag (aq (av 9)) (ag (fV (i:=0) IC_Row gam (by decide) (hr.mono (by omega)) rfl (vi rfl) (ag (aq aj) (ag (aq (aH eD eF (ao (av 9)) (ao aj))) (ag (aq (bH aE)) aF))) rfl (cI rfl) rfl rfl) aF)))))))))))))))))
 (λg ds hl=>(by obtain⟨gaw,gbe,rfl⟩:=ln2 (Nat.succ.inj hl);kernel_rfl))
theorem lM(Fn:Fun K "take_question" "take_question" dq f fd)(hmg:mg "take_question" = some (.ref f))(B:BN mg)(Kn:KN mg)(Kx:KX K mg)(IC_Row:IC K "Row" CA_Row)(NF_Row:∀f∈ax,NoAttr K CA_Row f)(gaE:CM P w K mg base CA_Row "take_word" 5 (cz K "Row" ax ax 2 eG))(gaY:CF P w K mg base "parts_of" 1 (spD K 1 iY))(gar:CM P w K mg base CA_Row "take_sorts" 5 (cz K "Row" ax ax 4 dR))(gam:CM P w K mg base CA_Row "take_number" 5 (cz K "Row" ax ax 4 dG))(gaf:CM P w K mg base CA_Row "refuse" 3 (cz K "Row" ax ax 1 bT))(i:Nat):CF P w K mg base "take_question" (6+i) (cz K "Row" ax ax 3 (bU i)):=by
 induction i with
 | zero =>
  have e:bU 0=λ_ _=>.bad:=by
   funext g l;unfold bU;split<;>rfl
  rw[e]
  exact CF.zeroI (ps:=["row", "sorts", "within"]) _ _ hmg Fn.kp (vF Fn λ_ _ _ _ _ _ _ _ _=>rfl)
 | succ i ih=>exact⟨f,fd,["row", "sorts", "within"],mw Fn B Kn Kx IC_Row NF_Row gaE gaY gar gam gaf i ih,hmg,Fn.kp,(vF Fn λ_ _ _ _ _ _ _ _ _=>rfl)⟩
abbrev eU:Stmt:=top 20
abbrev nj:List Str:=["sorts", "text", "row", "question"]
theorem sc_read_question:FnScope nj ["sorts", "text"] (aB eU):=⟨rfl,rfl,rfl,by decide +kernel,rfl,by decide +kernel,by decide +kernel⟩
def dB(gaw:D)(gbg:D):M D :=
 GQ (dY [] (.int 0) gbg) λl1=>bd (bt 6 l1 gaw (.int 0)) λr2=>bd (fB r2.2) λr3=>.ret r2.1
def gG:List D->M D:=λl=>match l with
 | [gaw,gbg]=>dB gaw gbg
 | _=>.bad
theorem lN(Fn:Fun K "read_question" "read_question" eU f fd)(hmg:mg "read_question" = some (.ref f))(B:BN mg)(Kn:KN mg)(Kx:KX K mg)(IC_Row:IC K "Row" CA_Row)(NF_Row:∀f∈ax,NoAttr K CA_Row f)(gaX:CN P w K mg base CA_Row "Row" 1 (cz K "Row" [] ax 3 ik))(gaT:CF P w K mg base "take_question" 12 (cz K "Row" ax ax 3 (bU 6)))(gbb:CM P w K mg base CA_Row "finish" 4 (cz K "Row" ax ax 1 jF)):CF P w K mg base "read_question" 13 (spD K 2 gG) :=
 ⟨f,fd,["sorts", "text"],dg (k:=12) Fn sc_read_question (λcdv A outer s H E hr =>
  (af (aO (sh:=[.f,.dead,.i "Row" ax,.dead]) (EG (j:=2) IC_Row gaX hr.m rfl (ag (aq aj) (ag (aq (av 1)) aF)) rfl (by decide) (cI rfl) rfl sc_read_question.nd rfl (lo rfl) rfl (.inl rfl)))
  (af (aO (sh:=[.dead,.dead,.i "Row" ax,.f]) (aK (i:=3) sc_read_question.nd (CQ (i:=2) gaT hr.m rfl rfl (vi rfl) (ag (aq (av 0)) (ag (aq aj) aF)) rfl (by decide) (cI rfl) rfl)))
  (af (aO (sh:=[.dead,.dead,.dead,.f]) (h7 (cg (i:=2) IC_Row gbb (by decide) hr.m rfl (vi rfl) rfl) rfl))
  (az (aM (aq (av 3))))))))
 (λds hl=>(by obtain⟨gaw,gbg,rfl⟩:=ln2 hl;kernel_rfl)),hmg,Fn.kp,(qA Fn λ_ _ _ _ _ _ _ _=>rfl)⟩
abbrev iI:Stmt:=top 23
abbrev vX:List Str:=["_law_script", "_law_k", "_law_cell", "_law_great"]
theorem sc__law_feed:FnScope vX ["_law_script", "_law_k"] (aB iI):=⟨rfl,rfl,rfl,by decide +kernel,rfl,by decide +kernel,by decide +kernel⟩
def gg(gal:D)(gby:D):M (List D) :=
 bd (bd (bd (oM (ej [gal])) λx1=>oM (kH x1 (.int 0))) λb4=>if b4 then bd (bd (oM (ej [gal])) λx2=>oM (fQ gby x2)) λx3=>oM (aS gal x3)else .ret (.int 0)) λx5=>bd (bd (bd (oM (xy [x5])) λx6=>bd (oM (uL (.int 10) (.int 18))) λx7=>oM (BB x6 x7)) λb8=>if b8 then oM (xy [x5])else .ret (.int 0)) λx9=>bd (bd (bd (oM (fQ x5 (.int 1000003))) λx10=>bd (oM (eW (.int 7919) gby)) λx11=>oM (aJ x10 x11)) λx12=>.ret [x9,x12,(.int 0)]) λl13=>.ret l13
def kY:List D->M (List D):=λl=>match l with
 | [gal,gby]=>gg gal gby
 | _=>.bad
theorem sV(Fn:Fun K "_law_feed" "_law_feed" iI f fd)(hmg:mg "_law_feed" = some (.ref f))(B:BN mg)(Kn:KN mg)(Kx:KX K mg):CF P w K mg base "_law_feed" 1 (spL K 2 kY) :=
 ⟨f,fd,["_law_script", "_law_k"],Hf (k:=0) Fn sc__law_feed (λcdv A outer s H E hr =>
  (af (aO (sh:=[.dead,.f,.f,.dead]) (aK (i:=2) sc__law_feed.nd (aq (gk (aG qW qY (ao (bC bK df B.len ig (aQ (ao (av 0)) aZ))) (ao aj)) (cw (bG (aA hr)) bF (ao (av 0)) (ao (aH iQ iU (ao (av 1)) (ao (bC bK df B.len ig (aQ (ao (av 0)) aZ)))))) aj))))
  (af (aO (sh:=[.dead,.f,.f,.f]) (aK (i:=3) sc__law_feed.nd (aq (gk (aG Fo Fq (ao (bC vE BF B.abs (by decide +kernel) (aQ (ao (av 2)) aZ))) (ao (aH GC GH (ao aj) (ao aj)))) (bC vE BF B.abs (by decide +kernel) (aQ (ao (av 2)) aZ)) aj))))
  (az (EF (xM (d8 (aa (av 3) (aa (aH aP aY (ao (aH iQ iU (ao (av 2)) (ao aj))) (ao (aH op_mul lO (ao aj) (ao (av 1))))) (aa aj aE))))))))))
 (λds hl=>(by obtain⟨gal,gby,rfl⟩:=ln2 hl;kernel_rfl)),hmg,Fn.kp,(qA Fn λ_ _ _ _ _ _ _ _=>rfl)⟩
abbrev iH:Stmt:=top 24
abbrev vW:List Str:=["_law_feed_here", "_law_many", "_law_digit", "_law_turn", "_law_one_here"]
theorem sc__law_next:FnScope vW ["_law_feed_here", "_law_many"] (aB iH):=⟨rfl,rfl,rfl,by decide +kernel,rfl,by decide +kernel,by decide +kernel⟩
def aC(gab:List D)(gai:D):M (D×List D) :=
 bd (bd (oM (aS (PyData.list gab) (.int 0))) λx1=>oM (kH x1 (.int 0))) λb2=>if b2 then
  bd (bd (oM (aS (PyData.list gab) (.int 0))) λx3=>oM (fQ x3 gai)) λx4=>bd (bd (oM (aS (PyData.list gab) (.int 0))) λx5=>oM (uM x5 gai)) λx6=>bd (oM (putD gab (.int 0) x6)) λl7=>.ret (x4,l7)
  else
  bd (bd (oM (aS (PyData.list gab) (.int 2))) λx8=>oM (aJ x8 (.int 1))) λx9=>bd (oM (putD gab (.int 2) x9)) λl10=>bd (bd (bd (bd (bd (oM (aS (PyData.list l10) (.int 1))) λx11=>bd (oM (eW (.int 41) x9)) λx12=>oM (aJ x11 x12)) λx13=>oM (aJ x13 (.int 3))) λx15=>bd (bd (oM (eW x9 x9)) λx14=>oM (aJ x14 (.int 69621))) λx16=>oM (eW x15 x16)) λx17=>oM (fQ x17 (.int 998244353))) λx18=>bd (bd (bd (bd (bd (bd (bd (oM (fQ x18 (.int 65519))) λx19=>oM (aJ x19 (.int 40692))) λx20=>oM (eW x18 x20)) λx21=>oM (aJ x21 x9)) λx22=>oM (fQ x22 (.int 2147483629))) λx23=>oM (uM x23 (.int 13))) λx24=>oM (fQ x24 gai)) λx25=>.ret (x25,l10)
def cj:List D->List D->M (D×List D):=λgab l=>match l with
 | [gai]=>aC gab gai
 | _=>.bad
theorem sU(Fn:Fun K "_law_next" "_law_next" iH f fd)(hmg:mg "_law_next" = some (.ref f))(B:BN mg)(Kn:KN mg)(Kx:KX K mg):CF P w K mg base "_law_next" 1 (sp1 K 2 cj) :=
 ⟨f,fd,["_law_feed_here", "_law_many"],mz (k:=0) Fn sc__law_next (λcdv A outer s H E hr =>
  (af (bJ (bm (aG qW qY (ao (cw (bG (aA hr)) bF (jy (i:=0)) (ao aj))) (ao aj)))
  (af (aO (sh:=[.p,.f,.f,.dead,.dead]) (aK (i:=2) sc__law_next.nd (aq (aH iQ iU (ao (cw (bG (aA hr)) bF (jy (i:=0)) (ao aj))) (ao (av 1))))))
  (af (aO (sh:=[.p,.dead,.f,.dead,.dead]) (CI (i:=0) rfl (vi rfl) (aq aj) (aq (aH yB BE (ao (cw (bG (aA hr)) bF (jy (i:=0)) (ao aj))) (ao (av 1)))) (λ_=>rfl) rfl rfl rfl))
  (az (aM (aq (av 2))))))
  aX)
  (af (aO (sh:=[.p,.f,.dead,.f,.dead]) (aK (i:=3) sc__law_next.nd (aq (aH aP aY (ao (cw (bG (aA hr)) bF (jy (i:=0)) (ao aj))) (ao aj)))))
  (af (aO (sh:=[.p,.f,.dead,.f,.dead]) (CI (i:=0) rfl (vi rfl) (aq aj) (aq (av 3)) (λ_=>rfl) rfl rfl rfl))
  (af (aO (sh:=[.p,.f,.dead,.f,.f]) (aK (i:=4) sc__law_next.nd (aq (aH iQ iU (ao (aH op_mul lO (ao (aH aP aY (ao (aH aP aY (ao (cw (bG (aA hr)) bF (jy (i:=0)) (ao aj))) (ao (aH op_mul lO (ao aj) (ao (av 3)))))) (ao aj))) (ao (aH aP aY (ao (aH op_mul lO (ao (av 3)) (ao (av 3)))) (ao aj))))) (ao aj)))))
  (az (aM (aq (aH iQ iU (ao (aH yB BE (ao (aH iQ iU (ao (aH aP aY (ao (aH op_mul lO (ao (av 4)) (ao (aH aP aY (ao (aH iQ iU (ao (av 4)) (ao aj))) (ao aj))))) (ao (av 3)))) (ao aj))) (ao aj))) (ao (av 1)))))))))))
 (λg ds hl=>(by obtain⟨gai,rfl⟩:=ln1 (Nat.succ.inj hl);kernel_rfl)),hmg,Fn.kp,(qA Fn λ_ _ _ _ _ _ _ _=>rfl)⟩
abbrev jO:Stmt:=top 25
abbrev xS:List Str:=["_law_feed_here", "_law_some_here"]
theorem uA:FnScope xS ["_law_feed_here", "_law_some_here"] (aB jO):=⟨rfl,rfl,rfl,by decide +kernel,rfl,by decide +kernel,by decide +kernel⟩
def bE(gab:List D)(gag:D):M (D×List D) :=
 bd (oM (ej [gag])) λx1=>bd (aC gab x1) λr2=>bd (oM (aS gag r2.1)) λx3=>.ret (x3,r2.2)
def gb:List D->List D->M (D×List D):=λgab l=>match l with
 | [gag]=>bE gab gag
 | _=>.bad
theorem uQ(Fn:Fun K "_law_one" "_law_one" jO f fd)(hmg:mg "_law_one" = some (.ref f))(B:BN mg)(Kn:KN mg)(Kx:KX K mg)(gac:CF P w K mg base "_law_next" 1 (sp1 K 2 cj)):CF P w K mg base "_law_one" 2 (sp1 K 2 gb) :=
 ⟨f,fd,["_law_feed_here", "_law_some_here"],mz (k:=1) Fn uA (λcdv A outer s H E hr =>
  (az (aM (JS (bG (aA hr)) bF (aq (av 1)) (bx (i:=0) gac hr.m (ag (aq (bC bK df B.len ig (aQ (ao (av 1)) aZ))) aF))))))
 (λg ds hl=>(by obtain⟨gag,rfl⟩:=ln1 (Nat.succ.inj hl);kernel_rfl)),hmg,Fn.kp,(qA Fn λ_ _ _ _ _ _ _ _=>rfl)⟩
abbrev iG:Stmt:=top 26
abbrev vU:List Str:=["_law_feed_here", "_law_sorts_here", "_law_least", "_law_some_here"]
theorem sc__law_some:FnScope vU ["_law_feed_here", "_law_sorts_here", "_law_least"] (aB iG):=⟨rfl,rfl,rfl,by decide +kernel,rfl,by decide +kernel,by decide +kernel⟩
abbrev N__law_some_0:List Str:=["_law_feed_here", "_law_sorts_here", "_law_least", "_law_some_here", "_law_sort"]
theorem lU:N__law_some_0.Nodup:=by decide +kernel
def eR(gab:List D)(gaa:D)(ga6:D):M (D×List D) :=
 bd (oM (bZ [gaa])) λl1=>bd (cZ (λs2 d3=>bd (aC s2.1 (.int 2)) λr4=>bd (oM (aW r4.1 (.int 0))) λb5=>if b5 then .ret (some d3,(r4.2,s2.2.1,s2.2.2.1,()))else .ret (none,(r4.2,s2.2.1,s2.2.2.1,()))) l1 (gab,gaa,ga6,())) λr6=>bd (eO r6.1) λl7=>bd (bd (oM (ej [(PyData.list l7)])) λx8=>oM (BB x8 r6.2.2.2.1)) λb9=>if b9 then bd (oM (gw [(PyData.list l7)])) λx10=>.ret (x10,r6.2.1)else bd (aC r6.2.1 r6.2.2.1) λr11=>.ret ((.tuple [r11.1]),r11.2)
def kX:List D->List D->M (D×List D):=λgab l=>match l with
 | [gaa,ga6]=>eR gab gaa ga6
 | _=>.bad
theorem sQ(Fn:Fun K "_law_some" "_law_some" iG f fd)(hmg:mg "_law_some" = some (.ref f))(B:BN mg)(Kn:KN mg)(Kx:KX K mg)(gac:CF P w K mg base "_law_next" 1 (sp1 K 2 cj)):CF P w K mg base "_law_some" 2 (sp1 K 3 kX) :=
 ⟨f,fd,["_law_feed_here", "_law_sorts_here", "_law_least"],mz (k:=1) Fn sc__law_some (λcdv A outer s H E hr =>
  (af (aO (sh:=[.p,.f,.f,.f]) (vI (i:=3) sc__law_some.nd rfl (lo rfl) (.inl rfl) (sh:=[.p,.f,.f,.dead]) (N':=N__law_some_0) (k:=1) rfl (bQ (by kernel_rfl) rfl rfl) (jg (dL rfl B.range (aa (av 1) aE) rfl)) (λ_ _ _ _ _=>(bL (i:=4) (show 4<=4 by decide) lU)) (λ_ _ _ _ _=>(CO (tZ (bh (aA hr)) bq (bx (i:=0) gac hr.m (ag (aq aj) aF)) (aq aj)))) (λ_ _ _ _ _=>(aq (av 4))) rfl (λ_=>rfl)))
  (az (aM (FF (bm (aG Fo Fq (ao (bC bK df B.len ig (aQ (ao (av 3)) aZ))) (ao (av 2)))) (aq (cD cH gF B.tuple (by decide +kernel) (aQ (ao (av 3)) aZ))) (jh (ag (bx (i:=0) gac hr.m (ag (aq (av 1)) aF)) aF)))))))
 (λg ds hl=>(by obtain⟨gaa,ga6,rfl⟩:=ln2 (Nat.succ.inj hl);kernel_rfl)),hmg,Fn.kp,(vF Fn λ_ _ _ _ _ _ _ _ _=>rfl)⟩
abbrev gS:Stmt:=top 27
abbrev t7:List Str:=["_law_feed_here", "_law_sorts_here", "_law_way", "_law_sides", "_law_these", "_law_by"]
theorem sc__law_plain:FnScope t7 ["_law_feed_here", "_law_sorts_here"] (aB gS):=⟨rfl,rfl,rfl,by decide +kernel,rfl,by decide +kernel,by decide +kernel⟩
abbrev N__law_plain_0:List Str:=["_law_feed_here", "_law_sorts_here", "_law_way", "_law_sides", "_law_these", "_law_by", "_law_sort"]
theorem kQ:N__law_plain_0.Nodup:=by decide +kernel
abbrev N__law_plain_1:List Str:=["_law_feed_here", "_law_sorts_here", "_law_way", "_law_sides", "_law_these", "_law_by", "_law_sort"]
theorem kP:N__law_plain_1.Nodup:=by decide +kernel
abbrev N__law_plain_2:List Str:=["_law_feed_here", "_law_sorts_here", "_law_way", "_law_sides", "_law_these", "_law_by", "_law_sort"]
theorem kO:N__law_plain_2.Nodup:=by decide +kernel
def fA(gab:List D)(gaa:D):M (D×List D) :=
 bd (aC gab (.int 3)) λr1=>bd (oM (aW r1.1 (.int 0))) λb2=>if b2 then
  bd (eR r1.2 gaa (.int 1)) λr3=>bd (bE r3.2 (PyData.list [(.int 3),(.int 9)])) λr4=>bd (aC r4.2 r4.1) λr5=>bd (oM (aJ (.int 1) r5.1)) λx6=>.ret ((.tuple [(.str "least"),r3.1,x6]),r5.2)
  else
  bd (oM (aW r1.1 (.int 1))) λb7=>if b7 then
  bd (oM (bZ [gaa])) λl8=>bd (cZ (λs9 d10=>bd (aC s9.1 (.int 3)) λr11=>.ret (some r11.1,(r11.2,s9.2.1,()))) l8 (r1.2,gaa,())) λr12=>bd (eO r12.1) λl13=>bd (bd (bd (bd (oM (bZ [r12.2.2.1])) λl17=>bd (bg (λd14=>bd (bd (oM (aS (PyData.list l13) d14)) λx15=>oM (aW x15 (.int 0))) λb16=>if b16 then .ret (some d14)else .ret none) l17) eO) λl18=>.ret (PyData.list l18)) λx19=>oM (gw [x19])) λx20=>bd (bd (bd (bd (bd (oM (bZ [r12.2.2.1])) λl24=>bd (bg (λd21=>bd (bd (oM (aS (PyData.list l13) d21)) λx22=>oM (aW x22 (.int 1))) λb23=>if b23 then .ret (some d21)else .ret none) l24) eO) λl25=>.ret (PyData.list l25)) λx26=>oM (gw [x26])) λx27=>.ret (.tuple [(.str "more"),x20,x27])) λx28=>.ret (x28,r12.2.1)
  else
  bd (bE r1.2 (PyData.list [(.int 2),(.int 8)])) λr29=>bd (aC r29.2 r29.1) λr30=>bd (oM (aJ (.int 2) r30.1)) λx31=>bd (eR r30.2 gaa (.int 1)) λr32=>bd (aC r32.2 x31) λr33=>.ret ((.tuple [(.str "rest"),r32.1,x31,r33.1]),r33.2)
def gv:List D->List D->M (D×List D):=λgab l=>match l with
 | [gaa]=>fA gab gaa
 | _=>.bad
theorem qr(Fn:Fun K "_law_plain" "_law_plain" gS f fd)(hmg:mg "_law_plain" = some (.ref f))(B:BN mg)(Kn:KN mg)(Kx:KX K mg)(gac:CF P w K mg base "_law_next" 1 (sp1 K 2 cj))(ga7:CF P w K mg base "_law_some" 2 (sp1 K 3 kX))(gau:CF P w K mg base "_law_one" 2 (sp1 K 2 gb)):CF P w K mg base "_law_plain" 3 (sp1 K 2 gv) :=
 ⟨f,fd,["_law_feed_here", "_law_sorts_here"],mz (k:=2) Fn sc__law_plain (λcdv A outer s H E hr =>
  (af (aO (sh:=[.p,.f,.f,.dead,.dead,.dead]) (aK (i:=2) sc__law_plain.nd (bx (i:=0) gac hr.m (ag (aq aj) aF))))
  (af (bJ (bm (aG (bh (aA hr)) bq (ao (av 2)) (ao aj)))
  (az (aM (jh (ag (aq aD) (ag (bx (i:=0) ga7 hr.m (ag (aq (av 1)) (ag (aq aj) aF))) (ag (eY aP aY (aq aj) (bx (i:=0) gac hr.m (ag (bx (i:=0) gau hr.m (ag (aq (eS (d8 (aa aj (aa aj aE))))) aF)) aF))) aF))))))
  aX)
  (af (bJ (bm (aG (bh (aA hr)) bq (ao (av 2)) (ao aj)))
  (af (aO (sh:=[.p,.f,.dead,.f,.dead,.dead]) (aK (i:=3) sc__law_plain.nd (HF (vL (sh:=[.p,.f,.dead,.dead,.dead,.dead]) (N':=N__law_plain_0) (k:=1) rfl (bQ (by kernel_rfl) rfl rfl) (jg (dL rfl B.range (aa (av 1) aE) rfl)) (λ_ _ _ _ _=>(bL (i:=6) (show 6<=6 by decide) kQ)) (λ_ _ _ _ _=>(zr fD)) (λ_ _ _ _ _=>(bx (i:=0) gac hr.m (ag (aq aj) aF)))))))
  (af (aO (sh:=[.p,.f,.dead,.f,.f,.dead]) (aK (i:=4) sc__law_plain.nd (aq (cD cH gF B.tuple (by decide +kernel) (aQ (ao (eS (gl (N':=N__law_plain_1) (k:=1) rfl (bQ (by kernel_rfl) rfl rfl) (dL rfl B.range (aa (av 1) aE) rfl) (λ_ _ _ _ _=>(bL (i:=6) (show 6<=6 by decide) kP)) (λ_ _ _ _ _=>(nE (aG (bh (aA hr)) bq (ao (cw (bG (aA hr)) bF (ao (av 3)) (ao (av 6)))) (ao aj)))) (λ_ _ _ _ _=>(av 6))))) aZ)))))
  (az (aM (aq (bH (aa aD (aa (av 4) (aa (cD cH gF B.tuple (by decide +kernel) (aQ (ao (eS (gl (N':=N__law_plain_2) (k:=1) rfl (bQ (by kernel_rfl) rfl rfl) (dL rfl B.range (aa (av 1) aE) rfl) (λ_ _ _ _ _=>(bL (i:=6) (show 6<=6 by decide) kO)) (λ_ _ _ _ _=>(nE (aG (bh (aA hr)) bq (ao (cw (bG (aA hr)) bF (ao (av 3)) (ao (av 6)))) (ao aj)))) (λ_ _ _ _ _=>(av 6))))) aZ)) aE)))))))))
  aX)
  (af (aO (sh:=[.p,.f,.dead,.dead,.dead,.f]) (aK (i:=5) sc__law_plain.nd (eY aP aY (aq aj) (bx (i:=0) gac hr.m (ag (bx (i:=0) gau hr.m (ag (aq (eS (d8 (aa aj (aa aj aE))))) aF)) aF)))))
  (az (aM (jh (ag (aq aD) (ag (bx (i:=0) ga7 hr.m (ag (aq (av 1)) (ag (aq aj) aF))) (ag (aq (av 5)) (ag (bx (i:=0) gac hr.m (ag (aq (av 5)) aF)) aF))))))))))))
 (λg ds hl=>(by obtain⟨gaa,rfl⟩:=ln1 (Nat.succ.inj hl);kernel_rfl)),hmg,Fn.kp,(qA Fn λ_ _ _ _ _ _ _ _=>rfl)⟩
abbrev dr:Stmt:=top 28
abbrev nk:List Str:=["_law_feed_here", "_law_sorts_here", "_law_size", "_law_deep", "_law_way", "_law_first", "_law_one_here"]
theorem sc__law_question:FnScope nk ["_law_feed_here", "_law_sorts_here", "_law_size", "_law_deep"] (aB dr):=⟨rfl,rfl,rfl,by decide +kernel,rfl,by decide +kernel,by decide +kernel⟩
def dW(self:List D->D->D->D->M (D×List D))(gab:List D)(gaa:D)(gaK:D)(gat:D):M (D×List D) :=
 bd (aC gab (.int 4)) λr1=>bd (bd (oM (aW gaK (.int 1))) λb3=>if b3 then .ret true else bd (oM (aW gat (.int 1))) λb2=>if b2 then .ret true else oM (aW r1.1 (.int 0))) λb4=>if b4 then
  bd (fA r1.2 gaa) λr5=>.ret (r5.1,r5.2)
  else
  bd (bd (oM (aW r1.1 (.int 1))) λb6=>if b6 then .ret true else oM (aW gaK (.int 2))) λb7=>if b7 then
  bd (oM (cy gaK (.int 1))) λx8=>bd (oM (cy gat (.int 1))) λx9=>bd (self r1.2 gaa x8 x9) λr10=>.ret ((.tuple [(.str "not"),r10.1]),r10.2)
  else
  bd (oM (cy gaK (.int 2))) λx11=>bd (aC r1.2 x11) λr12=>bd (oM (aJ (.int 1) r12.1)) λx13=>bd (oM (cy gat (.int 1))) λx14=>bd (self r12.2 gaa x13 x14) λr15=>bd (bd (oM (fQ r1.1 (.int 2))) λx16=>oM (aS (PyData.list [(.str "both"),(.str "either")]) x16)) λx17=>bd (bd (oM (cy gaK (.int 1))) λx18=>oM (cy x18 x13)) λx19=>bd (oM (cy gat (.int 1))) λx20=>bd (self r15.2 gaa x19 x20) λr21=>.ret ((.tuple [x17,r15.1,r21.1]),r21.2)
def cb:Nat->List D->D->D->D->M (D×List D)
 | 0=>λ_ _ _ _=>.bad
 | i+1=>dW (cb i)
def bV(i:Nat):List D->List D->M (D×List D):=λgab l=>match l with
 | [gaa,gaK,gat]=>cb i gab gaa gaK gat
 | _=>.bad
theorem mB(Fn:Fun K "_law_question" "_law_question" dr f fd)(B:BN mg)(Kn:KN mg)(Kx:KX K mg)(gac:CF P w K mg base "_law_next" 1 (sp1 K 2 cj))(gaN:CF P w K mg base "_law_plain" 3 (sp1 K 2 gv))(i:Nat)(Cself:CF P w K mg base "_law_question" (4+i) (sp1 K 4 (bV i))):FnOk P w K mg base (CX1 P w) (4+i+1) f fd ["_law_feed_here", "_law_sorts_here", "_law_size", "_law_deep"] (sp1 K 4 (bV (i+1))) :=
 mz (k:=4+i) Fn sc__law_question (λcdv A outer s H E hr =>
  (af (aO (sh:=[.p,.f,.f,.f,.f,.dead,.dead]) (aK (i:=4) sc__law_question.nd (bx (i:=0) gac (hr.mono (by omega)) (ag (aq aj) aF))))
  (af (bJ (bm (iq (e9 (aG (bh (aA hr)) bq (ao (av 2)) (ao aj)) (e9 (aG (bh (aA hr)) bq (ao (av 3)) (ao aj)) (hZ (aG (bh (aA hr)) bq (ao (av 4)) (ao aj)))))))
  (az (aM (bx (i:=0) gaN (hr.mono (by omega)) (ag (aq (av 1)) aF))))
  aX)
  (af (bJ (bm (iq (e9 (aG (bh (aA hr)) bq (ao (av 4)) (ao aj)) (hZ (aG (bh (aA hr)) bq (ao (av 2)) (ao aj))))))
  (az (aM (jh (ag (aq aD) (ag (bx (i:=0) Cself (hr.mono (by omega)) (ag (aq (av 1)) (ag (aq (aH eD eF (ao (av 2)) (ao aj))) (ag (aq (aH eD eF (ao (av 3)) (ao aj))) aF)))) aF)))))
  aX)
  (af (aO (sh:=[.p,.f,.f,.f,.f,.f,.dead]) (aK (i:=5) sc__law_question.nd (eY aP aY (aq aj) (bx (i:=0) gac (hr.mono (by omega)) (ag (aq (aH eD eF (ao (av 2)) (ao aj))) aF)))))
  (af (aO (sh:=[.p,.f,.f,.f,.f,.f,.f]) (aK (i:=6) sc__law_question.nd (bx (i:=0) Cself (hr.mono (by omega)) (ag (aq (av 1)) (ag (aq (av 5)) (ag (aq (aH eD eF (ao (av 3)) (ao aj))) aF))))))
  (az (aM (jh (ag (aq (cw (bG (aA hr)) bF (ao (eS (d8 (aa aD (aa aD aE))))) (ao (aH iQ iU (ao (av 4)) (ao aj))))) (ag (aq (av 6)) (ag (bx (i:=0) Cself (hr.mono (by omega)) (ag (aq (av 1)) (ag (aq (aH eD eF (ao (aH eD eF (ao (av 2)) (ao aj))) (ao (av 5)))) (ag (aq (aH eD eF (ao (av 3)) (ao aj))) aF)))) aF))))))))))))
 (λg ds hl=>(by obtain⟨gaa,gaK,gat,rfl⟩:=ln3 (Nat.succ.inj hl);kernel_rfl))
theorem lP(Fn:Fun K "_law_question" "_law_question" dr f fd)(hmg:mg "_law_question" = some (.ref f))(B:BN mg)(Kn:KN mg)(Kx:KX K mg)(gac:CF P w K mg base "_law_next" 1 (sp1 K 2 cj))(gaN:CF P w K mg base "_law_plain" 3 (sp1 K 2 gv))(i:Nat):CF P w K mg base "_law_question" (4+i) (sp1 K 4 (bV i)):=by
 induction i with
 | zero =>
  have e:bV 0=λ_ _=>.bad:=by
   funext g l;unfold bV;split<;>rfl
  rw[e]
  exact CF.zero1 (ps:=["_law_feed_here", "_law_sorts_here", "_law_size", "_law_deep"]) _ _ hmg Fn.kp (Cz Fn λ_ _ _ _ _ _ _ _ _ _=>rfl)
 | succ i ih=>exact⟨f,fd,["_law_feed_here", "_law_sorts_here", "_law_size", "_law_deep"],mB Fn B Kn Kx gac gaN i ih,hmg,Fn.kp,(Cz Fn λ_ _ _ _ _ _ _ _ _ _=>rfl)⟩
abbrev dN:Stmt:=top 29
abbrev lF:List Str:=["_law_some_here"]
theorem jL:FnScope lF ["_law_some_here"] (aB dN):=⟨rfl,rfl,rfl,by decide +kernel,rfl,by decide +kernel,by decide +kernel⟩
abbrev N__law_sorts_text_0:List Str:=["_law_some_here", "_law_sort"]
theorem gY:N__law_sorts_text_0.Nodup:=by decide +kernel
def bn(gag:D):M D :=
 bd (bd (oM (aW gag (.tuple []))) λb6=>if b6 then .ret (.str "-")else onT .str (.str ",") (bd (bd (bd (oM (d9 gag)) λl3=>bd (bg (λd1=>bd (oM (pF [d1])) λx2=>.ret (some x2)) l3) eO) λl4=>.ret (PyData.list l4)) λx5=>oM (im (.str ",") [x5]))) λx7=>.ret x7
def dE:List D->M D:=λl=>match l with
 | [gag]=>bn gag
 | _=>.bad
theorem jV(Fn:Fun K "_law_sorts_text" "_law_sorts_text" dN f fd)(hmg:mg "_law_sorts_text" = some (.ref f))(B:BN mg)(Kn:KN mg)(Kx:KX K mg):CF P w K mg base "_law_sorts_text" 1 (spD K 1 dE) :=
 ⟨f,fd,["_law_some_here"],dg (k:=0) Fn jL (λcdv A outer s H E hr =>
  (az (aM (aq (gk (aG (bh (aA hr)) bq (ao (av 0)) (ao (bH aE))) aD (lD (ty:=.str) gh pr pi gZ (ao aD) (aa (eS (gl (N':=N__law_sorts_text_0) (k:=1) rfl (bQ (by kernel_rfl) rfl rfl) (eK (av 0)) (λ_ _ _ _ _=>(bL (i:=1) (show 1<=1 by decide) gY)) (λ_ _ _ _ _=>fD) (λ_ _ _ _ _=>(cD lB BD B.str (by decide +kernel) (aQ (ao (av 1)) aZ))))) aE) rfl rfl rfl rfl rfl))))))
 (λds hl=>(by obtain⟨gag,rfl⟩:=ln1 hl;kernel_rfl)),hmg,Fn.kp,(pW Fn λ_ _ _ _ _ _ _=>rfl)⟩
abbrev fW:Stmt:=top 30
abbrev vT:List Str:=["_law_question_here", "_law_words"]
theorem sc__law_text:FnScope vT ["_law_question_here"] (aB fW):=⟨rfl,rfl,rfl,by decide +kernel,rfl,by decide +kernel,by decide +kernel⟩
abbrev N__law_text_0:List Str:=["_law_question_here", "_law_words", "_law_part"]
theorem lT:N__law_text_0.Nodup:=by decide +kernel
abbrev N__law_text_1:List Str:=["_law_question_here", "_law_words", "_law_part"]
theorem lS:N__law_text_1.Nodup:=by decide +kernel
def bM(self:D->M D)(gah:D):M D :=
 bd (bd (oM (aS gah (.int 0))) λx1=>oM (bO x1 (.tuple [(.str "not"),(.str "both"),(.str "either")]))) λb2=>if b2 then
  bd (onT .str (.str " ") (bd (bd (bd (bd (oM (aS gah (.int 0))) λx3=>.ret [x3]) λl4=>.ret (PyData.list l4)) λx11=>bd (bd (bd (bd (bd (asI (.int 1)) λlo5=>oM (cY gah lo5 none)) λx6=>oM (d9 x6)) λl9=>bd (bg (λd7=>bd (self d7) λx8=>.ret (some x8)) l9) eO) λl10=>.ret (PyData.list l10)) λx12=>oM (aJ x11 x12)) λx13=>oM (im (.str " ") [x13]))) λx14=>.ret x14
  else
  bd (bd (bd (bd (bd (asI (.int 1)) λlo15=>oM (cY gah lo15 none)) λx16=>oM (d9 x16)) λl20=>bd (bg (λd17=>bd (bd (oM (i3 "tuple" d17)) λb18=>if b18 then bn d17 else oM (pF [d17])) λx19=>.ret (some x19)) l20) eO) λl21=>.ret (PyData.list l21)) λx22=>bd (onT .str (.str " ") (bd (bd (bd (bd (oM (aS gah (.int 0))) λx23=>.ret [x23]) λl24=>.ret (PyData.list l24)) λx25=>oM (aJ x25 x22)) λx26=>oM (im (.str " ") [x26]))) λx27=>.ret x27
def eQ:Nat->D->M D
 | 0=>λ_=>.bad
 | i+1=>bM (eQ i)
def cS(i:Nat):List D->M D:=λl=>match l with
 | [gah]=>eQ i gah
 | _=>.bad
theorem tJ(Fn:Fun K "_law_text" "_law_text" fW f fd)(B:BN mg)(Kn:KN mg)(Kx:KX K mg)(gax:CF P w K mg base "_law_sorts_text" 1 (spD K 1 dE))(i:Nat)(Cself:CF P w K mg base "_law_text" (2+i) (spD K 1 (cS i))):FnOk P w K mg base (CX1 P w) (2+i+1) f fd ["_law_question_here"] (spD K 1 (cS (i+1))) :=
 dg (k:=2+i) Fn sc__law_text (λcdv A outer s H E hr =>
  (af (bJ (bm (aG (fk (aA hr)) gX (ao (cw (bG (aA hr)) bF (ao (av 0)) (ao aj))) (ao (bH (aa aD (aa aD (aa aD aE)))))))
  (az (aM (aq (lD (ty:=.str) gh pr pi gZ (ao aD) (aa (aH aP aY (ao (eS (d8 (aa (cw (bG (aA hr)) bF (ao (av 0)) (ao aj)) aE)))) (ao (eS (gl (N':=N__law_text_0) (k:=1) rfl (bQ (by kernel_rfl) rfl rfl) (eK (cC (ao (av 0)) (cG aj) dm)) (λ_ _ _ _ _=>(bL (i:=2) (show 2<=2 by decide) lT)) (λ_ _ _ _ _=>fD) (λ_ _ _ _ _=>(dZ Cself (hr.mono (by omega)) (aa (av 2) aE))))))) aE) rfl rfl rfl rfl rfl))))
  aX)
  (af (aO (sh:=[.f,.f]) (kh (i:=1) sc__law_text.nd rfl (lo rfl) (.inl rfl) (N':=N__law_text_1) (k:=1) rfl (bQ (by kernel_rfl) rfl rfl) (eK (cC (ao (av 0)) (cG aj) dm)) (λ_ _ _ _ _=>(bL (i:=2) (show 2<=2 by decide) lS)) (λ_ _ _ _ _=>fD) (λ_ _ _ _ _=>(gk (tW (zu (T := "tuple") (by decide) rfl B.isinstance rfl B.tuple (by decide +kernel) (ao (av 2)) rfl rfl rfl) (λ_=>rfl)) (dZ gax (hr.mono (by omega)) (aa (av 2) aE)) (cD lB BD B.str (by decide +kernel) (aQ (ao (av 2)) aZ)))) rfl (λ_=>rfl)))
  (az (aM (aq (lD (ty:=.str) gh pr pi gZ (ao aD) (aa (aH aP aY (ao (eS (d8 (aa (cw (bG (aA hr)) bF (ao (av 0)) (ao aj)) aE)))) (ao (av 1))) aE) rfl rfl rfl rfl rfl)))))))
 (λds hl=>(by obtain⟨gah,rfl⟩:=ln1 hl;kernel_rfl))
theorem sP(Fn:Fun K "_law_text" "_law_text" fW f fd)(hmg:mg "_law_text" = some (.ref f))(B:BN mg)(Kn:KN mg)(Kx:KX K mg)(gax:CF P w K mg base "_law_sorts_text" 1 (spD K 1 dE))(i:Nat):CF P w K mg base "_law_text" (2+i) (spD K 1 (cS i)):=by
 induction i with
 | zero =>
  have e:cS 0=λ_=>.bad:=by
   funext l;unfold cS;split<;>rfl
  rw[e]
  exact CF.zero (ps:=["_law_question_here"]) _ _ hmg Fn.kp (pW Fn λ_ _ _ _ _ _ _=>rfl)
 | succ i ih=>exact⟨f,fd,["_law_question_here"],tJ Fn B Kn Kx gax i ih,hmg,Fn.kp,(pW Fn λ_ _ _ _ _ _ _=>rfl)⟩
abbrev gq:Stmt:=top 31
abbrev qC:List Str:=["_law_word", "_law_low", "_law_high"]
theorem nP:FnScope qC ["_law_word", "_law_low", "_law_high"] (aB gq):=⟨rfl,rfl,rfl,by decide +kernel,rfl,by decide +kernel,by decide +kernel⟩
abbrev N__law_number_0:List Str:=["_law_word", "_law_low", "_law_high", "_law_sign"]
theorem jY:N__law_number_0.Nodup:=by decide +kernel
def bv(gaj:D)(gbr:D)(gbf:D):M D :=
 bd (bd (oM (aW gaj (.str ""))) λb8=>if b8 then .ret true else bd (bd (oM (ej [gaj])) λx1=>oM (kH x1 (.int 9))) λb7=>if b7 then .ret true else bd (bd (bd (oM (d9 gaj)) λl4=>bd (bg (λd2=>bd (oM (fP d2 (.str "0123456789"))) λb3=>if b3 then .ret (some d2)else .ret none) l4) eO) λl5=>.ret (PyData.list l5)) λx6=>oM (kG x6 (PyData.list []))) λb9=>if b9 then
  .ret .none
  else
  bd (bd (bd (oM (ej [gaj])) λx10=>oM (kH x10 (.int 1))) λb12=>if b12 then bd (oM (aS gaj (.int 0))) λx11=>oM (aW x11 (.str "0"))else .ret false) λb13=>if b13 then
  .ret .none
  else
  bd (bd (bd (oM (rH [gaj])) λx14=>bd (oM (ie gbr x14)) λb15=>if b15 then oM (ie x14 gbf)else .ret false) λb16=>if b16 then oM (rH [gaj])else .ret .none) λx17=>.ret x17
def fR:List D->M D:=λl=>match l with
 | [gaj,gbr,gbf]=>bv gaj gbr gbf
 | _=>.bad
theorem oH(Fn:Fun K "_law_number" "_law_number" gq f fd)(hmg:mg "_law_number" = some (.ref f))(B:BN mg)(Kn:KN mg)(Kx:KX K mg):CF P w K mg base "_law_number" 1 (spD K 3 fR) :=
 ⟨f,fd,["_law_word", "_law_low", "_law_high"],dg (k:=0) Fn nP (λcdv A outer s H E hr =>
  (af (bJ (bm (iq (e9 (aG (bh (aA hr)) bq (ao (av 0)) (ao aD)) (e9 (aG qW qY (ao (bC bK df B.len ig (aQ (ao (av 0)) aZ))) (ao aj)) (hZ (aG (oC (aA hr)) bq (ao (eS (gl (N':=N__law_number_0) (k:=1) rfl (bQ (by kernel_rfl) rfl rfl) (eK (av 0)) (λ_ _ _ _ _=>(bL (i:=3) (show 3<=3 by decide) jY)) (λ_ _ _ _ _=>(nE (aG (oB (aA hr)) qX (ao (av 3)) (ao aD)))) (λ_ _ _ _ _=>(av 3))))) (ao (eS (d8 aE)))))))))
  (az (aM (aq dh)))
  aX)
  (af (bJ (bm (iq (xK (aG qW qY (ao (bC bK df B.len ig (aQ (ao (av 0)) aZ))) (ao aj)) (tU (aG (bh (aA hr)) bq (ao (cw (bG (aA hr)) bF (ao (av 0)) (ao aj))) (ao aD))))))
  (az (aM (aq dh)))
  aX)
  (az (aM (aq (gk (pY (iR (aA hr)) (iR (aA hr)) iV iV (ao (av 1)) (ao (cD mE sM B.int (by decide +kernel) (aQ (ao (av 0)) aZ))) (ao (av 2)) (by with_unfolding_all rfl)) (cD mE sM B.int (by decide +kernel) (aQ (ao (av 0)) aZ)) dh)))))))
 (λds hl=>(by obtain⟨gaj,gbr,gbf,rfl⟩:=ln3 hl;kernel_rfl)),hmg,Fn.kp,(vF Fn λ_ _ _ _ _ _ _ _ _=>rfl)⟩
abbrev gR:Stmt:=top 32
abbrev t6:List Str:=["_law_word", "_law_sorts_here", "_law_others", "_law_some_here"]
theorem sc__law_sorts:FnScope t6 ["_law_word", "_law_sorts_here", "_law_others"] (aB gR):=⟨rfl,rfl,rfl,by decide +kernel,rfl,by decide +kernel,by decide +kernel⟩
abbrev N__law_sorts_0:List Str:=["_law_word", "_law_sorts_here", "_law_others", "_law_some_here", "_law_part"]
theorem kN:N__law_sorts_0.Nodup:=by decide +kernel
abbrev N__law_sorts_1:List Str:=["_law_word", "_law_sorts_here", "_law_others", "_law_some_here", "_law_one_here"]
theorem kM:N__law_sorts_1.Nodup:=by decide +kernel
def fy(gaj:D)(gaa:D)(gaW:D):M D :=
 bd (oM (aW gaj (.str "-"))) λb1=>if b1 then
  .ret (.tuple [])
  else
  bd (bd (bd (bd (bd (onT .str gaj (oM (hJ gaj [(.str ",")]))) λl2=>.ret (PyData.list l2)) λx3=>oM (d9 x3)) λl7=>bd (bg (λd4=>bd (bd (oM (cy gaa (.int 1))) λx5=>bv d4 (.int 0) x5) λx6=>.ret (some x6)) l7) eO) λl8=>.ret (PyData.list l8)) λx9=>bd (bd (oM (bO .none x9)) λb18=>if b18 then .ret true else bd (bd (bd (oM (yZ [x9])) λl10=>.ret (PyData.list l10)) λx11=>oM (kG x9 x11)) λb17=>if b17 then .ret true else bd (bd (bd (oM (d9 x9)) λl14=>bd (bg (λd12=>bd (oM (bO d12 gaW)) λb13=>if b13 then .ret (some d12)else .ret none) l14) eO) λl15=>.ret (PyData.list l15)) λx16=>oM (kG x16 (PyData.list []))) λb19=>if b19 then
  .ret .none
  else
  bd (oM (gw [x9])) λx20=>.ret x20
def jE:List D->M D:=λl=>match l with
 | [gaj,gaa,gaW]=>fy gaj gaa gaW
 | _=>.bad
theorem qq(Fn:Fun K "_law_sorts" "_law_sorts" gR f fd)(hmg:mg "_law_sorts" = some (.ref f))(B:BN mg)(Kn:KN mg)(Kx:KX K mg)(gav:CF P w K mg base "_law_number" 1 (spD K 3 fR)):CF P w K mg base "_law_sorts" 2 (spD K 3 jE) :=
 ⟨f,fd,["_law_word", "_law_sorts_here", "_law_others"],dg (k:=1) Fn sc__law_sorts (λcdv A outer s H E hr =>
  (af (bJ (bm (aG (bh (aA hr)) bq (ao (av 0)) (ao aD)))
  (az (aM (aq (bH aE))))
  aX)
  (af (aO (sh:=[.dead,.dead,.f,.f]) (kh (i:=3) sc__law_sorts.nd rfl (lo rfl) (.inl rfl) (N':=N__law_sorts_0) (k:=1) rfl (bQ (by kernel_rfl) rfl rfl) (eK (eS (lE (ty:=.str) gh wn we iX (ao (av 0)) (aa aD aE) rfl rfl rfl rfl rfl))) (λ_ _ _ _ _=>(bL (i:=4) (show 4<=4 by decide) kN)) (λ_ _ _ _ _=>fD) (λ_ _ _ _ _=>(dZ gav hr.m (aa (av 4) (aa aj (aa (aH eD eF (ao (av 1)) (ao aj)) aE))))) rfl (λ_=>rfl)))
  (af (bJ (bm (iq (e9 (aG (fk (aA hr)) gX (ao dh) (ao (av 3))) (e9 (aG (oC (aA hr)) bq (ao (av 3)) (ao (eS (vJ rfl (aA hr) rfl B.sorted rfl B.set (aQ (ao (av 3)) aZ) rfl rfl)))) (hZ (aG (oC (aA hr)) bq (ao (eS (gl (N':=N__law_sorts_1) (k:=1) rfl (bQ (by kernel_rfl) rfl rfl) (eK (av 3)) (λ_ _ _ _ _=>(bL (i:=4) (show 4<=4 by decide) kM)) (λ_ _ _ _ _=>(nE (aG (fk (aA hr)) gX (ao (av 4)) (ao (av 2))))) (λ_ _ _ _ _=>(av 4))))) (ao (eS (d8 aE)))))))))
  (az (aM (aq dh)))
  aX)
  (az (aM (aq (cD cH gF B.tuple (by decide +kernel) (aQ (ao (av 3)) aZ)))))))))
 (λds hl=>(by obtain⟨gaj,gaa,gaW,rfl⟩:=ln3 hl;kernel_rfl)),hmg,Fn.kp,(vF Fn λ_ _ _ _ _ _ _ _ _=>rfl)⟩
abbrev dO:Stmt:=top 34
abbrev lG:List Str:=["_law_words", "_law_at", "_law_sorts_here", "_law_many", "_law_word", "_law_parts", "_law_wanted", "_law_k", "_law_told_here", "_law_found"]
theorem sc__law_read_plain:FnScope lG ["_law_words", "_law_at", "_law_sorts_here", "_law_many"] (aB dO):=⟨rfl,rfl,rfl,by decide +kernel,rfl,by decide +kernel,by decide +kernel⟩
def cP(gas:D)(gaA:D)(gad:D)(gay:D)(gaH:D)(gan:D)(gaF:D):M D :=
 bd (bd (bd (oM (aJ gaA gaF)) λx5=>oM (aJ x5 (.int 1))) λx6=>.ret (.tuple [(.bool true),gan,x6,gay])) λx7=>.ret x7
def aN(kn8:D×D×D×D×D×D×D×Unit->M D)(gas:D)(gaA:D)(gad:D)(gay:D)(gaH:D)(gan:D)(gaF:D)(gbD:D)(ga8:D):M D :=
 bd (oM (jB ga8 .none)) λb24=>if b24 then
  bd (bd (oM (aJ gaA gbD)) λx25=>.ret (.tuple [(.bool false),x25])) λx26=>.ret x26
  else
  bd (oM (aJ gan (.tuple [ga8]))) λx27=>kn8 (gas,gaA,gad,gay,gaH,x27,gaF,())
def br(gas:D)(gaA:D)(gad:D)(gay:D)(gaH:D)(gan:D)(gaF:D)(d_:D)(kn8:D×D×D×D×D×D×D×Unit->M D):M D :=
 bd (bd (oM (aJ gaA d_)) λx9=>bd (oM (ej [gas])) λx10=>oM (aW x9 x10)) λb11=>if b11 then
  bd (bd (oM (aJ gaA d_)) λx12=>.ret (.tuple [(.bool false),x12])) λx13=>.ret x13
  else
  bd (bd (oM (aJ gaA d_)) λx14=>oM (aS gas x14)) λx15=>bd (bd (oM (aW d_ (.int 1))) λb16=>if b16 then .ret true else oM (aW gaH (.str "more"))) λb17=>if b17 then
  bd (bd (bd (oM (aW d_ (.int 2))) λb18=>if b18 then oM (aS gan (.int 1))else .ret (.tuple [])) λx19=>fy x15 gad x19) λx20=>bd (bd (bd (oM (aW x20 (.tuple []))) λb21=>if b21 then oM (kG gaH (.str "more"))else .ret false) λb22=>if b22 then .ret .none else .ret x20) λx23=>aN kn8 gas gaA gad gay gaH gan gaF d_ x23
  else
  bd (oM (aW gaH (.str "least"))) λb28=>if b28 then
  bd (bv x15 (.int 1) (.int 9)) λx29=>aN kn8 gas gaA gad gay gaH gan gaF d_ x29
  else
  bd (bd (oM (aW d_ (.int 2))) λb32=>if b32 then bv x15 (.int 2) (.int 9)else bd (bd (oM (aS gan (.int 2))) λx30=>oM (cy x30 (.int 1))) λx31=>bv x15 (.int 0) x31) λx33=>aN kn8 gas gaA gad gay gaH gan gaF d_ x33
def bB(gak:D)(gaB:D)(gaa:D)(gai:D):M D :=
 bd (oM (aS gak gaB)) λx1=>bd (oM (aS (.dict [(.str "least",.int 2),(.str "more",.int 2),(.str "rest",.int 3)]) x1)) λx2=>bd (bd (oM (aJ x2 (.int 1))) λx3=>oM (hU [(.int 1),x3])) λl4=>tI (λs34 d35 kn=>br s34.1 s34.2.1 s34.2.2.1 s34.2.2.2.1 s34.2.2.2.2.1 s34.2.2.2.2.2.1 s34.2.2.2.2.2.2.1 d35 kn) l4 (gak,gaB,gaa,gai,x1,(.tuple [x1]),x2,()) (λs34=>cP s34.1 s34.2.1 s34.2.2.1 s34.2.2.2.1 s34.2.2.2.2.1 s34.2.2.2.2.2.1 s34.2.2.2.2.2.2.1)
def dF:List D->M D:=λl=>match l with
 | [gak,gaB,gaa,gai]=>bB gak gaB gaa gai
 | _=>.bad
theorem jW(Fn:Fun K "_law_read_plain" "_law_read_plain" dO f fd)(hmg:mg "_law_read_plain" = some (.ref f))(B:BN mg)(Kn:KN mg)(Kx:KX K mg)(gbc:CF P w K mg base "_law_sorts" 2 (spD K 3 jE))(gav:CF P w K mg base "_law_number" 1 (spD K 3 fR)):CF P w K mg base "_law_read_plain" 3 (spD K 4 dF) :=
 ⟨f,fd,["_law_words", "_law_at", "_law_sorts_here", "_law_many"],dg (k:=2) Fn sc__law_read_plain (λcdv A outer s H E hr =>
  (af (aO (sh:=[.f,.f,.f,.f,.f,.dead,.dead,.dead,.dead,.dead]) (aK (i:=4) sc__law_read_plain.nd (aq (cw (bG (aA hr)) bF (ao (av 0)) (ao (av 1))))))
  (af (aO (sh:=[.f,.f,.f,.f,.f,.f,.dead,.dead,.dead,.dead]) (aK (i:=5) sc__law_read_plain.nd (aq (bH (aa (av 4) aE)))))
  (af (aO (sh:=[.f,.f,.f,.f,.f,.f,.f,.dead,.dead,.dead]) (aK (i:=6) sc__law_read_plain.nd (aq (cw (bG (aA hr)) bF (ao (EH [("least",2),("more",2),("rest",3)] (n5 og sG (n5 og sG (n5 og sG Dw))) rfl rfl (by decide) (by decide) (by decide) (by kernel_rfl))) (ao (av 4))))))
  (af (jw (sh:=[.f,.f,.f,.f,.f,.f,.f,.dead,.dead,.dead]) PassesOwn.leaving rfl (jg (Au rfl B.range (aa aj (aa (aH aP aY (ao (av 6)) (ao aj)) aE)) rfl rfl)) (bL (i:=7) (eE _) sc__law_read_plain.nd)
  (af (bJ (bm (aG (bh (aA hr)) bq (ao (aH aP aY (ao (av 1)) (ao (av 7)))) (ao (bC bK df B.len ig (aQ (ao (av 0)) aZ)))))
  (az (aM (aq (bH (aa jH (aa (aH aP aY (ao (av 1)) (ao (av 7))) aE))))))
  aX)
  (af (aO (sh:=[.f,.f,.f,.f,.f,.f,.f,.f,.f,.dead]) (aK (i:=8) sc__law_read_plain.nd (aq (cw (bG (aA hr)) bF (ao (av 0)) (ao (aH aP aY (ao (av 1)) (ao (av 7))))))))
  (af (aO (sh:=[.f,.f,.f,.f,.f,.f,.f,.f,.dead,.f]) (bJ (bm (iq (e9 (aG (bh (aA hr)) bq (ao (av 7)) (ao aj)) (hZ (aG (bh (aA hr)) bq (ao (av 4)) (ao aD))))))
  (af (aO (sh:=[.f,.f,.f,.f,.f,.f,.f,.f,.dead,.f]) (aK (i:=9) sc__law_read_plain.nd (aq (dZ gbc hr.m (aa (av 8) (aa (av 2) (aa (gk (aG (bh (aA hr)) bq (ao (av 7)) (ao aj)) (cw (bG (aA hr)) bF (ao (av 5)) (ao aj)) (bH aE)) aE)))))))
  (az (aK (i:=9) sc__law_read_plain.nd (aq (gk (iq (xK (aG (bh (aA hr)) bq (ao (av 9)) (ao (bH aE))) (tU (aG (oC (aA hr)) bq (ao (av 4)) (ao aD))))) dh (av 9))))))
  (az (bJ (bm (aG (bh (aA hr)) bq (ao (av 4)) (ao aD)))
  (az (aK (i:=9) sc__law_read_plain.nd (aq (dZ gav hr.m (aa (av 8) (aa aj (aa aj aE)))))))
  (az (aK (i:=9) sc__law_read_plain.nd (aq (gk (aG (bh (aA hr)) bq (ao (av 7)) (ao aj)) (dZ gav hr.m (aa (av 8) (aa aj (aa aj aE)))) (dZ gav hr.m (aa (av 8) (aa aj (aa (aH eD eF (ao (cw (bG (aA hr)) bF (ao (av 5)) (ao aj))) (ao aj)) aE))))))))))))
  (af (bJ (bm (aG sI bq (ao (av 9)) (ao dh)))
  (az (aM (aq (bH (aa jH (aa (aH aP aY (ao (av 1)) (ao (av 7))) aE))))))
  aX)
  (az (aK (i:=5) sc__law_read_plain.nd (aq (aH aP aY (ao (av 5)) (ao (bH (aa (av 9) aE))))))))))))
  (az (aM (aq (bH (aa jH (aa (av 5) (aa (aH aP aY (ao (aH aP aY (ao (av 1)) (ao (av 6)))) (ao aj)) (aa (av 3) aE)))))))))))))
 (λds hl=>(by obtain⟨gak,gaB,gaa,gai,rfl⟩:=ln4 hl;kernel_rfl)),hmg,Fn.kp,(Cz Fn λ_ _ _ _ _ _ _ _ _ _=>rfl)⟩
abbrev fX:Stmt:=top 33
abbrev vV:List Str:=["_law_words", "_law_at", "_law_sorts_here", "_law_deep", "_law_many", "_law_known", "_law_word", "_law_parts", "_law_k", "_law_found"]
theorem sc__law_read:FnScope vV ["_law_words", "_law_at", "_law_sorts_here", "_law_deep", "_law_many"] (aB fX):=⟨rfl,rfl,rfl,by decide +kernel,rfl,by decide +kernel,by decide +kernel⟩
def jd(self:D->D->D->D->D->M D)(gas:D)(gaA:D)(gad:D)(gbu:D)(gay:D)(gan:D):M D :=
 .ret (.tuple [(.bool true),gan,gaA,gay])
def dU(self:D->D->D->D->D->M D)(gas:D)(gaA:D)(gad:D)(gbu:D)(gay:D)(gan:D)(d_:D)(kn16:D×D×D×D×D×D×Unit->M D):M D :=
 bd (bd (oM (cy gbu (.int 1))) λx17=>self gas gaA gad x17 gay) λx18=>bd (bd (bd (oM (aS x18 (.int 0))) λx19=>oM (kq x19)) λb20=>.ret (!b20)) λb21=>if b21 then
  .ret x18
  else
  bd (bd (bd (oM (aS x18 (.int 1))) λx22=>.ret (.tuple [x22])) λx23=>oM (aJ gan x23)) λx24=>bd (bd (asI (.int 2)) λlo25=>oM (cY x18 lo25 none)) λx26=>un2 x26 λy27 y28=>kn16 (gas,y27,gad,gbu,y28,x24,())
def gx(self:D->D->D->D->D->M D)(gak:D)(gaB:D)(gaa:D)(gat:D)(gai:D):M D :=
 bd (bd (bd (oM (ej [gak])) λx1=>oM (aW gaB x1)) λb5=>if b5 then .ret true else bd (oM (aW gat (.int 0))) λb4=>if b4 then .ret true else bd (oM (aW gai (.int 7))) λb3=>if b3 then .ret true else bd (oM (aS gak gaB)) λx2=>oM (fP x2 (.tuple [(.str "least"),(.str "more"),(.str "rest"),(.str "not"),(.str "both"),(.str "either")]))) λb6=>if b6 then
  .ret (.tuple [(.bool false),gaB])
  else
  bd (oM (aS gak gaB)) λx7=>bd (oM (bO x7 (.tuple [(.str "least"),(.str "more"),(.str "rest")]))) λb8=>if b8 then
  bd (bd (oM (aJ gai (.int 1))) λx9=>bB gak gaB gaa x9) λx10=>.ret x10
  else
  bd (oM (aJ gaB (.int 1))) λx11=>bd (oM (aJ gai (.int 1))) λx12=>bd (bd (bd (oM (aW x7 (.str "not"))) λb13=>if b13 then .ret (.int 1)else .ret (.int 2)) λx14=>oM (bZ [x14])) λl15=>tI (λs29 d30 kn=>dU self s29.1 s29.2.1 s29.2.2.1 s29.2.2.2.1 s29.2.2.2.2.1 s29.2.2.2.2.2.1 d30 kn) l15 (gak,x11,gaa,gat,x12,(.tuple [x7]),()) (λs29=>jd self s29.1 s29.2.1 s29.2.2.1 s29.2.2.2.1 s29.2.2.2.2.1 s29.2.2.2.2.2.1)
def cE:Nat->D->D->D->D->D->M D
 | 0=>λ_ _ _ _ _=>.bad
 | i+1=>gx (cE i)
def cU(i:Nat):List D->M D:=λl=>match l with
 | [gak,gaB,gaa,gat,gai]=>cE i gak gaB gaa gat gai
 | _=>.bad
theorem tK(Fn:Fun K "_law_read" "_law_read" fX f fd)(B:BN mg)(Kn:KN mg)(Kx:KX K mg)(gaz:CF P w K mg base "_law_read_plain" 3 (spD K 4 dF))(i:Nat)(Cself:CF P w K mg base "_law_read" (4+i) (spD K 5 (cU i))):FnOk P w K mg base (CX1 P w) (4+i+1) f fd ["_law_words", "_law_at", "_law_sorts_here", "_law_deep", "_law_many"] (spD K 5 (cU (i+1))) :=
 dg (k:=4+i) Fn sc__law_read (λcdv A outer s H E hr =>
  (af (aO (sh:=[.f,.f,.f,.f,.f,.f,.dead,.dead,.dead,.dead]) (aK (i:=5) sc__law_read.nd (aq (bH (aa aD (aa aD (aa aD (aa aD (aa aD (aa aD aE))))))))))
  (af (bJ (bm (iq (e9 (aG (bh (aA hr)) bq (ao (av 1)) (ao (bC bK df B.len ig (aQ (ao (av 0)) aZ)))) (e9 (aG (bh (aA hr)) bq (ao (av 3)) (ao aj)) (e9 (aG (bh (aA hr)) bq (ao (av 4)) (ao aj)) (hZ (aG (oB (aA hr)) qX (ao (cw (bG (aA hr)) bF (ao (av 0)) (ao (av 1)))) (ao (av 5)))))))))
  (az (aM (aq (bH (aa jH (aa (av 1) aE))))))
  aX)
  (af (aO (sh:=[.f,.f,.f,.f,.f,.dead,.f,.dead,.dead,.dead]) (aK (i:=6) sc__law_read.nd (aq (cw (bG (aA hr)) bF (ao (av 0)) (ao (av 1))))))
  (af (bJ (bm (aG (fk (aA hr)) gX (ao (av 6)) (ao (bH (aa aD (aa aD (aa aD aE)))))))
  (az (aM (aq (dZ gaz (hr.mono (by omega)) (aa (av 0) (aa (av 1) (aa (av 2) (aa (aH aP aY (ao (av 4)) (ao aj)) aE))))))))
  aX)
  (af (aO (sh:=[.f,.f,.f,.f,.f,.dead,.f,.f,.dead,.dead]) (aK (i:=7) sc__law_read.nd (aq (bH (aa (av 6) aE)))))
  (af (aO (sh:=[.f,.f,.f,.f,.f,.dead,.f,.f,.dead,.dead]) (Hx (i:=1) (j:=4) rfl sc__law_read.nd rfl rfl (by decide) rfl rfl (ag (aq (aH aP aY (ao (av 1)) (ao aj))) (ag (aq (aH aP aY (ao (av 4)) (ao aj))) aF)) rfl rfl))
  (af (jw (sh:=[.f,.f,.f,.f,.f,.dead,.dead,.f,.dead,.dead]) PassesOwn.leaving rfl (jg (dL rfl B.range (aa (gk (aG (bh (aA hr)) bq (ao (av 6)) (ao aD)) aj aj) aE) rfl)) (bL (i:=8) (eE _) sc__law_read.nd)
  (af (aO (sh:=[.f,.dead,.f,.f,.dead,.dead,.dead,.f,.dead,.f]) (aK (i:=9) sc__law_read.nd (aq (dZ Cself (hr.mono (by omega)) (aa (av 0) (aa (av 1) (aa (av 2) (aa (aH eD eF (ao (av 3)) (ao aj)) (aa (av 4) aE)))))))))
  (af (bJ (bm (jf (tV (ao (cw (bG (aA hr)) bF (ao (av 9)) (ao aj))) (λ_=>rfl))))
  (az (aM (aq (av 9))))
  aX)
  (af (aO (sh:=[.f,.dead,.f,.f,.dead,.dead,.dead,.f,.dead,.f]) (aK (i:=7) sc__law_read.nd (aq (aH aP aY (ao (av 7)) (ao (bH (aa (cw (bG (aA hr)) bF (ao (av 9)) (ao aj)) aE)))))))
  (az (Hz (aq (cC (ao (av 9)) (cG aj) dm)) (EK rfl (vK (bL (i:=1) (eE _) sc__law_read.nd) (vK (bL (i:=4) (eE _) sc__law_read.nd) EI rfl) rfl) rfl rfl) rfl rfl rfl))))))
  (az (aM (aq (bH (aa jH (aa (av 7) (aa (av 1) (aa (av 4) aE))))))))))))))))
 (λds hl=>(by obtain⟨gak,gaB,gaa,gat,gai,rfl⟩:=ln5 hl;kernel_rfl))
theorem sT(Fn:Fun K "_law_read" "_law_read" fX f fd)(hmg:mg "_law_read" = some (.ref f))(B:BN mg)(Kn:KN mg)(Kx:KX K mg)(gaz:CF P w K mg base "_law_read_plain" 3 (spD K 4 dF))(i:Nat):CF P w K mg base "_law_read" (4+i) (spD K 5 (cU i)):=by
 induction i with
 | zero =>
  have e:cU 0=λ_=>.bad:=by
   funext l;unfold cU;split<;>rfl
  rw[e]
  exact CF.zero (ps:=["_law_words", "_law_at", "_law_sorts_here", "_law_deep", "_law_many"]) _ _ hmg Fn.kp (JO Fn λ_ _ _ _ _ _ _ _ _ _ _=>rfl)
 | succ i ih=>exact⟨f,fd,["_law_words", "_law_at", "_law_sorts_here", "_law_deep", "_law_many"],tK Fn B Kn Kx gaz i ih,hmg,Fn.kp,(JO Fn λ_ _ _ _ _ _ _ _ _ _ _=>rfl)⟩
abbrev jP:Stmt:=top 35
abbrev xT:List Str:=["_law_text_here", "_law_sorts_here", "_law_words", "_law_found"]
theorem sc__law_due:FnScope xT ["_law_text_here", "_law_sorts_here"] (aB jP):=⟨rfl,rfl,rfl,by decide +kernel,rfl,by decide +kernel,by decide +kernel⟩
def fU(gae:D)(gaa:D):M D :=
 bd (bd (onT .str gae (oM (hJ gae [(.str " ")]))) λl1=>.ret (PyData.list l1)) λx2=>bd (cE 6 x2 (.int 0) gaa (.int 4) (.int 0)) λx3=>bd (bd (bd (oM (aS x3 (.int 0))) λx4=>oM (kq x4)) λb5=>.ret (!b5)) λb6=>if b6 then
  bd (bd (oM (aS x3 (.int 1))) λx7=>.ret (.tuple [(.str "none"),(.int 0),x7])) λx8=>.ret x8
  else
  bd (bd (bd (oM (aS x3 (.int 2))) λx9=>bd (oM (ej [x2])) λx10=>oM (aW x9 x10)) λb13=>if b13 then bd (oM (aS x3 (.int 1))) λx11=>.ret (.tuple [(.str "told"),x11])else bd (oM (aS x3 (.int 2))) λx12=>.ret (.tuple [(.str "none"),(.int 0),x12])) λx14=>.ret x14
def mO:List D->M D:=λl=>match l with
 | [gae,gaa]=>fU gae gaa
 | _=>.bad
theorem uR(Fn:Fun K "_law_due" "_law_due" jP f fd)(hmg:mg "_law_due" = some (.ref f))(B:BN mg)(Kn:KN mg)(Kx:KX K mg)(gbj:CF P w K mg base "_law_read" 10 (spD K 5 (cU 6))):CF P w K mg base "_law_due" 11 (spD K 2 mO) :=
 ⟨f,fd,["_law_text_here", "_law_sorts_here"],dg (k:=10) Fn sc__law_due (λcdv A outer s H E hr =>
  (af (aO (sh:=[.dead,.f,.f,.dead]) (aK (i:=2) sc__law_due.nd (aq (eS (lE (ty:=.str) gh wn we iX (ao (av 0)) (aa aD aE) rfl rfl rfl rfl rfl)))))
  (af (aO (sh:=[.dead,.dead,.f,.f]) (aK (i:=3) sc__law_due.nd (aq (dZ gbj hr.m (aa (av 2) (aa aj (aa (av 1) (aa aj (aa aj aE)))))))))
  (af (bJ (bm (jf (tV (ao (cw (bG (aA hr)) bF (ao (av 3)) (ao aj))) (λ_=>rfl))))
  (az (aM (aq (bH (aa aD (aa aj (aa (cw (bG (aA hr)) bF (ao (av 3)) (ao aj)) aE)))))))
  aX)
  (az (aM (aq (gk (aG (bh (aA hr)) bq (ao (cw (bG (aA hr)) bF (ao (av 3)) (ao aj))) (ao (bC bK df B.len ig (aQ (ao (av 2)) aZ)))) (bH (aa aD (aa (cw (bG (aA hr)) bF (ao (av 3)) (ao aj)) aE))) (bH (aa aD (aa aj (aa (cw (bG (aA hr)) bF (ao (av 3)) (ao aj)) aE))))))))))))
 (λds hl=>(by obtain⟨gae,gaa,rfl⟩:=ln2 hl;kernel_rfl)),hmg,Fn.kp,(qA Fn λ_ _ _ _ _ _ _ _=>rfl)⟩
abbrev iF:Stmt:=top 36
abbrev vS:List Str:=["_law_sorts_here", "_law_text_here", "_law_caught", "_law_found", "e"]
theorem sc__law_told:FnScope vS ["_law_sorts_here", "_law_text_here"] (aB iF):=⟨rfl,rfl,rfl,by decide +kernel,rfl,by decide +kernel,by decide +kernel⟩
def bI(gaO:D)(ga8:D):M D :=
 bd (oM (jB gaO .none)) λb5=>if b5 then
  .ret (.tuple [(.str "told"),ga8])
  else
  bd (bd (oM (pj [("NoText",true)] gaO)) λb8=>if b8 then bd (oM (zm ["NoText"] "row" gaO)) λx6=>bd (oM (zm ["NoText"] "word" gaO)) λx7=>.ret (.tuple [(.str "none"),x6,x7])else .ret (.tuple [(.str "other"),gaO])) λx9=>.ret x9
def eP(gaa:D)(gae:D):M D :=
 AJ (A:=D×D×Unit) (B:=D×Unit) (onX (λe_=>.ret (.inr (e_,(.none,())))) (dB gaa gae) λx1=>.ret (.inl (.none,x1,()))) (λs4=>bI s4.1 s4.2.1) (λe2 s3=>mM ["NoText"] e2.cls (bI (m9 e2) s3.1))
def kW:List D->M D:=λl=>match l with
 | [gaa,gae]=>eP gaa gae
 | _=>.bad
theorem sO(Fn:Fun K "_law_told" "_law_told" iF f fd)(hmg:mg "_law_told" = some (.ref f))(B:BN mg)(Kn:KN mg)(Kx:KX K mg)(gaU:CF P w K mg base "read_question" 13 (spD K 2 gG)):CF P w K mg base "_law_told" 14 (spD K 2 kW) :=
 ⟨f,fd,["_law_sorts_here", "_law_text_here"],dg (k:=13) Fn sc__law_told (λcdv A outer s H E hr =>
  (af (aO (sh:=[.f,.f,.f,.dead,.dead]) (aK (i:=2) sc__law_told.nd (aq dh)))
  (af (aO (sh:=[.f,.f,.f,.f,.dead]) (aK (i:=3) sc__law_told.nd (aq dh)))
  (af (aO (sh:=[.dead,.dead,.f,.f,.dead]) (EE (j:=4) (sh:=[.dead,.dead,.f,.f,.dead]) (shx:=[.dead,.dead,.dead,.f,.dead]) Kx.h_PassError rfl (λ_ _=>(az (aK (i:=3) sc__law_told.nd (aq (dZ gaU hr.m (aa (av 0) (aa (av 1) aE))))))) (λ_=>(az (aK (i:=2) sc__law_told.nd (aq (av 4))))) (by decide) sc__law_told.nd rfl rfl rfl rfl (by decide)))
  (af (bJ (bm (aG sI bq (ao (av 2)) (ao dh)))
  (az (aM (aq (bH (aa aD (aa (av 3) aE))))))
  aX)
  (az (aM (aq (gk (tW (CY Kx.i_NoText rfl B.isinstance rfl (av 2) rfl rfl rfl (by decide)) (λ_=>rfl)) (bH (aa aD (aa (CL Kx.a_row (av 2) rfl) (aa (CL Kx.a_word (av 2) rfl) aE)))) (bH (aa aD (aa (av 2) aE))))))))))))
 (λds hl=>(by obtain⟨gaa,gae,rfl⟩:=ln2 hl;kernel_rfl)),hmg,Fn.kp,(qA Fn λ_ _ _ _ _ _ _ _=>rfl)⟩
abbrev iJ:Stmt:=top 37
abbrev vY:List Str:=["_law_feed_here", "_law_text_here", "_law_words", "_law_at", "_law_odd", "_law_way", "_law_signs", "_law_spot"]
theorem sc__law_bent:FnScope vY ["_law_feed_here", "_law_text_here"] (aB iJ):=⟨rfl,rfl,rfl,by decide +kernel,rfl,by decide +kernel,by decide +kernel⟩
def gj(gab:List D)(gae:D):M (D×List D) :=
 bd (bd (onT .str gae (oM (hJ gae [(.str " ")]))) λl1=>.ret (PyData.list l1)) λx2=>bd (bd (oM (ej [x2])) λx3=>oM (aJ x3 (.int 1))) λx4=>bd (aC gab x4) λr5=>bd (oM (aJ (PyData.list [(.str ""),(.str "-"),(.str "0"),(.str "1"),(.str "2"),(.str "3"),(.str "9"),(.str "10"),(.str "0,1"),(.str "1,0"),(.str "0,0"),(.str "1,2"),(.str "00"),(.str "01"),(.str "-1"),(.str "+1"),(.str "1_0"),(.str "0,")]) (PyData.list [(.str ",0"),(.str "x"),(.str "least"),(.str "more"),(.str "rest"),(.str "not"),(.str "both"),(.str "either"),(.str "Not"),(.str "1234567890"),(.str "0,1,2,3")]))) λx6=>bd (oM (aJ x6 (PyData.list [(.str "both 0"),(.str "0 1")]))) λx7=>bd (aC r5.2 (.int 5)) λr8=>bd (oM (iT r8.1 (.int 2))) λb9=>if b9 then
  bd (bd (asI r5.1) λhi10=>oM (cY x2 none hi10)) λx11=>bd (bE r8.2 x7) λr12=>bd (oM (aJ x11 (.list [r12.1]))) λx13=>bd (bd (bd (oM (aJ r5.1 r8.1)) λx14=>asI x14) λlo15=>oM (cY x2 lo15 none)) λx16=>bd (oM (aJ x13 x16)) λx17=>bd (oM (im (.str " ") [x17])) λx18=>.ret (x18,r12.2)
  else
  bd (oM (aW r8.1 (.int 2))) λb19=>if b19 then
  bd (onT .str (.str " ") (bd (bd (bd (asI r5.1) λhi20=>oM (cY x2 none hi20)) λx23=>bd (bd (bd (oM (aJ r5.1 (.int 1))) λx21=>asI x21) λlo22=>oM (cY x2 lo22 none)) λx24=>oM (aJ x23 x24)) λx25=>oM (im (.str " ") [x25]))) λx26=>.ret (x26,r8.2)
  else
  bd (oM (aW r8.1 (.int 3))) λb27=>if b27 then
  bd (onT .str (.str " ") (bd (bd (bd (bd (asI r5.1) λhi28=>oM (cY x2 none hi28)) λx32=>bd (bd (bd (oM (cy r5.1 (.int 1))) λx29=>asI x29) λlo30=>bd (asI r5.1) λhi31=>oM (cY x2 lo30 hi31)) λx33=>oM (aJ x32 x33)) λx35=>bd (bd (asI r5.1) λlo34=>oM (cY x2 lo34 none)) λx36=>oM (aJ x35 x36)) λx37=>oM (im (.str " ") [x37]))) λx38=>.ret (x38,r8.2)
  else
  bd (bd (oM (ej [gae])) λx39=>oM (aJ x39 (.int 1))) λx40=>bd (aC r8.2 x40) λr41=>bd (bd (asI r41.1) λhi42=>oM (cY gae none hi42)) λx43=>bd (bE r41.2 (.str " 0123456789,-+_abeilmnorst")) λr44=>bd (aC r44.2 (.int 2)) λr45=>bd (oM (oE r44.1 r45.1)) λx46=>bd (oM (aJ x43 x46)) λx47=>bd (aC r45.2 (.int 2)) λr48=>bd (oM (aJ r41.1 r48.1)) λx49=>bd (oM (tL gae x49)) λx50=>bd (oM (aJ x47 x50)) λx51=>.ret (x51,r48.2)
def kZ:List D->List D->M (D×List D):=λgab l=>match l with
 | [gae]=>gj gab gae
 | _=>.bad
theorem sX(Fn:Fun K "_law_bent" "_law_bent" iJ f fd)(hmg:mg "_law_bent" = some (.ref f))(B:BN mg)(Kn:KN mg)(Kx:KX K mg)(gac:CF P w K mg base "_law_next" 1 (sp1 K 2 cj))(gau:CF P w K mg base "_law_one" 2 (sp1 K 2 gb)):CF P w K mg base "_law_bent" 3 (sp1 K 2 kZ) :=
 ⟨f,fd,["_law_feed_here", "_law_text_here"],mz (k:=2) Fn sc__law_bent (λcdv A outer s H E hr =>
  (af (aO (sh:=[.p,.f,.f,.dead,.dead,.dead,.dead,.dead]) (aK (i:=2) sc__law_bent.nd (aq (eS (lE (ty:=.str) gh wn we iX (ao (av 1)) (aa aD aE) rfl rfl rfl rfl rfl)))))
  (af (aO (sh:=[.p,.f,.f,.f,.dead,.dead,.dead,.dead]) (aK (i:=3) sc__law_bent.nd (bx (i:=0) gac hr.m (ag (aq (aH aP aY (ao (bC bK df B.len ig (aQ (ao (av 2)) aZ))) (ao aj))) aF))))
  (af (aO (sh:=[.p,.f,.f,.f,.f,.dead,.dead,.dead]) (aK (i:=4) sc__law_bent.nd (aq (eS (d8 (aa aD (aa aD (aa aD (aa aD (aa aD (aa aD (aa aD (aa aD (aa aD (aa aD (aa aD (aa aD (aa aD (aa aD (aa aD (aa aD (aa aD (aa aD aE)))))))))))))))))))))))
  (af (aO (sh:=[.p,.f,.f,.f,.f,.dead,.dead,.dead]) (aK (i:=4) sc__law_bent.nd (aq (aH aP aY (ao (av 4)) (ao (eS (d8 (aa aD (aa aD (aa aD (aa aD (aa aD (aa aD (aa aD (aa aD (aa aD (aa aD (aa aD aE))))))))))))))))))
  (af (aO (sh:=[.p,.f,.f,.f,.f,.dead,.dead,.dead]) (aK (i:=4) sc__law_bent.nd (aq (aH aP aY (ao (av 4)) (ao (eS (d8 (aa aD (aa aD aE)))))))))
  (af (aO (sh:=[.p,.f,.f,.f,.f,.f,.dead,.dead]) (aK (i:=5) sc__law_bent.nd (bx (i:=0) gac hr.m (ag (aq aj) aF))))
  (af (bJ (bm (aG (wH (aA hr)) wJ (ao (av 5)) (ao aj)))
  (az (aM (vM gh pr pi gZ (ag (eY aP aY (eY aP aY (aq (cC (ao (av 2)) dm (cG (av 3)))) (HF (EM (ag (bx (i:=0) gau hr.m (ag (aq (av 4)) aF)) aF)))) (aq (cC (ao (av 2)) (cG (aH aP aY (ao (av 3)) (ao (av 5)))) dm))) aF) rfl rfl rfl rfl rfl)))
  aX)
  (af (bJ (bm (aG (bh (aA hr)) bq (ao (av 5)) (ao aj)))
  (az (aM (aq (lD (ty:=.str) gh pr pi gZ (ao aD) (aa (aH aP aY (ao (cC (ao (av 2)) dm (cG (av 3)))) (ao (cC (ao (av 2)) (cG (aH aP aY (ao (av 3)) (ao aj))) dm))) aE) rfl rfl rfl rfl rfl))))
  aX)
  (af (bJ (bm (aG (bh (aA hr)) bq (ao (av 5)) (ao aj)))
  (az (aM (aq (lD (ty:=.str) gh pr pi gZ (ao aD) (aa (aH aP aY (ao (aH aP aY (ao (cC (ao (av 2)) dm (cG (av 3)))) (ao (cC (ao (av 2)) (cG (aH eD eF (ao (av 3)) (ao aj))) (cG (av 3)))))) (ao (cC (ao (av 2)) (cG (av 3)) dm))) aE) rfl rfl rfl rfl rfl))))
  aX)
  (af (aO (sh:=[.p,.f,.dead,.dead,.dead,.dead,.f,.dead]) (aK (i:=6) sc__law_bent.nd (aq aD)))
  (af (aO (sh:=[.p,.f,.dead,.dead,.dead,.dead,.f,.f]) (aK (i:=7) sc__law_bent.nd (bx (i:=0) gac hr.m (ag (aq (aH aP aY (ao (bC bK df B.len ig (aQ (ao (av 1)) aZ))) (ao aj))) aF))))
  (az (aM (eY aP aY (eY aP aY (aq (cC (ao (av 1)) dm (cG (av 7)))) (eY DF DN (bx (i:=0) gau hr.m (ag (aq (av 6)) aF)) (bx (i:=0) gac hr.m (ag (aq aj) aF)))) (CS (aq (av 1)) (eY aP aY (aq (av 7)) (bx (i:=0) gac hr.m (ag (aq aj) aF)))))))))))))))))))
 (λg ds hl=>(by obtain⟨gae,rfl⟩:=ln1 (Nat.succ.inj hl);kernel_rfl)),hmg,Fn.kp,(qA Fn λ_ _ _ _ _ _ _ _=>rfl)⟩
abbrev A3:Stmt:=top 38
abbrev JX:List Str:=["_law_script", "_law_k", "_law_feed_here", "_law_sorts_here", "_law_text_here", "_law_words", "_law_turn", "_law_few", "_law_bent_here"]
theorem sc_law:FnScope JX ["_law_script"] (aB A3):=⟨rfl,rfl,rfl,by decide +kernel,rfl,by decide +kernel,by decide +kernel⟩
abbrev N_law_0:List Str:=["_law_script", "_law_k", "_law_feed_here", "_law_sorts_here", "_law_text_here", "_law_words", "_law_turn", "_law_few", "_law_bent_here", "_law_j"]
theorem wL:N_law_0.Nodup:=by decide +kernel
def Cy(gap:D):M D :=
 .ret (.bool true)
def Cw(kn5:D×Unit->M D)(gap:D)(gaL:List D)(gad:D)(gaG:D):M D :=
 kn5 (gap,())
def pU(kn5:D×Unit->M D)(gap:D)(gaL:List D)(gad:D)(gaG:D)(d_:D)(kn25:D×List D×D×D×Unit->M D):M D :=
 bd (bE gaL (PyData.list [gad,gad,(.int 1),(.int 2)])) λr26=>bd (gj r26.2 gaG) λr27=>bd (bd (bd (eP r26.1 r27.1) λx28=>oM (pG [x28])) λx30=>bd (bd (fU r27.1 r26.1) λx29=>oM (pG [x29])) λx31=>oM (kG x30 x31)) λb32=>if b32 then
  .ret (.bool false)
  else
  bd (aC r27.2 (.int 3)) λr33=>bd (oM (aW r33.1 (.int 0))) λb34=>if b34 then kn25 (gap,r33.2,gad,r27.1,())else kn25 (gap,r33.2,gad,gaG,())
def lC(kn5:D×Unit->M D)(gap:D)(gaL:List D)(gad:D)(gaG:D):M D :=
 bd (oM (bZ [(.int 4)])) λl24=>tI (λs35 d36 kn=>pU kn5 s35.1 s35.2.1 s35.2.2.1 s35.2.2.2.1 d36 kn) l24 (gap,gaL,gad,gaG,()) (λs35=>Cw kn5 s35.1 s35.2.1 s35.2.2.1 s35.2.2.2.1)
def pV(gap:D)(d_:D)(kn5:D×Unit->M D):M D :=
 bd (gg gap d_) λl6=>bd (aC l6 (.int 4)) λr7=>bd (oM (aJ (.int 1) r7.1)) λx8=>bd (aC r7.2 (.int 7)) λr9=>bd (oM (aJ (.int 1) r9.1)) λx10=>bd (cb 5 r9.2 x8 x10 (.int 4)) λr11=>bd (eQ 6 r11.1) λr12=>bd (aC r11.2 (.int 6)) λr13=>bd (oM (aW r13.1 (.int 0))) λb14=>if b14 then
  bd (aC r13.2 (.int 12)) λr15=>bd (oM (aJ (.int 1) r15.1)) λx16=>bd (oM (bZ [x16])) λl17=>bd (cZ (λs18 d19=>bd (bE s18.2.1 s18.2.2.2.1) λr20=>.ret (some r20.1,(s18.1,r20.2,s18.2.2.1,s18.2.2.2.1,()))) l17 (gap,r15.2,x8,(PyData.list [(.str "least"),(.str "more"),(.str "rest"),(.str "not"),(.str "both"),(.str "either"),(.str "0"),(.str "1"),(.str "-"),(.str "0,1"),(.str "2")]),())) λr21=>bd (eO r21.1) λl22=>bd (oM (im (.str " ") [(PyData.list l22)])) λx23=>lC kn5 r21.2.1 r21.2.2.1 r21.2.2.2.1 x23
  else
  lC kn5 gap r13.2 x8 r12
def zj(gal:D):M D :=
 bd (bd (bd (bd (oM (ej [gal])) λx1=>oM (vn [(.int 12),x1])) λx2=>oM (aJ (.int 2) x2)) λx3=>oM (bZ [x3])) λl4=>tI (λs37 d38 kn=>pV s37.1 d38 kn) l4 (gal,()) (λs37=>Cy s37.1)
def td:List D->M D:=λl=>match l with
 | [gal]=>zj gal
 | _=>.bad
theorem Hg(Fn:Fun K "law" "law" A3 f fd)(B:BN mg)(Kn:KN mg)(Kx:KX K mg)(gbk:CF P w K mg base "_law_feed" 1 (spL K 2 kY))(gbl:CF P w K mg base "_law_text" 8 (spD K 1 (cS 6)))(gac:CF P w K mg base "_law_next" 1 (sp1 K 2 cj))(gaV:CF P w K mg base "_law_question" 9 (sp1 K 4 (bV 5)))(gau:CF P w K mg base "_law_one" 2 (sp1 K 2 gb))(gbm:CF P w K mg base "_law_bent" 3 (sp1 K 2 kZ))(gbn:CF P w K mg base "_law_told" 14 (spD K 2 kW))(gbv:CF P w K mg base "_law_due" 11 (spD K 2 mO)):FnOk P w K mg base (CX1 P w) 15 f fd ["_law_script"] (spD K 1 td) :=
 dg (k:=14) Fn sc_law (λcdv A outer s H E hr =>
  (af (jw (sh:=[.f,.dead,.dead,.dead,.dead,.dead,.dead,.dead,.dead]) PassesOwn.leaving rfl (jg (dL rfl B.range (aa (aH aP aY (ao aj) (ao (bC (Ap rfl) DO B.min (by decide +kernel) (aQ (ao aj) (aQ (ao (bC bK df B.len ig (aQ (ao (av 0)) aZ))) aZ))))) aE) rfl)) (bL (i:=1) (eE _) sc_law.nd)
  (af (aO (sh:=[.f,.dead,.o,.dead,.dead,.dead,.dead,.dead,.dead]) (zq (i:=2) sc_law.nd (xM (JR gbk hr.m (aa (av 0) (aa (av 1) aE))))))
  (af (aO (sh:=[.f,.dead,.o,.f,.dead,.dead,.dead,.dead,.dead]) (aK (i:=3) sc_law.nd (eY aP aY (aq aj) (bx (i:=2) gac hr.m (ag (aq aj) aF)))))
  (af (aO (sh:=[.f,.dead,.o,.f,.f,.dead,.dead,.dead,.dead]) (aK (i:=4) sc_law.nd (FG gbl hr.m (ag (bx (i:=2) gaV hr.m (ag (aq (av 3)) (ag (eY aP aY (aq aj) (bx (i:=2) gac hr.m (ag (aq aj) aF))) (ag (aq aj) aF)))) aF))))
  (af (aO (sh:=[.f,.dead,.o,.f,.f,.dead,.dead,.dead,.dead]) (bJ (tZ (bh (aA hr)) bq (bx (i:=2) gac hr.m (ag (aq aj) aF)) (aq aj))
  (af (aO (sh:=[.f,.dead,.o,.f,.dead,.f,.dead,.dead,.dead]) (aK (i:=5) sc_law.nd (aq (eS (d8 (aa aD (aa aD (aa aD (aa aD (aa aD (aa aD (aa aD (aa aD (aa aD (aa aD (aa aD aE))))))))))))))))
  (az (aK (i:=4) sc_law.nd (vM gh pr pi gZ (ag (HF (vL (sh:=[.f,.dead,.o,.f,.dead,.f,.dead,.dead,.dead]) (N':=N_law_0) (k:=1) rfl (bQ (by kernel_rfl) rfl rfl) (xN rfl B.range (ag (eY aP aY (aq aj) (bx (i:=2) gac hr.m (ag (aq aj) aF))) aF) rfl) (λ_ _ _ _ _=>(bL (i:=9) (show 9<=9 by decide) wL)) (λ_ _ _ _ _=>(zr fD)) (λ_ _ _ _ _=>(bx (i:=2) gau hr.m (ag (aq (av 5)) aF))))) aF) rfl rfl rfl rfl rfl))))
  aX))
  (az (jw (sh:=[.f,.dead,.o,.f,.f,.dead,.dead,.dead,.dead]) PassesOwn.leaving rfl (jg (dL rfl B.range (aa aj aE) rfl)) (bL (i:=6) (eE _) sc_law.nd)
  (af (aO (sh:=[.f,.dead,.o,.f,.f,.dead,.dead,.f,.dead]) (aK (i:=7) sc_law.nd (bx (i:=2) gau hr.m (ag (aq (eS (d8 (aa (av 3) (aa (av 3) (aa aj (aa aj aE))))))) aF))))
  (af (aO (sh:=[.f,.dead,.o,.f,.f,.dead,.dead,.f,.f]) (aK (i:=8) sc_law.nd (bx (i:=2) gbm hr.m (ag (aq (av 4)) aF))))
  (af (bJ (bm (aG (oC (aA hr)) bq (ao (bC (rQ (aA hr) hr.gd) yC B.repr (by decide +kernel) (aQ (ao (dZ gbn hr.m (aa (av 7) (aa (av 8) aE)))) aZ))) (ao (bC (rQ (aA hr) hr.gd) yC B.repr (by decide +kernel) (aQ (ao (dZ gbv hr.m (aa (av 8) (aa (av 7) aE)))) aZ)))))
  (az (aM (aq jH)))
  aX)
  (az (aK (i:=4) sc_law.nd (FF (tZ (bh (aA hr)) bq (bx (i:=2) gac hr.m (ag (aq aj) aF)) (aq aj)) (aq (av 8)) (aq (av 4)))))))))))))))
  (az (aM (aq jH)))))
 (λds hl=>(by obtain⟨gal,rfl⟩:=ln1 hl;kernel_rfl))
end
end
end K09
namespace L4
open PySem PySem.Spec PyProof.Rows L2 L3
variable {S T:Type}
theorem bdR(s:S)(k:S->M T):bd (.ret s) k=k s:=id rfl
theorem oMS(s:S):oM (some s)=.ret s:=id rfl
theorem yX{S T:Type}{step:T->D->(T->M S)->M S}{R:M S}{P:Nat->T->Prop}:∀(ds:List D) (i:Nat) (s:T) (k:T->M S),
  (∀(j:Nat) (s:T) (d:D),d∈ds->i<=j->j<i+ds.length->P j s->∀kn:T->M S,(∀s',P (j+1) s'->kn s'=R)->step s d kn=R) ->
  P i s->(∀s',P (i+ds.length) s'->k s'=R)->cp step ds s k=R
 | [],i,s,k,_,hp,hk=>hk s hp
 | d::r,i,s,k,h,hp,hk=>by
  show step s d _=R
  refine h i s d au (ay _) (by simp) hp _ λs' hp'=>?_
  refine yX r (i+1) s' k (λj s d hd hj hl=>h j s d (zzg _ hd) (by lia) (by simp;lia)) hp' λs' hs=>hk s' ?_
  have:i+(d::r).length=i+1+r.length:=by simp;lia
  rw[this];exact hs
theorem Eh{step:T->D->(T->M S)->M S}{R:M S}{P:Nat->T->Prop}(ds:List D)(i:Nat)(s:T)(k:T->M S)
  (h:∀(j:Nat) (s:T) (d:D),d∈ds->i<=j->j<i+ds.length->P j s->∀kn:T->M S,(∀s',P (j+1) s'->kn s'=R)->step s d kn=R)
  (hp:P i s) (hk:∀s',P (i+ds.length) s'->k s'=R):tI step ds s k=R:=by
 rw[cV]
 exact yX ds i s k h hp hk
theorem vy{T:Type}{step:T->D->M (Option D×T)}{P:Nat->T->Prop}{R:D->Prop}:∀(ds:List D) (i:Nat) (s:T),
  (∀(j:Nat) (s:T) (d:D),d∈ds->i<=j->j<i+ds.length->P j s->∃x s',step s d=.ret (some x,s')/\P (j+1) s'/\R x)->P i s ->
  ∃xs s',cZ step ds s=.ret (xs,s')/\P (i+ds.length) s'/\xs.length=ds.length/\∀x∈xs,R x
 | [],i,s,_,hp=>⟨[],s,rfl,hp,rfl,λ_ h=>by cases h⟩
 | d::r,i,s,h,hp=>by
  obtain⟨x,s1,e1,p1,r1⟩:=h i s d au (ay _) (by simp) hp
  obtain⟨xs,s2,e2,p2,l2,r2⟩:=vy r (i+1) s1 (λj s d hd hj hl=>h j s d (zzg _ hd) (by lia) (by simp;lia)) p1
  refine⟨x::xs,s2,?_,?_,by simp[l2],?_⟩
  ·rw[cZ,e1];simp only[fm,gy];rw[e2];rfl
  ·have:i+(d::r).length=i+1+r.length:=by simp;lia
   rw[this];exact p2
  ·intro y hy
   cases hy with
   | head=>exact r1
   | tail _ h=>exact r2 y h
theorem dA{ds:List S}(h:ds.length<=1000):eO ds=.ret ds:=ai (lZ h)
theorem jv{α:Type}(xs:List α)(i:Nat)(h:i<xs.length):atI xs (i:Int)=some (xs[i]'h):=by
 unfold atI ixN
 rw[ai (Int.natCast_nonneg _),ai (by lia)]
 simp[h]
theorem CC{α:Type}(xs:List α)(i:Int)(h0:0<=i)(h:i<xs.length):∃x∈xs,atI xs i=some x:=by
 obtain⟨n,rfl⟩:=Int.eq_ofNat_of_zero_le h0
 exact⟨_,List.getElem_mem _,jv xs n (by lia)⟩
def gL(s:Str):Bool:=PyData.strOk s&&decide ((reprText s).length<=24)&&PyData.strOk (reprText s)
def Ok(k:Nat):Nat->D->Prop
 | 0,_=>False
 | _+1,.none=>True
 | _+1,.bool _=>True
 | _+1,.int i=>i.natAbs<10^(16+k)
 | _+1,.str s=>gL s=true
 | n+1,.list ds=>ds.length<=6+k/\∀d∈ds,Ok k n d
 | n+1,.tuple ds=>ds.length<=6+k/\∀d∈ds,Ok k n d
 | _+1,.dict _=>False
theorem jq:∀{ds:List D},(∀d∈ds,d.canLay0=true)->PyData.canLayAll0 ds=true
 | [],_=>by simp[PyData.canLayAll0]
 | d::r,h=>by
  simp only[PyData.canLayAll0,am]
  exact⟨h d au,jq λe he=>h e (zzg _ he)⟩
theorem gI{n:Nat}:∀{ds:List D},(∀d∈ds,d.depth<=n)->PyData.depthAll ds<=n
 | [],_=>by simp[PyData.depthAll]
 | d::r,h=>by
  simp only[PyData.depthAll]
  exact Nat.max_le.mpr ⟨h d au,gI λe he=>h e (zzg _ he)⟩
theorem GS{m:Nat}(h:m<10^36):m.log2<1920:=by
 by_cases h0:m=0
 ·subst h0;decide
 ·exact(Nat.log2_lt h0).mpr (bo h (by decide +kernel))
theorem strOk_iff{s:Str}:PyData.strOk s=true↔∀c∈s.cps.toList,c<1114112:=by
 unfold PyData.strOk
 rw[<-Array.all_toList,ke]
 simp
theorem aT(s:String):PyData.strOk (Str.ofString s)=true:=by
 rw[strOk_iff,signs_ofString]
 intro c hc
 obtain⟨ch,_,rfl⟩:=List.mem_map.mp hc
 have:=ch.valid
 have e:ch.toNat=ch.val.toNat:=rfl
 rw[e]
 rcases this with h|⟨_,h⟩
 ·have h':ch.val.toNat<0xd800:=h
  lia
 ·have h':ch.val.toNat<0x110000:=h
  lia
theorem fE{a b:Str}(ha:PyData.strOk a=true)(hb:PyData.strOk b=true):PyData.strOk (a++b)=true:=by
 rw[strOk_iff]at *
 intro c hc
 rcases mem_cps_append.mp hc with h|h
 ·exact ha c h
 ·exact hb c h
theorem fK{sep:Str}{ts:List Str}(hs:PyData.strOk sep=true)(h:∀t∈ts,PyData.strOk t=true):PyData.strOk (Str.join sep ts)=true:=by
 rw[strOk_iff]at *
 intro c hc
 rcases(mem_join sep c ts).mp hc with ⟨t,ht,hc⟩|⟨_,hc⟩
 ·exact strOk_iff.mp (h t ht) c hc
 ·exact hs c hc
theorem yL{ts:List Str}:(Str.join ", " ts).length<=piled ts:=by
 by_cases h:ts=[]
 ·subst h;exact eE _
 ·have:=join_length_add ts h;lia
def lim:Nat->Nat
 | 0=>24
 | n+1=>4+9*(lim n+2)
theorem eqI(a b:Int):aW (.int a) (.int b)=some (a==b):=by
 unfold aW eqOk
 simp[PyData.canLay0,PyData.depth,PyData.eqv]
theorem ltI(a b:Int):zU (.int a) (.int b)=some (decide (a<b)):=id rfl
theorem gtI(a b:Int):kH (.int a) (.int b)=some (decide (b<a)):=id rfl
theorem geI(a b:Int):BB (.int a) (.int b)=some (decide (b<=a)):=id rfl
theorem addI(a b:Int):aJ (.int a) (.int b)=some (.int (a+b)):=id rfl
theorem modI(i j:Int)(h:0<j):fQ (.int i) (.int j)=some (.int (i % j)):=ai h
theorem divI(i j:Int)(h:0<j)(h2:j<1073741824):uM (.int i) (.int j)=some (.int (i / j)):=ai (by simp[h,h2])
theorem mulL(i j:Int)(h : -(2^64)<i)(h2:i<2^64):eW (.int i) (.int j)=some (.int (i*j)):=ai (by simp only[yE,gt,am,zzi];exact .inl ⟨h,h2⟩)
theorem mulR(i j:Int)(h : -(2^64)<j)(h2:j<2^64):eW (.int i) (.int j)=some (.int (i*j)):=ai (by simp only[yE,gt,am,zzi];exact .inr ⟨h,h2⟩)
theorem asB_b(b:Bool):asB (.bool b)=.ret b:=id rfl
theorem xW(b:Bool):kq (.bool b)=some b:=id rfl
theorem lenL(ds:List D):ej [.list ds]=some (.int ds.length):=id rfl
theorem Lp(ds:List D):Dm (.tuple ds)=some ds:=id rfl
theorem Lq(ds:List D):Dm (.list ds)=some ds:=id rfl
theorem v7(ds:List D):gw [.list ds]=some (.tuple ds):=id rfl
theorem Lm(ds:List D):gw [.tuple ds]=some (.tuple ds):=id rfl
theorem KR(ds:List D)(n:Nat)(h:n<ds.length):jz (.tuple ds) (.int n)=some ds[n]:=jv ds n h
theorem tw(a:D)(r:List D):jz (.tuple (a::r)) (.int 0)=some a:=KR (a::r) 0 (by simp)
theorem ix3_0(a b c:D):jz (.list [a,b,c]) (.int 0)=some a:=id rfl
theorem ix3_1(a b c:D):jz (.list [a,b,c]) (.int 1)=some b:=id rfl
theorem ix3_2(a b c:D):jz (.list [a,b,c]) (.int 2)=some c:=id rfl
theorem put3_0(a b c d:D):putD [a,b,c] (.int 0) d=some [d,b,c]:=id rfl
theorem put3_2(a b c d:D):putD [a,b,c] (.int 2) d=some [a,b,d]:=id rfl
theorem Hs(ds:List D)(n:Nat):L4.cutD ds (some n) none=ds.drop n:=by
 unfold L4.cutD
 rw[HT.sIx_nat,HT.sIx_none]
 by_cases h:n<=ds.length
 ·rw[Nat.min_eq_left h,List.take_of_length_le (by rw[u8];lia)]
 ·rw[Nat.min_eq_right (by lia),List.drop_of_length_le (ay _),List.drop_of_length_le (by lia)]
  simp
theorem Ht(ds:List D)(n:Nat):L4.cutD ds none (some n)=ds.take n:=by
 unfold L4.cutD
 rw[HT.sIx_nat,HT.sIx_none]
 by_cases h:n<=ds.length
 ·rw[Nat.min_eq_left h];simp
 ·rw[Nat.min_eq_right (by lia)]
  simp
  rw[List.take_of_length_le (by lia)]
theorem iteB(a b:Bool):(if a=true then(M.ret b)else .ret false)=.ret (a&&b):=by cases a<;>rfl
theorem B0(a b:Bool):(if a=true then(M.ret true)else .ret b)=.ret (a||b):=by cases a<;>rfl
theorem Ew(n m:Nat):((n:Int)==(m:Int))=decide (n=m):=by
 by_cases h:n=m
 ·simp[h]
 ·simp only[h,decide_false];rw[beq_eq_false_iff_ne];lia
def sW(lo hi:Int):D->Bool
 | .int i=>decide (lo<=i)&&decide (i<=hi)
 | _=>false
def sS(w:Str):D->Bool
 | .str s=>s==w
 | _=>false
def Ey(d:D):Prop:=d.canLay0=true/\d.depth<=1000
theorem eqS{d:D}(h:Ey d)(w:String):aW d (.str w)=some (sS w d):=by
 unfold aW eqOk
 have hw:PyData.canLay0 (.str w)=true:=by simp[PyData.canLay0,aT]
 rw[ai (by simp[h.1,h.2,hw])]
 cases d<;>simp[PyData.eqv,sS]
theorem fH{ι:Type}{step:D->M (Option D)}{e g:ι->D}:∀(is:List ι),(∀i∈is,step (e i)=.ret (some (g i)))->bg step (is.map e)=.ret (is.map g)
 | [],_=>rfl
 | i::r,h=>by
  rw[ba,bg,h i au,fH r λd hd=>h d (zzg _ hd)]
  rfl
theorem lA{ι:Type}{step:D->M (Option D)}{e:ι->D}{g:ι->Option D}:∀(is:List ι),(∀i∈is,step (e i)=.ret (g i))->bg step (is.map e)=.ret (is.filterMap g)
 | [],_=>rfl
 | i::r,h=>by
  rw[ba,bg,h i au,lA r λd hd=>h d (zzg _ hd)]
  cases q:g i<;>simp[fm,bdR,Ch,q]
theorem rM{T ι:Type}{step:T->D->M (Option D×T)}{P:Nat->T->Prop}{e:ι->D}{R:ι->Prop}:∀(ds:List D) (i:Nat) (s:T),
  (∀(j:Nat) (s:T) (d:D),ds[j]? = some d->P (i+j) s->∃x s',step s d=.ret (some (e x),s')/\P (i+j+1) s'/\R x)->P i s ->
  ∃xs s',cZ step ds s=.ret (List.map e xs,s')/\P (i+ds.length) s'/\xs.length=ds.length/\∀x∈xs,R x
 | [],i,s,_,hp=>⟨[],s,rfl,hp,rfl,λ_ h=>by cases h⟩
 | d::r,i,s,h,hp=>by
  obtain⟨x,s1,e1,p1,r1⟩:=h 0 s d rfl hp
  obtain⟨xs,s2,e2,p2,l2,r2⟩:=rM r (i+1) s1 (λj s d hd hp=>by
   have:=h (j+1) s d (by simpa using hd) (by rw[show i+(j+1)=i+1+j by lia];exact hp)
   rw[show i+(j+1)+1=i+1+j+1 by lia]at this
   exact this) p1
  refine⟨x::xs,s2,?_,?_,by simp[l2],?_⟩
  ·rw[cZ,e1];simp only[fm,gy];rw[e2];rfl
  ·rw[show i+(d::r).length=i+1+r.length by simp;lia];exact p2
  ·intro y hy
   cases hy with
   | head=>exact r1
   | tail _ h=>exact r2 y h
theorem Cr{ι:Type}{step:T->D->M (Option D×T)}{P:Nat->T->Prop}{e:ι->D}{R:ι->Prop}(ds:List D)(s:T)
  (h:∀(j:Nat) (s:T) (d:D),ds[j]? = some d->P j s->∃x s',step s d=.ret (some (e x),s')/\P (j+1) s'/\R x) (hp:P 0 s) :
  ∃xs s',cZ step ds s=.ret (List.map e xs,s')/\P ds.length s'/\xs.length=ds.length/\∀x∈xs,R x:=by
 have:=rM (step:=step) (P:=P) (e:=e) (R:=R) ds 0 s (by simpa using h) hp
 simpa using this
abbrev iN(n:Nat):D:=.int (n:Int)
def rng(lo hi:Nat):List Nat:=(List.range (hi - lo)).map (lo + ·)
theorem wz(lo n:Nat):gW (lo:Int) n=((List.range n).map (lo + ·)).map iN:=by
 unfold gW
 rw[li]
 apply Ba
 intro a _
 show PyData.int _=PyData.int _
 congr 1
theorem zD{n:Nat}(h:n<=100000):gP (n:Int)=true:=by
 unfold gP
 simp only[am,zzi]
 lia
theorem kC(n:Nat)(h:n<=100000):bZ [.int (n:Int)]=some ((List.range n).map iN):=by
 unfold bZ
 simp only[zD h,LF]
 have:=wz 0 n
 simp only[IN]
 rw[show(0:Int)=((0:Nat):Int)from rfl,this]
 simp
mutual
def sz:D->Nat
 | .list ds=>1+szs ds
 | .tuple ds=>1+szs ds
 | .none=>1
 | .bool _=>1
 | .int _=>1
 | .str _=>1
 | .dict _=>1
def szs:List D->Nat
 | []=>0
 | d::r=>sz d+szs r
end
mutual
def Sm:D->Prop
 | .list ds=>Sms ds
 | .tuple ds=>Sms ds
 | .none=>True
 | .bool _=>True
 | .int i=>i.natAbs<10^19
 | .str s=>gL s=true
 | .dict _=>False
def Sms:List D->Prop
 | []=>True
 | d::r=>Sm d/\Sms r
end
theorem C3:∀{ds:List D},(∀d∈ds,Sm d)->Sms ds
 | [],_=>by simp[Sms]
 | e::r,h=>by
  simp only[Sms]
  exact⟨h e au,C3 λd hd=>h d (zzg _ hd)⟩
mutual
theorem Sm.lay:∀{d:D},Sm d->d.canLay0=true
 | .none,h=>by simp[PyData.canLay0]
 | .bool _,h=>by simp[PyData.canLay0]
 | .int _,h=>by simp[PyData.canLay0]
 | .str s,h=>by
  have h':gL s=true:=by simpa[Sm]using h
  unfold gL at h'
  simp only[am]at h'
  simp[PyData.canLay0,h'.1.1]
 | .list ds,h=>by simp only[PyData.canLay0];exact Sms.lay (by simpa[Sm]using h)
 | .tuple ds,h=>by simp only[PyData.canLay0];exact Sms.lay (by simpa[Sm]using h)
 | .dict _,h=>by simp[Sm]at h
theorem Sms.lay:∀{ds:List D},Sms ds->PyData.canLayAll0 ds=true
 | [],_=>by simp[PyData.canLayAll0]
 | d::r,h=>by
  simp only[Sms]at h
  simp only[PyData.canLayAll0,am]
  exact⟨Sm.lay h.1,Sms.lay h.2⟩
end
mutual
theorem Sm.show:∀{d:D},Sm d->d.showable=true
 | .none,h=>by simp[PyData.showable]
 | .bool _,h=>by simp[PyData.showable]
 | .int i,h=>by
  have h':i.natAbs<10^19:=by simpa[Sm]using h
  simp only[PyData.showable,zzi]
  exact GS (bo h' (Nat.pow_le_pow_right (by decide) (by decide)))
 | .str s,h=>by simp[PyData.showable]
 | .list ds,h=>by simp only[PyData.showable];exact Sms.show (by simpa[Sm]using h)
 | .tuple ds,h=>by simp only[PyData.showable];exact Sms.show (by simpa[Sm]using h)
 | .dict _,h=>by simp[Sm]at h
theorem Sms.show:∀{ds:List D},Sms ds->PyData.showableAll ds=true
 | [],_=>by simp[PyData.showableAll]
 | d::r,h=>by
  simp only[Sms]at h
  simp only[PyData.showableAll,am]
  exact⟨Sm.show h.1,Sms.show h.2⟩
end
mutual
theorem Sm.text:∀{d:D},Sm d->d.shown.length+2<=30*sz d/\PyData.strOk d.shown=true
 | .none,h=>by refine⟨?_,by simp only[PyData.shown];exact aT _⟩;simp only[PyData.shown,sz];decide
 | .bool b,h=>by
  refine⟨?_,by cases b<;>simp only[PyData.shown]<;>exact aT _⟩
  cases b<;>simp only[PyData.shown,sz]<;>decide
 | .int i,h=>by
  have h':i.natAbs<10^19:=by simpa[Sm]using h
  refine⟨?_,by simp only[PyData.shown];exact aT _⟩
  simp only[PyData.shown,sz]
  have h1:=int_text_length_le10 (a:=i) (k:=19) (by decide) h'
  have h2:(Str.ofString (toString i)).length=(toString i).length:=by
   show(Str.ofString (toString i)).cps.size=_
   rw[<-cr,signs_ofString,zzd,String.length_toList]
  lia
 | .str s,h=>by
  have h':gL s=true:=by simpa[Sm]using h
  unfold gL at h'
  simp only[am,zzi]at h'
  simp only[PyData.shown,sz]
  exact⟨by lia,h'.2⟩
 | .list ds,h=>by
  obtain⟨h1,h2⟩:=Sms.text (ds:=ds) (by simpa[Sm]using h)
  have h5:(Str.join ", " (PyData.shownAll ds)).length<=piled (PyData.shownAll ds):=yL
  have h6:PyData.strOk (Str.join ", " (PyData.shownAll ds))=true:=fK (aT _) h2
  simp only[PyData.shown,listText_eq_join,sz]
  refine⟨?_,fE (fE (aT _) h6) (aT _)⟩
  rw[strLen_append,strLen_append]
  have e1:((("[" : String):Str)).length=1:=rfl
  have e2:((("]" : String):Str)).length=1:=rfl
  rw[e1,e2];lia
 | .tuple ds,h=>by
  obtain⟨h1,h2⟩:=Sms.text (ds:=ds) (by simpa[Sm]using h)
  have h5:(Str.join ", " (PyData.shownAll ds)).length<=piled (PyData.shownAll ds):=yL
  have h6:PyData.strOk (Str.join ", " (PyData.shownAll ds))=true:=fK (aT _) h2
  simp only[PyData.shown,tupleText,sz]
  refine⟨?_,fE (fE (aT _) h6) (aT _)⟩
  rw[strLen_append,strLen_append]
  have e1:((("(" : String):Str)).length=1:=rfl
  have e3:(((if(PyData.shownAll ds).length==1 then ",)" else ")" : String):Str)).length<=2:=by split<;>decide
  rw[e1];lia
 | .dict _,h=>by simp[Sm]at h
theorem Sms.text:∀{ds:List D},Sms ds->piled (PyData.shownAll ds)<=30*szs ds/\∀t∈PyData.shownAll ds,PyData.strOk t=true
 | [],_=>by simp[PyData.shownAll,piled,szs]
 | d::r,h=>by
  simp only[Sms]at h
  obtain⟨h1,h2⟩:=Sm.text h.1
  obtain⟨h3,h4⟩:=Sms.text h.2
  simp only[PyData.shownAll,szs]
  refine⟨?_,λt ht=>?_⟩
  ·rw[piled_cons];lia
  ·rcases List.mem_cons.mp ht with rfl|ht
   ·exact h2
   ·exact h4 t ht
end
theorem E3{d:D}(h:Sm d)(hs:sz d<=30000)(hd:d.depth<=60):pG [d]=some (.str d.shown):=by
 obtain⟨t1,t2⟩:=h.text
 show(if nQ d then some (PyData.str d.shown)else none)=_
 unfold nQ
 rw[ai]
 simp only[am,zzi]
 exact⟨⟨⟨h.show,h.lay⟩,by lia⟩,bj (show d.shown.length<=1000000 by lia) (by decide)⟩
theorem GR{d:D}(h:Sm d):kG (.str d.shown) (.str d.shown)=some false:=by
 obtain⟨t1,t2⟩:=h.text
 unfold kG eqOk
 rw[ai]
 ·simp[PyData.eqv]
 ·simp[PyData.canLay0,t2,PyData.depth]
theorem vf(ds:List D)(k:D):aS (.list ds) k=jz (.list ds) k:=id rfl
theorem lx(ds:List D)(k:D):aS (.tuple ds) k=jz (.tuple ds) k:=id rfl
theorem Fv{ι:Type}(e:ι->D)(is:List ι)(n:Nat)(h:n<is.length):jz (.list (is.map e)) (.int (n:Int))=some (e is[n]):=by
 have:=jv (is.map e) n (by simpa using h)
 rw[List.getElem_map]at this
 exact this
theorem HC(ds:List D)(d:D)(h:ds.length<=100000):BI ds [d]=some (ds++[d]):=ai (Nat.lt_of_le_of_lt h (by decide))
theorem ja{ds:List S}(h:ds.length<=100000):eO ds=.ret ds:=ai (bj h (by decide))
abbrev pD(p:Nat×Nat):D:=.tuple [iN p.1,iN p.2]
theorem Ft(a b:Nat):((a:Int)==(b:Int))=decide (a=b):=Ew a b
theorem eqN(a b:Nat):aW (iN a) (iN b)=some (decide (a=b)):=by
 show aW (.int a) (.int b)=_
 rw[eqI,Ft]
theorem EQ(a b:Nat):aJ (iN a) (iN b)=some (iN (a+b)):=by
 show some (PyData.int ((a:Int)+(b:Int)))=_
 rw[<-Int.natCast_add]
theorem KO(a b:Nat)(h:0<b):fQ (iN a) (iN b)=some (iN (a % b)):=by
 show fQ (.int a) (.int b)=_
 rw[modI _ _ (by lia)]
 rfl
abbrev Mt:=Nat×Nat×Nat×Nat
abbrev mD(m:Mt):D:=.tuple [iN m.1,iN m.2.1,iN m.2.2.1,iN m.2.2.2]
structure Rl where
 n:Nat
 st:List Nat
 ms:List Mt
 sy:List Bool
abbrev Rl.d(r:Rl):D:=.tuple [iN r.n,.tuple (r.st.map iN),.tuple (r.ms.map mD),.tuple (r.sy.map PyData.bool)]
def plt(p q:Nat×Nat):Prop:=p.1<q.1\/p.1=q.1/\p.2<q.2
structure MtOk(n:Nat)(m:Mt):Prop where
 ab:m.1<=m.2.1
 b:m.2.1<n
 c:m.2.2.1<n
 d:m.2.2.2<n
 ne:m.2.2≠(m.1,m.2.1)
 ne':m.2.2≠(m.2.1,m.1)
structure Wf(r:Rl):Prop where
 n1:1<=r.n
 st:∀s∈r.st,s<r.n
 sy:r.sy.length=r.n
 ms:∀m∈r.ms,MtOk r.n m
 so:r.ms.Pairwise λm m'=>plt (m.1,m.2.1) (m'.1,m'.2.1)
def look(ms:List Mt)(p:Nat×Nat):Option (Nat×Nat):=(ms.find? λm=>decide (m.1=p.1)&&decide (m.2.1=p.2)).map (·.2.2)
def turn(ms:List Mt)(i j:Nat):Nat×Nat:=if i<=j then(look ms (i,j)).getD (i,j)else let t:=(look ms (j,i)).getD (j,i);(t.2,t.1)
theorem FQ{n:Nat}(h:n<=1000000000):Sm (iN n):=by
 simp only[iN,Sm,Int.natAbs_natCast]
 exact Nat.lt_of_le_of_lt h (by decide)
theorem Dj{l:List Nat}(h:∀s∈l,s<=1000000000):Sm (.tuple (l.map iN)):=by
 simp only[Sm]
 refine C3 λd hd=>?_
 obtain⟨s,hs,rfl⟩:=List.mem_map.mp hd
 exact FQ (h s hs)
theorem xZ{ι:Type}{e:ι->D}{B:Nat}(h:∀i,sz (e i)=B):∀l:List ι,szs (l.map e)=l.length*B
 | []=>by simp[szs]
 | i::r=>by rw[ba,szs,xZ h r,h i,ci,Nat.succ_mul];lia
theorem min2(a b:Nat):vn [.int (a:Int),.int (b:Int)]=some (iN (min a b)):=by
 show some (PyData.int _)=_
 congr 2
 split<;>lia
abbrev kvM(m:Mt):D×D:=(pD (m.1,m.2.1),pD m.2.2)
theorem Jx(p:Nat×Nat):g9 (pD p)=true:=id rfl
theorem HM(p:Nat×Nat):fT (pD p)=false:=id rfl
theorem CV(a:Nat):aJ (.int 1) (iN a)=some (iN (a+1)):=by
 show some (PyData.int (1+(a:Int)))=some (PyData.int ((a+1:Nat):Int))
 rw[Int.natCast_add,Int.add_comm]
 rfl
structure Ahd(n a b:Nat)(ms:List Mt):Prop where
 ok:∀m∈ms,MtOk n m
 so:ms.Pairwise λm m'=>plt (m.1,m.2.1) (m'.1,m'.2.1)
 ah:∀m∈ms,plt (m.1,m.2.1) (a,b)
 le:ms.length<=a*n+b
def tab(n:Nat)(f:Nat->Nat):List Nat:=(List.range n).map f
abbrev Ln(n:Nat)(f:Nat->Nat):List D:=(tab n f).map iN
def up(f:Nat->Nat)(i v:Nat):Nat->Nat:=λr=>if r=i then v else f r
theorem AQ(a:Nat)(h:1<=a):cy (iN a) (.int 1)=some (iN (a - 1)):=by
 show some (PyData.int ((a:Int) - 1))=some (PyData.int ((a - 1:Nat):Int))
 congr 2
 lia
theorem FP(a b:Nat)(h:b<=a):cy (iN a) (iN b)=some (iN (a - b)):=by
 show some (PyData.int ((a:Int) - b))=some (PyData.int ((a - b:Nat):Int))
 congr 2
 lia
def cnt(hs:List Nat)(r:Nat):Nat:=hs.count r
def Lb(f:Nat->Nat)(m:Mt):Bool:=let w:=if m.1=m.2.1 then 2 else 1;decide (w<=f m.1)&&decide (w<=f m.2.1)
def Lr(f:Nat->Nat)(m:Mt):Nat->Nat :=
 let f1:=up f m.1 (f m.1 - 1)
 let f2:=up f1 m.2.1 (f1 m.2.1 - 1)
 let f3:=up f2 m.2.2.1 (f2 m.2.2.1+1)
 up f3 m.2.2.2 (f3 m.2.2.2+1)
theorem allB(bs:List Bool):B8 [.list (bs.map PyData.bool)]=some (bs.all id):=by
 show(boolsOf _).map _=_
 rw[mT];rfl
theorem anyB(bs:List Bool):vo [.list (bs.map PyData.bool)]=some (bs.any id):=by
 show(boolsOf _).map _=_
 rw[mT];rfl
def Lh(bs:List Bool):D:=if bs.all id then .str "yes" else if bs.any id then .str "both" else .str "no"
theorem eJ{α β:Type}(p:α->Bool)(g:α->β):∀l:List α,(l.filterMap λk=>if p k=true then some (g k)else none)=(l.filter p).map g
 | []=>rfl
 | a::r=>by
  rw[Ch,List.filter_cons,eJ p g r]
  cases p a<;>rfl
def FV(l:List (Nat×Nat)):List Nat:=l.flatMap λp=>List.replicate p.2 p.1
def Ll(f:Nat->Nat)(ms:List Mt):List Nat:=(ms.zipIdx.filter λp=>Lb f p.1).map (·.2)
def Lk(r:Rl)(hs:List Nat)(i j:Nat):List Nat:=(hs.set i (turn r.ms (hs.getD i 0) (hs.getD j 0)).1).set j (turn r.ms (hs.getD i 0) (hs.getD j 0)).2
def Es(r q:Rl)(i j:Nat):Nat×Nat:=((turn r.ms (i / q.n) (j / q.n)).1*q.n+(turn q.ms (i % q.n) (j % q.n)).1,(turn r.ms (i / q.n) (j / q.n)).2*q.n+(turn q.ms (i % q.n) (j % q.n)).2)
def cell(r q:Rl)(i j:Nat):List Mt:=if Es r q i j=(i,j)then[]else[(i,j,Es r q i j)]
def Ir(r q:Rl)(i:Nat):List Mt:=(rng i (r.n*q.n)).flatMap (cell r q i)
def FR(r q:Rl):List Mt:=(List.range (r.n*q.n)).flatMap (Ir r q)
structure Two(r q:Rl):Prop where
 wr:Wf r
 wq:Wf q
 rn:r.n<=40
 qn:q.n<=40
 R:r.n*q.n<=40
 st:r.st.length=q.st.length
 s4:q.st.length<=4
def Ii(both a b:Bool):Bool:=if both then a&&b else a||b
def FW(r q:Rl)(both:Bool)(p:Nat):Bool:=Ii both (r.sy.getD (p / q.n) false) (q.sy.getD (p % q.n) false)
def ul(r q:Rl):List Nat:=(List.range r.st.length).map λk=>r.st.getD k 0*q.n+q.st.getD k 0
def Lo(r q:Rl)(both:Bool):Rl:=⟨r.n*q.n,ul r q,FR r q,(List.range (r.n*q.n)).map (FW r q both)⟩
def Lg(both:Bool):D:=if both then .str "both" else .str "either"
abbrev cT(l:List Nat):D:=.tuple (l.map iN)
theorem j6:∀l l':List Nat,PyData.eqvAll (l.map iN) (l'.map iN)=decide (l=l')
 | [],[]=>rfl
 | [],_::_=>rfl
 | _::_,[]=>rfl
 | a::l,b::l'=>by
  simp only[ba,PyData.eqvAll,PyData.eqv,Ft,j6 l l']
  rw[ue]
  simp
theorem Hj(l l':List Nat):PyData.eqv (cT l) (cT l')=decide (l=l'):=by
 rw[<-j6]
 rfl
theorem lh(l:List Nat):PyData.canLayAll0 (l.map iN)=true:=jq λd hd=>by
 obtain⟨x,_,rfl⟩:=List.mem_map.mp hd
 simp[iN,PyData.canLay0]
theorem GV(l:List Nat):(cT l).canLay0=true/\(cT l).depth<=1000:=by
 refine⟨by simp only[PyData.canLay0];exact lh l,?_⟩
 have hd:PyData.depthAll (l.map iN)<=1:=gI λd hd=>by
  obtain⟨x,_,rfl⟩:=List.mem_map.mp hd
  simp[iN,PyData.depth]
 simp only[PyData.depth]
 lia
theorem eqT(l l':List Nat):aW (cT l) (cT l')=some (decide (l=l')):=by
 unfold aW eqOk
 rw[ai (by simp[GV]),Hj]
def Lj(n:Nat)(g f:Nat->Nat):Nat->Nat:=cnt (FV ((List.range n).map λp=>(g p,f p)))
structure Sd(r q:Rl)(g:Nat->Nat)(R:Rl):Prop where
 wf:Wf R
 lt:∀{a},a<r.n*q.n->g a<R.n
 tn:∀{a b},a<r.n*q.n->b<r.n*q.n->(g (Es r q a b).1,g (Es r q a b).2)=turn R.ms (g a) (g b)
 st:(ul r q).map g=R.st
end L4
namespace K09
open PySem PySem.Spec PyProof.Rows L2 L3 L4
variable {x w:Str}{p T n q c few:Nat}{A B:List Nat}{S:Type}{hi:Int}
def Fd(T:Nat)(f:List D):Prop:=∃a b t:Int,f=[.int a,.int b,.int t]/\0<=t/\t<=T
theorem Fd.le{T':Nat}{f:List D}(h:Fd T f)(hl:T<=T'):Fd T' f:=by
 obtain⟨a,b,t,e,h0,h1⟩:=h
 exact⟨a,b,t,e,h0,by omega⟩
theorem uT{f:List D}{m:Int}(h:Fd T f)(hT:T<=1000000)(hm:0<m)(hm2:m<1073741824) :
  ∃(r:Int) (f':List D),aC f (.int m)=.ret (.int r,f')/\0<=r/\r<m/\Fd (T+1) f':=by
 obtain⟨a,b,t,rfl,h0,h1⟩:=h
 unfold aC
 simp only[vf]
 rw[L4.ix3_0,oMS,bdR,L4.gtI,oMS,bdR]
 by_cases ha:0<a
 ·simp only[ha,decide_true,LF]
  simp only[oMS,bdR,L4.modI _ _ hm,L4.divI _ _ hm hm2,L4.put3_0]
  exact⟨_,_,rfl,Mg _ (by omega),LP _ hm,_,_,_,rfl,h0,by omega⟩
 ·simp only[ha,decide_false]
  rw[ac (by decide)]
  simp only[oMS,bdR,L4.ix3_2,L4.ix3_1,L4.put3_2,L4.addI]
  rw[L4.mulL 41 _ (by decide) (by decide),L4.mulL (t+1) (t+1) (by omega) (by omega)]
  simp only[oMS,bdR,L4.addI]
  have tb:(t+1)*(t+1)<=1000001*1000001:=Int.mul_le_mul (by omega) (by omega) (by omega) (by omega)
  have tb0:0<=(t+1)*(t+1):=Int.mul_nonneg (by omega) (by omega)
  rw[L4.mulR _ ((t+1)*(t+1)+69621) (by omega) (by omega)]
  simp only[oMS,bdR]
  rw[L4.modI _ _ (by decide)]
  simp only[oMS,bdR]
  rw[L4.modI _ _ (by decide)]
  simp only[oMS,bdR,L4.addI]
  have g1:=Mg ((b+41*(t+1)+3)*((t+1)*(t+1)+69621)) (b:=(998244353:Int)) (by decide)
  have g2:=LP ((b+41*(t+1)+3)*((t+1)*(t+1)+69621)) (b:=(998244353:Int)) (by decide)
  rw[L4.mulL _ _ (by omega) (by omega)]
  simp only[oMS,bdR,L4.addI]
  rw[L4.modI _ _ (by decide)]
  simp only[oMS,bdR]
  rw[L4.divI _ _ (by decide) (by decide)]
  simp only[oMS,bdR]
  rw[L4.modI _ _ hm]
  exact⟨_,_,rfl,Mg _ (by omega),LP _ hm,_,_,_,rfl,by omega,by omega⟩
theorem bP{f:List D}{m:Nat}(h:Fd T f)(hT:T<=1000000)(hm:0<m)(hm2:m<=1000000000) :
  ∃(r:Nat) (f':List D),aC f (.int (m:Int))=.ret (iN r,f')/\r<m/\Fd (T+1) f':=by
 obtain⟨r,f',e,h1,h2,h3⟩:=uT h hT (m:=(m:Int)) (by omega) (by omega)
 obtain⟨n,rfl⟩:=Int.eq_ofNat_of_zero_le h1
 exact⟨n,f',e,by omega,h3⟩
theorem Ei(ns:List Int)(k:Int)(hn:ns.length<=63):∃f,gg (.list (ns.map PyData.int)) (.int k)=.ret f/\Fd 0 f:=by
 unfold gg
 simp only[vf]
 have e1:ej [.list (ns.map PyData.int)]=some (.int ns.length):=by rw[L4.lenL,zzd]
 have p18:uL (.int 10) (.int 18)=some (.int 1000000000000000000):=id rfl
 have tail:∀c:Int,∃f,(bd (bd (bd (oM (xy [.int c])) λx6=>bd (oM (uL (.int 10) (.int 18))) λx7=>oM (BB x6 x7)) λb8=>if b8 then oM (xy [.int c])else .ret (.int 0)) λx9=>bd (bd (bd (oM (fQ (.int c) (.int 1000003))) λx10=>bd (oM (eW (.int 7919) (.int k))) λx11=>oM (aJ x10 x11)) λx12=>.ret [x9,x12,(.int 0)]) λl13=>M.ret l13)=.ret f/\Fd 0 f:=λc=>by
  have a1:xy [.int c]=some (.int (if c<0 then -c else c)):=id rfl
  simp only[a1,p18,oMS,bdR,L4.geI]
  rw[L4.modI _ _ (by decide),L4.mulL _ _ (by decide) (by decide)]
  simp only[oMS,bdR,L4.addI]
  generalize (if c<0 then -c else c)=A
  generalize decide ((1000000000000000000:Int)<=A)=B
  cases B
  ·exact⟨_,rfl,_,_,_,rfl,ss _,ss _⟩
  ·exact⟨_,rfl,_,_,_,rfl,ss _,ss _⟩
 simp only[e1,oMS,bdR,L4.gtI]
 by_cases h:0<(ns.length:Int)
 ·simp only[h,decide_true,LF]
  rw[L4.modI _ _ h,oMS,bdR]
  have m1:=Mg k (b:=(ns.length:Int)) (by omega)
  have m2:=LP k h
  obtain⟨x,hx,e⟩:=CC (ns.map PyData.int) (k % ns.length) m1 (by rw[zzd];exact m2)
  obtain⟨i,hi,rfl⟩:=List.mem_map.mp hx
  have e2:jz (.list (ns.map PyData.int)) (.int (k % ns.length))=some (.int i):=e
  rw[e2,oMS,bdR]
  exact tail i
 ·simp only[h,decide_false]
  rw[ac (by decide),bdR]
  exact tail 0
theorem oG{f:List D}{m:List D}(hm:0<m.length)(hm2:m.length<1000)(h:Fd T f)(hT:T<=1000000) :
  ∃(x:D) (f':List D),bE f (.list m)=.ret (x,f')/\x∈m/\Fd (T+1) f':=by
 unfold bE
 simp only[vf]
 obtain⟨r,f',t1,t2,t3,t4⟩:=uT h hT (m:=(m.length:Int)) (by omega) (by omega)
 obtain⟨x,hx,e⟩:=CC m r t2 t3
 have e2:jz (.list m) (.int r)=some x:=e
 rw[L4.lenL,oMS,bdR,t1,bdR]
 simp only[e2,oMS,bdR]
 exact⟨x,f',rfl,hx,t4⟩
def ch(c:Nat):D:=.str ⟨#[c]⟩
def dig(c:Nat):Bool:=decide (48<=c)&&decide (c<=57)
theorem KZ:(Str.ofString "0123456789").cps.toList=[48,49,50,51,52,53,54,55,56,57]:=by decide +kernel
theorem rD(c:Nat):rE ⟨#[c]⟩ (Str.ofString "0123456789")=dig c:=by
 unfold rE
 rw[StrLaws.found_one,KZ]
 unfold dig
 rw[ue]
 simp
 omega
theorem Ha(c:Nat):bO (ch c) (.str "0123456789")=some (dig c):=by
 show some (rE _ _)=_
 rw[rD]
theorem zY(c:Nat):fP (ch c) (.str "0123456789")=some (!dig c):=by
 show some (!rE _ _)=_
 rw[rD]
def okW(x:Str):Bool:=decide (1<=x.length)&&decide (x.length<=9)&&x.cps.toList.all dig && !(decide (x.cps.toList.head? = some 48)&&decide (1<x.length))
def m7(x:Str):D:=if okW x then iN (NumText.digitsVal x.cps.toList)else .none
structure Wd(x:Str):Prop where
 ok:PyData.strOk x=true
 le:x.length<=20000
theorem iy:(20000:Nat)<=sizeLine:=by decide
theorem wV(x:Str)(h:x.length<=20000):ej [.str x]=some (iN x.length):=ai (bj h iy)
theorem len_list(x:Str):x.cps.toList.length=x.length:=cr
theorem rJ:∀(cs:List Nat) (acc:Nat),(∀c∈cs,c<=57)->cs.foldl (λacc c=>acc*10+(c - 48)) acc+1<=(acc+1)*10^cs.length
 | [],acc,_=>by simp
 | c::cs,acc,h=>by
  have hc:=h c au
  have ih:=rJ cs (acc*10+(c - 48)) λd hd=>h d (zzg _ hd)
  rw[List.foldl_cons,ci,Nat.pow_succ]
  have:(acc*10+(c - 48)+1)*10^cs.length<=((acc+1)*10)*10^cs.length:=Nat.mul_le_mul_right _ (by omega)
  have e:(acc+1)*(10^cs.length*10)=((acc+1)*10)*10^cs.length:=by rw[Nat.mul_comm (10^cs.length) 10,Nat.mul_assoc]
  omega
theorem FK{cs:List Nat}(h:∀c∈cs,dig c=true)(hl:cs.length<=9):NumText.digitsVal cs<=999999999:=by
 have:=rJ cs 0 λc hc=>by
  have:=h c hc
  unfold dig at this
  rw[am,zzi,zzi]at this
  exact this.2
 have h9:10^cs.length<=10^9:=Nat.pow_le_pow_right (by decide) hl
 unfold NumText.digitsVal
 omega
theorem int_is(h:x.cps.toList.all dig=true)(h1:1<=x.length)(h9:x.length<=9):rH [.str x]=some (iN (NumText.digitsVal x.cps.toList)):=by
 rw[ke]at h
 have hd:NumText.AllDigits x.cps.toList:=λc hc=>by
  have:=h c hc
  unfold dig at this
  rw[am,zzi,zzi]at this
  exact this
 have e:=PySem.intText_digits hd (by intro z;have:=len_list x;rw[z]at this;simp at this;omega) (by omega)
 show(if decide (x.length<=640)=true then(PySem.intText? x).map PyData.int else none)=_
 rw[ai (by simp;omega),e]
 rfl
theorem lg(h:PyData.strOk x=true):Ey (.str x):=⟨by simpa[PyData.canLay0]using h,by simp[PyData.depth]⟩
theorem xU(c:Nat):sS (Str.ofString "0") (ch c)=decide (c=48):=by
 show((⟨#[c]⟩:Str)==Str.ofString "0")=_
 rw[ue,um,zzi]
 constructor
 ·intro h
  have:(⟨#[c]⟩:Str).cps=(Str.ofString "0").cps:=by rw[h]
  have e:(Str.ofString "0").cps = #[48]:=by decide +kernel
  rw[e]at this
  injection this with this
  injection this
 ·rintro rfl
  decide +kernel
theorem first_is{r:List Nat}(e:x.cps.toList=c::r)(hl:x.length<=20000):aS (.str x) (.int 0)=some (ch c):=by
 show(if x.length<=sizeLine then(atI x.cps.toList 0).map λc=>PyData.str ⟨#[c]⟩else none)=_
 rw[ai (bj hl iy),e,jv (c::r) 0 (by simp) |> (show atI (c::r) 0=some c from ·)]
 rfl
theorem kx(h:PyData.strOk x=true)(hc:c∈x.cps.toList):PyData.strOk ⟨#[c]⟩=true:=by
 rw[strOk_iff]at h ⊢
 intro d hd
 have:d=c:=by simpa using hd
 rw[this];exact h c hc
theorem leA(a b:Int):ie (.int a) (.int b)=some (decide (a<=b)):=rfl
theorem qZ(w:Wd x):dJ (.str x)=.ret (m7 x):=by
 unfold dJ
 have hL:=w.le
 rw[wV x w.le,oMS,bdR,leA,oMS,bdR]
 have e1:(if decide ((1:Int)<=(x.length:Int))=true then oM (ie (iN x.length) (.int 9))else .ret false:M Bool)=.ret (decide (1<=x.length)&&decide (x.length<=9)):=by
  rw[leA,oMS,iteB]
  congr 2<;>(apply decide_eq_decide.mpr;omega)
 rw[e1,bdR,bdR]
 unfold m7 okW
 by_cases h:1<=x.length/\x.length<=9
 ·rw[aw h.1,aw h.2,ac (by decide)]
  have cc:=fH (e:=ch) (g:=λc=>PyData.bool (dig c)) (step:=λd5=>bd (bd (oM (bO d5 (.str "0123456789"))) λb6=>.ret (.bool b6)) λx7=>.ret (some x7)) x.cps.toList (λc _=>by rw[Ha,oMS,bdR,bdR])
  have es:d9 (.str x)=some (x.cps.toList.map ch):=rfl
  rw[es,oMS,bdR,cc,bdR,dA (by rw[zzd,len_list];omega),bdR,bdR]
  have ea:B8 [.list (x.cps.toList.map λc=>PyData.bool (dig c))]=some (x.cps.toList.all dig):=by
   have:=allB (x.cps.toList.map dig)
   rw[li]at this
   refine this.trans ?_
   rw[List.all_map]
   rfl
  rw[ea,oMS,bdR,bdR]
  cases hd:x.cps.toList.all dig
  ·rw[ai (by decide)];rfl
  ·rw[ac (by decide)]
   cases hx:x.cps.toList with
   | nil=>have:=len_list x;rw[hx]at this;simp at this;omega
   | cons c r =>
    have ey:Ey (ch c):=lg (kx w.ok (by rw[hx];exact au))
    rw[first_is hx w.le,oMS,bdR,eqS ey "0",xU,oMS,bdR,bdR,gtI,oMS,iteB,bdR,int_is (by rw[hx]at hd ⊢;exact hd) h.1 h.2,hx]
    have e2:decide ((1:Int)<(x.length:Int))=decide (1<x.length):=decide_eq_decide.mpr (by omega)
    rw[e2]
    show _=M.ret (if(true&&true&&true && !(decide (some c=some 48)&&decide (1<x.length)))=true then _ else _)
    have e3:decide (some c=some 48)=decide (c=48):=decide_eq_decide.mpr (by simp)
    rw[e3]
    cases decide (c=48)&&decide (1<x.length)
    ·rw[ac (by decide),oMS,bdR];rfl
    ·rfl
 ·have hb:(decide (1<=x.length)&&decide (x.length<=9))=false:=by
   rw[Bool.and_eq_false_iff,ic,ic]
   omega
  rw[hb,ai (by decide)]
  rfl
theorem Cd(x:Str):sS (Str.ofString "") (.str x)=decide (x.length=0):=by
 show(x==Str.ofString "")=_
 rw[ue,um,zzi]
 constructor
 ·rintro rfl;decide +kernel
 ·intro h
  have e:x.cps = #[]:=Array.eq_empty_of_size_eq_zero h
  have e2:(Str.ofString "").cps = #[]:=by decide +kernel
  cases x
  cases h3:Str.ofString ""
  rw[h3]at e2
  dsimp only at e e2
  rw[e,e2]
theorem Fs{l:List D}(h:PyData.canLayAll0 l=true)(hd:PyData.depthAll l<=900):kG (.list l) (.list [])=some (!l.isEmpty):=by
 have e1:PyData.canLay0 (.list l)=true:=by simpa[PyData.canLay0]using h
 have e2:PyData.canLay0 (.list [])=true:=by simp[PyData.canLay0,PyData.canLayAll0]
 have e3:(PyData.list l).depth<=1000:=by simp[PyData.depth];omega
 refine(ai (by unfold eqOk;rw[e1,e2,aw e3];rfl)).trans ?_
 congr 2
 cases l<;>simp[PyData.eqv,PyData.eqvAll]
def inD(lo hi:Int)(x:Str):D:=if okW x&&(decide (lo<=(NumText.digitsVal x.cps.toList:Int))&&decide ((NumText.digitsVal x.cps.toList:Int)<=hi))then iN (NumText.digitsVal x.cps.toList)else .none
theorem lq(w:Wd x)(lo hi:Int):bv (.str x) (.int lo) (.int hi)=.ret (inD lo hi x):=by
 unfold bv
 have hL:=w.le
 have es:d9 (.str x)=some (x.cps.toList.map ch):=rfl
 have cc:=lA (e:=ch) (g:=λc=>if(!dig c)=true then some (ch c)else none) (step:=λd2=>bd (oM (fP d2 (.str "0123456789"))) λb3=>if b3 then .ret (some d2)else .ret none) x.cps.toList (λc _=>by
  rw[zY,oMS,bdR]
  cases dig c<;>rfl)
 rw[eJ]at cc
 have hlay:∀d∈(x.cps.toList.filter λc=>!dig c).map ch,d.canLay0=true/\d.depth<=900:=λd hd=>by
  obtain⟨c,hc,rfl⟩:=List.mem_map.mp hd
  have:=lg (kx w.ok (List.mem_filter.mp hc).1)
  exact⟨this.1,by simp[ch,PyData.depth]⟩
 have nn:=Fs (jq λd hd=>(hlay d hd).1) (gI λd hd=>(hlay d hd).2)
 rw[eqS (lg w.ok) "",Cd,oMS,bdR,wV x w.le,oMS,bdR,gtI,oMS,bdR,es,oMS,bdR,cc,bdR,ja (by rw[zzd];have:=Mh (λc=>!dig c) x.cps.toList;rw[len_list]at this;omega),bdR,bdR,nn,oMS,B0,B0,bdR]
 have ef:(!((x.cps.toList.filter λc=>!dig c).map ch).isEmpty) = !x.cps.toList.all dig:=by
  congr 1
  generalize x.cps.toList=cs
  rw[ue,List.isEmpty_iff,List.map_eq_nil_iff,List.filter_eq_nil_iff,ke]
  constructor
  ·intro h c hc
   have:=h c hc
   cases hd:dig c with
   | true=>rfl
   | false=>rw[hd]at this;exact absurd rfl this
  ·intro h c hc
   rw[h c hc];decide
 rw[ef]
 unfold inD okW
 by_cases h:1<=x.length/\x.length<=9
 ·rw[aw h.1,aw h.2,bi (by omega:¬ x.length=0),bi (by omega:¬ (9:Int)<(x.length:Int)),Bool.false_or,Bool.false_or]
  cases hd:x.cps.toList.all dig
  ·rw[ai (by decide)];rfl
  ·rw[ac (by decide)]
   cases hx:x.cps.toList with
   | nil=>have:=len_list x;rw[hx]at this;simp at this;omega
   | cons c r =>
    have ey:Ey (ch c):=lg (kx w.ok (by rw[hx];exact au))
    rw[bdR,gtI,oMS,bdR,first_is hx w.le,oMS,bdR,eqS ey "0",xU,oMS,iteB,bdR,int_is (by rw[hx]at hd ⊢;exact hd) h.1 h.2,hx]
    have e2:decide ((1:Int)<(x.length:Int))=decide (1<x.length):=decide_eq_decide.mpr (by omega)
    rw[e2]
    show _=M.ret (if((true&&true&&true && !(decide (some c=some 48)&&decide (1<x.length)))&&_)=true then _ else _)
    have e3:decide (some c=some 48)=decide (c=48):=decide_eq_decide.mpr (by simp)
    rw[e3,Bool.and_comm (decide (1<x.length))]
    have hv:NumText.digitsVal (c::r)<=999999999:=FK (λd hd'=>by rw[<-hx]at hd';exact List.all_eq_true.mp hd d hd') (by rw[<-hx,len_list];exact h.2)
    cases decide (c=48)&&decide (1<x.length)
    ·rw[ac (by decide),oMS,bdR,leA,oMS,bdR,leA,oMS,iteB,bdR]
     show bd (if _ then _ else _) _=M.ret (if(true&&_)=true then _ else _)
     rw[wS]
     cases decide (lo<=((NumText.digitsVal (c::r):Nat):Int))&&decide (((NumText.digitsVal (c::r):Nat):Int)<=hi)
     ·rw[ac (by decide),bdR,ac (by decide)]
     ·rw[ai rfl,bdR,ai rfl]
    ·rfl
 ·have hb:(decide (1<=x.length)&&decide (x.length<=9))=false:=by
   rw[Bool.and_eq_false_iff,ic,ic]
   omega
  have hb2:(decide (x.length=0)||(decide ((9:Int)<(x.length:Int)) || !x.cps.toList.all dig))=true:=by
   rw[gt,gt,zzi,zzi]
   omega
  rw[hb,hb2,ai rfl]
  rfl
abbrev comma:Str:=Str.ofString ","
def words(x:Str):List Str:=Txt.split x comma
theorem uc(h:Wd x):∀w∈words x,Wd w:=λw hw=>by
 have e:Str.join comma (words x)=x:=StrLaws.join_split x comma
 refine⟨?_,?_⟩
 ·rw[strOk_iff]
  intro c hc
  have hm:c∈(Str.join comma (words x)).cps.toList:=(mem_join comma c (words x)).mpr (.inl ⟨w,hw,hc⟩)
  rw[e]at hm
  exact strOk_iff.mp h.ok c hm
 ·have:=PySem.join_mem_le comma (words x) w hw
  rw[e]at this
  exact bj this h.le
theorem jk:(words x).length<=x.length+2:=by
 unfold words Txt.split
 split
 ·simp
 ·split
  ·simp
  ·rw[LA]
   have:=Lu x comma 0 x.length (x.length+1)
   omega
theorem uq(h:x.length<=19000):onT .str (.str x) (oM (hJ (.str x) [.str ","]))=.ret ((words x).map PyData.str):=by
 show oM (if jm x comma=true then some ((Txt.split x comma).map PyData.str)else none)=_
 have hp:(Builtin.Str.partsBetween x (Builtin.Str.occurrences x comma 0 x.length (x.length+1)) comma.length).length<=sizeLine:=by
  rw[LA]
  have:=Lu x comma 0 x.length (x.length+1)
  have:=iy
  omega
 have hw:(Txt.split x comma).length<=sizeLine:=by
  have:(Txt.split x comma).length<=x.length+2:=jk
  have:=iy
  omega
 rw[ai (by
  unfold jm
  rw[aw hp,aw hw,aw (bj (by omega) iy)]
  decide +kernel)]
 rfl
def nums(x:Str):List D:=(words x).map m7
def bad(x:Str):Bool:=(words x).any λw=>!okW w
theorem D1(w:Str):(m7 w).canLay0=true/\(m7 w).depth<=10:=by
 unfold m7
 split<;>simp[PyData.canLay0,PyData.depth]
theorem Ek(w:Str):PyData.eqv (m7 w) .none = !okW w:=by
 unfold m7
 cases okW w<;>simp[PyData.eqv]
theorem DR(x:Str):bO .none (.list (nums x))=some (bad x):=by
 show(if inOk .none (nums x)then some ((nums x).any λy=>PyData.eqv y .none)else none)=_
 rw[ai (by
  unfold inOk
  have:PyData.canLayAll0 (nums x)=true:=jq λd hd=>by
   obtain⟨w,_,rfl⟩:=List.mem_map.mp hd
   exact(D1 w).1
  rw[this]
  rfl)]
 congr 1
 unfold nums bad
 rw[LH]
 congr 1
 funext w
 exact Ek w
theorem sY(h:Wd x)(hl:x.length<=19000):ft (.str x)=.ret (if bad x then .none else .tuple (nums x)):=by
 unfold ft
 have es:d9 (.list ((words x).map PyData.str))=some ((words x).map PyData.str):=rfl
 have cc:=fH (e:=PyData.str) (g:=m7) (step:=λd3=>bd (dJ d3) λx4=>.ret (some x4)) (words x) (λw hw=>by rw[qZ (uc h w hw),bdR])
 have hwl:=jk (x:=x)
 rw[uq hl,bdR,bdR,es,oMS,bdR,cc,bdR,ja (by rw[zzd];omega),bdR,bdR]
 have nn:bO .none (.list ((words x).map m7))=some (bad x):=DR x
 rw[nn,oMS,bdR]
 cases bad x
 ·rw[ac (by decide),v7,oMS,bdR,ac (by decide)];rfl
 ·rw[ai rfl,bdR,ai rfl]
def val(w:Str):Nat:=NumText.digitsVal w.cps.toList
theorem zX(h:bad x=false):nums x=(words x).map λw=>iN (val w):=by
 unfold nums
 refine Ba λw hw=>?_
 unfold bad at h
 rw[IG]at h
 have:=h w hw
 unfold m7
 rw[ai (by cases e:okW w with|true=>rfl|false=>rw[e]at this;exact absurd rfl this)]
 rfl
abbrev bf(A:List Nat):D:=.tuple (A.map iN)
theorem leK_N:leK (iN p) (iN q)=true↔p<=q:=by
 unfold leK
 rw[lw,lw,HT.lexLt_cons,ot]
 by_cases h:(q:Int)=p
 ·rw[ai h]
  exact⟨λ_=>by omega,λ_=>rfl⟩
 ·rw[ac h,ic]
  omega
def qz(ps acc:List Nat):List Nat:=ps.foldl (λacc p=>if p∈acc then acc else acc++[p]) acc
theorem y8:∀(ps acc:List Nat),(ps.map iN).foldl xB (acc.map iN)=(qz ps acc).map iN
 | [],acc=>rfl
 | p::ps,acc=>by
  show(ps.map iN).foldl xB (xB (acc.map iN) (iN p))=(qz ps (if p∈acc then acc else acc++[p])).map iN
  rw[<-y8 ps]
  congr 1
  unfold xB
  have e:(L4.keyD (iN p)∈(acc.map iN).map L4.keyD)↔p∈acc:=by
   rw[li]
   constructor
   ·intro h
    obtain⟨q,hq,e⟩:=List.mem_map.mp h
    have e:[(q:Int)]=[(p:Int)]:=e
    injection e with e
    have:q=p:=by omega
    exact this▸hq
   ·intro h
    exact List.mem_map.mpr ⟨p,h,rfl⟩
  by_cases h:p∈acc
  ·rw[ai h,ai (e.mpr h)]
  ·rw[ac h,ac (λz=>h (e.mp z)),jo];rfl
theorem Ck:∀(ps acc:List Nat),acc.Nodup->(qz ps acc).Nodup
 | [],acc,h=>h
 | p::ps,acc,h=>by
  refine Ck ps _ ?_
  show(if p∈acc then acc else acc++[p]).Nodup
  split
  ·exact h
  ·rename_i hp
   rw[List.nodup_append]
   exact⟨h,List.nodup_cons.mpr ⟨(λz=>nomatch z),List.Pairwise.nil⟩,λa ha b hb z=>hp (by rw[<-List.mem_singleton.mp hb,<-z];exact ha)⟩
theorem Co:∀(ps acc:List Nat),(acc++ps).Nodup->qz ps acc=acc++ps
 | [],acc,_=>(iz _).symm
 | q::ps,acc,h=>by
  have h2:=(List.nodup_append.mp h).2.2
  have hq:q∉acc:=λz=>h2 q z q au rfl
  show qz ps (if q∈acc then acc else acc++[q])=_
  rw[ac hq,Co ps,Ix]
  ·rfl
  ·rw[Ix];exact h
theorem Hc{a b:Nat}(h:iN a=iN b):a=b:=by
 injection h with h
 omega
theorem FS(A:List Nat)(hl:A.length<=30000)(h4:∀a∈A,a<4):∃L:List Nat,yZ [.list (A.map iN)]=some (L.map iN)/\L.Pairwise (· < ·)/\(A.Pairwise (· < ·)->L=A):=by
 have e1:El (A.map iN)=(qz A []).map iN:=y8 A []
 obtain⟨L,p1,p2⟩:=n9 (f:=iN) (zs:=qz A []) (l:=gB ((qz A []).map iN)) (cL _)
 have nd:L.Nodup:=p1.nodup_iff.mpr (Ck A [] .nil)
 have so:=fj ((qz A []).map iN)
 rw[p2,xt]at so
 have pw:L.Pairwise (· < ·):=(List.Pairwise.and so nd).imp λ{a b} hh=>by
  have h1:=leK_N.mp hh.1
  have h2:a≠b:=hh.2
  omega
 refine⟨L,?_,pw,λhp=>?_⟩
 ·show(if lI (A.map iN)=true then some (gB (El (A.map iN)))else none)=_
  have:lI (A.map iN)=true:=by
   unfold lI
   rw[am,zzi,zzd,ke]
   refine⟨hl,λd hd=>?_⟩
   obtain⟨p,hp,rfl⟩:=List.mem_map.mp hd
   have:=h4 p hp
   show(decide ((0:Int)<=(p:Int))&&decide ((p:Int)<4))=true
   rw[aw (by omega),aw (by omega)];rfl
  rw[ai this,e1,p2]
 ·have e2:qz A []=A:=Co A [] (hp.imp λh=>bu h)
  rw[e2]at p1
  have:=jn (R:=λx y=>leK x y=true) (a:=L.map iN) (b:=A.map iN) (λx hx y hy h1 h2=>by
   obtain⟨a,_,rfl⟩:=List.mem_map.mp hx
   obtain⟨b,_,rfl⟩:=List.mem_map.mp hy
   have:=leK_N.mp h1
   have:=leK_N.mp h2
   have:a=b:=by omega
   rw[this]) (p1.map iN) (by rw[xt];exact pw.imp λh=>leK_N.mpr (ze h)) (by rw[xt];exact hp.imp λh=>leK_N.mpr (ze h))
  exact List.map_inj_right (λ{x y}=>Hc) |>.mp this
def upB(s:Nat):Int->List Nat->Bool
 | _,[]=>true
 | a,v::r=>(decide (a+1<=(v:Int))&&decide ((v:Int)<=(s:Int) - 1))&&upB s v r
theorem upB_is{s:Nat}:∀{A:List Nat} {a:Int},upB s a A=true↔A.Pairwise (· < ·)/\(∀v∈A,v<s)/\∀v∈A,a<(v:Int)
 | [],a=>by simp[upB]
 | v::r,a=>by
  unfold upB
  rw[am,am,zzi,zzi,upB_is (A:=r),LN]
  constructor
  ·rintro⟨⟨h1,h2⟩,h3,h4,h5⟩
   refine⟨⟨λx hx=>by have:=h5 x hx;omega,h3⟩,λx hx=>?_,λx hx=>?_⟩
   ·rcases List.mem_cons.mp hx with rfl|hx
    ·omega
    ·exact h4 x hx
   ·rcases List.mem_cons.mp hx with rfl|hx
    ·omega
    ·have:=h5 x hx;omega
  ·rintro⟨⟨h1,h2⟩,h3,h4⟩
   refine⟨⟨by have:=h4 v au;omega,by have:=h3 v au;omega⟩,h2,λx hx=>h3 x (zzg _ hx),λx hx=>by have:=h1 x hx;omega⟩
theorem zw(i l h:Int):gf (.int i) (.int l) (.int h)=.ret (.bool (decide (l<=i)&&decide (i<=h))):=by
 unfold gf kb
 have t1:i3 "int" (.int i)=some true:=id rfl
 have t2:i3 "bool" (.int i)=some false:=id rfl
 simp only[t1,t2,LF,bdR,oMS,L4.asB_b,leA,Bool.not_false,L4.iteB,wS]
theorem uu{s:Nat}:∀(A:List Nat) (a:Int),cp (S:=D) (λ(s11:D×D×Unit) d12 kn=>dS s11.1 s11.2.1 d12 kn) (A.map iN) (iN s,.int a,()) (λs11=>jc s11.1 s11.2.1)=.ret (.bool (upB s a A))
 | [],_=>rfl
 | x::A,a=>by
  rw[ba,cp]
  show dS (iN s) (.int a) (iN x) _=_
  unfold dS
  rw[L4.addI,oMS,bdR,show cy (iN s) (.int 1)=some (.int ((s:Int) - 1))from rfl,oMS,bdR,zw,bdR,xW,oMS,bdR,bdR]
  unfold upB
  cases h:(decide (a+1<=(x:Int))&&decide ((x:Int)<=(s:Int) - 1))
  ·rw[ai (show(!false)=true from rfl)];rfl
  ·rw[ac (by decide),wS]
   exact uu A x
theorem mU(s:Nat)(A:List Nat):cu (iN s) (bf A)=.ret (.bool (upB s (-1) A)):=by
 unfold cu
 rw[show i3 "tuple" (bf A)=some true from rfl,oMS,bdR,bdR,ac (by decide),show BA (.int 1)=some (.int (-1))from rfl,oMS,bdR,show d9 (bf A)=some (A.map iN)from rfl,oMS,bdR,cV]
 exact uu A (-1)
theorem qB(s:Nat):cu (iN s) .none=.ret (.bool false):=by
 unfold cu
 rw[show i3 "tuple" .none=some false from rfl,oMS,bdR,bdR,ai (by decide)]
def vals(x:Str):List Nat:=(words x).map val
def srt(s:Nat)(x:Str):Option (List Nat):=if x=Str.ofString "-" then some []else if bad x then none else if upB s (-1) (vals x)then some (vals x)else none
theorem zW(h:bad x=false):nums x=(vals x).map iN:=by
 rw[zX h]
 unfold vals
 rw[li]
 rfl
theorem yS(a:Nat)(B:List Nat):bO (iN a) (bf B)=some (decide (a∈B)):=by
 show(if inOk (iN a) (B.map iN)then some ((B.map iN).any λy=>PyData.eqv y (iN a))else none)=_
 rw[ai (by unfold inOk;rw[lh B];rfl)]
 congr 1
 rw[LH,ue,List.any_eq_true,zzi]
 constructor
 ·rintro⟨x,hx,e⟩
  have:((x:Int)==(a:Int))=true:=e
  rw[um]at this
  have:x=a:=by omega
  exact this▸hx
 ·intro h
  exact⟨a,h,show((a:Int)==(a:Int))=true from Lv _⟩
def wj(s:Nat)(x:Str)(B:List Nat):D:=match srt s x with
 | some A=>if A.any (λa=>decide (a∈B))then .none else bf A
 | none=>.none
theorem Ca(h:Wd x):aW (.str x) (.str "-")=some (decide (x=Str.ofString "-")):=by
 have e:aW (.str x) (.str "-")=some (x==Str.ofString "-"):=ai (by
  have t2:=h.ok
  have hx:PyData.strOk (Str.ofString "-")=true:=aT _
  simp[eqOk,PyData.canLay0,t2,hx,PyData.depth])
 rw[e]
 exact congrArg some (Bool.eq_iff_iff.mpr (by rw[decide_eq_true_iff];exact um))
theorem u6(h:Wd x)(hl:x.length<=19000){s:Nat}(hs1:1<=s)(hs:s<=4)(B:List Nat):fy (.str x) (iN s) (bf B)=.ret (wj s x B):=by
 unfold fy
 rw[Ca h,oMS,bdR]
 unfold wj srt
 by_cases hd:x=Str.ofString "-"
 ·rw[aw hd,ai rfl,ai hd];rfl
 ·rw[bi hd,ac (by decide),ac hd]
  have es:d9 (.list ((words x).map PyData.str))=some ((words x).map PyData.str):=rfl
  have sb:cy (iN s) (.int 1)=some (.int ((s:Int) - 1)):=rfl
  have cc:=fH (e:=PyData.str) (g:=inD 0 ((s:Int) - 1)) (step:=λd4=>bd (bd (oM (cy (iN s) (.int 1))) λx5=>bv d4 (.int 0) x5) λx6=>.ret (some x6)) (words x) (λw hw=>by rw[sb,oMS,bdR,lq (uc h w hw),bdR])
  have hwl:=jk (x:=x)
  rw[uq hl,bdR,bdR,es,oMS,bdR,cc,bdR,ja (by rw[zzd];omega),bdR,bdR]
  have ni:bO .none (.list ((words x).map (inD 0 ((s:Int) - 1))))=some ((words x).any λw=>!(okW w&&decide (val w<s))):=by
   show(if inOk .none ((words x).map (inD 0 ((s:Int) - 1)))then some (((words x).map (inD 0 ((s:Int) - 1))).any λy=>PyData.eqv y .none)else none)=_
   rw[ai (by
    unfold inOk
    have:PyData.canLayAll0 ((words x).map (inD 0 ((s:Int) - 1)))=true:=jq λd hd=>by
     obtain⟨w,_,rfl⟩:=List.mem_map.mp hd
     unfold inD
     split<;>simp[PyData.canLay0]
    rw[this]
    rfl),LH]
   congr 2
   funext w
   show PyData.eqv (inD 0 ((s:Int) - 1) w) .none=_
   unfold inD
   have e:(decide ((0:Int)<=(NumText.digitsVal w.cps.toList:Int))&&decide ((NumText.digitsVal w.cps.toList:Int)<=(s:Int) - 1))=decide (val w<s):=by
    rw[aw (by omega),wS]
    unfold val
    exact decide_eq_decide.mpr (by omega)
   rw[e]
   cases okW w&&decide (val w<s)<;>simp[PyData.eqv]
  rw[ni,oMS,bdR]
  cases hb:(words x).any λw=>!(okW w&&decide (val w<s))
  ·
   rw[IG]at hb
   have hg:∀w∈words x,okW w=true/\val w<s:=λw hw=>by
    have:=hb w hw
    rw[Bool.not_eq_true,Bool.not_eq_false',am,zzi]at this
    exact this
   have hbad:bad x=false:=by
    unfold bad
    rw[IG]
    intro w hw
    rw[(hg w hw).1];decide
   have ev:(words x).map (inD 0 ((s:Int) - 1))=(vals x).map iN:=by
    unfold vals
    rw[li]
    refine Ba λw hw=>?_
    obtain⟨h1,h2⟩:=hg w hw
    unfold inD
    rw[ai]
    ·rfl
    ·rw[h1,aw (by omega),wS,wS,zzi]
     unfold val at h2
     omega
   have hv:∀v∈vals x,v<s:=λv hv=>by
    obtain⟨w,hw,rfl⟩:=List.mem_map.mp hv
    exact(hg w hw).2
   have hvl:(vals x).length<=30000:=by unfold vals;rw[zzd];omega
   obtain⟨L,l1,l2,l3⟩:=FS (vals x) hvl (λa ha=>by have:=hv a ha;omega)
   have ne:kG (.list ((vals x).map iN)) (.list (L.map iN))=some (!decide (vals x=L)):=by
    have dp:∀l:List Nat,PyData.depthAll (l.map iN)<=1:=λl=>gI λd hd=>by
     obtain⟨x,_,rfl⟩:=List.mem_map.mp hd
     simp[iN,PyData.depth]
    refine(ai (by
     unfold eqOk
     have d1:=dp (vals x)
     have d2:(PyData.list ((vals x).map iN)).depth<=1000:=by
      simp only[PyData.depth]
      omega
     have d3:∀l:List Nat,(PyData.list (l.map iN)).canLay0=true:=λl=>by simp only[PyData.canLay0];exact lh l
     rw[d3,d3,aw d2];rfl)).trans ?_
    exact congrArg (λb=>some (!b)) (j6 (vals x) L)
   rw[ac (by decide),ev,l1,oMS,bdR,bdR,ne,oMS,bdR,hbad,ac (show ¬ (false=true) by decide)]
   have hup:upB s (-1) (vals x)=decide (vals x=L):=by
    rw[ue,upB_is,zzi]
    constructor
    ·exact λh=>(l3 h.1).symm
    ·exact λh=>⟨h▸l2,hv,λv _=>by omega⟩
   rw[hup]
   by_cases e:vals x=L
   ·rw[aw e,ac (show ¬ ((!true)=true) by decide),ai (show true=true from rfl)]
    dsimp only
    have cf:=lA (e:=iN) (g:=λa=>if decide (a∈B)=true then some (iN a)else none) (step:=λd12=>bd (oM (bO d12 (bf B))) λb13=>if b13 then .ret (some d12)else .ret none) (vals x) (λa _=>by
     rw[yS,oMS,bdR]
     cases decide (a∈B)<;>rfl)
    rw[eJ]at cf
    have nn:kG (.list (((vals x).filter λa=>decide (a∈B)).map iN)) (.list [])=some ((vals x).any λa=>decide (a∈B)):=by
     rw[Fs (lh _) (bj (gI λd hd=>by
      obtain⟨x,_,rfl⟩:=List.mem_map.mp hd
      show PyData.depth (iN x)<=1
      simp[iN,PyData.depth]) (by decide))]
     congr 1
     generalize vals x=l
     induction l with
     | nil=>rfl
     | cons a l ih =>
      rw[List.filter_cons,L5,<-ih]
      cases decide (a∈B)<;>simp
    rw[show d9 (PyData.list ((vals x).map iN))=some ((vals x).map iN)from rfl,oMS,bdR,cf,bdR,ja (by rw[zzd];have:=Mh (λa=>decide (a∈B)) (vals x);omega),bdR,bdR,nn,oMS,bdR]
    cases (vals x).any λa=>decide (a∈B)
    ·rw[ac (by decide),v7,oMS,bdR];rfl
    ·rfl
   ·rw[bi e,ai (show(!false)=true from rfl),ac (show ¬ (false=true) by decide)]
    rfl
  ·
   rw[ai rfl]
   show M.ret PyData.none=_
   congr 1
   cases hbad:bad x with
   | true=>rfl
   | false =>
    rw[ac (by decide)]
    rw[List.any_eq_true]at hb
    obtain⟨w,hw,hb⟩:=hb
    have hok:okW w=true:=by
     unfold bad at hbad
     rw[IG]at hbad
     have:=hbad w hw
     rw[Bool.not_eq_true,Bool.not_eq_false']at this
     exact this
    rw[hok,wS,ot,ic]at hb
    rw[ac]
    intro z
    exact hb ((upB_is.mp z).2.1 _ (List.mem_map.mpr ⟨w,hw,rfl⟩))
theorem bdX{T:Type}(e:Ex)(k:S->M T):bd (.exc e) k=.exc e:=id rfl
abbrev noT(p:Nat):Ex:=⟨"NoText",[("row",.int 0),("word",iN p)]⟩
abbrev stR(W:List Str)(pl ak:Nat):List D:=[.int 0,.list (W.map PyData.str),iN pl,iN ak]
theorem z5(W:List Str)(pl ak:Nat):cX ax (stR W pl ak) "number" = some (.int 0):=by kernel_rfl
theorem uX(W:List Str)(pl ak:Nat):cX ax (stR W pl ak) "words" = some (.list (W.map PyData.str)):=by kernel_rfl
theorem lb(W:List Str)(pl ak:Nat):cX ax (stR W pl ak) "place" = some (iN pl):=by kernel_rfl
theorem oO(W:List Str)(pl ak:Nat):cX ax (stR W pl ak) "asked" = some (iN ak):=by kernel_rfl
theorem nY(W:List Str)(pl ak n:Nat):kD ax (stR W pl ak) "place" (iN n)=stR W n ak:=by kernel_rfl
theorem Bn(W:List Str)(pl ak n:Nat):kD ax (stR W pl ak) "asked" (iN n)=stR W pl n:=by kernel_rfl
theorem EN(n:Nat):PyData.int ((n:Int)+1)=iN (n+1):=by
 show _=PyData.int (((n+1:Nat)):Int)
 congr 1
theorem mF(W:List Str)(pl ak:Nat)(k:Int->M S):vG (cX ax (stR W pl ak) "place") k=k pl:=by rw[lb];rfl
theorem Ar(W:List Str)(pl ak:Nat)(k:Int->M S):vG (cX ax (stR W pl ak) "asked") k=k ak:=by rw[oO];rfl
theorem cB(W:List Str)(pl ak:Nat):bD (stR W pl ak)=.exc (noT pl):=by
 unfold bD
 rw[z5,oMS,bdR,lb,oMS,bdR]
theorem j4(W:List Str)(pl ak:Nat):cR (stR W pl ak)=.ret (.bool (decide (pl<W.length)),stR W pl ak):=by
 unfold cR
 rw[lb,oMS,bdR,uX,oMS,bdR,L4.lenL,zzd,oMS,bdR,show iT (iN pl) (.int (W.length:Int))=some (decide (pl<W.length))from by
  show zU (.int (pl:Int)) (.int (W.length:Int))=_
  rw[L4.ltI]
  congr 1
  exact decide_eq_decide.mpr (by lia),oMS,bdR,bdR]
theorem qF{W:List Str}{pl ak:Nat}(h:W[pl]? = some w):bN (stR W pl ak)=.ret (.str w,stR W pl ak):=by
 obtain⟨hl,e⟩:=List.getElem?_eq_some_iff.mp h
 unfold bN
 rw[j4,bdR];dsimp only
 rw[L4.asB_b,bdR,aw hl,ac (by decide)]
 unfold dX
 rw[uX,oMS,bdR,lb,oMS,bdR,vf,show jz (.list (W.map PyData.str)) (iN pl)=_ from Fv PyData.str W pl hl,oMS,bdR,e]
theorem AC{W:List Str}{pl ak:Nat}(h:W[pl]? = none):bN (stR W pl ak)=.exc (noT pl):=by
 unfold bN
 rw[j4,bdR];dsimp only
 rw[L4.asB_b,bdR,bi (by rw[zi]at h;omega),ai (show(!false)=true from rfl),cB,bdX]
theorem finish_ok(W:List Str)(pl ak:Nat):fB (stR W pl ak)=if pl<W.length then .exc (noT pl)else .ret (.none,stR W pl ak):=by
 unfold fB
 rw[j4,bdR];dsimp only
 rw[L4.asB_b,bdR]
 by_cases h:pl<W.length
 ·rw[aw h,ai rfl,ai h,cB,bdX]
 ·rw[bi h,ac (by decide),ac h]
def nR(W:List Str)(lo hi:Int)(p:Nat):Option Nat:=match W[p]? with
 | none=>none
 | some w=>if okW w&&(decide (lo<=(val w:Int))&&decide ((val w:Int)<=hi))then some (val w)else none
def sR(W:List Str)(s k p:Nat)(B:List Nat):Option (List Nat):=match W[p]? with
 | none=>none
 | some w=>match srt s w with
  | none=>none
  | some A=>if decide (A.length<k)||A.any (λa=>decide (a∈B))then none else some A
def Ws(W:List Str):Prop:=∀w∈W,Wd w/\w.length<=19000
section
variable {W:List Str} (hW:Ws W)
include hW
theorem gm(pl ak:Nat)(lo hi:Int):aV (stR W pl ak) (.int lo) (.int hi) (.tuple [])=match nR W lo hi pl with
  | none=>.exc (noT pl)
  | some n=>.ret (iN n,stR W (pl+1) ak):=by
 unfold aV nR
 cases h:W[pl]? with
 | none=>rw[AC h,bdX]
 | some w =>
  obtain⟨wd,_⟩:=hW w (ii h)
  rw[qF h,bdR];dsimp only
  rw[qZ wd,bdR]
  unfold m7
  cases hk:okW w with
  | false =>
   rw[ac (by decide),show jB .none .none=some true from rfl,oMS,bdR,ai rfl,bdR,ai rfl,cB,bdX,yi,ac (by decide)]
  | true =>
   rw[ai rfl,show jB (iN (NumText.digitsVal w.cps.toList)) .none=some false from rfl,oMS,bdR,ac (by decide),leA,oMS,bdR,leA,oMS,L4.iteB,bdR,bdR,wS]
   show bd (if(!(decide (lo<=(val w:Int))&&decide ((val w:Int)<=hi)))=true then _ else _) _=_
   cases decide (lo<=(val w:Int))&&decide ((val w:Int)<=hi)
   ·rw[ai (show(!false)=true from rfl),bdR,ai rfl,cB,bdX,ac (by decide)]
   ·rw[ac (show ¬ ((!true)=true) by decide),show bO (iN (NumText.digitsVal w.cps.toList)) (.tuple [])=some false from rfl,oMS,bdR,ac (by decide),ai rfl]
    unfold cQ
    rw[mF,EN,nY]
    rfl
theorem fc(pl ak s k:Nat)(B:List Nat):aU (stR W pl ak) (iN s) (iN k) (bf B)=match sR W s k pl B with
  | none=>.exc (noT pl)
  | some A=>.ret (bf A,stR W (pl+1) ak):=by
 unfold aU sR
 cases h:W[pl]? with
 | none=>rw[AC h,bdX]
 | some w =>
  obtain⟨wd,wl⟩:=hW w (ii h)
  rw[qF h,bdR];dsimp only
  rw[Ca wd,oMS,bdR]
  have fin:∀A:List Nat,A.length<=30000->upB s (-1) A=true->(bd (bd (bd (bd (cu (iN s) (bf A)) λx4=>oM (kq x4)) λb5=>M.ret (!b5)) λb14=>if b14 then M.ret true else bd (bd (oM (ej [bf A])) λx6=>oM (iT x6 (iN k))) λb13=>if b13 then .ret true else bd (bd (bd (oM (d9 (bf A))) λl10=>bd (bg (λd7=>bd (bd (oM (bO d7 (bf B))) λb8=>M.ret (.bool b8)) λx9=>.ret (some x9)) l10) eO) λl11=>.ret (PyData.list l11)) λx12=>oM (vo [x12])) λb15=>if b15 then
    bd (bD (stR W pl ak)) λr16=>bc r16.2 (bf A)
    else
    bc (stR W pl ak) (bf A))=if decide (A.length<k)||A.any (λa=>decide (a∈B))then .exc (noT pl)else .ret (bf A,stR W (pl+1) ak):=λA hA hu=>by
   have lt:iT (iN A.length) (iN k)=some (decide (A.length<k)):=by
    show zU (.int _) (.int _)=_
    rw[L4.ltI]
    exact congrArg some (decide_eq_decide.mpr (by lia))
   have ll:ej [bf A]=some (iN A.length):=by
    show some (PyData.int ((A.map iN).length:Int))=_
    rw[zzd]
   have cm:=fH (e:=iN) (g:=λa=>PyData.bool (decide (a∈B))) (step:=λd7=>bd (bd (oM (bO d7 (bf B))) λb8=>M.ret (.bool b8)) λx9=>.ret (some x9)) A (λa _=>by rw[yS,oMS,bdR,bdR])
   have an:vo [.list (A.map λa=>PyData.bool (decide (a∈B)))]=some (A.any λa=>decide (a∈B)):=by
    have:=anyB (A.map λa=>decide (a∈B))
    rw[li]at this
    refine this.trans ?_
    rw[LH]
    rfl
   rw[mU,hu,bdR,xW,oMS,bdR,bdR,ac (show ¬ ((!true)=true) by decide),ll,oMS,bdR,lt,oMS,bdR]
   cases decide (A.length<k)
   ·rw[ac (by decide),show d9 (bf A)=some (A.map iN)from rfl,oMS,bdR,cm,bdR,ja (by rw[zzd];omega),bdR,bdR,an,oMS,bdR,Bool.false_or]
    cases A.any λa=>decide (a∈B)
    ·rw[ac (by decide),ac (by decide)]
     unfold bc
     rw[mF,EN,nY]
    ·rw[ai rfl,ai rfl,cB,bdX]
   ·rw[ai rfl,bdR,ai rfl,ai (by rfl),cB,bdX]
  have finN:(bd (bd (bd (bd (cu (iN s) .none) λx4=>oM (kq x4)) λb5=>M.ret (!b5)) λb14=>if b14 then M.ret true else bd (bd (oM (ej [.none])) λx6=>oM (iT x6 (iN k))) λb13=>if b13 then .ret true else bd (bd (bd (oM (d9 .none)) λl10=>bd (bg (λd7=>bd (bd (oM (bO d7 (bf B))) λb8=>M.ret (.bool b8)) λx9=>.ret (some x9)) l10) eO) λl11=>.ret (PyData.list l11)) λx12=>oM (vo [x12])) λb15=>if b15 then
    bd (bD (stR W pl ak)) λr16=>bc r16.2 .none
    else
    bc (stR W pl ak) .none)=.exc (noT pl):=by
   rw[qB,bdR,xW,oMS,bdR,bdR,ai (show(!false)=true from rfl),bdR,ai rfl,cB,bdX]
  have finB:∀A:List Nat,upB s (-1) A=false->(bd (bd (bd (bd (cu (iN s) (bf A)) λx4=>oM (kq x4)) λb5=>M.ret (!b5)) λb14=>if b14 then M.ret true else bd (bd (oM (ej [bf A])) λx6=>oM (iT x6 (iN k))) λb13=>if b13 then .ret true else bd (bd (bd (oM (d9 (bf A))) λl10=>bd (bg (λd7=>bd (bd (oM (bO d7 (bf B))) λb8=>M.ret (.bool b8)) λx9=>.ret (some x9)) l10) eO) λl11=>.ret (PyData.list l11)) λx12=>oM (vo [x12])) λb15=>if b15 then
    bd (bD (stR W pl ak)) λr16=>bc r16.2 (bf A)
    else
    bc (stR W pl ak) (bf A))=.exc (noT pl):=λA hu=>by
   rw[mU,hu,bdR,xW,oMS,bdR,bdR,ai (show(!false)=true from rfl),bdR,ai rfl,cB,bdX]
  unfold srt
  by_cases hd:w=Str.ofString "-"
  ·rw[aw hd,ai rfl,bdR,ai hd]
   refine(fin [] (by simp) rfl).trans ?_
   dsimp only
   cases decide (([]:List Nat).length<k)||([]:List Nat).any (λa=>decide (a∈B))<;>rfl
  ·rw[bi hd,ac (by decide),ac hd,sY wd wl,bdR]
   cases hb:bad w with
   | true=>exact finN
   | false =>
    rw[ac (by decide),ac (by decide),zW hb]
    have hvl:(vals w).length<=30000:=by unfold vals;rw[zzd];have:=jk (x:=w);omega
    cases hu:upB s (-1) (vals w)with
    | false=>exact finB _ hu
    | true =>
     refine(fin (vals w) hvl hu).trans ?_
     rw[ai rfl]
     dsimp only
     cases decide ((vals w).length<k)||(vals w).any (λa=>decide (a∈B))<;>rfl
end
abbrev six:List Str:=["least", "more", "rest", "both", "either", "not"]
theorem yT(xs:List Str)(hx:∀x∈xs,PyData.strOk x=true)(hw:Wd w):inOk (.str w) (xs.map PyData.str)=true/\((xs.map PyData.str).any λz=>PyData.eqv z (.str w))=decide (w∈xs):=by
 refine⟨?_,?_⟩
 ·unfold inOk
  have:PyData.canLayAll0 (xs.map PyData.str)=true:=jq λd hd=>by
   obtain⟨x,h,rfl⟩:=List.mem_map.mp hd
   have:=hx x h
   simp[PyData.canLay0,this]
  rw[this,(lg hw.ok).1]
  simp[PyData.depth]
 ·rw[LH,ue,List.any_eq_true,zzi]
  constructor
  ·rintro⟨x,hx,e⟩
   have:(x==w)=true:=e
   rw[um]at this
   exact this▸hx
  ·exact λh=>⟨w,h,show(w==w)=true from Lv _⟩
theorem uj{W:List Str}(hW:Ws W)(pl ak:Nat):dC (stR W pl ak) (fnD "QUESTION_WORDS")=match W[pl]? with
  | none=>.exc (noT pl)
  | some w=>if w∈six then .ret (.str w,stR W (pl+1) ak)else .exc (noT pl):=by
 unfold dC
 cases h:W[pl]? with
 | none=>rw[AC h,bdX]
 | some w =>
  obtain⟨wd,_⟩:=hW w (ii h)
  rw[qF h,bdR];dsimp only
  have e:iS "QUESTION_WORDS" ["least", "more", "rest", "both", "either", "not"] (.str w) (fnD "QUESTION_WORDS")=some (!decide (w∈six)):=by
   obtain⟨h1,h2⟩:=yT six (λx hx=>by
    simp only[six,fe,fi,se]at hx
    rcases hx with rfl|rfl|rfl|rfl|rfl|rfl<;>exact aT _) wd
   unfold iS
   rw[h1,h2,show fnQ (fnD "QUESTION_WORDS") "QUESTION_WORDS" = true from by decide +kernel]
   rfl
  rw[e,oMS,bdR]
  by_cases hw:w∈six
  ·rw[aw hw,ac (by decide),ai hw]
   unfold dI
   rw[mF,EN,nY]
  ·rw[bi hw,ai (show(!false)=true from rfl),ac hw,cB,bdX]
inductive Rd(α:Type) where
 | no (p:Nat)
 | ok (x:α)
def Rd.bind{α β:Type}(r:Rd α)(k:α->Rd β):Rd β:=match r with
 | .no p=>.no p
 | .ok x=>k x
def iO{α:Type}(o:Option α)(p:Nat):Rd α:=match o with
 | none=>.no p
 | some x=>.ok x
def jS(W:List Str)(s p:Nat):Rd (D×Nat):=(iO (sR W s 0 (p+1) []) (p+1)).bind λA=>(iO (sR W s 0 (p+2) A) (p+2)).bind λB=>.ok (.tuple [.str "more",bf A,bf B],p+3)
def gV(W:List Str)(s p:Nat):Rd (D×Nat):=(iO (sR W s 1 (p+1) []) (p+1)).bind λA=>(iO (nR W 1 9 (p+2)) (p+2)).bind λn=>.ok (.tuple [.str "least",bf A,iN n],p+3)
def jR(W:List Str)(s p:Nat):Rd (D×Nat):=(iO (sR W s 1 (p+1) []) (p+1)).bind λA=>(iO (nR W 2 9 (p+2)) (p+2)).bind λb=>(iO (nR W 0 ((b:Int) - 1) (p+3)) (p+3)).bind λn=>.ok (.tuple [.str "rest",bf A,iN b,iN n],p+4)
def one(m:Nat)(r:Rd (D×Nat)):Rd (D×Nat×Nat):=r.bind λx=>.ok (x.1,x.2,m)
def rd(W:List Str)(s:Nat):Nat->Nat->Nat->Rd (D×Nat×Nat)
 | 0,p,_=>.no p
 | d+1,p,m=>match W[p]? with
  | none=>.no p
  | some w=>if m=7 then .no p
   else if w=Str.ofString "more" then one (m+1) (jS W s p)
   else if w=Str.ofString "least" then one (m+1) (gV W s p)
   else if w=Str.ofString "rest" then one (m+1) (jR W s p)
   else if w=Str.ofString "not" then(rd W s d (p+1) (m+1)).bind λx=>.ok (.tuple [.str w,x.1],x.2)
   else if w=Str.ofString "both" \/ w=Str.ofString "either" then(rd W s d (p+1) (m+1)).bind λx=>(rd W s d x.2.1 x.2.2).bind λy=>.ok (.tuple [.str w,x.1,y.1],y.2)
   else .no p
def asP(W:List Str)(r:Rd (D×Nat×Nat)):M (D×List D):=match r with
 | .no p=>.exc (noT p)
 | .ok x=>.ret (x.1,stR W x.2.1 x.2.2)
theorem yh:bZ [.int 1]=some [iN 0]:=id rfl
theorem nr:bZ [.int 2]=some [iN 0,iN 1]:=id rfl
theorem HD(l:List D)(d:D)(h:l.length<=10):BI l [d]=some (l++[d]):=HC _ _ (by lia)
section
variable {W:List Str} (hW:Ws W) {s:Nat}
include hW
theorem DU(p m:Nat):(bd (aU (stR W (p+1) m) (iN s) (.int 0) (.tuple [])) λr18=>bd (aU r18.2 (iN s) (.int 0) r18.1) λr19=>M.ret ((PyData.tuple [.str "more",r18.1,r19.1]),r19.2))=asP W (one m (jS W s p)):=by
 have t1:=fc hW (p+1) m s 0 []
 unfold jS
 rw[show(PyData.tuple [])=bf []from rfl,show PyData.int 0=iN 0 from rfl,t1]
 cases h:sR W s 0 (p+1) []with
 | none=>rfl
 | some A =>
  dsimp only
  rw[bdR]
  have t2:=fc hW (p+2) m s 0 A
  show bd (aU (stR W (p+2) m) (iN s) (iN 0) (bf A)) _=asP W (one m ((iO (sR W s 0 (p+2) A) (p+2)).bind _))
  rw[t2]
  cases sR W s 0 (p+2) A with
  | none=>rfl
  | some B=>rfl
theorem BO(p m:Nat):(bd (aU (stR W (p+1) m) (iN s) (.int 1) (.tuple [])) λr20=>bd (aV r20.2 (.int 1) (.int 9) (.tuple [])) λr22=>M.ret ((PyData.tuple [.str "least",r20.1,r22.1]),r22.2))=asP W (one m (gV W s p)):=by
 have t1:=fc hW (p+1) m s 1 []
 unfold gV
 rw[show aU (stR W (p+1) m) (iN s) (.int 1) (.tuple [])=_ from t1]
 cases h:sR W s 1 (p+1) []with
 | none=>rfl
 | some A =>
  dsimp only
  rw[bdR]
  show bd (aV (stR W (p+2) m) (.int 1) (.int 9) (.tuple [])) _=asP W (one m ((iO (nR W 1 9 (p+2)) (p+2)).bind _))
  rw[gm hW]
  cases nR W 1 9 (p+2)with
  | none=>rfl
  | some n=>rfl
theorem Dq(p m:Nat):(bd (aU (stR W (p+1) m) (iN s) (.int 1) (.tuple [])) λr20=>bd (aV r20.2 (.int 2) (.int 9) (.tuple [])) λr23=>bd (oM (cy r23.1 (.int 1))) λx24=>bd (aV r23.2 (.int 0) x24 (.tuple [])) λr25=>M.ret ((PyData.tuple [.str "rest",r20.1,r23.1,r25.1]),r25.2))=asP W (one m (jR W s p)):=by
 have t1:=fc hW (p+1) m s 1 []
 unfold jR
 rw[show aU (stR W (p+1) m) (iN s) (.int 1) (.tuple [])=_ from t1]
 cases h:sR W s 1 (p+1) []with
 | none=>rfl
 | some A =>
  dsimp only
  rw[bdR]
  show bd (aV (stR W (p+2) m) (.int 2) (.int 9) (.tuple [])) _=asP W (one m ((iO (nR W 2 9 (p+2)) (p+2)).bind _))
  rw[gm hW]
  cases nR W 2 9 (p+2)with
  | none=>rfl
  | some b =>
   dsimp only
   rw[bdR]
   dsimp only
   rw[show cy (iN b) (.int 1)=some (.int ((b:Int) - 1))from rfl,oMS,bdR]
   show bd (aV (stR W (p+3) m) (.int 0) (.int ((b:Int) - 1)) (.tuple [])) _=asP W (one m ((iO (nR W 0 ((b:Int) - 1) (p+3)) (p+3)).bind _))
   rw[gm hW]
   cases nR W 0 ((b:Int) - 1) (p+3)with
   | none=>rfl
   | some n=>rfl
theorem AF{d i:Nat}(ih:∀p m:Nat,d<=4->d<i->bt i (stR W p m) (iN s) (.int (4 - (d:Int)))=asP W (rd W s d p m)){wi:D}(z1:aJ wi (.int 1)=some (.int (4 - (d:Int))))(p m:Nat)(h4:d<=4)(hi:d<i)(w:Str) :
  bX (bt i) (stR W p m) (iN s) wi [.str w] (iN 0) (λs'=>cp (λ(s15:List D×D×D×List D×Unit) d16 kn=>bX (bt i) s15.1 s15.2.1 s15.2.2.1 s15.2.2.2.1 d16 kn) [iN 1] s' (λs15=>cF (bt i) s15.1 s15.2.1 s15.2.2.1 s15.2.2.2.1))=asP W ((rd W s d p m).bind λx=>(rd W s d x.2.1 x.2.2).bind λy=>.ok (.tuple [.str w,x.1,y.1],y.2)):=by
 unfold bX
 rw[z1,oMS,bdR,ih p m h4 hi]
 cases rd W s d p m with
 | no q=>rfl
 | ok x =>
  show bd (M.ret (x.1,stR W x.2.1 x.2.2)) _=_
  rw[bdR]
  dsimp only
  rw[HD _ _ (by simp),oMS,bdR,cp]
  dsimp only
  rw[z1,oMS,bdR,ih x.2.1 x.2.2 h4 hi]
  show _=asP W ((rd W s d x.2.1 x.2.2).bind _)
  cases rd W s d x.2.1 x.2.2 with
  | no q=>rfl
  | ok y =>
   show bd (M.ret (y.1,stR W y.2.1 y.2.2)) _=_
   rw[bdR]
   dsimp only
   rw[HD _ _ (by simp),oMS,bdR,cp]
   unfold cF
   dsimp only
   rw[v7,oMS,bdR]
   rfl
set_option maxHeartbeats 1000000 in
theorem xX:∀(d i p m:Nat),d<=4->d<i->bt i (stR W p m) (iN s) (.int (4 - (d:Int)))=asP W (rd W s d p m)
 | 0,i+1,p,m,_,_=>by
  show cq _ _ _ _=_
  unfold cq
  rw[oO,oMS,bdR,show aW (iN m) (.int 7)=some (decide (m=7))from(L4.eqI _ _).trans (congrArg some (Bool.eq_iff_iff.mpr (by simp;omega))),oMS,bdR,show aW (PyData.int (4 - ((0:Nat):Int))) (.int 4)=some true from rfl,oMS]
  have e:(if decide (m=7)=true then M.ret true else M.ret true)=M.ret true:=by split<;>rfl
  rw[e,bdR,ai rfl,cB,bdX]
  rfl
 | d+1,i+1,p,m,h4,hi=>by
  show cq (bt i) _ _ _=_
  unfold cq
  rw[oO,oMS,bdR,show aW (iN m) (.int 7)=some (decide (m=7))from(L4.eqI _ _).trans (congrArg some (Bool.eq_iff_iff.mpr (by simp;omega))),oMS,bdR,show aW (PyData.int (4 - ((d+1:Nat):Int))) (.int 4)=some false from(L4.eqI _ _).trans (congrArg some (by simp;omega)),oMS]
  unfold rd
  by_cases hm:m=7
  ·rw[aw hm,ai rfl,bdR,ai rfl,cB,bdX]
   cases W[p]? with
   | none=>rfl
   | some w=>dsimp only;rw[ai hm];rfl
  ·rw[bi hm,ac (by decide),bdR,ac (by decide)]
   unfold dH
   rw[Ar,EN,Bn,uj hW]
   cases h:W[p]? with
   | none=>rfl
   | some w =>
    dsimp only
    rw[ac hm]
    by_cases h6:w∈six
    ·rw[ai h6,bdR]
     dsimp only
     have ih:=xX d i
     have z1:aJ (PyData.int (4 - ((d+1:Nat):Int))) (.int 1)=some (.int (4 - (d:Int))):=by
      rw[L4.addI]
      congr 2
      omega
     simp only[six,fe,fi,se]at h6
     rcases h6 with rfl|rfl|rfl|rfl|rfl|rfl
     ·rw[show cO (.str "least")=.ret (.int 0)from by kernel_rfl,bdR,show kH (.int 0) (.int 0)=some false from rfl,oMS,bdR,ac (by decide),show aW (.str "least") (.str "more")=some false from by kernel_rfl,oMS,bdR,ac (by decide),ac (by decide +kernel),ai rfl]
      refine Eq.trans ?_ (BO hW p (m+1))
      congr 1
      funext r20
      rw[show aW (.str "least") (.str "least")=some true from by kernel_rfl,oMS,bdR,ai rfl]
     ·rw[show cO (.str "more")=.ret (.int 0)from by kernel_rfl,bdR,show kH (.int 0) (.int 0)=some false from rfl,oMS,bdR,ac (by decide),show aW (.str "more") (.str "more")=some true from by kernel_rfl,oMS,bdR,ai rfl,ai rfl]
      exact DU hW p (m+1)
     ·rw[show cO (.str "rest")=.ret (.int 0)from by kernel_rfl,bdR,show kH (.int 0) (.int 0)=some false from rfl,oMS,bdR,ac (by decide),show aW (.str "rest") (.str "more")=some false from by kernel_rfl,oMS,bdR,ac (by decide),ac (by decide +kernel),ac (by decide +kernel),ai rfl]
      refine Eq.trans ?_ (Dq hW p (m+1))
      congr 1
      funext r20
      rw[show aW (.str "rest") (.str "least")=some false from by kernel_rfl,oMS,bdR,ac (by decide)]
     ·rw[ac (by decide +kernel),ac (by decide +kernel),ac (by decide +kernel),ac (by decide +kernel),ai (.inl rfl)]
      rw[show cO (.str "both")=.ret (.int 2)from by kernel_rfl,bdR,show kH (.int 2) (.int 0)=some true from rfl,oMS,bdR,ai rfl,nr,oMS,bdR,cV,cp]
      exact AF hW ih z1 (p+1) (m+1) (by omega) (by omega) "both"
     ·rw[ac (by decide +kernel),ac (by decide +kernel),ac (by decide +kernel),ac (by decide +kernel),ai (.inr rfl)]
      rw[show cO (.str "either")=.ret (.int 2)from by kernel_rfl,bdR,show kH (.int 2) (.int 0)=some true from rfl,oMS,bdR,ai rfl,nr,oMS,bdR,cV,cp]
      exact AF hW ih z1 (p+1) (m+1) (by omega) (by omega) "either"
     ·rw[ac (by decide +kernel),ac (by decide +kernel),ac (by decide +kernel),ai rfl]
      rw[show cO (.str "not")=.ret (.int 1)from by kernel_rfl,bdR,show kH (.int 1) (.int 0)=some true from rfl,oMS,bdR,ai rfl,yh,oMS,bdR,cV,cp]
      unfold bX
      rw[z1,oMS,bdR,ih (p+1) (m+1) (by omega) (by omega)]
      cases rd W s d (p+1) (m+1)with
      | no q=>rfl
      | ok x =>
       unfold asP
       dsimp only
       rw[bdR]
       dsimp only
       rw[HD _ _ (by simp),oMS,bdR,cp]
       unfold cF
       rw[v7,oMS,bdR]
       rfl
    ·rw[ac h6,bdX]
     simp only[six,fe,fi,se,not_or]at h6
     obtain⟨a,b,c,e,f,g⟩:=h6
     rw[ac b,ac a,ac c,ac g,ac (λz=>z.elim e f)]
     rfl
end
def asL(r:Rd (D×Nat×Nat)):M D:=match r with
 | .no p=>.ret (.tuple [.bool false,iN p])
 | .ok x=>.ret (.tuple [.bool true,x.1,iN x.2.1,iN x.2.2])
abbrev lW(W:List Str):D:=.list (W.map PyData.str)
theorem gK(a b:Nat):aJ (iN a) (iN b)=some (iN (a+b)):=by
 rw[L4.addI]
 congr 2
theorem pJ(a b:Nat):aW (iN a) (iN b)=some (decide (a=b)):=(L4.eqI _ _).trans (congrArg some (Bool.eq_iff_iff.mpr (by simp;omega)))
theorem z6(W:List Str):ej [lW W]=some (iN W.length):=by rw[L4.lenL,zzd]
theorem ixW{W:List Str}(h:W[p]? = some w):aS (lW W) (iN p)=some (.str w):=by
 obtain⟨hl,e⟩:=List.getElem?_eq_some_iff.mp h
 rw[vf,show jz (lW W) (iN p)=_ from Fv PyData.str W p hl,e]
theorem JI(A:List Nat):aW (bf A) (.tuple [])=some A.isEmpty:=by
 have e:=L4.eqT A []
 rw[show cT A=bf A from rfl,show cT []=PyData.tuple []from rfl]at e
 rw[e]
 cases A<;>rfl
theorem FH(ps:List D)(d:D)(h:ps.length<=10):aJ (.tuple ps) (.tuple [d])=some (.tuple (ps++[d])):=ai (bj (show ps.length+1<=1000 by omega) (by decide))
section
variable {W:List Str} (hW:Ws W) {s:Nat}
section
variable {m k:Nat} {word:Str} {ps:List D} {wt:D} {kn8:D×D×D×D×D×D×D×Unit->M D}
theorem nB:aN kn8 (lW W) (iN p) (iN s) (iN m) (.str word) (.tuple ps) wt (iN k) .none=.ret (.tuple [.bool false,iN (p+k)]):=by
 unfold aN
 rw[show jB .none .none=some true from rfl,oMS,bdR,ai rfl,gK,oMS,bdR,bdR]
theorem yM{d:D}(hd:jB d .none=some false)(hl:ps.length<=10):aN kn8 (lW W) (iN p) (iN s) (iN m) (.str word) (.tuple ps) wt (iN k) d=kn8 (lW W,iN p,iN s,iN m,.str word,.tuple (ps++[d]),wt,()):=by
 unfold aN
 rw[hd,oMS,bdR,ac (by decide),FH _ _ hl,oMS,bdR]
theorem E2(h:p+k=W.length):br (lW W) (iN p) (iN s) (iN m) (.str word) (.tuple ps) wt (iN k) kn8=.ret (.tuple [.bool false,iN (p+k)]):=by
 unfold br
 rw[gK,oMS,bdR,z6,oMS,bdR,pJ,oMS,bdR,aw h,ai rfl,bdR,bdR]
include hW
theorem kA(hs1:1<=s)(hs:s<=4)(hk:p+k<=W.length)(hc:(bd (oM (aW (iN k) (.int 1))) λb16=>if b16 then M.ret true else oM (aW (.str word) (.str "more")))=.ret true)
  (ho:(bd (oM (aW (iN k) (.int 2))) λb18=>if b18 then oM (aS (.tuple ps) (.int 1))else M.ret (.tuple []))=.ret (bf B)) (hf:kG (.str word) (.str "more")=some (decide (few=1))) (hf1:few<=1) (hl:ps.length<=10) :
  br (lW W) (iN p) (iN s) (iN m) (.str word) (.tuple ps) wt (iN k) kn8=match sR W s few (p+k) B with
   | none=>.ret (.tuple [.bool false,iN (p+k)])
   | some A=>kn8 (lW W,iN p,iN s,iN m,.str word,.tuple (ps++[bf A]),wt,()):=by
 unfold sR
 cases h:W[p+k]? with
 | none=>exact E2 (by rw[zi]at h;omega)
 | some w =>
  have hlt:=(List.getElem?_eq_some_iff.mp h).1
  obtain⟨wd,wl⟩:=hW w (ii h)
  unfold br
  rw[gK,oMS,bdR,z6,oMS,bdR,pJ,oMS,bdR,bi (by omega),ac (by decide),bdR,ixW h,oMS,bdR,hc,bdR,ai rfl,ho,bdR,u6 wd wl hs1 hs,bdR]
  unfold wj
  dsimp only
  cases srt s w with
  | none =>
   dsimp only
   rw[show aW .none (.tuple [])=some false from by kernel_rfl,oMS,bdR,ac (by decide),bdR,ac (by decide),bdR,nB]
  | some A =>
   dsimp only
   cases hany:A.any λa=>decide (a∈B)with
   | true =>
    rw[ai rfl,Bool.or_true,ai rfl,show aW .none (.tuple [])=some false from by kernel_rfl,oMS,bdR,ac (by decide),bdR,ac (by decide),bdR,nB]
   | false =>
    rw[ac (by decide),Bool.or_false,JI,oMS,bdR,hf,oMS]
    have fin:aN kn8 (lW W) (iN p) (iN s) (iN m) (.str word) (.tuple ps) wt (iN k) (bf A)=kn8 (lW W,iN p,iN s,iN m,.str word,.tuple (ps++[bf A]),wt,()):=yM rfl hl
    cases A with
    | nil =>
     rw[ai (show([]:List Nat).isEmpty=true from rfl),bdR]
     rcases(by omega:few=0\/few=1)with rfl|rfl
     ·rw[ac (by decide),bdR,fin,ac (by decide)]
     ·rw[ai (by decide),bdR,nB,ai (by decide)]
    | cons a A =>
     rw[show(List.isEmpty (a::A))=false from rfl,ac (by decide),bdR,ac (by decide),bdR,fin,ac (by rw[zzi,ci];omega)]
theorem ww{lo:Int}(hk:p+k<=W.length)(hc:(bd (oM (aW (iN k) (.int 1))) λb16=>if b16 then M.ret true else oM (aW (.str word) (.str "more")))=.ret false)
  (hn:∀w:Str,(bd (oM (aW (.str word) (.str "least"))) λb28=>if b28 then
   bd (bv (.str w) (.int 1) (.int 9)) λx29=>aN kn8 (lW W) (iN p) (iN s) (iN m) (.str word) (.tuple ps) wt (iN k) x29
   else
   bd (bd (oM (aW (iN k) (.int 2))) λb32=>if b32 then bv (.str w) (.int 2) (.int 9)else bd (bd (oM (aS (.tuple ps) (.int 2))) λx30=>oM (cy x30 (.int 1))) λx31=>bv (.str w) (.int 0) x31) λx33=>aN kn8 (lW W) (iN p) (iN s) (iN m) (.str word) (.tuple ps) wt (iN k) x33)=bd (bv (.str w) (.int lo) (.int hi)) λx=>aN kn8 (lW W) (iN p) (iN s) (iN m) (.str word) (.tuple ps) wt (iN k) x) (hl:ps.length<=10) :
  br (lW W) (iN p) (iN s) (iN m) (.str word) (.tuple ps) wt (iN k) kn8=match nR W lo hi (p+k)with
   | none=>.ret (.tuple [.bool false,iN (p+k)])
   | some n=>kn8 (lW W,iN p,iN s,iN m,.str word,.tuple (ps++[iN n]),wt,()):=by
 unfold nR
 cases h:W[p+k]? with
 | none=>exact E2 (by rw[zi]at h;omega)
 | some w =>
  have hlt:=(List.getElem?_eq_some_iff.mp h).1
  obtain⟨wd,wl⟩:=hW w (ii h)
  unfold br
  rw[gK,oMS,bdR,z6,oMS,bdR,pJ,oMS,bdR,bi (by omega),ac (by decide),bdR,ixW h,oMS,bdR,hc,bdR,ac (by decide)]
  refine(hn w).trans ?_
  rw[lq wd,bdR]
  show aN kn8 (lW W) (iN p) (iN s) (iN m) (.str word) (.tuple ps) wt (iN k) (if okW w&&(decide (lo<=(val w:Int))&&decide ((val w:Int)<=hi))then iN (val w)else .none)=_
  dsimp only
  cases okW w&&(decide (lo<=(val w:Int))&&decide ((val w:Int)<=hi))
  ·rw[ac (by decide),ac (by decide),nB]
  ·rw[ai rfl,ai rfl,yM rfl hl]
end
theorem mK{s:Nat}(h:sR W s few q B=some A):q<W.length:=by
 unfold sR at h
 cases e:W[q]? with
 | none=>rw[e]at h;cases h
 | some w=>exact(List.getElem?_eq_some_iff.mp e).1
theorem q9{lo:Int}(h:nR W lo hi q=some n):q<W.length:=by
 unfold nR at h
 cases e:W[q]? with
 | none=>rw[e]at h;cases h
 | some w=>exact(List.getElem?_eq_some_iff.mp e).1
include hW
variable (hs1:1<=s) (hs:s<=4)
include hs1 hs
theorem Bj{m:Nat}{word:Str}{q:D}:cP (lW W) (iN p) (iN s) (iN m) (.str word) q (iN n)=.ret (.tuple [.bool true,q,iN (p+n+1),iN m]):=by
 unfold cP
 rw[gK,oMS,bdR,show aJ (iN (p+n)) (.int 1)=_ from gK (p+n) 1,oMS,bdR,bdR]
theorem D3(m:Nat)(h:W[p]? = some (Str.ofString "more")):bB (lW W) (iN p) (iN s) (iN m)=asL (one m (jS W s p)):=by
 have hp:=(List.getElem?_eq_some_iff.mp h).1
 unfold bB
 rw[ixW h,oMS,bdR,show aS (.dict [(.str "least",.int 2),(.str "more",.int 2),(.str "rest",.int 3)]) (.str "more")=some (iN 2)from by kernel_rfl,oMS,bdR,show aJ (iN 2) (.int 1)=some (.int 3)from rfl,oMS,bdR,show hU [.int 1,.int 3]=some [iN 1,iN 2]from by kernel_rfl,oMS,bdR,cV,cp]
 dsimp only
 rw[kA hW hs1 hs (B:=[]) (few:=0) (by omega) rfl rfl (by kernel_rfl) (by omega) (by simp)]
 unfold jS
 cases e:sR W s 0 (p+1) []with
 | none=>rfl
 | some A =>
  have:=mK e
  dsimp only
  rw[cp]
  dsimp only
  rw[kA hW hs1 hs (B:=A) (few:=0) (by omega) (by kernel_rfl) rfl (by kernel_rfl) (by omega) (by simp)]
  show _=asL (one m ((iO (sR W s 0 (p+2) A) (p+2)).bind _))
  cases e2:sR W s 0 (p+2) A with
  | none=>rfl
  | some B =>
   dsimp only
   rw[cp,Bj hW hs1 hs]
   rfl
theorem BS(m:Nat)(h:W[p]? = some (Str.ofString "least")):bB (lW W) (iN p) (iN s) (iN m)=asL (one m (gV W s p)):=by
 have hp:=(List.getElem?_eq_some_iff.mp h).1
 unfold bB
 rw[ixW h,oMS,bdR,show aS (.dict [(.str "least",.int 2),(.str "more",.int 2),(.str "rest",.int 3)]) (.str "least")=some (iN 2)from by kernel_rfl,oMS,bdR,show aJ (iN 2) (.int 1)=some (.int 3)from rfl,oMS,bdR,show hU [.int 1,.int 3]=some [iN 1,iN 2]from by kernel_rfl,oMS,bdR,cV,cp]
 dsimp only
 rw[kA hW hs1 hs (B:=[]) (few:=1) (by omega) rfl rfl (by kernel_rfl) (by omega) (by simp)]
 unfold gV
 cases e:sR W s 1 (p+1) []with
 | none=>rfl
 | some A =>
  have:=mK e
  dsimp only
  rw[cp]
  dsimp only
  rw[ww hW (lo:=1) (hi:=9) (by omega) (by kernel_rfl) (λw=>by rw[show aW (.str "least") (.str "least")=some true from by kernel_rfl,oMS,bdR,ai rfl]) (by simp)]
  show _=asL (one m ((iO (nR W 1 9 (p+2)) (p+2)).bind _))
  cases e2:nR W 1 9 (p+2)with
  | none=>rfl
  | some n =>
   dsimp only
   rw[cp,Bj hW hs1 hs]
   rfl
theorem D2(m:Nat)(h:W[p]? = some (Str.ofString "rest")):bB (lW W) (iN p) (iN s) (iN m)=asL (one m (jR W s p)):=by
 have hp:=(List.getElem?_eq_some_iff.mp h).1
 unfold bB
 rw[ixW h,oMS,bdR,show aS (.dict [(.str "least",.int 2),(.str "more",.int 2),(.str "rest",.int 3)]) (.str "rest")=some (iN 3)from by kernel_rfl,oMS,bdR,show aJ (iN 3) (.int 1)=some (.int 4)from rfl,oMS,bdR,show hU [.int 1,.int 4]=some [iN 1,iN 2,iN 3]from by kernel_rfl,oMS,bdR,cV,cp]
 dsimp only
 rw[kA hW hs1 hs (B:=[]) (few:=1) (by omega) rfl rfl (by kernel_rfl) (by omega) (by simp)]
 unfold jR
 cases e:sR W s 1 (p+1) []with
 | none=>rfl
 | some A =>
  have:=mK e
  dsimp only
  rw[cp]
  dsimp only
  rw[ww hW (lo:=2) (hi:=9) (by omega) (by kernel_rfl) (λw=>by rw[show aW (.str "rest") (.str "least")=some false from by kernel_rfl,oMS,bdR,ac (by decide),show aW (iN 2) (.int 2)=some true from rfl,oMS,bdR,ai rfl]) (by simp)]
  show _=asL (one m ((iO (nR W 2 9 (p+2)) (p+2)).bind _))
  cases e2:nR W 2 9 (p+2)with
  | none=>rfl
  | some b =>
   have:=q9 e2
   dsimp only
   rw[cp]
   dsimp only
   rw[ww hW (lo:=0) (hi:=(b:Int) - 1) (by omega) (by kernel_rfl) (λw=>by rw[show aW (.str "rest") (.str "least")=some false from by kernel_rfl,oMS,bdR,ac (by decide),show aW (iN 3) (.int 2)=some false from rfl,oMS,bdR,ac (by decide),show aS (PyData.tuple ([PyData.str (Str.ofString "rest")]++[bf A]++[iN b])) (.int 2)=some (iN b)from rfl,oMS,bdR,show cy (iN b) (.int 1)=some (.int ((b:Int) - 1))from rfl,oMS,bdR]) (by simp)]
   show _=asL (one m ((iO (nR W 0 ((b:Int) - 1) (p+3)) (p+3)).bind _))
   cases e3:nR W 0 ((b:Int) - 1) (p+3)with
   | none=>rfl
   | some n =>
    dsimp only
    rw[cp,Bj hW hs1 hs]
    rfl
end
theorem Rd.bind_ok{α β:Type}{r:Rd α}{k:α->Rd β}{y:β}(h:r.bind k=.ok y):∃x,r=.ok x/\k x=.ok y:=by
 cases r with
 | no p=>cases h
 | ok x=>exact⟨x,rfl,h⟩
theorem dQ{α:Type}{o:Option α}{x:α}(h:iO o p=.ok x):o=some x:=by
 cases o with
 | none=>cases h
 | some y=>injection h with h;rw[h]
section
variable {W:List Str} {s:Nat}
theorem yF{x:D×Nat}(h:jS W s p=.ok x):∃A B,sR W s 0 (p+1) []=some A/\sR W s 0 (p+2) A=some B/\x=(.tuple [.str "more",bf A,bf B],p+3):=by
 obtain⟨A,h1,h⟩:=Rd.bind_ok h
 obtain⟨B,h2,h⟩:=Rd.bind_ok h
 injection h with h
 exact⟨A,B,dQ h1,dQ h2,h.symm⟩
theorem uZ{x:D×Nat}(h:gV W s p=.ok x):∃A n,sR W s 1 (p+1) []=some A/\nR W 1 9 (p+2)=some n/\x=(.tuple [.str "least",bf A,iN n],p+3):=by
 obtain⟨A,h1,h⟩:=Rd.bind_ok h
 obtain⟨B,h2,h⟩:=Rd.bind_ok h
 injection h with h
 exact⟨A,B,dQ h1,dQ h2,h.symm⟩
theorem yb{x:D×Nat}(h:jR W s p=.ok x):∃A b n,sR W s 1 (p+1) []=some A/\nR W 2 9 (p+2)=some b/\nR W 0 ((b:Int) - 1) (p+3)=some n/\x=(.tuple [.str "rest",bf A,iN b,iN n],p+4):=by
 obtain⟨A,h1,h⟩:=Rd.bind_ok h
 obtain⟨b,h2,h⟩:=Rd.bind_ok h
 obtain⟨n,h3,h⟩:=Rd.bind_ok h
 injection h with h
 exact⟨A,b,n,dQ h1,dQ h2,dQ h3,h.symm⟩
theorem lL{m:Nat}{r:Rd (D×Nat)}{x:D×Nat×Nat}(h:one m r=.ok x):∃y,r=.ok y/\x=(y.1,y.2,m):=by
 obtain⟨y,h1,h⟩:=Rd.bind_ok h
 injection h with h
 exact⟨y,h1,h.symm⟩
theorem Bk:∀(A:List Nat) (a n:Nat),A.Pairwise (· < ·)->(∀v∈A,v<n)->(∀v∈A,a<=v)->A.length+a<=max a n
 | [],a,n,_,_,_=>by simp;omega
 | v::r,a,n,h,h1,h2=>by
  rw[LN]at h
  have e1:=h1 v au
  have e2:=h2 v au
  have:=Bk r (v+1) n h.2 (λx hx=>h1 x (zzg _ hx)) (λx hx=>h.1 x hx)
  rw[ci]
  omega
theorem kz(hs:s<=4)(h:sR W s few q B=some A):Sm (bf A)/\sz (bf A)<=5/\(bf A).depth<=3:=by
 have hA:A.Pairwise (· < ·)/\∀v∈A,v<s:=by
  unfold sR at h
  cases e:W[q]? with
  | none=>rw[e]at h;cases h
  | some w =>
   rw[e]at h
   dsimp only at h
   cases e2:srt s w with
   | none=>rw[e2]at h;cases h
   | some A' =>
    rw[e2]at h
    dsimp only at h
    split at h
    ·cases h
    ·injection h with h
     subst h
     unfold srt at e2
     split at e2
     ·injection e2 with e2
      subst e2
      exact⟨.nil,λv hv=>nomatch hv⟩
     ·split at e2
      ·cases e2
      ·split at e2
       ·rename_i hu
        injection e2 with e2
        subst e2
        have:=upB_is.mp hu
        exact⟨this.1,this.2.1⟩
       ·cases e2
 have hl:=Bk A 0 s hA.1 hA.2 (λv _=>eE _)
 refine⟨Dj λv hv=>by have:=hA.2 v hv;omega,?_,?_⟩
 ·show 1+szs (A.map iN)<=5
  rw[xZ (B:=1) (λi=>by simp[sz])]
  omega
 ·have:PyData.depthAll (A.map iN)<=1:=gI λd hd=>by
   obtain⟨x,_,rfl⟩:=List.mem_map.mp hd
   simp[iN,PyData.depth]
  simp only[PyData.depth]
  omega
theorem oJ{lo:Int}(hh:hi<=9)(h:nR W lo hi q=some n):n<=9:=by
 unfold nR at h
 cases e:W[q]? with
 | none=>rw[e]at h;cases h
 | some w =>
  rw[e]at h
  dsimp only at h
  split at h
  ·rename_i hc
   injection h with h
   rw[am,am,zzi,zzi]at hc
   omega
  ·cases h
def Tiny(d:Nat)(q:D):Prop:=Sm q/\sz q<=20*3^d/\q.depth<=4+d
theorem AY(h:n<=9):Sm (iN n):=by
 simp only[iN,Sm]
 omega
theorem EW(hw:gL w=true){a b:D}(ha:Sm a)(hb:Sm b)(za:sz a<=5)(zb:sz b<=5)(da:a.depth<=3)(db:b.depth<=3):Tiny 0 (.tuple [.str w,a,b]):=by
 refine⟨?_,?_,?_⟩
 ·simp only[Sm,Sms]
  exact⟨hw,ha,hb,trivial⟩
 ·simp only[sz,szs];omega
 ·simp only[PyData.depth,PyData.depthAll];omega
theorem HV(hw:gL w=true){a b c:D}(ha:Sm a)(hb:Sm b)(hc:Sm c)(za:sz a<=5)(zb:sz b<=5)(zc:sz c<=5)(da:a.depth<=3)(db:b.depth<=3)(dc:c.depth<=3):Tiny 0 (.tuple [.str w,a,b,c]):=by
 refine⟨?_,?_,?_⟩
 ·simp only[Sm,Sms]
  exact⟨hw,ha,hb,hc,trivial⟩
 ·simp only[sz,szs];omega
 ·simp only[PyData.depth,PyData.depthAll];omega
theorem Tiny.more{d d':Nat}{q:D}(h:Tiny d q)(hd:d<=d'):Tiny d' q:=by
 have:3^d<=3^d':=Nat.pow_le_pow_right (by decide) hd
 obtain⟨h1,h2,h3⟩:=h
 exact⟨h1,by omega,by omega⟩
theorem qR(hs:s<=4):∀(d p m:Nat) (x:D×Nat×Nat),rd W s d p m=.ok x->Tiny d x.1/\x.2.1<=W.length
 | 0,p,m,x,h=>by cases h
 | d+1,p,m,x,h=>by
  unfold rd at h
  cases e:W[p]? with
  | none=>rw[e]at h;cases h
  | some w =>
   rw[e]at h
   dsimp only at h
   have p3:3^(d+1)=3*3^d:=by rw[Nat.pow_succ,Nat.mul_comm]
   have p1:1<=3^d:=Nat.pow_pos (by decide)
   split at h
   ·cases h
   split at h
   ·obtain⟨y,h',rfl⟩:=lL h
    obtain⟨A,B,h1,h2,rfl⟩:=yF h'
    obtain⟨a1,a2,a3⟩:=kz hs h1
    obtain⟨b1,b2,b3⟩:=kz hs h2
    exact⟨(EW (by decide +kernel) a1 b1 a2 b2 a3 b3).more (eE _),mK h2⟩
   split at h
   ·obtain⟨y,h',rfl⟩:=lL h
    obtain⟨A,n,h1,h2,rfl⟩:=uZ h'
    obtain⟨a1,a2,a3⟩:=kz hs h1
    have hn:=oJ (by decide) h2
    exact⟨(EW (by decide +kernel) a1 (AY hn) a2 (by simp[sz]) a3 (by simp[iN,PyData.depth])).more (eE _),q9 h2⟩
   split at h
   ·obtain⟨y,h',rfl⟩:=lL h
    obtain⟨A,b,n,h1,h2,h3,rfl⟩:=yb h'
    obtain⟨a1,a2,a3⟩:=kz hs h1
    have hb:=oJ (by decide) h2
    have hn:=oJ (by omega) h3
    exact⟨(HV (by decide +kernel) a1 (AY hb) (AY hn) a2 (by simp[sz]) (by simp[sz]) a3 (by simp[iN,PyData.depth]) (by simp[iN,PyData.depth])).more (eE _),q9 h3⟩
   split at h
   ·rename_i hw
    subst hw
    obtain⟨y,h1,h⟩:=Rd.bind_ok h
    injection h with h
    subst h
    obtain⟨⟨t1,t2,t3⟩,le⟩:=qR hs d _ _ y h1
    refine⟨⟨?_,?_,?_⟩,le⟩
    ·simp only[Sm,Sms]
     exact⟨by decide +kernel,t1,trivial⟩
    ·simp only[sz,szs];omega
    ·simp only[PyData.depth,PyData.depthAll];omega
   split at h
   ·rename_i hw
    have hwo:gL w=true:=by rcases hw with rfl|rfl<;>decide +kernel
    obtain⟨y,h1,h⟩:=Rd.bind_ok h
    obtain⟨z,h2,h⟩:=Rd.bind_ok h
    injection h with h
    subst h
    obtain⟨⟨t1,t2,t3⟩,_⟩:=qR hs d _ _ y h1
    obtain⟨⟨u1,u2,u3⟩,le⟩:=qR hs d _ _ z h2
    refine⟨⟨?_,?_,?_⟩,le⟩
    ·simp only[Sm,Sms]
     exact⟨hwo,t1,u1,trivial⟩
    ·simp only[sz,szs];omega
    ·simp only[PyData.depth,PyData.depthAll];omega
   ·cases h
end
abbrev six':List Str:=["least", "more", "rest", "not", "both", "either"]
theorem GO(h:Wd w):fP (.str w) (.tuple [(.str "least"),(.str "more"),(.str "rest"),(.str "not"),(.str "both"),(.str "either")])=some (!decide (w∈six')):=by
 obtain⟨h1,h2⟩:=yT six' (λx hx=>by
  simp only[six',fe,fi,se]at hx
  rcases hx with rfl|rfl|rfl|rfl|rfl|rfl<;>exact aT _) h
 show(if inOk (.str w) (six'.map PyData.str)then some (!(six'.map PyData.str).any λy=>PyData.eqv y (.str w))else none)=_
 rw[h1,ai rfl,h2]
def onL(kn:D×D×D×D×D×D×Unit->M D)(W:List Str)(s d:Nat)(ps:List D):Rd (D×Nat×Nat)->M D
 | .no q=>.ret (.tuple [.bool false,iN q])
 | .ok x=>kn (lW W,iN x.2.1,iN s,iN d,iN x.2.2,.tuple (ps++[x.1]),())
section
variable {W:List Str} (hW:Ws W) {s:Nat} (hs1:1<=s) (hs:s<=4)
theorem oV{self:D->D->D->D->D->M D}{d m:Nat}{ps:List D}{r:Rd (D×Nat×Nat)}(e:self (lW W) (iN p) (iN s) (iN d) (iN m)=asL r)(kn:D×D×D×D×D×D×Unit->M D)(hl:ps.length<=10)(k:D) :
  dU self (lW W) (iN p) (iN s) (iN (d+1)) (iN m) (.tuple ps) k kn=onL kn W s (d+1) ps r:=by
 unfold dU
 rw[show cy (iN (d+1)) (.int 1)=some (iN d)from AQ (d+1) (by omega),oMS,bdR,e]
 cases r with
 | no q =>
  show bd (M.ret (PyData.tuple [.bool false,iN q])) _=_
  rw[bdR,show aS (PyData.tuple [.bool false,iN q]) (.int 0)=some (.bool false)from rfl,oMS,bdR,show kq (.bool false)=some false from rfl,oMS,bdR,bdR,ai (show(!false)=true from rfl)]
  rfl
 | ok x =>
  show bd (M.ret (PyData.tuple [.bool true,x.1,iN x.2.1,iN x.2.2])) _=_
  rw[bdR,show aS (PyData.tuple [.bool true,x.1,iN x.2.1,iN x.2.2]) (.int 0)=some (.bool true)from rfl,oMS,bdR,show kq (.bool true)=some true from rfl,oMS,bdR,bdR,ac (show ¬ ((!true)=true) by decide),show aS (PyData.tuple [.bool true,x.1,iN x.2.1,iN x.2.2]) (.int 1)=some x.1 from rfl,oMS,bdR,bdR,FH _ _ hl,oMS,bdR,show asI (.int 2)=M.ret (some 2)from rfl,bdR,show cY (PyData.tuple [.bool true,x.1,iN x.2.1,iN x.2.2]) (some 2) none=some (.tuple [iN x.2.1,iN x.2.2])from rfl,oMS,bdR]
  rfl
include hW hs1 hs
set_option maxHeartbeats 1000000 in
theorem yc:∀(d i p m:Nat),d<i->p<=W.length->cE i (lW W) (iN p) (iN s) (iN d) (iN m)=asL (rd W s d p m)
 | d,0,p,m,hi,_=>by omega
 | d,i+1,p,m,hi,hp=>by
  show gx (cE i) _ _ _ _ _=_
  unfold gx
  rw[z6,oMS,bdR,pJ,oMS,bdR]
  cases h:W[p]? with
  | none =>
   have:p=W.length:=by rw[zi]at h;omega
   rw[aw this,ai rfl,bdR,ai rfl]
   cases d with
   | zero=>rfl
   | succ d=>unfold rd;rw[h];rfl
  | some w =>
   have hlt:=(List.getElem?_eq_some_iff.mp h).1
   obtain⟨wd,wl⟩:=hW w (ii h)
   rw[bi (by omega),ac (by decide),show aW (iN d) (.int 0)=_ from pJ d 0,oMS,bdR]
   cases d with
   | zero=>rw[aw rfl,ai rfl,bdR,ai rfl];rfl
   | succ d =>
    rw[bi (by omega),ac (by decide),show aW (iN m) (.int 7)=_ from pJ m 7,oMS,bdR]
    unfold rd
    rw[h]
    dsimp only
    by_cases hm:m=7
    ·rw[aw hm,ai rfl,bdR,ai rfl,ai hm];rfl
    ·rw[bi hm,ac (by decide),ac hm,ixW h,oMS,bdR,GO wd,oMS,bdR]
     by_cases h6:w∈six'
     ·have ih:=λq n=>yc d i q n (by omega)
      have z1:aJ (iN p) (.int 1)=some (iN (p+1)):=gK p 1
      have z2:aJ (iN m) (.int 1)=some (iN (m+1)):=gK m 1
      rw[aw h6,ac (by decide),bdR]
      simp only[six',fe,fi,se]at h6
      have two:∀v:Str,(cp (λ(s29:D×D×D×D×D×D×Unit) d30 kn=>dU (cE i) s29.1 s29.2.1 s29.2.2.1 s29.2.2.2.1 s29.2.2.2.2.1 s29.2.2.2.2.2.1 d30 kn) [iN 0,iN 1] (lW W,iN (p+1),iN s,iN (d+1),iN (m+1),(.tuple [.str v]),()) (λs29=>jd (cE i) s29.1 s29.2.1 s29.2.2.1 s29.2.2.2.1 s29.2.2.2.2.1 s29.2.2.2.2.2.1))=asL ((rd W s d (p+1) (m+1)).bind λx=>(rd W s d x.2.1 x.2.2).bind λy=>.ok (.tuple [.str v,x.1,y.1],y.2)):=λv=>by
       rw[cp,oV (ih (p+1) (m+1) (by omega)) _ (by simp)]
       cases e1:rd W s d (p+1) (m+1)with
       | no q=>rfl
       | ok x =>
        unfold onL
        dsimp only
        rw[cp]
        dsimp only
        rw[oV (ih x.2.1 x.2.2 (qR hs d _ _ x e1).2) _ (by simp)]
        show _=asL ((rd W s d x.2.1 x.2.2).bind _)
        cases rd W s d x.2.1 x.2.2 with
        | no q=>rfl
        | ok y=>unfold onL;dsimp only;rw[cp];rfl
      rcases h6 with rfl|rfl|rfl|rfl|rfl|rfl
      ·rw[show bO (.str "least") (.tuple [(.str "least"),(.str "more"),(.str "rest")])=some true from by kernel_rfl,oMS,bdR,ai rfl,z2,oMS,bdR,BS hW hs1 hs (m+1) h,ac (by decide +kernel),ai rfl]
       cases one (m+1) (gV W s p)<;>rfl
      ·rw[show bO (.str "more") (.tuple [(.str "least"),(.str "more"),(.str "rest")])=some true from by kernel_rfl,oMS,bdR,ai rfl,z2,oMS,bdR,D3 hW hs1 hs (m+1) h,ai rfl]
       cases one (m+1) (jS W s p)<;>rfl
      ·rw[show bO (.str "rest") (.tuple [(.str "least"),(.str "more"),(.str "rest")])=some true from by kernel_rfl,oMS,bdR,ai rfl,z2,oMS,bdR,D2 hW hs1 hs (m+1) h,ac (by decide +kernel),ac (by decide +kernel),ai rfl]
       cases one (m+1) (jR W s p)<;>rfl
      ·rw[show bO (.str "not") (.tuple [(.str "least"),(.str "more"),(.str "rest")])=some false from by kernel_rfl,oMS,bdR,ac (by decide),z1,oMS,bdR,z2,oMS,bdR,show aW (.str "not") (.str "not")=some true from by kernel_rfl,oMS,bdR,ai rfl,bdR,yh,oMS,bdR,cV,cp,ac (by decide +kernel),ac (by decide +kernel),ac (by decide +kernel),ai rfl]
       dsimp only
       rw[oV (ih (p+1) (m+1) (by omega)) _ (by simp)]
       cases rd W s d (p+1) (m+1)with
       | no q=>rfl
       | ok x=>unfold onL;dsimp only;rw[cp];rfl
      ·rw[show bO (.str "both") (.tuple [(.str "least"),(.str "more"),(.str "rest")])=some false from by kernel_rfl,oMS,bdR,ac (by decide),z1,oMS,bdR,z2,oMS,bdR,show aW (.str "both") (.str "not")=some false from by kernel_rfl,oMS,bdR,ac (by decide),bdR,nr,oMS,bdR,cV,ac (by decide +kernel),ac (by decide +kernel),ac (by decide +kernel),ac (by decide +kernel),ai (.inl rfl)]
       exact two _
      ·rw[show bO (.str "either") (.tuple [(.str "least"),(.str "more"),(.str "rest")])=some false from by kernel_rfl,oMS,bdR,ac (by decide),z1,oMS,bdR,z2,oMS,bdR,show aW (.str "either") (.str "not")=some false from by kernel_rfl,oMS,bdR,ac (by decide),bdR,nr,oMS,bdR,cV,ac (by decide +kernel),ac (by decide +kernel),ac (by decide +kernel),ac (by decide +kernel),ai (.inr rfl)]
       exact two _
     ·rw[bi h6,ai (show(!false)=true from rfl)]
      simp only[six',fe,fi,se,not_or]at h6
      obtain⟨a,b,c,e,f,g⟩:=h6
      rw[ac b,ac a,ac c,ac e,ac (λz=>z.elim f g)]
      rfl
end
abbrev space:Str:=Str.ofString " "
def spW(x:Str):List Str:=Txt.split x space
theorem qN:space.length=1:=by decide +kernel
theorem vd(x:Str):Str.join space (spW x)=x:=StrLaws.join_split x space
theorem wg(h:Wd x)(hl:x.length<=19000):Ws (spW x):=λw hw=>by
 have e:=vd x
 have hle:=PySem.join_mem_le space (spW x) w hw
 rw[e]at hle
 refine⟨⟨?_,bj hle h.le⟩,bj hle hl⟩
 rw[strOk_iff]
 intro c hc
 have hm:c∈(Str.join space (spW x)).cps.toList:=(mem_join space c (spW x)).mpr (.inl ⟨w,hw,hc⟩)
 rw[e]at hm
 exact strOk_iff.mp h.ok c hm
theorem sj:(spW x).length<=x.length+2:=by
 unfold spW Txt.split
 split
 ·simp
 ·split
  ·simp
  ·rw[LA]
   have:=Lu x space 0 x.length (x.length+1)
   omega
theorem nL(h:x.length<=19000):onT .str (.str x) (oM (hJ (.str x) [.str " "]))=.ret ((spW x).map PyData.str):=by
 show oM (if jm x space=true then some ((Txt.split x space).map PyData.str)else none)=_
 have hp:(Builtin.Str.partsBetween x (Builtin.Str.occurrences x space 0 x.length (x.length+1)) space.length).length<=sizeLine:=by
  rw[LA]
  have:=Lu x space 0 x.length (x.length+1)
  have:=iy
  omega
 have hw:(Txt.split x space).length<=sizeLine:=by
  have:(Txt.split x space).length<=x.length+2:=sj
  have:=iy
  omega
 rw[ai (by
  unfold jm
  rw[aw hp,aw hw,aw (bj (by omega) iy)]
  decide +kernel)]
 rfl
theorem Bb{W:List Str}{s:Nat}:∀(d p m:Nat) (x:D×Nat×Nat),rd W s d p m=.ok x->x.2.1<=W.length
 | 0,p,m,x,h=>by cases h
 | d+1,p,m,x,h=>by
  unfold rd at h
  cases e:W[p]? with
  | none=>rw[e]at h;cases h
  | some w =>
   rw[e]at h
   dsimp only at h
   split at h
   ·cases h
   split at h
   ·obtain⟨y,h',rfl⟩:=lL h
    obtain⟨A,B,h1,h2,rfl⟩:=yF h'
    exact mK h2
   split at h
   ·obtain⟨y,h',rfl⟩:=lL h
    obtain⟨A,n,h1,h2,rfl⟩:=uZ h'
    exact q9 h2
   split at h
   ·obtain⟨y,h',rfl⟩:=lL h
    obtain⟨A,b,n,h1,h2,h3,rfl⟩:=yb h'
    exact q9 h3
   split at h
   ·obtain⟨y,h1,h⟩:=Rd.bind_ok h
    injection h with h
    subst h
    exact Bb d _ _ y h1
   split at h
   ·obtain⟨y,h1,h⟩:=Rd.bind_ok h
    obtain⟨z,h2,h⟩:=Rd.bind_ok h
    injection h with h
    subst h
    exact Bb d _ _ z h2
   ·cases h
theorem yd{W:List Str}{s:Nat}:∀(d p m q:Nat),rd W s d p m=.no q->p<=W.length->q<=W.length
 | 0,p,m,q,h,hp=>by injection h with h;omega
 | d+1,p,m,q,h,hp=>by
  have bnd:∀{α β:Type} {r:Rd α} {k:α->Rd β},r.bind k=.no q->r=.no q\/∃x,r=.ok x/\k x=.no q:=λ{α β r k} h=>by
   cases r with
   | no p=>injection h with h;exact .inl (by rw[h])
   | ok x=>exact .inr ⟨x,rfl,h⟩
  have orn:∀{α:Type} {o:Option α} {p:Nat},iO o p=.no q->p=q:=λ{α o p} h=>by
   cases o with
   | none=>injection h
   | some y=>cases h
  unfold rd at h
  cases e:W[p]? with
  | none=>rw[e]at h;injection h with h;omega
  | some w =>
   have hlt:=(List.getElem?_eq_some_iff.mp e).1
   rw[e]at h
   dsimp only at h
   split at h
   ·injection h with h;omega
   split at h
   ·rcases bnd h with h|⟨x,_,h⟩
    ·rcases bnd h with h|⟨A,h1,h⟩
     ·have:=orn h;omega
     ·have l1:=mK (dQ h1)
      rcases bnd h with h|⟨B,h2,h⟩
      ·have:=orn h;omega
      ·cases h
    ·cases h
   split at h
   ·rcases bnd h with h|⟨x,_,h⟩
    ·rcases bnd h with h|⟨A,h1,h⟩
     ·have:=orn h;omega
     ·have l1:=mK (dQ h1)
      rcases bnd h with h|⟨B,h2,h⟩
      ·have:=orn h;omega
      ·cases h
    ·cases h
   split at h
   ·rcases bnd h with h|⟨x,_,h⟩
    ·rcases bnd h with h|⟨A,h1,h⟩
     ·have:=orn h;omega
     ·have l1:=mK (dQ h1)
      rcases bnd h with h|⟨B,h2,h⟩
      ·have:=orn h;omega
      ·have l2:=q9 (dQ h2)
       rcases bnd h with h|⟨C,h3,h⟩
       ·have:=orn h;omega
       ·cases h
    ·cases h
   split at h
   ·rcases bnd h with h|⟨x,_,h⟩
    ·exact yd d _ _ q h (by omega)
    ·cases h
   split at h
   ·rcases bnd h with h|⟨x,h1,h⟩
    ·exact yd d _ _ q h (by omega)
    ·rcases bnd h with h|⟨y,h2,h⟩
     ·exact yd d _ _ q h (Bb d _ _ x h1)
     ·cases h
   ·injection h with h;omega
def uB(W:List Str)(s:Nat):D:=match rd W s 4 0 0 with
 | .no p=>.tuple [.str "none",.int 0,iN p]
 | .ok y=>if y.2.1<W.length then .tuple [.str "none",.int 0,iN y.2.1]else .tuple [.str "told",y.1]
theorem ui(p:Nat):(AJ (A:=D×D×Unit) (B:=D×Unit) (onX (λe_=>.ret (.inr (e_,(.none,())))) (M.exc (noT p)) λx1=>.ret (.inl (.none,x1,()))) (λs4=>bI s4.1 s4.2.1) (λe2 s3=>mM ["NoText"] e2.cls (bI (m9 e2) s3.1)))=.ret (.tuple [.str "none",.int 0,iN p]):=by
 show mM ["NoText"] (noT p).cls (bI (m9 (noT p)) .none)=_
 kernel_rfl
theorem AK(d:D):(AJ (A:=D×D×Unit) (B:=D×Unit) (onX (λe_=>.ret (.inr (e_,(.none,())))) (M.ret d) λx1=>.ret (.inl (.none,x1,()))) (λs4=>bI s4.1 s4.2.1) (λe2 s3=>mM ["NoText"] e2.cls (bI (m9 e2) s3.1)))=.ret (.tuple [.str "told",d]):=by
 show bI .none d=_
 unfold bI
 rw[show jB .none .none=some true from rfl,oMS,bdR,ai rfl]
section
variable (h:Wd x) (hl:x.length<=19000) {s:Nat} (hs1:1<=s) (hs:s<=4)
include h hl hs1 hs
theorem C9:eP (iN s) (.str x)=.ret (uB (spW x) s):=by
 have hW:=wg h hl
 unfold eP
 have e:dB (iN s) (.str x)=match rd (spW x) s 4 0 0 with
   | .no p=>.exc (noT p)
   | .ok y=>if y.2.1<(spW x).length then .exc (noT y.2.1)else .ret y.1:=by
  unfold dB
  have ei:dY [] (.int 0) (.str x)=.ret (.none,stR (spW x) 0 0):=by
   unfold dY
   rw[nL hl,bdR,bdR]
   kernel_rfl
  rw[ei]
  show bd (bt 6 (stR (spW x) 0 0) (iN s) (.int (4 - ((4:Nat):Int)))) _=_
  rw[xX hW 4 6 0 0 (by omega) (by omega)]
  cases rd (spW x) s 4 0 0 with
  | no p=>rfl
  | ok y =>
   show bd (M.ret (y.1,stR (spW x) y.2.1 y.2.2)) _=_
   rw[bdR]
   dsimp only
   rw[finish_ok]
   split
   ·rfl
   ·rfl
 rw[e]
 unfold uB
 cases rd (spW x) s 4 0 0 with
 | no p=>exact ui p
 | ok y =>
  dsimp only
  split
  ·exact ui _
  ·exact AK _
theorem Hn:fU (.str x) (iN s)=.ret (uB (spW x) s):=by
 have hW:=wg h hl
 unfold fU
 rw[nL hl,bdR,bdR]
 have e:cE 6 (lW (spW x)) (.int 0) (iN s) (.int 4) (.int 0)=asL (rd (spW x) s 4 0 0):=yc hW hs1 hs 4 6 0 0 (by omega) (eE _)
 rw[e]
 unfold uB
 cases hr:rd (spW x) s 4 0 0 with
 | no p =>
  show bd (M.ret (PyData.tuple [.bool false,iN p])) _=_
  rw[bdR,show aS (PyData.tuple [.bool false,iN p]) (.int 0)=some (.bool false)from rfl,oMS,bdR,show kq (.bool false)=some false from rfl,oMS,bdR,bdR,ai (show(!false)=true from rfl),show aS (PyData.tuple [.bool false,iN p]) (.int 1)=some (iN p)from rfl,oMS,bdR,bdR]
 | ok y =>
  have hle:=(qR hs 4 0 0 y hr).2
  show bd (M.ret (PyData.tuple [.bool true,y.1,iN y.2.1,iN y.2.2])) _=_
  rw[bdR,show aS (PyData.tuple [.bool true,y.1,iN y.2.1,iN y.2.2]) (.int 0)=some (.bool true)from rfl,oMS,bdR,show kq (.bool true)=some true from rfl,oMS,bdR,bdR,ac (show ¬ ((!true)=true) by decide),show aS (PyData.tuple [.bool true,y.1,iN y.2.1,iN y.2.2]) (.int 2)=some (iN y.2.1)from rfl,oMS,bdR,z6,oMS,bdR,pJ,oMS,bdR]
  dsimp only
  by_cases hy:y.2.1=(spW x).length
  ·rw[aw hy,ai rfl,ac (by omega),show aS (PyData.tuple [.bool true,y.1,iN y.2.1,iN y.2.2]) (.int 1)=some y.1 from rfl,oMS,bdR,bdR]
  ·rw[bi hy,ac (by decide),ai (by omega),bdR,bdR]
omit hs1 in
theorem zK:Sm (uB (spW x) s)/\sz (uB (spW x) s)<=30000/\(uB (spW x) s).depth<=60:=by
 have hwl:=sj (x:=x)
 have none_s:∀p:Nat,p<=20000->Sm (.tuple [.str "none",.int 0,iN p])/\sz (.tuple [.str "none",.int 0,iN p])<=30000/\(PyData.tuple [.str "none",.int 0,iN p]).depth<=60:=λp hp=>by
  refine⟨?_,?_,?_⟩
  ·simp only[Sm,Sms,iN]
   exact⟨by decide +kernel,by decide,by omega,trivial⟩
  ·simp[sz,szs]
  ·simp[PyData.depth,PyData.depthAll]
 unfold uB
 cases hr:rd (spW x) s 4 0 0 with
 | no p=>exact none_s p (by have:=yd (W:=spW x) (s:=s) 4 0 0 p hr (eE _);omega)
 | ok y =>
  obtain⟨⟨t1,t2,t3⟩,hle⟩:=qR hs 4 0 0 y hr
  dsimp only
  split
  ·exact none_s _ (by omega)
  ·refine⟨?_,?_,?_⟩
   ·simp only[Sm,Sms]
    exact⟨by decide +kernel,t1,trivial⟩
   ·simp only[sz,szs];omega
   ·simp only[PyData.depth,PyData.depthAll];omega
theorem alike(k:Bool->M S):(bd (bd (bd (eP (iN s) (.str x)) λx28=>oM (pG [x28])) λx30=>bd (bd (fU (.str x) (iN s)) λx29=>oM (pG [x29])) λx31=>oM (kG x30 x31)) k)=k false:=by
 obtain⟨r1,r2,r3⟩:=zK h hl hs
 rw[C9 h hl hs1 hs,bdR,E3 r1 r2 r3,oMS,bdR,Hn h hl hs1 hs,bdR,E3 r1 r2 r3,oMS,bdR,GR r1,oMS,bdR]
end
abbrev sg(c:Nat):Str:=⟨#[c]⟩
def jl(c:Nat):List (List Nat)->List Nat
 | []=>[]
 | [a]=>a
 | a::b::r=>a++c::jl c (b::r)
theorem join_list(c:Nat):∀ws:List Str,(Str.join (sg c) ws).cps.toList=jl c (ws.map λw=>w.cps.toList)
 | []=>rfl
 | [a]=>rfl
 | a::b::r=>by
  have ih:=join_list c (b::r)
  rw[show Str.join (sg c) (a::b::r)=a++sg c++Str.join (sg c) (b::r)from rfl]
  show((a.cps ++ #[c])++(Str.join (sg c) (b::r)).cps).toList=_
  rw[Array.toList_append,Array.toList_append,ih]
  show a.cps.toList++[c]++_=_
  rw[Ix]
  rfl
theorem rq:∀(Ls:List (List Str)),(∀L∈Ls,L≠[])->Str.join (sg c) (Ls.map (Str.join (sg c)))=Str.join (sg c) Ls.flatten:=by
 have ext:∀{a b:Str},a.cps.toList=b.cps.toList->a=b:=by
  intro a b h
  obtain⟨⟨a⟩⟩:=a;obtain⟨⟨b⟩⟩:=b
  have:a=b:=h
  rw[this]
 have app:∀(L M:List (List Nat)),L≠[]->M≠[]->jl c (L++M)=jl c L++c::jl c M:=by
  intro L
  induction L with
  | nil=>intro M h;exact absurd rfl h
  | cons a L ih =>
   intro M _ hM
   cases L with
   | nil =>
    cases M with
    | nil=>exact absurd rfl hM
    | cons b M=>rfl
   | cons b L =>
    have:=ih M (by simp) hM
    show a++c::jl c (b::(L++M))=(a++c::jl c (b::L))++c::jl c M
    rw[show b::(L++M)=(b::L)++M from rfl,this,Ix]
    rfl
 intro Ls
 induction Ls with
 | nil=>intro _;rfl
 | cons L Ls ih =>
  intro h
  have hL:=h L au
  have ih:=ih λM hM=>h M (zzg _ hM)
  apply ext
  have ih':=congrArg (λs:Str=>s.cps.toList) ih
  simp only[join_list,li]at ih' ⊢
  cases Ls with
  | nil=>simp[jl,join_list]
  | cons M Ls =>
   have hM:=h M (by simp)
   rw[LW,jo,app _ _ (by simpa using hL) (by
    rw[LW]
    simp[hM]),ba]
   show(Str.join (sg c) L).cps.toList++c::jl c (List.map ((λw:Str=>w.cps.toList)∘Str.join (sg c)) (M::Ls))=_
   rw[ih',join_list]
inductive Qn where
 | least (A:List Nat) (m:Nat)
 | more (A B:List Nat)
 | rest (A:List Nat) (b r:Nat)
 | neg (q:Qn)
 | both (q p:Qn)
 | either (q p:Qn)
def Qn.d:Qn->D
 | .least A m=>.tuple [.str "least",bf A,iN m]
 | .more A B=>.tuple [.str "more",bf A,bf B]
 | .rest A b r=>.tuple [.str "rest",bf A,iN b,iN r]
 | .neg q=>.tuple [.str "not",q.d]
 | .both q p=>.tuple [.str "both",q.d,p.d]
 | .either q p=>.tuple [.str "either",q.d,p.d]
def Qn.deep:Qn->Nat
 | .neg q=>q.deep+1
 | .both q p=>max q.deep p.deep+1
 | .either q p=>max q.deep p.deep+1
 | _=>0
def Qn.cnt:Qn->Nat
 | .neg q=>q.cnt+1
 | .both q p=>q.cnt+p.cnt+1
 | .either q p=>q.cnt+p.cnt+1
 | _=>1
def Up(s:Nat)(A:List Nat):Prop:=A.Pairwise (· < ·)/\(∀a∈A,a<s)/\A.length<=s
def Qn.Wf(s:Nat):Qn->Prop
 | .least A m=>Up s A/\A≠[]/\1<=m/\m<=9
 | .more A B=>Up s A/\Up s B/\∀b∈B,b∉A
 | .rest A b r=>Up s A/\A≠[]/\2<=b/\b<=9/\r<b
 | .neg q=>q.Wf s
 | .both q p=>q.Wf s/\p.Wf s
 | .either q p=>q.Wf s/\p.Wf s
def iu(n:Nat):Str:=toString (n:Int)
theorem DQ:∀n,n<=9->iu n=sg (48+n):=by
 intro n h
 rcases(by lia:n=0\/n=1\/n=2\/n=3\/n=4\/n=5\/n=6\/n=7\/n=8\/n=9)with rfl|rfl|rfl|rfl|rfl|rfl|rfl|rfl|rfl|rfl<;>decide +kernel
theorem str_is(h:n<=9):pF [iN n]=some (.str (iu n)):=by
 show(if(n:Int).natAbs.log2<1920 then some (PyData.str (toString (n:Int)))else none)=_
 rw[ai]
 ·rfl
 ·have:(n:Int).natAbs=n:=by simp
  rw[this]
  rcases(by lia:n=0\/n=1\/n=2\/n=3\/n=4\/n=5\/n=6\/n=7\/n=8\/n=9)with rfl|rfl|rfl|rfl|rfl|rfl|rfl|rfl|rfl|rfl<;>decide +kernel
def cA(A:List Nat):Str:=if A.isEmpty then "-" else Str.join (sg 44) (A.map iu)
def wrd:Qn->List Str
 | .least A m=>["least",cA A,iu m]
 | .more A B=>["more",cA A,cA B]
 | .rest A b r=>["rest",cA A,iu b,iu r]
 | .neg q => "not" :: wrd q
 | .both q p => "both" :: (wrd q++wrd p)
 | .either q p => "either" :: (wrd q++wrd p)
def text(q:Qn):Str:=Str.join (sg 32) (wrd q)
theorem Aw(q:Qn):wrd q≠[]:=by cases q<;>simp[wrd]
theorem jK:∀xs:List Str,strsOf (xs.map PyData.str)=some xs
 | []=>rfl
 | x::xs=>by rw[ba,strsOf,jK xs];rfl
theorem nA{s:Str}(hs:s=sg c){ws:List Str}(h:∀w∈ws,w.length<=1000)(hl:ws.length<=100):im (.str s) [.list (ws.map PyData.str)]=some (.str (Str.join (sg c) ws)):=by
 subst hs
 show(match strsOf (ws.map PyData.str)with
  | some xs=>if JoinOk (sg c) xs then some (PyData.str (Txt.join (sg c) xs))else none
  | none=>none)=_
 rw[jK]
 dsimp only
 rw[ai ?_]
 ·unfold Txt.join
  rw[StrLaws.glued_eq_join]
 ·unfold JoinOk
  rw[ot]
  refine StrLaws.joinFits (B:=1000) h ?_
  have:(sg c).length=1:=rfl
  rw[this]
  lia
theorem DX(x:Str):x.cps.toList.length=x.length:=cr
theorem oY{c:Nat}{B:Nat}:∀{ws:List Str},(∀w∈ws,w.length<=B)->(Str.join (sg c) ws).length<=ws.length*(B+1)
 | [],_=>by rw[<-DX];exact eE _
 | [a],h=>by
  have:=h a au
  show a.length<=_
  simp;lia
 | a::b::r,h=>by
  have ih:=oY (c:=c) (ws:=b::r) λw hw=>h w (zzg _ hw)
  have ha:=h a au
  rw[show Str.join (sg c) (a::b::r)=a++sg c++Str.join (sg c) (b::r)from rfl]
  have e:(a++sg c++Str.join (sg c) (b::r)).length=a.length+1+(Str.join (sg c) (b::r)).length:=by
   show((a.cps ++ #[c])++(Str.join (sg c) (b::r)).cps).size=_
   rw[Array.size_append,Array.size_append]
   rfl
  rw[e,ci,Nat.succ_mul]
  lia
theorem iW(h:n<=9):(iu n).length=1:=by rw[DQ n h];rfl
theorem gN(h:∀a∈A,a<=9)(hl:A.length<=5):(cA A).length<=10:=by
 unfold cA
 split
 ·decide +kernel
 ·have:=oY (c:=44) (B:=1) (ws:=A.map iu) λw hw=>by
   obtain⟨a,ha,rfl⟩:=List.mem_map.mp hw
   exact Nat.le_of_eq (iW (h a ha))
  rw[zzd]at this
  lia
theorem De(h:∀a∈A,a<=9):bg (λd1=>bd (oM (pF [d1])) λx2=>M.ret (some x2)) (A.map iN)=.ret ((A.map iu).map PyData.str):=by
 rw[fH (e:=iN) (g:=λn=>.str (iu n)) A (λa ha=>by rw[str_is (h a ha),oMS,bdR]),li]
 rfl
theorem mL(s:Str)(m:M D):onT .str (.str s) m=m:=rfl
theorem Hk(A:List Nat):aW (bf A) (.tuple [])=some A.isEmpty:=by
 have:=L4.eqT A []
 rw[show cT A=bf A from rfl,show cT []=PyData.tuple []from rfl]at this
 rw[this]
 cases A<;>rfl
theorem tm(h:∀a∈A,a<=9)(hl:A.length<=5):bn (bf A)=.ret (.str (cA A)):=by
 unfold bn
 rw[Hk,oMS,bdR]
 unfold cA
 cases A with
 | nil=>rfl
 | cons a A =>
  rw[ac (by simp),ac (by simp),show d9 (bf (a::A))=some ((a::A).map iN)from rfl,oMS,bdR,De h,bdR,dA (by rw[zzd,zzd];lia),bdR,bdR,mL,nA (c:=44) (by decide +kernel) (λw hw=>by
   obtain⟨b,hb,rfl⟩:=List.mem_map.mp hw
   rw[iW (h b hb)];lia) (by rw[zzd];lia),oMS,bdR]
theorem Up.nine{s:Nat}(h:Up s A)(hs:s<=5):(∀a∈A,a<=9)/\A.length<=5:=⟨λa ha=>by have:=h.2.1 a ha;lia,by have:=h.2.2;lia⟩
theorem sp_is:(Str.ofString " ")=sg 32:=by decide +kernel
theorem xV{s:Nat}(hs:s<=5):∀{q:Qn},q.Wf s->(∀w∈wrd q,w.length<=10)/\(wrd q).length<=4*q.cnt:=by
 have lit:∀x:Str,x.length<=10->x.length<=10:=λ_ h=>h
 intro q
 induction q with
 | least A m =>
  intro h
  obtain⟨n1,n2⟩:=h.1.nine hs
  have l1:=gN n1 n2
  have l2:=iW h.2.2.2
  refine⟨λw hw=>?_,by simp[wrd,Qn.cnt]⟩
  simp only[wrd,fe,fi,se]at hw
  rcases hw with rfl|rfl|rfl
  ·decide +kernel
  ·exact l1
  ·lia
 | more A B =>
  intro h
  obtain⟨n1,n2⟩:=h.1.nine hs
  obtain⟨m1,m2⟩:=h.2.1.nine hs
  have l1:=gN n1 n2
  have l2:=gN m1 m2
  refine⟨λw hw=>?_,by simp[wrd,Qn.cnt]⟩
  simp only[wrd,fe,fi,se]at hw
  rcases hw with rfl|rfl|rfl
  ·decide +kernel
  ·exact l1
  ·exact l2
 | rest A b r =>
  intro h
  obtain⟨n1,n2⟩:=h.1.nine hs
  have l1:=gN n1 n2
  have l2:=iW h.2.2.2.1
  have l3:=iW (show r<=9 by have:=h.2.2.2.1;have:=h.2.2.2.2;lia)
  refine⟨λw hw=>?_,by simp[wrd,Qn.cnt]⟩
  simp only[wrd,fe,fi,se]at hw
  rcases hw with rfl|rfl|rfl|rfl
  ·decide +kernel
  ·exact l1
  ·lia
  ·lia
 | neg q ih =>
  intro h
  obtain⟨a,b⟩:=ih h
  refine⟨λw hw=>?_,by simp only[wrd,Qn.cnt,ci];lia⟩
  rcases List.mem_cons.mp hw with rfl|hw
  ·decide +kernel
  ·exact a w hw
 | both q p ih1 ih2 =>
  intro h
  obtain⟨a,b⟩:=ih1 h.1
  obtain⟨a',b'⟩:=ih2 h.2
  refine⟨λw hw=>?_,by simp only[wrd,Qn.cnt,ci,zzf];lia⟩
  rcases List.mem_cons.mp hw with rfl|hw
  ·decide +kernel
  ·rcases List.mem_append.mp hw with hw|hw
   ·exact a w hw
   ·exact a' w hw
 | either q p ih1 ih2 =>
  intro h
  obtain⟨a,b⟩:=ih1 h.1
  obtain⟨a',b'⟩:=ih2 h.2
  refine⟨λw hw=>?_,by simp only[wrd,Qn.cnt,ci,zzf];lia⟩
  rcases List.mem_cons.mp hw with rfl|hw
  ·decide +kernel
  ·rcases List.mem_append.mp hw with hw|hw
   ·exact a w hw
   ·exact a' w hw
theorem text_len{s:Nat}(hs:s<=5){q:Qn}(h:q.Wf s):(text q).length<=44*q.cnt:=by
 obtain⟨a,b⟩:=xV hs h
 have:=oY (c:=32) a
 unfold text
 have:(wrd q).length*11<=4*q.cnt*11:=Nat.mul_le_mul_right _ b
 lia
theorem AN(q:Qn):Str.join (sg 32) (["not",text q]:List Str)=text (.neg q):=by
 have:=rq (c:=32) [["not"],wrd q] (by simp[Aw])
 simp only[ba,wE,LW,List.flatten_nil,iz]at this
 exact this
theorem AM(w:Str)(q p:Qn):Str.join (sg 32) ([w,text q,text p]:List Str)=Str.join (sg 32) (w::(wrd q++wrd p)):=by
 have:=rq (c:=32) [[w],wrd q,wrd p] (by simp[Aw])
 simp only[ba,wE,LW,List.flatten_nil,iz]at this
 exact this
theorem CU{a b:List D}(h:a.length+b.length<=1000):aJ (.list a) (.list b)=some (.list (a++b)):=ai (bj h (by decide))
theorem z7{s:Nat}(hs:s<=5){q:Qn}(h:q.Wf s)(hc:q.cnt<=20):(text q).length<=1000:=by have:=text_len hs h;lia
section
variable {s:Nat} (hs:s<=5)
include hs
theorem u5{self:D->M D}{q:Qn}(h:q.Wf s)(hc:q.cnt<=20)(e:self q.d=.ret (.str (text q))):bM self (Qn.neg q).d=.ret (.str (text (.neg q))):=by
 unfold bM
 show bd (bd (oM (aS (.tuple [.str "not",q.d]) (.int 0))) _) _=_
 have cm:bg (λd6=>bd (self d6) λx7=>M.ret (some x7)) [q.d]=.ret [.str (text q)]:=by
  unfold bg;rw[e];rfl
 rw[lx,tw,oMS,bdR,show bO (.str "not") (.tuple [.str "not",.str "both",.str "either"])=some true from by kernel_rfl,oMS,bdR,ai rfl,show aS (Qn.neg q).d (.int 0)=some (.str "not")from by show aS (.tuple [.str "not",q.d]) (.int 0)=_;rw[lx,tw],oMS,bdR,bdR,bdR,show asI (.int 1)=.ret (some 1)from rfl,bdR,show cY (Qn.neg q).d (some 1) none=some (.tuple [q.d])from rfl,oMS,bdR,show d9 (.tuple [q.d])=some [q.d]from rfl,oMS,bdR,cm,bdR,dA (by simp),bdR,bdR,CU (by simp),oMS,bdR,mL]
 rw[show(PyData.list ([.str "not"]++[.str (text q)]))=.list ((["not",text q]:List Str).map PyData.str)from rfl,nA sp_is (λw hw=>by
  simp only[fe,fi,se]at hw
  rcases hw with rfl|rfl
  ·decide +kernel
  ·exact z7 hs h hc) (by simp),oMS,bdR,AN]
theorem mQ{self:D->M D}(hw:bO (.str w) (.tuple [.str "not",.str "both",.str "either"])=some true)(hwl:w.length<=10){q p:Qn}(h1:q.Wf s)(h2:p.Wf s)(hc1:q.cnt<=20)(hc2:p.cnt<=20)(e1:self q.d=.ret (.str (text q)))(e2:self p.d=.ret (.str (text p))) :
  bM self (.tuple [.str w,q.d,p.d])=.ret (.str (Str.join (sg 32) (w::(wrd q++wrd p)))):=by
 unfold bM
 have cm:bg (λd6=>bd (self d6) λx7=>M.ret (some x7)) [q.d,p.d]=.ret [.str (text q),.str (text p)]:=by
  unfold bg bg bg;rw[e1,e2];rfl
 rw[lx,tw,oMS,bdR,hw,oMS,bdR,ai rfl,bdR,bdR,bdR,show asI (.int 1)=.ret (some 1)from rfl,bdR,show cY (.tuple [.str w,q.d,p.d]) (some 1) none=some (.tuple [q.d,p.d])from rfl,oMS,bdR,show d9 (.tuple [q.d,p.d])=some [q.d,p.d]from rfl,oMS,bdR,cm,bdR,dA (by simp),bdR,bdR,CU (by simp),oMS,bdR,mL]
 rw[show(PyData.list ([.str w]++[.str (text q),.str (text p)]))=.list (([w,text q,text p]:List Str).map PyData.str)from rfl,nA sp_is (λx hx=>by
  simp only[fe,fi,se]at hx
  rcases hx with rfl|rfl|rfl
  ·lia
  ·exact z7 hs h1 hc1
  ·exact z7 hs h2 hc2) (by simp),oMS,bdR,AM]
end
theorem D8(A:List D):i3 "tuple" (.tuple A)=some true:=id rfl
theorem D9(n:Int):i3 "tuple" (.int n)=some false:=id rfl
section
variable {s:Nat} (hs:s<=5)
include hs
theorem z8{q:Qn}(h:q.Wf s)(hc:q.cnt<=20):im (.str " ") [.list ((wrd q).map PyData.str)]=some (.str (text q)):=by
 obtain⟨a,b⟩:=xV hs h
 exact nA sp_is (λw hw=>bj (a w hw) (by decide)) (by lia)
def Li(d:D):Str:=match d with
 | .tuple ds=>cA (ds.map λd=>match d with | .int i=>i.toNat|_=>0)
 | .int i=>iu i.toNat
 | _ => ""
theorem g8{self:D->M D}{q:Qn}(h:q.Wf s)(hd:q.deep=0)(hc:q.cnt<=20):bM self q.d=.ret (.str (text q)):=by
 have lj:=z8 hs h hc
 have pT:∀A:List Nat,Up s A->(bd (bd (oM (i3 "tuple" (bf A))) λb18=>if b18 then bn (bf A)else oM (pF [bf A])) λx19=>M.ret (some x19))=.ret (some (.str (cA A))):=λA hA=>by
  obtain⟨n1,n2⟩:=hA.nine hs
  rw[D8,oMS,bdR,ai rfl,tm n1 n2,bdR]
 have pI:∀n:Nat,n<=9->(bd (bd (oM (i3 "tuple" (iN n))) λb18=>if b18 then bn (iN n)else oM (pF [iN n])) λx19=>M.ret (some x19))=.ret (some (.str (iu n))):=λn hn=>by
  rw[D9,oMS,bdR,ac (by decide),str_is hn,oMS,bdR]
 cases q with
 | least A m =>
  unfold bM
  show bd (bd (oM (aS (.tuple [.str "least",bf A,iN m]) (.int 0))) _) _=_
  have cm:bg (λd17=>bd (bd (oM (i3 "tuple" d17)) λb18=>if b18 then bn d17 else oM (pF [d17])) λx19=>M.ret (some x19)) [bf A,iN m]=.ret [.str (cA A),.str (iu m)]:=by
   unfold bg bg bg;rw[pT A h.1,pI m h.2.2.2];rfl
  have i0:aS (Qn.least A m).d (.int 0)=some (.str "least"):=by show aS (.tuple [.str "least",bf A,iN m]) (.int 0)=_;rw[lx,tw]
  rw[lx,tw,oMS,bdR,show bO (.str "least") (.tuple [.str "not",.str "both",.str "either"])=some false from by kernel_rfl,oMS,bdR,ac (by decide),show asI (.int 1)=.ret (some 1)from rfl,bdR,show cY (Qn.least A m).d (some 1) none=some (.tuple [bf A,iN m])from rfl,oMS,bdR,show d9 (.tuple [bf A,iN m])=some [bf A,iN m]from rfl,oMS,bdR,cm,bdR,dA (by simp),bdR,bdR,i0,oMS,bdR,bdR,bdR,CU (by simp),oMS,bdR,mL]
  rw[show(PyData.list ([.str "least"]++[.str (cA A),.str (iu m)]))=.list ((wrd (.least A m)).map PyData.str)from rfl,lj,oMS,bdR]
 | more A B =>
  unfold bM
  show bd (bd (oM (aS (.tuple [.str "more",bf A,bf B]) (.int 0))) _) _=_
  have cm:bg (λd17=>bd (bd (oM (i3 "tuple" d17)) λb18=>if b18 then bn d17 else oM (pF [d17])) λx19=>M.ret (some x19)) [bf A,bf B]=.ret [.str (cA A),.str (cA B)]:=by
   unfold bg bg bg;rw[pT A h.1,pT B h.2.1];rfl
  have i0:aS (Qn.more A B).d (.int 0)=some (.str "more"):=by show aS (.tuple [.str "more",bf A,bf B]) (.int 0)=_;rw[lx,tw]
  rw[lx,tw,oMS,bdR,show bO (.str "more") (.tuple [.str "not",.str "both",.str "either"])=some false from by kernel_rfl,oMS,bdR,ac (by decide),show asI (.int 1)=.ret (some 1)from rfl,bdR,show cY (Qn.more A B).d (some 1) none=some (.tuple [bf A,bf B])from rfl,oMS,bdR,show d9 (.tuple [bf A,bf B])=some [bf A,bf B]from rfl,oMS,bdR,cm,bdR,dA (by simp),bdR,bdR,i0,oMS,bdR,bdR,bdR,CU (by simp),oMS,bdR,mL]
  rw[show(PyData.list ([.str "more"]++[.str (cA A),.str (cA B)]))=.list ((wrd (.more A B)).map PyData.str)from rfl,lj,oMS,bdR]
 | rest A b r =>
  unfold bM
  show bd (bd (oM (aS (.tuple [.str "rest",bf A,iN b,iN r]) (.int 0))) _) _=_
  have hr:r<=9:=by have:=h.2.2.2.1;have:=h.2.2.2.2;lia
  have cm:bg (λd17=>bd (bd (oM (i3 "tuple" d17)) λb18=>if b18 then bn d17 else oM (pF [d17])) λx19=>M.ret (some x19)) [bf A,iN b,iN r]=.ret [.str (cA A),.str (iu b),.str (iu r)]:=by
   unfold bg bg bg bg;rw[pT A h.1,pI b h.2.2.2.1,pI r hr];rfl
  have i0:aS (Qn.rest A b r).d (.int 0)=some (.str "rest"):=by show aS (.tuple [.str "rest",bf A,iN b,iN r]) (.int 0)=_;rw[lx,tw]
  rw[lx,tw,oMS,bdR,show bO (.str "rest") (.tuple [.str "not",.str "both",.str "either"])=some false from by kernel_rfl,oMS,bdR,ac (by decide),show asI (.int 1)=.ret (some 1)from rfl,bdR,show cY (Qn.rest A b r).d (some 1) none=some (.tuple [bf A,iN b,iN r])from rfl,oMS,bdR,show d9 (.tuple [bf A,iN b,iN r])=some [bf A,iN b,iN r]from rfl,oMS,bdR,cm,bdR,dA (by simp),bdR,bdR,i0,oMS,bdR,bdR,bdR,CU (by simp),oMS,bdR,mL]
  rw[show(PyData.list ([.str "rest"]++[.str (cA A),.str (iu b),.str (iu r)]))=.list ((wrd (.rest A b r)).map PyData.str)from rfl,lj,oMS,bdR]
 | neg q=>simp[Qn.deep]at hd
 | both q p=>simp[Qn.deep]at hd
 | either q p=>simp[Qn.deep]at hd
end
theorem v4{k:Nat}(h:A.Sublist (List.range k)):Up k A:=⟨List.Pairwise.sublist h List.pairwise_lt_range,λa ha=>List.mem_range.mp (h.subset ha),by have:=h.length_le;rwa [nc]at this⟩
theorem rL{T:Type}{step:T->D->M (Option D×T)}{P:Nat->T->Prop}:∀(ds:List D) (i:Nat) (s:T),
  (∀(j:Nat) (s:T) (d:D),d∈ds->i<=j->j<i+ds.length->P j s->∃o s',step s d=.ret (o,s')/\P (j+1) s'/\(o=some d\/o=none))->P i s ->
  ∃xs s',cZ step ds s=.ret (xs,s')/\P (i+ds.length) s'/\xs.Sublist ds
 | [],i,s,_,hp=>⟨[],s,rfl,hp,.slnil⟩
 | d::r,i,s,h,hp=>by
  obtain⟨o,s1,e1,p1,r1⟩:=h i s d au (ay _) (by simp) hp
  obtain⟨xs,s2,e2,p2,l2⟩:=rL r (i+1) s1 (λj s d hd hj hl=>h j s d (zzg _ hd) (by lia) (by simp;lia)) p1
  have hi:i+(d::r).length=i+1+r.length:=by simp;lia
  rw[hi]
  rcases r1 with rfl|rfl
  ·exact⟨d::xs,s2,by rw[cZ,e1];simp only[fm,gy];rw[e2];rfl,p2,l2.cons_cons _⟩
  ·exact⟨xs,s2,by rw[cZ,e1];simp only[fm,gy];rw[e2];rfl,p2,l2.cons _⟩
theorem Dc{xs:List D}{l:List Nat}(h:xs.Sublist (l.map iN)):∃s:List Nat,s.Sublist l/\xs=s.map iN:=by
 obtain⟨l',h1,h2⟩:=List.sublist_map_iff.mp h
 exact⟨l',h1,h2⟩
theorem ya{k:Nat}{f:List D}(hf:Fd T f)(hT:T<=900000)(hk1:1<=k)(hk:k<=4):∃(s:List Nat) (f':List D),eR f (iN k) (.int 1)=.ret (bf s,f')/\Up k s/\s≠[]/\Fd (T+5) f':=by
 unfold eR
 rw[kC _ (by lia),oMS,bdR]
 obtain⟨xs,s1,c1,⟨f1,hs1,hf1⟩,hsub⟩:=rL (P:=λj (s:List D×D×D×Unit)=>∃f,s=(f,iN k,PyData.int 1,())/\Fd (T+j) f)
  (step:=λs2 d3=>bd (aC s2.1 (.int 2)) λr4=>bd (oM (aW r4.1 (.int 0))) λb5=>if b5 then .ret (some d3,(r4.2,s2.2.1,s2.2.2.1,()))else .ret (none,(r4.2,s2.2.1,s2.2.2.1,()))) ((List.range k).map iN) 0 (f,iN k,PyData.int 1,())
  (by
   rintro j s d hd _ hj ⟨f,rfl,hf⟩
   rw[zzd,nc]at hj
   obtain⟨r,f',e,hr,hf'⟩:=bP (m:=2) hf (by lia) (by lia) (by lia)
   have e:aC f (.int 2)=.ret (iN r,f'):=e
   have ez:aW (iN r) (.int 0)=some (decide (r=0)):=eqN r 0
   dsimp only
   rw[e,bdR,ez,oMS,bdR]
   by_cases h:r=0
   ·rw[ai (by simp[h])];exact⟨_,_,rfl,⟨f',rfl,hf'⟩,.inl rfl⟩
   ·rw[ac (by simp[h])];exact⟨_,_,rfl,⟨f',rfl,hf'⟩,.inr rfl⟩) ⟨f,rfl,hf⟩
 subst hs1
 rw[zzd,nc]at hf1
 obtain⟨s,hs,rfl⟩:=Dc hsub
 have hl:=hs.length_le
 rw[nc]at hl
 rw[c1,bdR];dsimp only
 rw[dA (by rw[zzd];lia),bdR,L4.lenL,oMS,bdR,geI,oMS,bdR]
 by_cases h:(1:Int)<=((s.map iN).length:Nat)
 ·rw[ai (by simpa using h),v7,oMS,bdR]
  exact⟨s,f1,rfl,v4 hs,λz=>by rw[z]at h;simp at h,hf1.le (by lia)⟩
 ·rw[ac (by simpa using h)]
  obtain⟨r,f',e,hr,hf'⟩:=bP (m:=k) hf1 (by lia) (by lia) (by lia)
  rw[e,bdR]
  exact⟨[r],f',rfl,⟨List.pairwise_singleton _ _,by simpa using hr,by simpa using hk1⟩,by simp,hf'.le (by lia)⟩
theorem Bs{k:Nat}{f:List D}(hf:Fd T f)(hT:T<=850000)(hk1:1<=k)(hk:k<=4):∃(q:Qn) (f':List D),fA f (iN k)=.ret (q.d,f')/\q.Wf k/\q.deep=0/\q.cnt=1/\Fd (T+20) f':=by
 unfold fA
 obtain⟨w,f1,e,hw,hf1⟩:=bP (m:=3) hf (by lia) (by lia) (by lia)
 have e:aC f (.int 3)=.ret (iN w,f1):=e
 have e0:aW (iN w) (.int 0)=some (decide (w=0)):=eqN w 0
 have e1:aW (iN w) (.int 1)=some (decide (w=1)):=eqN w 1
 rw[e,bdR,e0,oMS,bdR]
 by_cases h0:w=0
 ·rw[ai (by simp[h0])]
  obtain⟨s,f2,es,us,ns,hf2⟩:=ya hf1 (by lia) hk1 hk
  obtain⟨x,f3,ex,hx,hf3⟩:=oG (m:=[(.int 3),(.int 9)]) (by decide) (by decide) hf2 (by lia)
  have hx':∃m:Nat,x=iN m/\1<=m/\m<=9:=by
   simp only[fe,fi,se]at hx
   rcases hx with rfl|rfl
   ·exact⟨3,rfl,by lia,by lia⟩
   ·exact⟨9,rfl,by lia,by lia⟩
  obtain⟨m,rfl,m1,m2⟩:=hx'
  obtain⟨r,f4,er,hr,hf4⟩:=bP (m:=m) hf3 (by lia) (by lia) (by lia)
  have ea:aJ (.int 1) (iN r)=some (iN (1+r)):=EQ 1 r
  rw[es,bdR,ex,bdR,er,bdR,ea,oMS,bdR]
  exact⟨.least s (1+r),f4,rfl,⟨us,ns,by lia,by lia⟩,rfl,rfl,hf4.le (by lia)⟩
 ·rw[ac (by simp[h0]),e1,oMS,bdR]
  by_cases h1:w=1
  ·rw[ai (by simp[h1]),kC _ (by lia),oMS,bdR]
   obtain⟨xs,s1,c1,⟨f2,hs1,hf2⟩,l1,r1⟩:=Cr (P:=λj (s:List D×D×Unit)=>∃f,s=(f,iN k,())/\Fd (T+1+j) f) (e:=iN) (R:=λx=>x<3)
    (step:=λs9 d10=>bd (aC s9.1 (.int 3)) λr11=>.ret (some r11.1,(r11.2,s9.2.1,()))) ((List.range k).map iN) (f1,iN k,())
    (by
     rintro j s d hd ⟨f,rfl,hf⟩
     have hj:j<k:=by
      have:=(List.getElem?_eq_some_iff.mp hd).1
      rw[zzd,nc]at this;exact this
     obtain⟨x,f',e,hx,hf'⟩:=bP (m:=3) hf (by lia) (by lia) (by lia)
     have e:aC f (.int 3)=.ret (iN x,f'):=e
     dsimp only
     rw[e,bdR]
     exact⟨x,_,rfl,⟨f',rfl,hf'⟩,hx⟩) ⟨f1,rfl,hf1⟩
   subst hs1
   rw[zzd,nc]at hf2 l1
   rw[c1,bdR];dsimp only
   have cc:∀v:Nat,bg (λd14=>bd (bd (oM (aS (PyData.list (xs.map iN)) d14)) λx15=>oM (aW x15 (.int (v:Int)))) λb16=>if b16 then .ret (some d14)else .ret none) ((List.range k).map iN)=.ret (((List.range k).filter λx=>decide (xs.getD x 0=v)).map iN):=λv=>by
    rw[lA (e:=iN) (g:=λx=>if decide (xs.getD x 0=v)=true then some (iN x)else none) (List.range k) (λi hi=>by
     have hi:=List.mem_range.mp hi
     have ei:aS (.list (xs.map iN)) (iN i)=some (iN (xs.getD i 0)):=by
      show jz (.list (xs.map iN)) (.int (i:Int))=_
      have:=jv (xs.map iN) i (by rw[zzd];lia)
      refine this.trans ?_
      rw[List.getElem_map]
      congr 2
      simp[List.getD,l1▸hi]
     have e2:aW (iN (xs.getD i 0)) (.int (v:Int))=some (decide (xs.getD i 0=v)):=eqN _ v
     rw[ei,oMS,bdR,e2,oMS,bdR]
     by_cases h:xs.getD i 0=v
     ·rw[ai (by rw[aw h]),ai (by rw[aw h])]
     ·rw[ac (by rw[bi h];decide),ac (by rw[bi h];decide)]),eJ]
   have lf:∀v:Nat,(((List.range k).filter λx=>decide (xs.getD x 0=v)).map iN).length<=1000:=λv=>by
    have:=Mh (λx=>decide (xs.getD x 0=v)) (List.range k)
    rw[nc]at this
    rw[zzd];lia
   rw[dA (by rw[zzd];lia),bdR,kC _ (by lia),oMS,bdR,show PyData.int 0=.int ((0:Nat):Int)from rfl,cc 0,bdR,dA (lf 0),bdR,bdR,v7,oMS,bdR,bdR,show PyData.int 1=.int ((1:Nat):Int)from rfl,cc 1,bdR,dA (lf 1),bdR,bdR,v7,oMS,bdR,bdR]
   refine⟨.more ((List.range k).filter λx=>decide (xs.getD x 0=0)) ((List.range k).filter λx=>decide (xs.getD x 0=1)),f2,rfl,⟨v4 List.filter_sublist,v4 List.filter_sublist,?_⟩,rfl,rfl,hf2.le (by lia)⟩
   intro x hx hx2
   have a:=(List.mem_filter.mp hx).2
   have b:=(List.mem_filter.mp hx2).2
   rw[zzi]at a b
   lia
  ·rw[ac (by simp[h1])]
   obtain⟨x,f3,ex,hx,hf3⟩:=oG (m:=[(.int 2),(.int 8)]) (by decide) (by decide) hf1 (by lia)
   have hx':∃m:Nat,x=iN m/\1<=m/\m<=8:=by
    simp only[fe,fi,se]at hx
    rcases hx with rfl|rfl
    ·exact⟨2,rfl,by lia,by lia⟩
    ·exact⟨8,rfl,by lia,by lia⟩
   obtain⟨m,rfl,m1,m2⟩:=hx'
   obtain⟨r,f4,er,hr,hf4⟩:=bP (m:=m) hf3 (by lia) (by lia) (by lia)
   have ea:aJ (.int 2) (iN r)=some (iN (2+r)):=EQ 2 r
   obtain⟨s,f5,es,us,ns,hf5⟩:=ya hf4 (by lia) hk1 hk
   obtain⟨y,f6,ey,hy,hf6⟩:=bP (m:=2+r) hf5 (by lia) (by lia) (by lia)
   rw[ex,bdR,er,bdR,ea,oMS,bdR,es,bdR,ey,bdR]
   exact⟨.rest s (2+r) y,f6,rfl,⟨us,ns,by lia,by lia,hy⟩,rfl,rfl,hf6.le (by lia)⟩
theorem fY{k:Nat}(hk1:1<=k)(hk:k<=4):∀(i:Nat) {T size deep:Nat} {f:List D},Fd T f->T+40*size<=800000->1<=size->1<=deep->deep<=i ->
  ∃(q:Qn) (f':List D),cb i f (iN k) (iN size) (iN deep)=.ret (q.d,f')/\q.Wf k/\q.deep<deep/\q.cnt<=size/\Fd (T+40*size) f'
 | 0,_,_,_,_,_,_,_,_,_=>by lia
 | i+1,T,size,deep,f,hf,hT,hs,hd1,hd=>by
  show ∃(q:Qn) (f':List D),dW (cb i) f (iN k) (iN size) (iN deep)=_/\_
  unfold dW
  obtain⟨w,f1,e,hw,hf1⟩:=bP (m:=4) hf (by lia) (by lia) (by lia)
  have e:aC f (.int 4)=.ret (iN w,f1):=e
  have es1:aW (iN size) (.int 1)=some (decide (size=1)):=eqN size 1
  have es2:aW (iN size) (.int 2)=some (decide (size=2)):=eqN size 2
  have ed1:aW (iN deep) (.int 1)=some (decide (deep=1)):=eqN deep 1
  have ew0:aW (iN w) (.int 0)=some (decide (w=0)):=eqN w 0
  have ew1:aW (iN w) (.int 1)=some (decide (w=1)):=eqN w 1
  rw[e,bdR,es1,oMS,bdR,ed1,oMS,bdR,ew0,oMS,B0,B0,bdR]
  by_cases h0:size=1\/deep=1\/w=0
  ·rw[ai (by simpa using h0)]
   obtain⟨q,f2,eq,ok,dp,rm,hf2⟩:=Bs hf1 (by lia) hk1 hk
   rw[eq,bdR]
   exact⟨q,f2,rfl,ok,by lia,by lia,hf2.le (by lia)⟩
  ·rw[ac (by simpa using h0),ew1,oMS,bdR,es2,oMS,B0,bdR]
   have sz1:cy (iN size) (.int 1)=some (iN (size - 1)):=AQ size (by lia)
   have dp1:cy (iN deep) (.int 1)=some (iN (deep - 1)):=AQ deep (by lia)
   by_cases h1:w=1\/size=2
   ·rw[ai (by simpa using h1),sz1,oMS,bdR,dp1,oMS,bdR]
    obtain⟨q,f2,eq,ok,dp,rm,hf2⟩:=fY hk1 hk i (size:=size - 1) (deep:=deep - 1) hf1 (by lia) (by lia) (by lia) (by lia)
    rw[eq,bdR]
    exact⟨q.neg,f2,rfl,ok,by simp only[Qn.deep];lia,by simp only[Qn.cnt];lia,hf2.le (by lia)⟩
   ·rw[ac (by simpa using h1)]
    have sz2:cy (iN size) (.int 2)=some (iN (size - 2)):=FP size 2 (by lia)
    obtain⟨r,f2,er,hr,hf2⟩:=bP (m:=size - 2) hf1 (by lia) (by lia) (by lia)
    have ea:aJ (.int 1) (iN r)=some (iN (1+r)):=EQ 1 r
    obtain⟨q,f3,eq,ok,dp,rm,hf3⟩:=fY hk1 hk i (size:=1+r) (deep:=deep - 1) hf2 (by lia) (by lia) (by lia) (by lia)
    have em:fQ (iN w) (.int 2)=some (iN (w % 2)):=KO w 2 (by lia)
    obtain⟨q2,f4,eq2,ok2,dp2,rm2,hf4⟩:=fY hk1 hk i (size:=size - 1 - (1+r)) (deep:=deep - 1) hf3 (by lia) (by lia) (by lia) (by lia)
    rcases Nat.mod_two_eq_zero_or_one w with h|h
    ·rw[h]at em
     rw[sz2,oMS,bdR,er,bdR,ea,oMS,bdR,dp1,oMS,bdR,eq,bdR,em,oMS,bdR,show aS (.list [.str "both",.str "either"]) (iN 0)=some (.str "both")from rfl,oMS,bdR,sz1,oMS,bdR,FP _ _ (by lia),oMS,bdR,bdR,eq2,bdR]
     exact⟨.both q q2,f4,rfl,⟨ok,ok2⟩,by simp only[Qn.deep];lia,by simp only[Qn.cnt];lia,hf4.le (by lia)⟩
    ·rw[h]at em
     rw[sz2,oMS,bdR,er,bdR,ea,oMS,bdR,dp1,oMS,bdR,eq,bdR,em,oMS,bdR,show aS (.list [.str "both",.str "either"]) (iN 1)=some (.str "either")from rfl,oMS,bdR,sz1,oMS,bdR,FP _ _ (by lia),oMS,bdR,bdR,eq2,bdR]
     exact⟨.either q q2,f4,rfl,⟨ok,ok2⟩,by simp only[Qn.deep];lia,by simp only[Qn.cnt];lia,hf4.le (by lia)⟩
section
variable {s:Nat} (hs:s<=5)
include hs
theorem wX:∀(i:Nat) (q:Qn),q.Wf s->q.cnt<=20->q.deep<i->eQ i q.d=.ret (.str (text q)):=by
 intro i
 induction i with
 | zero=>intro q _ _ h;lia
 | succ i ih =>
  intro q h hc hd
  rw[eQ]
  cases q with
  | least A m=>exact g8 hs h rfl hc
  | more A m=>exact g8 hs h rfl hc
  | rest A b r=>exact g8 hs h rfl hc
  | neg q =>
   simp only[Qn.cnt,Qn.deep]at hc hd
   exact u5 hs h (by lia) (ih q h (by lia) (by lia))
  | both q p =>
   simp only[Qn.cnt,Qn.deep]at hc hd
   exact mQ hs (by kernel_rfl) (by decide +kernel) h.1 h.2 (by lia) (by lia) (ih q h.1 (by lia) (by lia)) (ih p h.2 (by lia) (by lia))
  | either q p =>
   simp only[Qn.cnt,Qn.deep]at hc hd
   exact mQ hs (by kernel_rfl) (by decide +kernel) h.1 h.2 (by lia) (by lia) (ih q h.1 (by lia) (by lia)) (ih p h.2 (by lia) (by lia))
end
theorem fg(A:List Nat):PyData.strOk (cA A)=true:=by
 unfold cA
 split
 ·exact aT _
 ·refine fK (aT ",") λt ht=>?_
  obtain⟨n,_,rfl⟩:=List.mem_map.mp ht
  exact aT _
theorem zv:∀(q:Qn),∀w∈wrd q,PyData.strOk w=true:=by
 intro q
 induction q with
 | least A m =>
  intro w hw
  simp only[wrd,fe,fi,se]at hw
  rcases hw with rfl|rfl|rfl
  ·exact aT _
  ·exact fg A
  ·exact aT _
 | more A B =>
  intro w hw
  simp only[wrd,fe,fi,se]at hw
  rcases hw with rfl|rfl|rfl
  ·exact aT _
  ·exact fg A
  ·exact fg B
 | rest A b r =>
  intro w hw
  simp only[wrd,fe,fi,se]at hw
  rcases hw with rfl|rfl|rfl|rfl
  ·exact aT _
  ·exact fg A
  ·exact aT _
  ·exact aT _
 | neg q ih =>
  intro w hw
  simp only[wrd,fe]at hw
  rcases hw with rfl|hw
  ·exact aT _
  ·exact ih w hw
 | both q p ih1 ih2 =>
  intro w hw
  simp only[wrd,fe,List.mem_append]at hw
  rcases hw with rfl|hw|hw
  ·exact aT _
  ·exact ih1 w hw
  ·exact ih2 w hw
 | either q p ih1 ih2 =>
  intro w hw
  simp only[wrd,fe,List.mem_append]at hw
  rcases hw with rfl|hw|hw
  ·exact aT _
  ·exact ih1 w hw
  ·exact ih2 w hw
theorem v8(q:Qn):PyData.strOk (text q)=true:=by
 unfold text
 rw[show sg 32=Str.ofString " " from sp_is.symm]
 exact fK (aT " ") (zv q)
def wt(ws:List Str):Nat:=(ws.map (·.length)).sum+ws.length
theorem dM(a b:List Str):wt (a++b)=wt a+wt b:=by
 unfold wt
 rw[jo,List.sum_append,zzf]
 omega
theorem ji(a:List Str)(n:Nat):wt (a.take n)<=wt a:=by
 have:=dM (a.take n) (a.drop n)
 rw[wT]at this
 omega
theorem jj(a:List Str)(n:Nat):wt (a.drop n)<=wt a:=by
 have:=dM (a.take n) (a.drop n)
 rw[wT]at this
 omega
theorem BY(c:Nat):∀L:List (List Nat),L≠[]->(jl c L).length+1=(L.map (·.length)).sum+L.length
 | [],h=>absurd rfl h
 | [a],_=>by simp[jl]
 | a::b::r,_=>by
  have ih:=BY c (b::r) (by simp)
  unfold jl
  rw[zzf,ci,ba,List.sum_cons,ci]
  omega
theorem FJ(x:Str):wt (spW x)<=x.length+1:=by
 by_cases h:spW x=[]
 ·rw[h];exact eE _
 ·have e:=join_list 32 (spW x)
  rw[show sg 32=space from sp_is.symm,vd]at e
  have l:=BY 32 ((spW x).map λw=>w.cps.toList) (by simpa using h)
  rw[<-e,len_list,li,zzd]at l
  have:(spW x).map ((λx=>x.length)∘λw:Str=>w.cps.toList)=(spW x).map (·.length):=Ba λw _=>len_list w
  rw[this]at l
  unfold wt
  omega
theorem nz{ws:List Str}(hok:∀w∈ws,PyData.strOk w=true)(hl:wt ws<=100000):∃y:Str,im (.str " ") [.list (ws.map PyData.str)]=some (.str y)/\PyData.strOk y=true/\y.length<=wt ws:=by
 refine⟨Str.join space ws,?_,fK (aT " ") hok,?_⟩
 ·show(match strsOf (ws.map PyData.str)with
   | some xs=>if JoinOk space xs then some (PyData.str (Txt.join space xs))else none
   | none=>none)=_
  rw[jK]
  dsimp only
  rw[ai ?_]
  ·unfold Txt.join
   rw[StrLaws.glued_eq_join]
  ·unfold JoinOk
   rw[ot]
   refine joinFits_of_weight ?_ (by rw[qN];decide)
   unfold wt at hl
   omega
 ·have:=StrLaws.join_length_le space ws
  rw[qN]at this
  unfold wt
  omega
theorem tY(a b:Str):(a++b).length=a.length+b.length:=by
 show(a++b).cps.size=_
 rw[PySem.Str.cps_append,Array.size_append]
 rfl
theorem zd(x:Str)(lo hi:Option Int):(j7 x lo hi).length<=x.length:=by
 unfold j7
 split
 ·exact ay _
 ·show(List.toArray _).size<=_
  rw[ce]
  exact bj (List.length_filterMap_le _ _) (PySem.sliceIndices_le lo hi x.length)
theorem Cp(h:PyData.strOk x=true)(lo hi:Option Int):PyData.strOk (j7 x lo hi)=true:=by
 unfold j7
 split
 ·exact h
 ·rw[strOk_iff]at h ⊢
  intro c hc
  have hc':c∈(Builtin.Str.strSliceIndices lo hi 1 x.length).filterMap (x.cps[·]?):=by simpa using hc
  obtain⟨i,_,e⟩:=List.mem_filterMap.mp hc'
  refine h c ?_
  rw[<-ir]at e
  exact ii e
theorem add_str{a b:Str}(h:a.length+b.length<=50000):aJ (.str a) (.str b)=some (.str (a++b)):=ai (bj h (by decide))
theorem qb(a b:List D)(h:a.length+b.length<=100000):aJ (.list a) (.list b)=some (.list (a++b)):=ai (bj h (by decide))
theorem tO(W:List Str)(n:Nat):cY (lW W) none (some (n:Int))=some (lW (W.take n)):=by
 show some (PyData.list (L4.cutD (W.map PyData.str) none (some (n:Int))))=_
 rw[Ht,<-List.map_take]
theorem tN(W:List Str)(n:Nat):cY (lW W) (some (n:Int)) none=some (lW (W.drop n)):=by
 show some (PyData.list (L4.cutD (W.map PyData.str) (some (n:Int)) none))=_
 rw[Hs,<-List.map_drop]
theorem Cq(W:List Str)(lo hi:Option Int):∃V:List Str,cY (lW W) lo hi=some (lW V)/\(∀w∈V,w∈W)/\wt V<=wt W:=by
 refine⟨(W.drop (HT.sIx (W.map PyData.str).length 0 lo)).take (HT.sIx (W.map PyData.str).length (W.map PyData.str).length hi - HT.sIx (W.map PyData.str).length 0 lo),?_,λw hw=>ye (Lx hw),bj (ji _ _) (jj _ _)⟩
 show some (PyData.list (L4.cutD (W.map PyData.str) lo hi))=_
 unfold L4.cutD
 rw[<-List.map_drop,<-List.map_take]
theorem rX(n:Nat):asI (iN n)=.ret (some (n:Int)):=rfl
abbrev odd:List Str:=["", "-", "0", "1", "2", "3", "9", "10", "0,1", "1,0", "0,0", "1,2", "00", "01", "-1", "+1", "1_0", "0,", ",0", "x", "least", "more", "rest", "not", "both", "either", "Not", "1234567890", "0,1,2,3", "both 0", "0 1"]
theorem GM:∀o∈odd,PyData.strOk o=true/\o.length<=10:=by
 have:odd.all (λo=>PyData.strOk o&&decide (o.length<=10))=true:=by decide +kernel
 intro o ho
 have:=List.all_eq_true.mp this o ho
 rw[am,zzi]at this
 exact this
abbrev sgn:Str:=Str.ofString " 0123456789,-+_abeilmnorst"
theorem DM{f:List D}(h:Fd T f)(hT:T<=1000000):∃(c:Str) (f':List D),bE f (.str " 0123456789,-+_abeilmnorst")=.ret (.str c,f')/\PyData.strOk c=true/\c.length=1/\Fd (T+1) f':=by
 unfold bE
 have hl:sgn.length=26:=by decide +kernel
 rw[show ej [.str " 0123456789,-+_abeilmnorst"]=some (iN 26)from by kernel_rfl,oMS,bdR]
 obtain⟨r,f',t1,t2,t3⟩:=bP (m:=26) h hT (by omega) (by omega)
 have hr:r<sgn.cps.toList.length:=by rw[len_list,hl];exact t2
 have e:aS (.str " 0123456789,-+_abeilmnorst") (iN r)=some (ch (sgn.cps.toList[r])):=by
  show(if sgn.length<=sizeLine then(atI sgn.cps.toList (r:Int)).map λc=>PyData.str ⟨#[c]⟩else none)=_
  rw[ai (by rw[hl];decide),jv _ _ hr]
  rfl
 rw[show aC f (iN 26)=_ from t1,bdR]
 dsimp only
 rw[e,oMS,bdR]
 exact⟨_,f',rfl,kx (x:=sgn) (aT _) (List.getElem_mem hr),rfl,t3⟩
theorem mul_str{c:Str}(hc:c.length<=1000){b:Nat}(hb:b<2):∃z:Str,oE (.str c) (iN b)=some (.str z)/\(PyData.strOk c=true->PyData.strOk z=true)/\z.length<=c.length:=by
 have k:∀z:Str,wM c (b:Int)=z->z.length<=c.length->oE (.str c) (iN b)=some (.str z):=λz e hz=>by
  show(if lV c (b:Int)then some (PyData.str (wM c (b:Int)))else none)=_
  rw[ai,e]
  unfold lV
  rw[e,aw (by omega),aw (by omega),aw hc,aw (bj hz (bj hc (by decide)))]
  rfl
 rcases(by omega:b=0\/b=1)with rfl|rfl
 ·exact⟨Str.empty,k _ rfl (eE _),λ_=>by decide +kernel,eE _⟩
 ·exact⟨c,k _ rfl (ay _),λh=>h,ay _⟩
def ET(T:Nat)(x:Str)(m:M (D×List D)):Prop:=∃(y:Str) (f':List D),m=.ret (.str y,f')/\PyData.strOk y=true/\y.length<=2*x.length+40/\Fd (T+10) f'
set_option maxHeartbeats 1000000 in
theorem Ez{f:List D}(hf:Fd T f)(hT:T<=900000)(hx:PyData.strOk x=true)(hl:x.length<=9000):ET T x (gj f (.str x)):=by
 have hwd:Wd x:=⟨hx,by omega⟩
 have hW:=wg hwd (by omega)
 have hwl:=sj (x:=x)
 have hwt:=FJ x
 have hWo:∀w∈spW x,PyData.strOk w=true:=λw hw=>(hW w hw).1.ok
 unfold gj
 obtain⟨at_,f1,e1,h1,hf1⟩:=bP (m:=(spW x).length+1) hf (by omega) (by omega) (by omega)
 have o1:aJ (PyData.list [(.str ""),(.str "-"),(.str "0"),(.str "1"),(.str "2"),(.str "3"),(.str "9"),(.str "10"),(.str "0,1"),(.str "1,0"),(.str "0,0"),(.str "1,2"),(.str "00"),(.str "01"),(.str "-1"),(.str "+1"),(.str "1_0"),(.str "0,")]) (PyData.list [(.str ",0"),(.str "x"),(.str "least"),(.str "more"),(.str "rest"),(.str "not"),(.str "both"),(.str "either"),(.str "Not"),(.str "1234567890"),(.str "0,1,2,3")])=some (lW (odd.take 29)):=qb _ _ (by simp)
 have o2:aJ (lW (odd.take 29)) (PyData.list [(.str "both 0"),(.str "0 1")])=some (lW odd):=qb _ _ (by simp)
 obtain⟨way,f2,e2,h2,hf2⟩:=bP (m:=5) hf1 (by omega) (by omega) (by omega)
 rw[nL (by omega),bdR,bdR,z6,oMS,bdR,show aJ (iN (spW x).length) (.int 1)=_ from gK (spW x).length 1,oMS,bdR,show aC f (iN ((spW x).length+1))=_ from e1,bdR]
 dsimp only
 rw[o1,oMS,bdR,o2,oMS,bdR,show aC f1 (.int 5)=_ from e2,bdR]
 dsimp only
 have lt:iT (iN way) (.int 2)=some (decide (way<2)):=by
  show zU (.int _) (.int _)=_
  rw[L4.ltI]
  exact congrArg some (decide_eq_decide.mpr (by omega))
 rw[lt,oMS,bdR]
 by_cases c1:way<2
 ·rw[aw c1,ai rfl,rX,bdR,tO,oMS,bdR]
  obtain⟨d,f3,e3,hd,hf3⟩:=oG (m:=odd.map PyData.str) (by simp) (by simp) hf2 (by omega)
  obtain⟨o,ho,rfl⟩:=List.mem_map.mp hd
  obtain⟨q1,q2⟩:=GM o ho
  obtain⟨y,j1,j2,j3⟩:=nz (ws:=(spW x).take at_++[o]++(spW x).drop (at_+way)) (λw hw=>by
   rcases List.mem_append.mp hw with hw|hw
   ·rcases List.mem_append.mp hw with hw|hw
    ·exact hWo w (Lx hw)
    ·rw[List.mem_singleton.mp hw];exact q1
   ·exact hWo w (ye hw)) (by
    rw[dM,dM]
    have:=ji (spW x) at_
    have:=jj (spW x) (at_+way)
    have:wt [o]=o.length+1:=by simp[wt]
    omega)
  rw[show bE f2 (lW odd)=_ from e3,bdR]
  dsimp only
  rw[show aJ (lW ((spW x).take at_)) (.list [.str o])=some (lW ((spW x).take at_++[o]))from(qb _ _ (by rw[zzd,ls];simp;omega)).trans (by show _=some (PyData.list (((spW x).take at_++[o]).map PyData.str));rw[jo];rfl),oMS,bdR,gK,oMS,bdR,rX,bdR,tN,oMS,bdR,show aJ (lW ((spW x).take at_++[o])) (lW ((spW x).drop (at_+way)))=some (lW ((spW x).take at_++[o]++(spW x).drop (at_+way)))from(qb _ _ (by rw[zzd,zzd,zzf,ls,u8];simp;omega)).trans (by rw[<-jo]),oMS,bdR,j1,oMS,bdR]
  refine⟨y,f3,rfl,j2,?_,hf3.le (by omega)⟩
  refine bj j3 ?_
  rw[dM,dM]
  have:=ji (spW x) at_
  have:=jj (spW x) (at_+way)
  have:wt [o]=o.length+1:=by simp[wt]
  omega
 ·rw[bi c1,ac (by decide),show aW (iN way) (.int 2)=_ from pJ way 2,oMS,bdR]
  by_cases c2:way=2
  ·obtain⟨y,j1,j2,j3⟩:=nz (ws:=(spW x).take at_++(spW x).drop (at_+1)) (λw hw=>by
    rcases List.mem_append.mp hw with hw|hw
    ·exact hWo w (Lx hw)
    ·exact hWo w (ye hw)) (by
     rw[dM]
     have:=ji (spW x) at_
     have:=jj (spW x) (at_+1)
     omega)
   rw[aw c2,ai rfl,rX,bdR,tO,oMS,bdR,show aJ (iN at_) (.int 1)=_ from gK at_ 1,oMS,bdR,rX,bdR,tN,oMS,bdR,show aJ (lW ((spW x).take at_)) (lW ((spW x).drop (at_+1)))=some (lW ((spW x).take at_++(spW x).drop (at_+1)))from(qb _ _ (by rw[zzd,zzd,ls,u8];omega)).trans (by rw[<-jo]),oMS,bdR,j1,oMS,mL,bdR]
   refine⟨y,f2,rfl,j2,?_,hf2.le (by omega)⟩
   refine bj j3 ?_
   rw[dM]
   have:=ji (spW x) at_
   have:=jj (spW x) (at_+1)
   omega
  ·rw[bi c2,ac (by decide),show aW (iN way) (.int 3)=_ from pJ way 3,oMS,bdR]
   by_cases c3:way=3
   ·obtain⟨V,v1,v2,v3⟩:=Cq (spW x) (some ((at_:Int) - 1)) (some (at_:Int))
    have vl:V.length<=wt V:=by unfold wt;omega
    obtain⟨y,j1,j2,j3⟩:=nz (ws:=(spW x).take at_++V++(spW x).drop at_) (λw hw=>by
     rcases List.mem_append.mp hw with hw|hw
     ·rcases List.mem_append.mp hw with hw|hw
      ·exact hWo w (Lx hw)
      ·exact hWo w (v2 w hw)
     ·exact hWo w (ye hw)) (by
      rw[dM,dM]
      have:=ji (spW x) at_
      have:=jj (spW x) at_
      omega)
    rw[aw c3,ai rfl,rX,bdR,tO,oMS,bdR,show cy (iN at_) (.int 1)=some (.int ((at_:Int) - 1))from rfl,oMS,bdR,show asI (.int ((at_:Int) - 1))=M.ret (some ((at_:Int) - 1))from rfl,bdR,bdR,v1,oMS,bdR,show aJ (lW ((spW x).take at_)) (lW V)=some (lW ((spW x).take at_++V))from(qb _ _ (by rw[zzd,zzd,ls];omega)).trans (by rw[<-jo]),oMS,bdR,bdR,tN,oMS,bdR,show aJ (lW ((spW x).take at_++V)) (lW ((spW x).drop at_))=some (lW ((spW x).take at_++V++(spW x).drop at_))from(qb _ _ (by rw[zzd,zzd,zzf,ls,u8];omega)).trans (by rw[<-jo]),oMS,bdR,j1,oMS,mL,bdR]
    refine⟨y,f2,rfl,j2,?_,hf2.le (by omega)⟩
    refine bj j3 ?_
    rw[dM,dM]
    have a:=dM ((spW x).take at_) ((spW x).drop at_)
    rw[wT]at a
    omega
   ·rw[bi c3,ac (by decide),wV x (by omega),oMS,bdR,show aJ (iN x.length) (.int 1)=_ from gK x.length 1,oMS,bdR]
    obtain⟨sp,f3,e3,h3,hf3⟩:=bP (m:=x.length+1) hf2 (by omega) (by omega) (by omega)
    obtain⟨c,f4,e4,k1,k2,hf4⟩:=DM hf3 (by omega)
    obtain⟨b,f5,e5,h5,hf5⟩:=bP (m:=2) hf4 (by omega) (by omega) (by omega)
    obtain⟨z,z1,z2,z3⟩:=mul_str (c:=c) (by omega) h5
    obtain⟨g,f6,e6,h6,hf6⟩:=bP (m:=2) hf5 (by omega) (by omega) (by omega)
    have l1:=zd x none (some (sp:Int))
    have l2:=zd x (some ((sp+g:Nat):Int)) none
    rw[show aC f2 (iN (x.length+1))=_ from e3,bdR]
    dsimp only
    rw[rX,bdR,show cY (.str x) none (some (sp:Int))=some (.str (j7 x none (some (sp:Int))))from ai (aw (bj (bj l1 hl) (by decide))),oMS,bdR,e4,bdR]
    dsimp only
    rw[show aC f4 (.int 2)=_ from e5,bdR]
    dsimp only
    rw[z1,oMS,bdR,add_str (by omega),oMS,bdR,show aC f5 (.int 2)=_ from e6,bdR]
    dsimp only
    rw[gK,oMS,bdR,show tL (.str x) (iN (sp+g))=some (.str (j7 x (some ((sp+g:Nat):Int)) none))from ai (aw (bj (bj l2 hl) (by decide))),oMS,bdR,add_str (by rw[tY];omega),oMS,bdR]
    refine⟨_,f6,rfl,fE (fE (Cp hx _ _) (z2 k1)) (Cp hx _ _),?_,hf6.le (by omega)⟩
    rw[tY,tY]
    omega
theorem tj{B:Nat}{f:List D}{s:Nat}(hf:Fd T f)(hT:T<=800000)(hx:PyData.strOk x=true)(hl:x.length<=B)(hB:B<=9000)(hs1:1<=s)(hs:s<=4)(kn5:D×Unit->M D)(sc d:D)(kn25:D×List D×D×D×Unit->M D)
  (kk:∀(y:Str) (f':List D),PyData.strOk y=true->y.length<=2*B+40->Fd (T+20) f'->kn25 (sc,f',iN s,.str y,())=.ret (.bool true)):pU kn5 sc f (iN s) (.str x) d kn25=.ret (.bool true):=by
 unfold pU
 obtain⟨w,f1,e1,h1,hf1⟩:=oG (m:=[iN s,iN s,.int 1,.int 2]) (by simp) (by simp) hf (by omega)
 have hw:∃n:Nat,w=iN n/\1<=n/\n<=4:=by
  simp only[fe,fi,se]at h1
  rcases h1 with rfl|rfl|rfl|rfl
  ·exact⟨s,rfl,hs1,hs⟩
  ·exact⟨s,rfl,hs1,hs⟩
  ·exact⟨1,rfl,by omega,by omega⟩
  ·exact⟨2,rfl,by omega,by omega⟩
 obtain⟨n,rfl,n1,n2⟩:=hw
 rw[show bE f (PyData.list [iN s,iN s,.int 1,.int 2])=_ from e1,bdR]
 dsimp only
 obtain⟨y,f2,e2,y1,y2,hf2⟩:=Ez hf1 (by omega) hx (by omega)
 obtain⟨v,f3,e3,h3,hf3⟩:=bP (m:=3) hf2 (by omega) (by omega) (by omega)
 rw[e2,bdR]
 dsimp only
 rw[alike (x:=y) ⟨y1,by omega⟩ (by omega) n1 n2,ac (by decide),show aC f2 (.int 3)=_ from e3,bdR]
 dsimp only
 rw[show aW (iN v) (.int 0)=_ from pJ v 0,oMS,bdR]
 split
 ·exact kk y f3 y1 (by omega) (hf3.le (by omega))
 ·exact kk x f3 hx (by omega) (hf3.le (by omega))
theorem BQ{f:List D}{s:Nat}(hf:Fd T f)(hT:T<=700000)(hx:PyData.strOk x=true)(hl:x.length<=400)(hs1:1<=s)(hs:s<=4)(kn5:D×Unit->M D)(sc:D)(kk:kn5 (sc,())=.ret (.bool true)):lC kn5 sc f (iN s) (.str x)=.ret (.bool true):=by
 unfold lC
 rw[show bZ [.int 4]=some [iN 0,iN 1,iN 2,iN 3]from by kernel_rfl,oMS,bdR,cV,cp]
 refine tj (B:=400) hf (by omega) hx hl (by omega) hs1 hs kn5 sc _ _ λy1 f1 a1 b1 c1=>?_
 rw[cp]
 refine tj (B:=840) c1 (by omega) a1 (by omega) (by omega) hs1 hs kn5 sc _ _ λy2 f2 a2 b2 c2=>?_
 rw[cp]
 refine tj (B:=1720) c2 (by omega) a2 (by omega) (by omega) hs1 hs kn5 sc _ _ λy3 f3 a3 b3 c3=>?_
 rw[cp]
 refine tj (B:=3480) c3 (by omega) a3 (by omega) (by omega) hs1 hs kn5 sc _ _ λy4 f4 a4 b4 c4=>?_
 rw[cp]
 exact kk
abbrev some11:List Str:=["least", "more", "rest", "not", "both", "either", "0", "1", "-", "0,1", "2"]
theorem AX:∀o∈some11,PyData.strOk o=true/\o.length<=10:=by
 have:some11.all (λo=>PyData.strOk o&&decide (o.length<=10))=true:=by decide +kernel
 intro o ho
 have:=List.all_eq_true.mp this o ho
 rw[am,zzi]at this
 exact this
theorem EV:∀ws:List Str,(∀w∈ws,w.length<=10)->wt ws<=11*ws.length
 | [],_=>by simp[wt]
 | w::ws,h=>by
  have ih:=EV ws λx hx=>h x (zzg _ hx)
  have:=h w au
  have e:=dM [w] ws
  have e1:wt [w]=w.length+1:=by simp[wt]
  rw[show[w]++ws=w::ws from rfl]at e
  rw[ci]
  omega
theorem GW(ns:List Int)(hn:ns.length<=63)(k:Nat)(kn5:D×Unit->M D)(kk:kn5 (.list (ns.map PyData.int),())=.ret (.bool true)):pV (.list (ns.map PyData.int)) (iN k) kn5=.ret (.bool true):=by
 unfold pV
 obtain⟨f,e1,hf⟩:=Ei ns k hn
 rw[e1,bdR]
 obtain⟨s,f1,e2,hs,hf1⟩:=bP (m:=4) hf (by decide) (by decide) (by decide)
 rw[show aC f (.int 4)=_ from e2,bdR];dsimp only
 rw[CV,oMS,bdR]
 obtain⟨z,f2,e3,hz,hf2⟩:=bP (m:=7) hf1 (by decide) (by decide) (by decide)
 rw[show aC f1 (.int 7)=_ from e3,bdR];dsimp only
 rw[CV,oMS,bdR]
 obtain⟨q,f3,e4,wf,dp,ct,hf3⟩:=fY (k:=s+1) (by omega) (by omega) 5 (size:=z+1) (deep:=4) hf2 (by omega) (by omega) (by omega) (by omega)
 rw[show cb 5 f2 (iN (s+1)) (iN (z+1)) (.int 4)=_ from e4,bdR];dsimp only
 have lt:=wX (s:=s+1) (by omega) 6 q wf (by omega) (by omega)
 have tl:=text_len (s:=s+1) (by omega) wf
 obtain⟨g,f4,e5,hg,hf4⟩:=bP (m:=6) hf3 (by omega) (by decide) (by decide)
 rw[lt,bdR,show aC f3 (.int 6)=_ from e5,bdR];dsimp only
 rw[show aW (iN g) (.int 0)=_ from pJ g 0,oMS,bdR]
 by_cases hg0:g=0
 ·rw[aw hg0,ai rfl]
  obtain⟨n,f5,e6,hn5,hf5⟩:=bP (m:=12) hf4 (by omega) (by decide) (by decide)
  rw[show aC f4 (.int 12)=_ from e6,bdR];dsimp only
  rw[CV,oMS,bdR,kC _ (by omega),oMS,bdR]
  obtain⟨xs,st,e7,⟨f6,rfl,hf6⟩,xl,xo⟩:=vy (T:=D×List D×D×D×Unit) (P:=λj s'=>∃f6,s'=(PyData.list (ns.map PyData.int),f6,iN (s+1),lW some11,())/\Fd (1000+j) f6) (R:=λd=>∃o:Str,d=.str o/\PyData.strOk o=true/\o.length<=10)
   (step:=λs18 d19=>bd (bE s18.2.1 s18.2.2.2.1) λr20=>.ret (some r20.1,(s18.1,r20.2,s18.2.2.1,s18.2.2.2.1,())))
   ((List.range (n+1)).map iN) 0 (PyData.list (ns.map PyData.int),f5,iN (s+1),lW some11,()) (by
    rintro j s' d hd _ hj ⟨f6,rfl,hf6⟩
    rw[zzd,nc]at hj
    obtain⟨w,f7,a1,a2,a3⟩:=oG (m:=some11.map PyData.str) (by simp) (by simp) hf6 (by omega)
    obtain⟨o,ho,rfl⟩:=List.mem_map.mp a2
    dsimp only
    rw[show bE f6 (lW some11)=_ from a1,bdR]
    exact⟨_,_,rfl,⟨f7,rfl,a3.le (by omega)⟩,o,rfl,AX o ho⟩) ⟨f5,rfl,hf5.le (by omega)⟩
  rw[zzd,nc]at xl hf6
  obtain⟨ws,hws,ews⟩:∃ws:List Str,(∀w∈ws,PyData.strOk w=true/\w.length<=10)/\xs=ws.map PyData.str:=by
   clear e7 xl
   induction xs with
   | nil=>exact⟨[],(λw h=>nomatch h),rfl⟩
   | cons d xs ih =>
    obtain⟨ws,h1,h2⟩:=ih λx hx=>xo x (zzg _ hx)
    obtain⟨o,rfl,o1⟩:=xo d au
    refine⟨o::ws,λw hw=>?_,by rw[h2];rfl⟩
    rcases List.mem_cons.mp hw with rfl|hw
    ·exact o1
    ·exact h1 w hw
  subst ews
  rw[zzd]at xl
  have hwt:=EV ws λw hw=>(hws w hw).2
  obtain⟨y,j1,j2,j3⟩:=nz (ws:=ws) (λw hw=>(hws w hw).1) (by omega)
  refine Eq.trans (b:=_) (congrArg (λm=>bd m _) e7) ?_
  rw[bdR]
  dsimp only
  rw[dA (by rw[zzd];omega),bdR,j1,oMS,bdR]
  exact BQ hf6 (by omega) j2 (by omega) (by omega) (by omega) kn5 _ kk
 ·rw[bi hg0,ac (by decide)]
  exact BQ hf4 (by omega) (v8 q) (by omega) (by omega) (by omega) kn5 _ kk
theorem main:∀ns:List Int,ns.length<=63->zj (.list (ns.map PyData.int))=.ret (.bool true):=by
 intro ns hn
 unfold zj
 have e1:ej [.list (ns.map PyData.int)]=some (.int (ns.length:Int)):=by rw[L4.lenL,zzd]
 have e2:vn [.int 12,.int (ns.length:Int)]=some (iN (min 12 ns.length)):=min2 12 ns.length
 have e3:aJ (.int 2) (iN (min 12 ns.length))=some (iN (2+min 12 ns.length)):=EQ 2 _
 rw[e1,oMS,bdR,e2,oMS,bdR,e3,oMS,bdR,kC _ (by omega),oMS,bdR]
 refine Eh (P:=λi s=>s=(PyData.list (ns.map PyData.int),())) _ 0 _ _ ?_ rfl ?_
 ·rintro j s d hd _ hj rfl kn hkn
  obtain⟨k,hk,rfl⟩:=List.mem_map.mp hd
  dsimp only
  exact GW ns hn k kn (hkn _ rfl)
 ·rintro s rfl
  rfl
end K09
namespace PySem.W.Fast
def tw18087553056142744014:=()
def tw9614403894276818360:=()
def tw14039519786679095731:=()
def tw6885686877265705065:=()
def tw4350299803305938789:=()
def tw12432017877995951903:=()
def tw12638749152605112145:=()
def tw13522982830702395514:=()
def tw12360647602500660990:=()
def tw3167379981676921330:=()
def tw17282453669459229120:=()
def tw9030627942095142985:=()
def tw11062923454465935485:=()
def tw12512662130761934179:=()
def tw8805227061715406574:=()
def tw7056068197927385996:=()
def tw678684524352390887:=()
def tw741043349682582507:=()
def tw11461432837729415846:=()
def tw2429632017750000609:=()
def tw17761824062222349685:=()
def tw1096482203861144161:=()
def tw4540498412524643946:=()
def tw16600493828625633027:=()
def tw10377555814272900082:=()
def tw11943605729450804419:=()
def tw3386637788747766238:=()
def tw16276331022908301852:=()
def tw12877252370992458056:=()
def tw12173659046275333195:=()
def tw4819049386849339708:=()
def tw834885000332053091:=()
def tw6686703003657357810:=()
def tw16113328934288572058:=()
def tw17693872198860680796:=()
def tw7579410582115863440:=()
def tw12703482865616063956:=()
def tw16082251699049181539:=()
def tw3758602193384967860:=()
def tw18315431298927023587:=()
def tw17707454555150245348:=()
def tw13489848943842847203:=()
def tw8188050451082790596:=()
def tw13460212694686511957:=()
def tw6402138918241985058:=()
def tw10462858274626580048:=()
def tw8408478464617384963:=()
def tw8253762474305474383:=()
def tw8374833012892116007:=()
def tw5274481617979403166:=()
def tw11151932510448925099:=()
def tw12952350136251468789:=()
def tw14321220634503826789:=()
def tw5497293866948580314:=()
def tw4049145696987720190:=()
def tw10483731077641392597:=()
def tw14905879824005549200:=()
def tw2708876368543853571:=()
def tw4332611335606888310:=()
def tw10082567475584005261:=()
def tw8077187172325536699:=()
def tw6976656949007270300:=()
def tw2957502853028027841:=()
def tw3051873657001688368:=()
def tw14174936597816680555:=()
def tw15113950749479390876:=()
def tw3377804553755077136:=()
def tw5722727612314497962:=()
def tw7225188276285648665:=()
def tw17556729427024735335:=()
def tw9842531795315363776:=()
def tw15926470310272478633:=()
def tw17822544989685332830:=()
def tw13068136765502628784:=()
def tw2309580774756626846:=()
def tw11170548365232677211:=()
def tw6358856045578827750:=()
def tw16324617942089328354:=()
def tw961647162574876898:=()
def tw11360019272423136322:=()
def tw2489903497248963023:=()
def tw10222515205864907525:=()
def tw14686665669924463099:=()
def tw8245202204828655609:=()
def tw15135530124200067888:=()
def tw5609598219260343674:=()
def tw5104457804340483234:=()
def tw3024298456736954861:=()
def tw4084509653045788044:=()
def tw10709599665575645254:=()
end PySem.W.Fast
namespace K09
open PySem PySem.Spec PyProof.Rows L2 L3 L4
theorem all_mk{l:PySem.W.OpenLaw}{w:World}{K:Fg}{h:Heap}{mg:zzl}{fa Cl_NoText Cl_PassError CA_Row:Addr}(X:K.In h)(G:h.Ns mainGlobals mg)(hfa:mg "law" = some (.ref fa))(w0:Ci K "Row" CA_Row ax)(p0:Fa K "is_whole" jN)(p1:Fa K "is_within" iC)(p2:Fa K "are_sorts" iE)(p3:Fa K "parts_of" jM)(p4:Fa K "number_of" iB)(p5:Fa K "numbers_of" gQ)(p6:Fi K CA_Row "Row.__init__" fN)(p7:Fm K CA_Row "refuse" "Row.refuse" gT)(p8:Fm K CA_Row "has_more" "Row.has_more" fM)(p9:Fm K CA_Row "upcoming" "Row.upcoming" fL)(p10:Fm K CA_Row "take_word" "Row.take_word" eV)(p11:Fm K CA_Row "take_number" "Row.take_number" dP)(p12:Fm K CA_Row "take_sorts" "Row.take_sorts" eC)(p13:Fm K CA_Row "finish" "Row.finish" gU)(p14:Fa K "take_question" dq)(p15:Fa K "read_question" eU)(p16:Fa K "_law_feed" iI)(p17:Fa K "_law_next" iH)(p18:Fa K "_law_one" jO)(p19:Fa K "_law_some" iG)(p20:Fa K "_law_plain" gS)(p21:Fa K "_law_question" dr)(p22:Fa K "_law_sorts_text" dN)(p23:Fa K "_law_text" fW)(p24:Fa K "_law_number" gq)(p25:Fa K "_law_sorts" gR)(p26:Fa K "_law_read_plain" dO)(p27:Fa K "_law_read" fX)(p28:Fa K "_law_due" jP)(p29:Fa K "_law_told" iF)(p30:Fa K "_law_bent" iJ)(p31:Fa K "law" A3)(q0:Xa K "NoText" "NoText.__init__" gp ["row", "word"])(gaP:PySem.W.nsIn K mainGlobals "NoText" = some (some (.ref Cl_NoText)))(gbd:PySem.W.nsIn K mainGlobals "PassError" = some (some (.ref Cl_PassError)))(gaR:PySem.W.kitOne K (.ref Cl_NoText) (.ref Cl_NoText)=some true)(gaI:PySem.W.exmOne K (.ref Cl_NoText) (.ref Cl_PassError)=some true)(tk_QUESTION_WORDS:TK K "QUESTION_WORDS" ["least", "more", "rest", "both", "either", "not"])(kc0:Kc K "MOST_QUESTIONS" (.int 7))(kc1:Kc K "MOST_WITHIN" (.int 4))(kc2:Kc K "MOST_LEAST" (.int 9))(kc3:Kc K "MOST_REST" (.int 9))(kc4:Kc K "FIGURES" (.str "0123456789"))(kc5:Kc K "MOST_FIGURES" (.int 9))(bz:(BL.all λx=>Jw (PySem.W.nsIn K mainGlobals x))=true) :
  ∃fd:FuncData,(∀(s:Shared) (v:Value),BindsTo s fd ⟨[v],[]⟩ [("_law_script",v)])/\∀base:Heap,K.In base->base.Ns mainGlobals mg->FnOk l.prog w K mg base (CX1 l.prog w) 15 fa fd ["_law_script"] (spD K 1 td):=by
 obtain⟨IC_Row,NF_Row⟩:=w0
 obtain⟨f0,fd0,a0,F0⟩:=p0
 obtain⟨f1,fd1,a1,F1⟩:=p1
 obtain⟨f2,fd2,a2,F2⟩:=p2
 obtain⟨f3,fd3,a3,F3⟩:=p3
 obtain⟨f4,fd4,a4,F4⟩:=p4
 obtain⟨f5,fd5,a5,F5⟩:=p5
 obtain⟨f6,fd6,a6,F6⟩:=p6
 obtain⟨f7,fd7,a7,F7⟩:=p7
 obtain⟨f8,fd8,a8,F8⟩:=p8
 obtain⟨f9,fd9,a9,F9⟩:=p9
 obtain⟨f10,fd10,a10,F10⟩:=p10
 obtain⟨f11,fd11,a11,F11⟩:=p11
 obtain⟨f12,fd12,a12,F12⟩:=p12
 obtain⟨f13,fd13,a13,F13⟩:=p13
 obtain⟨f14,fd14,a14,F14⟩:=p14
 obtain⟨f15,fd15,a15,F15⟩:=p15
 obtain⟨f16,fd16,a16,F16⟩:=p16
 obtain⟨f17,fd17,a17,F17⟩:=p17
 obtain⟨f18,fd18,a18,F18⟩:=p18
 obtain⟨f19,fd19,a19,F19⟩:=p19
 obtain⟨f20,fd20,a20,F20⟩:=p20
 obtain⟨f21,fd21,a21,F21⟩:=p21
 obtain⟨f22,fd22,a22,F22⟩:=p22
 obtain⟨f23,fd23,a23,F23⟩:=p23
 obtain⟨f24,fd24,a24,F24⟩:=p24
 obtain⟨f25,fd25,a25,F25⟩:=p25
 obtain⟨f26,fd26,a26,F26⟩:=p26
 obtain⟨f27,fd27,a27,F27⟩:=p27
 obtain⟨f28,fd28,a28,F28⟩:=p28
 obtain⟨f29,fd29,a29,F29⟩:=p29
 obtain⟨f30,fd30,a30,F30⟩:=p30
 obtain⟨f31,fd31,a31,F31⟩:=p31
 obtain⟨C0,D0,g0,gd0,b0,G0,x0,y0,z0,u0,v0⟩:=q0
 cases GN b0 gaP
 have xn0_NoText:=u0 _ (.head _)
 have xn1_NoText:=u0 _ (.tail _ (.head _))
 cases hfa.symm.trans (di X G a31)
 have B:BN mg:=JP X G bz
 have Kn:KN mg:=⟨rj X G kc0,rj X G kc1,rj X G kc2,rj X G kc3,rj X G kc4,rj X G kc5⟩
 have Kx:KX K mg:=⟨tk_QUESTION_WORDS,HU X G tk_QUESTION_WORDS,⟨_,di X G gaP,⟨⟨_,gaP,gaR⟩,trivial⟩⟩,⟨⟨_,gaP,xn0_NoText⟩,trivial⟩,⟨⟨_,gaP,xn1_NoText⟩,trivial⟩,⟨_,di X G gbd,⟨⟨_,gaP,gaI⟩,trivial⟩⟩⟩
 refine⟨fd31,λs v=>?_,λbase _ _=>?_⟩
 ·obtain⟨_,_,_,_,_,_,_,_,_,rfl,_⟩:=F31.ex
  exact .of_eq rfl
 have X_NoText:=Am (P:=l.prog) (w:=w) (base:=base) G0 x0 (di X G b0) y0 z0 u0 v0
 have gbs:=uO (P:=l.prog) (w:=w) (base:=base) F0 (di X G a0) B Kn Kx
 have gbh:=sL (P:=l.prog) (w:=w) (base:=base) F1 (di X G a1) B Kn Kx gbs
 have gbi:=sN (P:=l.prog) (w:=w) (base:=base) F2 (di X G a2) B Kn Kx gbh
 have gaY:=uN (P:=l.prog) (w:=w) (base:=base) F3 (di X G a3) B Kn Kx
 have gaM:=sK (P:=l.prog) (w:=w) (base:=base) F4 (di X G a4) B Kn Kx
 have gba:=qp (P:=l.prog) (w:=w) (base:=base) F5 (di X G a5) B Kn Kx gaM
 have gaX:=m5 (P:=l.prog) (w:=w) (base:=base) F6 a6 (di X G IC_Row.ns) B Kn Kx IC_Row NF_Row
 have gaf:=qt (P:=l.prog) (w:=w) (base:=base) F7 a7 B Kn Kx IC_Row NF_Row X_NoText
 have gaC:=mZ (P:=l.prog) (w:=w) (base:=base) F8 a8 B Kn Kx IC_Row NF_Row
 have gao:=mY (P:=l.prog) (w:=w) (base:=base) F9 a9 B Kn Kx IC_Row NF_Row gaC gaf
 have gaE:=lQ (P:=l.prog) (w:=w) (base:=base) F10 a10 B Kn Kx IC_Row NF_Row gao gaf
 have gam:=jX (P:=l.prog) (w:=w) (base:=base) F11 a11 B Kn Kx IC_Row NF_Row gaM gao gaf
 have gar:=kJ (P:=l.prog) (w:=w) (base:=base) F12 a12 B Kn Kx IC_Row NF_Row gao gba gaf gbi
 have gbb:=qv (P:=l.prog) (w:=w) (base:=base) F13 a13 B Kn Kx IC_Row NF_Row gaC gaf
 have gaT:=lM (P:=l.prog) (w:=w) (base:=base) F14 (di X G a14) B Kn Kx IC_Row NF_Row gaE gaY gar gam gaf 6
 have gaU:=lN (P:=l.prog) (w:=w) (base:=base) F15 (di X G a15) B Kn Kx IC_Row NF_Row gaX gaT gbb
 have gbk:=sV (P:=l.prog) (w:=w) (base:=base) F16 (di X G a16) B Kn Kx
 have gac:=sU (P:=l.prog) (w:=w) (base:=base) F17 (di X G a17) B Kn Kx
 have gau:=uQ (P:=l.prog) (w:=w) (base:=base) F18 (di X G a18) B Kn Kx gac
 have ga7:=sQ (P:=l.prog) (w:=w) (base:=base) F19 (di X G a19) B Kn Kx gac
 have gaN:=qr (P:=l.prog) (w:=w) (base:=base) F20 (di X G a20) B Kn Kx gac ga7 gau
 have gaV:=lP (P:=l.prog) (w:=w) (base:=base) F21 (di X G a21) B Kn Kx gac gaN 5
 have gax:=jV (P:=l.prog) (w:=w) (base:=base) F22 (di X G a22) B Kn Kx
 have gbl:=sP (P:=l.prog) (w:=w) (base:=base) F23 (di X G a23) B Kn Kx gax 6
 have gav:=oH (P:=l.prog) (w:=w) (base:=base) F24 (di X G a24) B Kn Kx
 have gbc:=qq (P:=l.prog) (w:=w) (base:=base) F25 (di X G a25) B Kn Kx gav
 have gaz:=jW (P:=l.prog) (w:=w) (base:=base) F26 (di X G a26) B Kn Kx gbc gav
 have gbj:=sT (P:=l.prog) (w:=w) (base:=base) F27 (di X G a27) B Kn Kx gaz 6
 have gbv:=uR (P:=l.prog) (w:=w) (base:=base) F28 (di X G a28) B Kn Kx gbj
 have gbn:=sO (P:=l.prog) (w:=w) (base:=base) F29 (di X G a29) B Kn Kx gaU
 have gbm:=sX (P:=l.prog) (w:=w) (base:=base) F30 (di X G a30) B Kn Kx gac gau
 exact Hg F31 B Kn Kx gbk gbl gac gaV gau gbm gbn gbv
theorem walk{l:PySem.W.OpenLaw}{q:Program}{loose:List Str}{XP:(Str->Option Value)->Heap->Prop}{YP:World->Heap->Prop}{d:DefRec}{K:Params->Fg}(main:∀ns:List Int,ns.length<=63->zj (.list (ns.map PyData.int))=.ret (.bool true))(hn:l.most=some 63)(hdf:d.params.defaults=[])
  (hY:∀(w:World) (h:Heap),YP w h->(K w.params).In h)
  (F:∀(w:World) (mg:zzl) (fa:Addr) (h:Heap),(K w.params).In h->h.Ns mainGlobals mg->mg d.name=some (.ref fa) ->
   ∃fd:FuncData,(∀(s:Shared) (u:Value),BindsTo s fd ⟨[u],[]⟩ [("_law_script",u)])/\∀base:Heap,(K w.params).In base->base.Ns mainGlobals mg->FnOk l.prog w (K w.params) mg base (CX1 l.prog w) 15 fa fd ["_law_script"] (spD (K w.params) 1 td)) :
  PySem.W.WalkO q loose XP YP l.row.toRowW d [] (λf vs=>PySem.call f vs) :=
 L2.walk_of (n:=63) (k:=15) (x := "_law_script") (CX:=λw=>CX1 l.prog w) (sp:=λw=>spD (K w.params) 1 td) hn (by decide) hdf ⟨rfl,by decide,by decide,rfl⟩ hY F (λw H a ns hl _ hS=>z9 hS (main ns hl)) λ_ _ _ _ _ ⟨_,_,_,_,_,_,_,_,_,_,z⟩=>z
end K09
open PySem PySem.W PyProof.Rows L4
set_option maxRecDepth 100000 in
set_option maxHeartbeats 0 in
theorem PySem.Challenge.cw_passersby_k09_texts_that_write_no_questi_holds : PySem.Challenge.rw_passersby_k09_texts_that_write_no_questi.Holds := by
 w_on;o_law;k_head;(case hw=>w_witness2)
 k_fill
 refine K09.walk (l:=PySem.Challenge.rw_passersby_k09_texts_that_write_no_questi) K09.main rfl rfl (λw h Y=>PySem.W.kIn_of Y) ?F
 case F =>
  intro w mg fa h KX G hmg
  refine' K09.all_mk KX G hmg (JN ?wa0 ?wb0 ?wc0 ?wd0 ?we0 (naC ?n0_0 (naC ?n0_1 (naC ?n0_2 (naC ?n0_3 na0))))) (cK ?a0 ?l0 ?c0 ?k0) (cK ?a1 ?l1 ?c1 ?k1) (cK ?a2 ?l2 ?c2 ?k2) (cK ?a3 ?l3 ?c3 ?k3) (cK ?a4 ?l4 ?c4 ?k4) (cK ?a5 ?l5 ?c5 ?k5) (JH ?a6 ?l6 ?c6 ?k6 ?i6 ?m6 ?o6) (pA ?a7 ?l7 ?c7 ?k7 ?i7) (pA ?a8 ?l8 ?c8 ?k8 ?i8) (pA ?a9 ?l9 ?c9 ?k9 ?i9) (pA ?a10 ?l10 ?c10 ?k10 ?i10) (pA ?a11 ?l11 ?c11 ?k11 ?i11) (pA ?a12 ?l12 ?c12 ?k12 ?i12) (pA ?a13 ?l13 ?c13 ?k13 ?i13) (cK ?a14 ?l14 ?c14 ?k14) (cK ?a15 ?l15 ?c15 ?k15) (cK ?a16 ?l16 ?c16 ?k16) (cK ?a17 ?l17 ?c17 ?k17) (cK ?a18 ?l18 ?c18 ?k18) (cK ?a19 ?l19 ?c19 ?k19) (cK ?a20 ?l20 ?c20 ?k20) (cK ?a21 ?l21 ?c21 ?k21) (cK ?a22 ?l22 ?c22 ?k22) (cK ?a23 ?l23 ?c23 ?k23) (cK ?a24 ?l24 ?c24 ?k24) (cK ?a25 ?l25 ?c25 ?k25) (cK ?a26 ?l26 ?c26 ?k26) (cK ?a27 ?l27 ?c27 ?k27) (cK ?a28 ?l28 ?c28 ?k28) (cK ?a29 ?l29 ?c29 ?k29) (cK ?a30 ?l30 ?c30 ?k30) (cK ?a31 ?l31 ?c31 ?k31) (HP ?xa0 ?xb0 ?xc0 ?xd0 ?xe0 ?xf0 ?xg0 ?xh0 ?xi0 ?xj0 ?xk0 ?xl0 ?xm0 ?xp0 ?xq0 ?xr0 ?xo0 (naC ?y0_0 (naC ?y1_0 na0))) ?gaP ?gbd ?gaR ?gaI (HS ?ta0 ?tb0 ?tc0 ?td0 ?te0) (rh ?ga0 ?gb0) (rh ?ga1 ?gb1) (rh ?ga2 ?gb2) (rh ?ga3 ?gb3) (rh ?ga4 ?gb4) (rh ?ga5 ?gb5) ?bz
  (case wa0=>k_is)
  (case wb0|wc0|wd0=>kernel_rfl)
  (case we0|n0_0|n0_1|n0_2|n0_3|a0|l0|c0|k0|a1|l1|c1|k1|a2|l2|c2|k2|a3|l3|c3|k3|a4|l4|c4|k4|a5|l5|c5|k5|a6|l6|c6|k6=>k_is)
  (case i6|m6=>kernel_rfl)
  (case o6|a7|l7|c7|k7=>k_is)
  (case i7=>kernel_rfl)
  (case a8|l8|c8|k8=>k_is)
  (case i8=>kernel_rfl)
  (case a9|l9|c9|k9=>k_is)
  (case i9=>kernel_rfl)
  (case a10|l10|c10|k10=>k_is)
  (case i10=>kernel_rfl)
  (case a11|l11|c11|k11=>k_is)
  (case i11=>kernel_rfl)
  (case a12|l12|c12|k12=>k_is)
  (case i12=>kernel_rfl)
  (case a13|l13|c13|k13=>k_is)
  (case i13=>kernel_rfl)
  (case a14|l14|c14|k14|a15|l15|c15|k15|a16|l16|c16|k16|a17|l17|c17|k17|a18|l18|c18|k18|a19|l19|c19|k19|a20|l20|c20|k20|a21|l21|c21|k21|a22|l22|c22|k22|a23|l23|c23|k23|a24|l24|c24|k24|a25|l25|c25|k25|a26|l26|c26|k26|a27|l27|c27|k27|a28|l28|c28|k28|a29|l29|c29|k29|a30|l30|c30|k30|a31|l31|c31|k31|xa0|xb0|xc0|xd0|xe0|xf0|xg0=>k_is)
  (case xh0=>kernel_rfl)
  (case xi0|xj0|xk0|xl0=>k_is)
  (case xm0=>kernel_rfl)
  (case xp0|xq0|xr0=>k_is)
  (case xo0=>kernel_rfl)
  (case y0_0|y1_0|gaP|gbd=>k_is)
  (case gaR|gaI=>kernel_rfl)
  (case ta0|tb0=>k_is)
  (case tc0|td0=>rfl)
  (case te0=>exact(.cons ⟨_,rfl⟩ (.cons ⟨_,rfl⟩ (.cons ⟨_,rfl⟩ (.cons ⟨_,rfl⟩ (.cons ⟨_,rfl⟩ (.cons ⟨_,rfl⟩ .nil)))))))
  (case ga0=>k_is)
  (case gb0=>first|exact⟨_,rfl⟩|rfl)
  (case ga1=>k_is)
  (case gb1=>first|exact⟨_,rfl⟩|rfl)
  (case ga2=>k_is)
  (case gb2=>first|exact⟨_,rfl⟩|rfl)
  (case ga3=>k_is)
  (case gb3=>first|exact⟨_,rfl⟩|rfl)
  (case ga4=>k_is)
  (case gb4=>first|exact⟨_,rfl⟩|rfl)
  (case ga5=>k_is)
  (case gb5=>first|exact⟨_,rfl⟩|rfl)
  (case bz=>kernel_rfl)
