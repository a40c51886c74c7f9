import PyProof.Rows.All
import Wide.All
import OpenK.AllK
import Wide.FinOn
import Lean
import PyProof.EqAt
import PyProof.EqKinds
import PyProof.TupleCall
import PySem.Challenge.RW_passersby_k36_err_papers_told
set_option bootstrap.genMatcherCode false
local macro_rules(kind:=Lean.Parser.Command.declaration)|s=>do
 let k:=s[1].getKind
 if(k== ``Lean.Parser.Command.definition||k== ``Lean.Parser.Command.abbrev)&&s[0][4].isNone then return s.setArg 0 (s[0].setArg 4 (Lean.mkNullNode #[Lean.mkNode ``Lean.Parser.Command.noncomputable #[Lean.mkAtom "noncomputable"]]))
 Lean.Macro.throwUnsupported
local macro_rules|`(tactic|grind)=>`(tactic|first|grind -order -linarith -ring -ac -abstractProof[-getElem?_pos,-getElem?_neg]|grind -abstractProof|grind[])
noncomputable section
set_option Elab.async false
set_option linter.all false
set_option maxRecDepth 100000
local macro_rules(kind:=«term{_}»)|s=>`(⟨$(⟨s[1].getArgs⟩),*⟩)
set_option hygiene false
local macro_rules|`(tactic|let $p:term:=$t)=>do
  let k s:=`Lean.Parser.Tactic++s
  let w a:=(Lean.mkNode (k `rcasesPatLo) #[Lean.mkNode (k `rcasesPatMed) #[Lean.mkNullNode a],Lean.mkNullNode]).raw
  let r:=Id.run<|p.raw.rewriteBottomUpM λs=>
    if s.isIdent then w #[Lean.mkNode (k `rcasesPat.one) #[s]] else
    if s.isOfKind `choice then (s.getArgs.find? (·.isOfKind<|k `rcasesPatLo)).getD s else
    if s.isOfKind `Lean.Parser.Term.hole then w #[Lean.mkNode (k `rcasesPat.ignore) #[s[0]]] else
    if s.isOfKind `«term{_}» then w #[Lean.mkNode (k `rcasesPat.tuple) #[Lean.mkAtom "⟨",s[1],Lean.mkAtom "⟩"]] else
    if s.isOfKind `«term_||_» then w (s[0][0][0].getArgs++#[Lean.mkAtom "|"]++s[2][0][0].getArgs) else s
  `(tactic|obtain $(⟨r[0]⟩):rcasesPatMed:=$t)
local macro_rules(kind:=Lean.Parser.Tactic.simpAutoUnfold)
 |`(tactic|simp![$a,*]$[$l]?)=>`(tactic|simp only[$a,*]$[$l]?)
local macro_rules(kind:=Lean.Parser.Term.syntheticHole)|s=>do
 let l<-`([(by lia),model X.prog X.w,(by decide),model prog w,(by decide +kernel),(by simp),aU (by kernel_rfl) rfl rfl,c_.refl _,n_ hr (g_ 0) (ao ak),(false,eval e X.env),Re Nat,bL X N' scope cl s H fp C,D×D,aj hr,ao ak,Re D,(λ_=>rfl),(by omega),starEach es X.env,mG (R3 P w) P w K mg base N qual (aP st) f t_ A outer s H E,D×Re D,F.map (kE<|vG<|fy r F),ai _,(by simp;lia),(by grind),A.deeper (envOfC qual (aP st) s.heap.objs.size f t_),ns.map PyData.int,E_ items.size items.size hi - E_ items.size 0 lo,(λz=>nomatch z),aa (av 1) az,vi rfl,F.map (kE v),(by simpa using h),(λ_ _ _ _ _=>cF),F.map (kE<|vS r),arrOf st,ha pins s Z H _ I h,ac _,bs.map PyData.bool,s1.trans s2,arrOf o_,vs.map some,EP X pins Z Q,aH (aq ak) aV,l.map iN,(λs'=>K.nx<|wr sh s'),Nat×Re Nat,kE (vL r),av 3,lo rfl,bh RE (hr.mono ?S) (aa ?J ?je),hp.objs.size+1,au (aK<|aq dM),s.map iN,s.heap.objs.size+1,N.length - ps.length,ha pos pins s Z H _ I h,cT c,(bP r c r.ms.zipIdx).map sE,bR ?O,I1.k_.fresh ?jm,seqObj "list" #[] 0,g_ 2,ns.map V.int,(λ_ _=>False),aa (av 2) az,L.map (Ua v),apos.endLine==u_.line,aP st,ρ++List.replicate k none,wr sh s,(by rw[v_];lia),Re Key×Tk×SL,kE vT,n_ hr (g_ 1) ?P,kE (vN v),(λb o hb e=>eb b o hb e),a==sysModules,L.map cT,I.k_.fresh ?jm,dh hN hv hd Ri,Str×Bool,PyData.list [],(false,eval a X.env),PyData.shownAll ds,r.ms.zipIdx.map UO,iN F.length,aa (av 4) az,aa (av 7) az,i+1,F.map cT,aq (av 2),r.sy.getD i false,(λc=>decide<|c.k=kx),g_ 3,av 0,iN k,PyData.list RI,he pins s Z H _ I h,ho pins s Z H _ I h,(λp=>dc p.1),ps.toArray.size - 1,oM (aF d_<|.int 1),hr.mono ?S,(by simpa[Sm]using h),Re Key×V,bV st,g_ 4,E_ items.size 0 lo,r1 d 4,TP X pins Z Q,cj X.prog X.w,I.tok _,V.ref a,h cl _ _ fp C,aa ak az,ao (dY<|bX az),SC D×Rb sh,Wr (.int 2),aq ak,g_ 1,bg r cs,jN r ρ s' e,R3 P w,(rooms l).map iN,r1.mono s2,k F1 H1 ?I S1,En->M S,(by kernel_rfl),cK (bX az),ps.map ld,(λ_ _ q=>z_ _ q),N.take m,r.ms.map mD,fy r F A[i],g_ 7,κ×V])
 let some i:="A B C D E G H I J K L M N O P Q R S T U V W X Y Z ja jb jc jd je jf jg jh ji jj jk jl jm jn jo jp jq jr js jt ju jv jw jx jy jz jA jB jC jD jE jF jG jH jI jJ jK jL jM jN jO jP jQ jR jS jT jU jV jW jX jY jZ j0 j1 j2 j3 j4 j5 j6 j7 j8 j9 qa qb qc qd qe qf qg qh qi qj qk ql qm qn qo qp qq qr qs qt qu qv qw qx qy qz qA qB qC qD qE qF qG qH qI qJ qK qL qM qN qO qP qQ qR qS qT qU qV qW qX".splitOn.idxOf? s[1].getId.toString|Lean.Macro.throwUnsupported
 return l.raw[1][2*i]
abbrev Re:=@List
abbrev SC:=@Option
abbrev SL:=PySem.Value
abbrev SZ:=PySem.Shared
abbrev Tk:=PySem.Addr
abbrev Tl:=PySem.Program
abbrev TD:=PySem.World
abbrev TW:=PySem.Expr
abbrev Uf:=PySem.Stmt
abbrev UF:=@Array
abbrev UV:=PySem.Around
abbrev Wp:=PySem.Heap
def h_:=@PySem.wpAny_bind
def m_:=@PySem.wpAny_pure
def z_:=@PySem.Heap.get?_push_of_some
def v_:=@List.length_map
def QV:=@PySem.Heap.get?_push_size
def R4:=@List.length_append
def Sw:=@List.mem_cons_of_mem
def UY:=@List.mem_append_left
def QS:=@decide_eq_true_eq
abbrev w_:=PySem.Value->PySem.Shared->Prop
abbrev C_:=Re<|PySem.Addr×PySem.Obj
abbrev Rm:=PySem.Str->SC PySem.Value
section
open PySem PySem.Spec PyProof.Rows
def ac:=@Nat.le_refl
def ai:=@Nat.zero_le
def am:=@Bool.and_eq_true
def ap:=@List.map_cons
def ar:=@if_pos
def aw:=@Heap.lt_size
def ax:=@if_neg
def ay:=@List.getElem?_eq_getElem
def ba:=@decide_eq_true
def be:=@List.getElem?_set_ne
def bi:=@decide_eq_false
def bj:=@Nat.le_trans
def bo:=@Nat.lt_of_lt_of_le
def bu:=@Nat.ne_of_lt
def cr:=@List.mem_cons_self
def di:=@List.getElem?_set_self
def du:=@List.mem_append_right
def eg:=@List.map_append
def eh:=@PySem.boot_len
def eE:=@List.length_cons
def eT:=@List.map_map
def fi:=@wpAny_field
def fu:=@List.getD_eq_getElem?_getD
def f8:=@List.size_toArray
def gh:=@List.getElem_mem
def gi:=@List.map_congr_left
def gs:=@Bool.or_eq_true
def gu:=@wpAny_newObj_type
def g7:=@wpAny_callSpecial?_slot
def ib:=@PyProof.Rows.callWith_type1
def ic:=@List.append_nil
def ig:=@Obj.data_mapFields
def im:=@wpAny_call_entry
def io:=@List.foldl_cons
def ir:=@List.all_eq_true
def je:=@List.getElem?_map
def lf:=@Nat.lt_irrefl
def li:=@wpS_bind
def lu:=@decide_eq_false_iff_not
def mo:=@Array.getElem?_eq_getElem
def ng:=@wpAny_setField_rec
def nu:=@wpAny_Call_Name_kw
def ny:=@Nat.ne_of_gt
def ou:=@List.find?_cons
def oC:=@Heap.size_push
def oP:=@wpAny_holding
def oR:=@List.getElem_of_mem
def pd:=@wpAny_mono
def pi:=@List.length_filter_le
def pr:=@wpAny_pyIter_tuple
def pI:=@List.mem_of_getElem?
def qu:=@PySem.W.mg_of
def re:=@List.drop_eq_getElem_cons
def se:=@PySem.mem_of_lookup
def si:=@List.filterMap_cons
def sk:=@List.length_singleton
def su:=@Heap.get?_update_self
def tu:=@List.mem_cons
def ua:=@List.length_zipIdx
def ue:=@List.length_range
def ug:=@Heap.get?_update_other
def ul:=@List.getElem?_append_left
def um:=@wpS_pure
def ur:=@tupleKind_room_in1
def ut:=@Nat.lt_of_le_of_lt
def u8:=@Heap.size_update
def wa:=@wpAny_seqItems
def wn:=@Nat.lt_succ_of_lt
def wo:=@Heap.get?_push_ne
def wE:=@List.not_mem_nil
def wP:=@wpAny_setField
def wS:=@Obj.isFreed_of_fields
def wT:=@List.mem_of_find?_eq_some
def xt:=@PySem.W.kia_one
def xv:=@List.flatMap_cons
def xz:=@Int.toNat_natCast
def ye:=@Bool.not_eq_true'
def yi:=@PyProof.Rows.slot_tuple_getitem
def yp:=@if_true
def y9:=@Array.length_toList
def zi:=@List.filter_cons
def At:=@List.ext_getElem
def Ba:=@List.drop_length
def Ch:=@Int.le_refl
def Cn:=@List.take_of_length_le
def Cr:=@wpAny_passesOwn
def Db:=@wpAny_attempt
def Er:=@PySem.F.slot_dict_get
def Go:=@wpAny_truthy_bool
def Ix:=@F.slot_tuple_iterator_next
def Li:=@wpAny_typeOf
def Ma:=@wpAny_isInstance
def Me:=@Nat.le_of_lt
def No:=@List.length_drop
def Op:=@List.getElem_map
def PL:=@List.any_cons
def PM:=@List.all_cons
def PN:=@List.length_nil
def PP:=@Bool.eq_iff_iff
def PQ:=@PySem.F.plainAttrs_list
def PR:=@PySem.F.args_dict_get_2
def PU:=@wpAny_pyIter_list
def PV:=@wpAny_dictEntries
def PX:=@PySem.F.entry_dict_get
def PY:=@List.nodup_nil
def PZ:=@List.nodup_append
def P0:=@Calls.callWith_builtin
def P2:=@F.slot_enumerate_next
def P3:=@wpAny_typeNameOfWhole_itemiter
def P4:=@wpAny_rule
def P5:=@List.length_take
def P6:=@wpAny_standAt
def P7:=@List.sum_cons
def P8:=@wpAny_typeNameOfWhole_keyiter
def P9:=@wpAny_letGo
def Qa:=@or_false
def Qb:=@wpAny_execs_nil
def Qc:=@List.of_mem_zip
def Qd:=@List.mem_filter
def Qe:=@Heap.get?_update_ne
def Qf:=@wpS_forRange
def Qg:=@decide_false
def Qh:=@isSubtype_stop
def Qi:=@call_meets
def Qj:=@Calls.spliced_cons
def Qk:=@wpAny_pyIter_enum
def Ql:=@wpAny_loadPart_at
def Qm:=@Obj.cls_mapFields
def Qn:=@Nat.le_succ
def Qo:=@List.reverse_cons
def Qp:=@List.pairwise_map
def Qq:=@Calls.spliced_nil
def Qr:=@wpAny_onRaise
def Qt:=@listUpdate_at
def Qu:=@PySem.F.args_tuple_add_2
def Qv:=@if_false
def Qw:=@PySem.F.entry_tuple_add
def Qx:=@List.lookup_cons
def Qy:=@wpAny_isOneOf_itemiter
def Qz:=@size_push'
def QA:=@listItems_at
def QB:=@codeAny_mono
def QC:=@call_meetsIn
def QD:=@PySem.F.slot_tuple_add
def QE:=@Nat.lt_trans
def QF:=@List.range_succ_eq_map
def QG:=@wpAny_dictEpoch
def QH:=@get?_update_seq
def QI:=@codeAny_builtin
def QJ:=@List.nodup_cons
def QK:=@F.slot_zip_next
def QL:=@wpAny_notOrdered_dict
def QM:=@List.getElem?_eq_none
end
namespace L2
open PySem PySem.Spec PyProof.Rows
variable {s:SZ}{pos p:Pos}{x:Str}{pins:C_}{A:UV}{u:SL}{a b:Tk}{P:Tl}{w:TD}{h h' base:Wp}{e tg c:TW}{t':Nat}{E:w_}{us:Re SL}{o:Obj}{es:Re TW}{f:SL->SL->Sem SL}{ch fp:Re Tk}{Q:Unit->SZ->Prop}{op:Operator}{body:Re Uf}{mg:Rm}
abbrev Key:=Sum Int Str
def u4:Key->SL->Bool
 | .inl k,v=>Value.isInt k v
 | .inr x,v=>Value.isStrOf x v
def O5(w:TD):Key->Int
 | .inl k=>hashInt k
 | .inr x=>hashStr w x
theorem cN:∀{k:Key} {v:SL},u4 k v=true->(∃i t,k=Sum.inl i/\v=Value.int i t)\/(∃x t,k=Sum.inr x/\v=Value.str x t)
 | .inl i,v,h=>by
  let{t,e}:=Value.isInt_shape   h
  grind
 | .inr x,v,h=>by
  let{t,e}:=Value.isStrOf_shape   h
  grind
theorem Dt(i:Int)(t:Tok):u4 (.inl i) (.int i t)=true:=by simp[u4,Value.isInt]
theorem Ds(x:Str)(t:Tok):u4 (.inr x) (.str x t)=true:=by simp[u4,Value.isStrOf]
theorem LH(a b:Int):decide ((Sum.inl a:Key)=Sum.inl b)=(a==b):=by
 grind
theorem LE(a b:Str):decide ((Sum.inr a:Key)=Sum.inr b)=decide (a=b):=by
 grind
theorem LG(a:Int)(b:Str):decide ((Sum.inl a:Key)=Sum.inr b)=false:=bi λq=>nomatch q
theorem LF(a:Str)(b:Int):decide ((Sum.inr a:Key)=Sum.inl b)=false:=bi λq=>nomatch q
def cj(prog:Tl)(w:TD):PySem.KeyKind prog w Key where
 is:=u4
 hash:=O5 w
 inj:=λv a b ha hb=>by
  let{i,t,rfl,rfl}||{x,t,rfl,rfl}:=cN ha
  ·let{j,u,rfl,e}||{y,u,rfl,e}:=cN hb
   ·grind
   ·exact nomatch e
  ·let{j,u,rfl,e}||{y,u,rfl,e}:=cN hb
   ·exact nomatch e
   grind
 byValue:=λk v h=>by
  let{i,t,rfl,rfl}||{x,t,rfl,rfl}:=cN h<;>rfl
 pyHash:=λhv h=>by
  let{i,t,rfl,rfl}||{x,t,rfl,rfl}:=cN hv
  ·exact wpAny_pyHash_int h
  ·exact wpAny_pyHash_str h
 eqBool:=λhu hv h=>by
  let{i,t,rfl,rfl}||{x,t,rfl,rfl}:=cN hu
  ·let{j,u,rfl,rfl}||{y,u,rfl,rfl}:=cN hv
   ·rw[LH]at h;exact wpAny_eqBool_int h
   ·rw[LG]at h;exact SeqAt.EqAt.int_str i t y u _ _ _ _ h
  ·let{j,u,rfl,rfl}||{y,u,rfl,rfl}:=cN hv
   ·rw[LF]at h;exact SeqAt.EqAt.str_int x t j u _ _ _ _ h
   ·rw[LE]at h;exact wpAny_eqBool_str h
 «strs»:=λk x t v h=>by
  let{i,u,rfl,e}||{y,u,rfl,e}:=cN h
  ·exact nomatch e
  ·injection e with e1 _;subst e1
   cases v<;>rfl
theorem yw(prog:Tl)(w:TD)(i:Int)(t:Tok):(cj prog w).is (.inl i) (.int i t)=true:=Dt i t
theorem yv(prog:Tl)(w:TD)(x:Str)(t:Tok):(cj prog w).is (.inr x) (.str x t)=true:=Ds x t
inductive V where
 | QW|bl (b:Bool)|int (i:Int)|str (x:Str)|byt (b:UF UInt8)|flt (b:UInt64)|ref (a:Tk)|ty (n:String)
 deriving DecidableEq
def RelV:V->SL->Prop
 | .QW,u=>u=Value.none
 | .bl b,u=>u=Value.bool b
 | .int i,u=>∃t,u=Value.int i t
 | .str x,u=>∃t,u=Value.str x t
 | .byt b,u=>∃t,u=Value.bytes b t
 | .flt b,u=>∃t,u=Value.float b t
 | .ref a,u=>u=Value.ref a
 | .ty n,u=>u=Value.type n
abbrev Vals:Re V->Re SL->Prop:=Paired RelV
theorem Vals.length{xs:Re V}(r:Vals xs us):xs.length=us.length:=Paired.length r
theorem Vals.get:∀{xs:Re V} {us:Re SL} {i:Nat} {x:V},Vals xs us->xs[i]? = some x->∃u,us[i]? = some u/\RelV x u
 | _,_,_,_,.nil,e=>by simp at e
 | _,_,0,_,.cons r _,e=>by grind
 | _,_,i+1,x,.cons _ t,e=>by
  let{u,h1,h2}:=Vals.get   t<|(e)
  grind
theorem Vals.set{x:V}(r:RelV x u):∀{xs:Re V} {us:Re SL} (i:Nat),Vals xs us->Vals (xs.set i x) (us.set i u)
 | _,_,_,.nil=>.nil
 | _,_,0,.cons _ t=>.cons r t
 | _,_,i+1,.cons q t=>.cons q<|Vals.set r i t
theorem Vals.append:∀{xs ys:Re V} {us ws:Re SL},Vals xs us->Vals ys ws->Vals (xs++ys) (us++ws):=by
 intro xs ys us ws h s
 induction h with
 | nil=>exact s
 | cons r _ ih=>exact .cons r ih
theorem Vals.take:∀{xs:Re V} {us:Re SL} (n:Nat),Vals xs us->Vals (xs.take n) (us.take n)
 | _,_,0,_=>.nil
 | _,_,_+1,.nil=>.nil
 | _,_,n+1,.cons r t=>.cons r<|Vals.take n t
theorem Vals.drop:∀{xs:Re V} {us:Re SL} (n:Nat),Vals xs us->Vals (xs.drop n) (us.drop n)
 | _,_,0,r=>r
 | _,_,_+1,.nil=>.nil
 | _,_,n+1,.cons _ t=>Vals.drop n t
def SI:SC V->SC SL->Prop
 | some v,some u=>RelV v u
 | none,none=>True
 | _,_=>False
def KV{κ:Type}:Re ?qX->Re (κ×SL)->Prop:=Paired λ(p:κ×V) (q:κ×SL)=>p.1=q.1/\RelV p.2 q.2
def kV:Key->V
 | .inl i=>.int i
 | .inr x=>.str x
inductive HO where
 | lst (xs:Re V)
 | tup (xs:Re V)
 | dK (kvs:Re (Key×V))|dT (kvs:Re (Re Key×V))
 | set (S:Int->Bool) (n:Nat)
 | ins (C dx:Tk) (fs:Re (Str×V))
 | own (x:Tk)
 | xd (fs:Re (Str×V))
 | met (f x:Tk)
 | Yo (lo hi:Int)
 | Q3 (o:Obj) (u:HO)
 | ZX (ps:UF SL)
 | obj (o:Obj)
 | ext (φ:Wp->Prop)
abbrev Hp:=Tk->SC HO
@[grind] def upd(H:Hp)(a:Tk)(o:HO):Hp:=λb=>if b=a then some o else H b
theorem aN{H:Hp}{o:HO}:upd H a o a=some o:=by grind
theorem aQ{H:Hp}{o:HO}(h:b≠a):upd H a o b=H b:=by grind
theorem Hf{H:Hp}{o u:HO}:upd (upd H a o) a u=upd H a u:=by
 grind
theorem J6{H:Hp}{o u:HO}(h:H a=some o)(h':H b=some u)(d:o≠u):a≠b:=by
 grind
theorem bp{H:Hp}{o:HO}(h:H a=some o)(h':H b=none):a≠b:=by
 grind
section
variable (P:Tl) (w:TD)
def _root_.L2.Xe(h:Wp)(a:Tk):Prop:=∃o,h.get? a=some o/\o.dict=none
theorem _root_.L2.Xe.new(h:Wp)(items:UF SL):Xe (h.push { cls:=.type "tuple",data:=.seq items }) h.objs.size:={_,QV _ rfl,rfl}
def D_(H:Hp)(h:Wp)(a:Tk):HO->Prop
 | .lst xs=>xs.length<=sizeLine/\∃(j_:Re SL) (n:Nat),Vals xs j_/\h.get? a=some { cls:=.type "list",data:=.seq j_.toArray n }
 | .tup xs=>xs.length<=sizeLine/\∃j_:Re SL,Vals xs j_/\IsTup h a j_.toArray/\Xe h a
 | .dK kvs=>kvs.length<=sizeLine/\?j0=false/\∃vs,KV kvs vs/\h.DictOf (cj P w) a vs
 | .dT kvs=>kvs.length<=sizeLine/\?j0=false/\∃xs:Re ?jV,
   Paired (λ(p:Re Key×V) (q:Re Key×Tk×SL)=>p.1=q.1/\H q.2.1=some (.tup<|p.1.map kV)/\RelV p.2 q.2.2) kvs xs /\
   ∃o es ep,h.get? a=some o/\o.ExactDict/\o.data=.dict es ep/\es.toList=xs.map (entryOfKey<|tupleKind<|cj P w)/\(xs.map (·.1)).Nodup
 | .set S n=>h.SetOf (intKind P w) a S n
 | .ins C dx fs=>H dx=some (.own a)/\fs.length<=1000/\dx≠a/\h.get? a=some (PySem.W.instObj C dx) /\
   ∃mA,h.Ns1 dx mA/\(∀f,SI (fs.lookup f)<|mA f)/\PySem.Within mA (fs.map (·.1))
 | .own _=>∃o,h.get? a=some o
 | .xd fs=>∃mA,h.Ns1 a mA/\∀f,SI (fs.lookup f)<|mA f
 | .Yo lo hi=>∃t u v,h.get? a=some { cls:=.type "range",data:=.fields #[.int lo t,.int hi u,.int 1 v] }
 | .Q3 o u=>h.get? a=some o/\D_ H h a u
 | .ZX ps=>h.get? a=some { cls:=.none,data:=.fields ps }
 | .obj o=>h.get? a=some o
 | .met f x=>h.get? a=some (PySem.W.methodObj (.ref f)<|.ref x)
 | .ext φ=>φ h/\(∃o,h.get? a=some o)/\∀h1 h2:Wp,φ h1->(∀o,h1.get? a=some o->h2.get? a=some o)->φ h2
def Rr(H:Hp)(h:Wp):Prop:=∀a o,H a=some o->D_ P w H h a o
end
section
variable {H H':Hp} {o:HO}
theorem D_.lt(x:D_ P w H h a o):a<h.objs.size:=by
 cases o with
 | lst xs=>let{_,_,_,_,e}:=x;exact aw e
 | tup xs=>let{_,_,_,p}:=x;exact p.1.lt
 | dK kvs=>let{_,_,_,_,o,_,_,e,_}:=x;exact aw e
 | dT kvs=>let{_,_,_,_,o,_,_,e,_}:=x;exact aw e
 | set S n=>let{o,_,_,_,e,_}:=x;exact aw e
 | ins C dx fs=>let{_,_,_,e,_}:=x;exact aw e
 | own y=>let{_,e}:=x;exact aw e
 | xd fs=>let{_,{_,_,_,e,_},_}:=x;exact aw e
 | Yo lo hi=>let{_,_,_,e}:=x;exact aw e
 | Q3 ob u=>let{e,_}:=x;exact aw e
 | ZX ps=>exact aw<|(x)
 | obj ob=>exact aw<|(x)
 | met f y=>exact aw<|(x)
 | ext φ=>let{_,{_,e},_}:=x;exact aw e
theorem Paired.zad{α β:Type}{F G:α->β->Prop}:∀{l₁:Re α} {l₂:Re β},Paired F l₁ l₂->(∀a b,F a b->G a b)->Paired G l₁ l₂:=by
 intro l₁ l₂ h f
 induction h with
 | nil=>exact .nil
 | cons r _ ih=>exact .cons (f _ _ r) ih
theorem D_.Tq(x:D_ P w H h a o)(k:∀b u,(b=a\/H b=some (.own a))->h.get? b=some u->h'.get? b=some u)
  (ho:∀b,H b=some (.own a)->H' b=some (.own a)) (ht:∀b xs,H b=some (.tup xs)->H' b=some (.tup xs)):D_ P w H' h' a o:=by
 induction o with
 | lst xs=>let{z,j_,n,r,e}:=x;exact{z,j_,n,r,k _ _ (.inl rfl) e}
 | tup xs=>let{z,j_,r,{ob,e,c},ob2,e2,c2}:=x;exact{z,j_,r,{ob,k _ _ (.inl rfl) e,c},ob2,k _ _ (.inl rfl) e2,c2}
 | dK kvs=>let{z,y,vs,r,ob,es,ep,e,c}:=x;exact{z,y,vs,r,ob,es,ep,k _ _ (.inl rfl) e,c}
 | dT kvs =>
  let{z,y,xs,r,ob,es,ep,e,c}:=x;exact{z,y,xs,Paired.zad r λp q z=>{z.1,ht _ _ z.2.1,z.2.2},ob,es,ep,k _ _ (.inl rfl) e,c}
 | set S n=>let{ob,es,ep,t,e,c}:=x;exact{ob,es,ep,t,k _ _ (.inl rfl) e,c}
 | ins C dx fs =>
  let{d,z,ne,e,mA,{od,es,ep,e2,c},r}:=x;exact{ho _ d,z,ne,k _ _ (.inl rfl) e,mA,{od,es,ep,k _ _ (.inr d) e2,c},r}
 | own y=>let{ob,e}:=x;exact{ob,k _ _ (.inl rfl) e}
 | xd fs=>let{mA,{od,es,ep,e,c},r}:=x;exact{mA,{od,es,ep,k _ _ (.inl rfl) e,c},r}
 | Yo lo hi=>let{t,u,v,e}:=x;exact{t,u,v,k _ _ (.inl rfl) e}
 | Q3 ob u ih=>let{e,q}:=x;exact{k _ _ (.inl rfl) e,ih q}
 | ZX ps =>
  have e:h.get? a=some { cls:=.none,data:=.fields ps }:=x;show h'.get? a=some { cls:=.none,data:=.fields ps }
  grind
 | met f y =>
  have e:h.get? a=some (PySem.W.methodObj (.ref f)<|.ref y):=x;show h'.get? a=some (PySem.W.methodObj (.ref f)<|.ref y)
  grind
 | obj ob=>exact k a _ (.inl rfl)<|(x)
 | ext φ=>let{p,{o,e},st}:=x;exact{st _ _ p λo q=>k _ _ (.inl rfl) q,{o,k _ _ (.inl rfl) e},st}
theorem Rr.lt(x:Rr P w H h)(e:H a=some o):a<h.objs.size:=(x a o e).lt
theorem Rr.fresh(x:Rr P w H h)(e:h.objs.size<=a):H a=none:=by
 cases q:H a with
 | none=>rfl
 | some u=>exact absurd (bo (x.lt q) e)<|lf _
theorem Rr.kept(x:Rr P w H h)(k:∀b u,h.get? b=some u->h'.get? b=some u):Rr P w H h':=λa o e =>
 (x a o e).Tq (λb u _ q=>k b u q) (λ_ q=>q) λ_ _ q=>q
theorem Rr.laid(x:Rr P w H h)(k:∀b u,h.get? b=some u->h'.get? b=some u)(hp:h.objs.size<=a)(new:D_ P w (upd H a o) h' a o):Rr P w (upd H a o) h':=λb u e=>by
 have hn:=x.fresh hp;by_cases hb:b=a
 ·grind
 ·rw[aQ hb]at e;exact(x b u e).Tq (λc v _ q=>k c v q) (λc q=>by rw[aQ<|bp q hn];exact q) λc xs q=>by rw[aQ<|bp q hn];exact q
end
def Rd(H:Hp)(a:Tk)(u:HO):Prop:=H a=some u\/∃o,H a=some (.Q3 o u)
theorem Rd.ok{H:Hp}{u:HO}(r:Rd H a u)(x:Rr P w H h):D_ P w H h a u:=by
 let r||{o,r}:=r
 ·exact x a u r
 ·let{_,q}:=x a _ r;exact q
def Mut:SC HO->Prop
 | some (.lst _)=>True
 | some (.dK _)=>True
 | some (.dT _)=>True
 | some (.set _ _)=>True
 | some (.obj _)=>True
 | some (.ins _ _ _)=>True
 | some (.ext _)=>True
 | _=>False
section
variable {H:Hp} {x e:Tk} {o':HO}
theorem Rr.write(ok:Rr P w H h)(mu:Mut (H x))(he:e=x\/H e=some (.own x))(k:∀b u,b≠e->h.get? b=some u->h'.get? b=some u)(heo:∃u,h'.get? e=some u)
  (new:D_ P w (upd H x o') h' x o'):Rr P w (upd H x o') h':=λb u q=>by
 have zbc:∀c y,H c=some (.own y)->c≠x:=λc y r z=>by subst z;rw[r]at mu;exact mu
 have zbb:∀c xs,H c=some (.tup xs)->c≠x:=λc xs r z=>by subst z;rw[r]at mu;exact mu
 by_cases hb:b=x
 ·grind
 ·rw[aQ hb]at q;by_cases hbe:b=e
  ·have q':H b=some (.own x):=by
    grind
   rw[q]at q';cases q';let{v,hv}:=heo;exact{v,by rw[hbe];exact hv}
  ·refine(ok b u q).Tq (λc v hc r=>k c v ?_ r) (λc r=>by rw[aQ<|zbc c b r];exact r) λc xs r=>by rw[aQ<|zbb c xs r];exact r
   grind
end
structure Un(fs ex:Re Tk)(H H':Hp)(h h':Wp):Prop where
 keep:∀b o,h.get? b=some o->H b=none->b∉fs->b∉ex->h'.get? b=some o
 slot:∀b o,h.get? b=some o->H b=none->b∈fs->b∉ex->∃sl,h'.get? b=some { o with slots:=sl }
 free:∀b o,h.get? b=some o->H b=none->b∉ex->H' b=none
 there:∀b o,h.get? b=some o->b∉ex->∃o',h'.get? b=some o'
 SA:∀b xs,H b=some (.tup xs)->H' b=some (.tup xs)
 Sk:∀b o u,H b=some (.Q3 o u)->H' b=some (.Q3 o u)
 SW:∀b ps,H b=some (.ZX ps)->∃more,H' b=some (.ZX<|ps++more)
section
variable {fs fs' ex ex':Re Tk} {H H1 H2:Hp} {h1 h2:Wp} {x e:Tk} {o:HO}
theorem Un.any(u:Un fs ex H H1 h h1){ob:Obj}(q:h.get? b=some ob)(n:H b=none)(hx:b∉ex):∃sl,h1.get? b=some { ob with slots:=sl }:=by
 by_cases hb:b∈fs
 ·exact u.slot b ob q n hb hx
 ·exact{ob.slots,u.keep b ob q n hb hx}
theorem Un.kept(k:∀b u,h.get? b=some u->h'.get? b=some u):Un fs ex H H h h' :=
 {λb ob q _ _ _=>k b ob q,λb ob q _ _ _=>{ob.slots,k b ob q},λ_ _ _ n _=>n,λb ob q _=>{ob,k b ob q},λ_ _ q=>q,λ_ _ _ q=>q,λ_ ps q=>{#[],by rw[q];simp}}
theorem Un.refl:Un fs ex H H h h:=Un.kept λ_ _ q=>q
theorem Un.laid(k:∀b u,h.get? b=some u->h'.get? b=some u)(hp:h.objs.size<=a)(hn:H a=none):Un fs ex H (upd H a o) h h' where
 keep:=λb u q _ _ _=>k b u q
 slot:=λb u q _ _ _=>{u.slots,k b u q}
 free:=λb u q n _=>by rw[aQ<|bu<|bo (aw q) hp];exact n
 there:=λb u q _=>{u,k b u q}
 SA:=λb xs q=>by rw[aQ<|bp q hn];exact q
 Sk:=λb u xs q=>by rw[aQ<|bp q hn];exact q
 SW:=λb ps q=>{#[],by rw[aQ<|bp q hn,q];simp}
theorem Un.write(mu:Mut (H x))(he:e=x\/H e=some (.own x))(k:∀b u,b≠e->h.get? b=some u->h'.get? b=some u)(heo:∃u,h'.get? e=some u):Un fs ex H (upd H x o) h h':=by
 have hx:∀b,H b=none->b≠x:=λb n z=>by subst z;rw[n]at mu;exact mu
 have hb:∀b,H b=none->b≠e:=λb n z=>by
  subst z;let r||r:=he
  ·exact hx b n r
  ·rw[n]at r;cases r
 have hm:∀b u,H b=some u->¬ Mut (some u)->b≠x:=λb u q nm z=>by subst z;rw[q]at mu;exact nm mu
 refine{λb u q n _ _=>k b u (hb b n) q,λb u q n _ _=>{u.slots,k b u (hb b n) q},λb u q n _=>by rw[aQ<|hx b n];exact n,λb u q _=>?_,
  λb xs q=>by rw[aQ<|hm b _ q λz=>z];exact q,λb u xs q=>by rw[aQ<|hm b _ q λz=>z];exact q,λb ps q=>{#[],by rw[aQ<|hm b _ q λz=>z,q];simp}}
 grind
end
def VE(h:Wp)(H:Hp):Re Tk:=(List.range h.objs.size).filter λa=>(H a).isSome
def yS(h:Wp)(H:Hp):Wp:=PySem.W.hideAll h<|VE h H
theorem Dx(h:Wp)(H:Hp):(yS h H).objs.size=h.objs.size:=PySem.W.hideAll_size _ _
theorem Gg{H:Hp}(e:h.get? b=some o)(n:H b=none):(yS h H).get? b=some o :=
 PySem.W.hideAll_get _ e λhm=>by
  have q:=(List.mem_filter.mp hm).2;rw[n]at q;simp at q
theorem Ig{H:Hp}(e:(yS h H).get? b=some o):h.get? b=some o/\H b=none:=by
 have e':=PySem.W.of_hideAll (VE h H) e;refine{e',?_}
 cases q:H b with
 | none=>rfl
 | some x =>
  have hm:b∈VE h H:=List.mem_filter.mpr {List.mem_range.mpr<|aw e',by simp[q]};have z:(yS h H).get? b=none:=PySem.W.hideAll_none (VE h H) hm;rw[z]at e;cases e
structure Mod(K:PySem.W.Frag)(mg:Rm)(base:Wp):Prop where
 kin:K.In base
 glob:base.Ns mainGlobals mg
 blt:∃mb,base.Ns builtinsNs mb/\∀x:Str,x ≠ "__name__" -> mb x=bootBuiltins x
 nolimit:base.NoLimit
structure Cx where
 prog:Tl
 w:TD
 K:PySem.W.Frag
 mg:Str->SC SL
 base:Wp
 A:UV
 N:Re Str
 s₀:SZ
 H₀:Hp
 env:Env
 outer:Re Env
 stack:Re Env
 ex:Re Tk
 fn:Str->Bool
 calm:Bool
 pn:Re (Tk×Obj)
 xe:SL->SZ->Prop
def TN(l:Re Env):Re Tk:=l.filterMap (·.frame)
abbrev Cx.fs(X:Cx):Re Tk:=TN X.outer
def UW(sc:Scope)(x:Str):Prop:=sc.names.lookup x=some .local\/sc.names.lookup x=some .cell\/sc.names.lookup x=some .free
def Loc(sc:Scope)(x:Str):Prop:=sc.names.lookup x=some .local\/sc.names.lookup x=some .cell
def Look(env:Env)(h:Wp)(m:Rm)(x:Str)(u:SL):Prop :=
 (env.kindOf x=some .local/\m x=some u)\/((env.kindOf x=some .cell\/env.kindOf x=some .free)/\∃c,env.cells.lookup x=some c/\h.IsCell c (some u))
structure Cx.Ok(X:Cx):Prop where
 mod:Mod X.K X.mg X.base
 kind:X.env.scope.kind=.function
 glob:X.env.globals=mainGlobals
 blt:X.env.builtins=builtinsNs
 above:X.s₀.heap.objs.size<=X.env.locals
 inj:∀x y c,X.env.cells.lookup x=some c->X.env.cells.lookup y=some c->x=y
 has:∀x,(X.env.kindOf x=some .cell\/X.env.kindOf x=some .free)->∃c,X.env.cells.lookup x=some c
 cab:∀x c,X.fn x=true->X.env.cells.lookup x=some c->X.s₀.heap.objs.size<=c
 hd:X.calm=true->X.A.handled=none
 frames:X.A.frames=some X.stack
 Xk:X.stack=X.outer\/(X.stack=X.env::X.outer/\X.env.frame=some X.env.locals)
 exf:∀b∈X.ex,b≠X.env.locals/\∀x c,X.env.cells.lookup x=some c->c≠b
 bs:∀b o,X.base.get? b=some o->X.s₀.heap.get? b=some o/\X.H₀ b=none
 YA:X.base.objs.size<=X.s₀.heap.objs.size
 VZ:∀b o,X.base.get? b=some o->b∉X.ex
 Wn:∀b∈X.ex,b∉X.fs
 Sj:X.s₀.heap.FunFrames X.base X.outer
 Zl:∀b∈X.fs,X.H₀ b=none
structure Inv(X:Cx)(pins:C_)(Z:Re (SC V))(H:Hp)(s:SZ):Prop where
 ok:X.Ok
 os:s.os=X.s₀.os
 bare:AllBare s.gens
 base:Un X.fs X.ex X.H₀ H X.s₀.heap s.heap
 loc:∃m,s.heap.Ns X.env.locals m/\∀(i:Nat) (x:Str) (v:V),X.N[i]? = some x->Z[i]? = some (some v)->UW X.env.scope x->∃u,RelV v u/\Look X.env s.heap m x u
 cell:∀x c,X.env.cells.lookup x=some c->∃v,s.heap.IsCell c v
 free:H X.env.locals=none
 QZ:∀x c,X.env.cells.lookup x=some c->H c=none
 pin:∀p∈X.pn++pins,s.heap.get? p.1=some p.2/\H p.1=none/\p.1≠X.env.locals/\p.1∉X.fs/\∀v,p.2.data≠.cell v
 k_:Rr X.prog X.w H s.heap
 len:Z.length=X.N.length
section
variable {X:Cx} {Z:Re (SC V)} {H H':Hp}
theorem Cx.Ok.Y4(ok:X.Ok)(e:X.base.get? b=some o):b∉X.fs:=λhb=>by
 have:=(ok.Sj.mem hb).1
 grind
theorem Inv.bs(I:Inv X pins Z H s):∀b o,X.base.get? b=some o->s.heap.get? b=some o/\H b=none:=λb o e =>
 {I.base.keep b o (I.ok.bs b o e).1 (I.ok.bs b o e).2 (I.ok.Y4 e)<|I.ok.VZ b o e,I.base.free b o (I.ok.bs b o e).1 (I.ok.bs b o e).2<|I.ok.VZ b o e}
theorem Inv.bk(I:Inv X pins Z H s):∀b o,X.base.get? b=some o->s.heap.get? b=some o:=λb o e=>(I.bs b o e).1
theorem Inv.mod(I:Inv X pins Z H s):Mod X.K X.mg X.base:=I.ok.mod
theorem Inv.S8(I:Inv X pins Z H s):X.K.In s.heap:=I.ok.mod.kin.keeps I.bk
theorem Inv.lt(I:Inv X pins Z H s):X.env.locals<s.heap.objs.size:=let ⟨_,hn,_⟩:=I.loc;hn.lt
theorem Inv.sz(I:Inv X pins Z H s):X.s₀.heap.objs.size<=s.heap.objs.size:=bj I.ok.above<|Me I.lt
theorem Inv.zaC(I:Inv X pins Z H s)(h:s.heap.objs.size<=a):a∉X.fs:=λhb=>by
 let{_,o,ho,_}:=I.ok.Sj.mem hb;exact absurd (bo (aw ho)<|bj I.sz h)<|lf _
theorem Inv.Zs(I:Inv X pins Z H s):∀x c,X.env.cells.lookup x=some c->c≠X.env.locals:=λx c e z=>by
 let{v,o,ho,hd}:=I.cell x c e;let{m,{o',es,ep,Vd,hd',_},_}:=I.loc
 grind
theorem Inv.Sj(I:Inv X pins Z H s):s.heap.FunFrames X.base X.outer:=by
 have all:∀(l:Re Env),(∀b∈TN l,b∈X.fs)->X.s₀.heap.FunFrames X.base l->s.heap.FunFrames X.base l:=by
  intro l
  induction l with
  | nil=>intro _ _;trivial
  | cons env r ih =>
   intro hs hl;let{hk,{L,o,hf,hn,ho,hd},hr}:=hl;have hL:=hs L (by unfold TN;grind);let{sl,e}:=I.base.slot L o ho (I.ok.Zl L hL) hL λz=>I.ok.Wn L z hL
   exact{hk,{L,_,hf,hn,e,hd},ih (λb hb=>hs b (by unfold TN;rw[si,hf];exact Sw _ hb)) hr}
 exact all X.outer (λ_ hb=>hb) I.ok.Sj
theorem Inv.stack(I:Inv X pins Z H s):s.heap.FunFrames X.base X.stack:=by
 let e||{e,hf}:=I.ok.Xk
 ·rw[e];exact I.Sj
 ·rw[e];let{m,hn,_}:=I.loc;refine .cons (by rw[I.ok.kind];decide) hf hn ?_ I.Sj;exact Heap.get?_none_of_le<|bj I.ok.YA I.ok.above
theorem Inv.Tp(I:Inv X pins Z H s):∀b∈TN X.stack,b∈X.env.locals::X.fs:=λb hb=>by
 let e||{e,hf}:=I.ok.Xk
 ·grind
 ·rw[e]at hb;unfold TN at hb;rw[si,hf]at hb;exact hb
theorem Inv.Tc(I:Inv X pins Z H s):∀b∈TN X.stack,H b=none:=λb hb=>by
 rcases List.mem_cons.mp (I.Tp b hb)with e|hb
 ·rw[e];exact I.free
 ·let{_,o,ho,_}:=I.ok.Sj.mem hb;exact I.base.free b o ho (I.ok.Zl b hb) λz=>I.ok.Wn b z hb
theorem Inv.step{g':UF GenState}{d':Drawn}(I:Inv X pins Z H s)
  (UR:∀b∈ch,(b∈X.ex\/X.s₀.heap.objs.size<=b)/\b≠X.env.locals/\(∀x c,X.env.cells.lookup x=some c->c≠b)/\∀p∈X.pn++pins,p.1≠b)
  (keep:∀b o,b≠X.env.locals->b∉X.fs->b∉ch->s.heap.get? b=some o->H b=none->h'.get? b=some o)
  (slot:∀b o,b≠X.env.locals->b∈X.fs->b∉ch->s.heap.get? b=some o->H b=none->∃sl,h'.get? b=some { o with slots:=sl }) (free:∀b o,b∉ch->s.heap.get? b=some o->H b=none->H' b=none)
  (there:∀b o,b∉ch->s.heap.get? b=some o->∃o',h'.get? b=some o')
  (SA:∀b xs,H b=some (.tup xs)->H' b=some (.tup xs)) (Sk:∀b o u,H b=some (.Q3 o u)->H' b=some (.Q3 o u)) (SW:∀b ps,H b=some (.ZX ps)->∃more,H' b=some (.ZX<|ps++more))
  (ns:∀m,s.heap.Ns X.env.locals m->h'.Ns X.env.locals m) (k_:Rr X.prog X.w H' h') (hg:AllBare g') :
  Inv X pins Z H' { s with heap:=h',gens:=g',drawn:=d',toks:=t' }:=by
 have neL:∀b o,X.s₀.heap.get? b=some o->b≠X.env.locals:=λb o e=>bu<|bo (aw e) I.ok.above
 have neC:∀b o,X.s₀.heap.get? b=some o->b∉X.ex->b∉ch:=λb o e hx hb=>by
  rcases(UR b hb).1 with z|z
  ·exact hx z
  ·exact absurd (bo (aw e) z)<|lf _
 have cellK:∀x c,X.env.cells.lookup x=some c->∀v,s.heap.IsCell c v->h'.IsCell c v:=λx c e v ⟨o,ho,hd⟩=>by
  have nch:=λz=>(UR c z).2.2.1 x c e rfl
  by_cases hc:c∈X.fs
  ·let{sl,q}:=slot c o (I.Zs x c e) hc nch ho<|I.QZ x c e;exact{_,q,hd}
  ·exact{o,keep c o (I.Zs x c e) hc nch ho<|I.QZ x c e,hd}
 refine{I.ok,I.os,hg,{λb o e n hb hx=>?_,λb o e n hb hx=>?_,λb o e n hx=>?_,λb o e hx=>?_,λb xs e=>SA b xs<|I.base.SA b xs e,λb o xs e=>Sk b o xs<|I.base.Sk b o xs e,λb ps e=>?_},?_,λx c e=>?_,?_,λx c e=>?_,λp hp=>?_,k_,I.len}
 ·exact keep b o (neL b o e) hb (neC b o e hx) (I.base.keep b o e n hb hx)<|I.base.free b o e n hx
 ·let{sl,e1}:=I.base.slot b o e n hb hx;let{sl',e2}:=slot b _ (neL b o e) hb (neC b o e hx) e1<|I.base.free b o e n hx;exact{sl',e2}
 ·let{o',e1}:=I.base.there b o e hx;exact free b o' (neC b o e hx) e1<|I.base.free b o e n hx
 ·let{o',e1}:=I.base.there b o e hx
  grind
 ·let{m1,e1}:=I.base.SW b ps e
  grind
 ·let{m,hn,hl}:=I.loc;refine{m,ns m hn,λi x v e1 e2 e3=>?_};let{u,r,l}:=hl i x v e1 e2 e3;refine{u,r,?_};let l||{k,c,e,z}:=l
  ·exact .inl l
  ·exact .inr {k,c,e,cellK x c e _ z}
 ·let{v,z}:=I.cell x c e
  grind
 ·let{m,{o,_,_,ho,_},_}:=I.loc;exact free _ o (λz=>(UR _ z).2.1 rfl) ho I.free
 ·let{v,o,ho,hd}:=I.cell x c e;exact free c o (λz=>(UR c z).2.2.1 x c e rfl) ho<|I.QZ x c e
 ·let{e,n,ne,nf,d}:=I.pin p hp
  grind
theorem Inv.un(I:Inv X pins Z H s)(u:Un X.fs [] H H' s.heap h')(k_:Rr X.prog X.w H' h'):Inv X pins Z H' { s with heap:=h',toks:=t' }:=by
 let{m,{o,es,ep,ho,r},_}:=id I.loc;let{sl,hL}:=u.any ho I.free ?G
 exact I.step   (ch:=[]) (λ_ z=>nomatch z) (λb o _ hb _ e n=>u.keep b o e n hb ?G) (λb o _ hb _ e n=>u.slot b o e n hb ?G) (λb o _ e n=>u.free b o e n ?G) (λb o _ e=>u.there b o e ?G) u.SA u.Sk u.SW (λm' hm=>by
  let{o',W_,ep',Vd,r'}:=hm;rw[ho]at Vd;cases Vd
  exact{_,W_,ep',hL,r'}) k_ I.bare
theorem Inv.call{g':UF GenState}{d':Drawn}(I:Inv X pins Z H s)(u:Un (TN X.stack) ch H H' s.heap h')(k_:Rr X.prog X.w H' h')(hg:AllBare g')
  (UR:∀b∈ch,(b∈X.ex\/X.s₀.heap.objs.size<=b)/\b≠X.env.locals/\(∀x c,X.env.cells.lookup x=some c->c≠b)/\∀p∈X.pn++pins,p.1≠b) :
  Inv X pins Z H' { s with heap:=h',gens:=g',drawn:=d',toks:=t' }:=by
 let{m,{o,es,ep,ho,r},_}:=id I.loc;let{sl,hL}:=u.any ho I.free λz=>(UR _ z).2.1 rfl
 exact I.step  UR (λb o hL hb hc e n=>u.keep b o e n (λz=>(List.mem_cons.mp<|I.Tp b z).elim hL hb) hc) (λb o _ _ hc e n=>u.any e n hc) (λb o hc e n=>u.free b o e n hc) (λb o hc e=>u.there b o e hc) u.SA u.Sk u.SW (λm' hm=>by
  let{o',W_,ep',Vd,r'}:=hm;rw[ho]at Vd;cases Vd
  exact{_,W_,ep',hL,r'}) k_ hg
theorem Inv.turned{it:Tk}(I:Inv X pins Z H s)(k:∀b o,b≠it->s.heap.get? b=some o->h'.get? b=some o)(hn:H it=none)(hL:it≠X.env.locals)
  (h1:it∈X.ex\/X.s₀.heap.objs.size<=it) (h2:∀x c,X.env.cells.lookup x=some c->c≠it) (h3:∀p∈X.pn++pins,p.1≠it):Inv X pins Z H { s with heap:=h',toks:=t' }:=by
 refine I.step   (ch:=[it]) (λb hb=>?_) (λb o _ _ hc e _=>k b o (λz=>hc (by simp[z])) e) (λb o _ _ hc e _=>{o.slots,k b o (λz=>hc (by simp[z])) e}) (λ_ _ _ _ n=>n)
  (λb o hc e=>{o,k b o (λz=>hc (by simp[z])) e}) (λ_ _ e=>e) (λ_ _ _ e=>e) (λb ps e=>{#[],by rw[e];simp}) (λm hm=>?_) (λb u e=>?_) I.bare
 ·grind
 ·let{o,es,ep,ho,r}:=hm;exact{o,es,ep,k _ o (Ne.symm hL) ho,r}
 ·refine(I.k_ b u e).Tq (λc v hc q=>k c v ?_ q) (λ_ q=>q) λ_ _ q=>q
  grind
theorem Inv.tok(I:Inv X pins Z H s)(t:Nat):Inv X pins Z H { s with toks:=t }:=I.un   Un.refl I.k_
theorem Inv.kept(I:Inv X pins Z H s)(k:∀b u,s.heap.get? b=some u->h'.get? b=some u):Inv X pins Z H { s with heap:=h',toks:=t' }:=I.un (Un.kept k)<|I.k_.kept k
theorem Inv.laid{o:HO}(I:Inv X pins Z H s)(k:∀b u,s.heap.get? b=some u->h'.get? b=some u)(hp:s.heap.objs.size<=a)(new:D_ X.prog X.w (upd H a o) h' a o) :
  Inv X pins Z (upd H a o) { s with heap:=h',toks:=t' }:=I.un (Un.laid k hp<|I.k_.fresh hp)<|I.k_.laid k hp new
theorem Inv.write{x e:Tk}{o:HO}(I:Inv X pins Z H s)(mu:Mut (H x))(he:e=x\/H e=some (.own x))(k:∀b u,b≠e->s.heap.get? b=some u->h'.get? b=some u)(heo:∃u,h'.get? e=some u)
  (new:D_ X.prog X.w (upd H x o) h' x o):Inv X pins Z (upd H x o) { s with heap:=h',toks:=t' }:=I.un (Un.write mu he k heo)<|I.k_.write mu he k heo new
theorem Inv.Td{U6:C_}(I:Inv X pins Z H s)(h:∀p∈U6,s.heap.get? p.1=some p.2/\H p.1=none/\p.1≠X.env.locals/\p.1∉X.fs/\∀v,p.2.data≠.cell v):Inv X U6 Z H s :=
 {I.ok,I.os,I.bare,I.base,I.loc,I.cell,I.free,I.QZ,λp hp=>(List.mem_append.mp hp).elim (λz=>I.pin p<|UY _ z)<|h p,I.k_,I.len}
theorem rV{N:Re Str}(hN:N.Nodup){i j:Nat}(a:N[i]? = some x)(b:N[j]? = some x):i=j:=by
 let{h1,e1}:=List.getElem?_eq_some_iff.mp a;let{h2,e2}:=List.getElem?_eq_some_iff.mp b;exact(List.getElem_inj hN).mp<|e1.trans e2.symm
theorem uC{M:Model}{i:Nat}{v:V}(I:Inv X pins Z H s)(hN:X.N.Nodup)(hi:X.N[i]? = some x)(hx:Loc X.env.scope x)(r:RelV v u)
  (h:∀s',Inv X pins (Z.set i<|some v) H s'->(∃a,Heap.SameBut a s.heap s'.heap/\(a=X.env.locals\/X.env.cells.lookup x=some a))->Q () s') (hf:X.fn x=true\/X.env.scope.names.lookup x=some .local:=by first|exact .inl rfl|exact .inr rfl|assumption):wpAny M A (storeName X.env x u) Q E s:=by
 let{m,hn,hl}:=id I.loc;have zbA:(X.env.scope.kind==.class||(X.env.scope.kind==.module&&X.env.locals != X.env.globals))=false:=by rw[I.ok.kind];rfl
 have hiσ:i<Z.length:=by rw[I.len];grind
 have Zs:=I.Zs;have tracked:∀{a:Tk} {h':Wp},(∃o,s.heap.get? a=some o/\H a=none)->Heap.SameBut a s.heap h'->Rr X.prog X.w H h':=λ{a h'} ha hs b ob e=>by
  refine(I.k_ b ob e).Tq (λc w' hc q=>(hs.2 c ?_).trans q) (λ_ q=>q) λ_ _ q=>q
  grind
 let hk||hk:=hx
 ·refine wpAny_storeName_local hk hn (λh' hn' hs=>?_) zbA;let{oL,_,_,hoL,_}:=id hn;refine h _ {I.ok,I.os,I.bare,{λb o e n hb hx=>?_,λb o e n hb hx=>?_,I.base.free,λb o e hx=>?_,I.base.SA,I.base.Sk,I.base.SW},{_,hn',λj y v' e1 e2 e3=>?_},λy c e=>?_,I.free,I.QZ,λp hp=>?_,tracked {oL,hoL,I.free} hs,by simpa using I.len} {_,hs,.inl rfl}
  ·exact(hs.2 b<|bu<|bo (aw e) I.ok.above).trans<|I.base.keep b o e n hb hx
  ·let{sl,e1}:=I.base.slot b o e n hb hx;exact{sl,(hs.2 b<|bu<|bo (aw e) I.ok.above).trans e1}
  ·let{o',e1}:=I.base.there b o e hx;exact{o',(hs.2 b<|bu<|bo (aw e) I.ok.above).trans e1}
  ·by_cases hj:j=i
   ·subst hj;rw[hi]at e1;cases e1;rw[di hiσ]at e2
    cases e2
    exact{u,r,.inl {hk,by simp}}
   ·rw[be<|Ne.symm hj]at e2;let{u',r',q}:=hl j y v' e1 e2 e3;refine{u',r',?_};let{k,e}||{k,c,e,z}:=q
    ·refine .inl {k,?_};have:y≠x:=λe=>hj<|rV hN e1<|e▸hi
     simp[this,e]
    ·exact .inr {k,c,e,z.sameBut hs<|Zs y c e}
  ·let{w',z}:=I.cell y c e;exact{w',z.sameBut hs<|Zs y c e}
  ·let{e,n,ne,nf,d}:=I.pin p hp;exact{(hs.2 p.1 ne).trans e,n,ne,nf,d}
 ·have Yb:X.fn x=true:=by
   grind
  let{c,hc}:=I.ok.has x<|.inl hk;let{w',z}:=I.cell x c hc;refine wpAny_storeName_cell I.ok.kind hk hc z λh' Sy hs=>?_;let{oc,hoc,zbL}:=id z;refine h { s with heap:=h' } {I.ok,I.os,I.bare,{λb o e n hb hx=>?_,λb o e n hb hx=>?_,I.base.free,λb o e hx=>?_,I.base.SA,I.base.Sk,I.base.SW},{m,hn.sameBut hs<|Ne.symm<|Zs x c hc,λj y v' e1 e2 e3=>?_},λy c' e=>?_,I.free,I.QZ,λp hp=>?_,tracked {oc,hoc,I.QZ x c hc} hs,by simpa using I.len} {c,hs,.inr hc}
  ·exact(hs.2 b<|bu<|bo (aw e)<|I.ok.cab x c Yb hc).trans<|I.base.keep b o e n hb hx
  ·let{sl,e1}:=I.base.slot b o e n hb hx;exact{sl,(hs.2 b<|bu<|bo (aw e)<|I.ok.cab x c Yb hc).trans e1}
  ·let{o',e1}:=I.base.there b o e hx;exact{o',(hs.2 b<|bu<|bo (aw e)<|I.ok.cab x c Yb hc).trans e1}
  ·by_cases hj:j=i
   ·subst hj;rw[hi]at e1;cases e1;rw[di hiσ]at e2
    cases e2
    exact{u,r,.inr {.inl hk,c,hc,Sy}}
   ·rw[be<|Ne.symm hj]at e2;let{u',r',q}:=hl j y v' e1 e2 e3;refine{u',r',?_};let q||{k,c',e,z'}:=q
    ·exact .inl q
    ·refine .inr {k,c',e,z'.sameBut hs ?_};rintro rfl;exact hj<|rV hN e1<|I.ok.inj _ _ _ e hc▸hi
  ·by_cases VL:c'=c
   ·grind
   ·let{w2,z2}:=I.cell y c' e;exact{w2,z2.sameBut hs VL}
  ·let{e,n,ne,nf,d}:=I.pin p hp;refine{(hs.2 p.1 ?_).trans e,n,ne,nf,d}
   grind
theorem mO{M:Model}{i:Nat}{v:V}(I:Inv X pins Z H s)(hN:X.N.Nodup)(hi:X.N[i]? = some x)(hx:Loc X.env.scope x)(r:RelV v u)
  (h:∀s',Inv X pins (Z.set i<|some v) H s'->Q () s') (hf:X.fn x=true\/X.env.scope.names.lookup x=some .local:=by first|exact .inl rfl|exact .inr rfl|assumption):wpAny M A (storeName X.env x u) Q E s :=
 uC I hN hi hx r (λs' I' _=>h s' I') hf
theorem Inv.ZR{s':SZ}(I:Inv X pins Z H s)(ho:s'.os=s.os)(u:Un (TN X.stack) ch H H' s.heap s'.heap)(k_:Rr X.prog X.w H' s'.heap)(hg:AllBare s'.gens)
  (UR:∀b∈ch,(b∈X.ex\/X.s₀.heap.objs.size<=b)/\b≠X.env.locals/\(∀x c,X.env.cells.lookup x=some c->c≠b)/\∀p∈X.pn++pins,p.1≠b):Inv X pins Z H' s':=by
 let{h',g',d',t',o'}:=s';have e:=ho;subst e;exact I.call    u k_ hg UR
end
abbrev XK:=SL->SC Tk->Hp->Prop
abbrev St:=Re<|SC V
abbrev VK:=V->Hp->Prop
abbrev TE:=St->Hp->VK->Prop
abbrev TT:=St->Hp->(Bool->Hp->Prop)->Prop
abbrev TA:=St->Hp->(Re V->Hp->Prop)->Prop
structure Ends where
 nx:St->Hp->Prop
 rt:VK
 bk:St->Hp->Prop:=λ_ _=>False
 ct:St->Hp->Prop:=λ_ _=>False
abbrev TS:=Ends->St->Hp->Prop
def EP(X:Cx)(pins:C_)(Z:St)(Q:VK)(u:SL)(s':SZ):Prop:=∃v H',Inv X pins Z H' s'/\RelV v u/\Q v H'
def TP(X:Cx)(pins:C_)(Z:St)(Q:Bool->Hp->Prop)(b:Bool)(s':SZ):Prop:=∃H',Inv X pins Z H' s'/\Q b H'
def AP(X:Cx)(pins:C_)(Z:St)(Q:Re V->Hp->Prop)(us:Re SL)(s':SZ):Prop:=∃vs H',Inv X pins Z H' s'/\Vals vs us/\Q vs H'
def SP(X:Cx)(pins:C_)(D:Ends)(f:Flow)(s':SZ):Prop :=
 match f with
 | .next=>∃σ' H',Inv X pins σ' H' s'/\D.nx σ' H'
 | .brk=>∃σ' H',Inv X pins σ' H' s'/\D.bk σ' H'
 | .cont=>∃σ' H',Inv X pins σ' H' s'/\D.ct σ' H'
 | .ret u=>∃v σ' H',Inv X pins σ' H' s'/\RelV v u/\D.rt v H'
def PE(X:Cx)(e:TW)(t:TE):Prop :=
 ∀(pins:C_) (s:SZ) (Z:St) (H:Hp) (Q:VK),Inv X pins Z H s->t Z H Q->wpAny ?B X.A (eval e X.env) ?jr X.xe s
def PT(X:Cx)(e:TW)(t:TT):Prop :=
 ∀(pins:C_) (s:SZ) (Z:St) (H:Hp) (Q:Bool->Hp->Prop),Inv X pins Z H s->t Z H Q->wpAny ?B X.A (isTrue e X.env<|eval e X.env) ?qx X.xe s
def PW(X:Cx)(e:TW)(t:TT):Prop :=
 ∀(whole:Sem SL) (pins:C_) (s:SZ) (Z:St) (H:Hp) (Q:Bool->Hp->Prop),Inv X pins Z H s->t Z H Q->wpAny ?B X.A (isTrue e X.env whole) ?qx X.xe s
def PA(X:Cx)(es:Re TW)(t:TA):Prop :=
 ∀(pos:Pos) (pins:C_) (s:SZ) (Z:St) (H:Hp) (Q:Re V->Hp->Prop),Inv X pins Z H s->t Z H Q->wpAny ?B X.A (spliced<|backTo pos ?T) (AP X pins Z Q) X.xe s
def PS(X:Cx)(st:Uf)(t:TS):Prop :=
 ∀(pins:C_) (s:SZ) (Z:St) (H:Hp) (D:Ends),Inv X pins Z H s->t D Z H->wpAny ?B X.A (exec st X.env) (SP X pins D) X.xe s
def VQ(X:Cx)(st:Re Uf)(t:TS):Prop :=
 ∀(pins:C_) (s:SZ) (Z:St) (H:Hp) (D:Ends),Inv X pins Z H s->t D Z H->wpAny ?B X.A (execs st X.env) (SP X pins D) X.xe s
theorem p_{α:Type}{t:Sem α}{Q Q':α->SZ->Prop}{M:Model}(h:wpAny M A t Q E s)(hQ:∀a s,Q a s->Q' a s):wpAny M A t Q' E s:=pd h hQ λ_ _ x=>x
section
variable {X:Cx}
def lB(i:Nat):TE:=λZ H Q=>∃v,Z[i]? = some (some v)/\Q v H
def tC(v:V):TE:=λ_ H Q=>Q v H
theorem dh{i:Nat}(hN:X.N[i]? = some x)(hv:UW X.env.scope x)(hd:(x==("__debug__" : Str))=false:=by decide)(Ri:(x==("__classdict__" : Str))=false:=by decide):PE X (.Name x pos) (lB i):=by
 intro pins s Z H Q I h;let{v,e,h}:=h;let{m,hn,hl}:=I.loc;let{u,r,l}:=hl i x v hN e hv;have fin:EP X pins Z Q u s:={v,H,I,r,h};let{hk,hm}||{hk,c,hc,Ug}:=l
 ·exact wpAny_Name (wpAny_loadName_local I.ok.kind hk hn hm fin) hd
 ·let hk||hk:=hk
  ·exact wpAny_Name (wpAny_loadName_cell I.ok.kind hk hc Ug fin) hd
  ·exact wpAny_Name (wpAny_loadName_free I.ok.kind hk hc Ug fin Ri) hd
theorem Fi{i j pos}:PE X (.Constant (.int i) j pos) (tC<|.int i):=λ_ _ _ H _ I h=>wpAny_Constant_int {.int i,H,I.tok _,{_,rfl},h}
theorem Nx{b j pos}:PE X (.Constant (.bool b) j pos) (tC<|.bl b):=λ_ _ _ H _ I h=>Constant_bool {.bl b,H,I,rfl,h}
theorem K4{j pos}:PE X (.Constant .none j pos) (tC .QW):=λ_ _ _ H _ I h=>Constant_none {.QW,H,I,rfl,h}
theorem K0{x j pos}:PE X (.Constant (.str x) j pos) (tC<|.str x):=λ_ _ _ H _ I h=>Calls.Constant_str {.str x,H,I.tok _,{_,rfl},h}
def Gl(X:Cx)(x:Str):Prop:=X.env.kindOf x=some .globalImplicit
theorem nF{Z:St}{H:Hp}{Q:w_}(I:Inv X pins Z H s)(hg:Gl X x)(hm:X.mg x=some u)(h:Q u s)
  (hd:(x==("__debug__" : Str))=false:=by decide):wpAny ?B X.A (eval (.Name x pos) X.env) Q E s :=
 Calls.Name_function_global I.ok.kind hg (Calls.loadGlobal_global (by rw[I.ok.glob];exact I.mod.glob.keeps I.bk) hm h) hd
theorem gY{Z:St}{H:Hp}{Q:w_}(I:Inv X pins Z H s)(hg:Gl X x)(hm:X.mg x=none)(hv:bootBuiltins x=some u)(h:Q u s)
  (hn:x ≠ "__name__":=by decide) (hd:(x==("__debug__" : Str))=false:=by decide):wpAny ?B X.A (eval (.Name x pos) X.env) Q E s:=by
 let{mb,h1,h2}:=I.mod.blt;exact Calls.Name_function_global I.ok.kind hg (Calls.loadGlobal_builtin (by rw[I.ok.glob];exact I.mod.glob.keeps I.bk) hm (by rw[I.ok.blt];exact h1.keeps I.bk) ((h2 x hn).trans hv) h) hd
theorem vY{v:V}(hg:Gl X x)(hm:X.mg x=some u)(r:RelV v u)(hd:(x==("__debug__" : Str))=false:=by decide):PE X (.Name x pos) (tC v) :=
 λ_ _ _ H _ I h=>nF I hg hm {v,H,I,r,h} hd
theorem Bx{v:V}(hg:Gl X x)(hm:X.mg x=none)(hv:bootBuiltins x=some u)(r:RelV v u)(hn:x ≠ "__name__":=by decide)(hd:(x==("__debug__" : Str))=false:=by decide):PE X (.Name x pos) (tC v) :=
 λ_ _ _ H _ I h=>gY I hg hm hv {v,H,I,r,h} hn hd
variable {a b:TW} {ta tb:TE}
variable {tA tB':TT} {rest:Re TW}
def Oz(t u:TT):TT:=λZ H Q=>t Z H λc H1=>if c=true then u Z H1 Q else Q false H1
def tOr(t u:TT):TT:=λZ H Q=>t Z H λc H1=>if c=true then Q true H1 else u Z H1 Q
def Ou(t:TT):TT:=λZ H Q=>t Z H λc H1=>Q (!c) H1
theorem Bg(ha:PT X a tA):PW X (.BoolOp .And [a] pos) tA:=by
 intro wh pins s Z H Q I h;refine isTrue_and<|p_ (ha pins s Z H Q I h) λc s1 e=>?_
 cases c with
 | true=>exact isTrue_and_nil e
 | false=>exact e
theorem EZ(ha:PT X a tA):PW X (.BoolOp .Or [a] pos) tA:=by
 intro wh pins s Z H Q I h;refine isTrue_or<|p_ (ha pins s Z H Q I h) λc s1 e=>?_
 cases c with
 | false=>exact isTrue_or_nil e
 | true=>exact e
theorem E0(ha:PT X a tA)(hb:PW X (.BoolOp .And (b::rest) pos) tB'):PW X (.BoolOp .And (a::b::rest) pos) (Oz tA tB'):=by
 intro wh pins s Z H Q I h;refine isTrue_and<|p_ ?jl λc s1 ⟨H1,I1,q1⟩=>?_
 cases c with
 | true=>exact hb wh pins s1 Z H1 Q I1 q1
 | false=>exact{H1,I1,q1}
theorem JU(ha:PT X a tA)(hb:PW X (.BoolOp .Or (b::rest) pos) tB'):PW X (.BoolOp .Or (a::b::rest) pos) (tOr tA tB'):=by
 intro wh pins s Z H Q I h;refine isTrue_or<|p_ ?jl λc s1 ⟨H1,I1,q1⟩=>?_
 cases c with
 | true=>exact{H1,I1,q1}
 | false=>exact hb wh pins s1 Z H1 Q I1 q1
theorem KU(ha:PT X a tA):PT X (.UnaryOp .Not a pos) (Ou tA):=by
 intro pins s Z H Q I h;exact isTrue_not<|ha pins s Z H (λc H1=>Q (!c) H1) I h
def MS(ta tb:TE):TE:=λZ H Q=>ta Z H λx H1=>∃c,x=.bl c/\if c=true then tb Z H1 Q else Q (.bl false) H1
def Ot(ta tb:TE):TE:=λZ H Q=>ta Z H λx H1=>∃c,x=.bl c/\if c=true then Q (.bl true) H1 else tb Z H1 Q
def MO(ta:TE):TE:=λZ H Q=>ta Z H λx H1=>∃c,x=.bl c/\Q (.bl<|!c) H1
theorem K2{op}{t:TE}(h:PE X a t):PE X (.BoolOp op [a] pos) t:=λpins s Z H Q I hw=>BoolOp_one<|h pins s Z H Q I hw
theorem K6(ha:PE X a ta)(hb:PE X (.BoolOp .And (b::rest) pos) tb):PE X (.BoolOp .And (a::b::rest) pos) (MS ta tb):=by
 intro pins s Z H Q I h;refine BoolOp_and<|p_ ?jl λv s1 ⟨x,H1,I1,r1,q1⟩=>?_;let{c,rfl,q1}:=q1
 cases r1
 refine Go ?_
 cases c with
 | true=>exact hb pins s1 Z H1 Q I1 q1
 | false=>exact{.bl false,H1,I1,rfl,q1}
theorem Nv(ha:PE X a ta)(hb:PE X (.BoolOp .Or (b::rest) pos) tb):PE X (.BoolOp .Or (a::b::rest) pos) (Ot ta tb):=by
 intro pins s Z H Q I h;refine BoolOp_or<|p_ ?jl λv s1 ⟨x,H1,I1,r1,q1⟩=>?_;let{c,rfl,q1}:=q1
 cases r1
 refine Go ?_
 cases c with
 | false=>exact hb pins s1 Z H1 Q I1 q1
 | true=>exact{.bl true,H1,I1,rfl,q1}
theorem K3(ha:PE X a ta):PE X (.UnaryOp .Not a pos) (MO ta):=by
 intro pins s Z H Q I h;refine UnaryOp_<|p_ ?jl λv s1 ⟨x,H1,I1,r1,q1⟩=>?_;let{c,rfl,q1}:=q1
 cases r1
 exact not_of<|Go {.bl<|!c,H1,I1,rfl,q1}
def tIf(t:TT)(ta tb:TE):TE:=λZ H Q=>t Z H λc H1=>if c=true then ta Z H1 Q else tb Z H1 Q
theorem yd(hc:PT X c tA)(ha:PE X a ta)(hb:PE X b tb):PE X (.IfExp c a b pos) (tIf tA ta tb):=by
 intro pins s Z H Q I h;refine wpAny_IfExp<|p_ (hc pins s Z H _ I h) λd s1 ⟨H1,I1,q1⟩=>?_
 cases d with
 | true=>exact ha pins s1 Z H1 Q I1 q1
 | false=>exact hb pins s1 Z H1 Q I1 q1
end
def QO(K:PySem.W.Frag)(H:Hp)(a:Tk)(xs:Re V):Prop :=
 Rd H a (.lst xs) \/
  ∃(o:Obj) (j_:UF SL) (n:Nat),K.lookup a=some o/\o.cls=.type "list" /\ o.dict=none/\o.data=.seq j_ n/\j_.size<=sizeLine/\Vals xs j_.toList
def B_(K:PySem.W.Frag)(H:Hp)(a:Tk)(xs:Re V):Prop :=
 Rd H a (.tup xs) \/
  ∃(o:Obj) (j_:UF SL) (n:Nat),K.lookup a=some o/\o.cls=.type "tuple" /\ o.data=.seq j_ n/\j_.size<=sizeLine/\Vals xs j_.toList
def Pq:SL->SC V
 | .none=>some .QW
 | .bool b=>some<|.bl b
 | .int i _=>some<|.int i
 | .str x _=>some<|.str x
 | .bytes b _=>some<|.byt b
 | .float b _=>some<|.flt b
 | .ref a=>some<|.ref a
 | .type n=>some<|.ty n
 | _=>none
theorem RelV.abs{x:V}(r:RelV x u):Pq u=some x:=by
 cases x with
 | QW=>cases r;rfl
 | bl _=>cases r;rfl
 | int _=>let{t,rfl}:=r;rfl
 | str _=>let{t,rfl}:=r;rfl
 | byt _=>let{t,rfl}:=r;rfl
 | flt _=>let{t,rfl}:=r;rfl
 | ref _=>cases r;rfl
 | ty _=>cases r;rfl
theorem RelV.inj{x y:V}(r:RelV x u)(q:RelV y u):x=y:=Option.some.inj<|r.abs.symm.trans q.abs
theorem Vals.inj:∀{xs ys:Re V} {us:Re SL},Vals xs us->Vals ys us->xs=ys:=by
 intro xs ys us h
 induction h generalizing ys with
 | nil=>intro h2;cases h2;rfl
 | cons r _ ih =>
  intro h2
  cases h2 with
  | cons r' t'=>rw[r.inj r',ih t']
section
variable {X:Cx} {Z:St} {H:Hp} {xs ys:Re V}
theorem QO.of{K:PySem.W.Frag}(h:H a=some (.lst xs)):QO K H a xs:=.inl<|.inl h
theorem B_.of{K:PySem.W.Frag}(h:H a=some (.tup xs)):B_ K H a xs:=.inl<|.inl h
theorem Inv.list(I:Inv X pins Z H s)(h:QO X.K H a xs):∃j_:Re SL,Vals xs j_/\PlainL s.heap a j_.toArray/\xs.length<=sizeLine:=by
 let h||{o,j_,n,hk,hc,hd,hs,hz,r}:=h
 ·let{z,j_,n,r,e}:=h.ok I.k_;exact{j_,r,{_,n,e,rfl,rfl,rfl},z}
 ·refine{j_.toList,r,{o,n,I.S8 a o hk,hc,hd,(hs)},?_};have e:=r.length
  grind
theorem Inv.tuple(I:Inv X pins Z H s)(h:B_ X.K H a xs):∃j_:Re SL,Vals xs j_/\IsTup s.heap a j_.toArray/\xs.length<=sizeLine:=by
 let h||{o,j_,n,hk,hc,hs,hz,r}:=h
 ·let{z,j_,r,p}:=h.ok I.k_
  grind
 ·refine{j_.toList,r,{o,I.S8 a o hk,hc,n,(hs)},?_};have e:=r.length
  grind
theorem Inv.U9(I:Inv X pins Z H s)(h:QO X.K H a xs)(h':QO X.K H a ys):xs=ys:=by
 let{j_,r,{o,n,e,_,_,d},_}:=I.list h;let{Sb,r',{o',n',e',_,_,d'},_}:=I.list h';have:j_=Sb:=by grind
 subst this;exact r.inj r'
theorem Inv.RG(I:Inv X pins Z H s)(h:B_ X.K H a xs)(h':B_ X.K H a ys):xs=ys:=by
 let{j_,r,{o,e,_,n,d},_}:=I.tuple h;let{Sb,r',{o',e',_,n',d'},_}:=I.tuple h';have:j_=Sb:=by grind
 subst this;exact r.inj r'
end
section
variable {X:Cx} {st:Uf} {rest:Re Uf} {t u:TS} {te:TE}
def Jv:TS:=λD Z H=>D.nx Z H
def Hl(t u:TS):TS:=λD Z H=>t { D with nx:=u D } Z H
theorem Bm:VQ X [] Jv:=λ_ _ Z H _ I h=>Qb {Z,H,I,h}
theorem j5(h1:PS X st t)(h2:VQ X rest u):VQ X (st::rest) (Hl t u):=by
 intro pins s Z H D I h;refine wpAny_execs_cons<|p_ (h1 pins s Z H { D with nx:=u D } I h) λf s1 q=>?_
 cases f with
 | next =>
  let{σ',H',I',q}:=q;exact h2 pins s1 σ' H' D I' q
 | ret v=>exact q
 | brk=>exact q
 | cont=>exact q
theorem mU(h1:PS X st t):VQ X [st] t:=by
 intro pins s Z H D I h;refine wpAny_execs_cons<|p_ (h1 pins s Z H D I h) λf s1 q=>?_
 cases f with
 | next=>exact Qb q
 | ret v=>exact q
 | brk=>exact q
 | cont=>exact q
theorem HJ:PS X (.Pass pos) Jv:=λ_ _ Z H _ I h=>wpAny_Pass {Z,H,I,h}
theorem Inv.quiet{Z:St}{H:Hp}(I:Inv X pins Z H s):interactive X.env=false:=by simp[interactive,I.ok.kind]
def Jw(te:TE):TS:=λD Z H=>te Z H λ_ H1=>D.nx Z H1
theorem qB(he:PE X e te)(hs:swapsWith e none pos.line X.env=pure false:=by rfl):PS X (.Expr e pos) (Jw te):=by
 intro pins s Z H D I h;exact wpAny_Expr_any (p_ ?ql λv s1 ⟨x,H1,I1,r1,q1⟩=>{Z,H1,I1,q1}) I.quiet hs
def Kr(te:TE):TS:=λD Z H=>te Z H D.rt
theorem zK(he:PE X e te):PS X (.Return (some e) pos) (Kr te):=by
 intro pins s Z H D I h;exact wpAny_Return_some<|p_ ?ql λv s1 ⟨x,H1,I1,r1,q1⟩=>{x,Z,H1,I1,r1,q1}
def Ov(c:TT)(t u:TS):TS:=λD Z H=>c Z H λb H1=>if b=true then t D Z H1 else u D Z H1
theorem Nr{a b:Re Uf}{tc:TT}(hc:PT X c tc)(ha:VQ X a t)(hb:VQ X b u):PS X (.If c a b pos) (Ov tc t u):=by
 intro pins s Z H D I h;refine wpAny_If<|p_ (hc pins s Z H _ I h) λd s1 ⟨H1,I1,q1⟩=>?_
 cases d with
 | true=>exact ha pins s1 Z H1 D I1 q1
 | false=>exact hb pins s1 Z H1 D I1 q1
end
abbrev TG:=V->St->Hp->(St->Hp->Prop)->Prop
abbrev Zx:=Re V->St->Hp->(St->Hp->Prop)->Prop
def PG(X:Cx)(target:TW)(t:TG):Prop :=
 ∀(pins:C_) (s:SZ) (Z:St) (H:Hp) (v:V) (u:SL) (Q:St->Hp->Prop),Inv X pins Z H s->RelV v u->t v Z H Q ->
  wpAny ?B X.A (assign target X.env u) (λ_ s'=>∃σ' H',Inv X pins σ' H' s'/\Q σ' H') X.xe s
def PGs(X:Cx)(ts:Re TW)(t:Zx):Prop :=
 ∀(pins:C_) (s:SZ) (Z:St) (H:Hp) (vs:Re V) (us:Re SL) (Q:St->Hp->Prop),Inv X pins Z H s->Vals vs us->t vs Z H Q ->
  wpAny ?B X.A (assignInOrder ((assignEach ts X.env).map (·.2)) us) (λ_ s'=>∃σ' H',Inv X pins σ' H' s'/\Q σ' H') X.xe s
abbrev G9:=V->V->V->Hp->(Hp->Prop)->Prop
def MC(X:Cx)(t:G9):Prop :=
 ∀(pins:C_) (s:SZ) (Z:St) (H:Hp) (o i v:V) (ov iv u:SL) (Q:Hp->Prop),Inv X pins Z H s->RelV o ov->RelV i iv->RelV v u->t o i v H Q ->
  wpAny ?B X.A (setItem ov iv u) (λ_ s'=>∃H',Inv X pins Z H' s'/\Q H') X.xe s
abbrev Zw:=V->V->Hp->VK->Prop
def PIp(X:Cx)(op:Operator)(t:Zw):Prop :=
 ∀(pins:C_) (s:SZ) (Z:St) (H:Hp) (x y:V) (v u:SL) (Q:VK),Inv X pins Z H s->RelV x v->RelV y u->t x y H Q ->
  wpAny ?B X.A (inplaceOp op v u) ?jr X.xe s
section
variable {X:Cx}
def g9(i:Nat):TG:=λv Z H Q=>Q (Z.set i<|some v) H
theorem mV{i:Nat}(hN:X.N.Nodup)(hi:X.N[i]? = some x)(hx:Loc X.env.scope x)(hf:X.fn x=true\/X.env.scope.names.lookup x=some .local:=by first|exact .inl rfl|exact .inr rfl|assumption):PG X (.Name x pos) (g9 i):=by
 intro pins s Z H v u Q I r h;exact wpAny_assign_Name<|mO I hN hi hx r (λs' I'=>{_,H,I',h}) hf
def LR:Zx:=λvs Z H Q=>vs=[]/\Q Z H
def yW(t:TG)(u:Zx):Zx:=λvs Z H Q=>∃v r,vs=v::r/\t v Z H λσ' H'=>u r σ' H' Q
theorem Bs:PGs X [] LR:=by
 intro pins s Z H vs us Q I r h;let{e,h}:=h;subst e;exact assignInOrder_nil {Z,H,I,h}
theorem rG{t:TG}{u:Zx}(h1:PG X e t)(h2:PGs X es u)
  (hs:(assignEach (e::es) X.env).map (·.2)=assign e X.env::(assignEach es X.env).map (·.2):=by rfl):PGs X (e::es) (yW t u):=by
 intro pins s Z H vs us Q I r h;let{v,vr,e1,h}:=h;subst e1
 cases r with
 | cons r rr =>
  rw[hs];refine assignInOrder_cons<|p_ (h1 pins s Z H _ _ _ I r h) λ_ s1 ⟨σ1,H1,I1,q1⟩=>?_;exact h2 pins s1 σ1 H1 _ _ Q I1 rr q1
def LQ(K:PySem.W.Frag)(n:Nat)(t:Zx):TG:=λv Z H Q=>∃a xs,v=.ref a/\B_ K H a xs/\xs.length=n/\t xs Z H Q
theorem Ff{k:Nat}{t:Zx}{n:Nat}(hc:X.calm=true)(h:PGs X es t)
  (hn:(assignEach es X.env).length=n:=by rfl) (V7:(assignEach es X.env).findIdx? (·.1)=none:=by rfl):PG X (.Tuple es k pos) (LQ X.K n t):=by
 intro pins s Z H v u Q I r hw;let{a,xs,e1,hq,hl,hw}:=hw;subst e1
 cases r
 let{j_,rv,ht,hz}:=I.tuple hq;refine assign_Tuple_tuple (I.ok.hd hc) ht (by simp[hn,<-hl,rv.length]) V7 λh' hx=>?_
 have I1:Inv X pins Z H { s with heap:=h' }:=I.kept  λb o e=>hx b o (bu<|aw e) e
 exact h pins _ Z H xs _ Q I1 ((rv)) hw
def Pc(to ti:TE)(t:G9):TG:=λv Z H Q=>to Z H λo H1=>ti Z H1 λi H2=>t o i v H2 λH3=>Q Z H3
theorem KZ{o i:TW}{to ti:TE}{t:G9}(ho:PE X o to)(hi:PE X i ti)(hs:MC X t)
  (ha:∀v,assign (.Subscript o i pos) X.env v=(do
   let ov <-holding [v] (eval o X.env)
   let iv <-holding [v,ov] (eval i X.env)
   standAt pos
   holding [v,ov,iv] (setItem ov iv v)
   release [v,ov,iv] []):=by intro _;rfl):PG X (.Subscript o i pos) (Pc to ti t):=by
 intro pins s Z H v u Q I r h;refine h_<|oP<|p_ ?qm λov s1 ⟨x,H1,I1,r1,q1⟩=>?_;refine h_<|oP<|p_ (hi pins s1 Z H1 _ I1 q1) λiv s2 ⟨y,H2,I2,r2,q2⟩=>?_;refine h_<|P6<|h_<|oP<|p_ (hs pins s2 Z H2 x y v ov iv u _ I2 r1 r2 r q2) λ_ s3 ⟨H3,I3,q3⟩=>?_;exact wpAny_release {Z,H3,I3,q3}
def Ho(te:TE)(g:TG):TS:=λD Z H=>te Z H λx H1=>g x Z H1 D.nx
theorem E5{te:TE}{g:TG}(he:PE X e te)(hg:PG X tg g)(hs:swapsWithSole [tg] e pos.line X.env=pure false:=by rfl)(hw:swappedStores [tg] e X.env=pure none:=by rfl)
  (h1:(assignEach [tg] X.env).map (·.2)=[assign tg X.env]:=by rfl):PS X (.Assign [tg] e pos) (Ho te g):=by
 intro pins s Z H D I h;refine wpAny_Assign_stores (p_ ?ql λv s1 ⟨x,H1,I1,r1,q1⟩=>?_) hs hw;rw[h1];exact p_ (hg pins s1 Z H1 x v _ I1 r1 q1) λ_ s2 q=>q
theorem j6{i:Nat}{te:TE}{pos':Pos}(hN:X.N.Nodup)(hi:X.N[i]? = some x)(hx:Loc X.env.scope x)(he:PE X e te)(hs:swapsWith e (some<|.Name x pos') pos.line X.env=pure false:=by rfl)(hf:X.fn x=true\/X.env.scope.names.lookup x=some .local:=by first|exact .inl rfl|exact .inr rfl|assumption) :
  PS X (.Assign [.Name x pos'] e pos) (Ho te<|g9 i):=by
 intro pins s Z H D I h;refine wpAny_Assign_Name (p_ ?ql λv s1 ⟨y,H1,I1,r1,q1⟩=>?_) hs;exact mO I1 hN hi hx r1 (λs2 I2=>{_,H1,I2,q1}) hf
def Oy(i:Nat)(te:TE)(ti:Zw):TS:=λD Z H=>∃x,Z[i]? = some (some x)/\te Z H λy H1=>ti x y H1 λz H2=>D.nx (Z.set i<|some z) H2
theorem KW{i:Nat}{te:TE}{ti:Zw}{pos':Pos}(hN:X.N.Nodup)(hi:X.N[i]? = some x)(hx:Loc X.env.scope x)(he:PE X e te)(ho:PIp X op ti)(hf:X.fn x=true\/X.env.scope.names.lookup x=some .local:=by first|exact .inl rfl|exact .inr rfl|assumption) :
  PS X (.AugAssign (.Name x pos') op e pos) (Oy i te ti):=by
 intro pins s Z H D I h;let{v,e1,h}:=h;let{m,hn,hl}:=I.loc;have vis:UW X.env.scope x:=by let k||k:=hx;exact .inl k;exact .inr<|.inl k
 let{u,r,l}:=hl i x v hi e1 vis;refine wpAny_AugAssign_Name ?_;have go:wpAny ?B X.A (eval e X.env) (λw s₂=>wpAny ?B X.A (inplaceOp op u w) (λr s₃=>wpAny ?B X.A (storeName X.env x r) (λ_=>SP X pins D .next) X.xe s₃) X.xe s₂) X.xe s:=by
  refine p_ ?ql λw s1 ⟨y,H1,I1,r1,q1⟩=>?_
  refine p_ (ho pins s1 Z H1 v y u w _ I1 r r1 q1) λz s2 ⟨zv,H2,I2,r2,q2⟩=>?_
  exact mO I2 hN hi hx r2 (λs3 I3=>{_,H2,I3,q2}) hf
 let{hk,hm}||{hk,c,hc,Ug}:=l
 ·exact wpAny_loadName_local I.ok.kind hk hn hm go
 ·let hk||hk:=hk
  ·exact wpAny_loadName_cell I.ok.kind hk hc Ug go
  ·let k||k:=hx
   ·have:X.env.scope.names.lookup x=some .free:=hk
    grind
   ·have:X.env.scope.names.lookup x=some .free:=hk
    grind
def MR(to ti te:TE)(YM:V->V->Hp->VK->Prop)(tip:Zw)(YK:G9):TS:=λD Z H=>to Z H λo H1=>ti Z H1 λi H2=>YM o i H2 λx H3=>te Z H3 λy H4=>tip x y H4 λz H5=>YK o i z H5 λH6=>D.nx Z H6
def Ol(X:Cx)(t:V->V->Hp->VK->Prop):Prop :=
 ∀(pins:C_) (s:SZ) (Z:St) (H:Hp) (o i:V) (ov iv:SL) (Q:VK),Inv X pins Z H s->RelV o ov->RelV i iv->t o i H Q ->
  wpAny ?B X.A (getItem ov iv) ?jr X.xe s
theorem HK{o i:TW}{to ti te:TE}{YM:V->V->Hp->VK->Prop}{tip:Zw}{YK:G9}{O_:Pos}(ho:PE X o to)(hi:PE X i ti)(hg:Ol X YM)(he:PE X e te)(hp:PIp X op tip)(hs:MC X YK)
  (ha:∀ov iv new,augStore i ov iv new=(do holding [new,ov,iv] (setItem ov iv new);release [new,ov,iv] [];pure .next):=by intros;rfl):PS X (.AugAssign (.Subscript o i O_) op e pos) (MR to ti te YM tip YK):=by
 intro pins s Z H D I h;refine wpAny_AugAssign_SubscriptAny (p_ ?qm λov s1 ⟨x1,H1,I1,r1,q1⟩=>?_) ha;refine p_ (hi pins s1 Z H1 _ I1 q1) λiv s2 ⟨x2,H2,I2,r2,q2⟩=>?_
 refine p_ (hg pins s2 Z H2 x1 x2 ov iv _ I2 r1 r2 q2) λold s3 ⟨x3,H3,I3,r3,q3⟩=>?_
 refine p_ (he pins s3 Z H3 _ I3 q3) λv s4 ⟨x4,H4,I4,r4,q4⟩=>?_
 refine p_ (hp pins s4 Z H4 x3 x4 old v _ I4 r3 r4 q4) λnew s5 ⟨x5,H5,I5,r5,q5⟩=>?_
 exact p_ (hs pins s5 Z H5 x1 x2 x5 ov iv new _ I5 r1 r2 r5 q5) λ_ s6 ⟨H6,I6,q6⟩=>{Z,H6,I6,q6}
def ipI(f:Int->Int->Int):Zw:=λx y H Q=>∃i j,x=.int i/\y=.int j/\Q (.int<|f i j) H
theorem wM:PIp X .Add (ipI λi j=>i+j):=by
 intro pins s Z H x y v u Q I r1 r2 h;let{i,j,e1,e2,q}:=h;subst e1;subst e2;let{t,rfl}:=r1;let{t',rfl}:=r2;exact iadd_int {.int _,H,I.tok _,{_,rfl},q}
theorem LN:PIp X .Sub (ipI λi j=>i - j):=by
 intro pins s Z H x y v u Q I r1 r2 h;let{i,j,e1,e2,q}:=h;subst e1;subst e2;let{t,rfl}:=r1;let{t',rfl}:=r2;exact isub_int {.int _,H,I.tok _,{_,rfl},q}
end
section
variable {X:Cx}
def Kq(c:TT)(tb:TS):TS:=λD Z H=>∃W:Nat->St->Hp->Prop,(∃m,W m Z H)/\∀m Z H,W m Z H ->
 c Z H λb H1=>if b=true then ∃N:St->Hp->Prop,(∀σ' H',N σ' H'->∃m',m'<m/\W m' σ' H')/\tb { D with nx:=N,ct:=N,bk:=D.nx } Z H1 else D.nx Z H1
theorem E3{tc:TT}{tb:TS}(hp:PassesOwn ?B X.A X.env X.xe)(hc:PT X c tc)(hb:VQ X body tb):PS X (.While c body [] pos) (Kq tc tb):=by
 intro pins s Z H D I h;let{W,{m0,w0},turn}:=h;refine wpAny_While<|codeAny_whileLoop (λn s'=>∃σ' H',Inv X pins σ' H' s'/\W n σ' H') ?_ m0 {Z,H,I,w0};rintro n s1 ⟨σ1,H1,I1,w1⟩;refine Cr hp<|p_ (hc pins s1 σ1 H1 _ I1<|turn n σ1 H1 w1) λb s2 ⟨H2,I2,q2⟩=>?_
 cases b with
 | true =>
  let{N,hN,q2}:=q2;refine Cr hp<|p_ (hb pins s2 σ1 H2 _ I2 q2) λf s3 q3=>?_
  cases f with
  | next =>
   let{σ3,H3,I3,n3}:=q3
   grind
  | cont =>
   let{σ3,H3,I3,n3}:=q3
   grind
  | brk=>exact q3
  | ret v=>exact q3
 | false =>
  exact Qb {σ1,H2,I2,q2}
end
structure It where
 go:Nat->Hp->Prop
 VB:Nat->Hp->V->Hp->Prop
 stop:Nat->Hp->Prop
def mM(X:Cx)(pins:C_)(H:Hp)(b:Tk):Prop :=
 H b=none/\b≠X.env.locals/\b∉X.fs/\(b∈X.ex\/X.s₀.heap.objs.size<=b)/\(∀x c,X.env.cells.lookup x=some c->c≠b)/\∀p∈X.pn++pins,p.1≠b
theorem Inv.RJ{X:Cx}{Z:St}{H H':Hp}(I:Inv X pins Z H s)(hb:s.heap.objs.size<=b)(hn:H' b=none):mM X pins H' b:=by
 refine{hn,ny<|bo I.lt hb,I.zaC hb,.inr<|bj I.sz hb,λx c e z=>?_,λp hp z=>?_}
 ·let{v,q}:=I.cell x c e;exact absurd (bo q.lt (by rw[z];exact hb))<|lf _
 ·exact absurd (bo (aw (I.pin p hp).1) (by rw[z];exact hb))<|lf _
structure Turn(P:Tl)(w:TD)(K:PySem.W.Frag)(tg:TW)(J:It)(fp:Re Tk)(it:Tk)(tn:Nat->Wp->Prop):Prop where
 mem:it∈fp
 obj:∀i h,tn i h->∀b∈fp,∃o,h.get? b=some o/\∀v,o.data≠.cell v
 keep:∀i h h',tn i h->(∀b∈fp,∀o,h.get? b=some o->h'.get? b=some o)->tn i h'
 item:∀(X:Cx),X.prog=P->X.w=w->X.K=K->X.calm=true->∀(i:Nat) (pins:C_) (s:SZ) (Z:St) (H:Hp) (E:w_),Inv X pins Z H s->(∀b∈fp,mM X pins H b)->tn i s.heap->J.go i H ->
  wpAny (model P w) X.A (pyNext<|.ref it) (λr s1=>∃u,r=some u /\
   wpAny (model P w) X.A (letOwnedTupleGo tg (.ref it) u) (λ_ s2=>∃x H',Inv X pins Z H' s2/\RelV x u/\J.VB i H x H'/\tn ?qc s2.heap/\∀b∈fp,H' b=none) E s1) E s
 done:∀(X:Cx),X.prog=P->X.w=w->X.K=K->X.calm=true->∀(i:Nat) (pins:C_) (s:SZ) (Z:St) (H:Hp) (E:w_),Inv X pins Z H s->(∀b∈fp,mM X pins H b)->tn i s.heap->J.stop i H ->
  wpAny (model P w) X.A (pyNext<|.ref it) (λr s1=>r=none/\Inv X pins Z H s1) E s
 self:∀(A:UV) (i:Nat) (s:SZ) (Q:w_) (E:w_),tn i s.heap->Q (.ref it) s->wpAny (model P w) A (pyIter<|.ref it) Q E s
abbrev TI:=St->Hp->(It->Hp->Prop)->Prop
def PIE(X:Cx)(pins:C_)(Z:St)(tg:TW)(R:It->Hp->Prop)(itv:SL)(s2:SZ):Prop :=
 ∃(it:Tk) (fp:Re Tk) (tn:Nat->Wp->Prop) (J:It) (H':Hp),itv=.ref it/\Inv X pins Z H' s2/\Turn X.prog X.w X.K tg J fp it tn/\tn 0 s2.heap/\(∀b∈fp,mM X pins H' b)/\R J H'
def PI(X:Cx)(tg iter:TW)(wi:TI):Prop :=
 ∀(pins:C_) (s:SZ) (Z:St) (H:Hp) (R:It->Hp->Prop),Inv X pins Z H s->wi Z H R ->
  wpAny ?B X.A (eval iter X.env) (λv s1=>wpAny ?B X.A (pyIter v) (PIE X pins Z tg R) X.xe s1) X.xe s
theorem BU{M:Model}{it:Tk}{n:String}{vs:UF SL}(ho:s.heap.get? it=some o)(hc:o.cls=.type n)(hd:o.data=.fields vs)
  (hn:["enumerate","zip","dict_itemiterator","dict_reverseitemiterator","odict_iterator","itertools.zip_longest","itertools.pairwise"].contains n=false) (hQ:Q () s):wpAny M A (letOwnedTupleGo tg (.ref it) u) Q E s:=by
 cases tg<;>first
  | exact m_ hQ
  | (cases u<;>first
     | exact m_ hQ
     | (refine h_<|wpAny_load ho ?_
        rw[hc,hd];show wpAny M A (if(["enumerate","zip","dict_itemiterator","dict_reverseitemiterator","odict_iterator","itertools.zip_longest","itertools.pairwise"].contains n&&vs[0]? == some (rawInt _))=true then _ else _) Q E s;rw[ax (by intro h;rw[hn]at h;cases h)]
        exact m_ hQ))
def Itl(K:PySem.W.Frag)(a:Tk):It :=
 {λi H=>∃xs x,QO K H a xs/\xs[i]? = some x,λi H x H'=>H'=H/\∀xs,QO K H a xs->xs[i]? = some x,λi H=>∃xs,QO K H a xs/\xs.length<=i}
def Itt(K:PySem.W.Frag)(a:Tk):It :=
 {λi H=>∃xs x,B_ K H a xs/\xs[i]? = some x,λi H x H'=>H'=H/\∀xs,B_ K H a xs->xs[i]? = some x,λi H=>∃xs,B_ K H a xs/\xs.length<=i}
def Itr(lo:Int)(n:Nat):It:={λi _=>i<n,λi H x H'=>H'=H/\x=.int (lo+i),λi _=>n<=i}
theorem n4{K:PySem.W.Frag}(a it:Tk):Turn P w K tg (Itl K a) [it] it (λi h=>h.IsListIter it a i) where
 mem:=by simp
 obj:=λi h st b hb=>by
  let{o,e,c,d}:=st
  grind
 keep:=λi h h' st k=>st.at λo e=>k it ?G o e
 item:=by
  intro X hP hw hK hc i pins s Z H E I hf st hg;subst hP hw hK;let{xs,x,hq,hx}:=hg;let{j_,rv,p,hz}:=I.list hq;let{u,hu,ru}:=rv.get hx;let{f0,f1,f2,f3,f4,f5}:=hf it ?G;refine wpAny_pyNext_list_item st p.isList  (by simpa using hu) λh' o_ sb=>?_
  have I1:Inv X pins Z H { s with heap:=h' }:=I.turned  (λb o hb e=>(sb.2 b hb).trans e) f0 f1 f3 f4 f5;let{o,e,c,d}:=id o_;exact{u,rfl,BU  e c d ?C {x,H,I1,ru,{rfl,λys hy=>by rw[I.U9 hy hq];exact hx},o_,λb hb=>(hf b hb).1}}
 done:=by
  intro X hP hw hK hc i pins s Z H E I hf st hg;subst hP hw hK;let{xs,hq,hx}:=hg;let{j_,rv,p,hz}:=I.list hq;let{f0,f1,f2,f3,f4,f5}:=hf it ?G;have hl:=rv.length;exact wpAny_pyNext_list_end (I.ok.hd hc) st p.isList ?Y λh' eb=>{rfl,I.turned  ?jZ f0 f1 f3 f4 f5}
 self:=λ_ _ _ _ _ st h=>wpAny_pyIter_listiter st h
theorem qR{K:PySem.W.Frag}(a it:Tk):Turn P w K tg (Itt K a) [it] it (λi h=>h.IsTupleIter it a i) where
 mem:=by simp
 obj:=λi h st b hb=>by
  let{o,e,c,d}:=st
  grind
 keep:=λi h h' st k=>st.at λo e=>k it ?G o e
 item:=by
  intro X hP hw hK hc i pins s Z H E I hf st hg;subst hP hw hK;let{xs,x,hq,hx}:=hg;let{j_,rv,p,hz}:=I.tuple hq;let{u,hu,ru}:=rv.get hx;let{f0,f1,f2,f3,f4,f5}:=hf it ?G;refine wpAny_pyNext_tuple_item st ((p))  (by simpa using hu) λh' o_ sb=>?_
  have I1:Inv X pins Z H { s with heap:=h' }:=I.turned  (λb o hb e=>(sb.2 b hb).trans e) f0 f1 f3 f4 f5;let{o,e,c,d}:=id o_;exact{u,rfl,BU  e c d ?C {x,H,I1,ru,{rfl,λys hy=>by rw[I.RG hy hq];exact hx},o_,λb hb=>(hf b hb).1}}
 done:=by
  intro X hP hw hK hc i pins s Z H E I hf st hg;subst hP hw hK;let{xs,hq,hx}:=hg;let{j_,rv,p,hz}:=I.tuple hq;let{f0,f1,f2,f3,f4,f5}:=hf it ?G;have hl:=rv.length;exact wpAny_pyNext_tuple_end (I.ok.hd hc) st ((p)) ?Y λh' eb=>{rfl,I.turned  ?jZ f0 f1 f3 f4 f5}
 self:=λ_ _ _ _ _ st h=>wpAny_pyIter_tupleiter st h
theorem zA{K:PySem.W.Frag}(it:Tk)(lo:Int)(n:Nat):Turn P w K tg (Itr lo n) [it] it (λi h=>IsRangeIter h it (lo+(i:Nat)*1) ((n:Int) - (i:Nat)) 1) where
 mem:=by simp
 obj:=λi h st b hb=>by
  have e:=by simpa using hb
  subst e
  exact{_,st,λv z=>by
   have z':=z
   cases z'}
 keep:=λi h h' st k=>k it ?G _ st
 item:=by
  intro X hP hw hK hc i pins s Z H E I hf st hg;subst hP hw hK;let{f0,f1,f2,f3,f4,f5}:=hf it ?G;have W:=Walks.range (prog:=X.prog) (w:=X.w) (I.ok.hd hc) it lo 1 n;refine W.item i s _ _ hg st λv h' tk hv o_ kk=>?_
  let{t,rfl}:=hv;have I1:Inv X pins Z H { s with heap:=h',toks:=tk }:=I.turned (λb o hb e=>kk b o (by simpa using hb) e) f0 f1 f3 f4 f5;refine{_,rfl,BU   o_ rfl rfl ?C {.int<|lo+i,H,I1,{t,?_},{rfl,rfl},o_,λb hb=>(hf b hb).1}};rw[Int.mul_one]
 done:=by
  intro X hP hw hK hc i pins s Z H E I hf st hg;let{f0,f1,f2,f3,f4,f5}:=hf it ?G;exact wpAny_pyNext_range_end (I.ok.hd hc) st (by have:n<=i:=hg;lia) λh' eb=>{rfl,I.turned  ?jZ f0 f1 f3 f4 f5}
 self:=λ_ _ _ _ _ st h=>wpAny_pyIter_rangeiter st h
section
variable {X:Cx}
def BR(K:PySem.W.Frag)(tl:TE):TI:=λZ H R=>tl Z H λx H1=>∃a,x=.ref a/\(∃xs,QO K H1 a xs)/\R (Itl K a) H1
theorem HM{l:TW}{tl:TE}(hl:PE X l tl):PI X tg l (BR X.K tl):=by
 intro pins s Z H R I h;refine p_ (hl pins s Z H _ I h) λv s1 ⟨x,H1,I1,r1,q1⟩=>?_
 let{a,e,{xs,hq},q}:=q1;subst e
 cases r1
 let{j_,rv,p,hz}:=I1.list hq;refine PU p.isList ?_;refine{s1.heap.objs.size,[s1.heap.objs.size],_,_,H1,rfl,I1.kept  λb o e=>z_ _ e,n4 a _,{_,QV _ rfl,rfl,rfl},λb hb=>?_,q};have e:=by simpa using hb
 subst e;exact I1.RJ ?jm ?jJ
theorem xY{Z:St}{H:Hp}{R:It->Hp->Prop}{lo hi:Int}{t u v:Tok}{tk:Nat}(I:Inv X pins Z H s)(h1 : -(2^62)<=lo)(h2:lo<2^62)(h3 : -(2^62)<=hi)(h4:hi<2^62)
  (q:R (Itr lo (hi - lo).toNat) H):wpAny ?B X.A (pyIter<|.ref s.heap.objs.size) (PIE X pins Z tg R) E { s with heap:=s.heap.push { cls:=.type "range",data:=.fields #[.int lo t,.int hi u,.int 1 v] },toks:=tk }:=by
 refine wpAny_pyIter_range (IsRange.new ..) (small_one h1 h2 h3 h4) ?_;have I1:Inv X pins Z H { s with heap:=s.heap.push { cls:=.type "range",data:=.fields #[.int lo t,.int hi u,.int 1 v] },toks:=tk }:=I.kept λb o e=>z_ _ e
 refine{(s.heap.push { cls:=.type "range",data:=.fields #[.int lo t,.int hi u,.int 1 v] }).objs.size,[(s.heap.push { cls:=.type "range",data:=.fields #[.int lo t,.int hi u,.int 1 v] }).objs.size],_,_,H,rfl,
  I1.kept  λb o e=>z_ _ e,zA _ lo (hi - lo).toNat,?_,λb hb=>?_,q}
 ·have e1:lo+((0:Nat))*1=lo:=by simp
  have e2:(((hi - lo).toNat)) - ((0:Nat))=Builtin.Range.rangeSize lo hi 1:=by rw[rangeSize_one];split<;>lia
  rw[e1,e2];exact QV _ rfl
 ·have e:b=(s.heap.push { cls:=.type "range",data:=.fields #[.int lo t,.int hi u,.int 1 v] }).objs.size:=by simpa using hb
  subst e;exact I1.RJ ?jm ?jJ
def NX(ta:TA):TI:=λZ H R=>ta Z H λvs H1=>∃j:Int,vs=[.int j] /\ -(2^62)<=j/\j<2^62/\R (Itr 0 j.toNat) H1
def NW(ta:TA):TI:=λZ H R=>ta Z H λvs H1=>∃i j:Int,vs=[.int i,.int j]/\(-(2^62)<=i/\i<2^62 /\ -(2^62)<=j/\j<2^62)/\R (Itr i (j - i).toNat) H1
theorem uQ{a:TW}{ta:TA}(hg:Gl X "range")(hm:X.mg "range"=none)(ha:PA X [a] ta)(hs:starEach [a] X.env=[?j6]:=by rfl):PI X tg (.Call (.Name "range" p) [a] [] pos) (NX ta):=by
 intro pins s Z H R I h;refine Call_<|gY I hg hm boot_range<|ib (p_ ?jF λus s1 ⟨vs,H1,I1,r1,q1⟩=>?_) hs rfl;let{j,e,q1,q2,q}:=q1;subst e
 cases r1 with
 | cons r rr =>
  cases rr
  let{t,rfl}:=r;exact call_range_1 (xY I1 ?A ?A q1 q2 (by simpa using q))
theorem C0{a b:TW}{ta:TA}(hg:Gl X "range")(hm:X.mg "range"=none)(ha:PA X [a,b] ta)(hs:starEach [a,b] X.env=[?j6,(false,eval b X.env)]:=by rfl)(Tu:starEach [b] X.env=[(false,eval b X.env)]:=by rfl) :
  PI X tg (.Call (.Name "range" p) [a,b] [] pos) (NW ta):=by
 intro pins s Z H R I h;refine Call_ (gY I hg hm boot_range (ib (p_ ?jF λus s1 ⟨vs,H1,I1,r1,q1⟩=>?_) (by rw[hs,Tu]) (by rw[Tu];rfl)));let{i,j,e,{q1,q2,q3,q4},q}:=q1;subst e
 cases r1 with
 | cons r rr =>
  cases rr with
  | cons r' rr =>
   cases rr
   let{t,rfl}:=r;let{t',rfl}:=r';exact call_range_2<|xY I1 q1 q2 q3 q4 q
def xP(wi:TI)(g:TG)(tb:TS):TS:=λD Z H=>wi Z H λJ H1=>∃W:Nat->Nat->St->Hp->Prop,(∃m,W 0 m Z H1)/\∀i m Z H,W i m Z H ->
 (J.stop i H/\D.nx Z H)\/(J.go i H/\∃N:St->Hp->Prop,(∀σ' H',N σ' H'->∃m',m'<m/\W ?qc m' σ' H')/\∀x H',J.VB i H x H'->g x Z H' λσ2 H2=>tb { D with nx:=N,ct:=N,bk:=D.nx } σ2 H2)
def rD(fp:Re Tk)(h:Wp):Re (Tk×Obj):=fp.filterMap λb=>(h.get? b).map λo=>(b,o)
theorem jD(hb:b∈fp)(e:h.get? b=some o):(b,o)∈rD fp h:=List.mem_filterMap.mpr {b,hb,by rw[e];rfl}
theorem C8{p:Tk×Obj}(hp:p∈rD fp h):p.1∈fp/\h.get? p.1=some p.2:=by
 let{b,hb,e}:=List.mem_filterMap.mp hp
 cases q:h.get? b with
 | none=>rw[q]at e;cases e
 | some o =>
  grind
theorem Inv.pinned{Z:St}{H:Hp}(I:Inv X pins Z H s)(hf:∀b∈fp,mM X pins H b)(ho:∀b∈fp,∃o,s.heap.get? b=some o/\∀v,o.data≠.cell v):Inv X (pins++rD fp s.heap) Z H s :=
 I.Td λp hp=>(List.mem_append.mp hp).elim (λz=>I.pin p<|du _ z) λz=>by
  let{hb,e}:=C8 z;let{f0,f1,f2,_}:=hf p.1 hb
  grind
theorem Inv.R7{pl:C_}{Z:St}{H:Hp}(I:Inv X (pins++pl) Z H s):Inv X pins Z H s:=I.Td λp hp=>I.pin p<|du _<|UY _ hp
theorem vX{iter:TW}{wi:TI}{g:TG}{tb:TS}(hp:PassesOwn ?B X.A X.env X.xe)(hc:X.calm=true)(hi:PI X tg iter wi)(hg:PG X tg g)(hb:VQ X body tb)
  (hs:∀x,foldedSetIterable iter X.env x=pure x:=by intro _;rfl):PS X (.For tg iter body [] pos) (xP wi g tb):=by
 intro pins s Z H D I h;refine wpAny_For (p_ (hi pins s Z H _ I h) λv s1 h1=>p_ h1 λitv s2 h2=>?_) hs;let{it,fp,tn,J,H2,e,I2,T,Rf,f2,W,{m0,w0},turn}:=h2;subst e;have VT:∀{H':Hp},(∀b∈fp,H' b=none)->∀b∈fp,mM X pins H' b:=λhn b hb=>{hn b hb,(f2 b hb).2}
 refine codeAny_forLoop_any (λn s'=>∃i σ' H',Inv X pins σ' H' s'/\tn i s'.heap/\(∀b∈fp,H' b=none)/\W i n σ' H') ?_ m0 {0,Z,H2,I2,Rf,λb hb=>(f2 b hb).1,w0};rintro n s3 ⟨i,σ3,H3,I3,YO,fr3,w3⟩;let{stop,qn}||{go,N,hN,step}:=turn i n σ3 H3 w3
 ·refine Cr hp<|p_ (T.done X rfl rfl rfl hc i pins s3 σ3 H3 X.xe I3 (VT fr3) YO stop) λr s4 ⟨hr,I4⟩=>?_;subst hr;exact Qb {σ3,H3,I4,qn}
 ·refine Cr hp<|p_ (T.item X rfl rfl rfl hc i pins s3 σ3 H3 X.xe I3 (VT fr3) YO go) λr s4 ⟨u,hr,h4⟩=>?_;subst hr;refine Cr hp<|p_ h4 λ_ s5 ⟨x,H5,I5,r5,y5,ZY,fr5⟩=>?_;have I5':=I5.pinned (VT fr5)<|T.obj _ _ ZY;refine Cr hp<|p_ (hg _ s5 σ3 H5 x u _ I5' r5<|step x H5 y5) λ_ s6 ⟨σ6,H6,I6,q6⟩=>?_;refine Cr hp<|p_ (hb _ s6 σ6 H6 _ I6 q6) λf s7 q7=>?_;have again:∀{σ7:St} {H7:Hp},Inv X (pins++rD fp s5.heap) σ7 H7 s7->N σ7 H7->∃m,m<n/\∃i σ' H',Inv X pins σ' H' s7/\tn i s7.heap/\(∀b∈fp,H' b=none)/\W i m σ' H':=λ{σ7 H7} I7 n7=>by
   let{m',hm,w7}:=hN σ7 H7 n7;refine{m',hm,i+1,σ7,H7,I7.R7,T.keep _ _ _ ZY λb hb o e=>(I7.pin (b,o)<|du _<|du _<|jD hb e).1,λb hb=>?_,w7};let{o,e,d}:=T.obj _ _ ZY b hb;exact(I7.pin (b,o)<|du _<|du _<|jD hb e).2.1
  cases f with
  | next=>let{σ7,H7,I7,n7}:=q7;exact again I7 n7
  | cont=>let{σ7,H7,I7,n7}:=q7;exact again I7 n7
  | brk=>let{σ7,H7,I7,q7}:=q7;exact{σ7,H7,I7.R7,q7}
  | ret v=>let{x7,σ7,H7,I7,r7,q7}:=q7;exact{x7,σ7,H7,I7.R7,r7,q7}
end
abbrev R2:=V->V->Hp->VK->Prop
def QN(X:Cx)(f:SL->SL->Sem SL)(r:R2):Prop :=
 ∀(pins:C_) (s:SZ) (Z:St) (H:Hp) (x y:V) (v u:SL) (Q:VK),Inv X pins Z H s->RelV x v->RelV y u->r x y H Q ->
  wpAny ?B X.A (f v u) ?jr X.xe s
def UnR(X:Cx)(f:SL->Sem SL)(r:V->Hp->VK->Prop):Prop :=
 ∀(pins:C_) (s:SZ) (Z:St) (H:Hp) (x:V) (v:SL) (Q:VK),Inv X pins Z H s->RelV x v->r x H Q ->
  wpAny ?B X.A (f v) ?jr X.xe s
def l_(X:Cx)(f:SL)(r:Re V->Hp->VK->Prop):Prop :=
 ∀(pins:C_) (s:SZ) (Z:St) (H:Hp) (xs:Re V) (us:Re SL) (Q:VK),Inv X pins Z H s->Vals xs us->r xs H Q ->
  wpAny ?B X.A (call f us) ?jr X.xe s
def Ps(X:Cx)(r:V->Hp->(Bool->Hp->Prop)->Prop):Prop :=
 ∀(pins:C_) (s:SZ) (Z:St) (H:Hp) (x:V) (v:SL) (Q:Bool->Hp->Prop),Inv X pins Z H s->RelV x v->r x H Q ->
  wpAny ?B X.A (truthy v) ?qx X.xe s
def ZE(r:R2)(ta tb:TE):TE:=λZ H Q=>ta Z H λx H1=>tb Z H1 λy H2=>r x y H2 Q
def tUn(r:V->Hp->VK->Prop)(ta:TE):TE:=λZ H Q=>ta Z H λx H1=>r x H1 Q
def rI(C:Int->Int->Prop)(g:Int->Int->V):R2:=λx y H Q=>∃i j,x=.int i/\y=.int j/\C i j/\Q (g i j) H
def Wx(g:Int->Int->V):R2:=λx y H Q=>∃i j,x=.int i/\y=.int j/\Q (g i j) H
def rU(g:Int->V):V->Hp->VK->Prop:=λx H Q=>∃i,x=.int i/\Q (g i) H
section
variable {X:Cx} {a b:TW} {ta tb tc:TE}
theorem Mo(ha:PE X a ta)(hb:PE X b tb){Z:St}{H:Hp}{R:V->V->Hp->Prop}(I:Inv X pins Z H s)
  (h:ta Z H λx H1=>tb Z H1 λy H2=>R x y H2) {Q:w_} {f:SL->SL->Sem SL}
  (hf:∀v u s2 x y H2,Inv X pins Z H2 s2->RelV x v->RelV y u->R x y H2->wpAny ?B X.A (f v u) Q X.xe s2) :
  wpAny ?B X.A (eval a X.env) (λv s₁=>wpAny ?B X.A (eval b X.env) (λu s₂=>wpAny ?B X.A (f v u) Q X.xe s₂) X.xe s₁) X.xe s:=by
 refine p_ ?jl λv s1 ⟨x,H1,I1,r1,q1⟩=>?_
 refine p_ (hb pins s1 Z H1 _ I1 q1) λu s2 ⟨y,H2,I2,r2,q2⟩=>?_
 grind
theorem Fh{r:R2}(ho:QN X (binaryOp op) r)(ha:PE X a ta)(hb:PE X b tb):PE X (.BinOp a op b pos) (ZE r ta tb):=by
 intro pins s Z H Q I h;exact wpAny_BinOp<|Mo ha hb I h λv u s2 x y H2 I2 rx ry q=>ho pins s2 Z H2 x y v u Q I2 rx ry q
theorem Nu{op:UnaryOp}{r:V->Hp->VK->Prop}(ho:UnR X (unaryOp op) r)(ha:PE X a ta):PE X (.UnaryOp op a pos) (tUn r ta):=by
 intro pins s Z H Q I h;exact UnaryOp_<|p_ ?jl λv s1 ⟨x,H1,I1,r1,q1⟩=>ho pins s1 Z H1 x v Q I1 r1 q1
theorem opI{C:Int->Int->Prop}{g:Int->Int->Int}
  (rule:∀(i j:Int) (t u:Tok) (s:SZ) (Q:w_) (E:w_),C i j->Q (.int (g i j) s.toks) { s with toks:=s.toks+1 }->wpAny ?B X.A (f (.int i t)<|.int j u) Q E s) :
  QN X f (rI C λi j=>.int<|g i j):=by
 intro pins s Z H x y v u Q I rx ry h;let{i,j,rfl,rfl,hc,q}:=h;let{t,rfl}:=rx;let{t',rfl}:=ry;exact rule i j t t' s _ _ hc {.int<|g i j,H,I.tok _,{_,rfl},q}
theorem NH{g:Int->Int->Int}
  (rule:∀(i j:Int) (t u:Tok) (s:SZ) (Q:w_) (E:w_),Q (.int (g i j) s.toks) { s with toks:=s.toks+1 }->wpAny ?B X.A (f (.int i t)<|.int j u) Q E s) :
  QN X f (Wx λi j=>.int<|g i j):=by
 intro pins s Z H x y v u Q I rx ry h;let{i,j,rfl,rfl,q}:=h;let{t,rfl}:=rx;let{t',rfl}:=ry;exact rule i j t t' s _ _ {.int<|g i j,H,I.tok _,{_,rfl},q}
theorem Lj{g:Int->Int->Bool}
  (rule:∀(i j:Int) (t u:Tok) (s:SZ) (Q:w_) (E:w_),Q (.bool<|g i j) s->wpAny ?B X.A (f (.int i t)<|.int j u) Q E s) :
  QN X f (Wx λi j=>.bl<|g i j):=by
 intro pins s Z H x y v u Q I rx ry h;let{i,j,rfl,rfl,q}:=h;let{t,rfl}:=rx;let{t',rfl}:=ry;exact rule i j t t' s _ _ {.bl<|g i j,H,I,rfl,q}
def Oo(i j:Int):Prop:=0<j/\j<1073741824
def On(i j:Int):Prop:=0<=j/\j<=1000000/\i.natAbs<2^64
def Zy(i j:Int):Prop:=(-(2^64)<i/\i<2^64)\/(-(2^64)<j/\j<2^64)
theorem Zy.ok{i j:Int}(h:Zy i j):IntMulOk i j:=by
 let{h1,h2}||{h1,h2}:=h
 ·exact .of_left<|intBits_le_64 h1 h2
 ·exact .of_right<|intBits_le_64 h1 h2
theorem zab:QN X (binaryOp .Add) (Wx λi j=>.int<|i+j):=NH λ_ _ _ _ _ _ _ q=>add_int q
theorem oB:QN X (binaryOp .Sub) (Wx λi j=>.int<|i - j):=NH λ_ _ _ _ _ _ _ q=>sub_int q
theorem jw:QN X (binaryOp .Mult) (rI Zy λi j=>.int<|i*j):=opI λ_ _ _ _ _ _ _ hc q=>mul_int q hc.ok
theorem qC:QN X (binaryOp .FloorDiv) (rI Oo λi j=>.int<|i / j):=opI λi j _ _ _ _ _ hc q=>by
 have h1:=hc.1;have h2:=hc.2;exact floordiv_int ?A ?Z<|.inl<|PyProof.noPylong_small ?A
theorem iS:QN X (binaryOp .Mod) (rI (λ_ j=>0<j) λi j=>.int<|i % j):=opI λi j _ _ _ _ _ hc q=>by
 exact mod_int' ?A ?Z
theorem Lf:QN X (binaryOp .Pow) (rI On λi j=>.int<|i^j.toNat):=opI λ_ _ _ _ _ _ _ hc q=>pow_int_small hc.1 hc.2.1 hc.2.2 q
theorem unI{f:SL->Sem SL}{g:Int->Int}
  (rule:∀(i:Int) (t:Tok) (s:SZ) (Q:w_) (E:w_),Q (.int (g i) s.toks) { s with toks:=s.toks+1 }->wpAny ?B X.A (f<|.int i t) Q E s) :
  UnR X f (rU λi=>.int<|g i):=by
 intro pins s Z H x v Q I rx h;let{i,rfl,q}:=h;let{t,rfl}:=rx;exact rule i t s _ _ {.int<|g i,H,I.tok _,{_,rfl},q}
theorem Kn:UnR X (unaryOp .USub) (rU λi=>.int<|-i):=unI λ_ _ _ _ _ q=>neg_int q
end
section
variable {X:Cx} {a b:TW} {ta tb tc:TE}
theorem wR{Z:St}{H:Hp}{Q:VK}{k k':Bool}(I:Inv X pins Z H s)(q:Q (.bl k) H)(e:k=k'):EP X pins Z Q (.bool k') s:=by
 subst e;exact{.bl k,H,I,rfl,q}
theorem NG:QN X (compareOp .Lt) (Wx λi j=>.bl<|decide<|i<j):=Lj λ_ _ _ _ _ _ _ q=>lt_int q
theorem fU:QN X (compareOp .Gt) (Wx λi j=>.bl<|decide<|j<i):=Lj λ_ _ _ _ _ _ _ q=>gt_int q
theorem uR:QN X (compareOp .GtE) (Wx λi j=>.bl<|decide<|j<=i):=Lj λ_ _ _ _ _ _ _ q=>ge_int q
theorem C3:QN X (compareOp .In) (λx y H Q=>∃i j,x=.str i/\y=.str j/\Q (.bl<|!(Builtin.Str.occurrences j i 0 j.length 1).isEmpty) H):=by
 intro pins s Z H x y v u Q I rx ry h;let{i,j,rfl,rfl,q}:=h;let{t,rfl}:=rx;let{t',rfl}:=ry;exact in_str<|wR I q rfl
theorem Lh:QN X (compareOp .Is) (λx y H Q=>y=.QW/\Q (.bl<|decide<|x=.QW) H):=by
 intro pins s Z H x y v u Q I rx ry h;let{rfl,q}:=h
 cases ry
 refine is_none_gen<|wR I q ?_
 cases x<;>first
  | (rfl)
  | (let{t,rfl}:=rx;rfl)
theorem HX:QN X (compareOp .IsNot) (λx y H Q=>y=.QW/\Q (.bl<|!decide (x=.QW)) H):=by
 intro pins s Z H x y v u Q I rx ry h;let{rfl,q}:=h
 cases ry
 refine isnot_none_gen<|wR I q ?_
 cases x<;>first
  | (rfl)
  | (let{t,rfl}:=rx;rfl)
theorem vZ:QN X (compareOp .NotIn) (λx y H Q=>∃i j,x=.str i/\y=.str j/\Q (.bl<|!(!(Builtin.Str.occurrences j i 0 j.length 1).isEmpty)) H):=by
 intro pins s Z H x y v u Q I rx ry h;let{i,j,rfl,rfl,q}:=h;let{t,rfl}:=rx;let{t',rfl}:=ry;exact notIn_str<|wR I q rfl
theorem QN.or{r r':R2}(h:QN X f r)(h':QN X f r'):QN X f (λx y H Q=>r x y H Q\/r' x y H Q):=by
 intro pins s Z H x y v u Q I rx ry q;let q||q:=q
 ·exact h pins s Z H x y v u Q I rx ry q
 ·exact h' pins s Z H x y v u Q I rx ry q
theorem Bw{op:CmpOp}{r:R2}(ho:QN X (compareOp op) r)(ha:PE X a ta)(hb:PE X b tb)(hm:behindInMarks op b=false):PE X (.Compare a [op] [b] pos) (ZE r ta tb):=by
 intro pins s Z H Q I h;exact wpAny_Compare1 (Mo ha hb I h λv u s2 x y H2 I2 rx ry q=>ho pins s2 Z H2 x y v u Q I2 rx ry q) hm
def ML(t:TE):TT:=λZ H Q=>t Z H λx H'=>∃k,x=.bl k/\Q k H'
theorem Bl{op:CmpOp}{r:R2}(ho:QN X (compareOp op) r)(ha:PE X a ta)(hb:PE X b tb)(hm:behindInMarks op b=false):PT X (.Compare a [op] [b] pos) (ML<|ZE r ta tb):=by
 intro pins s Z H Q I h
 refine wpAny_isTrue_Compare1 (p_ ?jl λv s1 ⟨x,H1,I1,r1,q1⟩=>p_ (hb pins s1 Z H1 _ I1 q1) λu s2 ⟨y,H2,I2,r2,q2⟩ =>
  p_ (ho pins s2 Z H2 x y v u _ I2 r1 r2 q2) λc s3 ⟨z,H3,I3,r3,k,e,q3⟩=>?_) hm
 subst e
 cases r3
 exact Go {H3,I3,q3}
def MB(K:PySem.W.Frag)(x:V)(H:Hp)(k:Bool):Prop :=
 match x with
 | .QW=>k=false
 | .bl b=>k=b
 | .int i=>k=(i != 0)
 | .str y=>y.length<=sizeLine/\k=((y.length:Int) != 0)
 | .byt y=>y.size<=sizeLine/\k=((y.size:Int) != 0)
 | .ref p=>(∃xs,QO K H p xs/\k = !xs.isEmpty)\/(∃xs,B_ K H p xs/\k = !xs.isEmpty)\/∃kvs,H p=some (.dK kvs)/\k = !kvs.isEmpty
 | _=>False
theorem Aj{κ:Type}{kvs:Re ?qX}{vs:Re (κ×SL)}(r:KV kvs vs):(!vs.isEmpty) = !kvs.isEmpty:=by
 cases r<;>rfl
theorem sK{xs:Re V}{j_:Re SL}(r:Vals xs j_):(!j_.toArray.isEmpty) = !xs.isEmpty:=by
 cases r<;>simp
theorem kg:(sizeLine:Nat)<2^63:=by decide
theorem El:Ps X (λx H Q=>∃k,MB X.K x H k/\Q k H):=by
 intro pins s Z H x v Q I rx h;let{k,e,q}:=h;have hl:=kg;have hs:sizeLine=16777216:=sizeLine_eq
 cases x with
 | QW =>
  cases rx
  have e':k=false:=e;subst e';exact truthy_none {H,I,q}
 | bl b =>
  cases rx
  have e':k=b:=e;subst e';exact Go {H,I,q}
 | int i =>
  let{t,rfl}:=rx;have e':=e;subst e';exact PySem.P.truthy_int {H,I,q}
 | str y =>
  let{t,rfl}:=rx;obtain⟨hy,e'⟩:y.length<=sizeLine/\k=((y.length:Int) != 0):=e;subst e';exact PySem.P.truthy_str ?A {H,I.tok _,q}
 | byt y =>
  let{t,rfl}:=rx;obtain⟨hy,e'⟩:y.size<=sizeLine/\k=((y.size:Int) != 0):=e;subst e';exact PySem.W.truthy_bytes ?A {H,I.tok _,q}
 | ref p =>
  cases rx
  have e':=e;let{xs,hx,e'}||{xs,hx,e'}||{kvs,hx,e'}:=e'
  ·subst e';let{j_,r,pl,hz}:=I.list hx;have hlen:=r.length;exact wpAny_truthy_list pl.isList ?Z {H,I.tok _,by rw[sK r];exact q}
  ·subst e';let{j_,r,pl,hz}:=I.tuple hx;have hlen:=r.length;exact truthy_tuple pl ?Z {H,I.tok _,by rw[sK r];exact q}
  ·subst e';obtain⟨hz,hS,vs,r,m⟩:kvs.length<=sizeLine/\(p==sysModules)=false/\∃vs,KV kvs vs/\s.heap.DictOf ?qy p vs:=I.k_ p _ hx;have hlen:=Paired.length r;exact wpAny_truthy_dict hS m ?A {H,I.tok _,by rw[Aj r];exact q}
 | _=>exact((e)).elim
theorem ya(ha:PE X a ta)(he:∀whole,isTrue a X.env whole=(do let v <-whole;standAt a.pos;holding [v] (truthy v))) :
  PT X a (λZ H Q=>ta Z H λx H'=>∃k,MB X.K x H' k/\Q k H'):=by
 intro pins s Z H Q I h;exact isTrue_plain (p_ ?jl λv s1 ⟨x,H1,I1,r1,q1⟩=>El pins s1 Z H1 x v Q I1 r1 q1)<|he _
theorem zP:QN X (binaryOp .Add) (λx y H Q=>∃i j,x=.str i/\y=.str j/\i.length+j.length<=sizeLine/\Q (.str<|i++j) H):=by
 intro pins s Z H x y v u Q I rx ry h;let{i,j,rfl,rfl,hz,q}:=h;let{t,rfl}:=rx;let{t',rfl}:=ry;exact add_str (λt' tk=>{.str<|i++j,H,I.tok _,{_,rfl},q}) hz
theorem vals1{x:V}(r:Vals [x] us):∃u,us=[u]/\RelV x u:=by
 cases r with
 | cons r1 r2=>cases r2;exact{_,rfl,r1}
theorem vals2{x y:V}(r:Vals [x,y] us):∃u w',us=[u,w']/\RelV x u/\RelV y w':=by
 cases r with
 | cons r1 r2 =>
  cases r2 with
  | cons r3 r4=>cases r4;grind
theorem DY(hc:X.calm=true):l_ X (.builtin "max") (λxs H Q=>∃i j,xs=[.int i,.int j]/\Q (.int<|if j>i then j else i) H):=by
 intro pins s Z H xs us Q I r h;let{i,j,rfl,q}:=h;let{u,w',rfl,{t,rfl},{t',rfl}}:=vals2 r;refine max_two_ints (I.ok.hd hc) λh' tk k=>{_,H,I.kept k,?_,q}
 by_cases hj:j>i
 ·rw[ar hj,ar hj];exact{_,rfl}
 ·rw[ax hj,ax hj];exact{_,rfl}
theorem DU(hc:X.calm=true):l_ X (.builtin "min") (λxs H Q=>∃i j,xs=[.int i,.int j]/\Q (.int<|if j<i then j else i) H):=by
 intro pins s Z H xs us Q I r h;let{i,j,rfl,q}:=h;let{u,w',rfl,{t,rfl},{t',rfl}}:=vals2 r;refine min_two_ints (I.ok.hd hc) λh' tk k=>{_,H,I.kept k,?_,q}
 by_cases hj:j<i
 ·rw[ar hj,ar hj];exact{_,rfl}
 ·rw[ax hj,ax hj];exact{_,rfl}
theorem eP:l_ X (.type "int") (λxs H Q=>(∃i,xs=[.int i]/\Q (.int i) H)\/∃k,xs=[.bl k]/\Q (.int<|if k then 1 else 0) H):=by
 intro pins s Z H xs us Q I r h;let{i,rfl,q}||{k,rfl,q}:=h
 ·let{u,rfl,t,rfl}:=vals1 r;exact call_int_int {.int i,H,I,{_,rfl},q}
 ·let{u,rfl,r1}:=vals1 r
  cases r1
  exact call_int_bool {.int<|if k then 1 else 0,H,I.tok _,{_,rfl},q}
end
theorem Dl{dx:Tk}{mA:Rm}(n:h.Ns1 dx mA):∃od,h.get? dx=some od/\∀name,PySem.W.lookIn name od=some (mA name):=by
 let{o,es,ep,ho,hd,hk,_,hm}:=n;refine{o,ho,λname=>?_};have e:=hm name;unfold nsFind findBy at e;unfold PySem.W.lookIn;rw[hd];dsimp only;split
 ·grind
 ·have a:es.toList.any (·.refKey)=false:=by
   rw[List.any_eq_false];intro y hy;let{z,t,zbz}:=hk y<|Array.mem_toList_iff.mp hy;simp[DictEntry.refKey,zbz]
  grind
theorem SI.some_of{v:V}{o:SC SL}(r:SI (some v) o):∃u,o=some u/\RelV v u:=by
 cases o with
 | none=>exact((r)).elim
 | some u=>exact{u,rfl,r}
def tV(K:PySem.W.Frag)(C:Tk)(f:Str):Prop:=PySem.W.findIn K (.ref C) f=some none
structure y_(k:Nat)(A:UV):Prop where
 hd:A.handled=none
 dp:A.depth+3*k+5<recursionLimit
 un:A.units+16*k+1200<cLine
 gd:A.guards=some []
theorem y_.mono{j k:Nat}(r:y_ k A)(h:j<=k):y_ j A:={r.hd,by have:=r.dp;lia,by have:=r.un;lia,r.gd}
theorem y_.deeper{k:Nat}(r:y_ (k+1) A)(env:Env):y_ k (A.deeper env) :=
 {r.hd,by have:=r.dp;show A.depth+1+3*k+5<_;lia,by have:=r.un;show A.units+3+16*k+1200<_;lia,r.gd}
theorem zW{C:Tk}{kw:Re (Str×SL)}:(A.under<|.builtin "type.__call__" {.ref C::us,kw}).depth=A.depth+1:=rfl
theorem zV{C:Tk}{kw:Re (Str×SL)}:(A.under<|.builtin "type.__call__" {.ref C::us,kw}).units=A.units+1:=rfl
theorem y_.make{k:Nat}(r:y_ (k+1) A)(C:Tk)(us:Re SL)(kw:Re (Str×SL)):y_ k (A.under<|.builtin "type.__call__" {.ref C::us,kw}) :=
 {r.hd,by have:=r.dp;rw[zW];lia,by have:=r.un;rw[zV];lia,by first|exact r.gd|simpa[Around.under]using r.gd}
theorem y_.depth{k:Nat}(r:y_ k A):A.depth<recursionLimit:=by have:=r.dp;lia
def Hn:TA:=λ_ H Q=>Q [] H
def Ew(ta:TE)(tr:TA):TA:=λZ H Q=>ta Z H λx H1=>tr Z H1 λxs H2=>Q (x::xs) H2
section
variable {X:Cx} {te:TE} {t:TA}
theorem iQ:PA X [] Hn:=λ_ _ _ _ H Q I h=>Qq {[],H,I,.nil,h}
theorem dO(ha:PE X e te)(hr:PA X es t)(hs:starEach (e::es) X.env=?K::starEach es X.env:=by rfl):PA X (e::es) (Ew te t):=by
 intro pos pins s Z H Q I h;rw[hs];refine Qj<|p_ ?jl λu s1 ⟨x,H1,I1,r1,q1⟩=>?_;exact p_ (hr pos pins s1 Z H1 _ I1 q1) λus s2 ⟨xs,H2,I2,r2,q2⟩=>{x::xs,H2,I2,.cons r1 r2,q2}
def Os(t:TA):TE:=λZ H Q=>t Z H λxs H1=>xs.length<=sizeLine/\∀p,H1 p=none->Q (.ref p) (upd H1 p<|.tup xs)
def MP(t:TA):TE:=λZ H Q=>t Z H λxs H1=>xs.length<=sizeLine/\∀p,H1 p=none->Q (.ref p) (upd H1 p<|.lst xs)
theorem zM{x1}(h:PA X es t):PE X (.Tuple es x1 pos) (Os t):=by
 intro pins s Z H Q I hq;refine wpAny_Tuple_spliced (p_ (h pos pins s Z H _ I hq) λus s1 ⟨xs,H1,I1,r,z,q⟩=>{by rw[<-r.length];exact z,?_});have hf:=I1.k_.fresh ?jm;refine{.ref s1.heap.objs.size,upd H1 s1.heap.objs.size<|.tup xs,I1.laid  (λb u e=>z_ _ e) ?jm ?_,rfl,q _ hf};exact{z,us,r,{_,QV _ rfl,rfl,_,rfl},{_,QV _ rfl,rfl}}
theorem zN(h:PA X es t):PE X (.List es pos) (MP t):=by
 intro pins s Z H Q I hq;refine wpAny_List_spliced (p_ (h pos pins s Z H _ I hq) λus s1 ⟨xs,H1,I1,r,z,q⟩=>{by rw[<-r.length];exact z,?_});have hf:=I1.k_.fresh ?jm;refine{.ref s1.heap.objs.size,upd H1 s1.heap.objs.size<|.lst xs,I1.laid  (λb u e=>z_ _ e) ?jm ?_,rfl,q _ hf};exact{z,us,0,r,QV _ rfl}
end
abbrev Sp:=Re V->Hp->VK->XK->Prop
abbrev ZV:=Re Env->Hp->SZ->XK->SL->SZ->Prop
structure Wv(P:Tl)(w:TD)(K:PySem.W.Frag)(mg:Rm)(base:Wp)(A:UV)(outer:Re Env)(s:SZ)(H:Hp):Prop where
 frames:A.frames=some outer
 mod:Mod K mg base
 bs:∀b o,base.get? b=some o->s.heap.get? b=some o/\H b=none
 YA:base.objs.size<=s.heap.objs.size
 Sj:s.heap.FunFrames base outer
 Zl:∀b∈TN outer,H b=none
 k_:Rr P w H s.heap
 bare:AllBare s.gens
def CE(outer:Re Env)(P:Tl)(w:TD)(H:Hp)(s:SZ)(Q:VK)(u:SL)(s':SZ):Prop :=
 ∃v H',s'.os=s.os/\AllBare s'.gens/\Un (TN outer) [] H H' s.heap s'.heap/\Rr P w H' s'.heap/\RelV v u/\Q v H'
def CR(CX:ZV)(outer:Re Env)(P:Tl)(w:TD)(H:Hp)(s:SZ)(Q:VK)(E:XK)(r:Result)(s':SZ):Prop :=
 match r with
 | .ok (.ret u)=>CE outer P w H s Q u s'
 | .ok _=>False
 | .error e=>CX outer H s E e s'
structure Q6(P:Tl)(w:TD)(K:PySem.W.Frag)(mg:Rm)(base:Wp)(CX:ZV)(k:Nat)(f:Tk)(fd:FuncData)(ps:Re Str)(sp:Sp):Prop where
 len:∀vs H Q E,sp vs H Q E->vs.length=ps.length
 run:∀(A:UV) (outer:Re Env) (s:SZ) (H:Hp) (args:Args) (us:Re SL) (vs:Re V) (Q:VK) (E:XK),y_ k A->Wv P w K mg base A outer s H->BindsTo s fd args (ps.zip us)->Vals vs us->sp vs H Q E ->
  codeAny (model P w) A (.call (.ref f) args) (CR CX outer P w H s Q E) s
theorem Wv.make{K:PySem.W.Frag}{outer:Re Env}{H:Hp}(e:Wv P w K mg base A outer s H)(C:Tk)(us:Re SL)(kw:Re (Str×SL)) :
  Wv P w K mg base (A.under<|.builtin "type.__call__" {.ref C::us,kw}) outer s H:={by first|exact e.frames|(simpa[Around.under]using e.frames),e.mod,e.bs,e.YA,e.Sj,e.Zl,e.k_,e.bare}
section
variable {X:Cx} {Z:St} {H:Hp} {s':SZ}
theorem Inv.zaq(I:Inv X pins Z H s):Wv X.prog X.w X.K X.mg X.base X.A X.stack s H :=
 {I.ok.frames,I.ok.mod,I.bs,bj I.ok.YA I.sz,I.stack,I.Tc,I.k_,I.bare}
theorem Inv.after{Q:VK}(I:Inv X pins Z H s)(h:CE X.stack X.prog X.w H s Q u s'):EP X pins Z Q u s':=by
 let{v,H',os,bare,un,k_,r,q}:=h;let{hh,g,d,t,os'}:=s';obtain rfl:os'=s.os:=os;exact{v,H',I.call      un k_ bare λb z=>absurd z ?G,r,q}
end
def Binds(K:PySem.W.Frag)(fd:FuncData)(ps:Re Str)(ds:Re SL):Prop :=
 ∀(s:SZ) (us:Re SL),K.In s.heap->(us++ds).length=ps.length->BindsTo s fd {us,[]} (ps.zip<|us++ds)
theorem Binds.all{K:PySem.W.Frag}{fd:FuncData}{ps:Re Str}(h:∀us:Re SL,us.length=ps.length->bindArgs fd {us,[]}=pure (ps.zip us)):Binds K fd ps []:=λs us _ hl=>by
 rw[ic]at hl ⊢;exact .of_eq<|h us hl
structure q_(N P:Re Str)(sc:Scope):Prop where
 kind:sc.kind=.function
 co:sc.isCoroutine=false
 gen:sc.isGenerator=false
 nd:N.Nodup
 pre:N.take P.length=P
 par:∀x∈P,sc.names.lookup x=some .local\/sc.names.lookup x=some .cell
 zac:∀y∈sc.names,y.2≠.free
theorem vm{kindOf:Str->SC NameKind}{x:Str}:∀{binds:Re (Str×SL)} {m:Rm},(∀v,(x,v)∉binds)->bindL kindOf binds m x=m x
 | [],_,_=>rfl
 | (n,v)::r,m,h=>by
  unfold bindL;rw[vm λw hw=>h w<|Sw _ hw];split
  ·grind
  ·rfl
theorem vp{kindOf:Str->SC NameKind}{x:Str}:∀{binds:Re (Str×SL)} {m:Rm},(∀v,(x,v)∉binds)->bindC kindOf binds m x=m x
 | [],_,_=>rfl
 | (n,v)::r,m,h=>by
  unfold bindC;rw[vp λw hw=>h w<|Sw _ hw];split
  ·rfl
  grind
theorem vn{kindOf:Str->SC NameKind}{x:Str}{v:SL}:∀{P:Re Str} {vs:Re SL} {i:Nat} {m:Rm},P.Nodup->P[i]? = some x->vs[i]? = some v->kindOf x=some .local ->
  bindL kindOf (P.zip vs) m x=some v
 | [],_,_,_,_,h,_,_=>by simp at h
 | _::_,[],_,_,_,_,h,_=>by simp at h
 | p::P,w::vs,0,m,nd,h1,h2,hk=>by
  simp at h1 h2;subst h1;subst h2;show bindL kindOf ((p,w)::P.zip vs) m p=_;unfold bindL;rw[vm λv hv=>(List.nodup_cons.mp nd).1 (Qc hv).1,ar hk];simp
 | p::P,w::vs,i+1,m,nd,h1,h2,hk=>by
  show bindL kindOf ((p,w)::P.zip vs) m x=_;exact vn  (List.nodup_cons.mp nd).2 ((h1)) ((h2)) hk
theorem vq{kindOf:Str->SC NameKind}{x:Str}{v:SL}:∀{P:Re Str} {vs:Re SL} {i:Nat} {m:Rm},P.Nodup->P[i]? = some x->vs[i]? = some v->kindOf x≠some .local ->
  bindC kindOf (P.zip vs) m x=some v
 | [],_,_,_,_,h,_,_=>by simp at h
 | _::_,[],_,_,_,_,h,_=>by simp at h
 | p::P,w::vs,0,m,nd,h1,h2,hk=>by
  simp at h1 h2;subst h1;subst h2;show bindC kindOf ((p,w)::P.zip vs) m p=_;unfold bindC;rw[vp λv hv=>(List.nodup_cons.mp nd).1 (Qc hv).1,ax hk];simp
 | p::P,w::vs,i+1,m,nd,h1,h2,hk=>by
  show bindC kindOf ((p,w)::P.zip vs) m x=_;exact vq  (List.nodup_cons.mp nd).2 ((h1)) ((h2)) hk
def start(N:Re Str)(vs:Re V):St:=vs.map some++List.replicate (N.length - vs.length) none
def mG(CX:ZV)(P:Tl)(w:TD)(K:PySem.W.Frag)(mg:Rm)(base:Wp)(N:Re Str)(qual:Str)(scope:Scope)(f:Tk)(cd:SL)(A:UV)(outer:Re Env)(s:SZ)(H:Hp)(E:XK):Cx where
 prog:=P
 w:=w
 K:=K
 mg:=mg
 base:=base
 A:=A.deeper (envOfC qual scope s.heap.objs.size f cd)
 N:=N
 s₀:=s
 H₀:=H
 env:=envOfC qual scope s.heap.objs.size f cd
 outer:=outer
 stack:=envOfC qual scope s.heap.objs.size f cd::outer
 ex:=[]
 calm:=true
 fn:=λ_=>true
 pn:=[]
 xe:=λe s'=>wpAny (model P w) (A.deeper<|envOfC qual scope s.heap.objs.size f cd) (leaving (envOfC qual scope s.heap.objs.size f cd) e) (λ_ s''=>CX outer H s E e s'') (λe' s''=>CX outer H s E e' s'') s'
theorem sX{sc:Scope}{n:Nat}(h:sc.names.lookup x=some .cell):∃c,(cellsFrom n sc.names []).lookup x=some c:=by
 have q:=PySem.W.cellsFrom_some sc.names n []<|.inl h;exact Option.isSome_iff_exists.mp q
theorem Dv{CX:ZV}{K:PySem.W.Frag}{N ps:Re Str}{qual:Str}{scope:Scope}{f:Tk}{cd:SL}{outer:Re Env}{s1:SZ}{H:Hp}{E:XK}{vs:Re V}
  (S:q_ N ps scope) (hd:A.handled=none) (e0:Wv P w K mg base A outer s H) (hl:vs.length=ps.length) (r:Vals vs us)
  (x:InCallC s s.heap.objs.size (bindL (envOfC qual scope s.heap.objs.size f cd).kindOf (ps.zip us) λ_=>none) (cellsFrom ?jD scope.names []) (bindC (envOfC qual scope s.heap.objs.size f cd).kindOf (ps.zip us) λ_=>none) s1) :
  Inv (mG CX P w K mg base N qual scope f cd A outer s H E) [] (start N vs) H s1:=by
 have Q7:ps.length<=N.length:=by have:=congrArg List.length S.pre;grind
 let{h1,tk,rfl,hk}:=x.done;have noA:∀b ,b∉(mG CX P w K mg base N qual scope f cd A outer s H E).ex:=λb z=>absurd (show b∈([])from z) ?G
 refine{{e0.mod,S.kind,rfl,rfl,ac _,λy z c h1 h2=>?_,λy hy=>?_,λy c _ h=>?_,λ_=>hd,Around.frames_deeper e0.frames,.inr {rfl,rfl},λb z=>absurd z<|noA b,e0.bs,e0.YA,λb _ _=>noA b,λb z=>absurd z<|noA b,e0.Sj,e0.Zl},
  rfl,e0.bare,Un.kept hk,{_,x.toInCall.ns,λi y v h1 h2 h3=>?_},λy c h=>{_,x.cell y c h},e0.k_.fresh ?jm,λy c h=>?_,λp hp=>absurd (show p∈([])from hp) ?G,e0.k_.kept hk,?_}
 ·exact name_of_addr x.apart (se h1)<|se h2
 ·let hy||hy:=hy
  ·exact sX hy
  ·exact absurd rfl<|S.zac _<|se hy
 ·exact Me<|x.above y c<|se h
 ·have hi:i<vs.length:=by
   unfold start at h2
   grind
  have ha:vs[i]? = some v:=by
   unfold start at h2
   grind
  let{u,hu,rv}:=r.get ha;have hp:ps[i]? = some y:=by
   rw[<-S.pre,List.getElem?_take_of_lt ?A];exact h1
  have ndP:ps.Nodup:=by rw[<-S.pre];exact S.nd.sublist<|List.take_sublist _ _
  refine{u,rv,?_};rcases S.par y (pI hp)with k|k
  ·exact .inl {k,vn ndP hp hu k}
  ·let{c,e}:=sX  k;refine .inr {.inl k,c,e,?_};have q:=x.cell y c e;rw[vq ndP hp hu (by show scope.names.lookup y≠_;rw[k];decide)]at q;exact q
 ·exact e0.k_.fresh<|Me<|x.above y c<|se h
 ·unfold start;show _=N.length
  grind
theorem Ke{CX:ZV}{K:PySem.W.Frag}{k:Nat}{f:Tk}{name qual:Str}{params:Arguments}{scope:Scope}{dV kV doc pm t_ ct oc:SL}{an od:SC Tk}
  {Uc:UF (SC SL)} {N ps:Re Str} {sp:Sp} (lk:K.lookup f=some {oc,od,.func<|PySem.W.fnOf name qual params body scope dV kV doc pm an t_ ct,Uc}) (Ri:PySem.W.codeIn K t_ qual=true) (S:q_ N ps scope)
  (len:∀vs H Q E,sp vs H Q E->vs.length=ps.length)
  (Vi:∀(A:UV) (outer:Re Env) (s:SZ) (H:Hp) (vs:Re V) (Q:VK) (E:XK),y_ k (A.deeper<|envOfC qual scope s.heap.objs.size f t_)->sp vs H Q E ->
   ∃t,VQ (mG CX P w K mg base N qual scope f t_ A outer s H E) body t/\t { nx:=λ_ H'=>Q .QW H',rt:=Q } (start N vs) H) :
  Q6 P w K mg base CX (k+1) f (PySem.W.fnOf name qual params body scope dV kV doc pm an t_ ct) ps sp:=by
 refine{len,λA outer s H args us vs Q E hr e0 hb r Uu=>?_};have hl:=len _ _ _ _ Uu;have KX:=e0.mod.kin.keeps λb o e=>(e0.bs b o e).1
 have lim:=e0.mod.nolimit.keeps λb o e=>(e0.bs b o e).1
 have zaO:∀y∈ps.zip us,scope.names.lookup y.1=some .local\/(scope.names.lookup y.1=some .cell/\((cellsFrom ?jD scope.names []).lookup y.1).isSome=true):=λ⟨n,v⟩ hy=>by
  let q||q:=S.par n (Qc hy).1
  ·exact .inl q
  ·exact .inr {q,PySem.W.cellsFrom_some _ _ _<|.inl q}
 refine codeAny_call_function hr.depth (KX _ _ lk) rfl S.co S.gen rfl (PySem.W.codeRec_of KX Ri)<|hb _ _ _ _ ?_;refine wpAny_newFunctionEnv_cells S.kind zaO λenv he s1 x=>?_
 subst he;refine{lim.keeps x.toInCall.keep,codeAny_func ?_};let{t,ht,hq}:=Vi A outer s H vs Q E (hr.deeper _) Uu;have I:Inv (mG CX P w K mg base N qual scope f t_ A outer s H E) [] (start N vs) H s1:=Dv S hr.hd e0 hl r x;refine pd (ht [] s1 (start N vs) H _ I hq) (λfl s' hs=>?_) λe s' hs=>hs
 have fin:∀{σ':St} {H':Hp} {v:V} {u:SL},Inv (mG CX P w K mg base N qual scope f t_ A outer s H E) [] σ' H' s'->RelV v u->Q v H'->CE outer P w H s Q u s' :=
  λ{σ' H' v u} J rv q=>{v,H',J.os,J.bare,J.base,J.k_,rv,q}
 cases fl with
 | ret u =>
  let{v,σ',H',J,rv,q}:=hs;exact fin J rv q
 | next =>
  let{σ',H',J,q}:=hs;exact fin (v:=V.QW)  J rfl q
 | brk =>
  let{_,_,_,q}:=hs;exact False.elim q
 | cont =>
  let{_,_,_,q}:=hs;exact False.elim q
section
variable {X:Cx} {t:TA} {id T:String} {r:Re V->Hp->VK->Prop}
def tCB(r:Re V->Hp->VK->Prop)(t:TA):TE:=λZ H Q=>t Z H λvs H1=>r vs H1 Q
theorem ji(hc:l_ X (.builtin id) r)(hg:Gl X x)(hm:X.mg x=none)(hv:bootBuiltins x=some (.builtin id))(ha:PA X (e::es) t)(hn:x ≠ "__name__":=by decide)(Sf:(x==("__debug__" : Str))=false:=by decide)
  (he:starEach (e::es) X.env=?K::starEach es X.env:=by rfl) (Q7:(backTo pos ?T).any (·.1)=false:=by rfl):PE X (.Call (.Name x p) (e::es) [] pos) (tCB r t):=by
 intro pins s Z H Q I h;refine nu<|gY I hg hm hv ?_ hn Sf;exact PyProof.Rows.callWith_builtin1 (p_ ?jF λus s1 ⟨vs,H1,I1,r1,q1⟩=>hc pins s1 Z H1 vs us Q I1 r1 q1) he Q7
theorem oA(hc:l_ X (.type T) r)(hg:Gl X x)(hm:X.mg x=none)(hv:bootBuiltins x=some (.type T))(ha:PA X (e::es) t)(hn:x ≠ "__name__":=by decide)(Sf:(x==("__debug__" : Str))=false:=by decide)
  (he:starEach (e::es) X.env=?K::starEach es X.env:=by rfl) (Q7:(backTo pos ?T).any (·.1)=false:=by rfl):PE X (.Call (.Name x p) (e::es) [] pos) (tCB r t):=by
 intro pins s Z H Q I h;refine nu<|gY I hg hm hv ?_ hn Sf;exact ib (p_ ?jF λus s1 ⟨vs,H1,I1,r1,q1⟩=>hc pins s1 Z H1 vs us Q I1 r1 q1) he Q7
end
end L2
namespace HT
open PySem PyProof.Rows
variable {Q:w_}
def lexLt:Re Int->Re Int->Bool
 | [],[]=>false
 | [],_::_=>true
 | _::_,[]=>false
 | x::xs,y::ys=>if x=y then lexLt xs ys else decide (x<y)
theorem F_(x y:Int)(xs ys:Re Int):lexLt (x::xs) (y::ys)=if x=y then lexLt xs ys else decide (x<y):=rfl
theorem RK:lexLt [] []=false:=rfl
theorem sq(y:Int)(ys:Re Int):lexLt [] (y::ys)=true:=rfl
theorem sr(x:Int)(xs:Re Int):lexLt (x::xs) []=false:=rfl
theorem GA(A:UV)(s:SZ)(a:Int)(t:Tok)(c:Int)(u:Tok):∃e,SeqAt.EqAt A s (.int a t) (.int c u) e/\(e=true↔a=c) :=
 {(a==c),SeqAt.EqAt.int_int a t c u,by simp}
theorem EW(A:UV)(s:SZ)(a:Int)(t:Tok)(c:Int)(u:Tok)(prog:Tl)(w:TD)(E:w_)(Q:w_)(h:Q (.bool<|decide<|a<c) s) :
  wpAny ?D A (richCompare .Lt (.int a t)<|.int c u) Q E s :=
 (PyProof.Rows.lt_int h)
section
open PySem.SeqAt
open PySem.AutoSeq1 (wpAny_loadPart')
open PySem.MeetsSeq PySem.MeetsSeq2 PySem.MeetsSeq3
theorem tX(l b:Tk)(items Rh:UF SL)(n n2:Nat)(dd Yy:SC Tk)(sl Yn:UF (SC SL))(ns ms:Re Int)(hi:IntsAre items.toList ns)(hj:IntsAre Rh.toList ms) :
  Meets (Builtin.«tuple.__lt__» {[.ref l,.ref b],[]})
   (λ_ R s=>s.heap.get? l=some { cls:=.type "tuple",dict:=dd,data:=.seq items n,slots:=sl }/\s.heap.get? b=some { cls:=.type "tuple",dict:=Yy,data:=.seq Rh n2,slots:=Yn } /\
    R (.ok<|.ret<|.bool<|lexLt ns ms) s) :=
 .of_wp λprog w A R s h=>by
  let{hp,g,d,tk,os}:=s;let{hl,hb,h}:=h;have f2:=AutoSeq1.sub_tuple_tuple;have z1:items.size=ns.length:=by rw[<-hi.length];simp
  have z2:Rh.size=ms.length:=by rw[<-hj.length];simp
  wp_walk using wpAny_loadPart' hl,wpAny_loadPart' hb,wpAny_forIn_list _ (λrest b s'=>b.1=none/\s'={hp,g,d,tk,os}/\∃(vs ws:Re SL) (ns' XJ:Re Int),rest=vs.zip ws /\
   IntsAre vs ns'/\IntsAre ws XJ/\ns'.length+Rh.size=XJ.length+items.size/\R (.ok<|.ret<|.bool<|lexLt ns' XJ) {hp,g,d,tk,os}) _
  case turn =>
   rintro⟨y,x⟩ rest b s' ⟨hb',rfl,vs,ws,ns',XJ,hz,hvi,hwi,hlen,hR⟩
   cases hvi with
   | nil=>simp_all
   | cons a t zbK =>
    cases hwi with
    | nil=>simp_all
    | cons c u zbJ =>
     rw[List.zip_cons_cons]at hz;injection hz with hyx zbH;injection hyx with hy hx;subst hy hx;rw[F_]at hR;simp![eE]at hlen;let{e,he,zaP}:=GA A.in1 {hp,g,d,tk,os} a t c u;refine h_<|he prog w _ _ ?_
     cases e with
     | true =>
      rw[ar<|zaP.mp rfl]at hR
      wp_walk
      grind
     | false =>
      rw[ax λq=>absurd (zaP.mpr q) Bool.false_ne_true]at hR;have hri:=EW A.in1 {hp,g,d,tk,os} a t c u prog w
      wp_walk using hri
      grind
  case fin =>
   rintro⟨b1,b2⟩ s' ⟨hb',rfl,vs,ws,ns',XJ,hz,hvi,hwi,hlen,hR⟩;simp only at hb';subst hb';have hv:lexLt ns' XJ=decide (items.size<Rh.size):=by
    cases hvi with
    | nil =>
     cases hwi with
     | nil =>
      simp![PN]at hlen;rw[RK]
      grind
     | cons c u hw =>
      simp![PN,eE]at hlen;rw[sq]
      grind
    | cons a t hv =>
     cases hwi with
     | nil =>
      simp![PN,eE]at hlen;rw[sr]
      grind
     | cons c u hw =>
      simp_all
   rw[hv]at hR
   wp_walk
   exact{_,rfl,by simpa[Builtin.Tuple.tupleCompareSizes]using hR}
  grind
end
section
variable {prog:Tl} {w:TD} {A:UV} {E:w_} {s:SZ}
theorem V2{l b:Tk}{items Rh:UF SL}{ns ms:Re Int}(hl:IsTup s.heap l items)(hb:IsTup s.heap b Rh)(hi:IntsAre items.toList ns)(hj:IntsAre Rh.toList ms)
  (hu:A.units<cLine) (h:Q (.bool<|lexLt ns ms) s):wpAny ?D A (compareOp .Lt (.ref l)<|.ref b) Q E s:=by
 let{{cls,dd,data,sl},ho,hc,n,hd}:=id hl;let{{zar,Yy,data2,Yn},Tw,hc2,n2,hd2}:=id hb;subst hc hd hc2 hd2;exact richCompare_meets_room (op:=.Lt) {_,ho,rfl} {_,Tw,rfl} PySem.F.slot_tuple_lt PySem.F.entry_tuple_lt (PySem.F.args_tuple_lt_2 _ _) (tX l b items Rh n n2 dd Yy sl Yn ns ms hi hj)
  {ho,Tw,({(λx=>nomatch x),h})} hu
theorem Zu{t b:Tk}{vs ws:Re SL}(ht:IsTup s.heap t vs.toArray)(hb:IsTup s.heap b ws.toArray)(hv:vs≠[])
  (h1:ws=[]->Q (.ref t) s) (h2:ws≠[]->Q (.ref s.heap.objs.size) { s with heap:=s.heap.push { cls:=.type "tuple",data:=.seq (vs++ws).toArray } })
  (hsz:vs.length+ws.length<=sizeLine):wpAny ?D A (binaryOp .Add (.ref t)<|.ref b) Q E s:=by
 let{{cls,dd,data,sl},ho,hc,n,hd}:=id ht;let{{zar,Yy,data2,Yn},Tw,hc2,n2,hd2}:=id hb;subst hc hd hc2 hd2;have e:vs.toArray++ws.toArray=(vs++ws).toArray:=by simp
 by_cases hw:ws=[]
 ·exact concat_meets {_,ho,rfl} {_,Tw,rfl} noFill_tuple_add seq_tuple_add QD Qw (Qu _ _)
   (tuple_addW1 t b vs.toArray ws.toArray n n2 dd Yy sl Yn (by simpa using hv) (by simp[hw])) {ho,Tw,h1 hw}
 ·refine concat_meets {_,ho,rfl} {_,Tw,rfl} noFill_tuple_add seq_tuple_add QD Qw (Qu _ _)
   (tuple_addW2 t b vs.toArray ws.toArray n n2 dd Yy sl Yn (by simpa using hv) (by simpa using hw)<|(hsz)) {ho,Tw,?_}
  rw[e];exact h2 hw
def E_(n d:Nat):SC Int->Nat
 | none=>d
 | some v=>if v<0 then(v+(n:Int)).toNat else min v.toNat n
theorem Xz(n d:Nat):E_ n d none=d:=rfl
theorem YV(n d k:Nat):E_ n d (some (k:Int))=min k n:=rfl
theorem Cj(v:Int)(n d:Nat):(if v<0 then max (v+(n:Int)) 0 else min v (n:Int))=((E_ n d (some v):Nat):Int):=by
 show(if v<0 then max (v+(n)) 0 else min v (n))=(((if v<0 then(v+(n)).toNat else min v.toNat n)))
 grind
theorem AU(lo hi:SC Int)(n:Nat):Builtin.Slice.sliceAdjust lo hi 1 (n:Int)=(((E_ n 0 lo:Nat):Int),((E_ n n hi:Nat):Int)):=by
 have h1:¬ ((1)<0):=by lia
 refine Prod.ext ?_ ?_
 ·cases lo with
  | none=>rfl
  | some v=>exact Cj v n 0
 ·cases hi with
  | none=>rfl
  | some v=>exact Cj v n n
theorem zL(i j:Nat):Builtin.Slice.slicePlaces (i:Int) (j:Int) 1=j - i:=by
 unfold Builtin.Slice.slicePlaces
 grind
theorem qZ{v:SL}{o:SC Int}{Q:SC Int->SZ->Prop}(p:IsPart v o)(h:Q o s):wpAny ?D A (Builtin.Slice.slicePartIndex v) Q E s:=by
 cases p with
 | none=>exact slicePart_none h
 | int i t=>exact slicePart_int h
theorem jd{sl:Tk}{vl vu:SL}{lo hi:SC Int}{n:Nat}{Q:Int×Int×Nat->SZ->Prop}(hs:s.heap.IsSliceOf sl vl vu .none)(pl:IsPart vl lo)(pu:IsPart vu hi)
  (h:Q (((E_ n 0 lo:Nat):Int),1,E_ n n hi - E_ n 0 lo) s):wpAny ?D A (Builtin.Slice.sliceApplied (.ref sl)<|pure (n:Int)) Q E s:=by
 let{os,hos,hcs,UQ}:=id hs;refine h_<|h_<|fi hos UQ  rfl<|h_<|fi hos UQ  rfl<|h_<|fi hos UQ  rfl<|m_ ?_;refine h_<|slicePart_none ?_;refine h_<|qZ pl<|h_<|qZ pu<|h_<|m_ ?_;show wpAny _ _ (match Builtin.Slice.sliceAdjust lo hi 1 (n)with|(lo,hi)=>pure (lo,(1:Int),Builtin.Slice.slicePlaces lo hi 1)) _ _ s;rw[AU lo hi n];show wpAny _ _ (pure (((E_ n 0 lo):Int),(1),Builtin.Slice.slicePlaces ((E_ n 0 lo)) ((E_ n n hi)) 1)) _ _ s;rw[zL];exact m_ h
theorem E8(xs:UF SL)(i k:Nat):((List.range k).filterMap λ(m:Nat)=>xs[((i:Int)+(m:Int)*1).toNat]?).toArray=((xs.toList.drop i).take k).toArray:=by
 have e:(λ(m:Nat)=>xs[((i:Int)+(m)*1).toNat]?)=λm=>xs[i+m]?:=by
  grind
 have:=pick_run xs i k;have e2:((λx=>xs[x]?)∘λx=>i+x)=λm=>xs[i+m]?:=rfl
 grind
theorem Sg{t sl:Tk}{items:UF SL}{vl vu:SL}{lo hi:SC Int}(ht:IsTup s.heap t items)(hs:s.heap.IsSliceOf sl vl vu .none)(pl:IsPart vl lo)(pu:IsPart vu hi)
  (hw:¬ (E_ items.size 0 lo=0/\E_ items.size items.size hi=items.size))
  (h:Q (.ref s.heap.objs.size) { s with heap:=s.heap.push { cls:=.type "tuple",data:=.seq ((items.toList.drop ?qv).take ?jc).toArray } })
  (hsz:items.size<=sizeLine):wpAny ?D A (getItem (.ref t)<|.ref sl) Q E s:=by
 have WB:=by
  show((items.toList.drop ?qv).take ?jc).toArray.size<=sizeLine
  grind
 let{os,hos,hcs,UQ}:=id hs;have hTs:s.TypeIs (.ref sl) "slice":={os,hos,hcs};unfold getItem
 try with_reducible refine oP ?_
 refine h_<|wpAny_sequenceKey ht.typeIs ?C ?_
 refine h_<|g7  ht.typeIs yi
  <|im yi ht.typeIs entry_tuple_getitem ?_<|args_tuple_getitem _ _
 show wpAny _ _ (Builtin.Tuple.tupleItemsOf (.ref t) >>= _) _ _ s;refine h_<|tupleItemsOf_ ht ?_;refine h_<|Li hTs ?_;refine h_<|jd hs pl pu ?_;have hno:¬ (((?qv:Int)==0&&(1:Int)==1&&?jc==items.size)=true):=by
  grind
 show wpAny _ _ (if((?qv:Int)==0&&(1)==1&&?jc==items.size)=true then _ else _) _ _ s;rw[ax hno,E8]
 first
  | exact h_<|gu (m_ {_,rfl,m_ h}) WB
  | exact h_<|gu (h_<|m_<|m_ {_,rfl,m_ h}) WB
  | exact h_<|h_<|gu (m_<|m_ {_,rfl,m_ h}) WB
  | exact h_<|h_<|gu (m_ {_,rfl,m_ h}) WB
end
end HT
namespace L2
open PySem PySem.Spec PyProof.Rows
variable {xs:Re V}{X:Cx}{n:Nat}{pins:C_}{Z:St}{H:Hp}{s:SZ}{us j_:Re SL}
abbrev TO:=St->Hp->(SC Int->Hp->Prop)->Prop
def PO(X:Cx)(e:SC TW)(t:TO):Prop :=
 ∀(pins:C_) (s:SZ) (Z:St) (H:Hp) (Q:SC Int->Hp->Prop),Inv X pins Z H s->t Z H Q ->
  wpAny ?B X.A (evalPart e X.env) (λu s'=>∃o H',Inv X pins Z H' s'/\IsPart u o/\Q o H') X.xe s
def Hm:TO:=λ_ H Q=>Q none H
def MN(t:TE):TO:=λZ H Q=>t Z H λx H1=>∃i,x=.int i/\Q (some i) H1
theorem intsAre_of{ns:Re Int}:∀{us:Re SL},Vals ?jM us->IntsAre us ns:=by
 induction ns with
 | nil=>intro us r;cases r;exact .nil
 | cons n ns ih =>
  intro us r
  cases r with
  | cons r1 r2 =>
   let{t,e}:=r1;subst e;exact .cons n t<|ih r2
section
variable {e:TW} {te:TE} {lo hi:SC TW} {tl th:TO} {pos p2:Pos}
theorem Bq:PO X none Hm:=by
 intro pins s Z H Q I h;exact m_ {none,H,I,.none,h}
theorem Bp(h:PE X e te):PO X (some e) (MN te):=by
 intro pins s Z H Q I hw;refine p_ (h pins s Z H _ I hw) λu s1 ⟨x,H1,I1,r1,q1⟩=>?_
 let{i,rfl,q}:=q1;let{t,rfl}:=r1;exact{some i,H1,I1,.int i t,q}
def ZT(X:Cx)(r:V->SC Int->SC Int->Hp->VK->Prop):Prop :=
 ∀(pins:C_) (s:SZ) (Z:St) (H:Hp) (x:V) (v vl vu:SL) (lo hi:SC Int) (sl:Tk) (Q:VK),Inv X pins Z H s->RelV x v->s.heap.IsSliceOf sl vl vu .none->IsPart vl lo->IsPart vu hi->r x lo hi H Q ->
  ∃T id,typeLookup (.type T) "__getitem__" = pure (some<|.builtin id)/\s.TypeIs v T/\wpAny ?B X.A (getItem v<|.ref sl) ?jr X.xe s
theorem ZT.or{r r':V->SC Int->SC Int->Hp->VK->Prop}(h:ZT X r)(h':ZT X r'):ZT X (λx lo hi H Q=>r x lo hi H Q\/r' x lo hi H Q):=by
 intro pins s Z H x v vl vu lo hi sl Q I rx hs pl pu q;let q||q:=q
 ·exact h pins s Z H x v vl vu lo hi sl Q I rx hs pl pu q
 ·exact h' pins s Z H x v vl vu lo hi sl Q I rx hs pl pu q
def tSl(r:V->SC Int->SC Int->Hp->VK->Prop)(te:TE)(tl th:TO):TE:=λZ H Q=>te Z H λx H1=>tl Z H1 λl H2=>th Z H2 λu H3=>r x l u H3 Q
theorem yc{r:V->SC Int->SC Int->Hp->VK->Prop}(hr:ZT X r)(he:PE X e te)(hl:PO X lo tl)(hu:PO X hi th):PE X (.Subscript e (.Slice lo hi none p2) pos) (tSl r te tl th):=by
 intro pins s Z H Q I h;refine Subscript_<|p_ ?ql λv s1 ⟨x,H1,I1,r1,q1⟩=>?_;refine wpAny_Slice<|p_ (hl pins s1 Z H1 _ I1 q1) λvl s2 ⟨l,H2,I2,pl,q2⟩=>p_ (hu pins s2 Z H2 _ I2 q2) λvu s3 ⟨u,H3,I3,pu,q3⟩=>?_;refine m_ ?_;have I4:Inv X pins Z H3 { s3 with heap:=s3.heap.push { cls:=.type "slice",data:=.fields #[vl,vu,.none] } }:=I3.kept  λb ob q=>z_ _ q
 let{T,id,hT,ht,hg}:=hr pins { s3 with heap:=s3.heap.push { cls:=.type "slice",data:=.fields #[vl,vu,.none] } } Z H3 x v vl vu l u s3.heap.objs.size Q I4 r1 (Heap.IsSliceOf.new ..) pl pu q3;exact tail_any  ht hT hg<|rfl
def DJ(xs:Re V)(lo hi:SC Int):Re V:=(xs.drop<|HT.E_ xs.length 0 lo).take<|HT.E_ xs.length xs.length hi - HT.E_ xs.length 0 lo
theorem pV(xs:Re V)(lo hi:SC Int):(DJ xs lo hi).length<=xs.length:=by
 unfold DJ;rw[P5,No];lia
def OH(K:PySem.W.Frag):V->SC Int->SC Int->Hp->VK->Prop:=λx lo hi H Q=>∃a xs,x=.ref a/\B_ K H a xs /\
 ¬ (HT.E_ xs.length 0 lo=0/\HT.E_ xs.length xs.length hi=xs.length)/\∀p,H p=none->Q (.ref p) (upd H p<|.tup<|DJ xs lo hi)
theorem ZZ:ZT X (OH X.K):=by
 intro pins s Z H x v vl vu lo hi sl Q I rx hs pl pu h;let{a,xs,rfl,hx,hw,q}:=h
 cases rx
 let{j_,r,ht,hz}:=I.tuple hx;have hlen:j_.toArray.size=xs.length:=(r.length.symm);refine{"tuple",_,PyProof.Rows.slot_tuple_getitem.lookup,ht.typeIs,?_};refine HT.Sg ht hs pl pu (by rw[hlen];exact hw) ?_ (by rw[hlen];exact hz);rw[hlen];refine{.ref s.heap.objs.size,_,I.laid   (λb ob q=>z_ _ q) ?jm ?_,rfl,q _ ?j2};exact{bj (pV xs lo hi) hz,_,(r.drop<|HT.E_ xs.length 0 lo).take<|HT.E_ xs.length xs.length hi - HT.E_ xs.length 0 lo,IsTup.new _ _,Xe.new _ _}
def Nf(K:PySem.W.Frag):R2:=λx y H Q=>∃a b ns ms,x=.ref a/\y=.ref b/\B_ K H a ?jM/\B_ K H b (ms.map V.int)/\Q (.bl<|HT.lexLt ns ms) H
theorem Lg(hu:X.A.units<cLine):QN X (compareOp .Lt) (Nf X.K):=by
 intro pins s Z H x y v u Q I rx ry h;let{a,b,ns,ms,rfl,rfl,ha,hb,q}:=h
 cases rx
 cases ry
 let{j_,r1,p1,_}:=I.tuple ha;let{Tt,r2,p2,_}:=I.tuple hb;have i1:=intsAre_of r1;have i2:=intsAre_of r2;exact HT.V2 p1 p2 i1 i2 hu {.bl<|HT.lexLt ns ms,H,I,rfl,q}
def Nn(K:PySem.W.Frag):R2:=λx y H Q=>∃a b xs ys,x=.ref a/\y=.ref b/\B_ K H a xs/\B_ K H b ys/\xs≠[]/\xs.length+ys.length<=sizeLine /\
 (ys=[]->Q (.ref a) H)/\(ys≠[]->∀p,H p=none->Q (.ref p) (upd H p<|.tup<|xs++ys))
theorem Vals.Th(r:Vals xs us):us=[]↔xs=[]:=by
 cases r with
 | nil=>simp
 | cons _ _=>simp
theorem HY:QN X (binaryOp .Add) (Nn X.K):=by
 intro pins s Z H x y v u Q I rx ry h;let{a,b,xs,ys,rfl,rfl,ha,hb,hx,hz,q1,q2}:=h
 cases rx
 cases ry
 let{j_,r1,p1,_}:=I.tuple ha;let{Tt,r2,p2,_}:=I.tuple hb;refine HT.Zu p1 p2 (λz=>hx<|r1.Th.mp z) (λz=>{.ref a,H,I,rfl,q1<|r2.Th.mp z}) (λz=>?_) (by rw[<-r1.length,<-r2.length];exact hz);refine{.ref s.heap.objs.size,_,I.laid   (λb ob q=>z_ _ q) ?jm ?_,rfl,q2 (λw=>z<|r2.Th.mpr w) _ ?j2};exact{by rw[R4];exact hz,_,r1.append r2,IsTup.new _ _,Xe.new _ _}
end
def WA(n:Nat)(i:Int):SC Nat:=if 0<=i then(if i<n then some i.toNat else none)else if -(n:Int)<=i then some (i+n).toNat else none
def VP{α:Type}(xs:Re α)(i:Int):SC α:=(WA xs.length i).bind λj=>xs[j]?
theorem BO{i:Int}{j:Nat}(h:WA n i=some j):seqIndex? i n=some j/\j<n /\ -(n:Int)<=i/\i<n:=by
 unfold WA at h;by_cases h0:0<=i
 ·rw[ar h0]at h;by_cases h1:i<n
  ·rw[ar h1]at h;have e:=Option.some.inj h;exact{by rw[seqIndex_of h0 h1,e],by lia,by lia,h1}
  grind
 ·rw[ax h0]at h;by_cases h1 : -(n)<=i
  ·rw[ar h1]at h;have e:=Option.some.inj h;exact{by rw[seqIndex_neg ?A h1,e],by lia,h1,by lia}
  grind
theorem qK{α:Type}{xs:Re α}{i:Int}{v:α}(h:VP xs i=some v):∃j,seqIndex? i xs.length=some j/\xs[j]? = some v/\j<xs.length /\ -(xs.length:Int)<=i/\i<xs.length:=by
 unfold VP at h
 cases e:WA xs.length i with
 | none=>rw[e]at h;cases h
 | some j =>
  rw[e]at h;let{h1,h2,h3,h4}:=BO e;exact{j,h1,h,h2,h3,h4}
def xG(b:TW):Prop:=∀o i,subscripted b false o i=operate [o,i] (getItem o i)
def WM(X:Cx)(r:R2):Prop :=
 ∀(value slice:TW) (pins:C_) (s:SZ) (Z:St) (H:Hp) (x y:V) (v u:SL) (Q:VK),Inv X pins Z H s->RelV x v->RelV y u->r x y H Q ->
  subscripted slice false v u=operate [v,u] (getItem v u)->wpAny ?B X.A (subscriptTail value slice v u) ?jr X.xe s
def MtR(X:Cx)(id:String)(r:V->Re V->Hp->VK->Prop):Prop :=
 ∀(pins:C_) (s:SZ) (Z:St) (H:Hp) (x:V) (xs:Re V) (v:SL) (us:Re SL) (Q:VK),Inv X pins Z H s->RelV x v->Vals xs us->r x xs H Q ->
  wpAny ?B X.A (call (.builtin id)<|v::us) ?jr X.xe s
section
variable {a b:TW} {ta tb:TE} {pos:Pos}
theorem WM.or{r r':R2}(h:WM X r)(h':WM X r'):WM X (λx y H Q=>r x y H Q\/r' x y H Q):=by
 intro value slice pins s Z H x y v u Q I rx ry q hs;let q||q:=q
 ·exact h value slice pins s Z H x y v u Q I rx ry q hs
 ·exact h' value slice pins s Z H x y v u Q I rx ry q hs
theorem Bt{r:R2}(hr:WM X r)(ha:PE X a ta)(hb:PE X b tb)(hs:xG b):PE X (.Subscript a b pos) (ZE r ta tb):=by
 intro pins s Z H Q I h;exact Subscript_<|Mo ha hb I h λv u s2 x y H2 I2 rx ry q=>hr a b pins s2 Z H2 x y v u Q I2 rx ry q<|hs _ _
def Nj(K:PySem.W.Frag):R2:=λx y H Q=>∃p xs i v,x=.ref p/\y=.int i/\QO K H p xs/\VP xs i=some v/\Q v H
def KO(K:PySem.W.Frag):R2:=λx y H Q=>∃p xs i v,x=.ref p/\y=.int i/\B_ K H p xs/\VP xs i=some v/\Q v H
def Ni:R2:=λx y H Q=>∃z i c,x=.str z/\y=.int i/\z.length<=sizeLine/\VP z.cps.toList i=some c/\Q (.str {#[c]}) H
theorem Y9:WM X (Nj X.K):=by
 intro value slice pins s Z H x y v u Q I rx ry h hs;let{p,xs,i,z,rfl,rfl,hq,he,q}:=h
 cases rx
 let{t,rfl}:=ry;let{j_,r,pl,hz}:=I.list hq;let{j,h1,h2,h3,h4,h5}:=qK he;let{w,ew,SX}:=r.get h2;have hl:=r.length;have hn:=kg;have fin:EP X pins Z Q w s:={z,H,I,SX,q};by_cases h0:0<=i
 ·have hj:=by
   rw[seqIndex_of h0 h5]at h1;exact Option.some.inj h1
  exact item_listR pl.isList h0 ?A (by rw[hj];simpa using ew) fin hs
 ·have hj:(i+(j_.toArray.size)).toNat=j:=by
   rw[seqIndex_neg ?A h4]at h1;rw[f8,<-hl];exact Option.some.inj h1
  exact subscriptTail_builtinR  pl.isList.typeIs slot_list_getitem.lookup
   (wpAny_getItem_list_neg  pl.isList ?A (by rw[f8]<;>lia) ?A (by rw[hj];simpa using ew) {rfl,fin}) hs
theorem X4:WM X (KO X.K):=by
 intro value slice pins s Z H x y v u Q I rx ry h hs;let{p,xs,i,z,rfl,rfl,hq,he,q}:=h
 cases rx
 let{t,rfl}:=ry;let{j_,r,pl,hz}:=I.tuple hq;let{j,h1,h2,h3,h4,h5}:=qK he;let{w,ew,SX}:=r.get h2;have hl:=r.length;have hn:=kg;have fin:EP X pins Z Q w s:={z,H,I,SX,q};exact subscriptTail_builtinR  pl.typeIs slot_tuple_getitem.lookup
  (getItem_tuple (j:=j)  pl ?A ?A ?Z (by simpa using ew) {rfl,fin}) hs
theorem LJ:WM X Ni:=by
 intro value slice pins s Z H x y v u Q I rx ry h hs;let{z,i,c,rfl,rfl,hz,he,q}:=h;let{t,rfl}:=rx;let{t',rfl}:=ry;let{j,h1,h2,h3,h4,h5}:=qK he;have hl:z.cps.toList.length=z.length:=rfl;rw[hl]at h1 h4 h5;have hn:=kg
 exact tail_any (typeIs_str s z t) slot_str_getitem.lookup (getItem_str  (by
  grind) (by rw[h1];simpa using h2) {.str {#[c]},H,I.tok _,{_,rfl},q}) hs
def rIx(K:PySem.W.Frag):R2:=λx y H Q=>Nj K x y H Q\/KO K x y H Q\/Ni x y H Q
theorem LK:WM X (rIx X.K):=Y9.or<|X4.or LJ
theorem zU(j_:Re SL)(n j:Nat)(u:SL):Obj.mapSeq (·.setIfInBounds j u) { cls:=.type "list",data:=.seq j_.toArray n }={ cls:=.type "list",data:=.seq (j_.set j u).toArray n }:=by
 simp[Obj.mapSeq]
theorem Inv.lst{p:Tk}(I:Inv X pins Z H s)(h:H p=some (.lst xs)) :
  ∃(j_:Re SL) (n:Nat),Vals xs j_/\s.heap.get? p=some { cls:=.type "list",data:=.seq j_.toArray n }/\xs.length<=sizeLine:=by
 let{z,j_,n,r,e}:=I.k_ p _ h;exact{j_,n,r,e,z}
theorem Inv.zae{p:Tk}{ys:Re V}{Sb:Re SL}{n':Nat}{f:Obj->Obj}(I:Inv X pins Z H s)(h:H p=some (.lst xs))
  (ho:s.heap.get? p=some { cls:=.type "list",data:=.seq j_.toArray n }) (hf:f { cls:=.type "list",data:=.seq j_.toArray n }={ cls:=.type "list",data:=.seq Sb.toArray n' }) (r:Vals ys Sb) (hz:ys.length<=sizeLine) (t:Nat) :
  Inv X pins Z (upd H p<|.lst ys) { s with heap:=s.heap.update p f,toks:=t }:=by
 have e:(s.heap.update p f).get? p=some { cls:=.type "list",data:=.seq Sb.toArray n' }:=by
  rw[su f ho (by rw[hf]<;>rfl),hf]
 refine I.write   (by rw[h];trivial) (.inl rfl) (λb u hb q=>(ug _ _<|Ne.symm hb).trans q) {_,e} ?_;exact{hz,Sb,n',r,e}
def Nd:V->V->V->Hp->(Hp->Prop)->Prop:=λo i v H Q=>∃p xs k j,o=.ref p/\i=.int k/\H p=some (.lst xs)/\WA xs.length k=some j/\Q (upd H p<|.lst<|xs.set j v)
theorem set_list:MC X Nd:=by
 intro pins s Z H o i v ov iv u Q I ro ri rv h;let{p,xs,k,j,rfl,rfl,hp,hj,q}:=h
 cases ro
 let{t,rfl}:=ri;let{j_,n,r,ho,hz}:=I.lst hp;let{h1,h2,h3,h4}:=BO hj;have hl:=r.length;have hn:=kg;have I'  :=
  I.zae hp ho (zU j_ n j u) (r.set rv j) ?Z s.toks
 by_cases h0:0<=k
 ·have hk:k.toNat=j:=by
   rw[seqIndex_of h0 h4]at h1
   grind
  exact PySem.W.ki_setAt ho h0 ?A ?Z ?Z
 ·have hk:(k+(j_.toArray.size)).toNat=j:=by
   rw[seqIndex_neg ?A h3]at h1
   grind
  exact PySem.W.ki_setBack ho ?A ?Z ?A ?Z
theorem vM(lo hi:SC Int)(n:Nat):(sliceBounds lo hi none n).1=((HT.E_ n 0 lo:Nat):Int)/\(sliceBounds lo hi none n).2.1=((HT.E_ n n hi:Nat):Int)/\(sliceBounds lo hi none n).2.2=1:=by
 refine{?_,?_,rfl}
 ·cases lo with
  | none=>simp[sliceBounds,HT.E_]
  | some i =>
   simp  [sliceBounds,HT.E_,Option.getD_none,show(1)>0 by decide,yp]
   grind
 ·cases hi with
  | none=>simp[sliceBounds,HT.E_]
  | some i =>
   simp  [sliceBounds,HT.E_,Option.getD_none,show(1)>0 by decide,yp]
   grind
theorem tZ(j_:Re SL)(lo hi:SC Int):slicePick j_.toArray lo hi none=((j_.drop<|HT.E_ j_.length 0 lo).take<|HT.E_ j_.length j_.length hi - HT.E_ j_.length 0 lo).toArray:=by
 let{h1,h2,h3}:=vM lo hi j_.toArray.size;unfold slicePick;rw[h1,h2,h3];simp![sliceRange_one,pick_run,f8]<;>rfl
def OI(K:PySem.W.Frag):V->SC Int->SC Int->Hp->VK->Prop:=λx lo hi H Q=>∃a xs,x=.ref a/\QO K H a xs/\∀p,H p=none->Q (.ref p) (upd H p<|.lst<|DJ xs lo hi)
theorem Bc:ZT X (OI X.K):=by
 intro pins s Z H x v vl vu lo hi sl Q I rx hs pl pu h;let{a,xs,rfl,hx,q}:=h
 cases rx
 let{j_,r,ht,hz}:=I.list hx;have hlen:=r.length;refine{"list",_,slot_list_getitem.lookup,ht.isList.typeIs,?_};refine wpAny_getItem_list_slice ht.isList hs pl pu .none ?G ?_ ?Z;rw[tZ,<-hlen];refine{.ref s.heap.objs.size,_,I.laid   (λb ob q=>z_ _ q) ?jm ?_,rfl,q _ ?j2};exact{bj (pV xs lo hi) hz,_,0,(r.drop<|HT.E_ xs.length 0 lo).take<|HT.E_ xs.length xs.length hi - HT.E_ xs.length 0 lo,QV _ rfl}
theorem wX:l_ X (.builtin "len") (λxs H Q=>∃p ys,xs=[.ref p]/\(QO X.K H p ys\/B_ X.K H p ys)/\Q (.int ys.length) H):=by
 intro pins s Z H xs us Q I r h;let{p,ys,rfl,hq,q}:=h;let{u,rfl,rx}:=vals1 r
 cases rx
 have hn:=kg;let hq||hq:=hq
 ·let{j_,r',pl,hz}:=I.list hq;have hlen:=r'.length;exact Calls.call_len_list pl.isList ?Z {.int ys.length,H,I.tok _,{s.toks+1,by rw[f8,hlen]},q}
 ·let{j_,r',pl,hz}:=I.tuple hq;have hlen:=r'.length;exact len_tuple pl ?Z {.int ys.length,H,I.tok _,{s.toks+1,by rw[f8,hlen]},q}
theorem wW:l_ X (.builtin "len") (λxs H Q=>∃z,xs=[.str z]/\z.length<=sizeLine/\Q (.int z.length) H):=by
 intro pins s Z H xs us Q I r h;let{z,rfl,hz,q}:=h;let{u,rfl,t,rfl}:=vals1 r;have hn:=kg;exact len_str ?A {.int z.length,H,I.tok _,{_,rfl},q}
theorem l_.or{f:SL}{r r':Re V->Hp->VK->Prop}(h:l_ X f r)(h':l_ X f r'):l_ X f (λxs H Q=>r xs H Q\/r' xs H Q):=by
 intro pins s Z H xs us Q I rs q;let q||q:=q
 ·exact h pins s Z H xs us Q I rs q
 ·exact h' pins s Z H xs us Q I rs q
theorem jH:l_ X (.type "list") (λxs H Q=>∃p ys,xs=[.ref p]/\(QO X.K H p ys\/B_ X.K H p ys)/\∀l,H l=none->Q (.ref l) (upd H l (.lst ys))):=by
 intro pins s Z H xs us Q I r h;let{p,ys,rfl,hq,q}:=h;let{u,rfl,rx}:=vals1 r
 cases rx
 have fin:∀(j_:Re SL),Vals ys j_->ys.length<=sizeLine->∀(h':Wp) (c':Nat),(∀b o',s.heap.get? b=some o'->h'.get? b=some o') ->
   h'.get? s.heap.objs.size=some { cls:=.type "list",dict:=none,data:=.seq j_.toArray c',slots:=#[] }->EP X pins Z Q (.ref s.heap.objs.size) { s with heap:=h' }:=λj_ r' hz h' c' kp e =>
  {.ref s.heap.objs.size,_,I.laid  kp ?jm (show D_ X.prog X.w _ h' _ (.lst ys)from{hz,j_,c',r',e}),rfl,q _ ?j2}
 let hq||hq:=hq
 ·let{j_,r',pl,hz}:=I.list hq;have hlen:=r'.length;let{o,ho,hc,n,hd}:=pl.isList;exact call_list_seq p (.inl rfl) ho hc hd (λh' c' kp e=>fin j_ r' hz h' c' kp e) ?Z
 ·let{j_,r',pl,hz}:=I.tuple hq;have hlen:=r'.length;let{o,ho,hc,n,hd}:=pl;exact call_list_seq p (.inr rfl) ho hc hd (λh' c' kp e=>fin j_ r' hz h' c' kp e) ?Z
theorem bf:l_ X (.type "tuple") (λxs H Q=>∃p ys,xs=[.ref p]/\((QO X.K H p ys/\∀l,H l=none->Q (.ref l) (upd H l<|.tup ys))\/(B_ X.K H p ys/\Q (.ref p) H))):=by
 intro pins s Z H xs us Q I r h;let{p,ys,rfl,h}:=h;let{u,rfl,rx}:=vals1 r
 cases rx
 let{hq,q}||{hq,q}:=h
 ·let{j_,r',pl,hz}:=I.list hq;have hlen:=r'.length;refine call_tuple_list pl.isList (λh' kp=>?_) (by simp  [f8]<;>lia);have I1:Inv X pins Z H { s with heap:=h' }:=I.kept  kp;have I2:Inv X pins Z (upd H h'.objs.size<|.tup ys) { s with heap:=h'.push { cls:=.type "tuple",data:=.seq j_.toArray } } :=
   I1.laid  (λb o e=>z_ _ e) ?jm<|({hz,j_,r',IsTup.new _ _,Xe.new _ _})
  exact{.ref h'.objs.size,_,I2,rfl,q _ ?jJ}
 ·let{j_,r',pl,hz}:=I.tuple hq;exact call_tuple_same pl {.ref p,H,I,rfl,q}
def tyV(K:PySem.W.Frag)(T:String)(x:V)(H:Hp):Prop:=match x with
 | .str _=>T = "str"
 | .int _=>T = "int"
 | .ref p=>(T = "list" /\ ∃xs,QO K H p xs)\/(T = "tuple" /\ ∃o,K.lookup p=some o/\o.cls=.type "tuple" /\ o.dict=none) \/
   (T = "dict" /\ ((∃kvs,H p=some (.dK kvs))\/∃kvs,H p=some (.dT kvs)))\/(T = "set" /\ ∃S n,H p=some (.set S n))
 | _=>False
theorem Ej{T:String}{x:V}{v:SL}(I:Inv X pins Z H s)(r:RelV x v)(ty:tyV X.K T x H) :
  s.TypeIs v T/\∀a,v=.ref a->∃ob,s.heap.get? a=some ob/\ob.dict=none:=by
 cases x with
 | str z =>
  let{t,rfl}:=r
  cases ((ty))
  exact{typeIs_str s z t,λ_ e=>nomatch e}
 | int i =>
  let{t,rfl}:=r
  cases ((ty))
  exact{typeIs_int s i t,λ_ e=>nomatch e}
 | ref p =>
  cases r
  let{rfl,xs,hq}||{rfl,o,hk,hc,hd}||{rfl,hk}||{rfl,S,n,hk}:=ty
  ·let{j_,_,pl,_}:=I.list hq;refine{pl.isList.typeIs,λa e=>?_}
   cases e
   let{o,n,e,c,hd,_}:=pl;exact{o,e,hd}
  ·refine{{o,I.S8 p o hk,hc},λa e=>?_}
   cases e
   exact{o,I.S8 _ o hk,hd}
  ·have z:∃o,s.heap.get? p=some o/\o.ExactDict:=by
    let{kvs,hk}||{kvs,hk}:=hk
    ·let{_,_,_,_,o,_,_,e,ex,_}:=I.k_ p _ hk;exact{o,e,ex}
    ·let{_,_,_,_,o,_,_,e,ex,_}:=I.k_ p _ hk;exact{o,e,ex}
   let{o,e,ex}:=z;refine{{o,e,ex.1},λa e2=>?_}
   cases e2
   exact{o,e,ex.2.1}
  ·let{o,_,_,_,e,ex,_}:=I.k_ p _ hk;refine{{o,e,ex.1},λa e2=>?_}
   cases e2
   exact{o,e,ex.2.1}
 | _=>exact False.elim ty
def Ox(K:PySem.W.Frag)(T:String)(r:V->Re V->Hp->VK->Prop)(to:TE):TE:=λZ H Q=>to Z H λx H1=>tyV K T x H1/\r x [] H1 Q
def tBM(K:PySem.W.Frag)(T:String)(r:V->Re V->Hp->VK->Prop)(to:TE)(t:TA):TE:=λZ H Q=>to Z H λx H1=>tyV K T x H1/\t Z H1 λxs H2=>r x xs H2 Q
variable {o e:TW} {es:Re TW} {to:TE} {t:TA} {name:Str} {apos u_:Pos} {T id:String} {r:V->Re V->Hp->VK->Prop}
theorem K5(pa:PlainAttrs T)(slot:Slot T name id)(hty:typeOf (.builtin id)=pure (.type "method_descriptor"))(hm:MtR X id r)(ho:PE X o to)
  (Rz:attributeBase o name X.env (eval o X.env)=eval o X.env:=by rfl) (Ry:?jQ=true:=by rfl):PE X (.Call (.Attribute o name apos) [] [] u_) (Ox X.K T r to):=by
 intro pins s Z H Q I h;refine wpAny_Call_method0_late Rz Ry<|p_ ?qm λv s1 ⟨x,H1,I1,r1,ty,q1⟩=>?_;let{h1,h2}:=Ej I1 r1 ty;exact{T,id,pa,slot,hty,h1,h2,P0 rfl<|PySem.evalArgs_none<|hm pins s1 Z H1 x [] v [] Q I1 r1 .nil q1}
theorem Fk(pa:PlainAttrs T)(slot:Slot T name id)(hty:typeOf (.builtin id)=pure (.type "method_descriptor"))(hm:MtR X id r)(ho:PE X o to)(ha:PA X (e::es) t)
  (Rz:attributeBase o name X.env (eval o X.env)=eval o X.env:=by rfl)
  (Yc:((backTo u_<|starEach (e::es) X.env).all (λx=>!x.1)&&(backToKw u_<|keywordEach [] X.env).all (λx=>x.1.isSome)
   && decide ((e::es).length+([]:Re Keyword).length+(if([]:Re Keyword).isEmpty then 0 else 1)<30))=true:=by rfl)
  (Ry:?jQ=true:=by rfl) (hs:starEach (e::es) X.env=?K::starEach es X.env:=by rfl) (Tv:(backTo u_ ?T).any (·.1)=false:=by rfl) :
  PE X (.Call (.Attribute o name apos) (e::es) [] u_) (tBM X.K T r to t):=by
 intro pins s Z H Q I h;refine wpAny_Call_method_late Rz Yc Ry rfl<|p_ ?qm λv s1 ⟨x,H1,I1,r1,ty,q1⟩=>?_;let{h1,h2}:=Ej I1 r1 ty;refine{T,id,pa,slot,hty,h1,h2,?_};have hA:=ha u_ pins s1 Z H1 _ I1 q1;rw[hs]at hA ⊢;refine P0 (by show(false||(backTo u_ ?T).any (·.1))=false;rw[Tv]<;>rfl)<|Calls.evalArgs_plain ?_;exact p_ hA λus s2 ⟨vs,H2,I2,r2,q2⟩=>hm pins s2 Z H2 x vs v us Q I2 r1 r2 q2
end
def MtM(X:Cx)(id:String)(r:V->Re V->Hp->VK->Prop):Prop :=
 ∀(pins:C_) (s:SZ) (Z:St) (H:Hp) (x:V) (xs:Re V) (v:SL) (us:Re SL) (Q:VK),Inv X pins Z H s->RelV x v->Vals xs us->r x xs H Q ->
  wpAny ?B X.A (call (.builtin id)<|v::us) ?jr X.xe s
theorem Vals.one:∀{x:V} {us:Re SL},Vals [x] us->∃u,us=[u]/\RelV x u:=by
 intro x us h
 cases h with
 | cons r t=>cases t;exact{_,rfl,r}
theorem Vals.zero:∀{us:Re SL},Vals [] us->us=[]
 | _,.nil=>rfl
theorem Vals.dropLast(h:Vals xs us):Vals xs.dropLast us.dropLast:=by
 induction h with
 | nil=>exact .nil
 | cons r t ih =>
  cases t with
  | nil=>exact .nil
  | cons q t'=>exact .cons r ih
theorem Vals.rep(h:Vals xs us):∀k:Nat,Vals (List.replicate k xs).flatten (List.replicate k us).flatten
 | 0=>.nil
 | k+1=>by
  exact Vals.append h<|Vals.rep h k
theorem foldl_rep(j_:Re SL):∀(k:Nat) (acc:Re SL),
  List.foldl (λx1 x2=>x1++x2) acc.toArray (List.replicate k j_.toArray)=(acc++(List.replicate k j_).flatten).toArray
 | 0,acc=>by simp
 | k+1,acc=>by
  have e:acc.toArray++j_.toArray=(acc++j_).toArray:=by simp
  have e2:(acc++j_)++(List.replicate k j_).flatten=acc++(List.replicate (k+1) j_).flatten:=by
   grind
  rw[<-e2,<-foldl_rep j_ k<|acc++j_,<-e,List.replicate_succ,io]
section
variable {l b:Tk} {ys zs:Re V}
theorem Inv.zaf{Sb:Re SL}{f:UF SL->UF SL}{t':Nat}(I:Inv X pins Z H s)(hH:H l=some (.lst xs))
  (e:s.heap.get? l=some { cls:=.type "list",data:=.seq j_.toArray n }) (hf:f j_.toArray=Sb.toArray) (hv:Vals ys Sb) (hz:ys.length<=sizeLine) :
  Inv X pins Z (upd H l<|.lst ys) { s with heap:=s.heap.update l (Obj.mapSeq f),toks:=t' }:=by
 have q:=PySem.IsL.update e f;rw[hf]at q;refine I.write   (by rw[hH];exact trivial) (.inl rfl) (λb' u hb hu=>(ug s.heap (Obj.mapSeq f)<|Ne.symm hb).trans hu) {_,q} ?_;exact{hz,Sb,_,hv,q}
theorem Inv.zbe{t':Nat}(I:Inv X pins Z H s)(hv:Vals ys j_)(hz:ys.length<=sizeLine) :
  Inv X pins Z (upd H s.heap.objs.size<|.lst ys) { s with heap:=s.heap.push { cls:=.type "list",data:=.seq j_.toArray },toks:=t' } :=
 I.laid ?qS ?jm {hz,j_,0,hv,QV _ rfl}
theorem Inv.fresh(I:Inv X pins Z H s):H s.heap.objs.size=none:=I.k_.fresh ?jm
theorem Inv.XM(I:Inv X pins Z H s)(hH:H l=some (.lst xs)):xs.length<=sizeLine/\∃(j_:Re SL) (n:Nat),Vals xs j_/\xs.length=j_.length/\s.heap.get? l=some { cls:=.type "list",data:=.seq j_.toArray n }:=by
 let{z,j_,n,r,e}:=I.k_ l _ hH;exact{z,j_,n,r,r.length,e}
theorem yu(h:n<=sizeLine):Builtin.List.listTooLong n=false:=by
 unfold Builtin.List.listTooLong
 grind
end
section
def Be:V->Re V->Hp->VK->Prop:=λx vs H Q=>∃l xs y,x=.ref l/\vs=[y]/\H l=some (.lst xs)/\xs.length<sizeLine/\Q .QW (upd H l<|.lst<|xs++[y])
theorem uV:MtM X "list.append" Be:=by
 intro pins s Z H x vs v us Q I rx rv h;let{l,xs,y,rfl,rfl,hH,hz,q}:=h
 cases rx
 let{u,rfl,ru}:=rv.one;let{z,j_,n,r,hl,e}:=I.XM hH;refine Qi F.slot_list_append {_,e,rfl} F.entry_list_append (F.args_list_append_2 _ _) (PySem.list_append l j_.toArray n u (by rw[f8];lia)) {e,?_};refine{.QW,_,I.zaf  hH e ?G (r.append<|.cons ru .nil) ?_,rfl,q};rw[R4,sk];lia
def HD:V->Re V->Hp->VK->Prop:=λx vs H Q=>∃l b xs zs,x=.ref l/\vs=[.ref b]/\H l=some (.lst xs)/\H b=some (.lst zs)/\xs.length+zs.length<=sizeLine/\Q .QW (upd H l<|.lst<|xs++zs)
theorem Dc:MtM X "list.extend" HD:=by
 intro pins s Z H x vs v us Q I rx rv h;let{l,b,xs,zs,rfl,rfl,hH,hB,hz,q}:=h
 cases rx
 let{u,rfl,ru}:=rv.one
 cases ru
 let{z,j_,n,r,hl,e}:=I.XM hH;let{z2,Tt,n2,r2,hl2,e2}:=I.XM hB;have hsz:j_.toArray.size+Tt.toArray.size<=sizeLine:=by grind
 have X9:¬ (!j_.toArray.isEmpty&&Builtin.List.listTooLong (j_.toArray.size+Tt.toArray.size))=true:=by
  rw[yu hsz]
  grind
 refine Qi F.slot_list_extend {_,e,rfl} F.entry_list_extend (F.args_list_extend_2 _ _)
  (AutoSeq1.list_extend_list_list_0 l j_.toArray n b Tt.toArray n2 X9 ?Z ?A) {e,e2,?_}
 refine{.QW,_,I.zaf  hH e ?G (r.append r2) ?_,rfl,q}
 grind
def ON:V->Re V->Hp->VK->Prop:=λx vs H Q=>∃l xs y,x=.ref l/\vs=[]/\H l=some (.lst xs)/\xs[xs.length - 1]? = some y/\Q y (upd H l<|.lst xs.dropLast)
theorem Lu:MtM X "list.pop" ON:=by
 intro pins s Z H x vs v us Q I rx rv h;let{l,xs,y,rfl,rfl,hH,hy,q}:=h
 cases rx
 have hus:=rv.zero;subst hus;let{z,j_,n,r,hl,e}:=I.XM hH;let{u,hu,ru}:=r.get hy;have Vb:j_.toArray[j_.toArray.size - 1]? = some u:=by
  grind
 refine Qi F.slot_list_pop {_,e,rfl} F.entry_list_pop (F.args_list_pop_1 _) (MeetsSeq.list_pop_last l j_.toArray n u Vb ?Z) {e,?_};refine{y,_,I.zaf  hH e ?_ r.dropLast ?_,ru,q}
 ·grind
 grind
def OM:R2:=λx y H Q=>∃l k xs,x=.ref l/\y=.int k/\H l=some (.lst xs) /\ -(2^63)<=k/\k<2^63/\xs.length*k.toNat<=sizeLine /\
 ∀p,H p=none->Q (.ref p) (upd H p<|.lst (List.replicate k.toNat xs).flatten)
theorem len_rep{α:Type}(xs:Re α)(k:Nat):(List.replicate k xs).flatten.length=k*xs.length:=by
 simp_all
theorem Ld:QN X (binaryOp .Mult) OM:=by
 intro pins s Z H x y v u Q I rx ry h;let{l,k,xs,rfl,rfl,hH,h1,h2,hz,q}:=h
 cases rx
 let{t,rfl}:=ry;let{z,j_,n,r,hl,e}:=I.XM hH;have hlen:j_.toArray.size*k.toNat<=sizeLine:=by grind
 have zbB:¬ j_.toArray.size*k.toNat>(2^63 - 1) / 8:=by
  have:(sizeLine)<=(2^63 - 1) / 8:=by decide
  lia
 have Vg:¬ (!Builtin.List.listFitsIndex k)=true:=by
  rw[fitsIndex_both h1 h2]
  grind
 have X9:¬ Builtin.List.listTooLong (j_.toArray.size*k.toNat)=true:=by
  rw[yu hlen]
  grind
 have zby:List.foldl (λx1 x2=>x1++x2) #[] (List.replicate (if j_.toArray.isEmpty=true then 0 else k.toNat) j_.toArray)=(List.replicate k.toNat j_).flatten.toArray:=by
  have f0:∀m ,List.foldl (λx1 x2=>x1++x2) #[] (List.replicate m j_.toArray)=(List.replicate m j_).flatten.toArray:=λm=>by
   have:=foldl_rep j_ m []
   grind
  rw[f0]
  cases j_ with
  | nil=>simp
  | cons a r'=>rw[ax ?G]
 refine wpAny_binaryOp_repeat_ref   ?C {_,e,rfl} (λs'=>typeIs_int s' k t) noFill_list_mul F.fills_int_mul F.slot_int_rmul repeat_list F.slot_int_index.lookup
  <|Qi F.slot_int_rmul (typeIs_int s k t) F.entry_int_rmul (F.args_int_rmul_2 _ _) (int___rmul___int_list k t l j_.toArray n)
   {e,rfl,{_,e,rfl},Qi F.slot_list_mul {_,e,rfl} F.entry_list_mul (F.args_list_mul_2 _ _) (AutoListH.list___mul___list_int_3 l j_.toArray n k t Vg zbB X9) {e,?_}}
 rw[zby];exact{.ref _,_,I.zbe  (r.rep k.toNat) (by rw[len_rep,Nat.mul_comm];exact hz),rfl,q _ I.fresh}
end
end L2
namespace Att
open PySem PySem.W PySem.Calls PyProof.Rows
theorem qi{P:Params}{h:Wp}:∀(ns:Re Int) (vs:Re SL),WellAll P h vs (ns.map WData.int)->IntsAre vs ns:=by
 intro ns
 induction ns with
 | nil =>
  intro vs w
  cases w
  exact .nil
 | cons n ns ih =>
  intro vs w
  cases w with
  | cons a b =>
   cases a
   exact .cons _ _<|ih _ b
theorem CQ{l:OpenLaw}{n:Nat}(hn:l.most=some n){P:Params}{h:Wp}{args:Re WData}{vals:Re SL}
  (Za:l.row.toRowW.claim.pre args=true) (hwl:WellAll P h vals args) :
  ∃a vs ns,vals=[Value.ref a]/\args=[WData.list (ns.map WData.int)]/\h.get? a=some { cls:=.type "list",data:=.seq vs.toArray }/\IntsAre vs ns/\ns.length<=n:=by
 have hsh:=(pre_splitW Za).1;have hc:l.pre.holds [] { args:=args }=true:=(pre_splitW Za).2;let{d,r,rfl,h1,h2}:=hasAllW_cons hsh;obtain rfl:=hasAllW_nil h2;let{xs,rfl,h3}:=hasW_list h1;let{ns,rfl}:=items_int h3;have hlen:ns.length<=n:=by
  have h4:(WTm.not<|.lt (.lit<|.int<|n)<|.len<|.arg 0).holds [] { args:=[.list (ns.map .int)] }=true:=by
   have h4:=(holds_andW hc).1
   grind
  have h5:=condW_of h4<|w_not<|w_lt w_lit<|w_len_list<|w_arg rfl
  grind
 cases hwl with
 | cons w1 w2 =>
  cases w2
  cases w1 with
  | list ho zbC=>exact{_,_,ns,rfl,rfl,ho,qi ns _ zbC,hlen}
theorem CZ(l:OpenLaw)(args:Re WData):l.row.toRowW.claim.post args (.bool true) args=true :=
 postW_of
  ((rfl) )
  ((w_eq_bool (w_res rfl) w_lit)) rfl
theorem Vy{l:OpenLaw}{n:Nat}{q:Tl}{loose:Re Str}{XP:(Str->SC SL)->Wp->Prop}{YP:TD->Wp->Prop}{d:DefRec}
  (hn:l.most=some n) (hdf:d.params.defaults=[])
  (call:∀(w:TD) (s₀ s₁:SZ) (mg mb:Rm) (fa:Tk) (o:Obj) (pm cd doc:SL) (a:Tk) (vs:Re SL) (ns:Re Int),
   Ground q loose [] XP w s₀ mg mb s₁.heap->YP w s₁.heap ->
   s₁.heap.get? fa=some o->o.data=.func (docDef d.name d.params d.body d.scope pm cd doc)->s₁.heap.CodeRec cd d.name->mg d.name=some (.ref fa) ->
   s₁.heap.get? a=some { cls:=.type "list",data:=.seq vs.toArray }->IntsAre vs ns->ns.length<=n->s₁.gens = #[] ->
   codeAny (model l.prog w) callerA (.call (.ref fa) {[.ref a],[]}) (λr s'=>r=.ok (.ret<|.bool true)/\OldK s₁.heap s'.heap/\s'.os=s₁.os/\AllBare s'.gens) s₁) :
  WalkO q loose XP YP l.row.toRowW d [] (λf vs=>PySem.call f vs):=by
 intro w s₀ s₁ mg mb G Y fa o pm cd doc dV kV ho hd Ri hD hmg hg args vals as Za zbM hrd hwl ZI;obtain rfl:dV=.none:=Dflts.none hD hdf;obtain rfl:kV=.none:=Dflts.noKw hD;let{a,vs,ns,rfl,rfl,zam,hints,hlen}:=CQ hn Za hwl;refine enter_call<|QB (call w s₀ s₁ mg mb fa o pm cd doc a vs ns G Y ho (fd_plain hd) Ri hmg zam hints hlen hg) λr s' hq=>?_;let{rfl,h2,h3,h4}:=hq;exact{.inl {.bool true,.bool true,[],rfl,λ_=>rfl,.bool true,CZ l _,λ_=>{List.Pairwise.nil,λ_ hm=>(nomatch hm)}},h2,h3,h4}
end Att
namespace L2
open PySem PySem.Spec PyProof.Rows
variable {H H':Hp}{X:Cx}{w:TD}{a:Tk}{P:Tl}{pos:Pos}{u:SL}{s:SZ}{y:V}{kvs:Re ?qs}{scope:Scope}{pins:C_}{Z:St}{A:UV}{E Q:w_}{o:SC V}{x qual:Str}{elt iter tg:TW}{ifs:Re TW}{xs:Re ?jV}{env:Env}{N':Re Str}{g:TG}{tc:TT}{te:TE}
theorem ux:∀{vs:Re SL} {ns:Re Int},IntsAre vs ns->Vals ?jM vs
 | _,_,.nil=>.nil
 | _,_,.cons n t h=>.cons {t,rfl}<|ux h
def MD(H:Hp):Prop:=∀b,H b=none\/∃o xs,H b=some (.Q3 o<|.lst xs)
theorem FU{K:PySem.W.Frag}{mg mb:Rm}{CX:ZV}{k:Nat}{fa:Tk}{fd:FuncData}{sp:Sp}{s₁:SZ}{vs:Re SL}{ns:Re Int}
  (KX:K.In s₁.heap) (WC:s₁.heap.Ns mainGlobals mg) (hb:s₁.heap.Ns builtinsNs mb) (hbb:∀x:Str,x ≠ "__name__" -> mb x=bootBuiltins x) (Zc:s₁.heap.NoLimit) (hg:s₁.gens = #[])
  (ha:s₁.heap.get? a=some { cls:=.type "list",data:=.seq vs.toArray }) (hi:IntsAre vs ns) (hl:ns.length<=sizeLine) (hr:y_ k callerA)
  (F:∀base:Wp,K.In base->base.Ns mainGlobals mg->Q6 P w K mg base CX k fa fd [x] sp) (zaS:∀(s:SZ) (u:SL),BindsTo s fd {[u],[]} [(x,u)])
  (Uu:∀H:Hp,MD H->QO K H a ?jM->sp [.ref a] H (λv _=>v=.bl true) λ_ _ _=>False)
  (hCX:∀H e s',CX [] H s₁ (λ_ _ _=>False) e s'->False) :
  codeAny (model P w) callerA (.call (.ref fa) {[.ref a],[]}) (λr s'=>r=.ok (.ret<|.bool true)/\OldK s₁.heap s'.heap/\s'.os=s₁.os/\AllBare s'.gens) s₁:=by
 have rv:=ux hi;have zbg:=hi.length;have core:∀H ,MD H->QO K H a ?jM->Rr P w H s₁.heap->(∀b,H b≠none->b=a)->(H a≠none->K.lookup a=none) ->
   codeAny (model P w) callerA (.call (.ref fa) {[.ref a],[]}) (λr s'=>r=.ok (.ret<|.bool true)/\OldK s₁.heap s'.heap/\s'.os=s₁.os/\AllBare s'.gens) s₁:=by
  intro H hO hS k_ hA hK;have WJ:∀{b:Tk} {o:Obj},s₁.heap.get? b=some o->H b=none->(yS s₁.heap H).get? b=some o:=λe n=>Gg e n
  have noA:∀{b:Tk} {o:Obj} {es:UF DictEntry} {ep:Nat},s₁.heap.get? b=some o->o.data=.dict es ep->H b=none:=λ{b o es ep} e d=>by
   cases q:H b with
   | none=>rfl
   | some u =>
    have e':=hA b (by rw[q];simp);subst e';rw[ha]at e;cases e;have d':=d
    cases d'
  have nsK:∀{b:Tk} {m:Rm},s₁.heap.Ns b m->(yS s₁.heap H).Ns b m:=λ{b m} ⟨o,es,ep,e,d,r⟩=>{o,es,ep,WJ e<|noA e d,d,r}
  have hKb:=λb o e=>WJ (KX b o e) (by
   grind)
  have hM:Mod K mg (yS s₁.heap H):={hKb,nsK WC,{mb,nsK hb,hbb},let ⟨mc,h1,h2⟩:=Zc;{mc,nsK h1,h2}};have e0:Wv P w K mg (yS s₁.heap H) callerA [] s₁ H:={rfl,hM,λb o e=>Ig e,Nat.le_of_eq<|Dx _ _,trivial,λb hb=>absurd (show b∈([])from hb) ?G,k_,.of_eq hg};refine QB ((F _ hKb<|nsK WC).run callerA [] s₁ H {[.ref a],[]} [.ref a] [.ref a] _ _ hr e0 (zaS s₁<|.ref a) (.cons rfl .nil)<|Uu H hO hS) λr s' h=>?_
  cases r with
  | error e=>exact(hCX H e s' h).elim
  | ok fl =>
   cases fl with
   | next=>exact False.elim h
   | brk=>exact False.elim h
   | cont=>exact False.elim h
   | ret u =>
    let{v,H',os,bare,un,Vc,r',q}:=h;have q':=q;subst q';obtain rfl:u=Value.bool true:=r';refine{rfl,OldK.of_keep λb o e=>?_,os,bare}
    cases q:H b with
    | none=>exact un.keep b o e q (by intro z;exact absurd (show b∈([])from z) ?G) ?G
    | some u =>
     let z||{ob,xs,z}:=hO b
     ·rw[q]at z;cases z
     ·have z2:=un.Sk b ob _ z;let{e1,_}:=k_ b _ z;let{e2,_}:=Vc b _ z2
      grind
 cases hk:K.lookup a with
 | some o =>
  have e:=KX a o hk;rw[ha]at e
  cases e
  refine core (λ_=>none) (λ_=>.inl rfl) (.inr {_,vs.toArray,_,hk,rfl,rfl,rfl,by rw[f8,zbg];exact hl,(rv)}) (λb u z=>by have z':=z;cases z') (λb z=>absurd rfl z) λz=>absurd rfl z
 | none =>
  refine core (λb=>if b=a then some (.Q3 { cls:=.type "list",data:=.seq vs.toArray }<|.lst ?jM)else none) (λb=>?_) (.inl<|.inr {{ cls:=.type "list",data:=.seq vs.toArray },ar rfl}) (λb u z=>?_) (λb z=>?_) λ_=>hk
  ·grind
  ·by_cases hb:b=a
   ·have z':=(ar hb).symm.trans z
    cases z'
    subst hb;exact{ha,by rw[v_];exact hl,vs,_,rv,ha}
   grind
  grind
theorem YH{l:PySem.W.OpenLaw}{n k:Nat}{q:Tl}{loose:Re Str}{XP:(Str->SC SL)->Wp->Prop}{YP:TD->Wp->Prop}{d:DefRec}{K:Params->PySem.W.Frag}{CX:TD->ZV}{sp:TD->Sp}
  (hn:l.most=some n) (hn2:n<=sizeLine) (hdf:d.params.defaults=[]) (hr:y_ k callerA)
  (hY:∀(w:TD) (h:Wp),YP w h->(K w.params).In h)
  (F:∀(w:TD) (mg:Rm) (fa:Tk) (h:Wp),(K w.params).In h->h.Ns mainGlobals mg->mg d.name=some (.ref fa) ->
   ∃fd:FuncData,(∀(s:SZ) (u:SL),BindsTo s fd {[u],[]} [(x,u)]) /\
    ∀base:Wp,(K w.params).In base->base.Ns mainGlobals mg->Q6 l.prog w (K w.params) mg base (CX w) k fa fd [x] (sp w))
  (Uu:∀(w:TD) (H:Hp) (a:Tk) (ns:Re Int),ns.length<=n->MD H->QO (K w.params) H a ?jM->sp w [.ref a] H (λv _=>v=.bl true) λ_ _ _=>False)
  (hCX:∀(w:TD) (H:Hp) (s:SZ) (e:SL) (s':SZ),CX w [] H s (λ_ _ _=>False) e s'->False) :
  PySem.W.WalkO q loose XP YP l.row.toRowW d [] (λf vs=>PySem.call f vs):=by
 refine Att.Vy hn hdf λw s₀ s₁ mg mb fa o pm cd doc a vs ns G Y ho hd Ri hmg zam hints hlen hg=>?_
 have KX:=hY w _ Y;let{fd,hb,hF}:=F w mg fa _ KX G.T.g hmg;exact FU KX G.T.g G.T.b G.T.builtins G.T.nolimit hg zam hints (bj hlen hn2) hr hF hb (λH hO hS=>Uu w H a ns hlen hO hS) λH e s'=>hCX w H s₁ e s'
def cY(s:Uf):Arguments:=match s with
 | .FunctionDef _ a _ _ _ _ _ _ _ _=>a
 | _=>{ posonlyargs:=[],args:=[],vararg:=none,kwonlyargs:=[],kw_defaults:=[],kwarg:=none,defaults:=[] }
def bV(s:Uf):Re Uf:=match s with
 | .FunctionDef _ _ b _ _ _ _ _ _ _=>b
 | _=>[]
def aP(s:Uf):Scope:=match s with
 | .FunctionDef _ _ _ _ _ _ sc _ _ _=>sc
 | _=>{ kind:=.function,names:=[],isGenerator:=false,isCoroutine:=false }
structure WN(K:PySem.W.Frag)(x qual:Str)(st:Uf)(f:Tk)(fd:FuncData):Prop where
 ex:∃(oc:SL) (od:SC Tk) (kV doc pm:SL) (an:SC Tk) (t_ ct:SL) (Uc:UF (SC SL)),
  fd=PySem.W.fnOf x qual (cY st) ?qt ?jR .none kV doc pm an t_ ct/\K.lookup f=some {oc,od,.func fd,Uc}/\PySem.W.codeIn K t_ qual=true
 kp:PySem.W.keepIn K (.ref f)=true
section
variable {K:PySem.W.Frag} {mg:Rm} {base:Wp}
theorem WN.binds{st:Uf}{f:Tk}{fd:FuncData}{ps:Re Str}(F:WN K x qual st f fd)
  (h:∀(kV doc pm:SL) (an:SC Tk) (t_ ct:SL) (us:Re SL),us.length=ps.length->bindArgs (PySem.W.fnOf x qual (cY st) ?qt ?jR .none kV doc pm an t_ ct) {us,[]}=pure (ps.zip us)):Binds K fd ps []:=by
 let{oc,od,kV,doc,pm,an,t_,ct,Uc,rfl,lk,Ri}:=F.ex;exact .all<|h kV doc pm an t_ ct
theorem Gk{st:Uf}{f:Tk}{oc:SL}{od an:SC Tk}{Uc:UF (SC SL)}{kV doc pm t_ ct:SL}(l:K.lookup f=some {oc,od,.func<|PySem.W.fnOf x qual (cY st) ?qt ?jR .none kV doc pm an t_ ct,Uc})
  (c:PySem.W.codeIn K t_ qual=true) (k:PySem.W.keepIn K (.ref f)=true):WN K x qual st f (PySem.W.fnOf x qual (cY st) ?qt ?jR .none kV doc pm an t_ ct):={{oc,od,kV,doc,pm,an,t_,ct,Uc,rfl,l,c},k}
end
theorem O6{A B:Prop}(h:B):if false=true then A else B:=by
 grind
theorem LL{A B:Prop}(h:A):if true=true then A else B:=by
 exact h
@[grind] def c_(H H':Hp):Prop:=∀b o,H b=some o->H' b=some o
theorem c_.refl(H:Hp):c_ H H:=λ_ _ h=>h
theorem c_.trans{H1 H2:Hp}(a:c_ H H1)(b:c_ H1 H2):c_ H H2:=λc o h=>b c o<|a c o h
theorem c_.free(e:c_ H H'){l:Tk}(h:H' l=Option.none):H l=Option.none:=by
 cases q:H l with
 | none=>rfl
 | some o =>
  rw[e l o q]at h
  cases h
theorem c_.seq{K:PySem.W.Frag}{xs:Re V}(e:c_ H H')(h:QO K H a xs):QO K H' a xs:=by
 rcases h with (h|⟨o,h⟩)|h
 ·exact .inl<|.inl<|e _ _ h
 ·exact .inl<|.inr {o,e _ _ h}
 ·exact .inr h
def fnB:SC NameKind->Bool
 | some .cell=>true
 | _=>false
theorem LW{o:SC NameKind}(h:fnB o=true):o=some .cell:=by
 unfold fnB at h
 grind
def bL(X:Cx)(N':Re Str)(scope:Scope)(cl:Re (Str×Tk))(s₂:SZ)(H₂:Hp)(fp:Re Tk)(C:Tk):Cx :=
 { X with N:=N',s₀:=s₂,H₀:=H₂,env:=compEnvC scope cl C X.env,outer:=X.stack,ex:=fp,fn:=λy=>fnB<|scope.names.lookup y,pn:=[],xe:=λ_ _=>False }
def lobj(ys:Re SL)(k:Nat):Obj:={ cls:=.type "list",data:=.seq ys.toArray k }
section
variable {prog:Tl} {R:Result->SZ->Prop}
theorem ko{target:TW}{it acc:SL}(I:Nat->SZ->Prop)
  (turn:∀n s,I n s->wpAny ?D A (pyNext it) (λr s₁=>match r with
   | none=>R (.ok .next) s₁
   | some v=>wpAny ?D A (letOwnedTupleGo target it v) (λ_ s₁'=>wpAny ?D A (assign target env v) (λ_ s₂ =>
     wpAny ?D A (forIn ifs true λc r=>if r=true then do let ok <-isTrue c env (eval c env);pure (ForInStep.yield ok)else pure (ForInStep.yield r)) (λok s₃ =>
      if ok=true then wpAny ?D A (eval elt env) (λx s₄ =>
       wpAny ?D A (call (.builtin "list.append") [acc,x]) (λ_ s₅=>∃m,m<n/\I m s₅) ?jN s₄) ?jN s₃
      else ∃m,m<n/\I m s₃) ?jN s₂) ?jN s₁') ?jN s₁) ?jN s)
  (n:Nat) (h:I n s) :
  codeAny ?D A (.compLoop (.ListComp elt [{target,iter,ifs,0}] scope pos) 0 it acc env) R s:=by
 refine codeAny_loop rfl I (λn s hI=>?_) n h;refine wpAny_noted ?_;refine h_<|P6<|h_<|pd (turn n s hI) (λr s₁ h₁=>?_) λ_ _ h'=>h'.elim
 cases r with
 | none=>exact m_ h₁
 | some v =>
  refine h_<|pd h₁ (λ_ s₁' h₁'=>?_) λ_ _ h'=>h'.elim;refine h_<|pd h₁' (λ_ s₂ h₂=>h_<|pd h₂ (λok s₃ h₃=>?_) λ_ _ h'=>h'.elim) λ_ _ h'=>h'.elim
  cases ok with
  | false=>exact m_ {rfl,h₃}
  | true =>
   exact h_<|h_<|pd h₃ (λx s₄ h₄=>h_<|pd h₄ (λ_ s₅ h₅=>m_<|m_ {rfl,h₅}) λ_ _ h'=>h'.elim) λ_ _ h'=>h'.elim
end
def PTs(X:Cx)(ifs:Re TW)(t:TT):Prop :=
 ∀(pins:C_) (s:SZ) (Z:St) (H:Hp) (Q:Bool->Hp->Prop),Inv X pins Z H s->t Z H Q ->
  wpAny ?B X.A (forIn ifs true λc r=>if r=true then do let ok <-isTrue c X.env (eval c X.env);pure (ForInStep.yield ok)else pure (ForInStep.yield r)) ?qx X.xe s
theorem HI:PTs X [] (λ_ H Q=>Q true H):=λ_ _ _ H _ I h=>wpAny_tests_nil {H,I,h}
theorem Bj{c:TW}{t:TT}(h:PT X c t):PTs X [c] t:=λpins s Z H Q I q=>wpAny_tests_one<|h pins s Z H Q I q
theorem gX{env:Env}:∀{names:Re (Str×NameKind)} {x:Str},
  (names.map λ(n,k)=>if(k==NameKind.free&&env.scope.kind==.function&&env.kindOf n==some .cell)then(n,NameKind.cell)else(n,k)).lookup x
   = (names.lookup x).map λk=>if(k==NameKind.free&&env.scope.kind==.function&&env.kindOf x==some .cell)then NameKind.cell else k
 | [],_=>rfl
 | (n,k)::r,x=>by
  have ih:=@gX env r x
  grind
theorem mH{env:Env}:∀(names:Re (Str×NameKind)) (acc:Re (Str×Tk)),(∀x∈names,x.2=.free->∃c,env.cells.lookup x.1=some c) ->
  (∀x c,acc.lookup x=some c->env.cells.lookup x=some c) ->
  ∃cl,(forIn names acc λ(x:Str×NameKind) (cs:Re (Str×Tk))=>(if(x.2==NameKind.free)=true then(do let c <-cellOf env x.1;pure (ForInStep.yield<|(x.1,c)::cs))else pure (ForInStep.yield cs):Sem (ForInStep<|Re<|Str×Tk)))=pure cl /\
   (∀x c,cl.lookup x=some c->env.cells.lookup x=some c)/\(∀x,(acc.lookup x).isSome->(cl.lookup x).isSome)/\∀x∈names,x.2=.free->(cl.lookup x.1).isSome
 | [],acc,_,ha=>{acc,rfl,ha,λ_ h=>h,λ_ h=>nomatch h}
 | (n,k)::r,acc,hn,ha=>by
  cases hk:(k==NameKind.free)with
  | true =>
   let{c,hc}:=hn (n,k) cr (by simpa using hk);have ha':∀x d,((n,c)::acc).lookup x=some d->env.cells.lookup x=some d:=λx d e=>by
    rw[Qx]at e
    cases q:x==n with
    | true =>
     rw[q]at e;have:=by simpa using q
     subst this;exact hc.trans e
    | false=>rw[q]at e;exact ha x d e
   let{cl,e,h1,h2,h3}:=mH r ((n,c)::acc) (λx hx=>hn x<|Sw _ hx) ha';have grow:∀x,(acc.lookup x).isSome->(((n,c)::acc).lookup x).isSome:=λx hx=>by
    rw[Qx]
    cases q:x==n with
    | true=>rfl
    | false=>exact hx
   refine{cl,?_,h1,λx hx=>h2 x<|grow x hx,λx hx hf=>?_}
   ·have q:cellOf env n=pure c:=by
     unfold cellOf;rw[hc]
    grind
   grind
  | false =>
   let{cl,e,h1,h2,h3}:=mH r acc (λx hx=>hn x<|Sw _ hx) ha
   grind
theorem sV(h:∀x∈scope.names,x.2=.free->∃c,env.cells.lookup x.1=some c) :
  ∃cl,closureFor scope env=pure cl/\(∀x c,cl.lookup x=some c->env.cells.lookup x=some c)/\∀x∈scope.names,x.2=.free->(cl.lookup x.1).isSome:=by
 let{cl,e,h1,_,h3}:=mH  scope.names [] h (λx c e=>by simp at e);unfold closureFor
 grind
theorem lp:∀(names:Re (Str×NameKind)) (n:Nat) (acc:Re (Str×Tk)),cellsFrom n names acc=cellsFrom n names []++acc
 | [],_,_=>rfl
 | (x,k)::r,n,acc=>by
  unfold cellsFrom;split
  ·rw[lp r (n+1)<|(x,n)::acc,lp r (n+1) [(x,n)],List.append_assoc];rfl
  ·exact lp r n acc
theorem o7:∀{names:Re (Str×NameKind)} {n:Nat} {acc:Re (Str×Tk)} {x:Str} {c:Tk},(x,c)∈cellsFrom n names acc->(x,NameKind.cell)∈names\/(x,c)∈acc
 | [],_,_,_,_,h=>.inr h
 | (y,k)::r,n,acc,x,c,h=>by
  unfold cellsFrom at h;split at h
  ·let z||z:=o7 h
   ·grind
   grind
  ·let z||z:=o7 h
   ·grind
   ·exact .inr z
theorem mq{α:Type}:∀{l r:Re (Str×α)} {x:Str},(l++r).lookup x=match l.lookup x with|some c=>some c|none=>r.lookup x
 | [],_,_=>rfl
 | (n,c)::l,r,x=>by
  grind
structure RF(X:Cx)(N':Re Str)(k:Nat)(scope:Scope):Prop where
 kind:scope.kind=.function
 len:N'.length=X.N.length+k
 cells:∀y∈scope.names,y.2=.cell->scope.names.lookup y.1=some .cell
 names:∀y∈scope.names,y.2=.local->scope.names.lookup y.1=some .local
 outer:∀(i:Nat) x,i<X.N.length->N'[i]? = some x->(scope.names.lookup x).isSome->(scope.names.lookup x=some .free\/scope.names.lookup x=some .local\/scope.names.lookup x=some .cell)->X.N[i]? = some x/\scope.names.lookup x=some .free
 free:∀y∈scope.names,y.2=.free->X.env.kindOf y.1=some .cell\/X.env.kindOf y.1=some .free
def A6(wi:TI)(k:Nat)(g:TG)(tc:TT)(te:TE):TE:=λZ H Q=>wi Z H λJ H1=>∃W:Nat->Nat->Re V->St->Hp->Prop,(∃m,W 0 m [] (Z++List.replicate k none) H1) /\
 ∀i m vs σ' H',W i m vs σ' H'->vs.length<=sizeLine /\
  ((J.stop i H'/\∀p,H' p=none->Q (.ref p) (upd H' p<|.lst vs)) \/
   (J.go i H'/\∀x H2,J.VB i H' x H2->g x σ' H2 λσ3 H3=>tc σ3 H3 λb H4=>if b=true then te σ3 H4 λy H5=>∃m',m'<m/\W ?qc m' (vs++[y]) σ3 H5 else ∃m',m'<m/\W ?qc m' vs σ3 H4))
section
variable {H2:Hp} {s2:SZ}
theorem Rr.zax{h:Wp}{D:Tk}{vs:Re V}{ys:Re SL}{k:Nat}(x:Rr P w H h)(hn:H D=none)(hl:vs.length<=sizeLine)(r:Vals vs ys)(e:h.get? D=some (lobj ys k)) :
  Rr P w (upd H D<|.lst vs) h:=λb u q=>by
 by_cases hb:b=D
 ·subst hb;rw[aN]at q
  cases q
  exact{hl,ys,k,r,e}
 ·rw[aQ hb]at q;exact(x b u q).Tq (λ_ _ _ z=>z) (λc z=>by rw[aQ<|bp z hn];exact z) λc xs z=>by rw[aQ<|bp z hn];exact z
theorem DE{globals:Tk}{cl:Re (Str×Tk)}{M:Model}{Q:Env->SZ->Prop}
  (h:Q (newEnv scope s.heap.objs.size globals (cellsFrom ?jD scope.names cl) qual none .none (some env) builtinsNs) { s with heap:=pushCells (s.heap.push { cls:=.type "dict",data:=.dict #[] }) scope.names }) :
  wpAny M A (newFunctionEnv scope globals cl [] qual none .none<|some env) Q E s:=by
 refine h_<|wpAny_alloc ?_;refine h_<|wpAny_layCells _ (λname kind cells=>rfl ) _ _ _ _ ?_;rw[(oC ..)];refine h_ ?_;exact m_<|m_ h
theorem vf{k:Nat}{cl:Re (Str×Tk)}{J:It}{fp:Re Tk}{it:Tk}{tn:Nat->Wp->Prop}
  {RR:SL->Tk->Result->SZ->Prop} {Q:VK}
  (hc:X.calm=true) (S:RF X N' k scope) (Ux:∀x c,cl.lookup x=some c->X.env.cells.lookup x=some c) (hcf:∀x∈scope.names,x.2=.free->(cl.lookup x.1).isSome)
  (I:Inv X pins Z H2 s2) (T:Turn X.prog X.w X.K tg J fp it tn) (st:tn 0 s2.heap) (ff:∀b∈fp,mM X pins H2 b)
  (hg:∀cl C,PG (bL X N' scope cl s2 H2 fp C) tg g) (ht:∀cl C,PTs (bL X N' scope cl s2 H2 fp C) ifs tc) (he:∀cl C,PE (bL X N' scope cl s2 H2 fp C) elt te)
  (rd:∃W:Nat->Nat->Re V->St->Hp->Prop,(∃m,W 0 m [] (Z++List.replicate k none) H2) /\
   ∀i m vs σ' H',W i m vs σ' H'->vs.length<=sizeLine /\
    ((J.stop i H'/\∀p,H' p=none->Q (.ref p) (upd H' p<|.lst vs)) \/
     (J.go i H'/\∀x H2,J.VB i H' x H2->g x σ' H2 λσ3 H3=>tc σ3 H3 λb H4=>if b=true then te σ3 H4 λy H5=>∃m',m'<m/\W ?qc m' (vs++[y]) σ3 H5 else ∃m',m'<m/\W ?qc m' vs σ3 H4)))
  (hRR:∀D C s' H',Inv X pins Z H' s'->(∃m,s'.heap.Ns C m)->mM X pins H' C->Q (.ref D) H'->RR (.ref D) C (.ok .next) s') :
  wpAny ?B X.A (newList []) (λacc s₃=>wpAny ?B X.A (newFunctionEnv scope X.env.globals cl [] X.env.qual none .none<|some X.env) (λzaV s₄ =>
   codeAny ?B X.A (.compStart (.ListComp elt [{tg,iter,ifs,0}] scope pos) 0 (.ref it) acc { zaV with scope:=relabel scope X.env }) (RR acc zaV.locals) s₄) E s₃) E s2:=by
 let{W,{m0,w0},turn}:=rd;refine gu<|DE ?_;dsimp only;generalize hH2:s2.heap.push { cls:=.type "list",dict:=none,data:=.seq ([]:Re SL).toArray }=G2;have hCs:G2.objs.size=s2.heap.objs.size+1:=by rw[<-hH2,oC]
 have hDC:s2.heap.objs.size≠G2.objs.size:=by rw[hCs];exact bu<|Nat.lt_succ_self _
 have W5:s2.heap.objs.size<=G2.objs.size:=by rw[hCs];exact Qn _
 have zal:=cellsFrom_ok scope.names (G2.push { cls:=.type "dict",data:=.dict #[] }) (G2.objs.size+1) [] {λ_ _ hm=>(nomatch hm),List.Pairwise.nil} (by rw[oC];exact ac _);rw[oC]at zal;have zbx:(pushCells (G2.push { cls:=.type "dict",data:=.dict #[] }) scope.names).Ns G2.objs.size (λ_=>none):=(Heap.Ns.new G2<|.type "dict").keeps<|pushCells_keeps _ _;have old:∀b o,s2.heap.get? b=some o->(pushCells (G2.push { cls:=.type "dict",data:=.dict #[] }) scope.names).get? b=some o:=λb o e=>pushCells_keeps _ _ b o<|z_ _<|hH2▸z_ _ e
 have Ye:(pushCells (G2.push { cls:=.type "dict",data:=.dict #[] }) scope.names).get? s2.heap.objs.size=some (lobj [] 0):=pushCells_keeps _ _ _ _<|z_ _<|hH2▸QV _ rfl;rw[lp scope.names (G2.objs.size+1) cl];generalize pushCells (G2.push { cls:=.type "dict",data:=.dict #[] }) scope.names=h₁ at *;have own:∀x c,(x,c)∈cellsFrom (G2.objs.size+1) scope.names []->(x,NameKind.cell)∈scope.names:=λx c h=>(o7 h).elim id λz=>nomatch z
 have XG:∀x,scope.names.lookup x=some .cell->∃c,(cellsFrom (G2.objs.size+1) scope.names []).lookup x=some c:=λx h=>sX h
 generalize cellsFrom (G2.objs.size+1) scope.names []=oc at *;generalize W4:s2.heap.objs.size=D at *;generalize hCe:G2.objs.size=C at *;have fpD:mM X pins H2 D:=I.RJ (by rw[W4];exact ac _) (I.k_.fresh (by rw[W4];exact ac _));have fpC:∀H',H' C=none->mM X pins H' C:=λH' hn=>I.RJ (by rw[W4];exact W5) hn
 have W2:∀b∈fp,b<D:=λb hb=>by
  let{o,e,_}:=T.obj _ _ st b hb;rw[<-W4];exact aw e
 have Y4:∀b,D<=b->b∉TN X.stack:=λb hb hm=>by
  rcases List.mem_cons.mp (I.Tp b hm)with e|hm
  ·have:=I.lt;rw[W4]at this;rw[e]at hb;exact absurd (bo this hb)<|lf _
  ·exact I.zaC (by rw[W4];exact hb) hm
 let X':=bL X N' scope (oc++cl) s2 H2 fp C
 have Wq:∀x c,cl.lookup x=some c->c<D:=λx c e=>by
  let{v,z}:=I.cell x c<|Ux x c e;rw[<-W4];exact z.lt
 have hCD:D<=C:=W5;have SS:∀x c,(oc++cl).lookup x=some c->((x,c)∈oc/\D<c/\h₁.IsCell c none)\/(oc.lookup x=none/\cl.lookup x=some c):=λx c e=>by
  rw[mq]at e
  cases q:oc.lookup x with
  | some c' =>
   rw[q]at e;cases e;have hm:=se q;let{z1,z2}:=zal.empty x _ hm;exact .inl {hm,ut hCD z2,z1}
  | none=>rw[q]at e;exact .inr {rfl,e}
 have ok':X'.Ok:=by
  refine{I.ok.mod,S.kind,I.ok.glob,I.ok.blt,?_,λx y c e1 e2=>?_,λx hx=>?_,λx c hf e=>?_,I.ok.hd,I.ok.frames,.inl rfl,λb hb=>{?_,λx c e z=>?_},I.bs,?_,λb o e hb=>?_,λb hb hm=>?_,I.stack,I.Tc}
  ·show s2.heap.objs.size<=C;rw[W4];exact W5
  ·let{m1,l1,_}||{_,e1}:=SS x c e1<;>let{m2,l2,_}||{_,e2}:=SS y c e2
   ·exact name_of_addr zal.apart m1 m2
   ·exact absurd (QE l1<|Wq _ _ e2)<|lf _
   ·exact absurd (QE l2<|Wq _ _ e1)<|lf _
   ·exact I.ok.inj x y c (Ux _ _ e1)<|Ux _ _ e2
  ·have Rx:(relabel scope X.env).names.lookup x=some .cell\/(relabel scope X.env).names.lookup x=some .free:=hx;have e:=gX (env:=X.env) (names:=scope.names) (x:=x);have e':(relabel scope X.env).names.lookup x=(scope.names.lookup x).map λk=>if(k==NameKind.free&&X.env.scope.kind==.function&&X.env.kindOf x==some .cell)then NameKind.cell else k:=e
   rw[e']at Rx
   cases q:scope.names.lookup x with
   | none=>rw[q]at Rx;let z||z:=Rx<;>cases z
   | some kd =>
    have Uw:=se q;rw[q]at Rx;have hkd:kd=.free\/kd=.cell:=by
     by_cases hz:kd=.free
     ·exact .inl hz
     ·have hb:(kd==NameKind.free)=false:=by simpa using hz
      simp![hb,Bool.false_and,Bool.false_eq_true,Qv,Option.map_some]at Rx;let z||z:=Rx
      ·exact .inr<|Option.some.inj z
      ·exact absurd (Option.some.inj z) hz
    show ∃c,(oc++cl).lookup x=some c;rw[mq]
    cases qo:oc.lookup x with
    | some c=>exact{c,rfl}
    | none =>
     let hkd||hkd:=hkd
     ·exact Option.isSome_iff_exists.mp<|hcf _ Uw hkd
     ·subst hkd;let{c,e}:=XG x q;rw[qo]at e;cases e
  ·have hq:scope.names.lookup x=some .cell:=LW hf;let{c',ec}:=XG x hq;let{_,l,_}||{z,_}:=SS x c e
   ·show s2.heap.objs.size<=c;rw[W4];exact Me l
   ·rw[z]at ec;cases ec
  ·exact bu<|bo (W2 b hb) W5
  ·let{_,l,_}||{_,e}:=SS x c e
   ·exact ny (QE (W2 b hb) l) z
   ·exact(ff b hb).2.2.2.2.1 x c (Ux x c e) z
  ·exact bj I.ok.YA I.sz
  ·let{_,_,_,hx,_}:=ff b hb;let hx||hx:=hx
   ·exact I.ok.VZ b o e hx
   ·exact absurd (bo (aw (I.ok.bs b o e).1) hx)<|lf _
  ·let{_,hl,hfs,_}:=ff b hb;rcases List.mem_cons.mp (I.Tp b hm)with e|hm
   ·exact hl e
   ·exact hfs hm
 have zbf:(Z++List.replicate k none).length=N'.length:=by rw[R4,List.length_replicate,I.len,S.len]
 have I0:Inv X' [(D,lobj [] 0)] (Z++List.replicate k none) H2 { s2 with heap:=h₁ }:=by
  refine{ok',rfl,I.bare,Un.kept old,{_,zbx,λi x v e1 e2 e3=>?_},λx c e=>?_,I.k_.fresh (by rw[W4];exact W5),λx c e=>?_,λp hp=>?_,I.k_.kept old,zbf}
  ·have hi:i<Z.length:=by
    by_cases hi:i<Z.length
    ·exact hi
    ·rw[List.getElem?_append_right<|Nat.not_lt.mp hi,List.getElem?_replicate]at e2;split at e2<;>cases e2
   rw[ul hi]at e2;have e':(relabel scope X.env).names.lookup x=(scope.names.lookup x).map λk=>if(k==NameKind.free&&X.env.scope.kind==.function&&X.env.kindOf x==some .cell)then NameKind.cell else k:=gX (env:=X.env) (names:=scope.names) (x:=x)
   have zaL:∃kd,scope.names.lookup x=some kd/\(kd=.free\/kd=.local\/kd=.cell):=by
    have e3':(relabel scope X.env).names.lookup x=some .local\/(relabel scope X.env).names.lookup x=some .cell\/(relabel scope X.env).names.lookup x=some .free:=e3;rw[e']at e3'
    cases q:scope.names.lookup x with
    | none=>rw[q]at e3';let z||z||z:=e3'<;>cases z
    | some kd =>
     refine{kd,rfl,?_};rw[q]at e3';by_cases hz:kd=.free
     ·exact .inl hz
     ·have hb:(kd==NameKind.free)=false:=by simpa using hz
      simp![hb,Bool.false_and,Bool.false_eq_true,Qv,Option.map_some,Option.some.injEq]at e3';let z||z||z:=e3'
      ·exact .inr<|.inl z
      ·exact .inr<|.inr z
      ·exact .inl z
   let{kd,hk1,hk2}:=zaL;let{hN,Ya}:=S.outer i x (by rw[<-I.len];exact hi) e1 (by rw[hk1];rfl) (by let z||z||z:=hk2<;>subst z<;>simp[hk1]);have Uw:=se Ya;have hko:=S.free _ Uw rfl;have hkx:X.env.kindOf x=some .cell\/X.env.kindOf x=some .free:=hko;let{m,hn,hl}:=I.loc;let{u,r,lk}:=hl i x v hN e2 (by let z||z:=hkx;exact .inr<|.inl z;exact .inr<|.inr z);refine{u,r,.inr {?_,?_}}
   ·show(relabel scope X.env).names.lookup x=some .cell\/(relabel scope X.env).names.lookup x=some .free;rw[e',Ya,Option.map_some];split
    ·exact .inl rfl
    ·exact .inr rfl
   ·let{kl,_}||{_,c,ec,Ug}:=lk
    ·let z||z:=hkx<;>(rw[z]at kl;cases kl)
    ·let{c',ec'}:=Option.isSome_iff_exists.mp<|hcf _ Uw rfl;have q:=Ux _ _ ec';rw[ec]at q
     cases q
     have hno:oc.lookup x=none:=by
      cases qo:oc.lookup x with
      | none=>rfl
      | some c2 =>
       have:=S.cells _ (own _ _<|se qo) rfl;rw[Ya]at this;cases this
     exact{c,by show(oc++cl).lookup x=some c;rw[mq,hno];exact ec',Ug.keeps old}
  ·let{_,_,z}||{_,e}:=SS x c e
   ·exact{_,z}
   ·let{v,z}:=I.cell x c<|Ux x c e;exact{v,z.keeps old}
  ·let{_,l,_}||{_,e}:=SS x c e
   ·exact I.k_.fresh (by rw[W4];exact Me l)
   ·exact I.QZ x c<|Ux x c e
  ·have W0:p∈([]:C_)++[(D,lobj [] 0)]:=hp;have ep:p=(D,lobj [] 0):=by simpa using W0
   subst ep;exact{Ye,fpD.1,hDC,Y4 D ?jm,λv z=>nomatch z}
 have VT:∀{H':Hp} {o:Obj},(∀b∈fp,H' b=none)->∀b∈fp,mM X' [(D,o)] H' b:=λ{H' o} hn b hb=>by
  refine{hn b hb,bu<|bo (W2 b hb) W5,ok'.Wn b hb,.inl hb,λx c e z=>?_,λp hp=>?_}
  ·let{_,l,_}||{_,e}:=SS x c e
   ·exact ny (QE (W2 b hb) l) z
   ·exact(ff b hb).2.2.2.2.1 x c (Ux x c e) z
  have W0:p∈([]:C_)++[(D,o)]:=hp;have ep:p=(D,o):=by simpa using W0
  subst ep;exact ny<|W2 b hb
 have loop:∀s₃:SZ,s₃={ s2 with heap:=h₁ } ->
   codeAny ?B X.A (.compLoop (.ListComp elt [{tg,iter,ifs,0}] scope pos) 0 (.ref it) (.ref D)<|compEnvC scope (oc++cl) C X.env) (RR (.ref D) C) s₃:=by
  rintro s₃ rfl;refine ko (λn s'=>∃i vs ys kk σ' H',Inv X' [(D,lobj ys kk)] σ' H' s'/\tn i s'.heap/\(∀b∈fp,H' b=none)/\Vals vs ys/\W i n vs σ' H') ?_ m0
   {0,[],[],0,_,H2,I0,T.keep _ _ _ st λb _ o e=>old b o e,λb hb=>(ff b hb).1,.nil,w0}
  rintro n s3 ⟨i,vs,ys,kk,σ3,H3,I3,YO,fr3,rv,w3⟩;let{hvl,zaR}:=turn i n vs σ3 H3 w3;have zaA:∀{o:Obj} {σ' H' s'},Inv X' [(D,o)] σ' H' s'->s'.heap.get? D=some o/\H' D=none:=λJ=>{(J.pin _<|du _ cr).1,(J.pin _<|du _ cr).2.1}
  let{stop,qn}||{go,step}:=zaR
  ·refine p_ (T.done X' rfl rfl rfl hc i _ s3 σ3 H3 ?jN I3 (VT fr3) YO stop) λr s4 ⟨hr,I4⟩=>?_
   subst hr;let{gD,nD}:=zaA I4;let{m',Zb,_}:=I4.loc;have hC4:H3 C=none:=I4.free;have u0:Un (TN X.stack) fp H2 H3 s2.heap s4.heap:=I4.base;have neD:∀b o,s2.heap.get? b=some o->b≠D:=λb o e=>by rw[<-W4];exact bu<|aw e
   have u1:Un (TN X.stack) fp H2 (upd H3 D<|.lst vs) s2.heap s4.heap :=
    {u0.keep,u0.slot,λb o e n hx=>by rw[aQ<|neD b o e];exact u0.free b o e n hx,u0.there,
     λb xs e=>by have q:=u0.SA b xs e;rw[aQ<|bp q nD];exact q,
     λb o u e=>by have q:=u0.Sk b o u e;rw[aQ<|bp q nD];exact q,
     λb ps e=>by let{more,q}:=u0.SW b ps e;exact{more,by rw[aQ<|bp q nD];exact q}}
   have I5:Inv X pins Z (upd H3 D<|.lst vs) s4:=I.ZR I4.os u1 (I4.k_.zax nD hvl rv gD) I4.bare λb hb=>{(ff b hb).2.2.2.1,(ff b hb).2.1,(ff b hb).2.2.2.2.1,(ff b hb).2.2.2.2.2}
   exact hRR D C s4 _ I5 {m',Zb} (fpC _ (by rw[aQ<|Ne.symm hDC];exact hC4))<|qn D nD
  ·refine p_ (T.item X' rfl rfl rfl hc i _ s3 σ3 H3 ?jN I3 (VT fr3) YO go) λr s4 ⟨u,hr,h4⟩=>?_
   subst hr;refine p_ h4 λ_ s5 ⟨x,H5,I5,r5,y5,ZY,fr5⟩=>?_
   have I5':=I5.pinned (VT fr5)<|T.obj _ _ ZY;refine p_ (hg _ C _ s5 σ3 H5 x u _ I5' r5<|step x H5 y5) λ_ s6 ⟨σ6,H6,I6,q6⟩=>?_
   refine p_ (ht _ C _ s6 σ6 H6 _ I6 q6) λok s7 ⟨H7,I7,q7⟩=>?_
   have ZD:∀{σ' H' s'},Inv X' ([(D,lobj ys kk)]++rD fp s5.heap) σ' H' s'->Inv X' [(D,lobj ys kk)] σ' H' s'/\tn ?qc s'.heap/\∀b∈fp,H' b=none:=λ{σ' H' s'} J =>
    {J.R7,T.keep _ _ _ ZY λb hb o e=>(J.pin (b,o)<|du _<|du _<|jD hb e).1,λb hb=>by
     let{o,e,d}:=T.obj _ _ ZY b hb
     exact(J.pin (b,o)<|du _<|du _<|jD hb e).2.1}
   cases ok with
   | false =>
    rw[ax Bool.false_ne_true];rw[ax Bool.false_ne_true]at q7;let{m',Zb,w7}:=q7;let{J1,J2,J3}:=ZD I7;exact{m',Zb,i+1,vs,ys,kk,σ6,H7,J1,J2,J3,rv,w7}
   | true =>
    rw[ar rfl];rw[ar rfl]at q7;refine p_ (he _ C _ s7 σ6 H7 _ I7 q7) λuy s8 ⟨y,H8,I8,r8,m',Zb,w8⟩=>?_
    let{J1,J2,J3}:=ZD I8;let{gD,nD}:=zaA J1;refine append_at (hsz:=by show ys.toArray.size<=sizeLine;rw[f8,<-rv.length];exact hvl) gD λh9 hs9 hD9=>?_
    have J1':Inv X' [] σ6 H8 s8:=J1.Td λp hp=>nomatch hp
    have J9:Inv X' [] σ6 H8 { s8 with heap:=h9 }:=J1'.turned (t':=s8.toks) (it:=D) (λb o hb e=>hs9.extBut b o hb e) nD hDC (.inr (by show s2.heap.objs.size<=D;rw[W4];exact ac _)) (λx c e=>(SS x c e).elim (λz=>ny z.2.1) λz=>bu<|Wq x c z.2) λp hp=>nomatch hp
    have eo:({ cls:=.type "list",data:=.seq (ys.toArray.push uy) (kk+1) }:Obj)=lobj (ys++[uy]) (kk+1):=by
     unfold lobj;rw[List.push_toArray]
    refine{m',Zb,i+1,vs++[y],ys++[uy],kk+1,σ6,H8,J9.Td λp hp=>?_,T.keep _ _ _ J2 λb hb o e=>hs9.extBut b o (bu<|W2 b hb) e,J3,rv.append<|.cons r8 .nil,w8};have ep:p=(D,lobj (ys++[uy]) (kk+1)):=by simpa using hp
    subst ep;exact{by show h9.get? D=_;rw[hD9,eo],nD,hDC,Y4 D ?jm,λv z=>nomatch z}
 exact codeAny_compStart_list (loop _ rfl)<|T.self _ 0 _ _ _ (T.keep _ _ _ st λb _ o e=>old b o e)<|loop _ rfl
end
section
theorem Bv{k:Nat}{wi:TI}
  (hc:X.calm=true) (S:RF X N' k scope) (V8:∀x∈scope.names,x.2=.free->∃c,X.env.cells.lookup x.1=some c) (hi:PI X tg iter wi)
  (hg:∀cl s H fp C,PG ?M tg g) (ht:∀cl s H fp C,PTs ?M ifs tc) (he:∀cl s H fp C,PE ?M elt te)
  (hs:∀x,foldedSetIterable iter X.env x=pure x:=by intro _;rfl) :
  PE X (.ListComp elt [{tg,iter,ifs,0}] scope pos) (A6 wi k g tc te):=by
 intro pins s Z H Q I h;let{cl,Yd,h1,h2}:=sV   V8;refine wpAny_comprehension_free  rfl hs Yd S.kind S.names<|p_ (hi pins s Z H _ I h) λxv s1 h1'=>p_ h1' λitv s2 h2'=>?_;let{it,fp,tn,J,H2,e,I2,T,Rf,f2,rd}:=h2';subst e;refine vf hc S h1 h2 I2 T Rf f2 (λcl C=>hg cl _ _ _ C) (λcl C=>ht cl _ _ _ C) (λcl C=>he cl _ _ _ C) rd λD C s' H' I' ⟨m,hm⟩ fC q=>?_
 refine{m,hm,λh' Yt=>{.ref D,H',?_,rfl,q}};exact I'.turned   (λb o hb e=>Yt.extBut b o hb e) fC.1 fC.2.1 fC.2.2.2.1 fC.2.2.2.2.1 fC.2.2.2.2.2
theorem rC{pos' U2:Pos}{k i:Nat}{y:Str}{wi:TI}
  (hN:X.N.Nodup) (hy:X.N[i]? = some y) (hly:Loc X.env.scope y) (Yb:X.fn y=true\/X.env.scope.names.lookup y=some .local)
  (hc:X.calm=true) (S:RF X N' k scope) (V8:∀x∈scope.names,x.2=.free->∃c,X.env.cells.lookup x.1=some c) (hi:PI X tg iter wi)
  (hg:∀cl s H fp C,PG ?M tg g) (ht:∀cl s H fp C,PTs ?M ifs tc) (he:∀cl s H fp C,PE ?M elt te)
  (X6:swapsWith (.ListComp elt [{tg,iter,ifs,0}] scope pos) (some (.Name y pos')) U2.line X.env=pure true)
  (hs:∀x,foldedSetIterable iter X.env x=pure x:=by intro _;rfl) :
  PS X (.Assign [.Name y pos'] (.ListComp elt [{tg,iter,ifs,0}] scope pos) U2) (Ho (A6 wi k g tc te) (g9 i)):=by
 intro pins s Z H D₀ I h;let{cl,Yd,h1,h2}:=sV   V8;rw[exec_Assign_Name_used _ _ _ _ X6];refine h_ (P6 (h_ ?_))
 refine h_ (pd (wpAny_comprehension_free   rfl hs Yd S.kind S.names
  (p_ (hi pins s Z H _ I h) λxv s1 h1'=>p_ h1' λitv s2 h2'=>?_)) (λ_ s' hq=>m_ (m_ hq)) λ_ _ e=>e)
 let{it,fp,tn,J,H2,e,I2,T,Rf,f2,rd}:=h2';subst e;refine vf (Q:=λx H1=>g9 i x Z H1 D₀.nx) hc S h1 h2 I2 T Rf f2 (λcl C=>hg cl _ _ _ C) (λcl C=>ht cl _ _ _ C) (λcl C=>he cl _ _ _ C) rd λD C s' H' I' ⟨m,hm⟩ fC q=>?_
 refine wpAny_assign_Name (uC I' hN hy hly (show RelV (.ref D) (.ref D)from rfl) (λs'' I'' ⟨a,hsb,ha⟩=>?_) Yb);have hCa:C≠a:=by
  let rfl||ha:=ha
  ·exact fC.2.1
  ·exact λz=>fC.2.2.2.2.1 y a ha z.symm
 refine{m,hm.sameBut hsb hCa,λh' Yt=>{_,H',?_,q}};exact I''.turned   (λb o hb e=>Yt.extBut b o hb e) fC.1 fC.2.1 fC.2.2.2.1 fC.2.2.2.2.1 fC.2.2.2.2.2
end
section
variable {κ:Type} [DecidableEq κ]
def lA(kvs:Re ?qX)(k:κ):SC V:=(kvs.find? λkv=>decide<|kv.1=k).map (·.2)
def putK(kvs:Re ?qX)(k:κ)(v:V):Re ?qX :=
 if(kvs.any λkv=>decide<|kv.1=k)=true then kvs.map (λkv=>if kv.1=k then(kv.1,v)else kv)else kvs++[(k,v)]
theorem qO{p:κ×V}{r:Re ?qX}{k:κ}(e:p.1=k):lA (p::r) k=some p.2:=by simp[lA,ou,e]
theorem qP{p:κ×V}{r:Re ?qX}{k:κ}(e:¬ p.1=k):lA (p::r) k=lA r k:=by simp[lA,ou,e]
theorem xK(k:κ):∀kvs:Re ?qX,(kvs.any λkv=>decide<|kv.1=k)=(lA kvs k).isSome
 | []=>rfl
 | p::r=>by
  rw[PL];by_cases e:p.1=k
  ·simp  [qO e,ba e,Bool.true_or,Option.isSome_some]
  ·rw[qP e,bi e];exact xK k r
theorem fY(kvs:Re ?qX)(k:κ)(v:V):(putK kvs k v).length<=kvs.length+1:=by
 unfold putK
 grind
theorem SI.Q9{u:SC SL}(r:SI o u):o.isSome=u.isSome:=by
 cases o with
 | none=>cases u with
  | none=>rfl
  | some _=>exact((r)).elim
 | some _=>cases u with
  | none=>exact((r)).elim
  | some _=>rfl
theorem SI.getD{u:SC SL}{d:V}{d':SL}(r:SI o u)(rd:RelV d d'):RelV (o.getD d) (u.getD d'):=by
 cases o with
 | none=>cases u with
  | none=>exact rd
  | some _=>exact((r)).elim
 | some _=>cases u with
  | none=>exact((r)).elim
  | some _=>exact r
theorem KV.val{kvs:Re ?qX}{vs:Re (κ×SL)}(r:KV kvs vs)(k:κ):SI (lA kvs k) (valueAt vs k):=by
 induction r with
 | nil=>exact True.intro
 | @cons p q ps qs h t ih =>
  let{h1,h2}:=h;by_cases e:p.1=k
  ·have e':=h1.symm.trans e;have b:valueAt (q::qs) k=some q.2:=by simp[valueAt,ou,e']
   rw[qO e,b];exact h2
  ·have e':¬ q.1=k:=λz=>e<|h1.trans z
   have b:valueAt (q::qs) k=valueAt qs k:=by simp[valueAt,ou,e']
   rw[qP e,b];exact ih
theorem KV.any{kvs:Re ?qX}{vs:Re (κ×SL)}(r:KV kvs vs)(k:κ):(kvs.any λkv=>decide<|kv.1=k)=vs.any λkv=>decide<|kv.1=k:=by
 induction r<;>grind
theorem KV.Z6{kvs:Re ?qX}{vs:Re (κ×SL)}(r:KV kvs vs)(k:κ)(ry:RelV y u) :
  KV (kvs.map λkv=>if kv.1=k then(kv.1,y)else kv) (vs.map λkv=>if kv.1=k then(kv.1,u)else kv):=by
 induction r with
 | nil=>exact .nil
 | @cons p q ps qs h t ih =>
  refine .cons ?_ ih
  grind
theorem KV.put{kvs:Re ?qX}{vs:Re (κ×SL)}(r:KV kvs vs)(k:κ)(ry:RelV y u):KV (putK kvs k y) (stored vs k u):=by
 unfold putK stored;rw[r.any k];by_cases e:(vs.any λkv=>decide<|kv.1=k)=true
 ·rw[ar e,ar e];exact r.Z6 k ry
 ·rw[ax e,ax e];exact Paired.snoc r {rfl,ry}
theorem KV.length{kvs:Re ?qX}{vs:Re (κ×SL)}(r:KV kvs vs):kvs.length=vs.length:=Paired.length r
end
theorem lJ{k:Key}(r:RelV (kV k) u):(cj P w).is k u=true:=by
 cases k with
 | inl i=>let{t,e}:=((r));subst e;exact yw P w i t
 | inr x=>let{t,e}:=((r));subst e;exact yv P w x t
theorem u6{P:Tl}{w:TD}:∀{ks:Re Key} {us:Re SL},Vals (ks.map kV) us->ItemsAre (cj P w) ks us
 | [],_,r=>by cases r;exact .nil
 | k::ks,_,r=>by
  cases r with
  | cons h t=>exact .cons (lJ h)<|u6 t
abbrev KT(H:Hp):Re ?qs->Re ?jV->Prop:=Paired λp q=>p.1=q.1/\H q.2.1=some (.tup<|p.1.map kV)/\RelV p.2 q.2.2
theorem KT.val(r:KT H kvs xs)(k:Re Key):SI (lA kvs k) ((atKey xs k).map (·.2)):=by
 induction r with
 | nil=>exact True.intro
 | @cons p q ps qs h t ih =>
  let{h1,_,h2}:=h;by_cases e:p.1=k
  ·have e':=h1.symm.trans e;have b:atKey (q::qs) k=some q.2:=by simp[atKey,ou,e']
   rw[qO e,b];exact h2
  ·have e':¬ q.1=k:=λz=>e<|h1.trans z
   have b:atKey (q::qs) k=atKey qs k:=by simp[atKey,ou,e']
   rw[qP e,b];exact ih
theorem KT.Z6(r:KT H kvs xs)(k:Re Key)(ry:RelV y u) :
  KT H (kvs.map λkv=>if kv.1=k then(kv.1,y)else kv) (xs.map<|putAt k u):=by
 induction r with
 | nil=>exact .nil
 | @cons p q ps qs h t ih =>
  refine .cons ?_ ih;unfold putAt
  grind
theorem KT.put(r:KT H kvs xs)(k:Re Key){b:Tk}(hb:H b=some (.tup<|k.map kV))(ry:RelV y u) :
  KT H (putK kvs k y) (storedH xs k b u):=by
 have e:(kvs.any λkv=>decide<|kv.1=k)=(atKey xs k).isSome:=by
  rw[xK,(r.val k).Q9,Option.isSome_map]
 unfold putK storedH;rw[e];by_cases q:(atKey xs k).isSome=true
 ·rw[ar q,ar q];exact r.Z6 k ry
 ·rw[ax q,ax q];exact Paired.snoc r {rfl,hb,ry}
theorem KT.keeps(r:KT H kvs xs)(ht:∀b ys,H b=some (.tup ys)->H' b=some (.tup ys)):KT H' kvs xs :=
 Paired.zad r λ_ _ z=>{z.1,ht _ _ z.2.1,z.2.2}
section
variable {h:Wp}
theorem JJ{u:HO}(ok:Rr P w H h)(e:Rd H a u):D_ P w H h a u:=e.ok ok
theorem pU{kvs:Re (Key×V)}(ok:Rr P w H h)(e:Rd H a (.dK kvs)):kvs.length<=sizeLine/\?j0=false/\∃vs,KV kvs vs/\h.DictOf (cj P w) a vs :=
 (JJ ok e)
theorem Cd{kvs:Re (Key×V)}(ok:Rr P w H h)(e:H a=some (.dK kvs)):kvs.length<=sizeLine/\?j0=false/\∃vs,KV kvs vs/\h.DictOf (cj P w) a vs:=pU ok<|.inl e
theorem gZ{ks:Re Key}(ok:Rr P w H h)(e:H a=some (.tup<|ks.map kV)):(tupleKind<|cj P w).is h ks a:=by
 let{_,j_,r,{o,h1,h2,n,h3},_}:=((ok a _ e));exact{o,j_.toArray,n,h1,h2,h3,(u6 r)}
theorem lO(ok:Rr P w H h)(e:Rd H a (.dT kvs)):kvs.length<=sizeLine/\?j0=false /\
  ∃xs,KT H kvs xs/\h.DictOfH (tupleKind<|cj P w) a xs:=by
 let{z,y,xs,r,o,es,ep,h1,h2,h3,h4,h5}:=((JJ ok e));refine{z,y,xs,r,o,es,ep,h1,h2,h3,h4,λx hx=>?_,h5};have all:∀{l:Re ?qs} {m:Re ?jV},KT H l m->∀x∈m,(tupleKind<|cj P w).is h x.1 x.2.1:=by
  intro l m q
  induction q with
  | nil=>grind
  | @cons p q ps qs hq t ih =>
   intro x hx;let e||hx:=List.mem_cons.mp hx
   ·exact gZ ok ?Z
   ·exact ih x hx
 exact all r x hx
theorem GE(ok:Rr P w H h)(e:H a=some (.dT kvs)):kvs.length<=sizeLine/\?j0=false /\
  ∃xs,KT H kvs xs/\h.DictOfH (tupleKind<|cj P w) a xs:=lO ok<|.inl e
end
def TJ(H:Hp)(a:Tk)(y:V)(r:SC V):Prop :=
 (∃kvs k,Rd H a (.dK kvs)/\y=kV k/\r=lA kvs k)\/∃kvs k b,Rd H a (.dT kvs)/\y=.ref b/\H b=some (.tup<|k.map kV)/\r=lA kvs k
def RY(H:Hp)(a:Tk)(y v:V)(H':Hp):Prop :=
 (∃kvs k,H a=some (.dK kvs)/\y=kV k/\kvs.length<sizeLine/\H'=upd H a (.dK<|putK kvs k v)) \/
 ∃kvs k b,H a=some (.dT kvs)/\y=.ref b/\H b=some (.tup<|k.map kV)/\kvs.length<sizeLine/\H'=upd H a (.dT<|putK kvs k v)
theorem TJ.k{H:Hp}{a:Tk}{kvs:Re (Key×V)}{k:Key}(e:H a=some (.dK kvs)):TJ H a (kV k) (lA kvs k):=.inl {kvs,k,.inl e,rfl,rfl}
theorem RY.k{H:Hp}{a:Tk}{kvs:Re (Key×V)}{k:Key}{v:V}(e:H a=some (.dK kvs))(hl:kvs.length<sizeLine):RY H a (kV k) v (upd H a<|.dK<|putK kvs k v):=.inl {kvs,k,e,rfl,hl,rfl}
theorem RY.t{b:Tk}{k:Re Key}{v:V}(e:H a=some (.dT kvs))(eb:H b=some (.tup<|k.map kV))(hl:kvs.length<sizeLine) :
  RY H a (.ref b) v (upd H a<|.dT<|putK kvs k v):=.inr {kvs,k,b,e,rfl,eb,hl,rfl}
section
variable {v:V} {r:SL}
theorem Inv.big(I:Inv X pins Z H s):sysModules<s.heap.objs.size:=by
 have h:=(I.mod.glob.keeps I.bk).lt;exact QE ?C h
theorem DH(hu:A.units+1<cLine)(I:Inv X pins Z H s)(g:TJ H a y (some v))(ry:RelV y u)(h:∀w' s',Inv X pins Z H s'->RelV v w'->Q w' s') :
  wpAny ?B A (getItem (.ref a) u) Q E s:=by
 let{kvs,k,e,ey,l}||{kvs,k,b,e,ey,eb,l}:=g
 ·subst ey;let{z,hd,vs,rel,dd}:=pU I.k_ e;let{w',hw,SX}:=SI.some_of   (by rw[l];exact rel.val k);exact wpAny_getItem_of (lJ ry) dd.mapOf hw<|h w' _ ?qz SX
 ·subst ey
  cases ((ry))
  let{z,hd,xs,rel,dd}:=lO I.k_ e;let{w',hw,SX}:=SI.some_of   (by rw[l];exact rel.val k);let{p,hp,hp2}:=Option.map_eq_some_iff.mp hw;refine wpAny_getItem_heap (ur hu) (gZ I.k_ eb) dd hp ?_;rw[hp2];exact h w' _ ?qz SX
theorem Pl(hu:A.units+1<cLine)(I:Inv X pins Z H s)(g:TJ H a y o)(ry:RelV y u)(h:∀s',Inv X pins Z H s'->Q (.bool o.isSome) s') :
  wpAny ?B A (compareOp .In u<|.ref a) Q E s:=by
 let{kvs,k,e,ey,l}||{kvs,k,b,e,ey,eb,l}:=g
 ·subst ey;let{z,hd,vs,rel,dd}:=pU I.k_ e;refine wpAny_in_of (lJ ry) hd dd.mapOf ?_;rw[<-(rel.val k).Q9,<-l];exact h _ ?qz
 ·subst ey
  cases ((ry))
  let{z,hd,xs,rel,dd}:=lO I.k_ e;refine wpAny_in_heap (ur hu) (gZ I.k_ eb) hd dd ?_;have q:=(rel.val k).Q9;rw[Option.isSome_map]at q;rw[<-q,<-l];exact h _ ?qz
theorem IT(hu:A.units+1<cLine)(I:Inv X pins Z H s)(g:TJ H a y o)(ry:RelV y u)(h:∀s',Inv X pins Z H s'->Q (.bool<|!o.isSome) s') :
  wpAny ?B A (compareOp .NotIn u<|.ref a) Q E s:=by
 let{kvs,k,e,ey,l}||{kvs,k,b,e,ey,eb,l}:=g
 ·subst ey;let{z,hd,vs,rel,dd}:=pU I.k_ e;refine wpAny_notIn_of (lJ ry) hd dd.mapOf ?_;rw[<-(rel.val k).Q9,<-l];exact h _ ?qz
 ·subst ey
  cases ((ry))
  let{z,hd,xs,rel,dd}:=lO I.k_ e;refine wpAny_notIn_heap (ur hu) (gZ I.k_ eb) hd dd ?_;have q:=(rel.val k).Q9;rw[Option.isSome_map]at q;rw[<-q,<-l];exact h _ ?qz
theorem nP{h':Wp}{t':Nat}{ob:HO}(I:Inv X pins Z H s)(mu:Mut (H a))(hs:Heap.SameBut a s.heap h')(he:∃q,h'.get? a=some q)(new:D_ X.prog X.w (upd H a ob) h' a ob) :
  Inv X pins Z (upd H a ob) { s with heap:=h',toks:=t' } :=
 I.write   mu (.inl rfl) (λb q hb z=>(hs.2 b hb).trans z) he new
theorem GG{h':Wp}{kvs:Re (Key×V)}{vs:Re (Key×SL)}(z:kvs.length<=sizeLine)(hd:?j0=false)(rel:KV kvs vs)(dd:h'.DictOf (cj P w) a vs) :
  D_ P w H' h' a (.dK kvs):={z,hd,vs,rel,dd}
theorem DG{Q:Unit->SZ->Prop}(hu:A.units+1<cLine)(I:Inv X pins Z H s)(g:RY H a y v H')(ry:RelV y u)(rv:RelV v r)(h:∀s',Inv X pins Z H' s'->Q () s') :
  wpAny ?B A (setItem (.ref a) u r) Q E s:=by
 let{kvs,k,e,ey,l,eH}||{kvs,k,b,e,ey,eb,l,eH}:=g
 ·subst ey eH;let{z,hd,vs,rel,dd}:=Cd I.k_ e;have hz:vs.length<=sizeLine:=by rw[<-rel.length];exact z
  have hl:(putK kvs k v).length<=sizeLine:=by have:=fY kvs k v;lia
  refine wpAny_setItem_pairs  (lJ ry) dd λh' Xs hs=>h _ ?_
  have he:∃q,h'.get? a=some q:=let ⟨q,_,_,hq,_⟩:=Xs;{q,hq}
  exact nP I (by rw[e];exact True.intro) hs he<|GG hl hd (rel.put k rv) Xs
 ·subst ey eH
  cases ((ry))
  let{z,hd,xs,rel,dd}:=GE I.k_ e;have hz:xs.length<=sizeLine:=by rw[<-Paired.length rel];exact z
  have hl:(putK kvs k v).length<=sizeLine:=by have:=fY kvs k v;lia
  refine wpAny_setItem_heap  (ur hu) (gZ I.k_ eb) dd λh' Xs hs=>h _ ?_
  let{q,es,ep,hq,h2,h3,h4,_,h5}:=Xs;refine nP I (by rw[e];exact True.intro) hs {q,hq} {hl,hd,_,(rel.put k eb rv).keeps λc ys ec=>?_,q,es,ep,hq,h2,h3,h4,h5}
  grind
end
section
variable {kvs:Re (Key×V)} {k:Key}
theorem N8(I:Inv X pins Z H s)(e:Rd H a (.dK kvs))(h:∀t s',Inv X pins Z H s'->Q (.int kvs.length t) s'):wpAny ?B A (call (.builtin "len") [.ref a]) Q E s:=by
 let{z,hd,vs,rel,dd}:=pU I.k_ e;refine call_len_dict hd dd (by rw[<-rel.length];rw[sizeLine_eq]at z;lia) ?_;rw[<-rel.length];exact h _ _ ?qz
end
theorem ze(I:Inv X pins Z H s)(g:TJ H a y o):s.TypeIs (.ref a) "dict":=by
 let{kvs,k,e,_,_}||{kvs,k,b,e,_,_,_}:=g
 ·let{_,_,vs,_,dd}:=pU I.k_ e;exact dd.typeIs
 ·let{_,_,xs,_,dd}:=lO I.k_ e;exact dd.typeIs
def JD(td ty tv:TE):TS:=λD Z H=>tv Z H λv H1=>td Z H1 λx H2=>ty Z H2 λy H3=>∃a H4,x=.ref a/\RY H3 a y v H4/\D.nx Z H4
section
variable {o i e value:TW} {pos' O_:Pos} {td ty tv:TE}
theorem Bo(hu:X.A.units+1<cLine)(ho:PE X o td)(hi:PE X i ty)(hv:PE X value tv)(hs:swapsWith value (some<|.Subscript o i pos') pos.line X.env=pure false) :
  PS X (.Assign [.Subscript o i pos'] value pos) (JD td ty tv):=by
 intro pins s Z H D I h;refine wpAny_Assign_Subscript (p_ (hv pins s Z H _ I h) λr s1 ⟨v,H1,I1,rv,q1⟩=>p_ (ho pins s1 Z H1 _ I1 q1) λu s2 ⟨x,H2,I2,rx,q2⟩=>p_ (hi pins s2 Z H2 _ I2 q2) λiv s3 ⟨y,H3,I3,ry,a,H4,ex,g,q3⟩=>?_) hs;subst ex;obtain rfl:u=Value.ref a:=rx;exact DG hu I3 g ry rv λs4 I4=>{Z,H4,I4,q3}
end
theorem zd(h:Wp)(hb:sysModules<h.objs.size):D_ P w H (h.push { cls:=.type "dict",data:=.dict #[] }) h.objs.size (.dK []) :=
 {ai _,beq_eq_false_iff_ne.mpr<|Ne.symm<|bu hb,[],.nil,Heap.DictOf.new h}
theorem sT(h:Wp)(hb:sysModules<h.objs.size):D_ P w H (h.push { cls:=.type "dict",data:=.dict #[] }) h.objs.size (.dT []) :=
 {ai _,beq_eq_false_iff_ne.mpr<|Ne.symm<|bu hb,[],.nil,_,#[],0,QV _ rfl,{rfl,rfl,rfl},rfl,rfl,PY}
def Ks:TE:=λ_ H Q=>∀p,H p=none->Q (.ref p) (upd H p<|.dK [])
def Et:TE:=λ_ H Q=>∀p,H p=none->Q (.ref p) (upd H p<|.dT [])
section
theorem Fj:PE X (.Dict [] [] pos) Ks:=λpins s Z H Q I h =>
 wpAny_Dict_empty {.ref s.heap.objs.size,_,I.laid    ?qS ?jm<|zd s.heap I.big,rfl,h _ ?j2}
theorem yf:PE X (.Dict [] [] pos) Et:=λpins s Z H Q I h =>
 wpAny_Dict_empty {.ref s.heap.objs.size,_,I.laid    ?qS ?jm<|sT s.heap I.big,rfl,h _ ?j2}
end
def Es:Re (TE×TE)->St->Hp->(Re (V×V)->Hp->Prop)->Prop
 | [],_,H,Q=>Q [] H
 | (tk,tv)::r,Z,H,Q=>tk Z H λx H1=>tv Z H1 λy H2=>Es r Z H2 λps H3=>Q ((x,y)::ps) H3
abbrev VV:Re (V×V)->Re (SL×SL)->Prop:=Paired λp q=>RelV p.1 q.1/\RelV p.2 q.2
def PPs(X:Cx)(pos:Pos)(keys:Re (SC TW))(values:Re TW)(trs:Re (TE×TE)):Prop :=
 ∀(pins:C_) (s:SZ) (Z:St) (H:Hp) (Q:Re (V×V)->Hp->Prop),Inv X pins Z H s->Es trs Z H Q ->
  wpAny ?B X.A (evalPairs<|pairTrees keys values X.env pos) (λvs s'=>∃ps H',Inv X pins Z H' s'/\VV ps vs/\Q ps H') X.xe s
theorem HL:PPs X pos [] [] []:=λpins s Z H Q I h=>pairTrees_nil_walk {[],H,I,.nil,h}
theorem E6{k v:TW}{ks:Re (SC TW)}{vs:Re TW}{tk tv:TE}{trs:Re (TE×TE)}(hk:PE X k tk)(hv:PE X v tv)(hr:PPs X pos ks vs trs) :
  PPs X pos (some k::ks) (v::vs) ((tk,tv)::trs):=λpins s Z H Q I h =>
 pairTrees_cons_walk<|p_ (hk pins s Z H _ I h) λu s1 ⟨x,H1,I1,rx,q1⟩=>p_ (hv pins s1 Z H1 _ I1 q1) λw2 s2 ⟨y,H2,I2,ry,q2⟩ =>
  p_ (hr pins s2 Z H2 _ I2 q2) λws s3 ⟨ps,H3,I3,rel,q3⟩=>{(x,y)::ps,H3,I3,.cons {rx,ry} rel,q3}
structure M1(X:Cx)(o:TW)(m:Str)(apos:Pos)(e:TW)(u_:Pos):Prop where
 base:attributeBase o m X.env (eval o X.env)=eval o X.env
 Yx:((backTo u_<|starEach [e] X.env).all (λx=>!x.1)&&(backToKw u_<|keywordEach [] X.env).all (λx=>x.1.isSome)
  && decide (([e]:Re TW).length+([]:Re Keyword).length+(if([]:Re Keyword).isEmpty then 0 else 1)<30))=true
 line:?jQ=true
 trees:backTo u_ (starEach [e] X.env)=[?K]
def IsD(H:Hp)(a:Tk):Prop:=(∃kvs,Rd H a (.dK kvs))\/∃kvs,Rd H a (.dT kvs)
theorem LM(I:Inv X pins Z H s)(d:IsD H a) :
  s.TypeIs (.ref a) "dict" /\ (∀b,Value.ref a=.ref b->∃ob,s.heap.get? b=some ob/\ob.dict=none)/\?j0=false:=by
 let{kvs,e}||{kvs,e}:=d
 ·let{_,hd,vs,_,dd}:=pU I.k_ e;refine{dd.typeIs,λb q=>?_,hd}
  cases q
  let{ob,_,_,h1,h2,_}:=dd;exact{ob,h1,h2.2.1}
 ·let{_,hd,xs,_,dd}:=lO I.k_ e;refine{dd.typeIs,λb q=>?_,hd}
  cases q
  let{ob,_,_,h1,h2,_}:=dd;exact{ob,h1,h2.2.1}
section
variable {d:V} {r:SL}
theorem Mg(hu:A.units+1<cLine)(I:Inv X pins Z H s)(g:TJ H a y o)(ry:RelV y u)(h:∀w' s',Inv X pins Z H s'->RelV (o.getD .QW) w'->Q w' s') :
  wpAny ?B A (call (.builtin "dict.get") [.ref a,u]) Q E s:=by
 let{kvs,k,e,ey,l}||{kvs,k,b,e,ey,eb,l}:=g
 ·subst ey;let{z,hd,vs,rel,dd}:=pU I.k_ e;refine QC Er dd.typeIs PX (PR _ _) (meets_dict_get ?qy a (lJ ry) hd) {_,dd.mapOf,h _ _ ?qz ?_};rw[l];exact(rel.val k).getD rfl
 ·subst ey
  cases ((ry))
  let{z,hd,xs,rel,dd}:=lO I.k_ e;refine QC Er dd.typeIs PX (PR _ _) (meetsH_dict_get (tupleKind ?qy) a b hd) {ur hu,k,xs,gZ I.k_ eb,dd,h _ _ ?qz ?_};rw[l];exact(rel.val k).getD rfl
end
end L2
namespace L4
open PySem PySem.Spec PyProof.Rows L2 PySem.W
def XO(e C:Tk)(dd:SC Tk):Wp->Prop:=λh=>∃oe,h.get? e=some oe/\oe.cls=.ref C/\oe.dict=dd/\PySem.W.notCls oe=true
def XD(dx:Tk)(fs:Re (Str×V)):Wp->Prop:=λh=>∃mA,h.Ns1 dx mA/\PySem.Within mA (fs.map (·.1))/\∀f,SI (fs.lookup f)<|mA f
abbrev bmV:Re SL:=[.type "ValueError",.type "Exception",.type "BaseException",.type "object"]
structure XC(K:Frag)(C D fI:Tk):Prop where
 obj:∃nm q N bs sn sub ab col dd k0 k1 k2 k3 k5,K.lookup C=some (excClassObj nm q C N bs (.ref D::bmV) true sn sub ab col dd k0 k1 k2 k3 k5 "ValueError.__new__")
 tl:tailIn K bmV (.ref D::bmV)=true
 ini:findIn K (.ref C) "__init__"=some (some<|.ref fI)
 fn:typeIn K (.ref fI)=some (.type "function")
 sa:findIn K (.ref C) "__setattr__"=some (some<|.builtin "object.__setattr__")
 ga:findIn K (.ref C) "__getattribute__"=some (some<|.builtin "BaseException.__getattribute__")
 gr:findIn K (.ref C) "__getattr__"=some none
structure KC(K:Frag)(C:Tk):Prop where
 ha:findIn K (.ref C) "__class__"=some (some<|.builtin "object.__class__")
 hn:specialIn K (.builtin "object.__class__") "__get__"=some (some<|.builtin "getset_descriptor.__get__")
 htk:takesIn K (.builtin "object.__class__")=some true
def qQ(T:String):Bool:=T == "bool" || T == "int" || T == "str" || T == "list" || T == "tuple" || T == "dict"
structure XQ(K:Frag)(C:Tk)(x:Str):Prop where
 ns:nsIn K mainGlobals x=some (some<|.ref C)
 xc:∃D fI,XC K C D fI
 kc:KC K C
 no:∀T,qQ T=true->kitOne K (.ref C) (.type T)=some false
def FX(F:Hp)(dd:SC Tk)(fv:Re (Str×V)):Prop:=(dd=none/\fv=[])\/∃dx,dd=some dx/\F dx=some (.ext<|XD dx fv)
theorem FX.mono{F F':Hp}{dd:SC Tk}{fv:Re (Str×V)}(e:c_ F F')(h:FX F dd fv):FX F' dd fv:=h.imp id λ⟨dx,h1,h2⟩=>{dx,h1,e _ _ h2}
end L4
namespace L3
open PySem PySem.Spec PyProof.Rows L2
variable {F H F':Hp}{v:V}{vs:Re V}{a p:Tk}{o:HO}{Z:L2.St}
abbrev D:=PyData
abbrev Fg:=PySem.W.Frag
def s_:Key->D
 | .inl i=>.int i
 | .inr x=>.str x
def dc(k:Re Key):D:=.tuple<|k.map s_
mutual
inductive Rep(K:Fg)(F:Hp):V->D->Prop
 | QW:Rep K F .QW .none
 | bl (b):Rep K F (.bl b) (.bool b)
 | int (i):Rep K F (.int i) (.int i)
 | str (x):Rep K F (.str x) (.str x)
 | tup {a vs ds}:F a=some (.tup vs)->i_ K F vs ds->Rep K F (.ref a) (.tuple ds)
 | lst {a vs ds}:QO K F a vs->i_ K F vs ds->Rep K F (.ref a) (.list ds)
 | UJ {a ob kvs es}:F a=some (.Q3 ob<|.dT kvs)->es.map (·.1)=kvs.map (λp=>dc p.1)->i_ K F (kvs.map (·.2)) (es.map (·.2))->Rep K F (.ref a) (.dict es)
 | Yz {a kvs es}:F a=some (.dK kvs)->es.map (·.1)=kvs.map (λp=>s_ p.1)->i_ K F (kvs.map (·.2)) (es.map (·.2))->Rep K F (.ref a) (.dict es)
 | exc {a C dd cl fv es}:F a=some (.ext<|L4.XO a C dd)->L4.XQ K C cl->L4.FX F dd fv->es.map (·.1)=fv.map (λp=>.str p.1)->i_ K F (fv.map (·.2)) (es.map (·.2))->Rep K F (.ref a) (.dict<|(.none,.str cl)::es)
 | fn {a f}:PySem.W.nsIn K mainGlobals f=some (some<|.ref a)->Rep K F (.ref a) (.dict [(.bool true,.str f)])
inductive i_(K:Fg)(F:Hp):Re V->Re D->Prop
 | nil:i_ K F [] []
 | cons {v d vs ds}:Rep K F v d->i_ K F vs ds->i_ K F (v::vs) (d::ds)
end
theorem bK{K:Fg}{xs:Re V}(e:c_ F F')(h:B_ K F a xs):B_ K F' a xs:=by
 rcases h with (h|⟨o,h⟩)|h
 ·exact .inl<|.inl<|e _ _ h
 ·exact .inl<|.inr {o,e _ _ h}
 ·exact .inr h
@[grind →] theorem Rep.mono{K:Fg}(e:c_ F F'){d:D}(h:Rep K F v d):Rep K F' v d :=
 Rep.rec   .QW .bl .int .str (λh _ r=>.tup (e _ _ h) r) (λh _ r=>.lst (e.seq h) r) (λh k _ r=>.UJ (e _ _ h) k r) (λh k _ r=>.Yz (e _ _ h) k r) (λh q f k _ r=>.exc (e _ _ h) q (f.mono e) k r) (λh=>.fn h) .nil (λ_ _ a b=>.cons a b) h
@[grind →] theorem i_.mono{K:Fg}(e:c_ F F'){ds:Re D}(h:i_ K F vs ds):i_ K F' vs ds:=by
 induction vs generalizing ds with
 | nil=>cases h;exact .nil
 | cons v vs ih=>cases h with
  | cons a b=>exact .cons (a.mono e)<|ih b
def OG(K:Fg)(F:Hp):D->V->Prop
 | .none,v=>v=.QW
 | .bool b,v=>v=.bl b
 | .int i,v=>v=.int i
 | .str x,v=>v=.str x
 | .tuple ds,v=>∃a vs,v=.ref a/\F a=some (.tup vs)/\i_ K F vs ds
 | .list ds,v=>∃a vs,v=.ref a/\QO K F a vs/\i_ K F vs ds
 | _,_=>True
theorem Rep.inv{K:Fg}{d:D}(h:Rep K F v d):OG K F d v :=
 Rep.casesOn  h rfl ?R ?R ?R (λh r=>{_,_,rfl,h,r}) (λh r=>{_,_,rfl,h,r}) (λ_ _ _=>True.intro) (λ_ _ _=>True.intro) (λ_ _ _ _ _=>True.intro) λ_=>True.intro
theorem Rep.int_inv{K:Fg}{i:Int}(h:Rep K F v (.int i)):v=.int i:=h.inv
theorem Rep.bool_inv{K:Fg}{i:Bool}(h:Rep K F v (.bool i)):v=.bl i:=h.inv
theorem Rep.str_inv{K:Fg}{i:Str}(h:Rep K F v (.str i)):v=.str i:=h.inv
theorem Rep.QX{K:Fg}{ds:Re D}(h:Rep K F v (.tuple ds)):∃a vs,v=.ref a/\F a=some (.tup vs)/\i_ K F vs ds:=h.inv
theorem Rep.lst_inv{K:Fg}{ds:Re D}(h:Rep K F v (.list ds)):∃a vs,v=.ref a/\QO K F a vs/\i_ K F vs ds:=h.inv
def Nb(K:Fg)(F:Hp):Re D->Re V->Prop
 | [],vs=>vs=[]
 | d::ds,vs=>∃v us,vs=v::us/\Rep K F v d/\i_ K F us ds
theorem i_.inv{K:Fg}{ds:Re D}(h:i_ K F vs ds):Nb K F ds vs :=
 i_.casesOn  h rfl λa b=>{_,_,rfl,a,b}
theorem i_.Te{K:Fg}{d:D}(h:i_ K F vs [d]):∃v,vs=[v]/\Rep K F v d:=by
 let{v,us,rfl,a,b}:=(h.inv);obtain rfl:us=[]:=b.inv;exact{v,rfl,a}
theorem i_.Ww{K:Fg}{d e:D}(h:i_ K F vs [d,e]):∃v u,vs=[v,u]/\Rep K F v d/\Rep K F u e:=by
 let{v,us,rfl,a,b}:=(h.inv);let{u,rfl,c}:=b.Te
 grind
theorem i_.length{K:Fg}:∀{vs ds},i_ K F vs ds->vs.length=ds.length
 | _,_,.nil=>rfl
 | _,_,.cons _ r=>by simp[i_.length r]
theorem i_.get{K:Fg}:∀{vs ds} {i:Nat} {d:D},i_ K F vs ds->ds[i]? = some d->∃v,vs[i]? = some v/\Rep K F v d
 | _,_,_,_,.nil,e=>by simp at e
 | _,_,0,_,.cons h _,e=>by grind
 | _,_,i+1,d,.cons _ r,e=>by
  let{v,h1,h2}:=i_.get   r<|(e)
  grind
theorem i_.append{K:Fg}{ds:Re D}{us:Re V}{es:Re D}(h:i_ K F vs ds)(s:i_ K F us es):i_ K F (vs++us) (ds++es):=by
 induction vs generalizing ds with
 | nil=>cases h;exact s
 | cons v vs ih=>cases h with
  | cons a b=>exact .cons a<|ih b
theorem i_.take{K:Fg}:∀{vs ds} (n:Nat),i_ K F vs ds->i_ K F (vs.take n) (ds.take n)
 | _,_,0,_=>.nil
 | _,_,_+1,.nil=>.nil
 | _,_,n+1,.cons h r=>.cons h<|i_.take n r
theorem i_.drop{K:Fg}:∀{vs ds} (n:Nat),i_ K F vs ds->i_ K F (vs.drop n) (ds.drop n)
 | _,_,0,r=>r
 | _,_,_+1,.nil=>.nil
 | _,_,n+1,.cons _ r=>i_.drop n r
theorem i_.set{K:Fg}{d:D}(h:Rep K F v d):∀{vs ds} (i:Nat),i_ K F vs ds->i_ K F (vs.set i v) (ds.set i d)
 | _,_,_,.nil=>.nil
 | _,_,0,.cons _ r=>.cons h r
 | _,_,i+1,.cons q r=>.cons q<|i_.set h i r
theorem i_.ints{K:Fg}:∀(ns:Re Int),i_ K F ?jM ?jb
 | []=>.nil
 | n::r=>.cons (.int n)<|i_.ints r
section
variable {X:Cx} {pins:C_} {s:SZ}
theorem uO{u:Re SL}(r:Vals [] u):∃as,ReadsAll s.heap u [] as:=by cases r;exact{_,.nil}
theorem rj{d:D}{ds:Re D}(h:d.canLay0=true->∀{u},RelV v u->∃as,Reads s.heap u d as)(t:PyData.canLayAll0 ds=true->∀{us},Vals vs us->∃as,ReadsAll s.heap us ds as)(c:PyData.canLayAll0 (d::ds)=true){us:Re SL}(r:Vals (v::vs) us):∃as,ReadsAll s.heap us (d::ds) as:=by
 simp  [PyData.canLayAll0,am]at c
 cases r with
 | cons r rr =>
  let{as,ra}:=h c.1 r;let{bs,rb}:=t c.2 rr;exact{_,.cons ra rb}
theorem CV(I:Inv X pins Z H s){ds:Re D}(hq:H a=some (.tup vs))(ih:PyData.canLayAll0 ds=true->∀{us},Vals vs us->∃as,ReadsAll s.heap us ds as)(c:(PyData.tuple ds).canLay0=true){u:SL}(r:RelV (.ref a) u):∃as,Reads s.heap u (.tuple ds) as:=by
 cases r
 let{j_,rv,{o,e1,e2,n',e3},hz}:=I.tuple<|B_.of hq;let{as,ra}:=ih (by simpa[PyData.canLay0]using c) rv;exact{_,.tuple e1 e2 e3<|(ra)}
theorem CW(I:Inv X pins Z H s){ds:Re D}(hq:QO X.K H a vs)(ih:PyData.canLayAll0 ds=true->∀{us},Vals vs us->∃as,ReadsAll s.heap us ds as)(c:(PyData.list ds).canLay0=true){u:SL}(r:RelV (.ref a) u):∃as,Reads s.heap u (.list ds) as:=by
 cases r
 let{j_,rv,{o,n',e1,e2,e3,e4},hz}:=I.list hq;let{as,ra}:=ih (by simpa[PyData.canLay0]using c) rv;exact{_,.list e1 e2 e4<|(ra)}
theorem kS{es:Re ?N}{P:Prop}(c:(PyData.dict es).canLay0=true):P:=by simp[PyData.canLay0]at c
theorem EV(I:Inv X pins Z H s){d:D}(h:Rep X.K H v d):d.canLay0=true->∀{u},RelV v u->∃as,Reads s.heap u d as :=
 Rep.rec
  (λ_ {_} r=>by cases r;exact{_,.none}) (λb _ {_} r=>by cases r;exact{_,.bool b}) (λi _ {_} r=>by let{t,rfl}:=r;exact{_,.int i t}) (λx _ {_} r=>by let{t,rfl}:=r;exact{_,.str x t})
  (λhq _ ih=>CV I hq ih) (λhq _ ih=>CW I hq ih) (λ_ _ _ _ c=>kS c) (λ_ _ _ _ c=>kS c) (λ_ _ _ _ _ _ c=>kS c) (λ_ c=>kS c)
  (λ_ {_} r=>uO r) (λ_ _ a b=>rj a b) h
theorem KM(I:Inv X pins Z H s){ds:Re D}(h:i_ X.K H vs ds):PyData.canLayAll0 ds=true->∀{us},Vals vs us->∃as,ReadsAll s.heap us ds as:=by
 induction vs generalizing ds with
 | nil=>cases h;exact λ_ _ r=>uO r
 | cons v vs ih=>cases h with
  | cons a b=>exact rj (EV I a)<|ih b
end
theorem cD{X:Cx}{pins:C_}{s:SZ}(I:Inv X pins Z H s) :
  (∀{v d},Rep X.K H v d->d.canLay0=true->∀{u},RelV v u->∃as,Reads s.heap u d as)/\(∀{vs ds},i_ X.K H vs ds->PyData.canLayAll0 ds=true->∀{us},Vals vs us->∃as,ReadsAll s.heap us ds as) :=
 {λ{v d} h c {u} r=>EV I h c r,λ{vs ds} h c {us} r=>KM I h c r}
def mB:Re ?N->Bool
 | (.none,_)::_=>true
 | (.bool _,_)::_=>true
 | _=>false
def isFn:D->Bool
 | .dict ((.bool _,_)::_)=>true
 | _=>false
inductive NK where
 | b (b:Bool)
 | t (p:Int) (rs:Re (Re Int))
deriving DecidableEq
def Kp(l:Re Int):Int:=PySem.reduceHash<|PySem.Builtin.Tuple.tupleHashOf l
def NK.hash:NK->Int
 | .b x=>PySem.hashInt<|if x then 1 else 0
 | .t p rs=>Kp [PySem.hashInt p,Kp (rs.map λr=>Kp<|r.map PySem.hashInt)]
def WL(F:Hp):NK->SL->Prop
 | .b b,v=>v=.bool b
 | .t p rs,v=>∃c e bs,v=.ref c/\F c=some (.tup [.int p,.ref e])/\F e=some (.tup<|bs.map V.ref)/\Paired (λr b=>F b=some (.tup<|r.map V.int)) rs bs
theorem WL.mono{n:NK}{v:SL}(s:c_ F F')(h:WL F n v):WL F' n v:=by
 cases n with
 | b b=>exact h
 | t p rs=>let{c,e,bs,h1,h2,h3,h4}:=h;exact{c,e,bs,h1,s _ _ h2,s _ _ h3,Paired.zad h4 λr b q=>s _ _ q}
def nkE(x:NK×SL×SL):DictEntry:={x.1.hash,x.2.1,x.2.2}
def Pt(a:Tk)(o:Obj)(xs:Re (NK×SL×SL)):Prop:=?j0=false/\o.ExactDict/\(∃es ep,o.data=.dict es ep/\es.toList=xs.map nkE)/\(xs.map (·.1)).Nodup/\xs.length<=sizeLine/\∀(i:Nat) x,xs[i]? = some x->∃t,x.2.2=.int i t
inductive OC where
 | l (ds:Re D)
 | t (es:Re (D×D))
 | k (es:Re (D×D))
 | i (x:Str) (ns:Re Str) (ds:Re D)
 | n (ns:Re NK)
def OC.VG:OC->Bool
 | .t _=>true
 | _=>false
def OC.isI:OC->Bool
 | .i _ _ _=>true
 | .n _=>true
 | _=>false
inductive AV where
 | fz (d:D)
 | ol (c:OC)
 | op (c:OC)
abbrev En:=Re<|SC AV
inductive RV where
 | fz (d:D)
 | fr (c:OC)
 | bor (i:Nat)
def D8:HO->Prop
 | .tup _=>False
 | .ext _=>False
 | _=>True
structure Gh where
 P:Nat->SC Tk
 O:Hp
 B:Hp
def Ra(K:Fg)(F H:Hp)(a:Tk):OC->Prop
 | .l ds=>∃vs,H a=some (.lst vs)/\i_ K F vs ds
 | .t es=>∃kvs,H a=some (.dT kvs)/\es.map (·.1)=kvs.map ?qn/\i_ K F (kvs.map (·.2)) (es.map (·.2))
 | .k es=>∃kvs,H a=some (.dK kvs)/\es.map (·.1)=kvs.map (λp=>s_ p.1)/\i_ K F (kvs.map (·.2)) (es.map (·.2))
 | .i x ns ds=>∃C dx fs,H a=some (.ins C dx fs)/\PySem.W.nsIn K mainGlobals x=some (some<|.ref C)/\fs.map (·.1)=ns/\i_ K F (fs.map (·.2)) ds
 | .n ns=>∃o xs,H a=some (.obj o)/\Pt a o xs/\xs.map (·.1)=ns/\∀x∈xs,WL F x.1 x.2.1
@[grind] structure WK(K:Fg)(G:Gh)(F H:Hp)(a:Tk)(c:OC):Prop where
 nf:F a=none
 no:G.O a=none
 he:Ra K F H a c
@[grind] def own(ρ:En)(i:Nat)(c:OC):Prop:=ρ[i]? = some (some<|.ol c)\/ρ[i]? = some (some<|.op c)
@[grind] structure b_(K:Fg)(G:Gh)(F:Hp)(Z:L2.St)(H:Hp)(ρ:En):Prop where
 fh:c_ F H
 oh:c_ G.O H
 fo:∀b o,G.O b=some o->F b=none/\D8 o
 ln:Z.length=ρ.length
 fz:∀(i:Nat) (d:D),ρ[i]? = some (some<|AV.fz d)->∃v,Z[i]? = some (some v)/\Rep K F v d
 ow:∀(i:Nat) (c:OC),own ρ i c->∃a:Tk,Z[i]? = some (some ?qA)/\WK K G F H a c
 dj:∀(i j:Nat) (c e:OC) (a:Tk),own ρ i c->own ρ j e->Z[i]? = some (some ?qA)->Z[j]? = some (some ?qA)->i=j
 pp:∀(i:Nat) (a:Tk),G.P i=some a->Z[i]? = some (some ?qA)/\∃c,ρ[i]? = some (some<|AV.op c)
 pq:∀(i:Nat) (c:OC),ρ[i]? = some (some<|AV.op c)->∃a,G.P i=some a
 fb:c_ G.B F
def RVR(K:Fg)(G:Gh)(F:Hp)(Z:L2.St)(H:Hp)(ρ:En)(v:V):RV->Prop
 | .fz d=>Rep K F v d
 | .fr c=>∃a,v=.ref a/\WK K G F H a c/\∀(i:Nat) (e:OC),own ρ i e->Z[i]? ≠ some (some ?qA)
 | .bor i=>∃c,own ρ i c/\Z[i]? = some (some v)
@[grind →] theorem Ra.mono{K:Fg}{c:OC}(e:c_ F F')(h:Ra K F H a c):Ra K F' H a c:=by
 cases c with
 | l ds=>let{vs,h1,h2}:=h;exact{vs,h1,h2.mono e}
 | t es=>let{vs,h1,h2,h3}:=h;exact{vs,h1,h2,h3.mono e}
 | k es=>let{vs,h1,h2,h3}:=h;exact{vs,h1,h2,h3.mono e}
 | i x ns ds=>let{C,dx,fs,h1,h2,h3,h4}:=h;exact{C,dx,fs,h1,h2,h3,h4.mono e}
 | n ns=>let{o,xs,h1,h2,h3,h4}:=h;exact{o,xs,h1,h2,h3,λx m=>(h4 x m).mono e}
@[grind →] theorem Ra.some{K:Fg}{c:OC}(h:Ra K F H a c):∃o,H a=some o:=by
 cases c with
 | l ds=>let{vs,h1,h2}:=h;exact{_,h1}
 | t es=>let{vs,h1,h2}:=h;exact{_,h1}
 | k es=>let{vs,h1,h2}:=h;exact{_,h1}
 | i x ns ds=>let{C,dx,fs,h1,_}:=h;exact{_,h1}
 | n ns=>let{o,xs,h1,_}:=h;exact{_,h1}
theorem Ra.at{K:Fg}{H':Hp}{c:OC}(h:Ra K F H a c)(e:H' a=H a):Ra K F H' a c:=by
 cases c with
 | l ds=>let{vs,h1,h2}:=h;exact{vs,e.trans h1,h2}
 | t es=>let{vs,h1,h2}:=h;exact{vs,e.trans h1,h2}
 | k es=>let{vs,h1,h2}:=h;exact{vs,e.trans h1,h2}
 | i x ns ds=>let{C,dx,fs,h1,h2}:=h;exact{C,dx,fs,e.trans h1,h2}
 | n ns=>let{o,xs,h1,h2}:=h;exact{o,xs,e.trans h1,h2}
theorem cx(h:F p=none):c_ F (upd F p o):=λb u e=>by
 rw[aQ<|bp e h];exact e
theorem gN(s:c_ F H)(h:F p=none):c_ F (upd H p o):=λb u e=>by
 rw[aQ<|bp e h];exact s b u e
section
variable {K:Fg} {G:Gh} {ρ:En}
theorem b_.lay(S:b_ K G F Z H ρ)(hp:H p=none):b_ K G F Z (upd H p o) ρ:=by
 have fp:=S.fh.free hp;have op:=S.oh.free hp;refine{gN S.fh fp,gN S.oh op,S.fo,S.ln,S.fz,λi c h=>?_,S.dj,S.pp,S.pq,S.fb};let{a,e,oa}:=S.ow i c h;refine{a,e,oa.nf,oa.no,oa.he.at ?_}
 grind
theorem b_.fresh_ne(S:b_ K G F Z H ρ)(hp:H p=none):∀(i:Nat) (e:OC),own ρ i e->Z[i]? ≠ some (some<|V.ref p):=λi e h q=>by
 let{a,e1,oa}:=S.ow i e h;rw[e1]at q;injection q with q;injection q with q;injection q with q;subst q;let{u,hu}:=oa.he.some;rw[hp]at hu;cases hu
theorem b_.freeze(S:b_ K G F Z H ρ)(ha:H a=some o)(fa:F a=none)(oa:G.O a=none)(ne:∀(i:Nat) (e:OC),own ρ i e->Z[i]? ≠ some (some ?qA)):b_ K G (upd F a o) Z H ρ:=by
 have sm:c_ F (upd F a o):=cx fa;refine{λb u e=>?_,S.oh,λb u e=>?_,S.ln,λi d h=>?_,λi c h=>?_,S.dj,S.pp,S.pq,S.fb.trans sm}
 ·grind
 ·grind
 ·grind
 grind
theorem b_.Rv(S:b_ K G F Z H ρ){ds:Re D}(hp:H p=none)(r:i_ K F vs ds) :
  c_ F (upd F p<|.tup vs)/\b_ K G (upd F p<|.tup vs) Z (upd H p<|.tup vs) ρ/\Rep K (upd F p<|.tup vs) (.ref p) (.tuple ds):=by
 have fp:=S.fh.free hp;refine{cx fp,(S.lay hp).freeze aN fp (S.oh.free hp)<|S.fresh_ne hp,?_};exact .tup aN<|r.mono<|cx fp
theorem b_.P_(S:b_ K G F Z H ρ){ds:Re D}(hp:H p=none)(r:i_ K F vs ds) :
  b_ K G F Z (upd H p<|.lst vs) ρ/\RVR K G F Z (upd H p<|.lst vs) ρ (.ref p) (.fr<|.l ds) :=
 {S.lay hp,p,rfl,{S.fh.free hp,S.oh.free hp,vs,aN,r},S.fresh_ne hp}
theorem b_.settle(S:b_ K G F Z H ρ){ds:Re D}(r:RVR K G F Z H ρ v (.fr<|.l ds)) :
  ∃F',c_ F F'/\b_ K G F' Z H ρ/\Rep K F' v (.list ds):=by
 let{a,rfl,oa,ne}:=r;let{vs,h1,h2}:=oa.he;exact{upd F a<|.lst vs,cx oa.nf,S.freeze h1 oa.nf oa.no ne,.lst (.inl<|.inl aN)<|h2.mono<|cx oa.nf}
theorem qj{α:Type}(l:Re α)(i:Nat)(x y:α)(h:l[i]? = some y):(l.set i x)[i]? = some x:=by
 rw[di (List.getElem?_eq_some_iff.mp h).1]
def OC.d:OC->D
 | .l ds=>.list ds
 | .t es=>.dict es
 | .k es=>.dict es
 | .i _ _ _=>.none
 | .n _=>.none
theorem BS{c:OC}(hI:c.isI=false)(hT:c.VG=false)(h:Ra K F H a c):∃o,H a=some o/\∀F',c_ F F'->F' a=some o->Rep K F' (.ref a) c.d:=by
 cases c with
 | l ds=>let{vs,h1,h2}:=h;exact{_,h1,λF' s e=>.lst (.inl<|.inl e)<|h2.mono s}
 | t es=>cases hT
 | k es=>let{vs,h1,h2,h3}:=h;exact{_,h1,λF' s e=>.Yz e h2<|h3.mono s}
 | i x ns ds=>cases hI
 | n ns=>cases hI
theorem b_.YS(S:b_ K G F Z H ρ){i:Nat}{oc:OC}(hI:oc.isI=false)(hT:oc.VG=false)(hi:ρ[i]? = some (some<|.ol oc))(hv:Z[i]? = some (some v)) :
  ∃F',c_ F F'/\b_ K G F' Z H (ρ.set i<|some<|.fz oc.d)/\Rep K F' v oc.d/\∀b,v=.ref b->F' b=H b:=by
 let{a,e,oa}:=S.ow i _<|.inl hi;rw[hv]at e;injection e with e;injection e with e;subst e;let{vo,h1,zbv}:=BS hI hT oa.he;have sm:c_ F (upd F a vo):=cx oa.nf;have rp:=zbv _ sm aN;have ne:∀j,j≠i->(ρ.set i<|some<|.fz oc.d)[j]? = ρ[j]?:=λj hj=>be<|Ne.symm hj
 have zbG:(ρ.set i<|some<|.fz oc.d)[i]? = some (some<|.fz oc.d):=qj _ _ _ _ hi;have zaa:∀j c,own (ρ.set i<|some<|.fz oc.d) j c->j≠i/\own ρ j c:=λj c h=>by
  have hj:j≠i:=by
   rintro rfl;let h||h:=h<;>(rw[zbG]at h;cases h)
  refine{hj,?_};let h||h:=h
  ·exact .inl (by rw[<-ne j hj];exact h)
  ·exact .inr (by rw[<-ne j hj];exact h)
 refine{upd F a vo,sm,{λb u e=>?_,S.oh,λb u e=>?_,by simpa using S.ln,λj d h=>?_,λj c h=>?_,λj k c e b h1 h2=>S.dj j k c e b (zaa j c h1).2 (zaa k e h2).2,λj b h=>?_,λj c h=>?_,S.fb.trans sm},rp,λb e=>by cases e;rw[aN,h1]}
 ·grind
 ·grind
 ·grind
 ·let{hj,h'}:=zaa j c h;let{b,e,ob}:=S.ow j c h';refine{b,e,?_,ob.no,ob.he.mono sm};rw[aQ (λz=>hj (S.dj j i _ _ a h' (.inl hi) (by rw[e,z]) hv))];exact ob.nf
 ·grind
 grind
theorem b_.YT(S:b_ K G F Z H ρ){i:Nat}{oc:OC}(hI:oc.isI=false)(hT:oc.VG=false)(hi:ρ[i]? = some (some<|.ol oc))(hv:Z[i]? = some (some v)) :
  ∃F',c_ F F'/\b_ K G F' Z H (ρ.set i<|some<|.fz oc.d)/\Rep K F' v oc.d:=let ⟨F',a,b,c,_⟩:=S.YS hI hT hi hv;{F',a,b,c}
theorem b_.store(S:b_ K G F Z H ρ){j:Nat}{av:AV}(hj:∀c,ρ[j]? ≠ some (some<|.op c))(hl:j<ρ.length)
  (h:(∃d,av=.fz d/\Rep K F v d)\/∃c,av=.ol c/\RVR K G F Z H ρ v (.fr c)):b_ K G F (Z.set j<|some v) H (ρ.set j<|some av):=by
 have hls:j<Z.length:=by rw[S.ln];exact hl
 have ne:∀i,i≠j->(ρ.set j<|some av)[i]? = ρ[i]?:=λi hi=>be<|Ne.symm hi
 have nes:∀i,i≠j->(Z.set j<|some v)[i]? = Z[i]?:=λi hi=>be<|Ne.symm hi
 have atj:(ρ.set j<|some av)[j]? = some (some av):=di hl;have zbN:(Z.set j<|some v)[j]? = some (some v):=di hls;have WU:∀i c,i≠j->own (ρ.set j<|some av) i c->own ρ i c:=λi c hi h=>by
  unfold own at h ⊢;rw[ne i hi]at h;exact h
 refine{S.fh,S.oh,S.fo,by simpa using S.ln,λi d q=>?_,λi c q=>?_,λi k c e a q1 q2 e1 e2=>?_,λi a q=>?_,λi c q=>?_,S.fb}
 ·grind
 ·by_cases hi:i=j
  ·let{d',rfl,r}||{c',rfl,a,rfl,oa,_}:=h
   ·grind
   grind
  grind
 ·by_cases hi:i=j
  ·by_cases hk:k=j
   ·rw[hi,hk]
   ·subst hi;let{d',rfl,r}||{c',rfl,a',e,oa,nn}:=h
    ·grind
    grind
  ·by_cases hk:k=j
   ·subst hk;let{d',rfl,r}||{c',rfl,a',e,oa,nn}:=h
    ·grind
    grind
   grind
 ·grind
 grind
theorem b_.change(S:b_ K G F Z H ρ){j:Nat}{c c':OC}(hj:own ρ j c)(ha:Z[j]? = some (some<|.ref a))(hh:Ra K F (upd H a o) a c') :
  b_ K G F Z (upd H a o) (ρ.set j<|(ρ[j]?.join).map fun | .op _=>.op c'|_=>.ol c'):=by
 let{b,e,ob}:=S.ow j c hj;rw[ha]at e;injection e with e;injection e with e;injection e with e;subst e;generalize hav:((ρ[j]?.join).map λ(x)=>match x with | .op _=>AV.op c'|_=>AV.ol c')=av;have ne:∀i,i≠j->(ρ.set j av)[i]? = ρ[i]?:=λi hi=>be<|Ne.symm hi
 have WU:∀i e,i≠j->own (ρ.set j av) i e->own ρ i e:=λi c hi h=>by
  unfold own at h ⊢;rw[ne i hi]at h;exact h
 refine{gN S.fh ob.nf,gN S.oh ob.no,S.fo,by simpa using S.ln,λi d q=>?_,λi e q=>?_,λi k c1 e1 b q1 q2=>?_,λi b q=>?_,λi e q=>?_,S.fb}
 ·grind
 ·by_cases hi:i=j
  ·grind
  ·have q':=WU i e hi q;let{b',e',Y2}:=S.ow i e q';refine{b',e',Y2.nf,Y2.no,Y2.he.at (aQ λz=>hi (S.dj i j _ _ a q' hj (by rw[e',z]) ha))}
 ·grind
 ·grind
 grind
end
end L3
namespace L4
open PySem PySem.Spec PyProof.Rows L2 L3
variable {s:SZ}{e C:Tk}{Q:Unit->SZ->Prop}{H:Hp}{A:UV}{base:Wp}{outer:Re Env}{dd:SC Tk}{P:Tl}{w:TD}
def lD(h:Wp)(e b:Tk):Prop:=∃oe vs,h.get? e=some oe/\oe.data=.fields vs/\vs[1]? = some (.ref b)
structure Ent(fs:Re Tk)(h h':Wp)(e T:Tk)(oe:Obj)(ts:UF SL):Prop where
 keep:∀b o,h.get? b=some o->b∉fs->b≠e->h'.get? b=some o
 slot:∀b o,h.get? b=some o->b≠e->∃sl,h'.get? b=some { o with slots:=sl }
 new:h.objs.size<=T
 exc:h'.get? e=some (oe.mapFields (·.setIfInBounds 1<|.ref T))
 way:∃oT,h'.get? T=some oT/\oT.data=.fields ts
section
variable {M:Model} {E:w_} {env:Env} {L:Tk} {oe:Obj} {vs:UF SL}
theorem sR{top:SL}{nx:Bool}(hA:A.frames=some (env::outer))(hF:s.heap.FunFrames base (env::outer))(hL:env.frame=some L)
  (he:s.heap.get? e=some oe) (hd:oe.data=.fields vs) (hz:1<vs.size)
  (k:∀h' T ts,Ent (TN<|env::outer) s.heap h' e T oe ts->3<ts.size->ts[3]? = some (rawInt L)->Q () { s with heap:=h' }) :
  wpAny M A (do let a <-frameOf env;let pl <-entryPlaceOf L nx;let b <-EntryCells.newEntry top a .none (rawInt L) .none pl;setField (.ref e) 1 b) Q E s:=by
 have ne:e∉TN (env::outer):=λz=>by
  let{_,o,q,r}:=hF.mem z
  grind
 refine h_<|wpAny_frameOf_fun hA hF hL λh1 so=>h_<|wpAny_entryPlaceOf λpl ip=>?_;refine h_<|gu ?_<|ip.sizeOk5 _ _ _ _ _;generalize hts:([top,.ref L,.none,rawInt L,.none]++(if pl.isEmpty then List.replicate 6 Value.none else pl)).toArray=ts;have z3:3<ts.size:=by
  grind
 have g3:ts[3]? = some (rawInt L):=by rw[<-hts];simp
 generalize htb:({ cls:=.type "traceback",dict:=none,data:=.fields ts }:Obj)=tb;have fr:tb.isFreed=false:=by rw[<-htb];rfl
 have e1:h1.get? e=some oe:=by rw[so.2.1 e ne];exact he
 have lt:=aw e1;refine wP (z_ tb e1) hd hz ?_;have hd':=ig hd (·.setIfInBounds 1<|Value.ref h1.objs.size);have up:∀b,b≠e->((h1.push tb).update e (Obj.mapFields (·.setIfInBounds 1<|.ref h1.objs.size))).get? b=(h1.push tb).get? b:=λb hb=>ug _ _<|Ne.symm hb
 refine k _ h1.objs.size ts {λb o q nf nb=>?_,λb o q nb=>?_,by rw[so.1];exact ac _,?_,{tb,?_,?_}} z3 g3
 ·exact(up b nb).trans<|z_ _<|(so.2.1 b nf).trans q
 ·let{sl,q'}:=so.2.2 b o q;exact{sl,(up b nb).trans<|z_ _ q'}
 ·exact su _ (z_ tb e1)<|wS hd'
 ·exact(up _<|ny lt).trans<|QV h1 fr
 ·rw[<-htb]
end
structure XS(H:Hp)(h:Wp)(lo:Nat)(e C:Tk)(dd:SC Tk):Prop where
 yg:lo<=e
 VE:H e=some (.ext<|XO e C dd)
 obj:∃oe vs,h.get? e=some oe/\oe.cls=.ref C/\oe.dict=dd/\oe.data=.fields vs/\1<vs.size /\
  (vs[1]? = some .none\/∃T oT ts,vs[1]? = some (.ref T)/\T≠e/\lo<=T/\H T=none/\h.get? T=some oT/\oT.data=.fields ts/\ts[3]? = some .none)
structure Mv(fs:Re Tk)(h h':Wp)(e:Tk):Prop where
 keep:∀b o,h.get? b=some o->b∉fs->b≠e->¬ lD h e b->h'.get? b=some o
 slot:∀b o,h.get? b=some o->b≠e->¬ lD h e b->∃sl,h'.get? b=some { o with slots:=sl }
 there:∀b o,h.get? b=some o->∃o',h'.get? b=some o'
theorem Ce(f:UF SL->UF SL)(o:Obj):(o.mapFields f).dict=o.dict:=by
 let{c,d,dt,sl}:=o
 cases dt<;>rfl
section
variable {M:Model} {E:w_} {env:Env} {L:Tk} {lo:Nat}
theorem sL{oe:Obj}{vs:UF SL}{h0:Wp}{T:Tk}{ts:UF SL}(en:Ent (TN<|env::outer) h0 s.heap e T oe ts)(hd:oe.data=.fields vs)(hz:1<vs.size)(z3:3<ts.size)(hh:e<h0.objs.size)
  (k:∀h',(∀b,b≠T->h'.get? b=s.heap.get? b)->(∃oT tz,h'.get? T=some oT/\oT.data=.fields tz/\tz[3]? = some .none)->Q () { s with heap:=h' }):wpAny M A (setFlight (.ref e) none) Q E s:=by
 let{oT,q1,q2}:=en.way;have d':=ig hd (·.setIfInBounds 1<|Value.ref T);refine h_ (fi en.exc d' (x:=.ref T) (by simp[hz]) ?_);refine wP q1 q2 z3 (k _ (λb hb=>ug _ _<|Ne.symm hb) {_,_,su _ q1<|wS<|ig q2 _,ig q2 _,by simp[z3]})
theorem yt(hA:A.frames=some (env::outer))(hF:s.heap.FunFrames base (env::outer))(hL:env.frame=some L)(hk:Rr P w H s.heap)(xs:XS H s.heap lo e C dd)
  (k:∀h',Mv (TN<|env::outer) s.heap h' e->XS H h' lo e C dd->(∀b,lD h' e b->s.heap.objs.size<=b)->Q () { s with heap:=h' }) :
  wpAny M A (noteFrame (.ref e) env) (λ_ s2=>wpAny M A (setFlight (.ref e) none) Q E s2) E s:=by
 let{oe,vs,he,hc,hdd,hd,hz,tb}:=xs.obj;have elt:e<s.heap.objs.size:=aw he;have ZI:lo<=s.heap.objs.size:=bj xs.yg<|Me elt;simp![noteFrame,hL];let tb||{T,oT,ts,tb,hTe,hTl,hTn,hT,ZL,t3}:=tb
 ·refine h_<|fi he hd tb ?_;rw[ax ?C];refine sR hA hF hL he hd hz λh1 T1 t1 en z3 g3=>?_
  refine sL (s:={ s with heap:=h1 }) en hd hz z3 elt λh2 same way=>?_
  have nT:∀b o,s.heap.get? b=some o->b≠T1:=λb o q=>bu<|bo (aw q) en.new
  have d1:=ig hd (·.setIfInBounds 1<|Value.ref T1);refine k h2 {λb o q nf nb _=>?_,λb o q nb _=>?_,λb o q=>?_} {xs.yg,xs.VE,_,_,?_,?_,?_,d1,by simpa using hz,.inr ?_} ?_
  ·rw[same b<|nT b o q];exact en.keep b o q nf nb
  ·let{sl,z}:=en.slot b o q nb
   grind
  ·by_cases nb:b=e
   ·subst nb;exact{_,by rw[same _<|nT _ o q];exact en.exc}
   ·let{sl,z}:=en.slot b o q nb
    grind
  ·rw[same e<|nT e _ he];exact en.exc
  ·rw[Qm];exact hc
  ·rw[Ce];exact hdd
  ·let{o1,tz,w1,w2,w3}:=way;exact{T1,o1,tz,by simp[hz],λz=>nT e _ he z.symm,bj ZI en.new,hk.fresh en.new,w1,w2,w3}
  ·intro b ⟨oe',Xw,g1,g2,g3⟩;rw[same e<|nT e _ he,en.exc]at g1
   cases g1
   rw[d1]at g2
   cases g2
   have:Value.ref T1=Value.ref b:=by simpa[hz]using g3
   injection this with this;rw[<-this];exact en.new
 ·refine h_<|fi he hd tb ?_;refine h_<|fi hT ZL t3 ?_;have z3':=(Array.getElem?_eq_some_iff.mp t3).1;refine h_<|wP hT ZL z3' ?_;have off:∀b,b≠T->(s.heap.update T (Obj.mapFields (·.setIfInBounds 3 Value.none))).get? b=s.heap.get? b:=λb hb=>ug _ _<|Ne.symm hb
  have hF':=hF.of_keeps λb o q r=>{o,(off b λz=>by subst z;rw[hT]at q;cases q;exact r ts ZL).trans q,rfl}
  have he':=(off e<|Ne.symm hTe).trans he;have zz:(s.heap.update T (Obj.mapFields (·.setIfInBounds 3 Value.none))).objs.size=s.heap.objs.size:=u8 ..;refine sR  hA hF' hL he' hd hz λh1 T1 t1 en z3 g3=>?_
  refine sL  en hd hz z3 (by rw[zz];exact elt) λh2 same way=>?_
  have nw:s.heap.objs.size<=T1:=by have:=en.new;grind
  have nT:∀b o,s.heap.get? b=some o->b≠T1:=λb o q=>bu<|bo (aw q) nw
  have VG:lD s.heap e T:={oe,vs,he,hd,tb};have nTT:∀b,¬ lD s.heap e b->b≠T:=λb z q=>z<|q▸VG
  have d1:=ig hd (·.setIfInBounds 1<|Value.ref T1);have T0:(s.heap.update T (Obj.mapFields (·.setIfInBounds 3 Value.none))).get? T=some (oT.mapFields (·.setIfInBounds 3 Value.none)):=su _ hT<|wS<|ig ZL _;refine k h2 {λb o q nf nb nt=>?_,λb o q nb nt=>?_,λb o q=>?_} {xs.yg,xs.VE,_,_,?_,?_,?_,d1,by simpa using hz,.inr ?_} ?_
  ·rw[same b<|nT b o q];exact en.keep b o ((off b<|nTT b nt).trans q) nf nb
  ·let{sl,z}:=en.slot b o ((off b<|nTT b nt).trans q) nb
   grind
  ·by_cases nb:b=e
   ·subst nb;exact{_,by rw[same _<|nT _ o q];exact en.exc}
   ·by_cases nt:b=T
    ·subst nt;let{sl,z}:=en.slot b _ T0 nb
     grind
    ·let{sl,z}:=en.slot b o ((off b nt).trans q) nb
     grind
  ·rw[same e<|nT e _ he];exact en.exc
  ·rw[Qm];exact hc
  ·rw[Ce];exact hdd
  ·let{o1,tz,w1,w2,w3}:=way;exact{T1,o1,tz,by simp[hz],λz=>nT e _ he z.symm,bj ZI nw,hk.fresh nw,w1,w2,w3}
  ·intro b ⟨oe',Xw,g1,g2,g3⟩;rw[same e<|nT e _ he,en.exc]at g1
   grind
theorem zZ(hA:A.frames=some (env::outer))(hF:s.heap.FunFrames base (env::outer))(hL:env.frame=some L)(hk:Rr P w H s.heap)(xs:XS H s.heap lo e C dd)
  (k:∀h',Mv (TN<|env::outer) s.heap h' e->XS H h' lo e C dd->Q () { s with heap:=h' }):wpAny M A (leaving env<|.ref e) Q E s:=by
 exact h_<|yt hA hF hL hk xs λh' m x _=>k h' m x
end
section
variable {fs:Re Tk} {h h':Wp} {lo:Nat}
theorem XO.ok{H':Hp}(x:XO e C dd h):D_ P w H' h e (.ext<|XO e C dd):=by
 let{oe,q,r}:=x;exact{{oe,q,r},{oe,q},λh1 h2 ⟨o,z,r⟩ k=>{o,k o z,r}}
theorem XS.xo(xs:XS H h lo e C dd):XO e C dd h:=by
 let{oe,vs,q,c,d,z,_}:=xs.obj;exact{oe,q,c,d,by unfold PySem.W.notCls;rw[z]}
theorem XS.tb(xs:XS H h lo e C dd){b:Tk}(t:lD h e b):H b=none/\lo<=b/\b≠e/\∃oT ts,h.get? b=some oT/\oT.data=.fields ts:=by
 let{oe,vs,q,c,d,z,_,k}:=xs.obj;let{oe',Xw,q',z',k'}:=t;rw[q]at q';cases q';rw[z]at z';cases z';let k||{T,oT,ts,k,ne,l,n,g,gd,_}:=k
 ·rw[k]at k';cases k'
 ·rw[k]at k'
  cases k'
  exact{n,l,ne,oT,ts,g,gd}
theorem XS.YN(xs:XS H h lo e C dd):∃ch:Re Tk,∀b,b∈ch↔lD h e b:=by
 let{oe,vs,q,c,d,z,_,k}:=xs.obj;let k||{T,oT,ts,k,_}:=k
 ·exact{[],λb=>{λz=>(nomatch z),λ⟨oe',Xw,q',z',k'⟩=>by rw[q]at q';cases q';rw[z]at z';cases z';rw[k]at k';cases k'}}
 ·refine{[T],λb=>{λy=>?_,λ⟨oe',Xw,q',z',k'⟩=>?_}}
  ·rw[List.mem_singleton.mp y];exact{oe,vs,q,z,k}
  grind
theorem Mv.k_(m:Mv fs h h' e)(ok:Rr P w H h)(xs:XS H h lo e C dd)(xs':XS H h' lo e C dd)(hf:∀b∈fs,H b=none):Rr P w H h':=λa o q=>by
 by_cases ae:a=e
 ·subst ae;rw[xs.VE]at q;cases q;exact xs'.xo.ok
 ·refine(ok a o q).Tq (λb u hb z=>?_) (λ_ z=>z) λ_ _ z=>z
  have hbH:∃v,H b=some v:=by
   grind
  let{v,hv}:=hbH;refine m.keep b u z (λy=>by rw[hf b y]at hv;cases hv) (λy=>?_) λy=>by rw[(xs.tb y).1]at hv;cases hv
  subst y;let rfl||hb:=hb
  ·exact ae rfl
  ·rw[xs.VE]at hb;cases hb
theorem Mv.un{ch:Re Tk}(m:Mv fs h h' e)(xs:XS H h lo e C dd)(hc:∀b,b∈ch↔lD h e b):Un fs ch H H h h' where
 keep:=λb o q n hb hx=>m.keep b o q hb (λz=>by subst z;rw[xs.VE]at n;cases n) λz=>hx<|(hc b).mpr z
 slot:=λb o q n hb hx=>m.slot b o q (λz=>by subst z;rw[xs.VE]at n;cases n) λz=>hx<|(hc b).mpr z
 free:=λ_ _ _ n _=>n
 there:=λb o q _=>m.there b o q
 SA:=λ_ _ z=>z
 Sk:=λ_ _ _ z=>z
 SW:=λb ps z=>{#[],by rw[z];simp}
end
section
variable {X:Cx} {pins:C_} {Z:L2.St} {h':Wp} {lo:Nat}
theorem Inv.mv(I:Inv X pins Z H s)(m:Mv (TN X.stack) s.heap h' e)(xs:XS H s.heap lo e C dd)(xs':XS H h' lo e C dd)(ZI:X.s₀.heap.objs.size<=lo)(hp:∀p∈X.pn++pins,¬ lD s.heap e p.1)(t':Nat):Inv X pins Z H { s with heap:=h',toks:=t' }:=by
 let{ch,hc}:=xs.YN;refine I.call    (m.un xs hc) (m.k_ I.k_ xs xs' I.Tc) I.bare λb hb=>?_
 have tb:=(hc b).mp hb;let{n,l,ne,oT,ts,g,gd}:=xs.tb tb;refine{.inr<|bj ZI l,λz=>?_,λx c q z=>?_,λp W0 z=>hp p W0<|z▸tb}
 ·let{m,{o,es,ep,ho,hd,_},_}:=I.loc
  grind
 ·let{v,o,ho,hd}:=I.cell x c q
  grind
end
def R3(P:Tl)(w:TD):ZV:=λouter H s E e s'=>∃a C dd H',e=.ref a/\s'.os=s.os/\AllBare s'.gens/\Un (TN outer) [] H H' s.heap s'.heap/\Rr P w H' s'.heap/\XS H' s'.heap s.heap.objs.size a C dd/\E (.ref C) dd H'
theorem Iw{K:Fg}{mg:Rm}{N:Re Str}{qual:Str}{scope:Scope}{f:Tk}{cd:SL}{E:XK}
  {pins:C_} {Z:L2.St} {H':Hp} {s':SZ} {a C:Tk} {dd:SC Tk} (I:Inv (mG ?qK P w K mg base N qual scope f cd A outer s H E) pins Z H' s') (xs:XS H' s'.heap s.heap.objs.size a C dd) (hE:E (.ref C) dd H') :
  (mG ?qK P w K mg base N qual scope f cd A outer s H E).xe (.ref a) s':=by
 have hF:=I.stack;have hS:=I.Tc;refine zZ      I.ok.frames hF rfl I.k_ xs λh1 m xs1=>?_
 have un:=I.base;have lt:∀b o,s.heap.get? b=some o->b<s.heap.objs.size:=λb o q=>aw q
 have ne:=λb o q=>bu<|bo (lt b o q) xs.yg
 have nt:∀b o,s.heap.get? b=some o->¬ lD s'.heap a b:=λb o q z=>absurd (bo (lt b o q) (xs.tb z).2.1)<|lf _
 refine{a,C,dd,H',rfl,I.os,I.bare,{λb o q n hb hx=>?_,λb o q n hb hx=>?_,un.free,λb o q hx=>?_,un.SA,un.Sk,un.SW},m.k_ I.k_ xs xs1 hS,xs1,hE}
 ·refine m.keep b o (un.keep b o q n hb hx) (λz=>?_) (ne b o q)<|nt b o q;rcases List.mem_cons.mp (I.Tp b z)with y|y
  ·exact absurd (lt b o q) (by rw[y];exact lf _)
  ·exact hb y
 ·let{sl,z}:=un.slot b o q n hb hx;let{sl',z'}:=m.slot b _ z (ne b o q)<|nt b o q;exact{sl',z'}
 ·let{o',z}:=un.there b o q hx;exact m.there b o' z
end L4
namespace L4
open PySem PySem.Spec PyProof.Rows L2 L3 PySem.W
variable {C fI:Tk}{K:Frag}{s:SZ}{od:SC Obj}
theorem Ml{D:Tk}(c:XC K C D fI):∃cd,PySem.W.clsIn K C=some cd/\cd.mro=.ref C::.ref D::bmV/\cd.hasDict=true:=by
 let{nm,q,N,bs,sn,sub,ab,col,dd,k0,k1,k2,k3,k5,lk}:=c.obj;refine{_,by unfold PySem.W.clsIn;rw[lk],rfl,rfl}
section
variable {prog:Tl} {w:TD} {A:UV} {E:w_} {x:Tk} {ox:Obj}
theorem IV{Q:SC SL->SZ->Prop}(X:K.In s.heap)(I:PySem.W.InstAt s.heap x ox C od)(hga:findIn K (.ref C) "__getattribute__"=some (some<|.builtin "BaseException.__getattribute__"))(hgr:findIn K (.ref C) "__getattr__"=some none)(hb:mroIn K C (.type "BaseException")=some true)
  (hf:findObj K C od "__class__"=some (.bind (.builtin "getset_descriptor.__get__")<|.builtin "object.__class__")) (hm:mroIn K C (.type "object")=some true) (h:Q (some<|.ref C) { s with toks:=s.toks+1 }):wpAny ?D A (getAttr? (.ref x) "__class__") Q E s:=by
 let{hp,g,d,t,os}:=s;have L0:=I.type (M:=model prog w);have L1:=looks_findIn (M:=model prog w) X hga;have L2:=looks_findIn (M:=model prog w) X hgr;have L3:=looks_find (M:=model prog w) X I hf;have L4:=looks_mroIn (M:=model prog w) X hb;have bnd:=F.attr_ValueError.ga.bind<|.ref x;have ok:=F.args_bexc_ga (.ref x)<|.str "__class__" t;have kd:builtinKind "BaseException.__getattribute__"=some .slot:=by decide +kernel
 have sp:splitId "BaseException.__getattribute__"=some ("BaseException","__getattribute__"):=by decide +kernel
 unfold getAttr? getAttrBy?;refine h_<|wpAny_mkText<|h_<|Db ?_;unfold getAttrBy;refine oP<|h_<|L0.at<|h_<|L1.at ?_;show wpAny _ _ (getAttrByItsOwn _ _ _ _ _ _) _ _ _;unfold getAttrByItsOwn
 repeat (any_goals (first|assumption|with_reducible refine L0.at ?_|with_reducible refine L2.at ?_|wp_step))
 refine codeAny_call_builtin F.attr_ValueError.ga.plain F.entry_bexc_ga ?_;simp;refine h_ ?_;refine h_<|L0.at<|L4.at ?_
 repeat (any_goals (first|assumption|with_reducible refine L0.at ?_|with_reducible refine L3.at ?_|wp_step))
 refine class_get    X I hm ?_;exact m_<|handed_on rfl<|m_ h
theorem FY{D:Tk}(c:XC K C D fI)(hb:mroIn K C (.type "BaseException")=some true)
  (hf:findObj K C od "__class__"=some (.bind (.builtin "getset_descriptor.__get__")<|.builtin "object.__class__")) (hm:mroIn K C (.type "object")=some true) :
  KitX K (.ref x) (.ref C) (λh=>PySem.W.InstAt h x ox C od) where
 ty:=λ_ _ _ I=>I.type
 it:=λ_ _ X _=>by
  let{nm,q,N,bs,sn,sub,ab,col,dd,k0,k1,k2,k3,k5,ho}:=c.obj;intro A' Q' E' s' k q;exact h_<|wpAny_loadPart (k _ _<|X _ _ ho)<|m_ q
 ne:=λh tp dd j_ n sl X htp=>by
  let{nm,q,N,bs,sn,sub,ab,col,Xs,k0,k1,k2,k3,k5,ho}:=c.obj;refine Bool.eq_false_iff.mpr λq=>?_
  have e:=Value.ref.inj<|beq_iff_eq.mp q;subst e;have z:=(X _ _ ho).symm.trans htp
  grind
 ca:=λX I k=>IV X I c.ga c.gr hb hf hm k
end
def XAt(H:Hp)(a C:Tk)(dd:SC Tk):Prop:=H a=some (.ext<|XO a C dd)/\∀dx,dd=some dx->∃fv,H dx=some (.ext<|XD dx fv)
theorem BP{X:Cx}{pins:C_}{Z:L2.St}{H:Hp}{a:Tk}{dd:SC Tk}(I:Inv X pins Z H s)(h:XAt H a C dd):∃ox od,PySem.W.InstAt s.heap a ox C od:=by
 let{h1,h2}:=h;let{{oe,q1,q2,q3,q4},_}:=I.k_ a _ h1
 cases dd with
 | none=>exact{oe,none,q1,q2,q4,by rw[q3];trivial}
 | some dx =>
  let{fv,h2}:=h2 dx rfl;let{{mA,na,wi,r},_}:=I.k_ dx _ h2;let{od,z1,hlk}:=Dl na;exact{oe,some od,q1,q2,q4,by rw[q3];exact z1}
theorem uq{name:Str}{a g:SL}(hc:(clsIn K C).isSome=true)(ha:findIn K (.ref C) name=some (some a))(hg:specialIn K a "__get__"=some (some g))(ht:takesIn K a=some true):findObj K C od name=some (.bind g a):=by
 let{cd,hc}:=Option.isSome_iff_exists.mp hc;unfold findObj
 grind
section
variable {X:Cx} {pins:C_} {Z:L2.St} {H:Hp} {a D:Tk} {dd:SC Tk} {Q:w_} {E:w_} {b:Bool}
theorem sB(c:XC X.K C D fI)(kc:KC X.K C){ox:Obj}:KitX X.K (.ref a) (.ref C) (λh=>PySem.W.InstAt h a ox C od):=by
 let{cd,k1,k2,k3}:=Ml c;refine FY c (by unfold PySem.W.mroIn;rw[k1,Option.bind_some,k2];rfl) (uq (by rw[k1];rfl) kc.ha kc.hn kc.htk) (by unfold PySem.W.mroIn;rw[k1,Option.bind_some,k2];rfl)
theorem sH(I:Inv X pins Z H s)(c:XC X.K C D fI)(kc:KC X.K C)(h:XAt H a C dd){cv:SL}(e:kitOne X.K (.ref C) cv=some b)(q:∀tk,Q (.bool b) { s with toks:=tk }) :
  wpAny ?B X.A (call (.builtin "isinstance") [.ref a,cv]) Q E s:=by
 let{ox,od,It}:=BP I h;exact kia_one (sB c kc) I.S8 It e ?jd q
theorem yQ(I:Inv X pins Z H s)(c:XC X.K C D fI)(kc:KC X.K C)(h:XAt H a C dd){tp:Tk}{d:SC Tk}{j_:Re SL}{n:Nat}{sl:UF (SC SL)}(ht:s.heap.get? tp=some {.type "tuple",d,.seq j_.toArray n,sl})
  (e:kitAny X.K (.ref C) j_=some b) (q:∀tk,Q (.bool b) { s with toks:=tk }):wpAny ?B X.A (call (.builtin "isinstance") [.ref a,.ref tp]) Q E s:=by
 let{ox,od,It}:=BP I h;exact kia_tup (sB c kc) I.S8 It ht e ?jd q
end
end L4
namespace L4
open PySem PySem.Spec PyProof.Rows L2 L3
variable {F H F' H':Hp}{K:Fg}{X:Cx}{Z:L2.St}{ρ:En}{G:Gh}{S α:Type}{vs:Re V}{x y:Str}{a f C:Tk}{e tg b:TW}{v:V}{es:Re TW}{r:R2}{pos p pos':Pos}{c:OC}{Q:VK}{T id:String}{n kk j:Nat}{s:SZ}{ex dd:SC Tk}{op:CmpOp}{kvs:Re ?qs}{pins:C_}{R:It->Hp->Prop}{st:Uf}{fd:FuncData}{ps:Re Str}{E:XK}{o:HO}{P:Tl}{w:TD}{mg:Rm}{base:Wp}{A:UV}
structure Ex where
 cls:Str
 fs:Re (Str×D)
inductive M(S:Type) where
 | ret (s:S)
 | exc (x:Ex)
 | bad
def M.on{S T:Type}(m:M S)(x:Ex->M T)(k:S->M T):M T:=match m with
 | .ret s=>k s
 | .exc e=>x e
 | .bad=>.bad
def bd{S T:Type}(m:M S)(k:S->M T):M T:=m.on .exc k
def oM{S:Type}(o:SC S):M S:=match o with
 | some s=>.ret s
 | none=>.bad
section
variable {T U:Type}
@[simp] theorem Lk(s:S)(x:Ex->M T)(k:S->M T):(M.ret s).on x k=k s:=rfl
@[simp] theorem w4(s:S)(k:S->M T):bd (.ret s) k=k s:=rfl
end
abbrev Pu(α:Type):=En->M α
def XR(K:Fg)(F:Hp)(C:Tk)(dd:SC Tk)(x:Ex):Prop:=XQ K C x.cls /\
 ∃fv,FX F dd fv/\Paired (λ(p:Str×V) (q:Str×D)=>p.1=q.1/\Rep K F p.2 q.2) fv x.fs
def nO(x:Ex):D:=.dict<|(.none,.str x.cls)::x.fs.map λp=>(.str p.1,p.2)
theorem rJ:∀{fv:Re (Str×V)} {fs:Re (Str×D)},Paired (λ(p:Str×V) (q:Str×D)=>p.1=q.1/\Rep K F p.2 q.2) fv fs->(fs.map λp=>((PyData.str p.1,p.2):D×D)).map (·.1)=fv.map (λp=>.str p.1)/\i_ K F (fv.map (·.2)) ((fs.map λp=>((PyData.str p.1,p.2):D×D)).map (·.2))
:=by
 intro fv fs h
 induction h with
 | nil=>exact{rfl,.nil}
 | cons h _ ih=>exact{by simp  [ap,ih.1,h.1],(.cons h.2 ih.2)}
theorem XR.rep{x:Ex}(h:XR K F C dd x)(e:F a=some (.ext<|XO a C dd)):Rep K F (.ref a) (nO x):=by
 let{q,fv,fx,p}:=h;exact .exc e q fx (rJ p).1 (rJ p).2
theorem XR.mono{x:Ex}(s:c_ F F')(h:XR K F C dd x):XR K F' C dd x:=by
 let{q,fv,fx,p}:=h;refine{q,fv,fx.mono s,?_};clear fx q;revert p;generalize x.fs=fs;intro p
 induction p with
 | nil=>exact .nil
 | cons h t ih=>exact .cons {h.1,h.2.mono s} ih
structure zau(K:Fg)(F:Hp)(Z:L2.St)(ρ:En):Prop where
 ln:Z.length=ρ.length
 fz:∀(i:Nat) (d:D),ρ[i]? = some (some<|AV.fz d)->∃v,Z[i]? = some (some v)/\Rep K F v d
theorem _root_.L3.b_.zao(S:b_ K G F Z H ρ)(s:c_ F F'):zau K F' Z ρ:={S.ln,λi d q=>by
 let{v,e,r}:=S.fz i d q
 exact{v,e,r.mono s}}
structure GOk(G:Gh)(F H:Hp):Prop where
 fh:c_ F H
 oh:c_ G.O H
 fo:∀b o,G.O b=some o->F b=none/\D8 o
 fb:c_ G.B F
def XW(X:Cx)(G:Gh)(F:Hp)(ρ:En)(x:Ex):Prop:=∀F' H' s' a C dd pins Z,GOk G F' H'->zau X.K F' Z ρ->Inv X pins Z H' s'->XS H' s'.heap X.s₀.heap.objs.size a C dd->(∀p∈X.pn++pins,¬ lD s'.heap a p.1)->XR X.K F' C dd x->X.xe (.ref a) s'
theorem XW.mono{x:Ex}(s:c_ F F')(h:XW X G F ρ x):XW X G F' ρ x:=h
def W(X:Cx)(G:Gh)(F:Hp)(Z:L2.St)(ρ:En){α:Type}(m:M α)(C:α->Hp->Hp->Prop):Prop:=match m with
 | .ret a=>∀F' H',c_ F F'->b_ X.K G F' Z H' ρ->C a F' H'
 | .exc x=>XW X G F ρ x
 | .bad=>False
section
variable {β:Type} {m:M α} {k:α->M β} {C C':α->Hp->Hp->Prop}
theorem W.up{C:β->Hp->Hp->Prop}{m:M β}(s:c_ F F')(h:W X G F Z ρ m C):W X G F' Z ρ m C:=by
 cases m with
 | ret a=>exact λF2 H2 s2 S2=>h F2 H2 (s.trans s2) S2
 | exc x=>exact XW.mono     s h
 | bad=>exact h
theorem W.bind{C:β->Hp->Hp->Prop}(h:W X G F Z ρ (bd m k) C):W X G F Z ρ m λa F' H'=>W X G F' Z ρ (k a) C:=by
 cases m with
 | ret a=>exact λF2 H2 s2 S2=>W.up s2 h
 | exc x=>exact h
 | bad=>exact h
theorem W.imp(h:W X G F Z ρ m C)(w:∀a F' H',c_ F F'->b_ X.K G F' Z H' ρ->C a F' H'->C' a F' H'):W X G F Z ρ m C':=by
 cases m with
 | ret a=>exact λF2 H2 s2 S2=>w a F2 H2 s2 S2<|h F2 H2 s2 S2
 | exc x=>exact h
 | bad=>exact h
theorem W.opt{o:SC α}(h:W X G F Z ρ (oM o) C):∃a,o=some a/\∀F' H',c_ F F'->b_ X.K G F' Z H' ρ->C a F' H':=by
 cases o with
 | none=>exact h.elim
 | some a=>exact{a,rfl,h}
end
@[irreducible] def gE(X:Cx)(e:TW):TE:=λZ H Q=>∀(pins:C_) (s:SZ),Inv X pins Z H s->wpAny ?B X.A (eval e X.env) ?jr X.xe s
@[irreducible] def uA(X:Cx)(e:TW):TT:=λZ H Q=>∀(pins:C_) (s:SZ),Inv X pins Z H s->wpAny ?B X.A (isTrue e X.env<|eval e X.env) ?qx X.xe s
@[irreducible] def uz(X:Cx)(e:TW):TT:=λZ H Q=>∀(whole:Sem SL) (pins:C_) (s:SZ),Inv X pins Z H s->wpAny ?B X.A (isTrue e X.env whole) ?qx X.xe s
@[irreducible] def gQ(X:Cx)(es:Re TW):TA:=λZ H Q=>∀(pos:Pos) (pins:C_) (s:SZ),Inv X pins Z H s->wpAny ?B X.A (spliced<|backTo pos ?T) (AP X pins Z Q) X.xe s
section
theorem aO:PE X e (gE X e):=λpins s Z H Q I h=>by unfold gE at h;exact h pins s I
theorem eG:PT X e (uA X e):=λpins s Z H Q I h=>by unfold uA at h;exact h pins s I
theorem oj:PW X e (uz X e):=λwh pins s Z H Q I h=>by unfold uz at h;exact h wh pins s I
theorem cI:PA X es (gQ X es):=λpos pins s Z H Q I h=>by unfold gQ at h;exact h pos pins s I
theorem Rt{t:TE}(h:PE X e t)(q:t Z H Q):gE X e Z H Q:=by unfold gE;exact λpins s I=>h pins s Z H Q I q
theorem zG{t:TT}{Q:Bool->Hp->Prop}(h:PT X e t)(q:t Z H Q):uA X e Z H Q:=by unfold uA;exact λpins s I=>h pins s Z H Q I q
theorem xU{t:TT}{Q:Bool->Hp->Prop}(h:PW X e t)(q:t Z H Q):uz X e Z H Q:=by unfold uz;exact λwh pins s I=>h wh pins s Z H Q I q
theorem zH{t:TA}{Q:Re V->Hp->Prop}(h:PA X es t)(q:t Z H Q):gQ X es Z H Q:=by unfold gQ;exact λpos pins s I=>h pos pins s Z H Q I q
end
def iR(ρ:En)(i:Nat):SC ?Q:=match ρ[i]? with
 | some (some<|.ol<|.l ds)=>some ds
 | some (some<|.op<|.l ds)=>some ds
 | _=>none
theorem mX{i:Nat}{ds:Re D}(h:iR ρ i=some ds):own ρ i (.l ds):=by
 unfold iR at h
 grind
@[grind] def VO(K:Fg)(F:Hp)(Z:L2.St)(ρ:En)(v:V)(d:D):Prop:=Rep K F v d\/∃i c,own ρ i c/\Z[i]? = some (some v)/\d=c.d/\c.isI=false
inductive VOs(K:Fg)(F:Hp)(Z:L2.St)(ρ:En):Re V->Re D->Prop
 | nil:VOs K F Z ρ [] []
 | cons {v d vs ds}:VO K F Z ρ v d->VOs K F Z ρ vs ds->VOs K F Z ρ (v::vs) (d::ds)
@[grind →] theorem VO.mono{d:D}(s:c_ F F')(h:VO K F Z ρ v d):VO K F' Z ρ v d:=h.imp (Rep.mono s) id
@[grind] def OR(K:Fg)(F H:Hp)(v:V)(d:D):Prop:=Rep K F v d\/∃a c,v=.ref a/\d=c.d/\Ra K F H a c/\c.isI=false
inductive Xu(K:Fg)(F H:Hp):Re V->Re D->Prop
 | nil:Xu K F H [] []
 | cons {v d vs ds}:OR K F H v d->Xu K F H vs ds->Xu K F H (v::vs) (d::ds)
theorem VO.or{d:D}(S:b_ K G F Z H ρ)(h:VO K F Z ρ v d):OR K F H v d:=by
 let h||{i,c,ho,hv,rfl,hI}:=h
 ·exact .inl h
 ·let{a,e1,oa}:=S.ow i _ ho;rw[hv]at e1;injection e1 with e1;injection e1 with e1;exact .inr {a,c,e1,rfl,oa.he,hI}
theorem VOs.ors(S:b_ K G F Z H ρ):∀{vs ds},VOs K F Z ρ vs ds->Xu K F H vs ds
 | _,_,.nil=>.nil
 | _,_,.cons h t=>.cons (h.or S)<|t.ors S
section
variable {ds:Re D}
def NR:D->Bool
 | .dict _=>true
 | _=>false
theorem jF{d:D}(h:d.canLay0=true):NR d=false:=by
 cases d with
 | dict es=>simp[PyData.canLay0]at h
 | _=>rfl
def T6(K:Fg)(H:Hp)(v:V)(d:D):Prop:=Rep K H v d\/∃a kvs es,v=.ref a/\d=.dict es/\Rd H a (.dT kvs)/\es.map (·.1)=kvs.map ?qn
theorem T6.of{d:D}(h:T6 K H v d)(hd:NR d=false):Rep K H v d:=by
 let h||{a,kvs,es,e,rfl,_}:=h
 ·exact h
 ·cases hd
theorem OR.rep{d:D}(s:c_ F H)(h:OR K F H v d):T6 K H v d:=by
 let h||{a,c,rfl,rfl,h1,hI}:=h
 ·exact .inl<|h.mono s
 ·cases hT:c.VG with
  | false=>let{o,e,r}:=BS hI hT h1;exact .inl<|r H s e
  | true=>cases c with
   | t es=>let{kvs,q1,q2,_}:=h1;exact .inr {a,kvs,es,rfl,rfl,.inl q1,q2}
   | _=>cases hT
theorem OR.list(s:c_ F H)(h:OR K F H v (.list ds)):∃a vs,v=.ref a/\QO K H a vs/\i_ K F vs ds:=by
 let h||{a,c,e,e2,h1,hI}:=h
 ·let{a,vs,e,h1,h2}:=h.lst_inv;exact{a,vs,e,s.seq h1,h2}
 ·cases c<;>cases e2
  let{vs,h1,h2}:=h1;exact{a,vs,e,.inl<|.inl h1,h2}
theorem OR.tuple(s:c_ F H)(h:OR K F H v (.tuple ds)):∃a vs,v=.ref a/\B_ K H a vs/\i_ K F vs ds:=by
 let h||{a,c,e,e2,h1,hI}:=h
 ·let{a,vs,e,h1,h2}:=h.QX;exact{a,vs,e,B_.of<|s _ _ h1,h2}
 ·cases c<;>cases e2
theorem OR.YJ(h:OR K F H v (.tuple ds)):Rep K F v (.tuple ds):=by
 let h||{a,c,e,e2,h1,hI}:=h
 ·exact h
 ·cases c<;>cases e2
theorem OR.int{i:Int}(h:OR K F H v (.int i)):v=.int i:=by
 let h||{a,c,e,e2,h1,hI}:=h
 ·exact h.inv
 ·cases c<;>cases e2
theorem OR.bool{i:Bool}(h:OR K F H v (.bool i)):v=.bl i:=by
 let h||{a,c,e,e2,h1,hI}:=h
 ·exact h.inv
 ·cases c<;>cases e2
theorem OR.str{i:Str}(h:OR K F H v (.str i)):v=.str i:=by
 let h||{a,c,e,e2,h1,hI}:=h
 ·exact h.inv
 ·cases c<;>cases e2
theorem OR.none(h:OR K F H v .none):v=.QW:=by
 let h||{a,c,e,e2,h1,hI}:=h
 ·exact h.inv
 ·cases c with
  | i _ _ _=>cases hI
  | n _=>cases hI
  | _=>cases e2
theorem bN{d:D}{ds:Re D}(h:Xu K F H vs (d::ds)):∃v r,vs=v::r/\OR K F H v d/\Xu K F H r ds:=by
 cases h with|cons a b=>exact{_,_,rfl,a,b}
theorem ci(h:Xu K F H vs []):vs=[]:=by cases h;rfl
end
def AP(X:Cx)(e:TW)(p:Pu D):Prop :=
 ∀(G:Gh) (F:Hp) (Z:L2.St) (H:Hp) (ρ:En) (Q:VK),b_ X.K G F Z H ρ->W X G F Z ρ (p ρ) (λd F' H'=>∀v,Rep X.K F' v d->Q v H')->gE X e Z H Q
def AO(X:Cx)(e:TW)(p:Pu D):Prop :=
 ∀(G:Gh) (F:Hp) (Z:L2.St) (H:Hp) (ρ:En) (Q:VK),b_ X.K G F Z H ρ->W X G F Z ρ (p ρ) (λd F' H'=>∀v,VO X.K F' Z ρ v d->Q v H')->gE X e Z H Q
def AT(X:Cx)(e:TW)(p:Pu Bool):Prop :=
 ∀(G:Gh) (F:Hp) (Z:L2.St) (H:Hp) (ρ:En) (Q:Bool->Hp->Prop),b_ X.K G F Z H ρ->W X G F Z ρ (p ρ) (λd F' H'=>Q d H')->uA X e Z H Q
def AW(X:Cx)(e:TW)(p:Pu Bool):Prop :=
 ∀(G:Gh) (F:Hp) (Z:L2.St) (H:Hp) (ρ:En) (Q:Bool->Hp->Prop),b_ X.K G F Z H ρ->W X G F Z ρ (p ρ) (λd F' H'=>Q d H')->uz X e Z H Q
def AB(X:Cx)(e:TW)(p:Pu Bool):Prop :=
 ∀(G:Gh) (F:Hp) (Z:L2.St) (H:Hp) (ρ:En) (Q:VK),b_ X.K G F Z H ρ->W X G F Z ρ (p ρ) (λd F' H'=>Q (.bl d) H')->gE X e Z H Q
def AA{α:Type}(X:Cx)(es:Re TW)(m:(Re D->M α)->En->M α):Prop :=
 ∀(G:Gh) (F:Hp) (Z:L2.St) (H:Hp) (ρ:En) (Q:Re V->Hp->Prop) (k:Re D->M α) (C:α->Hp->Hp->Prop),b_ X.K G F Z H ρ->W X G F Z ρ (m k ρ) C ->
  (∀ds vs F' H',c_ F F'->b_ X.K G F' Z H' ρ->vs.length=es.length->i_ X.K F' vs ds->W X G F' Z ρ (k ds) C->Q vs H')->gQ X es Z H Q
def YF{α:Type}(X:Cx)(es:Re TW)(m:(Re D->M α)->En->M α):Prop :=
 ∀(G:Gh) (F:Hp) (Z:L2.St) (H:Hp) (ρ:En) (Q:Re V->Hp->Prop) (k:Re D->M α) (C:α->Hp->Hp->Prop),b_ X.K G F Z H ρ->W X G F Z ρ (m k ρ) C ->
  (∀ds vs F' H',c_ F F'->b_ X.K G F' Z H' ρ->VOs X.K F' Z ρ vs ds->W X G F' Z ρ (k ds) C->Q vs H')->gQ X es Z H Q
@[grind] def Frs(K:Fg)(G:Gh)(F:Hp)(Z:L2.St)(H:Hp)(ρ:En)(v:V)(c:OC):Prop:=∃a,v=.ref a/\WK K G F H a c/\∀(i:Nat) (e:OC),own ρ i e->Z[i]? ≠ some (some ?qA)
def AL(X:Cx)(e:TW)(p:Pu ?Q):Prop :=
 ∀(G:Gh) (F:Hp) (Z:L2.St) (H:Hp) (ρ:En) (Q:VK),b_ X.K G F Z H ρ->W X G F Z ρ (p ρ) (λds F' H'=>∀v,Frs X.K G F' Z H' ρ v (.l ds)->Q v H')->gE X e Z H Q
def K7(i:Nat):Pu D:=λρ=>match ρ[i]? with
 | some (some<|.fz d)=>.ret d
 | _=>.bad
def Mf(c:OC):M D:=match c with
 | .i _ _ _=>.bad
 | .n _=>.bad
 | c=>.ret c.d
def JV(i:Nat):Pu D:=λρ=>match ρ[i]? with
 | some (some<|.ol c)=>Mf c
 | some (some<|.op c)=>Mf c
 | _=>.bad
def C1(d:D):Pu D:=λ_=>.ret d
def NE(f:D->D->SC D)(a b:Pu D):Pu D:=λρ=>bd (a ρ) λx=>bd (b ρ) λy=>oM<|f x y
def JZ(f:D->D->SC Bool)(a b:Pu D):Pu Bool:=λρ=>bd (a ρ) λx=>bd (b ρ) λy=>oM<|f x y
def pUn(f:D->SC D)(a:Pu D):Pu D:=λρ=>bd (a ρ) λx=>oM<|f x
abbrev Pa(α:Type):=(Re D->M α)->En->M α
def NB{α:Type}:Pa α:=λk _=>k []
def JX{α:Type}(a:Pu D)(r:Pa α):Pa α:=λk ρ=>bd (a ρ) λx=>r (λxs=>k<|x::xs) ρ
def cq{S:Type}(ds:Re S):M (Re S):=if ds.length<=sizeLine then .ret ds else .bad
def OS(ps:Pa D):Pu D:=λρ=>ps (λds=>.ret<|.tuple ds) ρ
def OU(ps:Pa ?Q):Pu ?Q:=λρ=>ps (λds=>.ret ds) ρ
theorem mw(h:n<=1000):n<=sizeLine:=bj h ?C
def JY(f:Re D->SC D)(ps:Pa D):Pu D:=λρ=>ps (λds=>oM<|f ds) ρ
def Lb(f:Re D->SC Bool)(ps:Pa Bool):Pu Bool:=λρ=>ps (λds=>oM<|f ds) ρ
def j7(f:Re D->SC ?Q)(ps:Pa ?Q):Pu ?Q:=λρ=>ps (λds=>oM<|f ds) ρ
def pB(p:Pu Bool):Pu D:=λρ=>bd (p ρ) λb=>.ret<|.bool b
def pZ(p:Pu ?Q):Pu D:=λρ=>bd (p ρ) λds=>.ret<|.list ds
def asB(d:D):M Bool:=match d with
 | .bool b=>.ret b
 | _=>.bad
def OZ(p:Pu D):Pu Bool:=λρ=>bd (p ρ) asB
def fF:D->SC Bool
 | .none=>some false
 | .bool b=>some b
 | .int i=>some<|i != 0
 | .str x=>if x.length<=sizeLine then some ((x.length:Int) != 0)else none
 | .list ds=>some<|!ds.isEmpty
 | .tuple ds=>some<|!ds.isEmpty
 | .dict _=>none
def Nz(p:Pu D):Pu Bool:=λρ=>bd (p ρ) λd=>oM<|fF d
def NF(a b:Pu Bool):Pu Bool:=λρ=>bd (a ρ) λt=>if t then b ρ else .ret false
def pOr(a b:Pu Bool):Pu Bool:=λρ=>bd (a ρ) λt=>if t then .ret true else b ρ
def K9(a:Pu Bool):Pu Bool:=λρ=>bd (a ρ) λt=>.ret<|!t
def pIf{α:Type}(c:Pu Bool)(a b:Pu α):Pu α:=λρ=>bd (c ρ) λt=>if t then a ρ else b ρ
def Xg(K:Fg)(r:R2)(f:D->D->SC D):Prop :=
 ∀(G:Gh) (F:Hp) (Z:L2.St) (H:Hp) (ρ:En) (x y:V) (dx dy:D) (res:D) (Q:VK),b_ K G F Z H ρ->OR K F H x dx->OR K F H y dy->f dx dy=some res ->
  (∀v F' H',c_ F F'->b_ K G F' Z H' ρ->Rep K F' v res->Q v H')->r x y H Q
def Xt(K:Fg)(r:R2)(f:D->D->SC Bool):Prop :=
 ∀(G:Gh) (F:Hp) (Z:L2.St) (H:Hp) (ρ:En) (x y:V) (dx dy:D) (res:Bool) (Q:VK),b_ K G F Z H ρ->OR K F H x dx->OR K F H y dy->f dx dy=some res->Q (.bl res) H->r x y H Q
def UnD(K:Fg)(r:V->Hp->VK->Prop)(f:D->SC D):Prop :=
 ∀(G:Gh) (F:Hp) (Z:L2.St) (H:Hp) (ρ:En) (x:V) (dx:D) (res:D) (Q:VK),b_ K G F Z H ρ->OR K F H x dx->f dx=some res ->
  (∀v F' H',c_ F F'->b_ K G F' Z H' ρ->Rep K F' v res->Q v H')->r x H Q
def il(K:Fg)(r:Re V->Hp->VK->Prop)(f:Re D->SC D):Prop :=
 ∀(G:Gh) (F:Hp) (Z:L2.St) (H:Hp) (ρ:En) (xs:Re V) (ds:Re D) (res:D) (Q:VK),b_ K G F Z H ρ->Xu K F H xs ds->f ds=some res ->
  (∀v F' H',c_ F F'->b_ K G F' Z H' ρ->Rep K F' v res->Q v H')->r xs H Q
def xJ(K:Fg)(r:Re V->Hp->VK->Prop)(f:Re D->SC Bool):Prop :=
 ∀(G:Gh) (F:Hp) (Z:L2.St) (H:Hp) (ρ:En) (xs:Re V) (ds:Re D) (res:Bool) (Q:VK),b_ K G F Z H ρ->Xu K F H xs ds->f ds=some res->Q (.bl res) H->r xs H Q
def CB(K:Fg)(r:Re V->Hp->VK->Prop)(f:Re D->SC ?Q):Prop :=
 ∀(G:Gh) (F:Hp) (Z:L2.St) (H:Hp) (ρ:En) (xs:Re V) (ds:Re D) (res:Re D) (Q:VK),b_ K G F Z H ρ->Xu K F H xs ds->f ds=some res ->
  (∀v F' H',c_ F F'->b_ K G F' Z H' ρ->Frs K G F' Z H' ρ v (.l res)->Q v H')->r xs H Q
def isStar:TW->Bool
 | .Starred _ _=>true
 | _=>false
theorem gF{env:Env}:∀{e:TW} {es:Re TW},isStar e=false->starEach (e::es) env=(false,eval e env)::starEach es env:=by
 intro e es h
 cases e<;>first|rfl|cases h
def Ir(o:SC NameKind):Bool:=match o with
 | some .local=>true
 | some .cell=>true
 | _=>false
theorem lo{sc:Scope}(h:Ir (sc.names.lookup x)=true):L2.Loc sc x:=by
 unfold L2.Loc;unfold Ir at h
 grind
def MK(o:SC NameKind):Bool:=match o with
 | some .free=>true
 | o=>Ir o
theorem vi{sc:Scope}(h:MK (sc.names.lookup x)=true):L2.UW sc x:=by
 unfold L2.UW;unfold MK Ir at h
 grind
section
variable {a c:TW} {rest:Re TW} {p pa pb:Pu D} {ta tb tc:Pu Bool} {ps:Pa D} {pb':Pa Bool} {pl:Pa ?Q} {pα:Pa α} {qs:Pu ?Q}
theorem Mw{i:Nat}(hN:X.N[i]? = some x)(hv:UW X.env.scope x)(hd:(x==("__debug__" : Str))=false:=by decide)(Ri:(x==("__classdict__" : Str))=false:=by decide):AP X (.Name x pos) (K7 i) :=
 λG F Z H ρ Q S w=>Rt ?j3<|by
  unfold K7 at w;split at w
  ·rename_i d q;let{v,e1,r1}:=S.fz i d q;exact{v,e1,w F H ?I S v r1}
  ·exact w.elim
theorem aY{i:Nat}(hN:X.N[i]? = some x:=by rfl)(hv:UW X.env.scope x:=by exact vi rfl)(hd:(x==("__debug__" : Str))=false:=by decide)(Ri:(x==("__classdict__" : Str))=false:=by decide):AO X (.Name x pos) (JV i) :=
 λG F Z H ρ Q S w=>Rt ?j3<|by
  have go:∀c ,own ρ i c->W X G F Z ρ (Mf c) (λd F' H'=>∀v,VO X.K F' Z ρ v d->Q v H')->lB i Z H Q:=λc ho w=>by
   let{a,e1,oa}:=S.ow i _ ho
   cases c with
   | i _ _ _=>exact w.elim
   | n _=>exact w.elim
   | _=>exact{_,e1,w F H ?I S _<|.inr {i,_,ho,e1,rfl,rfl}}
  unfold JV at w;split at w
  ·grind
  ·grind
  ·exact w.elim
theorem ao(h:AP X e p):AO X e p:=λG F Z H ρ Q S w=>h G F Z H ρ Q S<|w.imp λd F' H' _ _ q v r=>q v<|.inl r
theorem xA{d:D}(h:PE X e (tC v))(r:∀F,Rep X.K F v d):AP X e (C1 d) :=
 λG F Z H ρ Q S w=>Rt h<|w F H ?I S v<|r F
theorem ak{i j}:AP X (.Constant (.int i) j pos) (C1<|.int i):=xA Fi λ_=>.int _
theorem dM{i j}:AP X (.Constant (.bool i) j pos) (C1<|.bool i):=xA Nx λ_=>.bl _
theorem bM{i j}:AP X (.Constant (.str i) j pos) (C1<|.str i):=xA K0 λ_=>.str _
theorem fm{j}:AP X (.Constant .none j pos) (C1 .none):=xA K4 λ_=>.QW
theorem wZ{f:D->D->M α}{C:α->Hp->Hp->Prop}(ha:AO X a pa)(hb:AO X b pb)(S:b_ X.K G F Z H ρ)(w:W X G F Z ρ (bd (pa ρ) λx=>bd (pb ρ) λy=>f x y) C)
  (k:∀x y dx dy F' H',c_ F F'->b_ X.K G F' Z H' ρ->OR X.K F' H' x dx->OR X.K F' H' y dy->W X G F' Z ρ (f dx dy) C->r x y H' Q):ZE r (gE X a) (gE X b) Z H Q :=
 ha G F Z H ρ _ S<|w.bind.imp λdx F1 H1 s1 S1 w1 x hx=>hb G F1 Z H1 ρ _ S1<|w1.bind.imp λdy F2 H2 s2 S2 w2 y hy=>k x y dx dy F2 H2 ?jo S2 ((hx.mono s2).or S2) (hy.or S2) w2
theorem aT{op:Operator}{f:D->D->SC D}(ho:QN X (binaryOp op) r)(hf:Xg X.K r f)(ha:AO X a pa)(hb:AO X b pb):AP X (.BinOp a op b pos) (NE f pa pb) :=
 λG F Z H ρ Q S w=>Rt (Fh ho aO aO) (wZ ha hb S w λx y dx dy F' H' s' S' hx hy w'=>by
  let{res,e,k}:=w'.opt
  exact hf G F' Z H' ρ x y dx dy res Q S' hx hy e λv F2 H2 s2 S2 r2=>k F2 H2 s2 S2 v r2)
theorem aL{f:D->D->SC D}(hr:WM X r)(hf:Xg X.K r f)(ha:AO X a pa)(hb:AO X b pb)(hs:xG b:=by exact λ_ _=>rfl):AP X (.Subscript a b pos) (NE f pa pb) :=
 λG F Z H ρ Q S w=>Rt (Bt hr aO aO hs) (wZ ha hb S w λx y dx dy F' H' s' S' hx hy w'=>by
  let{res,e,k}:=w'.opt
  exact hf G F' Z H' ρ x y dx dy res Q S' hx hy e λv F2 H2 s2 S2 r2=>k F2 H2 s2 S2 v r2)
theorem cA{f:D->D->SC Bool}(ho:QN X (compareOp op) r)(hf:Xt X.K r f)(ha:AO X a pa)(hb:AO X b pb)(hm:behindInMarks op b=false:=by rfl):AB X (.Compare a [op] [b] pos) (JZ f pa pb) :=
 λG F Z H ρ Q S w=>Rt (Bw ho aO aO hm) (wZ ha hb S w λx y dx dy F' H' s' S' hx hy w'=>by
  let{res,e,k}:=w'.opt
  exact hf G F' Z H' ρ x y dx dy res Q S' hx hy e<|k F' H' ?I S')
theorem aJ{f:D->D->SC Bool}(ho:QN X (compareOp op) r)(hf:Xt X.K r f)(ha:AO X a pa)(hb:AO X b pb)(hm:behindInMarks op b=false:=by rfl):AT X (.Compare a [op] [b] pos) (JZ f pa pb) :=
 λG F Z H ρ Q S w=>zG (Bl ho aO aO hm) (wZ  ha hb S w λx y dx dy F' H' s' S' hx hy w'=>by
  let{res,e,k}:=w'.opt
  exact hf G F' Z H' ρ x y dx dy res _ S' hx hy e {res,rfl,k F' H' ?I S'})
theorem fO(h:AB X e ta):AP X e (pB ta):=λG F Z H ρ Q S w=>h G F Z H ρ Q S<|w.bind.imp λb F' H' s1 S1 w1=>w1 F' H' ?I S1 _<|.bl b
theorem Od{op:UnaryOp}{r:V->Hp->VK->Prop}{f:D->SC D}(ho:UnR X (unaryOp op) r)(hf:UnD X.K r f)(ha:AO X a pa):AP X (.UnaryOp op a pos) (pUn f pa) :=
 λG F Z H ρ Q S w=>Rt (Nu ho aO) (ha G F Z H ρ _ S (w.bind.imp λdx F1 H1 s1 S1 w1 x hx=>by
  let{res,e,k}:=w1.opt
  exact hf G F1 Z H1 ρ x dx res Q S1 (hx.or S1) e λv F2 H2 s2 S2 r2=>k F2 H2 s2 S2 v r2))
theorem dY(h:AL X e qs):AP X e (pZ qs):=λG F Z H ρ Q S w=>h G F Z H ρ Q S (w.bind.imp λds F' H' s1 S1 w1 v fr=>by
 let{F2,s2,S2,r2}:=S1.settle   fr
 exact w1 F2 H' s2 S2 v r2)
theorem az:AA (α:=α) X [] NB:=λG F Z H ρ Q k C S w kk=>zH iQ<|kk [] [] F H ?I S rfl .nil w
theorem aa(h:AP X e p)(hr:AA X es pα)(hs:starEach (e::es) X.env=?K::starEach es X.env:=by exact gF rfl):AA X (e::es) (JX p pα) :=
 λG F Z H ρ Q k C S w kk=>zH (dO aO cI hs) (h G F Z H ρ _ S (w.bind.imp λd F1 H1 s1 S1 w1 v r1 =>
  hr G F1 Z H1 ρ _ _ C S1 w1 λds vs F2 H2 s2 S2 hl r2 w2=>kk (d::ds) (v::vs) F2 H2 ?jo S2 (by simp[hl]) (.cons ?qM r2) w2))
theorem aI:YF (α:=α) X [] NB:=λG F Z H ρ Q k C S w kk=>zH iQ<|kk [] [] F H ?I S .nil w
theorem aE(h:AO X e p)(hr:YF X es pα)(hs:starEach (e::es) X.env=?K::starEach es X.env:=by exact gF rfl):YF X (e::es) (JX p pα) :=
 λG F Z H ρ Q k C S w kk=>zH (dO aO cI hs)<|h G F Z H ρ _ S<|w.bind.imp λd F1 H1 s1 S1 w1 v r1 =>
  hr G F1 Z H1 ρ _ _ C S1 w1 λds vs F2 H2 s2 S2 r2 w2=>kk (d::ds) (v::vs) F2 H2 ?jo S2 (.cons ?qM r2) w2
theorem W.fit{ds:Re α}{C:Re α->Hp->Hp->Prop}(h:W X G F Z ρ (cq ds) C):ds.length<=sizeLine/\∀F' H',c_ F F'->b_ X.K G F' Z H' ρ->C ds F' H':=by
 unfold cq at h;split at h
 ·exact{by assumption,h}
 ·exact h.elim
theorem bC{x1}(h:AA X es ps)(hz:es.length<=1000:=by decide +kernel):AP X (.Tuple es x1 pos) (OS ps) :=
 λG F Z H ρ Q S w=>Rt (zM cI) (h G F Z H ρ _ _ _ S w λds vs F1 H1 s1 S1 hl r1 w1=>by
  refine{by rw[hl];exact mw hz,λq hq=>?_};let{s2,S2,r2}:=S1.Rv hq r1
  exact w1 _ _ s2 S2 _ r2)
theorem bX(h:AA X es pl)(hz:es.length<=1000:=by decide +kernel):AL X (.List es pos) (OU pl) :=
 λG F Z H ρ Q S w=>Rt (zN cI) (h G F Z H ρ _ _ _ S w λds vs F1 H1 s1 S1 hl r1 w1=>by
  refine{by rw[hl];exact mw hz,λq hq=>?_};let{S2,r2}:=S1.P_ hq r1
  exact w1 _ _ ?I S2 _ r2)
theorem lv{r:Re V->Hp->VK->Prop}{f:Re D->M α}{C:α->Hp->Hp->Prop}(ha:YF X es pα)(S:b_ X.K G F Z H ρ)(w:W X G F Z ρ (pα f ρ) C)
  (k:∀xs ds F' H',c_ F F'->b_ X.K G F' Z H' ρ->Xu X.K F' H' xs ds->W X G F' Z ρ (f ds) C->r xs H' Q):tCB r (gQ X es) Z H Q :=
 ha G F Z H ρ _ _ C S w λds xs F1 H1 s1 S1 hx w1=>k xs ds F1 H1 s1 S1 (hx.ors S1) w1
theorem aS{p:Pos}{r:Re V->Hp->VK->Prop}{f:Re D->SC D}(hc:l_ X (.builtin id) r)(hf:il X.K r f)(hm:X.mg x=none)(hv:bootBuiltins x=some (.builtin id))(ha:YF X (e::es) ps)(hg:Gl X x:=by rfl)
  (hn:x ≠ "__name__":=by decide) (Sf:(x==("__debug__" : Str))=false:=by decide) (he:starEach (e::es) X.env=?K::starEach es X.env:=by rfl) (Q7:(backTo pos ?T).any (·.1)=false:=by rfl):AP X (.Call (.Name x p) (e::es) [] pos) (JY f ps) :=
 λG F Z H ρ Q S w=>Rt (ji hc hg hm hv cI hn Sf he Q7) (lv ha S w λxs ds F' H' s' S' hx w'=>by
  let{res,e,k}:=w'.opt
  exact hf G F' Z H' ρ xs ds res Q S' hx e λv F2 H2 s2 S2 r2=>k F2 H2 s2 S2 v r2)
theorem tR{p:Pos}{r:Re V->Hp->VK->Prop}{f:Re D->SC ?Q}(hc:l_ X (.builtin id) r)(hf:CB X.K r f)(hm:X.mg x=none)(hv:bootBuiltins x=some (.builtin id))(ha:YF X (e::es) pl)(hg:Gl X x:=by rfl)
  (hn:x ≠ "__name__":=by decide) (Sf:(x==("__debug__" : Str))=false:=by decide) (he:starEach (e::es) X.env=?K::starEach es X.env:=by rfl) (Q7:(backTo pos ?T).any (·.1)=false:=by rfl):AL X (.Call (.Name x p) (e::es) [] pos) (j7 f pl) :=
 λG F Z H ρ Q S w=>Rt (ji hc hg hm hv cI hn Sf he Q7) (lv ha S w λxs ds F' H' s' S' hx w'=>by
  let{res,e,k}:=w'.opt
  exact hf G F' Z H' ρ xs ds res Q S' hx e λv F2 H2 s2 S2 r2=>k F2 H2 s2 S2 v r2)
theorem zx{p:Pos}{r:Re V->Hp->VK->Prop}{f:Re D->SC Bool}(hc:l_ X (.builtin id) r)(hf:xJ X.K r f)(hg:Gl X x)(hm:X.mg x=none)(hv:bootBuiltins x=some (.builtin id))(ha:YF X (e::es) pb')
  (hn:x ≠ "__name__":=by decide) (Sf:(x==("__debug__" : Str))=false:=by decide) (he:starEach (e::es) X.env=?K::starEach es X.env:=by rfl) (Q7:(backTo pos ?T).any (·.1)=false:=by rfl):AB X (.Call (.Name x p) (e::es) [] pos) (Lb f pb') :=
 λG F Z H ρ Q S w=>Rt (ji hc hg hm hv cI hn Sf he Q7) (lv ha S w λxs ds F' H' s' S' hx w'=>by
  let{res,e,k}:=w'.opt
  exact hf G F' Z H' ρ xs ds res Q S' hx e<|k F' H' ?I S')
theorem bG{p:Pos}{r:Re V->Hp->VK->Prop}{f:Re D->SC D}(hc:l_ X (.type T) r)(hf:il X.K r f)(hm:X.mg x=none)(hv:bootBuiltins x=some (.type T))(ha:YF X (e::es) ps)(hg:Gl X x:=by rfl)
  (hn:x ≠ "__name__":=by decide) (Sf:(x==("__debug__" : Str))=false:=by decide) (he:starEach (e::es) X.env=?K::starEach es X.env:=by rfl) (Q7:(backTo pos ?T).any (·.1)=false:=by rfl):AP X (.Call (.Name x p) (e::es) [] pos) (JY f ps) :=
 λG F Z H ρ Q S w=>Rt (oA hc hg hm hv cI hn Sf he Q7) (lv ha S w λxs ds F' H' s' S' hx w'=>by
  let{res,e,k}:=w'.opt
  exact hf G F' Z H' ρ xs ds res Q S' hx e λv F2 H2 s2 S2 r2=>k F2 H2 s2 S2 v r2)
theorem pA{p:Pos}{r:Re V->Hp->VK->Prop}{f:Re D->SC ?Q}(hc:l_ X (.type T) r)(hf:CB X.K r f)(hm:X.mg x=none)(hv:bootBuiltins x=some (.type T))(ha:YF X (e::es) pl)(hg:Gl X x:=by rfl)
  (hn:x ≠ "__name__":=by decide) (Sf:(x==("__debug__" : Str))=false:=by decide) (he:starEach (e::es) X.env=?K::starEach es X.env:=by rfl) (Q7:(backTo pos ?T).any (·.1)=false:=by rfl):AL X (.Call (.Name x p) (e::es) [] pos) (j7 f pl) :=
 λG F Z H ρ Q S w=>Rt (oA hc hg hm hv cI hn Sf he Q7) (lv ha S w λxs ds F' H' s' S' hx w'=>by
  let{res,e,k}:=w'.opt
  exact hf G F' Z H' ρ xs ds res Q S' hx e λv F2 H2 s2 S2 r2=>k F2 H2 s2 S2 v r2)
theorem gJ{ds:Re D}(h:i_ K F vs ds):(!vs.isEmpty) = !ds.isEmpty:=by cases h<;>rfl
theorem fk(ha:AO X a pa)(he:∀whole,isTrue a X.env whole=(do let v <-whole;standAt a.pos;holding [v] (truthy v))):AT X a (Nz pa) :=
 λG F Z H ρ Q S w=>zG (ya aO he) (ha G F Z H ρ _ S (w.bind.imp λx F1 H1 s1 S1 w1 v hv=>by
  let{bb,hb,k}:=w1.opt;refine{bb,?_,k F1 H1 ?I S1};have o:=hv.or S1
  cases x with
  | none=>rw[o.none];cases hb;exact rfl
  | bool i=>rw[o.bool];cases hb;exact rfl
  | int i=>rw[o.int];cases hb;exact rfl
  | str i =>
   rw[o.str];unfold fF at hb;dsimp only at hb;split at hb
   ·rename_i hl;cases hb;exact{hl,rfl}
   ·cases hb
  | list ds=>let{a,vs,rfl,h1,h2}:=o.list S1.fh;cases hb;exact .inl {vs,h1,(gJ h2).symm}
  | tuple ds=>let{a,vs,rfl,h1,h2}:=o.tuple S1.fh;cases hb;exact .inr<|.inl {vs,h1,(gJ h2).symm}
  | dict ds=>cases hb))
theorem pj(ha:AB X a ta)(he:∀whole,isTrue a X.env whole=(do let v <-whole;standAt a.pos;holding [v] (truthy v))):AT X a ta :=
 λG F Z H ρ Q S w=>zG (ya aO he)<|ha G F Z H ρ _ S<|w.imp λx F1 H1 s1 S1 w1=>{x,rfl,w1}
theorem iL(ha:AT X a ta):AW X (.BoolOp .And [a] pos) ta:=λG F Z H ρ Q S w=>xU (Bg eG)<|ha G F Z H ρ Q S w
theorem i6(ha:AT X a ta):AW X (.BoolOp .Or [a] pos) ta:=λG F Z H ρ Q S w=>xU (EZ eG)<|ha G F Z H ρ Q S w
theorem kM(ha:AT X a ta)(hb:AW X (.BoolOp .And (b::rest) pos) tb):AW X (.BoolOp .And (a::b::rest) pos) (NF ta tb) :=
 λG F Z H ρ Q S w=>xU (E0 eG oj) (ha G F Z H ρ _ S (w.bind.imp λt F1 H1 s1 S1 w1=>by
  cases t with
  | true=>exact hb G F1 Z H1 ρ Q S1 w1
  | false=>exact w1 F1 H1 ?I S1))
theorem iK(ha:AT X a ta)(hb:AW X (.BoolOp .Or (b::rest) pos) tb):AW X (.BoolOp .Or (a::b::rest) pos) (pOr ta tb) :=
 λG F Z H ρ Q S w=>xU (JU eG oj) (ha G F Z H ρ _ S (w.bind.imp λt F1 H1 s1 S1 w1=>by
  cases t with
  | true=>exact w1 F1 H1 ?I S1
  | false=>exact hb G F1 Z H1 ρ Q S1 w1))
theorem fB(h:AW X e ta):AT X e ta:=λG F Z H ρ Q S w=>zG (λpins s Z H Q I h=>oj _ pins s Z H Q I h)<|h G F Z H ρ Q S w
theorem eK(ha:AT X a ta):AT X (.UnaryOp .Not a pos) (K9 ta) :=
 λG F Z H ρ Q S w=>zG (KU eG)<|ha G F Z H ρ _ S<|w.bind.imp λt F1 H1 s1 S1 w1=>w1 F1 H1 ?I S1
theorem Cy(h:AP X a pa):AB X a (OZ pa):=λG F Z H ρ Q S w=>h G F Z H ρ Q S (w.bind.imp λd F1 H1 s1 S1 w1 v r=>by
 cases r with
 | bl b=>exact w1 F1 H1 ?I S1
 | QW=>exact w1.elim
 | int i=>exact w1.elim
 | str i=>exact w1.elim
 | tup _ _=>exact w1.elim
 | lst _ _=>exact w1.elim
 | UJ _ _ _=>exact w1.elim
 | Yz _ _ _=>exact w1.elim
 | exc _ _ _ _ _=>exact w1.elim
 | fn _=>exact w1.elim)
theorem kO{op}(h:AB X a ta):AB X (.BoolOp op [a] pos) ta:=λG F Z H ρ Q S w=>Rt (K2 aO)<|h G F Z H ρ Q S w
theorem kP(ha:AB X a ta)(hb:AB X (.BoolOp .And (b::rest) pos) tb):AB X (.BoolOp .And (a::b::rest) pos) (NF ta tb) :=
 λG F Z H ρ Q S w=>Rt (K6 aO aO) (ha G F Z H ρ _ S (w.bind.imp λt F1 H1 s1 S1 w1=>{t,rfl,by
  cases t with
  | true=>exact hb G F1 Z H1 ρ Q S1 w1
  | false=>exact w1 F1 H1 ?I S1}))
theorem Oj(ha:AB X a ta)(hb:AB X (.BoolOp .Or (b::rest) pos) tb):AB X (.BoolOp .Or (a::b::rest) pos) (pOr ta tb) :=
 λG F Z H ρ Q S w=>Rt (Nv aO aO) (ha G F Z H ρ _ S (w.bind.imp λt F1 H1 s1 S1 w1=>{t,rfl,by
  cases t with
  | true=>exact w1 F1 H1 ?I S1
  | false=>exact hb G F1 Z H1 ρ Q S1 w1}))
theorem G5(ha:AB X a ta):AB X (.UnaryOp .Not a pos) (K9 ta) :=
 λG F Z H ρ Q S w=>Rt (K3 aO)<|ha G F Z H ρ _ S<|w.bind.imp λt F1 H1 s1 S1 w1=>{t,rfl,w1 F1 H1 ?I S1}
theorem vy(hc:AT X c tc)(ha:AP X a pa)(hb:AP X b pb):AP X (.IfExp c a b pos) (pIf tc pa pb) :=
 λG F Z H ρ Q S w=>Rt (yd eG aO aO) (hc G F Z H ρ _ S (w.bind.imp λt F1 H1 s1 S1 w1=>by
  cases t with
  | true=>exact ha G F1 Z H1 ρ Q S1 w1
  | false=>exact hb G F1 Z H1 ρ Q S1 w1))
end
def BD(i j:Int):Bool:=(decide (-(2^64)<i)&&decide (i<2^64))||(decide (-(2^64)<j)&&decide (j<2^64))
def bD:D->D->SC D
 | .int i,.int j=>some<|.int<|i+j
 | .str a,.str b=>if a.length+b.length<=sizeLine then some (.str<|a++b)else none
 | .tuple a,.tuple b=>if a.length+b.length<=sizeLine then some (.tuple<|a++b)else none
 | .list a,.list b=>if a.length+b.length<=sizeLine then some (.list<|a++b)else none
 | _,_=>none
def gT:D->D->SC D
 | .int i,.int j=>some<|.int<|i - j
 | _,_=>none
def eS:D->D->SC D
 | .int i,.int j=>if BD i j then some (.int<|i*j)else none
 | _,_=>none
def rN:D->D->SC ?Q
 | .list a,.int k=>if decide (-(2^63)<=k)&&decide (k<2^63)&&decide (a.length*k.toNat<=sizeLine)then some (List.replicate k.toNat a).flatten else none
 | _,_=>none
def rO:D->D->SC D
 | .int i,.int j=>if decide (0<j)&&decide (j<1073741824)then some (.int<|i / j)else none
 | _,_=>none
def iw:D->D->SC D
 | .int i,.int j=>if 0<j then some (.int<|i % j)else none
 | _,_=>none
def BA:D->D->SC D
 | .int i,.int j=>if decide (0<=j)&&decide (j<=1000000)&&decide (i.natAbs<2^64)then some (.int<|i^j.toNat)else none
 | _,_=>none
def Fs:D->SC D
 | .int i=>some<|.int<|-i
 | _=>none
def zQ:D->D->SC Bool
 | .int i,.int j=>some<|decide<|i<j
 | _,_=>none
def dX:D->D->SC Bool
 | .int i,.int j=>some<|decide<|j<i
 | _,_=>none
def v0:D->D->SC Bool
 | .int i,.int j=>some<|decide<|j<=i
 | _,_=>none
def JS(K:Fg):R2:=λx y H Q=>∃a b xs ys,x=.ref a/\y=.ref b/\B_ K H a xs/\B_ K H b ys/\xs.length+ys.length<=sizeLine /\
 (xs=[]->Q (.ref b) H)/\(xs≠[]->ys=[]->Q (.ref a) H)/\(xs≠[]->ys≠[]->∀p,H p=none->Q (.ref p) (upd H p<|.tup<|xs++ys))
theorem Y0:QN X (binaryOp .Add) (JS X.K):=by
 intro pins s Z H x y v u Q I rx ry h;let{a,b,xs,ys,rfl,rfl,ha,hb,hz,q0,q1,q2}:=h;by_cases hx:xs=[]
 ·cases rx
  cases ry
  let{j_,r1,p1,_}:=I.tuple ha;let{Tt,r2,p2,_}:=I.tuple hb;have hv:=r1.Th.mpr hx;let{{cls,dd,data,sl},ho,hc,n,hd}:=id p1;let{{zar,Yy,data2,Yn},Tw,hc2,n2,hd2}:=id p2;subst hc hd hc2 hd2;exact concat_meets {_,ho,rfl} {_,Tw,rfl} noFill_tuple_add seq_tuple_add QD Qw (Qu _ _)
   (tuple_addW0 a b j_.toArray Tt.toArray n n2 dd Yy sl Yn (by simp[hv])) {ho,Tw,{.ref b,H,I,rfl,q0 hx}}
 ·exact HY pins s Z H _ _ v u Q I rx ry {a,b,xs,ys,rfl,rfl,ha,hb,hx,hz,q1 hx,q2 hx}
section
theorem SY{a:α}{P:Prop}(e:(none:SC α)=some a):P:=nomatch e
theorem okI{C:Int->Int->Prop}{g:Int->Int->V}{f:D->D->SC D}(h:∀dx dy res,f dx dy=some res->∃i j,dx=.int i/\dy=.int j/\C i j/\∀K F,Rep K F (g i j) res):Xg K (rI C g) f:=by
 intro G F Z H ρ x y dx dy res Q S ox oy e k;let{i,j,rfl,rfl,hc,hr}:=h dx dy res e;exact{i,j,ox.int,oy.int,hc,k _ F H ?I S<|hr K F}
theorem okB{g:Int->Int->Bool}{f:D->D->SC Bool}(h:∀dx dy res,f dx dy=some res->∃i j,dx=.int i/\dy=.int j/\res=g i j):Xt K (Wx λi j=>.bl<|g i j) f:=by
 intro G F Z H ρ x y dx dy res Q S ox oy e k;let{i,j,rfl,rfl,rfl}:=h dx dy res e;exact{i,j,ox.int,oy.int,k}
theorem oD:Xg K (Wx λi j=>.int<|i - j) gT:=by
 intro G F Z H ρ x y dx dy res Q S ox oy e k
 cases dx<;>first|exact SY e|(cases dy<;>first|exact SY e|cases e)
 exact{_,_,ox.int,oy.int,k _ F H ?I S<|.int _}
theorem NJ:Xt K (Wx λi j=>.bl<|decide<|i<j) zQ:=okB λdx dy res e=>by
 cases dx<;>first|exact SY e|(cases dy<;>first|exact SY e|cases e)
 exact{_,_,rfl,rfl,rfl}
theorem fV:Xt K (Wx λi j=>.bl<|decide<|j<i) dX:=okB λdx dy res e=>by
 cases dx<;>first|exact SY e|(cases dy<;>first|exact SY e|cases e)
 exact{_,_,rfl,rfl,rfl}
theorem uT:Xt K (Wx λi j=>.bl<|decide<|j<=i) v0:=okB λdx dy res e=>by
 cases dx<;>first|exact SY e|(cases dy<;>first|exact SY e|cases e)
 exact{_,_,rfl,rfl,rfl}
theorem v5:Xg K (rI Oo λi j=>.int<|i / j) rO:=okI λdx dy res e=>by
 cases dx<;>first|exact SY e|(cases dy<;>try (exact SY e))
 rename_i i j;dsimp only[rO]at e;split at e
 ·rename_i hc
  cases e
  simp  [am,QS]at hc;exact{i,j,rfl,rfl,hc,λ_ _=>.int _}
 ·cases e
theorem iU:Xg K (rI (λ_ j=>0<j) λi j=>.int<|i % j) iw:=okI λdx dy res e=>by
 cases dx<;>first|exact SY e|(cases dy<;>try (exact SY e))
 rename_i i j;dsimp only[iw]at e;split at e
 ·rename_i hc
  cases e
  exact{i,j,rfl,rfl,hc,λ_ _=>.int _}
 ·cases e
theorem Lm:Xg K (rI On λi j=>.int<|i^j.toNat) BA:=okI λdx dy res e=>by
 cases dx<;>first|exact SY e|(cases dy<;>try (exact SY e))
 rename_i i j;dsimp only[BA]at e;split at e
 ·rename_i hc
  cases e
  simp  [am,QS]at hc;exact{i,j,rfl,rfl,{hc.1.1,hc.1.2,hc.2},λ_ _=>.int _}
 ·cases e
theorem Ln:UnD K (rU λi=>.int<|-i) Fs:=by
 intro G F Z H ρ x dx res Q S ox e k
 cases dx<;>cases e
 exact{_,ox.int,k _ F H ?I S<|.int _}
theorem mT{ds:Re D}(r:i_ K F vs ds):vs=[]↔ds=[]:=by cases r<;>simp
def JR(K:Fg):R2:=λx y H Q=>∃l b xs zs,x=.ref l/\y=.ref b/\QO K H l xs/\QO K H b zs/\xs.length+zs.length<=sizeLine/\∀p,H p=none->Q (.ref p) (upd H p<|.lst<|xs++zs)
theorem HZ:QN X (binaryOp .Add) (JR X.K):=by
 intro pins s Z H x y v u Q I rx ry h;let{l,b,xs,zs,rfl,rfl,hH,hB,hz,q}:=h
 cases rx
 cases ry
 let{j_,r,pl,_}:=I.list hH;let{Tt,r2,pl2,_}:=I.list hB;let{{cls,dd,data,sl},ho,hc,n,hd}:=id pl.isList;let{{zar,Yy,data2,Yn},Tw,hc2,n2,hd2}:=id pl2.isList;subst hc hd hc2 hd2;have e:j_.toArray++Tt.toArray=(j_++Tt).toArray:=by simp
 refine concat_meets {_,ho,rfl} {_,Tw,rfl} noFill_list_add seq_list_add PySem.F.slot_list_add PySem.F.entry_list_add (PySem.F.args_list_add_2 _ _) (list_addW l b j_.toArray Tt.toArray n n2 dd Yy sl Yn (by rw[f8,f8,<-r.length,<-r2.length];exact hz)) {ho,Tw,?_};rw[e];exact{.ref _,_,I.laid  (o:=.lst (xs++zs)) (λb ob q=>z_ _ q) ?jm {by rw[R4];exact hz,_,0,r.append r2,QV _ rfl},rfl,q _ ?j2}
def Nc:R2:=λx y H Q=>∃i j,x=.str i/\y=.str j/\i.length+j.length<=sizeLine/\Q (.str<|i++j) H
def JT(K:Fg):R2:=λx y H Q=>Wx (λi j=>.int<|i+j) x y H Q\/(Nc x y H Q\/(JS K x y H Q\/JR K x y H Q))
theorem bq:QN X (binaryOp .Add) (JT X.K):=zab.or<|QN.or zP<|Y0.or HZ
theorem bH:Xg K (JT K) bD:=by
 intro G F Z H ρ x y dx dy res Q S ox oy e k
 cases dx<;>first|exact SY e|(cases dy<;>try (exact SY e))
 ·cases e;exact .inl {_,_,ox.int,oy.int,k _ F H ?I S<|.int _}
 ·dsimp only[bD]at e;split at e
  ·rename_i hz
   cases e
   exact .inr<|.inl {_,_,ox.str,oy.str,hz,k _ F H ?I S<|.str _}
  ·cases e
 ·dsimp only[bD]at e;split at e
  ·rename_i hz
   cases e
   let{a,vs,rfl,h1,h2}:=ox.list S.fh;let{b,us,rfl,g1,g2}:=oy.list S.fh;refine .inr (.inr (.inr {a,b,vs,us,rfl,rfl,h1,g1,by rw[h2.length,g2.length];exact hz,λp hp=>?_}));let{S2,r2}:=S.P_ hp<|h2.append g2;let{F2,s3,S3,r3}:=S2.settle r2;exact k _ F2 _ s3 S3 r3
  ·cases e
 ·dsimp only[bD]at e;split at e
  ·rename_i hz
   cases e
   let{a,vs,rfl,h1,h2}:=ox.tuple S.fh;let{b,us,rfl,g1,g2}:=oy.tuple S.fh;refine .inr (.inr (.inl {a,b,vs,us,rfl,rfl,h1,g1,by rw[h2.length,g2.length];exact hz,λz=>?_,λ_ z=>?_,λ_ _ p hp=>?_}))
   ·have z':=(mT h2).mp z;subst z';exact k _ F H ?I S oy.YJ
   ·have z':=(mT g2).mp z;subst z';exact k _ F H ?I S (by rw[ic];exact ox.YJ)
   ·let{s2,S2,r2}:=S.Rv hp<|h2.append g2;exact k _ _ _ s2 S2 r2
  ·cases e
theorem i_.rep{ds:Re D}(h:i_ K F vs ds):∀k:Nat,i_ K F (List.replicate k vs).flatten (List.replicate k ds).flatten
 | 0=>.nil
 | k+1=>(h.append<|i_.rep h k)
theorem jx:Xg K (rI Zy λi j=>.int<|i*j) eS:=okI λdx dy res e=>by
 cases dx<;>first|exact SY e|(cases dy<;>try (exact SY e))
 rename_i i j;dsimp only[eS]at e;split at e
 ·rename_i hc
  cases e
  unfold BD at hc;simp  [gs,am,QS]at hc;exact{i,j,rfl,rfl,hc,λ_ _=>.int _}
 ·cases e
end
def qk(d e:D):Bool:=d.canLay0&&e.canLay0&&decide (d.depth<=1000)
def bx(d e:D):SC Bool:=if qk d e then some (PyData.eqv d e)else none
def cW(d e:D):SC Bool:=if qk d e then some (!PyData.eqv d e)else none
def lC(d:D)(xs:Re D):Bool:=PyData.canLayAll0 xs&&d.canLay0&&decide (d.depth<=1000)
def J8(i j:Str):Bool:=!(Builtin.Str.occurrences j i 0 j.length 1).isEmpty
def yn(d c:D):SC Bool:=match c with
 | .list xs=>if lC d xs then some (xs.any λy=>PyData.eqv y d)else none
 | .tuple xs=>if lC d xs then some (xs.any λy=>PyData.eqv y d)else none
 | .str j=>match d with
  | .str i=>some<|J8 i j
  | _=>none
 | _=>none
def iu(d c:D):SC Bool:=match c with
 | .list xs=>if lC d xs then some (!xs.any λy=>PyData.eqv y d)else none
 | .tuple xs=>if lC d xs then some (!xs.any λy=>PyData.eqv y d)else none
 | .str j=>match d with
  | .str i=>some<|!J8 i j
  | _=>none
 | _=>none
def isNone:D->Bool
 | .none=>true
 | _=>false
def J0(d e:D):SC Bool:=match e with
 | .none=>some<|isNone d
 | _=>none
def Fq(d e:D):SC Bool:=match e with
 | .none=>some<|!isNone d
 | _=>none
def XF(K:Fg)(f:D->D->SC Bool):R2:=λx y H Q=>∃d e b,T6 K H x d/\T6 K H y e/\f d e=some b/\Q (.bl b) H
theorem bv{f:D->D->SC Bool}:Xt K (XF K f) f:=by
 intro G F Z H ρ x y dx dy res Q S ox oy e k;exact{dx,dy,res,ox.rep S.fh,oy.rep S.fh,e,k}
theorem Rep.Tf{d:D}(r:Rep K F v d):(decide<|v=.QW)=isNone d:=by
 cases r<;>rfl
theorem T6.Tf{d:D}(r:T6 K F v d):(decide<|v=.QW)=isNone d:=by
 let r||{a,kvs,es,rfl,rfl,_}:=r
 ·exact Rep.Tf r
 ·rfl
section
theorem bR(hu:X.A.units+1100<cLine):QN X (compareOp .Eq) (XF X.K bx):=by
 intro pins s Z H x y v u Q I rx ry ⟨d,e,b,r1,r2,ho,q⟩;unfold bx at ho;split at ho
 case isFalse=>cases ho
 rename_i hc
 cases ho
 simp  [qk,am,QS]at hc;let{as,ra}:=(cD I).1 (r1.of<|jF hc.1.1) hc.1.1 rx;let{bs,rb}:=(cD I).1 (r2.of<|jF hc.1.2) hc.1.2 ry;exact SeqAt.compareEq_reads ra rb hc.1.1 hc.1.2 ?Z {.bl _,H,I,rfl,q}
theorem dW(hu:X.A.units+1100<cLine):QN X (compareOp .NotEq) (XF X.K cW):=by
 intro pins s Z H x y v u Q I rx ry ⟨d,e,b,r1,r2,ho,q⟩;unfold cW at ho;split at ho
 case isFalse=>cases ho
 rename_i hc
 cases ho
 simp  [qk,am,QS]at hc;let{as,ra}:=(cD I).1 (r1.of<|jF hc.1.1) hc.1.1 rx;let{bs,rb}:=(cD I).1 (r2.of<|jF hc.1.2) hc.1.2 ry;exact SeqAt.compareNe_reads ra rb hc.1.1 hc.1.2 ?Z {.bl _,H,I,rfl,q}
theorem Lc(hu:X.A.units+1100<cLine):QN X (compareOp .In) (XF X.K yn):=by
 intro pins s Z H x y v u Q I rx ry ⟨d,e,b,r1,r2,ho,q⟩;unfold yn at ho;split at ho
 ·split at ho
  case isFalse=>cases ho
  rename_i hc
  cases ho
  simp  [lC,am,QS]at hc;let{as,ra}:=(cD I).1 (r1.of<|jF hc.1.2) hc.1.2 rx;let{bs,rb}:=(cD I).1 (r2.of rfl) (by simpa[PyData.canLay0]using hc.1.1) ry;exact SeqAt.in_list_reads rb ra hc.1.1 hc.1.2 ?Z {.bl _,H,I,rfl,q}
 ·split at ho
  case isFalse=>cases ho
  rename_i hc
  cases ho
  simp  [lC,am,QS]at hc;let{as,ra}:=(cD I).1 (r1.of<|jF hc.1.2) hc.1.2 rx;let{bs,rb}:=(cD I).1 (r2.of rfl) (by simpa[PyData.canLay0]using hc.1.1) ry;exact SeqAt.in_tuple_reads rb ra hc.1.1 hc.1.2 ?Z {.bl _,H,I,rfl,q}
 ·split at ho
  ·cases ho
   obtain rfl:=(r1.of rfl).str_inv;obtain rfl:=(r2.of rfl).str_inv;exact C3 pins s Z H _ _ v u Q I rx ry {_,_,rfl,rfl,q}
  ·cases ho
 ·cases ho
theorem C2(hu:X.A.units+1100<cLine):QN X (compareOp .NotIn) (XF X.K iu):=by
 intro pins s Z H x y v u Q I rx ry ⟨d,e,b,r1,r2,ho,q⟩;unfold iu at ho;split at ho
 ·split at ho
  case isFalse=>cases ho
  rename_i hc
  cases ho
  simp  [lC,am,QS]at hc;let{as,ra}:=(cD I).1 (r1.of<|jF hc.1.2) hc.1.2 rx;let{bs,rb}:=(cD I).1 (r2.of rfl) (by simpa[PyData.canLay0]using hc.1.1) ry;exact SeqAt.notIn_list_reads rb ra hc.1.1 hc.1.2 ?Z {.bl _,H,I,rfl,q}
 ·split at ho
  case isFalse=>cases ho
  rename_i hc
  cases ho
  simp  [lC,am,QS]at hc;let{as,ra}:=(cD I).1 (r1.of<|jF hc.1.2) hc.1.2 rx;let{bs,rb}:=(cD I).1 (r2.of rfl) (by simpa[PyData.canLay0]using hc.1.1) ry;exact SeqAt.notIn_tuple_reads rb ra hc.1.1 hc.1.2 ?Z {.bl _,H,I,rfl,q}
 ·split at ho
  ·cases ho
   obtain rfl:=(r1.of rfl).str_inv;obtain rfl:=(r2.of rfl).str_inv;exact vZ pins s Z H _ _ v u Q I rx ry {_,_,rfl,rfl,q}
  ·cases ho
 ·cases ho
theorem HW:QN X (compareOp .Is) (XF X.K J0):=by
 intro pins s Z H x y v u Q I rx ry ⟨d,e,b,r1,r2,ho,q⟩;unfold J0 at ho;split at ho
 ·cases ho
  cases r2.of rfl
  refine Lh pins s Z H x _ v u Q I rx ry {rfl,?_};rw[T6.Tf r1];exact q
 ·cases ho
theorem Fp:QN X (compareOp .IsNot) (XF X.K Fq):=by
 intro pins s Z H x y v u Q I rx ry ⟨d,e,b,r1,r2,ho,q⟩;unfold Fq at ho;split at ho
 ·cases ho
  cases r2.of rfl
  refine HX pins s Z H x _ v u Q I rx ry {rfl,?_};rw[T6.Tf r1];exact q
 ·cases ho
end
def fJ:D->D->SC D
 | .list ds,.int i=>VP ds i
 | .tuple ds,.int i=>VP ds i
 | .str z,.int i=>if z.length<=sizeLine then(VP z.cps.toList i).map λc=>.str {#[c]}else none
 | _,_=>none
theorem xu{ds:Re D}{i:Int}{d:D}(r:i_ K F vs ds)(h:VP ds i=some d):∃v,VP vs i=some v/\Rep K F v d:=by
 unfold VP at h ⊢;rw[r.length]
 cases q:WA ds.length i with
 | none=>rw[q]at h;cases h
 | some j =>
  rw[q]at h;exact r.get  h
theorem NL:Xg K (rIx K) fJ:=by
 intro G F Z H ρ x y dx dy res Q S ox oy e k
 cases dx<;>first|exact SY e|(cases dy<;>try (exact SY e))
 ·dsimp only[fJ]at e;split at e
  ·rename_i hz;let{c,hc,rfl}:=Option.map_eq_some_iff.mp e;exact .inr<|.inr {_,_,c,ox.str,oy.int,hz,hc,k _ F H ?I S<|.str _}
  ·cases e
 ·let{a,vs,rfl,h1,h2}:=ox.list S.fh;let{v,e1,e2}:=xu h2 e;exact .inl {a,vs,_,v,rfl,oy.int,h1,e1,k v F H ?I S e2}
 ·let{a,vs,rfl,h1,h2}:=ox.tuple S.fh;let{v,e1,e2}:=xu h2 e;exact .inr<|.inl {a,vs,_,v,rfl,oy.int,h1,e1,k v F H ?I S e2}
theorem Vals.one{us:Re SL}(h:Vals [v] us):∃u,us=[u]/\RelV v u:=by
 cases h with|cons a b=>cases b;exact{_,rfl,a}
def dE:Re D->SC D
 | [.list ds]=>some<|.int ds.length
 | [.tuple ds]=>some<|.int ds.length
 | [.str z]=>if z.length<=sizeLine then some (.int z.length)else none
 | _=>none
def cu:Re D->SC D
 | [.list ds]=>some<|.tuple ds
 | [.tuple ds]=>some<|.tuple ds
 | _=>none
def Gu:Re D->SC D
 | [.int i,.int j]=>some<|.int<|if j<i then j else i
 | _=>none
def KN(K:Fg):Re V->Hp->VK->Prop:=λxs H Q=>(∃p ys,xs=[.ref p]/\(QO K H p ys\/B_ K H p ys)/\Q (.int ys.length) H)\/∃z,xs=[.str z]/\z.length<=sizeLine/\Q (.int z.length) H
theorem bJ:l_ X (.builtin "len") (KN X.K):=l_.or wX wW
theorem cX:il K (KN K) dE:=by
 intro G F Z H ρ xs ds res Q S o e k;unfold dE at e;split at e
 ·cases e
  let{v,r,rfl,ho,hr}:=bN o;obtain rfl:=ci hr;let{a,vs,rfl,h1,h2}:=ho.list S.fh;exact .inl {a,vs,rfl,.inl h1,k _ F H ?I S (by rw[h2.length];exact .int _)}
 ·cases e
  let{v,r,rfl,ho,hr}:=bN o;obtain rfl:=ci hr;let{a,vs,rfl,h1,h2}:=ho.tuple S.fh;exact .inl {a,vs,rfl,.inr h1,k _ F H ?I S (by rw[h2.length];exact .int _)}
 ·split at e
  ·rename_i hz
   cases e
   let{v,r,rfl,ho,hr}:=bN o;obtain rfl:=ci hr;exact .inr {_,by rw[ho.str],hz,k _ F H ?I S<|.int _}
  ·cases e
 ·cases e
theorem cf:il K (λxs H Q=>∃p ys,xs=[.ref p]/\((QO K H p ys/\∀l,H l=none->Q (.ref l) (upd H l<|.tup ys))\/(B_ K H p ys/\Q (.ref p) H))) cu:=by
 intro G F Z H ρ xs ds res Q S o e k;unfold cu at e;split at e
 ·rename_i es
  cases e
  let{v,r,rfl,ho,hr}:=bN o;obtain rfl:=ci hr;let{a,vs,rfl,h1,h2}:=ho.list S.fh;refine{a,vs,rfl,.inl {h1,λl hl=>?_}};let{s2,S2,r2}:=S.Rv hl h2;exact k _ _ _ s2 S2 r2
 ·rename_i es
  cases e
  let{v,r,rfl,ho,hr}:=bN o;obtain rfl:=ci hr;have ho:=ho.YJ
  cases ho with
  | tup h1 h2=>exact{_,_,rfl,.inr {B_.of<|S.fh _ _ h1,k _ F H ?I S<|show Rep K F _ _ from .tup h1 h2}}
 ·cases e
theorem Ib:il K (λxs H Q=>∃i j,xs=[.int i,.int j]/\Q (.int<|if j<i then j else i) H) Gu:=by
 intro G F Z H ρ xs ds res Q S o e k;unfold Gu at e;split at e
 ·cases e
  let{v,r,rfl,ho,hr}:=bN o;let{v2,r2,rfl,Tw,hr2}:=bN hr;obtain rfl:=ci hr2;exact{_,_,by rw[ho.int,Tw.int],k _ F H ?I S<|(.int _)}
 ·cases e
def n9(d:D):Bool:=d.showable&&d.canLay0&&decide (d.depth<=1000)&&decide (d.shown.length<=sizeLine)
def ki:Re D->SC D
 | [d]=>if n9 d then some (.str d.shown)else none
 | _=>none
def JM(K:Fg):Re V->Hp->VK->Prop:=λxs H Q=>∃v d,xs=[v]/\Rep K H v d/\n9 d=true/\Q (.str d.shown) H
theorem qD:il K (JM K) ki:=by
 intro G F Z H ρ xs ds res Q S o e k;unfold ki at e;split at e
 ·rename_i d;split at e
  ·rename_i hc
   cases e
   let{v,r,rfl,ho,hr}:=bN o;obtain rfl:=ci hr;exact{v,d,rfl,(ho.rep S.fh).of (jF (by simp[n9]at hc;exact hc.1.1.2)),hc,k _ F H ?I S<|.str _}
  ·cases e
 ·cases e
theorem lq(hu:X.A.units+1100<cLine)(hg:X.A.guards=some []):l_ X (.builtin "repr") (JM X.K):=by
 intro pins s Z H xs us Q I r h0;let{v,d,rfl,rp,hc,q}:=h0;let{u,rfl,ru}:=Vals.one r;simp  [n9,am,QS]at hc;let{as,ra}:=(cD I).1 rp hc.1.1.2 ru;have big:∀a,v=.ref a->wpAny ?B X.A (call (.builtin "repr") [u]) ?jr X.xe s:=λa e=>by
  subst e
  cases ru
  exact repr_of_reads' ra hc.1.1.1 (PyData.noDict_hsm<|PyData.hasDict_of_canLay d hc.1.1.2) hg ?A (λ_ _ e=>e) (λh' u tk hk=>{.str _,H,I.kept hk,{_,rfl},q}) hc.2
 cases rp with
 | QW=>cases ru;exact PySem.P.repr_of_none {.str _,H,I.tok _,{_,rfl},q}
 | bl b=>cases ru;exact PySem.P.repr_of_bool {.str _,H,I.tok _,{_,rfl},q}
 | int i=>let{t,rfl}:=ru;exact PySem.P.repr_of_int (by simpa[PyData.showable]using hc.1.1.1) {.str _,H,I.tok _,{_,rfl},q}
 | str x=>let{t,rfl}:=ru;exact PySem.P.repr_of_str {.str _,H,I.tok _,{_,rfl},q} hc.2
 | tup h1 h2=>exact big _ rfl
 | lst h1 h2=>exact big _ rfl
 | UJ h1 h2 h3=>exact big _ rfl
 | Yz h1 h2 h3=>exact big _ rfl
 | exc _ _ _ _ _=>exact big _ rfl
 | fn _=>exact big _ rfl
def YI:D->String
 | .none => "NoneType"
 | .bool _ => "bool"
 | .int _ => "int"
 | .str _ => "str"
 | .list _ => "list"
 | .tuple _ => "tuple"
 | .dict es=>if mB es then "" else "dict"
def isS(T S:String):Bool:=S==T||(S == "bool" && T == "int")
def VG(T:String)(d:D):Bool:=isS T<|YI d
def intsOf:Re D->SC (Re Int)
 | []=>some []
 | .int i::r=>match intsOf r with
  | some l=>some<|i::l
  | none=>none
 | _=>none
theorem dP:∀{ds:Re D} {ns:Re Int},intsOf ds=some ns->ds=ns.map PyData.int
 | [],ns,h=>by cases h;rfl
 | .int i::r,ns,h=>by
  dsimp only[intsOf]at h;split at h
  ·rename_i l e;cases h;rw[dP e];rfl
  ·cases h
 | .none::_,_,h=>by cases h
 | .bool _::_,_,h=>by cases h
 | .str _::_,_,h=>by cases h
 | .list _::_,_,h=>by cases h
 | .tuple _::_,_,h=>by cases h
 | .dict _::_,_,h=>by cases h
theorem mC(ns:Re Int):intsOf ?jb=some ns:=by
 induction ns with
 | nil=>rfl
 | cons n r ih=>simp[intsOf,ih]
theorem eL{K:Fg}{F:Hp}:∀{vs:Re V} {ns:Re Int},i_ K F vs ?jb->vs=ns.map V.int
 | _,[],h=>by cases h;rfl
 | _,n::r,h=>by
  cases h with
  | cons a b=>cases a;rw[eL b];rfl
theorem fE:∀{ns:Re Int} {us:Re SL},Vals ?jM us->∃ps:Re (Int×Tok),us=ps.map (λp=>Value.int p.1 p.2)/\ps.map Prod.fst=ns
 | [],_,h=>by cases h;exact{[],rfl,rfl}
 | n::r,_,h=>by
  cases h with
  | cons a b =>
   let{t,rfl}:=a;let{ps,rfl,e}:=fE b;exact{(n,t)::ps,rfl,by simp[e]}
def qU(ns:Re Int):Bool:=ns.all (λi=>decide<|i.natAbs<=2^40)&&decide (ns.length<=2^20)
def IM:Re D->SC D
 | [.list ds]=>match intsOf ds with
  | some ns=>if qU ns then some (.int ns.sum)else none
  | none=>none
 | _=>none
def wD:Re Int->Int
 | []=>0
 | n::r=>r.foldl max n
def LY:Re D->SC D
 | [.list ds]=>match intsOf ds with
  | some (n::r)=>some<|.int<|wD<|n::r
  | _=>none
 | [.int i,.int j]=>some<|.int<|if j>i then j else i
 | _=>none
def pJ(K:Fg)(f:Re Int->SC Int):Re V->Hp->VK->Prop:=λxs H Q=>∃a ns i,xs=[.ref a]/\QO K H a ?jM/\f ns=some i/\Q (.int i) H
def wO(ns:Re Int):SC Int:=if qU ns then some ns.sum else none
def Dz:Re Int->SC Int
 | []=>none
 | ns=>some<|wD ns
theorem Ll:il K (pJ K wO) IM:=by
 intro G F Z H ρ xs ds res Q S o e k;unfold IM at e;split at e
 case h_2=>cases e
 split at e
 case h_2=>cases e
 rename_i ns WC;split at e
 case isFalse=>cases e
 rename_i hc
 cases e
 let{v,r,rfl,ho,hr}:=bN o;obtain rfl:=ci hr;let{a,vs,rfl,h1,h2}:=ho.list S.fh;rw[dP WC]at h2;rw[eL h2]at h1;exact{a,ns,_,rfl,h1,by unfold wO;rw[ar hc],k _ F H ?I S<|(.int _)}
theorem fW{ps:Re (Int×Tok)}{i:Nat}:numAt ps.toArray i=(ps.map Prod.fst).getD i 0:=by
 unfold numAt
 grind
theorem jh(ns:Re Int):∀j,j<=ns.length->preSum (λi=>ns.getD i 0) j=(ns.take j).sum
 | 0,_=>rfl
 | j+1,h=>by
  rw[preSum,jh ns j ?A,List.take_add_one]
  grind
theorem sum_bound(B:Nat):∀(ns:Re Int),(∀i∈ns,i.natAbs<=B)->ns.sum.natAbs<=ns.length*B
 | [],_=>by simp
 | n::r,h=>by
  have h1:=h n cr;have h2:=sum_bound B r λi hi=>h i<|Sw _ hi
  rw[P7,eE,Nat.succ_mul];omega
theorem DO(hc:X.calm=true):l_ X (.builtin "sum") (pJ X.K wO):=by
 intro pins s Z H xs us Q I r h0;let{a,ns,i,rfl,hq,e,q}:=h0;let{u,rfl,ru}:=Vals.one r
 cases ru
 unfold wO at e;split at e
 case isFalse=>cases e
 rename_i k_
 cases e
 let{j_,rv,pl,hz}:=I.list hq;let{ps,rfl,rfl}:=fE rv;have zan:∀j,numAt ps.toArray j=(ps.map Prod.fst).getD j 0:=λj=>fW
 have X_:=funext zan;unfold qU at k_;simp![am,ir,QS]at k_;have hl:s.heap.IsList a (intItems ps.toArray):=by
  have:=pl.isList;unfold intItems;simpa using this
 have bnd:∀j,j<=ps.length->((ps.map Prod.fst).take j).sum.natAbs<=2^60:=λj hj=>by
  have h1:=sum_bound (2^40) ((ps.map Prod.fst).take j) λi hi=>k_.1 i<|List.mem_of_mem_take hi
  grind
 refine sum_intList (I.ok.hd hc) hl (λj hj=>?_) λh' tk t' hk=>?_
 ·have Xm:j<ps.length:=(hj);rw[X_,jh _ _ ?Y];have h2:((ps.map Prod.fst).getD j 0).natAbs<=2^40:=by
   grind
  unfold InLong
  grind
 ·refine{.int _,H,I.kept hk,{_,rfl},?_};rw[X_,jh _ _ ?G,Cn ?G];exact q
theorem Lo:il K (λxs H Q=>pJ K Dz xs H Q\/∃i j,xs=[.int i,.int j]/\Q (.int<|if j>i then j else i) H) LY:=by
 intro G F Z H ρ xs ds res Q S o e k;unfold LY at e;split at e
 ·split at e
  case h_2=>cases e
  rename_i n r' WC
  cases e
  let{v,r,rfl,ho,hr}:=bN o;obtain rfl:=ci hr;let{a,vs,rfl,h1,h2}:=ho.list S.fh;rw[dP WC]at h2;rw[eL h2]at h1;exact .inl {a,_,_,rfl,h1,rfl,k _ F H ?I S<|(.int _)}
 ·cases e
  let{v,r,rfl,ho,hr}:=bN o;let{v2,r2,rfl,Tw,hr2}:=bN hr;obtain rfl:=ci hr2;exact .inr {_,_,by rw[ho.int,Tw.int],k _ F H ?I S<|(.int _)}
 ·cases e
theorem DB(r:Re Int):∀n:Int,n<=r.foldl max n/\(∀i∈r,i<=r.foldl max n)/\(r.foldl max n=n\/r.foldl max n∈r):=by
 induction r with
 | nil=>intro n;exact{Ch _,λi hi=>(nomatch hi),.inl rfl}
 | cons a r ih =>
  intro n;let{h1,h2,h3}:=ih<|max n a;rw[io];refine{by lia,λi hi=>?_,?_}
  ·let rfl||hi:=List.mem_cons.mp hi
   ·lia
   ·exact h2 i hi
  ·let h3||h3:=h3
   ·rw[h3];by_cases hna:n<=a
    ·right;rw[show max n a=a by lia];exact cr
    ·left;lia
   ·right;exact Sw _ h3
theorem uY{ns:Re Int}(h:ns≠[]):(∀i∈ns,i<=wD ns)/\wD ns∈ns:=by
 cases ns with
 | nil=>exact absurd rfl h
 | cons n r =>
  let{h1,h2,h3}:=DB r n;refine{λi hi=>?_,?_}
  ·let rfl||hi:=List.mem_cons.mp hi
   ·exact h1
   ·exact h2 i hi
  ·let h3||h3:=h3
   ·show r.foldl max n∈_;grind
   ·exact Sw _ h3
theorem DW(hc:X.calm=true):l_ X (.builtin "max") (pJ X.K Dz):=by
 intro pins s Z H xs us Q I r h0;let{a,ns,i,rfl,hq,e,q}:=h0;let{u,rfl,ru}:=Vals.one r
 cases ru
 let{j_,rv,pl,hz}:=I.list hq;let{ps,rfl,rfl}:=fE rv;have VH:ps≠[]:=by rintro rfl;cases e
 have Ve:ps.map Prod.fst≠[]:=by simpa using VH
 have ei:i=wD (ps.map Prod.fst):=by
  cases hp:ps.map Prod.fst with
  | nil=>exact absurd hp Ve
  | cons n r=>rw[hp]at e;cases e;rfl
 subst ei;have hl:s.heap.IsList a (intItems ps.toArray):=by
  have:=pl.isList;unfold intItems;simpa using this
 have X7:=List.length_pos_iff.mpr VH;refine max_intList (I.ok.hd hc) hl ((X7)) λv h' tk hv hk=>?_
 let{t,rfl}:=intItems_at hv;refine{.int _,H,I.kept hk,{_,rfl},?_};have b:=argBest_gt (numAt ps.toArray) ?qo;generalize argBest (λi j=>decide<|numAt ps.toArray i>numAt ps.toArray j) ?qo=m at b hv;have Uu:=uY Ve;have e1:numAt ps.toArray m=wD (ps.map Prod.fst):=by
  refine Int.le_antisymm ?_ ?_
  ·refine Uu.1 _ ?_;rw[fW]
   grind
  ·let{j,hj,ej}:=oR Uu.2;have h0:=b.2 j (by simp at hj ⊢;lia);rw[fW]at h0
   grind
 rw[e1];exact q
def O4(S T:String):SC Bool:=if(Value.type S==Value.type T)=true then some true else if PySem.W.kitMeta T=true then(fastBuiltinMro S).map (·.contains<|.type T)else none
theorem Iz:∀S∈["NoneType","bool","int","str","list","tuple","dict"],∀T∈["bool","int","str","list","tuple","dict"],O4 S T=some (isS T S):=by decide +kernel
theorem FZ(K:Fg)(h:qQ T=true)(d:D)(hx:∀es,d=.dict es->mB es=false):PySem.W.kitOne K (.type<|YI d) (.type T)=some (VG T d):=by
 simp  [qQ,gs,beq_iff_eq]at h;refine Iz (YI d) ?_ T (by rcases h with ((((rfl|rfl)|rfl)|rfl)|rfl)|rfl<;>simp)
 cases d with
 | dict es=>simp[YI,hx es rfl]
 | _=>simp[YI]
theorem wK{es:Re ?N}(h:es.map (·.1)=kvs.map ?qn):mB es=false:=by
 cases es with
 | nil=>rfl
 | cons e r =>
  cases kvs with
  | nil=>cases h
  | cons k ks =>
   let{e1,e2}:=e;simp  [ap,List.cons.injEq]at h;rw[h.1];rfl
theorem wL{kvs:Re (Key×V)}{es:Re ?N}(h:es.map (·.1)=kvs.map (λp=>s_ p.1)):mB es=false:=by
 cases es with
 | nil=>rfl
 | cons e r =>
  cases kvs with
  | nil=>cases h
  | cons k ks =>
   let{e1,e2}:=e;let{k1,k2}:=k;simp  [ap,List.cons.injEq]at h;rw[h.1]
   cases k1<;>rfl
theorem Hg(h:qQ T=true):isS T "" = false:=by
 simp  [qQ,gs,beq_iff_eq]at h;rcases h with ((((rfl|rfl)|rfl)|rfl)|rfl)|rfl<;>rfl
theorem u7(hT:qQ T=true){es:Re ?N}{u:SL}{Q:w_}{E:w_}(I:Inv X pins Z H s)(h1:Rd H a (.dT kvs))(h2:es.map (·.1)=kvs.map ?qn)(ru:RelV (.ref a) u)
  (h:∀tk,Q (.bool<|VG T<|.dict es) { s with toks:=tk }):wpAny ?B X.A (call (.builtin "isinstance") [u,.type T]) Q E s:=by
 have e:=FZ X.K hT (.dict es) λ_ z=>by cases z;exact wK h2
 rw[show YI (.dict _) = "dict" from by simp[YI,wK h2]]at e
 cases ru
 let{z,y,xs,kt,o,es,ep,g1,g2,_}:=lO I.k_ h1;exact xt PySem.W.kitx_dict I.S8 {o,g1,g2.1} e ?jd h
theorem Ag(hT:qQ T=true){d:D}{u:SL}{Q:w_}{E:w_}(I:Inv X pins Z H s)(rp:Rep X.K H v d)(nf:isFn d=false)(ru:RelV v u)
  (h:∀tk,Q (.bool<|VG T d) { s with toks:=tk }):wpAny ?B X.A (call (.builtin "isinstance") [u,.type T]) Q E s:=by
 have ee:=FZ X.K hT d
 cases rp with
 | QW =>
  have e:=ee λ_ z=>by cases z
  cases ru;exact xt PySem.W.kitx_none I.S8 True.intro e ?jd h
 | bl y =>
  have e:=ee λ_ z=>by cases z
  cases ru;exact xt PySem.W.kitx_bool I.S8 True.intro e ?jd h
 | int i =>
  have e:=ee λ_ z=>by cases z
  let{t,rfl}:=ru;exact xt PySem.W.kitx_int I.S8 True.intro e ?jd h
 | str y =>
  have e:=ee λ_ z=>by cases z
  let{t,rfl}:=ru;exact xt PySem.W.kitx_str I.S8 True.intro e ?jd h
 | lst h1 h2 =>
  have e:=ee λ_ z=>by cases z
  cases ru
  let{j_,_,{o,n,e1,e2,_},_}:=I.list h1;exact xt PySem.W.kitx_list I.S8 {o,e1,e2} e ?jd h
 | tup h1 h2 =>
  have e:=ee λ_ z=>by cases z
  cases ru
  let{j_,_,{o,e1,e2,_},_}:=I.tuple<|B_.of h1;exact xt PySem.W.kitx_tuple I.S8 {o,e1,e2} e ?jd h
 | UJ h1 h2 h3=>exact u7 hT I (.inr {_,h1}) h2 ru h
 | Yz h1 h2 h3 =>
  have e:=ee λ_ z=>by cases z;exact wL h2
  rw[show YI (.dict _) = "dict" from by simp[YI,wL h2]]at e
  cases ru
  let{z,y,xs,kt,o,es,ep,g1,g2,_}:=Cd I.k_ h1;exact xt PySem.W.kitx_dict I.S8 {o,g1,g2.1} e ?jd h
 | exc h1 q fx h2 h3 =>
  cases ru
  let{D,fI,xc}:=q.xc
  have at_:XAt H _ _ _:={h1,λdx z=>by
   let{z',_}||{dx',z',y}:=fx
   ·rw[z']at z;cases z
   ·rw[z']at z;cases z;exact{_,y}}
  refine sH I xc q.kc at_ (q.no T hT) ?_;rw[show VG T (.dict<|(.none,.str _)::_)=false from Hg hT]at h;exact h
 | fn _=>cases nf
section
variable {ρ':En}
theorem _root_.L3.b_.weak(S:b_ K G F Z H ρ)(hl:ρ'.length=ρ.length)(h:∀(i:Nat) (av:AV),ρ'[i]? = some (some av)->ρ[i]? = some (some av))(hp:∀(i:Nat) (c:OC),ρ[i]? = some (some<|AV.op c)->ρ'[i]? = some (some<|AV.op c)):b_ K G F Z H ρ':=by
 have ow':∀j c,own ρ' j c->own ρ j c:=λj c q=>q.imp (h _ _)<|h _ _
 refine{S.fh,S.oh,S.fo,S.ln.trans hl.symm,λj d q=>S.fz j d<|h _ _ q,λj c q=>S.ow j c<|ow' j c q,λj k c e a h1 h2=>S.dj j k c e a (ow' j c h1)<|ow' k e h2,λj a q=>?_,λj c q=>S.pq j c<|h _ _ q,S.fb}
 grind
theorem nX{k:Nat}{i:Nat}{av:AV}(h:?jS[i]? = some (some av)):ρ[i]? = some (some av):=by
 grind
theorem _root_.L3.b_.grow(S:b_ K G F Z H ρ)(k:Nat):b_ K G F (Z++List.replicate k none) H ?jS:=by
 have ow':∀i c,own ?jS i c->own ρ i c:=λi c h=>by
  let h||h:=h
  ·exact .inl<|nX h
  ·exact .inr<|nX h
 refine{S.fh,S.oh,S.fo,by simp[S.ln],λi d h=>?_,λi c h=>?_,λi j c e a h1 h2 e1 e2=>?_,λi a h=>?_,λi c h=>S.pq i c<|nX h,S.fb}
 ·grind
 ·grind
 ·grind
 grind
theorem _root_.L3.b_.shrink(S:b_ K G F Z H ρ)(hn:n<=ρ.length)(hp:∀i a,G.P i=some a->i<n):b_ K G F (Z.take n) H (ρ.take n):=by
 have tk:∀{i:Nat} {v:AV},(ρ.take n)[i]? = some (some v)->i<n/\ρ[i]? = some (some v):=λ{i v} e=>by
  have hi:i<n:=by
   have:=(List.getElem?_eq_some_iff.mp e).1;rw[P5]at this;lia
  rw[List.getElem?_take_of_lt hi]at e;exact{hi,e}
 have ow':∀i c,own (ρ.take n) i c->i<n/\own ρ i c:=λi c h=>by
  let h||h:=h
  ·exact{(tk h).1,.inl (tk h).2}
  ·exact{(tk h).1,.inr (tk h).2}
 refine{S.fh,S.oh,S.fo,by simp[S.ln],λi d h=>?_,λi c h=>?_,λi j c e a h1 h2 e1 e2=>?_,λi a h=>?_,λi c h=>S.pq i c (tk h).2,S.fb}
 ·grind
 ·grind
 ·grind
 grind
end
theorem qS{l l':Re α}(h:∀j,j<n->l'[j]? = l[j]?)(hl:l.length=n):l'.take n=l:=by
 apply List.ext_getElem?
 grind
inductive Kd where
 | z|f|o|p|t|k
 | i (x:Str) (ns:Re Str)|j (x:Str) (ns:Re Str)
 | n
@[reducible] def Rb:Re Kd->Type
 | []=>Unit
 | .z::r=>Rb r
 | .f::r=>D×Rb r
 | .o::r=>Re D×Rb r
 | .p::r=>Re D×Rb r
 | .t::r=>Re ?N×Rb r
 | .k::r=>Re ?N×Rb r
 | .i _ _::r=>Re D×Rb r
 | .j _ _::r=>Re D×Rb r
 | .n::r=>Re NK×Rb r
def rd:(sh:Re Kd)->En->SC (Rb sh)
 | [],[]=>some ()
 | .z::r,x::ρ=>match x with
  | some (.op _)=>none
  | _=>rd r ρ
 | .f::r,x::ρ=>match x with
  | some (.fz d)=>match rd r ρ with
   | some s=>some (d,s)
   | none=>none
  | _=>none
 | .o::r,x::ρ=>match x with
  | some (.ol<|.l ds)=>match rd r ρ with
   | some s=>some (ds,s)
   | none=>none
  | _=>none
 | .p::r,x::ρ=>match x with
  | some (.op<|.l ds)=>match rd r ρ with
   | some s=>some (ds,s)
   | none=>none
  | _=>none
 | .t::r,x::ρ=>match x with
  | some (.ol<|.t ds)=>match rd r ρ with
   | some s=>some (ds,s)
   | none=>none
  | _=>none
 | .k::r,x::ρ=>match x with
  | some (.ol<|.k ds)=>match rd r ρ with
   | some s=>some (ds,s)
   | none=>none
  | _=>none
 | .i y ns::r,x::ρ=>match x with
  | some (.ol<|.i z ms ds)=>if z=y/\ms=ns then(match rd r ρ with
   | some s=>some (ds,s)
   | none=>none)else none
  | _=>none
 | .j y ns::r,x::ρ=>match x with
  | some (.op<|.i z ms ds)=>if z=y/\ms=ns then(match rd r ρ with
   | some s=>some (ds,s)
   | none=>none)else none
  | _=>none
 | .n::r,x::ρ=>match x with
  | some (.ol<|.n ds)=>match rd r ρ with
   | some s=>some (ds,s)
   | none=>none
  | _=>none
 | _,_=>none
def wr:(sh:Re Kd)->Rb sh->En
 | [],_=>[]
 | .z::r,s=>none::wr r s
 | .f::r,s=>some (.fz s.1)::wr r s.2
 | .o::r,s=>some (.ol<|.l s.1)::wr r s.2
 | .p::r,s=>some (.op<|.l s.1)::wr r s.2
 | .t::r,s=>some (.ol<|.t s.1)::wr r s.2
 | .k::r,s=>some (.ol<|.k s.1)::wr r s.2
 | .i y ns::r,s=>some (.ol<|.i y ns s.1)::wr r s.2
 | .j y ns::r,s=>some (.op<|.i y ns s.1)::wr r s.2
 | .n::r,s=>some (.ol<|.n s.1)::wr r s.2
def Wk(w ρ:En):Prop:=w.length=ρ.length/\(∀(i:Nat) (av:AV),w[i]? = some (some av)->ρ[i]? = some (some av))/\(∀(i:Nat) (c:OC),ρ[i]? = some (some<|AV.op c)->w[i]? = some (some<|AV.op c))
theorem iq{w:En}{x:SC AV}(h:Wk w ρ):Wk (x::w) (x::ρ):=by
 refine{congrArg (· + 1) h.1,λi av q=>?_,λi c q=>?_}
 ·cases i with
  | zero=>exact q
  | succ i=>exact h.2.1 i av q
 ·cases i with
  | zero=>exact q
  | succ i=>exact h.2.2 i c q
theorem Hd{w:En}{x:SC AV}(hx:∀c,x≠some (AV.op c))(h:Wk w ρ):Wk (none::w) (x::ρ):=by
 refine{congrArg (· + 1) h.1,λi av q=>?_,λi c q=>?_}
 ·cases i with
  | zero=>cases q
  | succ i=>exact h.2.1 i av q
 ·cases i with
  | zero=>grind
  | succ i=>exact h.2.2 i c q
theorem jN:∀(sh:Re Kd) (ρ:En) (s:Rb sh),rd sh ρ=some s->Wk ?jT ρ
 | [],[],s,h=>{rfl,λi av q=>q,λi c q=>q}
 | [],_::_,s,h=>by cases h
 | a::r,[],s,h=>by cases a<;>cases h
 | .z::r,x::ρ,s,h=>by
  dsimp only[rd]at h;split at h
  ·cases h
  ·rename_i hx;exact Hd hx<|jN r ρ s h
 | .f::r,x::ρ,s,h=>by
  dsimp only[rd]at h;split at h
  ·split at h
   ·rename_i s' e
    cases h
    exact iq ?qJ
   ·cases h
  ·cases h
 | .o::r,x::ρ,s,h=>by
  dsimp only[rd]at h;split at h
  ·split at h
   ·rename_i s' e
    cases h
    exact iq ?qJ
   ·cases h
  ·cases h
 | .p::r,x::ρ,s,h=>by
  dsimp only[rd]at h;split at h
  ·split at h
   ·rename_i s' e
    cases h
    exact iq ?qJ
   ·cases h
  ·cases h
 | .t::r,x::ρ,s,h=>by
  dsimp only[rd]at h;split at h
  ·split at h
   ·rename_i s' e
    cases h
    exact iq ?qJ
   ·cases h
  ·cases h
 | .k::r,x::ρ,s,h=>by
  dsimp only[rd]at h;split at h
  ·split at h
   ·rename_i s' e
    cases h
    exact iq ?qJ
   ·cases h
  ·cases h
 | .i y ns::r,x::ρ,s,h=>by
  dsimp only[rd]at h;split at h
  ·split at h
   ·rename_i hc;split at h
    ·rename_i s' e
     cases h
     let{rfl,rfl}:=hc;exact iq ?qJ
    ·cases h
   ·cases h
  ·cases h
 | .j y ns::r,x::ρ,s,h=>by
  dsimp only[rd]at h;split at h
  ·split at h
   ·rename_i hc;split at h
    ·rename_i s' e
     cases h
     let{rfl,rfl}:=hc;exact iq ?qJ
    ·cases h
   ·cases h
  ·cases h
 | .n::r,x::ρ,s,h=>by
  dsimp only[rd]at h;split at h
  ·split at h
   ·rename_i s' e
    cases h
    exact iq ?qJ
   ·cases h
  ·cases h
theorem _root_.L3.b_.rd{sh:Re Kd}{s:Rb sh}(S:b_ K G F Z H ρ)(h:L4.rd sh ρ=some s):b_ K G F Z H ?jT:=by
 let{h1,h2,h3}:=jN sh ρ s h;exact S.weak h1 h2 h3
def SD{S:Type}(sh:Re Kd)(k:Rb sh->M S)(ρ:En):M S:=match rd sh ρ with
 | some s=>k s
 | none=>.bad
abbrev Ev(S α:Type):=(Ex->En->M S)->(α->En->M S)->En->M S
structure KS(S:Type) where
 nx:En->M S
 rt:D->En->M S
 rl:OC->En->M S
 bk:En->M S
 ct:En->M S
 x:Ex->En->M S
def T7{S:Type}(OK:M S->Prop):Prop:=¬ OK .bad
def XL{S:Type}(X:Cx)(OK:M S->Prop)(x:Ex->En->M S)(G:Gh):Prop:=∀F ρ e,OK (x e ρ)->XW X G F ρ e
def AE{S:Type}(X:Cx)(e:TW)(m:Ev S D):Prop :=
 ∀(OK:M S->Prop) (x:Ex->En->M S) (k:D->En->M S) (G:Gh) (F:Hp) (Z:L2.St) (H:Hp) (ρ:En) (Q:VK),T7 OK->XL X OK x G->b_ X.K G F Z H ρ->OK (m x k ρ) ->
  (∀d v F' H' ρ',c_ F F'->b_ X.K G F' Z H' ρ'->Rep X.K F' v d->OK (k d ρ')->Q v H')->gE X e Z H Q
def Xv{S:Type}(X:Cx)(e:TW)(m:Ev S Bool):Prop :=
 ∀(OK:M S->Prop) (x:Ex->En->M S) (k:Bool->En->M S) (G:Gh) (F:Hp) (Z:L2.St) (H:Hp) (ρ:En) (Q:Bool->Hp->Prop),T7 OK->XL X OK x G->b_ X.K G F Z H ρ->OK (m x k ρ) ->
  (∀d F' H' ρ',c_ F F'->b_ X.K G F' Z H' ρ'->OK (k d ρ')->Q d H')->uA X e Z H Q
def AEw{S:Type}(X:Cx)(e:TW)(m:Ev S Bool):Prop :=
 ∀(OK:M S->Prop) (x:Ex->En->M S) (k:Bool->En->M S) (G:Gh) (F:Hp) (Z:L2.St) (H:Hp) (ρ:En) (Q:Bool->Hp->Prop),T7 OK->XL X OK x G->b_ X.K G F Z H ρ->OK (m x k ρ) ->
  (∀d F' H' ρ',c_ F F'->b_ X.K G F' Z H' ρ'->OK (k d ρ')->Q d H')->uz X e Z H Q
def AEb{S:Type}(X:Cx)(e:TW)(m:Ev S Bool):Prop :=
 ∀(OK:M S->Prop) (x:Ex->En->M S) (k:Bool->En->M S) (G:Gh) (F:Hp) (Z:L2.St) (H:Hp) (ρ:En) (Q:VK),T7 OK->XL X OK x G->b_ X.K G F Z H ρ->OK (m x k ρ) ->
  (∀d F' H' ρ',c_ F F'->b_ X.K G F' Z H' ρ'->OK (k d ρ')->Q (.bl d) H')->gE X e Z H Q
def YE{S:Type}(X:Cx)(es:Re TW)(m:Ev S ?Q):Prop :=
 ∀(OK:M S->Prop) (x:Ex->En->M S) (k:Re D->En->M S) (G:Gh) (F:Hp) (Z:L2.St) (H:Hp) (ρ:En) (Q:Re V->Hp->Prop),T7 OK->XL X OK x G->b_ X.K G F Z H ρ->OK (m x k ρ) ->
  (∀ds vs F' H' ρ',c_ F F'->b_ X.K G F' Z H' ρ'->vs.length=es.length->i_ X.K F' vs ds->OK (k ds ρ')->Q vs H')->gQ X es Z H Q
def AEl{S:Type}(X:Cx)(e:TW)(m:Ev S ?Q):Prop :=
 ∀(OK:M S->Prop) (x:Ex->En->M S) (k:Re D->En->M S) (G:Gh) (F:Hp) (Z:L2.St) (H:Hp) (ρ:En) (Q:VK),T7 OK->XL X OK x G->b_ X.K G F Z H ρ->OK (m x k ρ) ->
  (∀ds v F' H' ρ',c_ F F'->b_ X.K G F' Z H' ρ'->Frs X.K G F' Z H' ρ' v (.l ds)->OK (k ds ρ')->Q v H')->gE X e Z H Q
def Zp{S α:Type}(p:Pu α):Ev S α:=λx k ρ=>(p ρ).on (λe=>x e ρ) λa=>k a ρ
section
variable {OK:M S->Prop} {x:Ex->En->M S} {k:α->En->M S} {p:Pu α} {C:α->Hp->Hp->Prop}
theorem W.of(hO:T7 OK)(hX:XL X OK x G)(h:OK (Zp p x k ρ))(w:∀a F' H',c_ F F'->b_ X.K G F' Z H' ρ->OK (k a ρ)->C a F' H'):W X G F Z ρ (p ρ) C:=by
 unfold Zp at h
 cases hp:p ρ with
 | ret a=>rw[hp]at h;exact λF' H' s S'=>w a F' H' s S' h
 | exc e=>rw[hp]at h;exact hX F ρ e h
 | bad=>rw[hp]at h;exact hO h
end
section
variable {a c:TW} {rest:Re TW} {p:Pu D} {pt:Pu Bool} {ps:Pu ?Q}
theorem aq(h:AP X e p):AE (S:=S) X e (Zp p):=λOK x k G F Z H ρ Q hO hX St ok kk=>h G F Z H ρ Q St<|W.of hO hX ok λd F' H' s S' o v r=>kk d v F' H' ρ s S' r o
theorem aW(h:AT X e pt):Xv (S:=S) X e (Zp pt):=λOK x k G F Z H ρ Q hO hX St ok kk=>h G F Z H ρ Q St<|W.of hO hX ok λd F' H' s S' o=>kk d F' H' ρ s S' o
theorem cK(h:AL X e ps):AEl (S:=S) X e (Zp ps):=λOK x k G F Z H ρ Q hO hX St ok kk=>h G F Z H ρ Q St<|W.of hO hX ok λd F' H' s S' o v r=>kk d v F' H' ρ s S' r o
def eB(m:Ev S Bool):Ev S D:=λx k ρ=>m x (λb ρ1=>k (.bool b) ρ1) ρ
def eZ(m:Ev S ?Q):Ev S D:=λx k ρ=>m x (λds ρ1=>k (.list ds) ρ1) ρ
def Mb(f:D->D->SC D)(a b:Ev S D):Ev S D:=λx k ρ=>a x (λd ρ1=>b x (λd2 ρ2=>(oM<|f d d2).on (λe=>x e ρ2) λr=>k r ρ2) ρ1) ρ
def Ki(f:D->D->SC Bool)(a b:Ev S D):Ev S Bool:=λx k ρ=>a x (λd ρ1=>b x (λd2 ρ2=>(oM<|f d d2).on (λe=>x e ρ2) λr=>k r ρ2) ρ1) ρ
def Pg:Ev S ?Q:=λ_ k ρ=>k [] ρ
def N4(m:Ev S D)(ms:Ev S ?Q):Ev S ?Q:=λx k ρ=>m x (λd ρ1=>ms x (λds ρ2=>k (d::ds) ρ2) ρ1) ρ
def Pf(ms:Ev S ?Q):Ev S D:=λx k ρ=>ms x (λds ρ1=>k (.tuple ds) ρ1) ρ
def Ph(ms:Ev S ?Q):Ev S ?Q:=λx k ρ=>ms x (λds ρ1=>k ds ρ1) ρ
def N5(f:Re D->SC D)(ms:Ev S ?Q):Ev S D:=λx k ρ=>ms x (λds ρ1=>(oM<|f ds).on (λe=>x e ρ1) λr=>k r ρ1) ρ
def Pj(a b:Ev S Bool):Ev S Bool:=λx k ρ=>a x (λt ρ1=>if t then b x k ρ1 else k false ρ1) ρ
def eOr(a b:Ev S Bool):Ev S Bool:=λx k ρ=>a x (λt ρ1=>if t then k true ρ1 else b x k ρ1) ρ
def eIf{α:Type}(c:Ev S Bool)(a b:Ev S α):Ev S α:=λx k ρ=>c x (λt ρ1=>if t then a x k ρ1 else b x k ρ1) ρ
theorem dC{OK:M S->Prop}(hO:T7 OK){o:SC α}{x:Ex->M S}{k:α->M S}(h:OK ((oM o).on x k)):∃a,o=some a/\OK (k a):=by
 cases o with
 | none=>exact(hO h).elim
 | some a=>exact{a,rfl,h}
theorem LX{OK:M S->Prop}(hO:T7 OK){ds:Re α}{x:Ex->M S}{k:Re α->M S}(h:OK ((cq ds).on x k)):ds.length<=sizeLine/\OK (k ds):=by
 unfold cq at h;split at h
 ·simp_all
 ·exact(hO h).elim
variable {ma mb m:Ev S D} {ta tb tc:Ev S Bool} {ms:Ev S ?Q}
theorem Pp(h:AEb X e ta):AE X e (eB ta):=λOK x k G F Z H ρ Q hO hX St ok kk=>h OK x _ G F Z H ρ Q hO hX St ok λb F' H' ρ' s S' o=>kk _ _ F' H' ρ' s S' (.bl b) o
theorem Jn(h:AEl X e ms):AE X e (eZ ms):=λOK x k G F Z H ρ Q hO hX St ok kk=>h OK x _ G F Z H ρ Q hO hX St ok λds v F' H' ρ' s S' fr o=>by
 let{F2,s2,S2,r2}:=S'.settle   fr
 grind
theorem qG{OK:M S->Prop}{x:Ex->En->M S}{f:D->D->En->M S}(ha:AE X a ma)(hb:AE X b mb)(hO:T7 OK)(hX:XL X OK x G)(St:b_ X.K G F Z H ρ)
  (ok:OK (ma x (λd ρ1=>mb x (λd2 ρ2=>f d d2 ρ2) ρ1) ρ)) (k:∀u v dx dy F' H' ρ',c_ F F'->b_ X.K G F' Z H' ρ'->Rep X.K F' u dx->Rep X.K F' v dy->OK (f dx dy ρ')->r u v H' Q):ZE r (gE X a) (gE X b) Z H Q :=
 ha OK x _ G F Z H ρ _ hO hX St ok λd v F1 H1 ρ1 s1 S1 r1 o1=>hb OK x _ G F1 Z H1 ρ1 _ hO hX S1 o1 λd2 u F2 H2 ρ2 s2 S2 r2 o2=>k v u d d2 F2 H2 ρ2 ?jo S2 ?qM r2 o2
theorem mL{op:Operator}{f:D->D->SC D}(ho:QN X (binaryOp op) r)(hf:Xg X.K r f)(ha:AE X a ma)(hb:AE X b mb):AE X (.BinOp a op b pos) (Mb f ma mb) :=
 λOK x k G F Z H ρ Q hO hX St ok kk=>Rt (Fh ho aO aO) (qG ha hb hO hX St ok λu v dx dy F' H' ρ' s S' r1 r2 o=>by
  let{res,e,o'}:=dC hO o
  exact hf G F' Z H' ρ' u v dx dy res Q S' (.inl r1) (.inl r2) e λw F2 H2 s2 S2 r3=>kk res w F2 H2 ρ' (s.trans s2) S2 r3 o')
theorem Og{f:D->D->SC D}(hr:WM X r)(hf:Xg X.K r f)(ha:AE X a ma)(hb:AE X b mb)(hs:xG b:=by exact λ_ _=>rfl):AE X (.Subscript a b pos) (Mb f ma mb) :=
 λOK x k G F Z H ρ Q hO hX St ok kk=>Rt (Bt hr aO aO hs) (qG ha hb hO hX St ok λu v dx dy F' H' ρ' s S' r1 r2 o=>by
  let{res,e,o'}:=dC hO o
  exact hf G F' Z H' ρ' u v dx dy res Q S' (.inl r1) (.inl r2) e λw F2 H2 s2 S2 r3=>kk res w F2 H2 ρ' (s.trans s2) S2 r3 o')
theorem Jm{f:D->D->SC Bool}(ho:QN X (compareOp op) r)(hf:Xt X.K r f)(ha:AE X a ma)(hb:AE X b mb)(hm:behindInMarks op b=false:=by rfl):AEb X (.Compare a [op] [b] pos) (Ki f ma mb) :=
 λOK x k G F Z H ρ Q hO hX St ok kk=>Rt (Bw ho aO aO hm) (qG ha hb hO hX St ok λu v dx dy F' H' ρ' s S' r1 r2 o=>by
  let{res,e,o'}:=dC hO o
  exact hf G F' Z H' ρ' u v dx dy res Q S' (.inl r1) (.inl r2) e<|kk res F' H' ρ' s S' o')
theorem xD{f:D->D->SC Bool}(ho:QN X (compareOp op) r)(hf:Xt X.K r f)(ha:AE X a ma)(hb:AE X b mb)(hm:behindInMarks op b=false:=by rfl):Xv X (.Compare a [op] [b] pos) (Ki f ma mb) :=
 λOK x k G F Z H ρ Q hO hX St ok kk=>zG (Bl ho aO aO hm) (qG  ha hb hO hX St ok λu v dx dy F' H' ρ' s S' r1 r2 o=>by
  let{res,e,o'}:=dC hO o
  exact hf G F' Z H' ρ' u v dx dy res _ S' (.inl r1) (.inl r2) e {res,rfl,kk res F' H' ρ' s S' o'})
theorem aV:YE (S:=S) X [] Pg:=λOK x k G F Z H ρ Q hO hX St ok kk=>zH iQ<|kk [] [] F H ρ ?I St rfl .nil ok
theorem aH(h:AE X e m)(hr:YE X es ms)(hs:starEach (e::es) X.env=?K::starEach es X.env:=by exact gF rfl):YE X (e::es) (N4 m ms) :=
 λOK x k G F Z H ρ Q hO hX St ok kk=>zH (dO aO cI hs) (h OK x _ G F Z H ρ _ hO hX St ok λd v F1 H1 ρ1 s1 S1 r1 o1 =>
  hr OK x _ G F1 Z H1 ρ1 _ hO hX S1 o1 λds vs F2 H2 ρ2 s2 S2 hl r2 o2=>kk (d::ds) (v::vs) F2 H2 ρ2 ?jo S2 (by simp[hl]) (.cons ?qM r2) o2)
theorem tT{x1}(h:YE X es ms)(hz:es.length<=1000:=by decide +kernel):AE X (.Tuple es x1 pos) (Pf ms) :=
 λOK x k G F Z H ρ Q hO hX St ok kk=>Rt (zM cI) (h OK x _ G F Z H ρ _ hO hX St ok λds vs F1 H1 ρ1 s1 S1 hl r1 o1=>by
  refine{by rw[hl];exact mw hz,λq hq=>?_};let{s2,S2,r2}:=S1.Rv hq r1
  exact kk _ _ _ _ ρ1 ?jo S2 r2 o1)
theorem Jk(h:YE X es ms)(hz:es.length<=1000:=by decide +kernel):AEl X (.List es pos) (Ph ms) :=
 λOK x k G F Z H ρ Q hO hX St ok kk=>Rt (zN cI) (h OK x _ G F Z H ρ _ hO hX St ok λds vs F1 H1 ρ1 s1 S1 hl r1 o1=>by
  refine{by rw[hl];exact mw hz,λq hq=>?_};let{S2,r2}:=S1.P_ hq r1
  exact kk _ _ _ _ ρ1 s1 S2 r2 o1)
theorem G1(ha:Xv X a ta):AEw X (.BoolOp .And [a] pos) ta:=λOK x k G F Z H ρ Q hO hX St ok kk=>xU (Bg eG)<|ha OK x k G F Z H ρ Q hO hX St ok kk
theorem Ji(ha:Xv X a ta):AEw X (.BoolOp .Or [a] pos) ta:=λOK x k G F Z H ρ Q hO hX St ok kk=>xU (EZ eG)<|ha OK x k G F Z H ρ Q hO hX St ok kk
theorem Jj(ha:Xv X a ta)(hb:AEw X (.BoolOp .And (b::rest) pos) tb):AEw X (.BoolOp .And (a::b::rest) pos) (Pj ta tb) :=
 λOK x k G F Z H ρ Q hO hX St ok kk=>xU (E0 eG oj) (ha OK x _ G F Z H ρ _ hO hX St ok λt F1 H1 ρ1 s1 S1 o1=>by
  cases t with
  | true=>exact hb OK x k G F1 Z H1 ρ1 Q hO hX S1 o1 λd F2 H2 ρ2 s2 S2 o2=>kk d F2 H2 ρ2 ?jo S2 o2
  | false=>grind)
theorem Mz(ha:Xv X a ta)(hb:AEw X (.BoolOp .Or (b::rest) pos) tb):AEw X (.BoolOp .Or (a::b::rest) pos) (eOr ta tb) :=
 λOK x k G F Z H ρ Q hO hX St ok kk=>xU (JU eG oj) (ha OK x _ G F Z H ρ _ hO hX St ok λt F1 H1 ρ1 s1 S1 o1=>by
  cases t with
  | true=>grind
  | false=>exact hb OK x k G F1 Z H1 ρ1 Q hO hX S1 o1 λd F2 H2 ρ2 s2 S2 o2=>kk d F2 H2 ρ2 ?jo S2 o2)
theorem G4(h:AEw X e ta):Xv X e ta:=λOK x k G F Z H ρ Q hO hX St ok kk=>zG (λpins s Z H Q I h=>oj _ pins s Z H Q I h)<|h OK x k G F Z H ρ Q hO hX St ok kk
theorem Oh(hc:Xv X c tc)(ha:AE X a ma)(hb:AE X b mb):AE X (.IfExp c a b pos) (eIf tc ma mb) :=
 λOK x k G F Z H ρ Q hO hX St ok kk=>Rt (yd eG aO aO) (hc OK x _ G F Z H ρ _ hO hX St ok λt F1 H1 ρ1 s1 S1 o1=>by
  cases t with
  | true=>exact ha OK x k G F1 Z H1 ρ1 Q hO hX S1 o1 λd v F2 H2 ρ2 s2 S2 r2 o2=>kk d v F2 H2 ρ2 ?jo S2 r2 o2
  | false=>exact hb OK x k G F1 Z H1 ρ1 Q hO hX S1 o1 λd v F2 H2 ρ2 s2 S2 r2 o2=>kk d v F2 H2 ρ2 ?jo S2 r2 o2)
theorem i_.ors{ds:Re D}(h:i_ K F vs ds):Xu K F H vs ds:=by
 induction vs generalizing ds with
 | nil=>cases h;exact .nil
 | cons v vs ih=>cases h with
  | cons a b=>exact .cons (.inl a)<|ih b
theorem ly{p:Pos}{r:Re V->Hp->VK->Prop}{f:Re D->SC D}(hc:l_ X (.type T) r)(hf:il X.K r f)(hm:X.mg x=none)(hv:bootBuiltins x=some (.type T))(ha:YE X (e::es) ms)(hg:Gl X x:=by rfl)
  (hn:x ≠ "__name__":=by decide) (Sf:(x==("__debug__" : Str))=false:=by decide) (he:starEach (e::es) X.env=?K::starEach es X.env:=by rfl) (Q7:(backTo pos ?T).any (·.1)=false:=by rfl):AE X (.Call (.Name x p) (e::es) [] pos) (N5 f ms) :=
 λOK y k G F Z H ρ Q hO hX St ok kk=>Rt (oA hc hg hm hv cI hn Sf he Q7) (ha OK y _ G F Z H ρ _ hO hX St ok λds vs F1 H1 ρ1 s1 S1 _ r1 o1=>by
  let{res,e,o'}:=dC hO o1
  exact hf G F1 Z H1 ρ1 vs ds res Q S1 (i_.ors r1) e λw F2 H2 s2 S2 r3=>kk res w F2 H2 ρ1 ?jo S2 r3 o')
end
structure Walk(K:Fg)(J:It)(ds:Re D)(F:Hp):Prop where
 go:∀(i:Nat) (G:Gh) (F2:Hp) (Z:L2.St) (H2:Hp) (ρ:En),c_ F F2->b_ K G F2 Z H2 ρ->i<ds.length->J.go i H2
 VB:∀(i:Nat) (G:Gh) (F2:Hp) (Z:L2.St) (H2:Hp) (ρ:En) (x:V) (H3:Hp) (d:D),c_ F F2->b_ K G F2 Z H2 ρ->ds[i]? = some d->J.VB i H2 x H3->∃F3,c_ F2 F3/\b_ K G F3 Z H3 ρ/\Rep K F3 x d
 stop:∀(G:Gh) (F2:Hp) (Z:L2.St) (H2:Hp) (ρ:En),c_ F F2->b_ K G F2 Z H2 ρ->J.stop ds.length H2
theorem CH{ds:Re D}(h:QO K F a vs)(r:i_ K F vs ds):Walk K (Itl K a) ds F where
 go:=λi G F2 Z H2 ρ s S hi=>by
  have Xn:i<vs.length:=by rw[r.length];exact hi
  exact{vs,vs[i],S.fh.seq<|s.seq h,by simp }
 VB:=λi G F2 Z H2 ρ x H3 d s S hd ⟨e,q⟩=>by
  let{v,e1,e2}:=r.get hd;have:=q vs<|S.fh.seq<|s.seq h
  grind
 stop:=λG F2 Z H2 ρ s S=>{vs,S.fh.seq<|s.seq h,by rw[r.length];exact ac _}
theorem Eg{ds:Re D}(h:B_ K F a vs)(r:i_ K F vs ds):Walk K (Itt K a) ds F where
 go:=λi G F2 Z H2 ρ s S hi=>by
  have Xn:i<vs.length:=by rw[r.length];exact hi
  exact{vs,vs[i],bK S.fh<|bK s h,by simp }
 VB:=λi G F2 Z H2 ρ x H3 d s S hd ⟨e,q⟩=>by
  let{v,e1,e2}:=r.get hd;have:=q vs<|bK S.fh<|bK s h
  grind
 stop:=λG F2 Z H2 ρ s S=>{vs,bK S.fh<|bK s h,by rw[r.length];exact ac _}
def j2(lo:Int)(n:Nat):Re D:=(List.range n).map λ(i:Nat)=>PyData.int<|lo+(i:Int)
theorem iP(lo:Int)(n:Nat):(j2 lo n).length=n:=by simp[j2]
theorem qN(lo:Int)(n:Nat):Walk K (Itr lo n) (j2 lo n) F where
 go:=λi G F2 Z H2 ρ s S hi=>by rw[iP]at hi;exact hi
 VB:=λi G F2 Z H2 ρ x H3 d s S hd ⟨e,q⟩=>by
  subst e q;have e':(j2 lo n)[i]? = some d:=hd;unfold j2 at e';rw[je]at e';have hi:i<n:=by
   have:=(List.getElem?_eq_some_iff.mp hd).1;rw[iP]at this;exact this
  rw[List.getElem?_range hi]at e'
  cases e'
  exact{F2,c_.refl _,S,.int _}
 stop:=λG F2 Z H2 ρ s S=>by rw[iP];exact ac _
@[irreducible] def pF(X:Cx)(tg iter:TW):TI:=λZ H R=>∀(pins:C_) (s:SZ),Inv X pins Z H s->wpAny ?B X.A (eval iter X.env) (λv s1=>wpAny ?B X.A (pyIter v) (PIE X pins Z tg R) X.xe s1) X.xe s
theorem rE:PI X tg e (pF X tg e):=λpins s Z H R I h=>by unfold pF at h;exact h pins s I
theorem vP{t:TI}(h:PI X tg e t)(q:t Z H R):pF X tg e Z H R:=by unfold pF;exact λpins s I=>h pins s Z H R I q
def AI(X:Cx)(tg e:TW)(p:Pu ?Q):Prop :=
 ∀(G:Gh) (F:Hp) (Z:L2.St) (H:Hp) (ρ:En) (R:It->Hp->Prop),b_ X.K G F Z H ρ->W X G F Z ρ (p ρ) (λds F' H'=>∀J,Walk X.K J ds F'->R J H')->pF X tg e Z H R
def AEi{S:Type}(X:Cx)(tg e:TW)(m:Ev S ?Q):Prop :=
 ∀(OK:M S->Prop) (x:Ex->En->M S) (k:Re D->En->M S) (G:Gh) (F:Hp) (Z:L2.St) (H:Hp) (ρ:En) (R:It->Hp->Prop),T7 OK->XL X OK x G->b_ X.K G F Z H ρ->OK (m x k ρ) ->
  (∀ds J F' H' ρ',c_ F F'->b_ X.K G F' Z H' ρ'->Walk X.K J ds F'->OK (k ds ρ')->R J H')->pF X tg e Z H R
theorem bI{ps:Pu ?Q}(h:AI X tg e ps):AEi (S:=S) X tg e (Zp ps):=λOK x k G F Z H ρ Q hO hX St ok kk=>h G F Z H ρ Q St<|W.of hO hX ok λd F' H' s S' o v r=>kk d v F' H' ρ s S' r o
def Pb(K:Fg)(tl:TE):TI:=λZ H R=>tl Z H λx H1=>(∃a,x=.ref a/\(∃xs,QO K H1 a xs)/\R (Itl K a) H1)\/∃a,x=.ref a/\(∃xs,B_ K H1 a xs)/\R (Itt K a) H1
theorem E9{l:TW}{tl:TE}(hl:PE X l tl):PI X tg l (Pb X.K tl):=by
 intro pins s Z H R I h;refine p_ (hl pins s Z H _ I h) λv s1 ⟨x,H1,I1,r1,q1⟩=>?_
 let{a,e,{xs,hq},q}||{a,e,{xs,hq},q}:=q1
 ·subst e
  cases r1
  let{j_,rv,p,hz}:=I1.list hq;refine PU p.isList ?_;refine{s1.heap.objs.size,[s1.heap.objs.size],_,_,H1,rfl,I1.kept  λb o e=>z_ _ e,n4 a _,{_,QV _ rfl,rfl,rfl},λb hb=>?_,q};have e:=by simpa using hb
  subst e;exact I1.RJ ?jm ?jJ
 ·subst e
  cases r1
  let{j_,rv,p,hz}:=I1.tuple hq;refine pr ((p)) ?_;refine{s1.heap.objs.size,[s1.heap.objs.size],_,_,H1,rfl,I1.kept  λb o e=>z_ _ e,qR a _,{_,QV _ rfl,rfl,rfl},λb hb=>?_,q};have e:=by simpa using hb
  subst e;exact I1.RJ ?jm ?jJ
def cH:D->SC ?Q
 | .list ds=>some ds
 | .tuple ds=>some ds
 | _=>none
def pIt(p:Pu D):Pu ?Q:=λρ=>bd (p ρ) λd=>oM<|cH d
def eIt{S:Type}(m:Ev S D):Ev S ?Q:=λx k ρ=>m x (λd ρ1=>(oM<|cH d).on (λe=>x e ρ1) λr=>k r ρ1) ρ
def jv(i:Int):Bool:=decide (-(2^62)<=i)&&decide (i<2^62)
theorem fH{i:Int}(h:jv i=true) : -(2^62)<=i/\i<2^62:=by
 unfold jv at h;simp![am,QS]at h;exact h
def bw:Re D->SC ?Q
 | [.int j]=>if jv j then some (j2 0 j.toNat)else none
 | _=>none
def eA:Re D->SC ?Q
 | [.int i,.int j]=>if jv i&&jv j then some (j2 i (j - i).toNat)else none
 | _=>none
def L9{S:Type}(f:Re D->SC ?Q)(ms:Ev S ?Q):Ev S ?Q:=λx k ρ=>ms x (λds ρ1=>(oM<|f ds).on (λe=>x e ρ1) λr=>k r ρ1) ρ
section
variable {a:TW} {pp:Pu D} {ps:Pa ?Q} {m:Ev S D} {ms:Ev S ?Q}
theorem q8{d:D}{ds:Re D}(s:c_ F H)(r:Rep X.K F v d)(hd:cH d=some ds)(k:∀J,Walk X.K J ds F->R J H) :
  (∃a,v=.ref a/\(∃xs,QO X.K H a xs)/\R (Itl X.K a) H)\/∃a,v=.ref a/\(∃xs,B_ X.K H a xs)/\R (Itt X.K a) H:=by
 cases d with
 | list xs =>
  cases hd
  let{a,vs,rfl,h1,h2}:=r.lst_inv;exact .inl {_,rfl,{_,s.seq h1},k _<|CH h1 h2}
 | tuple xs =>
  cases hd
  let{a,vs,rfl,h1,h2}:=r.QX;exact .inr {_,rfl,{_,B_.of<|s _ _ h1},k _<|Eg (B_.of h1) h2}
 | _=>exact SY hd
theorem bZ(h:AP X e pp):AI X tg e (pIt pp):=λG F Z H ρ R S w=>vP (E9 aO) (h G F Z H ρ _ S (w.bind.imp λd F1 H1 s1 S1 w1 v r1=>by
 let{ds,hd,k}:=w1.opt
 exact q8 S1.fh r1 hd ?qN))
theorem Jl(h:AE X e m):AEi X tg e (eIt m):=λOK x k G F Z H ρ R hO hX St ok kk=>vP (E9 aO) (h OK x _ G F Z H ρ _ hO hX St ok λd v F1 H1 ρ1 s1 S1 r1 o1=>by
 let{ds,hd,o}:=dC hO o1
 exact q8 S1.fh r1 hd λJ wk=>kk ds J F1 H1 ρ1 s1 S1 wk o)
theorem uP{ds out:Re D}(r:i_ X.K F vs ds)(h:bw ds=some out)(k:∀J,Walk X.K J out F->R J H):∃j,vs=[.int j] /\ -(2^62)<=j/\j<2^62/\R (Itr 0 j.toNat) H:=by
 unfold bw at h;split at h
 ·rename_i j;split at h
  ·rename_i hs
   cases h
   let{v,rfl,r1}:=r.Te;obtain rfl:=r1.int_inv;exact{j,rfl,(fH hs).1,(fH hs).2,k _<|qN 0 j.toNat}
  ·cases h
 ·cases h
theorem CY{ds out:Re D}(r:i_ X.K F vs ds)(h:eA ds=some out)(k:∀J,Walk X.K J out F->R J H) :
  ∃i j,vs=[.int i,.int j]/\(-(2^62)<=i/\i<2^62 /\ -(2^62)<=j/\j<2^62)/\R (Itr i (j - i).toNat) H:=by
 unfold eA at h;split at h
 ·rename_i i j;split at h
  ·rename_i hs
   cases h
   rw[am]at hs;let{v,u,rfl,r1,r3}:=r.Ww;obtain rfl:=r1.int_inv;obtain rfl:=r3.int_inv;exact{i,j,rfl,{(fH hs.1).1,(fH hs.1).2,(fH hs.2).1,(fH hs.2).2},k _<|qN i (j - i).toNat}
  ·cases h
 ·cases h
theorem bE(hg:Gl X "range")(hm:X.mg "range"=none)(ha:AA X [a] ps)(hs:starEach [a] X.env=[?j6]):AI X tg (.Call (.Name "range" p) [a] [] pos) (j7 bw ps) :=
 λG F Z H ρ R S w=>vP (uQ hg hm cI hs) (ha G F Z H ρ _ _ _ S w λds vs F1 H1 s1 S1 _ r1 w1=>by
  let{out,hd,k}:=w1.opt
  exact uP r1 hd ?qN)
theorem js(hg:Gl X "range")(hm:X.mg "range"=none)(ha:AA X [a,b] ps)(hs:starEach [a,b] X.env=[?j6,(false,eval b X.env)])(Tu:starEach [b] X.env=[(false,eval b X.env)]):AI X tg (.Call (.Name "range" p) [a,b] [] pos) (j7 eA ps) :=
 λG F Z H ρ R S w=>vP (C0 hg hm cI hs Tu) (ha G F Z H ρ _ _ _ S w λds vs F1 H1 s1 S1 _ r1 w1=>by
  let{out,hd,k}:=w1.opt
  exact CY r1 hd ?qN)
theorem AR(hg:Gl X "range")(hm:X.mg "range"=none)(ha:YE X [a] ms)(hs:starEach [a] X.env=[?j6]):AEi X tg (.Call (.Name "range" p) [a] [] pos) (L9 bw ms) :=
 λOK x k G F Z H ρ R hO hX St ok kk=>vP (uQ hg hm cI hs) (ha OK x _ G F Z H ρ _ hO hX St ok λds vs F1 H1 ρ1 s1 S1 _ r1 o1=>by
  let{out,hd,o}:=dC hO o1
  exact uP r1 hd λJ wk=>kk out J F1 H1 ρ1 s1 S1 wk o)
end
abbrev Tg(S:Type):=D->?qO->En->M S
def jO(ρ:En)(i:Nat):Bool:=decide (i<ρ.length)&&(match ρ[i]? with
 | some (some<|.op _)=>false
 | _=>true)
theorem dZ{i:Nat}(h:jO ρ i=true):i<ρ.length/\∀c,ρ[i]? ≠ some (some<|.op c):=by
 unfold jO at h
 grind
@[irreducible] def uB(X:Cx)(tg:TW):TG:=λv Z H Q=>∀(pins:C_) (s:SZ) (u:SL),Inv X pins Z H s->RelV v u->wpAny ?B X.A (assign tg X.env u) (λ_ s'=>∃σ' H',Inv X pins σ' H' s'/\Q σ' H') X.xe s
@[irreducible] def qT(X:Cx)(YL:Re TW):Zx:=λvs Z H Q=>∀(pins:C_) (s:SZ) (us:Re SL),Inv X pins Z H s->Vals vs us->wpAny ?B X.A (assignInOrder ((assignEach YL X.env).map (·.2)) us) (λ_ s'=>∃σ' H',Inv X pins σ' H' s'/\Q σ' H') X.xe s
theorem lW:PG X tg (uB X tg):=λpins s Z H v u Q I r h=>by unfold uB at h;exact h pins s u I r
theorem Br{YL:Re TW}:PGs X YL (qT X YL):=λpins s Z H vs us Q I r h=>by unfold qT at h;exact h pins s us I r
theorem MX{t:TG}{Q:L2.St->Hp->Prop}(h:PG X tg t)(q:t v Z H Q):uB X tg v Z H Q:=by unfold uB;exact λpins s u I r=>h pins s Z H v u Q I r q
theorem Jz{YL:Re TW}{t:Zx}{Q:L2.St->Hp->Prop}(h:PGs X YL t)(q:t vs Z H Q):qT X YL vs Z H Q:=by unfold qT;exact λpins s us I r=>h pins s Z H vs us Q I r q
def AG{S:Type}(X:Cx)(n:Nat)(tg:TW)(st:Tg S):Prop :=
 ∀(OK:M S->Prop) (k:En->M S) (G:Gh) (F:Hp) (Z:L2.St) (H:Hp) (ρ:En) (v:V) (d:D) (Q:L2.St->Hp->Prop),T7 OK->b_ X.K G F Z H ρ->Rep X.K F v d->OK (st d k ρ) ->
  (∀σ' ρ',b_ X.K G F σ' H ρ'->(∀j,j<n->σ'[j]? = Z[j]? /\ ρ'[j]? = ρ[j]?)->σ'.length=Z.length->ρ'.length=ρ.length->OK (k ρ')->Q σ' H)->uB X tg v Z H Q
def AGs{S:Type}(X:Cx)(n:Nat)(YL:Re TW)(st:Re D->?qO->En->M S):Prop :=
 ∀(OK:M S->Prop) (k:En->M S) (G:Gh) (F:Hp) (Z:L2.St) (H:Hp) (ρ:En) (vs:Re V) (ds:Re D) (Q:L2.St->Hp->Prop),T7 OK->b_ X.K G F Z H ρ->i_ X.K F vs ds->OK (st ds k ρ) ->
  (∀σ' ρ',b_ X.K G F σ' H ρ'->(∀j,j<n->σ'[j]? = Z[j]? /\ ρ'[j]? = ρ[j]?)->σ'.length=Z.length->ρ'.length=ρ.length->OK (k ρ')->Q σ' H)->qT X YL vs Z H Q
def N1{S:Type}(i:Nat):Tg S:=λd k ρ=>match jO ρ i with
 | true=>k<|ρ.set i<|some<|.fz d
 | false=>.bad
def NZ{S:Type}:Re D->?qO->En->M S
 | [],k,ρ=>k ρ
 | _,_,_=>.bad
def LP{S:Type}(t:Tg S)(ts:Re D->?qO->En->M S):Re D->?qO->En->M S
 | d::ds,k,ρ=>t d (λρ1=>ts ds k ρ1) ρ
 | [],_,_=>.bad
def To{S:Type}(d:D)(k:D->D->M S):M S:=match d with
 | .tuple [a,b]=>k a b
 | _=>.bad
def un3{S:Type}(d:D)(k:D->D->D->M S):M S:=match d with
 | .tuple [a,b,c]=>k a b c
 | _=>.bad
def un4{S:Type}(d:D)(k:D->D->D->D->M S):M S:=match d with
 | .tuple [a,b,c,e]=>k a b c e
 | _=>.bad
def Kc{S:Type}(ts:Re D->?qO->En->M S):Tg S:=λd k ρ=>To d λa b=>ts [a,b] k ρ
def Kb{S:Type}(ts:Re D->?qO->En->M S):Tg S:=λd k ρ=>un3 d λa b c=>ts [a,b,c] k ρ
def Ka{S:Type}(ts:Re D->?qO->En->M S):Tg S:=λd k ρ=>un4 d λa b c e=>ts [a,b,c,e] k ρ
section
theorem aA{i:Nat}(hn:n<=i)(hN:X.N.Nodup)(hi:X.N[i]? = some x:=by rfl)(hx:Loc X.env.scope x:=by exact lo rfl)(hf:X.fn x=true\/X.env.scope.names.lookup x=some .local:=by first|exact .inl rfl|exact .inr rfl):AG (S:=S) X n (.Name x pos) (N1 i):=by
 intro OK k G F Z H ρ v d Q hO S r ok kk;unfold N1 at ok;split at ok
 ·rename_i ho;let{hl,Ud}:=dZ ho;refine MX (mV hN hi hx hf) ?_;exact kk _ _ (S.store Ud hl<|.inl {d,rfl,r}) (λj hj=>{be ?A,be ?A}) ?G ?G ok
 ·exact(hO ok).elim
theorem dw:AGs (S:=S) X n [] NZ:=by
 intro OK k G F Z H ρ vs ds Q hO S r ok kk
 cases ds with
 | nil =>
  cases r
  exact Jz Bs {rfl,kk Z ρ S (λ_ _=>{rfl,rfl}) rfl rfl ok}
 | cons d ds=>exact(hO ok).elim
theorem aX{st:Tg S}{Sx:Re D->?qO->En->M S}(h1:AG X n e st)(h2:AGs X n es Sx)
  (hs:(assignEach (e::es) X.env).map (·.2)=assign e X.env::(assignEach es X.env).map (·.2)):AGs X n (e::es) (LP st Sx):=by
 intro OK k G F Z H ρ vs ds Q hO S r ok kk
 cases ds with
 | nil=>exact(hO ok).elim
 | cons d ds =>
  cases r with
  | cons rv rr =>
   refine Jz (rG lW Br hs) {_,_,rfl,?_};refine h1 OK _ G F Z H ρ _ d _ hO S rv ok λσ1 ρ1 S1 kp1 l1 m1 o1=>?_
   exact h2 OK k G F σ1 H ρ1 _ ds _ hO S1 rr o1 λσ2 ρ2 S2 kp2 l2 m2 o2=>kk σ2 ρ2 S2 (λj hj=>{(kp2 j hj).1.trans (kp1 j hj).1,(kp2 j hj).2.trans (kp1 j hj).2}) (l2.trans l1) (m2.trans m1) o2
theorem xC{l:Nat}{Sx:Re D->?qO->En->M S}{st:Tg S}(hc:X.calm=true)(h:AGs X n es Sx)(hn:(assignEach es X.env).length=l)(V7:(assignEach es X.env).findIdx? (·.1)=none)
  (hw:∀(OK:M S->Prop) d k ρ,T7 OK->OK (st d k ρ)->∃ds,d=.tuple ds/\ds.length=l/\OK (Sx ds k ρ)):AG X n (.Tuple es kk pos) st:=by
 intro OK k G F Z H ρ v d Q hO S r ok k2;let{ds,rfl,hl,ok}:=hw OK d k ρ hO ok
 cases r with
 | tup h1 h2 =>
  refine MX (Ff hc Br hn V7) {_,_,rfl,B_.of<|S.fh _ _ h1,by rw[h2.length];exact hl,?_};exact h OK k G F Z H ρ _ ds _ hO S h2 ok k2
theorem fw{Sx:Re D->?qO->En->M S}(hc:X.calm=true)(h:AGs X n es Sx)(hn:(assignEach es X.env).length=2)(V7:(assignEach es X.env).findIdx? (·.1)=none):AG X n (.Tuple es kk pos) (Kc Sx) :=
 xC hc h hn V7 λOK d k ρ hO o=>by
  unfold Kc To at o;split at o
  ·exact{_,rfl,rfl,o}
  ·exact(hO o).elim
theorem Ct{Sx:Re D->?qO->En->M S}(hc:X.calm=true)(h:AGs X n es Sx)(hn:(assignEach es X.env).length=3)(V7:(assignEach es X.env).findIdx? (·.1)=none):AG X n (.Tuple es kk pos) (Kb Sx) :=
 xC hc h hn V7 λOK d k ρ hO o=>by
  unfold Kb un3 at o;split at o
  ·exact{_,rfl,rfl,o}
  ·exact(hO o).elim
theorem Cq{Sx:Re D->?qO->En->M S}(hc:X.calm=true)(h:AGs X n es Sx)(hn:(assignEach es X.env).length=4)(V7:(assignEach es X.env).findIdx? (·.1)=none):AG X n (.Tuple es kk pos) (Ka Sx) :=
 xC hc h hn V7 λOK d k ρ hO o=>by
  unfold Ka un4 at o;split at o
  ·exact{_,rfl,rfl,o}
  ·exact(hO o).elim
end
abbrev SM(S:Type):=KS S->En->M S
structure EOk{S:Type}(X:Cx)(OK:M S->Prop)(K:KS S)(G:Gh)(F:Hp)(E:Ends):Prop where
 nx:∀F' σ' H' ρ',c_ F F'->b_ X.K G F' σ' H' ρ'->OK (K.nx ρ')->E.nx σ' H'
 rt:∀F' σ' H' ρ' d v,c_ F F'->b_ X.K G F' σ' H' ρ'->Rep X.K F' v d->OK (K.rt d ρ')->E.rt v H'
 rl:∀F' σ' H' ρ' c v,c_ F F'->b_ X.K G F' σ' H' ρ'->Frs X.K G F' σ' H' ρ' v c->OK (K.rl c ρ')->E.rt v H'
 bk:∀F' σ' H' ρ',c_ F F'->b_ X.K G F' σ' H' ρ'->OK (K.bk ρ')->E.bk σ' H'
 ct:∀F' σ' H' ρ',c_ F F'->b_ X.K G F' σ' H' ρ'->OK (K.ct ρ')->E.ct σ' H'
theorem EOk.up{OK:M S->Prop}{K:KS S}{E:Ends}(h:EOk X OK K G F E)(s:c_ F F'):EOk X OK K G F' E :=
 {λF2 σ' H' ρ' s2=>h.nx F2 σ' H' ρ'<|s.trans s2,λF2 σ' H' ρ' d v s2=>h.rt F2 σ' H' ρ' d v<|s.trans s2,λF2 σ' H' ρ' d v s2=>h.rl F2 σ' H' ρ' d v<|s.trans s2,λF2 σ' H' ρ' s2=>h.bk F2 σ' H' ρ'<|s.trans s2,λF2 σ' H' ρ' s2=>h.ct F2 σ' H' ρ'<|s.trans s2}
@[irreducible] def jM(X:Cx)(st:Uf):TS:=λE Z H=>∀(pins:C_) (s:SZ),Inv X pins Z H s->wpAny ?B X.A (exec st X.env) (SP X pins E) X.xe s
@[irreducible] def i7(X:Cx)(Sx:Re Uf):TS:=λE Z H=>∀(pins:C_) (s:SZ),Inv X pins Z H s->wpAny ?B X.A (execs Sx X.env) (SP X pins E) X.xe s
section
variable {Sx:Re Uf} {E:Ends} {t:TS}
theorem E4:PS X st (jM X st):=λpins s Z H E I h=>by unfold jM at h;exact h pins s I
theorem fP:VQ X Sx (i7 X Sx):=λpins s Z H E I h=>by unfold i7 at h;exact h pins s I
theorem jf(h:PS X st t)(q:t E Z H):jM X st E Z H:=by unfold jM;exact λpins s I=>h pins s Z H E I q
theorem EG(h:VQ X Sx t)(q:t E Z H):i7 X Sx E Z H:=by unfold i7;exact λpins s I=>h pins s Z H E I q
end
def AS{S:Type}(X:Cx)(st:Uf)(m:SM S):Prop :=
 ∀(OK:M S->Prop) (K:KS S) (G:Gh) (F:Hp) (Z:L2.St) (H:Hp) (ρ:En) (E:Ends),T7 OK->XL X OK K.x G->b_ X.K G F Z H ρ->OK (m K ρ)->EOk X OK K G F E->jM X st E Z H
def Uk{S:Type}(X:Cx)(st:Re Uf)(m:SM S):Prop :=
 ∀(OK:M S->Prop) (K:KS S) (G:Gh) (F:Hp) (Z:L2.St) (H:Hp) (ρ:En) (E:Ends),T7 OK->XL X OK K.x G->b_ X.K G F Z H ρ->OK (m K ρ)->EOk X OK K G F E->i7 X st E Z H
section
def M2:SM S:=λK ρ=>K.nx ρ
def OA(m n:SM S):SM S:=λK ρ=>m { K with nx:=λρ1=>n K ρ1 } ρ
def sIf(c:Ev S Bool)(m n:SM S):SM S:=λK ρ=>c K.x (λb ρ1=>if b then m K ρ1 else n K ρ1) ρ
def sTo(sh:Re Kd)(m:SM S):SM S:=λK ρ=>m { K with nx:=λρ1=>SD sh (λs=>K.nx ?jT) ρ1 } ρ
def MZ(i:Nat)(m:Ev S D):SM S:=λK ρ=>m K.x (λd ρ1=>match jO ρ1 i with
 | true=>K.nx<|ρ1.set i<|some<|.fz d
 | false=>.bad) ρ
def JA(i:Nat)(m:Ev S ?Q):SM S:=λK ρ=>m K.x (λds ρ1=>match jO ρ1 i with
 | true=>K.nx<|ρ1.set i<|some<|.ol<|.l ds
 | false=>.bad) ρ
def OF(t:Tg S)(m:Ev S D):SM S:=λK ρ=>m K.x (λd ρ1=>t d K.nx ρ1) ρ
def OB(m:Ev S D):SM S:=λK ρ=>m K.x K.rt ρ
def M0(m:Ev S ?Q):SM S:=λK ρ=>m K.x (λds=>K.rl<|.l ds) ρ
def M4(m:Ev S D):SM S:=λK ρ=>m K.x (λ_ ρ1=>K.nx ρ1) ρ
def M3(i:Nat)(m:SM S):SM S:=λK ρ=>match ρ[i]? with
 | some (some<|.ol c)=>if c.isI then .bad else m K (ρ.set i<|some<|.fz c.d)
 | _=>.bad
def qb(ρ:En)(i:Nat)(ds:Re D):En:=match ρ[i]? with
 | some (some<|.op _)=>ρ.set i<|some<|.op<|.l ds
 | _=>ρ.set i<|some<|.ol<|.l ds
def Hv(i:Nat)(f:Re D->Re D->SC ?Q)(ms:Ev S ?Q):SM S:=λK ρ=>match iR ρ i with
 | some _=>ms K.x (λas ρ1=>match iR ρ1 i with
  | some ds=>(oM<|f ds as).on (λe=>K.x e ρ1) λWI=>K.nx<|qb ρ1 i WI
  | none=>.bad) ρ
 | none=>.bad
def cP{T:Type}(step:T->D->(T->M S)->M S):Re D->T->(T->M S)->M S
 | [],s,k=>k s
 | d::r,s,k=>step s d λs'=>cP step r s' k
@[reducible] def pN(sh:Re Kd)(K:KS S)(kn:Rb sh->M S):KS S:={ K with
  nx:=λρ3=>SD sh kn ρ3
  ct:=λρ3=>SD sh kn ρ3
  bk:=λρ3=>SD sh ?ju ρ3 }
def Kz(sh:Re Kd)(it:Ev S ?Q)(t:Tg S)(mb:SM S):SM S:=λK ρ=>it K.x (λds ρ1=>SD sh (λs=>cP (λs d kn=>t d (λρ2=>mb (pN sh K kn) ρ2) ?jT) ds s ?ju) ρ1) ρ
def bO{T:Type}(step:T->(T->M S)->M S):Nat->T->M S
 | 0,_=>.bad
 | n+1,s=>step s λs'=>bO step n s'
def zJ(sh:Re Kd)(fuel:Nat)(c:Ev S Bool)(mb:SM S):SM S:=λK ρ=>SD sh (λs=>bO (λs kn=>c K.x (λb ρ2=>if b then mb (pN sh K kn) ρ2 else SD sh ?ju ρ2) ?jT) fuel s) ρ
end
theorem pH(ρ:En)(i:Nat)(ds ds0:Re D)(h:iR ρ i=some ds0):qb ρ i ds=ρ.set i ((ρ[i]?.join).map fun | .op _=>.op<|.l ds|_=>.ol<|.l ds):=by
 unfold iR at h;unfold qb
 grind
theorem gS{OK:M S->Prop}(hO:T7 OK){sh:Re Kd}{k:Rb sh->M S}(h:OK (SD sh k ρ)):∃s,rd sh ρ=some s/\OK (k s):=by
 unfold SD at h;split at h
 ·grind
 ·exact(hO h).elim
section
variable {Sx rest:Re Uf} {m n:SM S} {c a:TW} {me:Ev S D} {mt:Ev S Bool} {ml:Ev S ?Q} {O_:Pos}
theorem aR:Uk (S:=S) X [] M2:=λOK K G F Z H ρ E hO hX St ok eo=>EG Bm<|eo.nx F Z H ρ ?I St ok
theorem af(h1:AS X st m)(h2:Uk X rest n):Uk X (st::rest) (OA m n):=λOK K G F Z H ρ E hO hX St ok eo =>
 EG (j5 E4 fP)<|h1 OK { K with nx:=λρ1=>n K ρ1 } G F Z H ρ _ hO hX St ok {λF' σ' H' ρ' s S' o=>h2 OK K G F' σ' H' ρ' E hO hX S' o<|eo.up s,eo.rt,eo.rl,eo.bk,eo.ct}
theorem au(h1:AS X st m):Uk X [st] m:=λOK K G F Z H ρ E hO hX St ok eo=>EG (mU E4)<|h1 OK K G F Z H ρ E hO hX St ok eo
theorem bF{A B:Re Uf}(hc:Xv X c mt)(ha:Uk X A m)(hb:Uk X B n):AS X (.If c A B pos) (sIf mt m n):=λOK K G F Z H ρ E hO hX St ok eo =>
 jf (Nr eG fP fP) (hc OK K.x _ G F Z H ρ _ hO hX St ok λt F1 H1 ρ1 s1 S1 o1=>by
  cases t with
  | true=>exact ha OK K G F1 Z H1 ρ1 E hO hX S1 o1<|eo.up s1
  | false=>exact hb OK K G F1 Z H1 ρ1 E hO hX S1 o1<|eo.up s1)
theorem aG{sh:Re Kd}(h:AS X st m):AS X st (sTo sh m):=λOK K G F Z H ρ E hO hX St ok eo =>
 h OK { K with nx:=λρ1=>SD sh (λs=>K.nx ?jT) ρ1 } G F Z H ρ E hO hX St ok {λF' σ' H' ρ' s S' o=>by
  let{s',e',o'}:=gS hO o
  exact eo.nx F' σ' H' _ s (S'.rd e') o',eo.rt,eo.rl,eo.bk,eo.ct}
theorem _root_.L3.b_.drop(S:b_ K G F Z H ρ){i:Nat}(hi:∀c,ρ[i]? ≠ some (some<|.op c)):b_ K G F Z H (ρ.set i none):=by
 refine S.weak ?G (λj av e=>?_) λj c e=>?_
 ·grind
 grind
theorem _root_.L2.Inv.Q3(I:Inv X pins Z H s){a:Tk}(e:H a=some (.dT kvs)):∃o,Inv X pins Z (upd H a<|.Q3 o<|.dT kvs) s:=by
 let{z,y,xs,r,ob,es,ep,h1,h2}:=((I.k_ a _ e));have ne:∀b,H b=none->upd H a (.Q3 ob<|.dT kvs) b=none:=λb q=>by rw[aQ (λz=>by rw[z,e]at q;cases q)];exact q
 have nx:∀b u,H b=some u->u≠.dT kvs->upd H a (.Q3 ob<|.dT kvs) b=some u:=λb u q d=>by rw[aQ<|J6 q e d];exact q
 have st:∀b u,D_ X.prog X.w H s.heap b u->D_ X.prog X.w (upd H a<|.Q3 ob<|.dT kvs) s.heap b u:=λb u q=>q.Tq (λ_ _ _ q=>q) (λc q=>nx c _ q (by intro z;cases z)) λc xs q=>nx c _ q (by intro z;cases z)
 refine{ob,I.ok,I.os,I.bare,{I.base.keep,I.base.slot,λb o q n hx=>ne b<|I.base.free b o q n hx,I.base.there,λb xs q=>nx b _ (I.base.SA b xs q) (by intro z;cases z),λb o u q=>nx b _ (I.base.Sk b o u q) (by intro z;cases z),λb ps q=>?_},I.loc,I.cell,ne _ I.free,λx c q=>ne _<|I.QZ x c q,λp hp=>?_,λb u q=>?_,I.len}
 ·let{more,q}:=I.base.SW b ps q
  grind
 ·let{q1,q2,q3}:=I.pin p hp
  grind
 ·by_cases hb:b=a
  ·subst hb;rw[aN]at q;cases q;exact{h1,st _ _<|I.k_ _ _ e}
  ·rw[aQ hb]at q;exact st _ _<|I.k_ b u q
theorem EE{E:Ends}{a:Tk}(e:H a=some (.dT kvs))(k:∀o,jM X st E Z<|upd H a<|.Q3 o<|.dT kvs):jM X st E Z H:=by
 unfold jM at *;exact λpins s I=>let ⟨o,I'⟩:=I.Q3 e;k o pins s I'
theorem _root_.L3.b_.Ub(S:b_ K G F Z H ρ){p:Tk}(fp:F p=none)(op:G.O p=none)(ne:∀(i:Nat) (e:OC),own ρ i e->Z[i]? ≠ some (some<|V.ref p)):b_ K G F Z (upd H p o) ρ:=by
 refine{gN S.fh fp,gN S.oh op,S.fo,S.ln,S.fz,λi c h=>?_,S.dj,S.pp,S.pq,S.fb};let{a,e,oa}:=S.ow i c h;exact{a,e,oa.nf,oa.no,oa.he.at (aQ λz=>ne i c h (by rw[e,z]))}
theorem _root_.L3.b_.YR(S:b_ K G F Z H ρ){i:Nat}{es:Re ?N}(hi:ρ[i]? = some (some<|.ol<|.t es)){a:Tk}(hv:Z[i]? = some (some ?qA)) :
  ∃kvs,H a=some (.dT kvs)/\∀o,∃F',c_ F F'/\b_ K G F' Z (upd H a<|.Q3 o<|.dT kvs) (ρ.set i<|some<|.fz<|.dict es):=by
 let{b,e,oa}:=S.ow i _<|.inl hi;rw[hv]at e;injection e with e;injection e with e;injection e with e;subst e;let{kvs,h1,h2,h3}:=oa.he;refine{kvs,h1,λo=>?_};have hl:i<ρ.length:=(List.getElem?_eq_some_iff.mp hi).1;have S1:=S.drop (i:=i) (λc q=>by rw[hi]at q;cases q);have ne:∀(j:Nat) (c:OC),own (ρ.set i none) j c->Z[j]? ≠ some (some ?qA):=λj c h q=>by
  have hj:j≠i:=by
   rintro rfl;let h||h:=h<;>(rw[di hl]at h;cases h)
  have h':own ρ j c:=by
   unfold own at h ⊢;rw[be<|Ne.symm hj]at h;exact h
  exact hj<|S.dj j i _ _ a h' (.inl hi) q hv
 have S2:=(S1.Ub (o:=.Q3 o (.dT kvs)) oa.nf oa.no ne).freeze (a:=a) aN oa.nf oa.no ne;have sm:c_ F (upd F a<|.Q3 o<|.dT kvs):=cx oa.nf;have S3:=S2.store (j:=i) (v:=.ref a) (av:=.fz (.dict es)) (λc q=>by rw[di hl]at q;cases q) (by rw[List.length_set];exact hl)<|.inl {_,rfl,.UJ aN h2<|h3.mono sm};have eσ:Z.set i (some ?qA)=Z:=by
  let{q1,q2}:=List.getElem?_eq_some_iff.mp hv;rw[<-q2];exact List.set_getElem_self q1
 rw[eσ,List.set_set]at S3;exact{_,sm,S3}
theorem fN{i:Nat}(h:AS X st m):AS X st (M3 i m):=λOK K G F Z H ρ E hO hX St ok eo=>by
 unfold M3 at ok;split at ok
 ·rename_i ds q;let{a,ea,_}:=St.ow i _<|.inl q;split at ok
  ·exact(hO ok).elim
  rename_i hI
  cases hT:ds.VG with
  | false =>
   let{F2,s2,S2,_}:=St.YT (by simpa using hI) hT q ea;exact h OK K G F2 Z H _ E hO hX S2 ok<|eo.up s2
  | true =>
   cases ds with
   | t es =>
    let{kvs,e,go}:=St.YR q ea;refine EE e λo=>?_
    let{F2,s2,S2}:=go o;exact h OK K G F2 Z _ _ E hO hX S2 ok<|eo.up s2
   | _=>cases hT
 ·exact(hO ok).elim
theorem aK(he:AE X e me):AS X (.Return (some e) pos) (OB me):=λOK K G F Z H ρ E hO hX St ok eo =>
 jf (zK aO)<|he OK K.x K.rt G F Z H ρ _ hO hX St ok λd v F1 H1 ρ1 s1 S1 r1 o1=>eo.rt F1 Z H1 ρ1 d v s1 S1 r1 o1
theorem Je(he:AEl X e ml):AS X (.Return (some e) pos) (M0 ml):=λOK K G F Z H ρ E hO hX St ok eo =>
 jf (zK aO)<|he OK K.x (λds=>K.rl<|.l ds) G F Z H ρ _ hO hX St ok λd v F1 H1 ρ1 s1 S1 r1 o1=>eo.rl F1 Z H1 ρ1 (.l d) v s1 S1 r1 o1
theorem aM{i:Nat}(hN:X.N.Nodup)(he:AE X e me)(hi:X.N[i]? = some x:=by rfl)(hx:Loc X.env.scope x:=by exact lo rfl)(hs:swapsWith e (some<|.Name x pos') pos.line X.env=pure false:=by rfl)(hf:X.fn x=true\/X.env.scope.names.lookup x=some .local:=by exact .inl rfl) :
  AS X (.Assign [.Name x pos'] e pos) (MZ i me):=λOK K G F Z H ρ E hO hX St ok eo =>
 jf (j6 hN hi hx aO hs hf) (he OK K.x _ G F Z H ρ _ hO hX St ok λd v F1 H1 ρ1 s1 S1 r1 o1=>by
  split at o1
  ·rename_i ho;let{hl,Ud}:=dZ ho;exact eo.nx F1 _ H1 _ s1 (S1.store Ud hl<|.inl {d,rfl,r1}) o1
  ·exact(hO o1).elim)
theorem cU{i:Nat}(hN:X.N.Nodup)(he:AEl X e ml)(hi:X.N[i]? = some x:=by rfl)(hx:Loc X.env.scope x:=by exact lo rfl)(hs:swapsWith e (some<|.Name x pos') pos.line X.env=pure false:=by rfl)(hf:X.fn x=true\/X.env.scope.names.lookup x=some .local:=by exact .inl rfl) :
  AS X (.Assign [.Name x pos'] e pos) (JA i ml):=λOK K G F Z H ρ E hO hX St ok eo =>
 jf (j6 hN hi hx aO hs hf) (he OK K.x _ G F Z H ρ _ hO hX St ok λd v F1 H1 ρ1 s1 S1 r1 o1=>by
  split at o1
  ·rename_i ho;let{hl,Ud}:=dZ ho;exact eo.nx F1 _ H1 _ s1 (S1.store Ud hl<|.inr {.l d,rfl,r1}) o1
  ·exact(hO o1).elim)
theorem py{t:Tg S}(he:AE X e me)(hg:AG X 0 tg t)(hs:swapsWithSole [tg] e pos.line X.env=pure false)(hw:swappedStores [tg] e X.env=pure none)
  (h1:(assignEach [tg] X.env).map (·.2)=[assign tg X.env]):AS X (.Assign [tg] e pos) (OF t me):=λOK K G F Z H ρ E hO hX St ok eo =>
 jf (E5 aO lW hs hw h1)<|he OK K.x _ G F Z H ρ _ hO hX St ok λd v F1 H1 ρ1 s1 S1 r1 o1 =>
  hg OK K.nx G F1 Z H1 ρ1 v d _ hO S1 r1 o1 λσ' ρ' S' _ _ _ o'=>eo.nx F1 σ' H1 ρ' s1 S' o'
theorem Jg(he:AE X e me)(hs:swapsWith e none pos.line X.env=pure false):AS X (.Expr e pos) (M4 me):=λOK K G F Z H ρ E hO hX St ok eo =>
 jf (qB aO hs)<|he OK K.x _ G F Z H ρ _ hO hX St ok λd v F1 H1 ρ1 s1 S1 r1 o1=>eo.nx F1 Z H1 ρ1 s1 S1 o1
end
section
variable {m n mb:SM S} {c a o:TW} {me mi:Ev S D} {mt:Ev S Bool} {ml ms:Ev S ?Q} {O_ apos u_:Pos}
theorem Ms{iter:TW}{body:Re Uf}{sh:Re Kd}{t:Tg S}(hp:PassesOwn ?B X.A X.env X.xe)(hc:X.calm=true)(hi:AEi X tg iter ml)(hg:AG X 0 tg t)(hb:Uk X body mb)
  (hs:∀x,foldedSetIterable iter X.env x=pure x):AS X (.For tg iter body [] pos) (Kz sh ml t mb):=λOK K G F Z H ρ E hO hX St ok eo =>
 jf (vX hp hc rE lW fP hs) (hi OK K.x _ G F Z H ρ _ hO hX St ok λds J F1 H1 ρ1 s1 S1 wk o1=>by
  let{s0,e0,o0}:=gS hO o1;have S0:=S1.rd e0;generalize Se:(λ(s) d (kn)=>t d (λρ2=>mb (pN sh K kn) ρ2) ?jT)=step at o0;refine{λi m σ' H'=>∃F' s,m=ds.length - i/\i<=ds.length/\c_ F1 F'/\b_ X.K G F' σ' H' ?jT/\OK (cP step (ds.drop i) s ?ju),{ds.length,F1,s0,rfl,ai _,c_.refl _,S0,o0},?_};rintro i m σ' H' ⟨F',s,rfl,hi,s2,S2,go⟩;by_cases x_:i<ds.length
  ·have ed:=re x_;rw[ed]at go;rw[<-Se]at go;have again:∀F5 σ5 H5 ρ5,c_ F' F5->b_ X.K G F5 σ5 H5 ρ5->OK (SD sh (λs'=>cP step (ds.drop ?qc) s' λs'=>K.nx<|wr sh s') ρ5) ->
     ∃m',m'<ds.length - i/\∃F' s,m'=ds.length - ?qc/\i+1<=ds.length/\c_ F1 F'/\b_ X.K G F' σ5 H5 ?jT/\OK (cP step (ds.drop ?qc) s ?ju):=λF5 σ5 H5 ρ5 s5 S5 o5=>by
    let{s',e',o'}:=gS hO o5;exact{ds.length - ?qc,by omega,F5,s',rfl,x_,s2.trans s5,S5.rd e',o'}
   refine .inr {wk.go i G F' σ' H' _ s2 S2 x_,λσ4 H4=>∃m',m'<ds.length - i/\∃F' s,m'=ds.length - ?qc/\i+1<=ds.length/\c_ F1 F'/\b_ X.K G F' σ4 H4 ?jT/\OK (cP step (ds.drop ?qc) s ?ju),λσ4 H4 h4=>h4,λx H2 y=>?_};let{F3,s3,S3,r3}:=wk.VB i G F' σ' H' _ x H2 ds[i] s2 S2 (by simp ) y;refine hg OK _ G F3 σ' H2 ?jT x ds[i] _ hO S3 r3 go λσ3 ρ3 S4 _ _ _ o4=>?_
   rw[Se]at o4;refine hb OK (pN sh K λs'=>cP step (ds.drop ?qc) s' λs'=>K.nx<|wr sh s') G F3 σ3 H2 ρ3 _ hO hX S4 o4 {λF5 σ5 H5 ρ5 s5 S5 o5=>?_,λF5 σ5 H5 ρ5 d v s5=>eo.rt F5 σ5 H5 ρ5 d v<|(s1.trans<|s2.trans s3).trans s5,λF5 σ5 H5 ρ5 d v s5=>eo.rl F5 σ5 H5 ρ5 d v<|(s1.trans<|s2.trans s3).trans s5,λF5 σ5 H5 ρ5 s5 S5 o5=>?_,λF5 σ5 H5 ρ5 s5 S5 o5=>?_}
   ·exact again F5 σ5 H5 ρ5 (s3.trans s5) S5 o5
   ·let{s',e',o'}:=gS hO o5;exact eo.nx F5 σ5 H5 _ ((s1.trans<|s2.trans s3).trans s5) (S5.rd e') o'
   ·exact again F5 σ5 H5 ρ5 (s3.trans s5) S5 o5
  ·have ei:i=ds.length:=by omega
   subst ei;rw[Ba]at go
   exact .inl {wk.stop G F' σ' H' _ s2 S2,eo.nx F' σ' H' _ ?jo S2 go})
theorem GT{body:Re Uf}{sh:Re Kd}{fuel:Nat}(hp:PassesOwn ?B X.A X.env X.xe)(hc:Xv X c mt)(hb:Uk X body mb):AS X (.While c body [] pos) (zJ sh fuel mt mb):=λOK K G F Z H ρ E hO hX St ok eo =>
 jf (E3 hp eG fP) (by
  let{s0,e0,o0}:=gS hO ok;have S0:=St.rd e0;generalize Se:(λ(s) (kn)=>mt K.x (λb ρ2=>if b then mb (pN sh K kn) ρ2 else SD sh ?ju ρ2) ?jT)=step at o0;refine{λm σ' H'=>∃F' s,c_ F F'/\b_ X.K G F' σ' H' ?jT/\OK (bO step m s),{fuel,F,s0,c_.refl _,S0,o0},?_};rintro m σ' H' ⟨F',s,s2,S2,go⟩
  cases m with
  | zero=>exact(hO go).elim
  | succ m =>
   rw[<-Se]at go;refine hc OK K.x _ G F' σ' H' ?jT _ hO hX S2 go λt F1 H1 ρ1 s1 S1 o1=>?_
   cases t with
   | false =>
    let{s',e',o'}:=gS hO<|(o1);exact eo.nx F1 σ' H1 _ (s2.trans s1) (S1.rd e') o'
   | true =>
    have Y3:=o1;rw[Se]at Y3;have again:∀F5 σ5 H5 ρ5,c_ F1 F5->b_ X.K G F5 σ5 H5 ρ5->OK (SD sh (λs'=>bO step m s') ρ5)->∃m',m'<m+1/\∃F' s,c_ F F'/\b_ X.K G F' σ5 H5 ?jT/\OK (bO step m' s):=λF5 σ5 H5 ρ5 s5 S5 o5=>by
     let{s',e',o'}:=gS hO o5;exact{m,Nat.lt_succ_self _,F5,s',(s2.trans s1).trans s5,S5.rd e',o'}
    refine LL {λσ4 H4=>∃m',m'<m+1/\∃F' s,c_ F F'/\b_ X.K G F' σ4 H4 ?jT/\OK (bO step m' s),λσ4 H4 h4=>h4,?_};refine hb OK (pN sh K λs'=>bO step m s') G F1 σ' H1 ρ1 _ hO hX S1 Y3 {λF5 σ5 H5 ρ5 s5 S5 o5=>again F5 σ5 H5 ρ5 s5 S5 o5,λF5 σ5 H5 ρ5 d v s5=>eo.rt F5 σ5 H5 ρ5 d v<|(s2.trans s1).trans s5,λF5 σ5 H5 ρ5 d v s5=>eo.rl F5 σ5 H5 ρ5 d v<|(s2.trans s1).trans s5,λF5 σ5 H5 ρ5 s5 S5 o5=>?_,λF5 σ5 H5 ρ5 s5 S5 o5=>again F5 σ5 H5 ρ5 s5 S5 o5};let{s',e',o'}:=gS hO o5
    exact eo.nx F5 σ5 H5 _ ((s2.trans s1).trans s5) (S5.rd e') o')
theorem eR{i:Nat}{ds:Re D}(St:b_ K G F Z H ρ)(h:iR ρ i=some ds):∃a vs,Z[i]? = some (some<|.ref a)/\H a=some (.lst vs)/\i_ K F vs ds:=by
 let{a,ea,oa}:=St.ow i _<|mX h;let{vs,h1,h2}:=oa.he;exact{a,vs,ea,h1,h2}
theorem mW{i:Nat}{a:Tk}{ds WI:Re D}{Xw:Re V}(St:b_ K G F Z H ρ)(h:iR ρ i=some ds)(ha:Z[i]? = some (some<|.ref a))(r:i_ K F Xw WI) :
  b_ K G F Z (upd H a<|.lst Xw) (qb ρ i WI):=by
 rw[pH ρ i WI ds h];exact St.change (mX h) ha  {_,aN,r}
def mn(ds as:Re D):SC ?Q:=match as with
 | [d]=>if ds.length<sizeLine then some (ds++[d])else none
 | _=>none
theorem gy{i:Nat}(hN:X.N[i]? = some x)(hv:UW X.env.scope x)(he:YE X [e] ms)
  (Rz:attributeBase (.Name x pos') "append" X.env (eval (.Name x pos') X.env)=eval (.Name x pos') X.env)
  (Yc:((backTo u_<|starEach [e] X.env).all (λx=>!x.1)&&(backToKw u_<|keywordEach [] X.env).all (λx=>x.1.isSome)
   && decide ([e].length+([]:Re Keyword).length+(if([]:Re Keyword).isEmpty then 0 else 1)<30))=true)
  (Ry:?jQ=true) (hs:starEach [e] X.env=?K::starEach [] X.env) (Tv:(backTo u_<|starEach [] X.env).any (·.1)=false)
  (X6:swapsWith (.Call (.Attribute (.Name x pos') "append" apos) [e] [] u_) none pos.line X.env=pure false) (hd:(x==("__debug__" : Str))=false:=by decide) (Ri:(x==("__classdict__" : Str))=false:=by decide) :
  AS X (.Expr (.Call (.Attribute (.Name x pos') "append" apos) [e] [] u_) pos) (Hv i mn ms):=λOK K G F Z H ρ E hO hX St ok eo =>
 jf (qB (Fk PQ PySem.F.slot_list_append PySem.F.type_list_append uV ?j3 cI Rz Yc Ry hs Tv) X6) (by
  unfold Hv at ok;split at ok
  case h_2=>exact(hO ok).elim
  ·rename_i ds0 h0;let{a,ZC,ea,hh,_}:=eR St h0;refine{_,ea,.inl {rfl,ZC,.inl<|.inl hh},he OK K.x _ G F Z H ρ _ hO hX St ok λas ws F1 H1 ρ1 s1 S1 _ r1 o1=>?_};split at o1
   ·rename_i ds UQ;let{WI,hf,o2}:=dC hO o1;let{a',vs,Q0,hh',rv}:=eR S1 UQ;rw[ea]at Q0;injection Q0 with Q0;injection Q0 with Q0;injection Q0 with Q0;subst Q0;unfold mn at hf;split at hf
    ·split at hf
     ·rename_i hz
      cases hf
      cases r1 with
      | cons ra rb =>
       cases rb
       refine{a,vs,_,rfl,rfl,hh',by rw[rv.length];exact hz,?_};exact eo.nx F1 Z _ _ s1 (mW S1 UQ ea<|rv.append<|.cons ra .nil) o2
     ·cases hf
    ·cases hf
   ·exact(hO o1).elim)
end
theorem Us{l:Re α}{i:Nat}{x:α}:(l.map some)[i]? = some (some x)↔l[i]? = some x:=by
 rw[je]
 cases l[i]? <;> simp
open Classical in
noncomputable def bQ(G:Gh)(Z:L2.St)(ρ:En)(H:Hp)(ex:SC Tk):Hp:=λb=>if(∃(i:Nat) (c:OC),own ρ i c/\Z[i]? = some (some<|V.ref b))/\some b≠ex then H b else G.O b
def setC(ρ:En)(j:Nat)(c:OC):En:=ρ.set j<|(ρ[j]?.join).map fun | .op _=>.op c|_=>.ol c
section
variable {ds:Re D}
theorem dG(S:b_ K G F Z H ρ){b:Tk}(h:G.O b=some o):bQ G Z ρ H ex b=some o:=by
 unfold bQ
 grind
theorem iA{b:Tk}{i:Nat}(ho:own ρ i c)(e:Z[i]? = some (some<|V.ref b))(hx:some b≠ex):bQ G Z ρ H ex b=H b:=by
 unfold bQ;rw[ar {{i,c,ho,e},hx}]
theorem vj(S:b_ K G F Z H ρ):c_ (bQ G Z ρ H ex) H:=λb o h=>by
 unfold bQ at h;split at h
 ·exact h
 ·exact S.oh b o h
theorem _root_.L3.Ra.XH(h:Ra K F H a c)(e:H a=some o):D8 o:=by
 cases c with
 | l ds=>let{vs,h1,_}:=h;rw[h1]at e;cases e;exact True.intro
 | t es=>let{vs,h1,_}:=h;rw[h1]at e;cases e;exact True.intro
 | k es=>let{vs,h1,_}:=h;rw[h1]at e;cases e;exact True.intro
 | i x ns ds=>let{C,dx,fs,h1,_}:=h;rw[h1]at e;cases e;exact True.intro
 | n ns=>let{o,xs,h1,_}:=h;rw[h1]at e;cases e;exact True.intro
theorem vk(S:b_ K G F Z H ρ):∀b o,bQ G Z ρ H ex b=some o->F b=none/\D8 o:=λb o h=>by
 unfold bQ at h;split at h
 ·rename_i hc;let{{i,c,ho,e},_}:=hc;let{a,e',oa}:=S.ow i c ho;rw[e]at e';injection e' with e';injection e' with e';injection e' with e';subst e';exact{oa.nf,oa.he.XH h}
 ·exact S.fo b o h
theorem oZ{i:Nat}{av:AV}(h:((ds.map AV.fz).map some)[i]? = some (some av)):∃d,av=.fz d/\ds[i]? = some d:=by
 grind
theorem jy{i:Nat}(h:own ((ds.map AV.fz).map some) i c):False:=by
 let h||h:=h<;>(let{d,z,_}:=oZ h;cases z)
theorem eO(S:b_ K G F Z H ρ)(r:i_ K F vs ds):b_ K {λ_=>none,bQ G Z ρ H none,F} F ?jq H ((ds.map AV.fz).map some):=by
 refine{S.fh,vj S,vk S,by simp[r.length],λi d h=>?_,λi c h=>(jy h).elim,λi j c e a h=>(jy h).elim,λi a h=>(nomatch h),λi c h=>?_,c_.refl _}
 ·let{d',z,e}:=oZ h
  cases z
  let{v,e1,e2}:=r.get e;exact{v,Us.mpr e1,e2}
 ·let{d',z,e}:=oZ h;cases z
theorem jG{zaX:Re AV}(S:b_ K G F Z H ρ)(s1:c_ F F')(S1:b_ K {λ_=>none,bQ G Z ρ H none,F} F' ?jq H' (zaX.map some)) :
  b_ K G F' Z H' ρ/\∀v c,Frs K {λ_=>none,bQ G Z ρ H none,F} F' ?jq H' (zaX.map some) v c->Frs K G F' Z H' ρ v c:=by
 have oo:∀b,bQ G Z ρ H none b=none->G.O b=none:=λb h=>by
  cases q:G.O b with
  | none=>rfl
  | some o=>rw[dG S q]at h;cases h
 refine{{S1.fh,λb o h=>S1.oh b o<|dG S h,λb o h=>S1.fo b o<|dG S h,S.ln,λi d h=>?_,λi c h=>?_,S.dj,S.pp,S.pq,S.fb.trans s1},λv cc h=>?_}
 ·let{v,e,r}:=S.fz i d h;exact{v,e,r.mono s1}
 ·let{a,e,oa}:=S.ow i c h;let{o,ho}:=oa.he.some;have q:bQ G Z ρ H none a=some o:=by rw[iA h e ?G];exact ho
  exact{a,e,(S1.fo a o q).1,oa.no,(oa.he.mono s1).at (by rw[S1.oh a o q,ho])}
 ·let{a,rfl,oa,_}:=h;refine{a,rfl,{oa.nf,oo a oa.no,oa.he},λi e ho q=>?_};let{a',e',oa'}:=S.ow i e ho;rw[q]at e';injection e' with e';injection e' with e';injection e' with e';subst e';let{o,hh}:=oa'.he.some;have:=oa.no;rw[show({λ_=>none,bQ G Z ρ H none,F}:Gh).O a=bQ G Z ρ H none a from rfl,iA ho q ?G,hh]at this
  cases this
def P1(a:Tk):Nat->SC Tk
 | 0=>some a
 | _=>none
theorem DP(S:b_ K G F Z H ρ)(hj:own ρ j c)(ha:Z[j]? = some (some ?qA))(r:i_ K F vs ds) :
  b_ K {P1 a,bQ G Z ρ H<|some a,F} F ((V.ref a::vs).map some) H ((AV.op c::ds.map AV.fz).map some):=by
 let{a',e',oa}:=S.ow j c hj;rw[ha]at e';injection e' with e';injection e' with e';injection e' with e';subst e';have ZS:∀i d,own ((AV.op c::ds.map AV.fz).map some) i d->i=0/\d=c:=λi d h=>by
  cases i with
  | zero=>let h||h:=h<;>(simp at h);exact{rfl,h.symm}
  | succ i=>exact(jy (ds:=ds) (i:=i) (c:=d) (by unfold own at h ⊢;simpa using h)).elim
 refine{S.fh,vj S,vk S,by simp[r.length],λi d h=>?_,λi d h=>?_,λi k d e b h1 h2 _ _=>?_,λi b h=>?_,λi d h=>?_,c_.refl _}
 ·cases i with
  | zero=>simp at h
  | succ i =>
   let{d',z,e}:=oZ (ds:=ds) (i:=i) (av:=.fz d) ?jh
   cases z
   let{v,e1,e2}:=r.get e;exact{v,by simpa using e1,e2}
 ·let{rfl,rfl}:=ZS i d h;refine{a,rfl,oa.nf,?_,oa.he};show bQ G Z ρ H (some a) a=none;unfold bQ;rw[ax ?G];exact oa.no
 ·rw[(ZS i d h1).1,(ZS k e h2).1]
 ·cases i with
  | zero=>cases h;exact{rfl,c,rfl}
  | succ i=>cases h
 ·cases i with
  | zero=>exact{a,rfl}
  | succ i =>
   let{d',z,e}:=oZ (ds:=ds) (i:=i) (av:=.op d) ?jh
   cases z
theorem Ay{c':OC}{l:Re AV}(S:b_ K G F Z H ρ)(hj:own ρ j c)(ha:Z[j]? = some (some ?qA))(s1:c_ F F')
  (S1:b_ K {P1 a,bQ G Z ρ H<|some a,F} F' ((V.ref a::vs).map some) H' ((AV.op c'::l).map some)) :
  b_ K G F' Z H' (setC ρ j c')/\∀v cc,Frs K {P1 a,bQ G Z ρ H<|some a,F} F' ((V.ref a::vs).map some) H' ((AV.op c'::l).map some) v cc->Frs K G F' Z H' (setC ρ j c') v cc:=by
 have oo:∀b,bQ G Z ρ H (some a) b=none->G.O b=none:=λb h=>by
  cases q:G.O b with
  | none=>rfl
  | some o=>rw[dG S q]at h;cases h
 let{a',e',oa}:=S.ow j c hj;rw[ha]at e';injection e' with e';injection e' with e';injection e' with e';subst e';have hl:j<ρ.length:=by let h||h:=hj<;>exact(List.getElem?_eq_some_iff.mp h).1
 generalize hav:((ρ[j]?.join).map λ(x:AV)=>match x with | .op _=>AV.op c'|_=>AV.ol c')=av;have zak:setC ρ j c'=ρ.set j av:=by rw[<-hav];rfl
 rw[zak];have ne:∀i,i≠j->(ρ.set j av)[i]? = ρ[i]?:=λi hi=>be<|Ne.symm hi
 have atj:(ρ.set j av)[j]? = some av:=di hl;have kind:(ρ[j]? = some (some<|.ol c)/\av=some (.ol c'))\/(ρ[j]? = some (some<|.op c)/\av=some (.op c')):=by
  let h||h:=hj
  ·exact .inl {h,by rw[<-hav,h];rfl}
  ·exact .inr {h,by rw[<-hav,h];rfl}
 have WU:∀i e,own (ρ.set j av) i e->(i=j/\e=c')\/(i≠j/\own ρ i e):=λi e h=>by
  by_cases hi:i=j
  ·subst hi;unfold own at h;rw[atj]at h;let{_,k}||{_,k}:=kind<;>rw[k]at h<;>let h||h:=h<;>cases h<;>exact .inl {rfl,rfl}
  ·unfold own at h ⊢;rw[ne i hi]at h;exact .inr {hi,h}
 have nea:∀i e b,i≠j->own ρ i e->Z[i]? = some (some<|V.ref b)->b≠a:=λi e b hi ho q z=>by
  subst z;exact hi<|S.dj i j e c b ho hj q ha
 have Uq:WK K {P1 a,bQ G Z ρ H<|some a,F} F' H' a c':=by
  let{b,e1,ob}:=S1.ow 0 c'<|.inr rfl;have:V.ref a=V.ref b:=by simpa using e1
  injection this with this;subst this;exact ob
 refine{{S1.fh,λb o h=>S1.oh b o<|dG S h,λb o h=>S1.fo b o<|dG S h,by simpa using S.ln,λi d h=>?_,λi e h=>?_,λi k d e b h1 h2=>?_,λi b h=>?_,λi d h=>?_,S.fb.trans s1},λv cc h=>?_}
 ·by_cases hi:i=j
  ·subst hi;rw[atj]at h;let{_,k}||{_,k}:=kind<;>rw[k]at h<;>cases h
  ·rw[ne i hi]at h;let{v,e,r}:=S.fz i d h;exact{v,e,r.mono s1}
 ·let{rfl,rfl}||{hi,ho}:=WU i e h
  ·exact{a,ha,Uq.nf,oa.no,Uq.he}
  ·let{b,eb,ob}:=S.ow i e ho;let{o,hh}:=ob.he.some;have q:bQ G Z ρ H (some a) b=some o:=by rw[iA ho eb λz=>nea i e b hi ho eb<|Option.some.inj z];exact hh
   exact{b,eb,(S1.fo b o q).1,ob.no,(ob.he.mono s1).at (by rw[S1.oh b o q,hh])}
 ·have f:∀i e,own (ρ.set j av) i e->∃d,own ρ i d:=λi e h=>by
   let{rfl,_}||{_,ho}:=WU i e h
   ·exact{c,hj}
   ·exact{e,ho}
  exact S.dj i k _ _ b (f i d h1).choose_spec (f k e h2).choose_spec
 ·let{q1,e,q2}:=S.pp i b h;refine{q1,?_};by_cases hi:i=j
  ·subst hi;let{k1,k}||{k1,k}:=kind
   ·rw[k1]at q2;cases q2
   ·exact{c',by rw[atj,k]}
  ·exact{e,by rw[ne i hi];exact q2}
 ·by_cases hi:i=j
  ·subst hi;let{k1,k}||{k1,k}:=kind
   ·rw[atj,k]at h;cases h
   ·exact S.pq i c k1
  ·rw[ne i hi]at h;exact S.pq i d h
 ·let{b,rfl,ob,nn}:=h;refine{b,rfl,{ob.nf,oo b ob.no,ob.he},λi e ho q=>?_};let{rfl,_}||{hi,Vd}:=WU i e ho
  ·rw[ha]at q;injection q with q;injection q with q;injection q with q;subst q;exact nn 0 c' (.inr rfl) rfl
  ·let{b',eb,Y2}:=S.ow i e Vd;rw[q]at eb;injection eb with eb;injection eb with eb;injection eb with eb;subst eb;let{o,hh}:=Y2.he.some;have:=ob.no;rw[show({P1 a,bQ G Z ρ H<|some a,F}:Gh).O b=bQ G Z ρ H (some a) b from rfl,iA Vd q λz=>nea i e b hi Vd q<|Option.some.inj z,hh]at this
   cases this
end
abbrev Si(ds:Re D):En:=(ds.map AV.fz).map some
def KD:KS D:={λ_=>.ret .none,λd _=>.ret d,λ_ _=>.bad,λ_=>.bad,λ_=>.bad,λe _=>.exc e}
def asL{S:Type}(c:OC)(k:Re D->M S):M S:=match c with
 | .l ds=>k ds
 | _=>.bad
def KL:KS ?Q:={λ_=>.bad,λ_ _=>.bad,λc _=>asL c .ret,λ_=>.bad,λ_=>.bad,λe _=>.exc e}
def ZS{S:Type}(ρ:En)(k:Re D->M S):M S:=match (ρ[0]? : SC (SC AV))with
 | some (some<|AV.op<|OC.l f)=>k f
 | _=>.bad
def K1:KS ?V:={λρ=>ZS ρ λf=>.ret (.none,f),λd ρ=>ZS ρ λf=>.ret (d,f),λ_ _=>.bad,λ_=>.bad,λ_=>.bad,λe _=>.exc e}
def qt(K:Fg)(G:Gh)(E:XK){α:Type}(m:M α)(C:α->Prop):Prop:=match m with
 | .ret a=>C a
 | .exc x=>∀F' H' Cl dd,GOk G F' H'->XR K F' Cl dd x->E (.ref Cl) dd H'
 | .bad=>False
def J_(K:Fg)(n:Nat)(mf:Re D->M D):Sp:=λvs H Q E=>∃G F ds,vs.length=n/\b_ K G F ?jq H (Si ds)/\qt K G E (mf ds) λd=>∀v F' H',c_ F F'->b_ K G F' ?jq H' (Si ds)->Rep K F' v d->Q v H'
def spL(K:Fg)(n:Nat)(mf:Re D->M ?Q):Sp:=λvs H Q E=>∃G F ds,vs.length=n/\b_ K G F ?jq H (Si ds)/\qt K G E (mf ds) λd=>∀v F' H',c_ F F'->b_ K G F' ?jq H' (Si ds)->Frs K G F' ?jq H' (Si ds) v (.l d)->Q v H'
def Xy(K:Fg)(n:Nat)(mf:Re D->Re D->M ?V):Sp:=λvs H Q E=>∃G F f ds,vs.length=n/\b_ K G F ?jq H (some (.op<|.l f)::Si ds)/\qt K G E (mf f ds) λr =>
 ∀v F' H',c_ F F'->b_ K G F' ?jq H' (some (.op<|.l r.2)::Si ds)->Rep K F' v r.1->Q v H'
section
variable {ds:Re D}
theorem tQ(S:b_ K G F ?jq H (Si ds))(s1:c_ F F')(S1:b_ K G F' Z H' ρ):b_ K G F' ?jq H' (Si ds):=by
 refine{S1.fh,S1.oh,S1.fo,S.ln,λi d q=>?_,λi c q=>(jy q).elim,λi j c e a q=>(jy q).elim,S.pp,S.pq,S1.fb};let{v,e,r}:=S.fz i d q;exact{v,e,r.mono s1}
theorem Jc(S1:b_ K G F' Z H' ρ)(h:Frs K G F' Z H' ρ v c):Frs K G F' ?jq H' (Si ds) v c:=by
 let{a,rfl,oa,_}:=h;exact{a,rfl,oa,λi e q=>(jy q).elim}
theorem Uq{f:Re D}{i:Nat}(h:own (some (.op<|.l f)::Si ds) i c):i=0/\c=.l f:=by
 cases i with
 | zero=>let h||h:=h<;>simp at h;exact{rfl,h.symm}
 | succ i=>exact(jy (ds:=ds) (i:=i) (c:=c) (by unfold own at h ⊢;simpa using h)).elim
theorem GQ{f f':Re D}(S:b_ K G F ?jq H (some (.op<|.l f)::Si ds))(s1:c_ F F')(S1:b_ K G F' Z H' ρ)(h0:ρ[0]? = some (some<|.op<|.l f')) :
  b_ K G F' ?jq H' (some (.op<|.l f')::Si ds)/\∀v c,Frs K G F' Z H' ρ v c->Frs K G F' ?jq H' (some (.op<|.l f')::Si ds) v c:=by
 let{a,ha}:=S1.pq 0 _ h0;let{e1,_}:=S1.pp 0 a ha;let{e2,_}:=S.pp 0 a ha;let{b,eb,ob}:=S1.ow 0 _<|.inr h0;rw[e1]at eb;injection eb with eb;injection eb with eb;injection eb with eb;subst eb;have only:∀i b,G.P i=some b->i=0:=λi b h=>by
  let{_,c,q}:=S.pp i b h;exact(Uq<|.inr q).1
 refine{{S1.fh,S1.oh,S1.fo,S.ln,λi d q=>?_,λi c q=>?_,λi j c e b q1 q2 _ _=>?_,λi b q=>?_,λi c q=>?_,S1.fb},λv c h=>?_}
 ·cases i with
  | zero=>simp at q
  | succ i =>
   let{v,e,r}:=S.fz ?qc d (by simpa using q);exact{v,e,r.mono s1}
 ·let{rfl,rfl}:=Uq q;exact{a,e2,ob}
 ·rw[(Uq q1).1,(Uq q2).1]
 ·have:=only i b q;subst this;exact{(S.pp 0 b q).1,_,rfl}
 ·let{rfl,_}:=Uq<|.inr q;exact{a,ha}
 ·let{b,rfl,ob2,nn}:=h;refine{b,rfl,ob2,λi e q z=>?_};let{rfl,rfl}:=Uq q;rw[e2]at z;injection z with z;injection z with z;injection z with z;subst z;exact nn 0 _ (.inr h0) e1
end
section
variable {qual:Str} {N:Re Str} {k:Nat}
theorem qY{ds:Re D}(hl:vs.length=ps.length)(S0:b_ K G F ?jq H (Si ds)):b_ K G F (L2.start N vs) H (Si ds++List.replicate ?jE none):=by
 have e0:L2.start N vs=vs.map some++List.replicate ?jE none:=by unfold L2.start;rw[hl]
 rw[e0];exact S0.grow _
theorem IJ{sp:Sp}(Fn:WN K x qual st f fd)(S:q_ N ps ?jR)(len:∀vs H Q E,sp vs H Q E->vs.length=ps.length)
  (Vi:∀(t_:SL) (A:UV) (outer:Re Env) (s:SZ) (H:Hp) (vs:Re V) (Q:VK) (E:XK),y_ k ?ja->sp vs H Q E ->
   ∃t,VQ ?U ?qt t/\t { nx:=λ_ H'=>Q .QW H',rt:=Q } (start N vs) H):Q6 P w K mg base ?qK (k+1) f fd ps sp:=by
 let{oc,od,kV,doc,pm,an,t_,ct,Uc,rfl,lk,Ri}:=Fn.ex;exact Ke lk Ri S len λA outer s H vs Q E hr Uu=>Vi t_ A outer s H vs Q E hr Uu
theorem Cc{C:α->Prop}{N:Re Str}{qual:Str}{scope:Scope}{t_:SL}{outer:Re Env}{e:Ex}(h:qt K G E (M.exc e:M α) C):XW (mG ?qK P w K mg base N qual scope f t_ A outer s H E) G F ρ e :=
 λF' H' s' a Cl dd pins Z g _ I xs _ xr=>Iw I xs<|h F' H' Cl dd g xr
theorem An{mb:SM D}{mf:Re D->M D}(Fn:WN K x qual st f fd)(Sc:q_ N ps ?jR)
  (hb:∀(t_:SL) (A:UV) (outer:Re Env) (s:SZ) (H:Hp) (E:XK),y_ k ?ja ->
   Uk ?U ?qt mb)
  (hm:∀ds,ds.length=ps.length->mf ds=mb KD (Si ds++List.replicate ?jE none)):Q6 P w K mg base ?qK (k+1) f fd ps (J_ K ps.length mf):=by
 refine IJ Fn Sc (λvs H Q E h=>?_) λt_ A outer s H vs Q E hr h=>?_
 ·let{_,_,_,h1,_}:=h;exact h1
 ·let{G,F0,ds,h1,S0,e}:=h;have hl:ds.length=ps.length:=by grind
  rw[hm ds hl]at e;refine{_,fP,hb t_ A outer s H E hr (λm=>qt K G E m _) KD G F0 _ H _ _ (λz=>z) (λF ρ e z=>Cc z) (qY h1 S0) e ?_};exact{λF' σ' H' ρ' s S' o=>((o .QW F' H' s (tQ S0 s S') .QW)),λF' σ' H' ρ' d' v s S' r o=>((o v F' H' s (tQ S0 s S') r)),λF' σ' H' ρ' d' v s S' r o=>(o).elim,λF' σ' H' ρ' s S' o=>(o).elim,λF' σ' H' ρ' s S' o=>(o).elim}
theorem Mu{k:Re D->M S}{C:S->Prop}(h:qt K G E (asL c k) C):∃ds,c=.l ds/\qt K G E (k ds) C:=by
 cases c with
 | l ds=>exact{ds,rfl,h}
 | _=>exact(h).elim
theorem LS{mb:SM ?Q}{mf:Re D->M ?Q}(Fn:WN K x qual st f fd)(Sc:q_ N ps ?jR)
  (hb:∀(t_:SL) (A:UV) (outer:Re Env) (s:SZ) (H:Hp) (E:XK),y_ k ?ja ->
   Uk ?U ?qt mb)
  (hm:∀ds,ds.length=ps.length->mf ds=mb KL (Si ds++List.replicate ?jE none)):Q6 P w K mg base ?qK (k+1) f fd ps (spL K ps.length mf):=by
 refine IJ Fn Sc (λvs H Q E h=>?_) λt_ A outer s H vs Q E hr h=>?_
 ·let{_,_,_,h1,_}:=h;exact h1
 ·let{G,F0,ds,h1,S0,e}:=h;have hl:ds.length=ps.length:=by grind
  rw[hm ds hl]at e;refine{_,fP,hb t_ A outer s H E hr (λm=>qt K G E m _) KL G F0 _ H _ _ (λz=>z) (λF ρ e z=>Cc z) (qY h1 S0) e ?_};exact{λF' σ' H' ρ' s S' o=>(o).elim,λF' σ' H' ρ' d' v s S' r o=>(o).elim,λF' σ' H' ρ' d' v s S' r o=>(by let{WI,rfl,o}:=Mu o;exact o v F' H' s (tQ S0 s S')<|Jc S' r),λF' σ' H' ρ' s S' o=>(o).elim,λF' σ' H' ρ' s S' o=>(o).elim}
theorem GR{k:Re D->M S}{C:S->Prop}(h:qt K G E (ZS ρ k) C):∃f,ρ[0]? = some (some<|AV.op<|OC.l f)/\qt K G E (k f) C:=by
 unfold ZS at h;split at h
 ·grind
 ·exact h.elim
theorem Hq{ds g:Re D}(hl:vs.length=ps.length)(S0:b_ K G F ?jq H (some (.op<|.l g)::Si ds)):b_ K G F (L2.start N vs) H (some (.op<|.l g)::Si ds++List.replicate ?jE none):=by
 have e0:L2.start N vs=vs.map some++List.replicate ?jE none:=by unfold L2.start;rw[hl]
 rw[e0];exact S0.grow _
theorem Gm{mb:SM ?V}{mf:Re D->Re D->M ?V}(Fn:WN K x qual st f fd)(Sc:q_ N ps ?jR)
  (hb:∀(t_:SL) (A:UV) (outer:Re Env) (s:SZ) (H:Hp) (E:XK),y_ k ?ja ->
   Uk ?U ?qt mb)
  (hm:∀g ds,ds.length+1=ps.length->mf g ds=mb K1 (some (.op<|.l g)::Si ds++List.replicate ?jE none)):Q6 P w K mg base ?qK (k+1) f fd ps (Xy K ps.length mf):=by
 refine IJ Fn Sc (λvs H Q E h=>?_) λt_ A outer s H vs Q E hr h=>?_
 ·let{_,_,_,_,h1,_}:=h;exact h1
 ·let{G,F0,g,ds,h1,S0,e}:=h;have hl:ds.length+1=ps.length:=by grind
  rw[hm g ds hl]at e;refine{_,fP,hb t_ A outer s H E hr (λm=>qt K G E m _) K1 G F0 _ H _ _ (λz=>z) (λF ρ e z=>Cc z) (Hq h1 S0) e ?_};refine{λF' σ' H' ρ' s S' o=>?_,λF' σ' H' ρ' d' v s S' rv o=>?_,λF' σ' H' ρ' d' v s S' r o=>(o).elim,λF' σ' H' ρ' s S' o=>(o).elim,λF' σ' H' ρ' s S' o=>(o).elim}
  ·let{f',q,e'}:=GR o;exact e' .QW F' H' s (GQ S0 s S' q).1 .QW
  ·let{f',q,e'}:=GR o;exact e' v F' H' s (GQ S0 s S' q).1 rv
end
structure CF(P:Tl)(w:TD)(K:Fg)(mg:Rm)(base:Wp)(x:Str)(k:Nat)(sp:Sp):Prop where
 ex:∃(f:Tk) (fd:FuncData) (ps:Re Str),Q6 P w K mg base ?qK k f fd ps sp/\mg x=some (.ref f)/\PySem.W.keepIn K (.ref f)=true/\L2.Binds K fd ps []
def OY(mf:Re D->M D)(ps:Pa D):Pu D:=λρ=>ps (λds=>mf ds) ρ
def OX(mf:Re D->M ?Q)(ps:Pa ?Q):Pu ?Q:=λρ=>ps (λds=>mf ds) ρ
section
def Pi(mf:Re D->Re D->M ?V)(i:Nat)(ms:Ev S ?Q):Ev S D:=λx k ρ=>ms x (λds ρ1=>match iR ρ1 i with
 | some f=>(mf f ds).on (λe=>x e ρ1) λr=>k r.1<|qb ρ1 i r.2
 | none=>.bad) ρ
end
def EX(X:Cx)(G:Gh)(Z:L2.St):XK:=λc dd H'=>∃x ρ F1 F' C,c=.ref C/\XW X G F1 ρ x/\GOk G F' H'/\zau X.K F' Z ρ/\XR X.K F' C dd x
theorem XS.zaB{h:Wp}{lo lo':Nat}{e:Tk}(xs:XS H h lo e C dd)(hl:lo'<=lo):XS H h lo' e C dd:=by
 let{oe,vs,q,c,d,z,z1,k}:=xs.obj;refine{bj hl xs.yg,xs.VE,oe,vs,q,c,d,z,z1,k.imp id ?_};rintro⟨T,oT,ts,k,ne,l,r⟩;exact{T,oT,ts,k,ne,bj hl l,r}
def nZ(X:Cx)(Z:L2.St)(E:XK):Prop:=∀(pins:C_) (H:Hp) (s:SZ) (e:SL) (s':SZ),Inv X pins Z H s->R3 X.prog X.w X.stack H s E e s'->X.xe e s'
theorem yh:nZ X Z (EX X G Z):=λpins H s e s' I h=>by
 let{a,C,dd,H',rfl,ho,hb,un,hk,xs,x,ρ,F1,F',C',ec,xw,g,fz,xr}:=h
 cases ec
 refine xw F' H' s' a C dd pins Z g fz (I.ZR ho un hk hb λb z=>absurd z ?G) (xs.zaB I.sz) (λp hp z=>?_) xr;exact absurd (bo (aw (I.pin p hp).1) (xs.tb z).2.1)<|lf _
theorem EX.of{x:Ex}{p:Nat->SC Tk}(S:b_ X.K G F Z H ρ)(xw:XW X G F ρ x)(g:GOk {p,bQ G Z ρ H ex,F} F' H')(xr:XR X.K F' C dd x):EX X G Z (.ref C) dd H' :=
 {x,ρ,F,F',C,rfl,xw,{g.fh,λb o h=>g.oh b o<|dG S h,λb o h=>g.fo b o<|dG S h,S.fb.trans g.fb},S.zao g.fb,xr}
section
variable {k:Nat} {sp:Sp}
theorem EO{us:Re SL}(F:Q6 X.prog X.w X.K X.mg X.base (R3 X.prog X.w) k f fd ps sp)(hr:y_ k X.A)(hb:L2.Binds X.K fd ps [])(hx:nZ X Z E)
  (I:Inv X pins Z H s) (r:Vals vs us) (h:sp vs H Q E):wpAny ?B X.A (call (.ref f) us) ?jr X.xe s:=by
 have hl:(us++[]).length=ps.length:=by rw[ic,<-r.length];exact F.len _ _ _ _ h
 have bb:=hb s us I.S8 hl;rw[ic]at bb;refine wpAny_call<|QB (F.run X.A X.stack s H {us,[]} us vs Q E hr I.zaq bb r h) λr s' hq=>?_
 cases r with
 | error e=>exact hx pins H s e s' I hq
 | ok fl =>
  cases fl with
  | ret u=>exact I.after hq
  | next=>exact False.elim hq
  | brk=>exact False.elim hq
  | cont=>exact False.elim hq
theorem q9(F:Q6 X.prog X.w X.K X.mg X.base (R3 X.prog X.w) k f fd ps sp)(hr:y_ k X.A)(hg:Gl X x)(hm:X.mg x=some (.ref f))(hk:PySem.W.keepIn X.K (.ref f)=true)(hb:L2.Binds X.K fd ps [])(hx:nZ X Z E)
  (Sf:(x==("__debug__" : Str))=false) (he:starEach (e::es) X.env=?K::starEach es X.env) (Q7:(backTo pos ?T).any (·.1)=false)
  (h:gQ X (e::es) Z H λvs H1=>sp vs H1 Q E):gE X (.Call (.Name x p) (e::es) [] pos) Z H Q:=by
 unfold gE;intro pins s I;unfold gQ at h;refine nu<|nF I hg hm ?_ Sf;refine PySem.W.callWith_K  I.ok.mod.kin hk (p_ (h pos pins s I) λus s1 ⟨vs,H1,I1,r,q⟩=>{I1.S8,?_}) he Q7;exact EO F hr hb hx I1 r q
end
section
variable {k:Nat} {mf:Re D->M D} {ml:Re D->M ?Q} {m1:Re D->Re D->M ?V} {m1L:Re D->Re D->M (Re D×Re D)} {pn:Pos} {ps:Pa D} {pl:Pa ?Q} {ms:Ev S ?Q}
theorem bh(C:CF X.prog X.w X.K X.mg X.base x k (J_ X.K n mf))(hr:y_ k X.A)(ha:AA X (e::es) ps)(hg:Gl X x:=by rfl)(hn:(e::es).length=n:=by rfl)
  (Sf:(x==("__debug__" : Str))=false:=by decide) (he:starEach (e::es) X.env=?K::starEach es X.env:=by rfl) (Q7:(backTo pos ?T).any (·.1)=false:=by rfl):AP X (.Call (.Name x p) (e::es) [] pos) (OY mf ps):=by
 let{f,fd,pl,Fn,h1,h2,h3}:=C.ex;intro G F Z H ρ Q St w;refine q9 Fn hr hg h1 h2 h3 (yh (G:=G)) Sf he Q7 ?_;refine ha G F Z H ρ _ _ _ St w λds vs F1 H1 s1 S1 hl r1 w1=>?_
 cases hd:mf ds with
 | bad=>rw[hd]at w1;exact w1.elim
 | exc e =>
  rw[hd]at w1;exact{_,F1,ds,hl.trans hn,eO S1 r1,by rw[hd];exact λF' H' Cl dd g xr=>EX.of S1 w1 g xr}
 | ret d =>
  rw[hd]at w1;refine{_,F1,ds,hl.trans hn,eO S1 r1,?_};rw[hd];intro v F2 H2 s2 S2 r2;let{S3,t3}:=jG  S1 s2 S2;exact w1 F2 H2 s2 S3 v r2
theorem Of(C:CF X.prog X.w X.K X.mg X.base x k (spL X.K n ml))(hr:y_ k X.A)(ha:AA X (e::es) pl)(hg:Gl X x:=by rfl)(hn:(e::es).length=n:=by rfl)
  (Sf:(x==("__debug__" : Str))=false:=by decide) (he:starEach (e::es) X.env=?K::starEach es X.env:=by rfl) (Q7:(backTo pos ?T).any (·.1)=false:=by rfl):AL X (.Call (.Name x p) (e::es) [] pos) (OX ml pl):=by
 let{f,fd,pz,Fn,h1,h2,h3}:=C.ex;intro G F Z H ρ Q St w;refine q9 Fn hr hg h1 h2 h3 (yh (G:=G)) Sf he Q7 ?_;refine ha G F Z H ρ _ _ _ St w λds vs F1 H1 s1 S1 hl r1 w1=>?_
 cases hd:ml ds with
 | bad=>rw[hd]at w1;exact w1.elim
 | exc e =>
  rw[hd]at w1;exact{_,F1,ds,hl.trans hn,eO S1 r1,by rw[hd];exact λF' H' Cl dd g xr=>EX.of S1 w1 g xr}
 | ret d =>
  rw[hd]at w1;refine{_,F1,ds,hl.trans hn,eO S1 r1,?_};rw[hd];intro v F2 H2 s2 S2 r2;let{S3,t3}:=jG  S1 s2 S2;exact w1 F2 H2 s2 S3 v<|t3 v _ r2
theorem CO{i:Nat}{f g:Re D}(h:iR ρ i=some g):qb ρ i f=setC ρ i (.l f):=pH ρ i f g h
theorem AJ{i:Nat}{OK:M S->Prop}{z:Ex->En->M S}{kk:Re D->En->M S}{Q:Re V->Hp->Prop}(hN:X.N[i]? = some y)(hv:UW X.env.scope y)(hd:(y==("__debug__" : Str))=false)(Ri:(y==("__classdict__" : Str))=false)
  (ha:YE X es ms) (he:starEach (.Name y pn::es) X.env=(false,eval (.Name y pn) X.env)::starEach es X.env) (hO:T7 OK) (hX:XL X OK z G) (St:b_ X.K G F Z H ρ) (ok:OK (ms z (λds ρ1=>match iR ρ1 i with|some f=>kk (.list f::ds) ρ1|none=>.bad) ρ))
  (h0:(iR ρ i).isSome=true)
  (k2:∀a f ds vs F' H' ρ',c_ F F'->b_ X.K G F' Z H' ρ'->iR ρ' i=some f->Z[i]? = some (some ?qA)->vs.length=es.length->i_ X.K F' vs ds->OK (kk (.list f::ds) ρ')->Q (.ref a::vs) H'):gQ X (.Name y pn::es) Z H Q:=by
 let{f0,hf0}:=Option.isSome_iff_exists.mp h0;let{a,_,ea,_,_}:=eR St hf0;refine zH (dO ?j3 cI he) {_,ea,?_};refine ha OK z _ G F Z H ρ _ hO hX St ok λds vs F1 H1 ρ1 s1 S1 hl r1 o1=>?_
 split at o1
 ·grind
 ·exact(hO o1).elim
def ck{S α:Type}(i:Nat)(m:Ev S α):Ev S α:=λx k ρ=>match (iR ρ i).isSome with
 | true=>m x k ρ
 | false=>.bad
theorem sZ{ds f:Re D}(S:b_ K G F Z H ρ)(hj:iR ρ j=some f)(ha:Z[j]? = some (some ?qA))(r:i_ K F vs ds) :
  b_ K {P1 a,bQ G Z ρ H<|some a,F} F ((V.ref a::vs).map some) H (some (.op<|.l f)::Si ds):=DP S (mX hj) ha r
theorem cw{i:Nat}(C:CF X.prog X.w X.K X.mg X.base x k (Xy X.K n m1))(hr:y_ k X.A)(ha:YE X es ms)(hg:Gl X x:=by rfl)(hN:X.N[i]? = some y:=by rfl)(hv:UW X.env.scope y:=by exact vi rfl)(hn:es.length+1=n:=by rfl)
  (Sf:(x==("__debug__" : Str))=false:=by decide) (he:starEach (.Name y pn::es) X.env=(false,eval (.Name y pn) X.env)::starEach es X.env:=by rfl) (Q7:(backTo pos ?T).any (·.1)=false:=by rfl)
  (hd:(y==("__debug__" : Str))=false:=by decide) (Ri:(y==("__classdict__" : Str))=false:=by decide):AE X (.Call (.Name x p) (.Name y pn::es) [] pos) (ck i<|Pi m1 i ms):=by
 let{f,fd,pl,Fn,h1,h2,h3}:=C.ex;intro OK z kk G F Z H ρ Q hO hX St ok k2;unfold ck at ok;split at ok
 case h_2=>exact(hO ok).elim
 rename_i h0;refine q9 Fn hr hg h1 h2 h3 (yh (G:=G)) Sf he Q7 ?_;refine AJ   (kk:=λl ρ1=>match l with | .list f::ds=>(m1 f ds).on (λe=>z e ρ1) λr=>kk r.1<|qb ρ1 i r.2|_=>.bad) hN hv hd Ri ha he hO hX St ok h0 λa f ds vs F1 H1 ρ1 s1 S1 hf ea hl r1 o1=>?_
 have Y3:OK ((m1 f ds).on (λe=>z e ρ1) λr=>kk r.1<|qb ρ1 i r.2):=o1
 cases hd:m1 f ds with
 | bad=>rw[hd]at Y3;exact(hO Y3).elim
 | exc e =>
  rw[hd]at Y3;exact{_,F1,f,ds,by simp[hl];exact hn,sZ S1 hf ea r1,by rw[hd];exact λF' H' Cl dd g xr=>EX.of S1 (hX F1 ρ1 e Y3) g xr}
 | ret r =>
  rw[hd]at Y3;refine{_,F1,f,ds,by simp[hl];exact hn,sZ S1 hf ea r1,?_};rw[hd];intro v F2 H2 s2 S2 r2;let{S3,t3}:=Ay   S1 (mX hf) ea s2 S2;rw[<-CO hf]at S3;exact k2 r.1 v F2 H2 _ ?jo S3 r2 Y3
end
theorem CF.zero(k n:Nat)(h1:mg x=some (.ref f))(h2:PySem.W.keepIn K (.ref f)=true)(h3:L2.Binds K fd ps []) :
  CF P w K mg base x k (J_ K n λ_=>.bad):={f,fd,ps,{λvs H Q E h=>(by let{_,_,_,_,_,z}:=h;exact z.elim),λA outer s H args us vs Q E hr e0 hb hv h=>(by let{_,_,_,_,_,z}:=h;exact z.elim)},h1,h2,h3}
theorem CF.zav(k n:Nat)(h1:mg x=some (.ref f))(h2:PySem.W.keepIn K (.ref f)=true)(h3:L2.Binds K fd ps []) :
  CF P w K mg base x k (Xy K n λ_ _=>.bad):={f,fd,ps,{λvs H Q E h=>(by let{_,_,_,_,_,_,z}:=h;exact z.elim),λA outer s H args us vs Q E hr e0 hb hv h=>(by let{_,_,_,_,_,_,z}:=h;exact z.elim)},h1,h2,h3}
theorem _root_.L2.y_.m{k:Nat}(r:y_ k A)(h:j<=k:=by decide):y_ j A:=r.mono h
theorem aj{k:Nat}(r:y_ k A):A.units+1100<cLine:=by have:=r.un;lia
def XI{S:Type}(m:M S):M S:=match m with
 | .ret s=>.ret s
 | _=>.bad
theorem nv(s:S):XI (M.ret s)=.ret s:=rfl
def aZ(step:D->M (SC D)):Re D->M ?Q
 | []=>.ret []
 | d::r=>bd (XI<|step d) λo=>bd (aZ step r) λxs=>.ret<|o.toList++xs
theorem zk{step:D->M (SC D)}:∀{ds:Re D} {e:Ex},aZ step ds≠.exc e
 | [],e,h=>by cases h
 | d::r,e,h=>by
  unfold aZ at h
  cases hs:step d with
  | ret o =>
   rw[hs]at h
   cases hr:aZ step r with
   | ret xs=>rw[hr]at h;cases h
   | exc e'=>exact zk hr
   | bad=>rw[hr]at h;cases h
  | exc e'=>rw[hs]at h;cases h
  | bad=>rw[hs]at h;cases h
def yl(k:Nat)(it:Pu ?Q)(t:Tg (SC D))(pt:Pu Bool)(pe:Pu D):Pu ?Q:=λρ=>bd (it ρ) λds =>
 bd (aZ (λd=>t d (λρ1=>bd (pt ρ1) λb=>if b then bd (pe ρ1) λv=>.ret (some v)else .ret none) ?jS) ds) cq
def eW{T:Type}(step:T->D->M (SC D×T)):Re D->T->M (Re D×T)
 | [],s=>.ret ([],s)
 | d::r,s=>bd (XI<|step s d) λp=>bd (eW step r p.2) λq=>.ret (p.1.toList++q.1,q.2)
theorem zh{T:Type}{step:T->D->M (SC D×T)}:∀{ds:Re D} {s:T} {e:Ex},eW step ds s≠.exc e
 | [],s,e,h=>by cases h
 | d::r,s,e,h=>by
  unfold eW at h
  cases hs:step s d with
  | ret o =>
   rw[hs,nv,w4]at h
   cases hr:eW step r o.2 with
   | ret xs=>rw[hr]at h;cases h
   | exc e'=>exact zh hr
   | bad=>rw[hr]at h;cases h
  | exc e'=>rw[hs]at h;cases h
  | bad=>rw[hs]at h;cases h
def Kh{S:Type}(sh:Re Kd)(k:Nat)(it:Ev S ?Q)(t:Tg ?qE)(et:Ev ?qE Bool)(ee:Ev ?qE D):Ev S ?Q:=λx kk ρ=>it x (λds ρ1=>SD sh (λs =>
 (eW (λs d=>t d (λρ2=>et (λe _=>.exc e) (λb ρ3=>if b then ee (λe _=>.exc e) (λv ρ4=>SD sh (λs'=>.ret (some v,s'))<|ρ4.take sh.length) ρ3 else SD sh (λs'=>.ret (none,s')) (ρ3.take sh.length)) ρ2)<|wr sh s++List.replicate k none) ds s).on
  (λe=>x e ρ1) λq=>(cq q.1).on (λe=>x e ρ1) λout=>kk out<|wr sh q.2) ρ1) ρ
def Ny:Pu Bool:=λ_=>.ret true
def ATs(X:Cx)(ifs:Re TW)(p:Pu Bool):Prop :=
 ∀(G:Gh) (F:Hp) (Z:L2.St) (H:Hp) (ρ:En) (Q:Bool->Hp->Prop),b_ X.K G F Z H ρ->W X G F Z ρ (p ρ) (λd F' H'=>Q d H')->∀(pins:C_) (s:SZ),Inv X pins Z H s ->
  wpAny ?B X.A (forIn ifs true λc r=>if r=true then do let ok <-isTrue c X.env (eval c X.env);pure (ForInStep.yield ok)else pure (ForInStep.yield r)) ?qx X.xe s
theorem cF:ATs X [] Ny:=λG F Z H ρ Q S w pins s I=>HI pins s Z H Q I<|w F H ?I S
theorem dq{c:TW}{p:Pu Bool}(h:AT X c p):ATs X [c] p:=λG F Z H ρ Q S w pins s I=>Bj eG pins s Z H Q I<|h G F Z H ρ Q S w
def Jt{S:Type}(X:Cx)(ifs:Re TW)(m:Ev S Bool):Prop :=
 ∀(OK:M S->Prop) (x:Ex->En->M S) (k:Bool->En->M S) (G:Gh) (F:Hp) (Z:L2.St) (H:Hp) (ρ:En) (Q:Bool->Hp->Prop),T7 OK->XL X OK x G->b_ X.K G F Z H ρ->OK (m x k ρ) ->
  (∀d F' H' ρ',c_ F F'->b_ X.K G F' Z H' ρ'->OK (k d ρ')->Q d H')->∀(pins:C_) (s:SZ),Inv X pins Z H s ->
  wpAny ?B X.A (forIn ifs true λc r=>if r=true then do let ok <-isTrue c X.env (eval c X.env);pure (ForInStep.yield ok)else pure (ForInStep.yield r)) ?qx X.xe s
theorem Cv{ifs:Re TW}{p:Pu Bool}(h:ATs X ifs p):Jt (S:=S) X ifs (Zp p):=λOK x k G F Z H ρ Q hO hX St ok kk=>h G F Z H ρ Q St<|W.of hO hX ok λd F' H' s S' o=>kk d F' H' ρ s S' o
theorem G3{c:TW}{m:Ev S Bool}(h:Xv X c m):Jt X [c] m:=λOK x k G F Z H ρ Q hO hX St ok kk pins s I=>Bj eG pins s Z H Q I<|h OK x k G F Z H ρ Q hO hX St ok kk
theorem W.zaz{m:M α}{a:α}{C:α->Hp->Hp->Prop}(e:m=.ret a)(h:∀F' H',c_ F F'->b_ X.K G F' Z H' ρ->C a F' H'):W X G F Z ρ m C:=by subst e;exact h
theorem Ec:∀(sh:Re Kd) (s:Rb sh),(wr sh s).length=sh.length:=by
 intro sh
 induction sh with
 | nil=>intro s;rfl
 | cons a r ih=>intro s;cases a<;>simp[wr,ih]
inductive Zz{τ:Type}(K:Fg)(G:Gh)(Z:L2.St)(k:Nat)(ds:Re D)(F1:Hp)(en:τ->En)(go:Nat->τ->Re D->Prop)(out:Re D):Nat->Nat->Re V->L2.St->Hp->Prop
 | mk {i:Nat} {vs:Re V} {σ':L2.St} {H':Hp} (F':Hp) (acc rest:Re D) (s:τ) (hi:i<=ds.length) (s2:c_ F1 F') (S2:b_ K G F' σ' H' (en s)) (kp:∀j,j<Z.length->σ'[j]? = Z[j]?) (hl:σ'.length=Z.length+k) (rp:i_ K F' vs acc) (g:go i s rest) (eo:out=acc++rest):Zz K G Z k ds F1 en go out i (ds.length - i) vs σ' H'
theorem Zz.on{τ:Type}{k:Nat}{ds:Re D}{F1:Hp}{en:τ->En}{go:Nat->τ->Re D->Prop}{out:Re D}{i:Nat}{σ':L2.St}(F':Hp)(acc rest:Re D)(s:τ)(hi:i<ds.length)(s2:c_ F1 F')(S2:b_ K G F' σ' H' (en s))(kp:∀j,j<Z.length->σ'[j]? = Z[j]?)(hl:σ'.length=Z.length+k)(rp:i_ K F' vs acc)(g:go ?qc s rest)(eo:out=acc++rest):∃m',m'<ds.length - i/\Zz K G Z k ds F1 en go out ?qc m' vs σ' H' :=
 {ds.length - ?qc,by lia,{F',acc,rest,s,hi,s2,S2,kp,hl,rp,g,eo}}
theorem Av{step:D->M (SC D)}{d:D}{r rest:Re D}(h:aZ step (d::r)=.ret rest):∃o Ro,step d=.ret o/\aZ step r=.ret Ro/\rest=o.toList++Ro:=by
 unfold aZ at h
 cases hs:step d with
 | bad=>rw[hs]at h;cases h
 | exc e=>rw[hs]at h;cases h
 | ret o =>
  rw[hs,nv]at h
  cases hr:aZ step r with
  | bad=>rw[hr]at h;cases h
  | exc e=>rw[hr]at h;cases h
  | ret Ro=>simp_all
theorem Au{T:Type}{step:T->D->M (SC D×T)}{d:D}{r rest:Re D}{s sf:T}(h:eW step (d::r) s=.ret (rest,sf)):∃o sn Ro,step s d=.ret (o,sn)/\eW step r sn=.ret (Ro,sf)/\rest=o.toList++Ro:=by
 unfold eW at h
 cases hs:step s d with
 | bad=>rw[hs]at h;cases h
 | exc e=>rw[hs]at h;cases h
 | ret o =>
  let{o,sn}:=o;rw[hs,nv,w4]at h
  cases hr:eW step r sn with
  | bad=>rw[hr]at h;cases h
  | exc e=>rw[hr]at h;cases h
  | ret q'=>rw[hr,w4]at h;grind
theorem vv{A B:Type}{m:M A}{f:A->M B}{b:B}(h:bd m f=.ret b):∃a,m=.ret a/\f a=.ret b:=by
 cases m with
 | bad=>cases h
 | exc e=>cases h
 | ret a=>exact{a,rfl,h}
section
def A8(X:Cx)(N':Re Str)(scope:Scope)(tg:TW):TG:=λv Z H Q=>∀cl s H0 fp C,uB (bL X N' scope cl s H0 fp C) tg v Z H Q
def A7(X:Cx)(N':Re Str)(scope:Scope)(ifs:Re TW):TT:=λZ H Q=>∀cl s0 H0 fp C,∀(pins:C_) (s:SZ),Inv (bL X N' scope cl s0 H0 fp C) pins Z H s ->
  wpAny ?B (bL X N' scope cl s0 H0 fp C).A (forIn ifs true λc r=>if r=true then do let ok <-isTrue c (bL X N' scope cl s0 H0 fp C).env (eval c (bL X N' scope cl s0 H0 fp C).env);pure (ForInStep.yield ok)else pure (ForInStep.yield r)) (TP (bL X N' scope cl s0 H0 fp C) pins Z Q) (bL X N' scope cl s0 H0 fp C).xe s
def A9(X:Cx)(N':Re Str)(scope:Scope)(e:TW):TE:=λZ H Q=>∀cl s H0 fp C,gE (bL X N' scope cl s H0 fp C) e Z H Q
variable {elt iter:TW} {ifs:Re TW} {scope:Scope} {N':Re Str} {k:Nat}
theorem wV{it:Pu ?Q}{t:Tg (SC D)}{pt:Pu Bool}{pe:Pu D}(hi:AI X tg iter it)
  (hg:∀cl s H fp C,AG ?M X.N.length tg t) (ht:∀cl s H fp C,ATs ?M ifs pt) (he:∀cl s H fp C,AP ?M elt pe)
  (hσ:Z.length=X.N.length) (St:b_ X.K G F Z H ρ) (w:W X G F Z ρ (yl k it t pt pe ρ) λds F' H'=>∀v,Frs X.K G F' Z H' ρ v (.l ds)->Q v H') :
  A6 (pF X tg iter) k (A8 X N' scope tg) (A7 X N' scope ifs) (A9 X N' scope elt) Z H Q:=by
 refine hi G F Z H ρ _ St (w.bind.imp λds F1 H1 s1 S1 w1 J wk=>?_);have hP:∀i a,G.P i=some a->i<Z.length:=λi a h=>(List.getElem?_eq_some_iff.mp (S1.pp i a h).1).1
 have hln:Z.length=ρ.length:=S1.ln;have wc:=w1.bind;revert wc;generalize Se:(λd=>t d (λρ1=>bd (pt ρ1) λb=>if b then bd (pe ρ1) λv=>.ret (some v)else .ret none) ?jS)=step;intro wc
 cases VL:aZ step ds with
 | bad=>rw[VL]at wc;exact wc.elim
 | exc e=>exact(zk VL).elim
 | ret out =>
  rw[VL]at wc;have wf:∀F' H',c_ F1 F'->b_ X.K G F' Z H' ρ->W X G F' Z ρ (cq out) λds F' H'=>∀v,Frs X.K G F' Z H' ρ v (.l ds)->Q v H':=wc
  have Vg:out.length<=sizeLine:=(wf F1 H1 ?I S1).fit.1;have fin:∀F' H',c_ F1 F'->b_ X.K G F' Z H' ρ->∀v,Frs X.K G F' Z H' ρ v (.l out)->Q v H':=λF' H' s' S'=>(wf F' H' s' S').fit.2 F' H' ?I S'
  have grown:∀{F' H' σ' ρ'},b_ X.K G F' σ' H' ρ'->(∀j,j<Z.length->σ'[j]? = Z[j]? /\ ρ'[j]? = ρ[j]?)->σ'.length=Z.length+k->b_ X.K G F' σ' H' ?jS:=λ{F' H' σ' ρ'} S' kp hl=>by
   refine S'.weak (by have:=S'.ln;simp;lia) (λi av q=>?_) (λi c q=>?_)
   ·have q':=nX q;have hi:i<Z.length:=by rw[hln];exact(List.getElem?_eq_some_iff.mp q').1
    rw[(kp i hi).2];exact q'
   ·let{a,ha}:=S'.pq i c q;have hi:=hP i a ha;rw[ul ?A,<-(kp i hi).2];exact q
  refine{Zz X.K G Z k ds F1 (λ_:Unit=>ρ++List.replicate k none) (λi _ rest=>aZ step (ds.drop i)=.ret rest) out,
   {_,{F1,[],out,(),ai _,c_.refl _,S1.grow k,λj hj=>by rw[ul hj],by simp,.nil,VL,rfl}},?_}
  rintro i m vs σ' H' ⟨F',acc,rest,_,hi,s2,S2,kp,hlen,rp,go,eo⟩;refine{by rw[rp.length];rw[eo,R4]at Vg;lia,?_};by_cases x_:i<ds.length
  ·refine .inr {wk.go i G F' σ' H' _ s2 S2 x_,λx H2 y cl s0 H0 fp C=>?_};let{F3,s3,S3,r3}:=wk.VB i G F' σ' H' _ x H2 ds[i] s2 S2 (ay x_) y;rw[re x_]at go;let{o,Ro,V7,hr,er}:=Av go;subst er;clear go;rw[<-Se]at V7;refine hg cl s0 H0 fp C (λm=>m=.ret o) _ G F3 σ' H2 _ x ds[i] _ ?jd S3 r3 V7 λσ3 ρ3 S4 kp3 hl3 ml3 o4=>?_
   have Y7:∀j,j<Z.length->σ3[j]? = Z[j]? /\ ρ3[j]? = ρ[j]?:=λj hj=>{((kp3 j ?A).1).trans (kp j hj),by rw[(kp3 j ?A).2,ul ?A]}
   let{b,Uv,o4}:=vv o4;intro cl s0 H0 fp C;refine ht cl s0 H0 fp C G F3 σ3 H2 ρ3 _ S4 (W.zaz Uv λF5 H5 s5 S5=>?_)
   cases b with
   | true =>
    refine LL ?_;let{v,hpe,o5}:=vv (m:=pe ρ3) o4
    cases o5
    intro cl s0 H0 fp C;refine he cl s0 H0 fp C G F5 σ3 H5 ρ3 _ S5 (W.zaz hpe λF6 H6 s6 S6 u ru=>?_);exact Zz.on F6 (acc++[v]) Ro () x_ (((s2.trans s3).trans s5).trans s6) (grown S6 Y7 ?A) (λj hj=>(Y7 j hj).1) ?A ((rp.mono ((s3.trans s5).trans s6)).append (.cons ru .nil)) hr (by rw[eo];simp)
   | false =>
    refine O6 ?_;have o4':(M.ret none:M (SC D))=M.ret o:=o4
    cases o4'
    exact Zz.on F5 acc Ro () x_ ((s2.trans s3).trans s5) (grown S5 Y7 ?A) (λj hj=>(Y7 j hj).1) ?A (rp.mono (s3.trans s5)) hr (by rw[eo];simp)
  ·have ei:i=ds.length:=by lia
   subst ei;rw[Ba]at go
   cases go
   rw[ic]at eo;subst eo;refine .inl {wk.stop G F' σ' H' _ s2 S2,λp hp=>?_};have Ssh:=S2.shrink (n:=Z.length) ?Y hP;have e1:σ'.take Z.length=Z:=qS kp rfl;have e2:(ρ++List.replicate k none).take Z.length=ρ:=by rw[hln,List.take_left]
   rw[e1,e2]at Ssh;let{S5,r5}:=Ssh.P_ hp rp;exact fin F' _ s2 S5 _ r5
theorem cG{it:Pu ?Q}{t:Tg (SC D)}{pt:Pu Bool}{pe:Pu D}(hc:X.calm=true)(Sc:RF X N' k scope)(hi:AI X tg iter it)
  (hg:∀cl s H fp C,AG ?M X.N.length tg t) (ht:∀cl s H fp C,ATs ?M ifs pt) (he:∀cl s H fp C,AP ?M elt pe)
  (hs:∀x,foldedSetIterable iter X.env x=pure x:=by exact λ_=>rfl):AL X (.ListComp elt [{tg,iter,ifs,0}] scope pos) (yl k it t pt pe):=by
 intro G F Z H ρ Q St w;unfold gE;intro pins s I;refine Bv     hc Sc (λx hx hf=>I.ok.has x.1<|Sc.free x hx hf) rE
  (λcl s H fp C pins s' Z H v u Q I r h=>lW pins s' Z H v u Q I r ?qB) (λcl s H fp C pins s' Z H Q I h=>h cl _ _ fp C pins s' I) (λcl s H fp C pins s' Z H Q I h=>aO pins s' Z H Q I ?qB) hs pins s Z H Q I<|wV hi hg ht he I.len St w
theorem GD{sh:Re Kd}{it:Ev S ?Q}{t:Tg ?qE}{et:Ev ?qE Bool}{ee:Ev ?qE D}{OK:M S->Prop}{x:Ex->En->M S}{kk:Re D->En->M S}(hi:AEi X tg iter it)
  (hg:∀cl s H fp C,AG ?M X.N.length tg t) (ht:∀cl s H fp C,Jt ?M ifs et) (he:∀cl s H fp C,AE ?M elt ee)
  (hσ:Z.length=X.N.length) (hO:T7 OK) (hX:XL X OK x G) (St:b_ X.K G F Z H ρ) (ok:OK (Kh sh k it t et ee x kk ρ)) (k2:∀ds v F' H' ρ',c_ F F'->b_ X.K G F' Z H' ρ'->Frs X.K G F' Z H' ρ' v (.l ds)->OK (kk ds ρ')->Q v H') :
  A6 (pF X tg iter) k (A8 X N' scope tg) (A7 X N' scope ifs) (A9 X N' scope elt) Z H Q:=by
 refine hi OK x _ G F Z H ρ _ hO hX St ok λds J F1 H1 ρ1 s1 S1 wk o1=>?_
 let{s0,e0,o0}:=gS hO o1;clear o1;have S0:=S1.rd e0;have zbt:sh.length=Z.length:=(Ec sh s0).symm.trans S0.ln.symm;have ZJ:∀s:Rb sh,(wr sh s).length=Z.length:=λs=>(Ec sh s).trans zbt
 have hP:∀i a,G.P i=some a->i<Z.length:=λi a h=>(List.getElem?_eq_some_iff.mp (S1.pp i a h).1).1
 revert o0;generalize Se:(λ(s:Rb sh) d=>t d (λρ2=>et (λe _=>.exc e) (λb ρ3=>if b then ee (λe _=>.exc e) (λv ρ4=>SD sh (λs'=>.ret (some v,s'))<|ρ4.take sh.length) ρ3 else SD sh (λs'=>.ret (none,s')) (ρ3.take sh.length)) ρ2)<|wr sh s++List.replicate k none)=step;intro o0
 cases VL:eW step ds s0 with
 | bad=>rw[VL]at o0;exact(hO o0).elim
 | exc e=>exact(zh VL).elim
 | ret q =>
  let{out,sf}:=q;rw[VL,Lk]at o0;let{Vg,o0}:=LX hO o0;have again:∀{F' H' σ' ρ'} {s':Rb sh},b_ X.K G F' σ' H' ρ'->(∀j,j<Z.length->σ'[j]? = Z[j]?)->σ'.length=Z.length+k->rd sh (ρ'.take sh.length)=some s'->b_ X.K G F' σ' H' (wr sh s'++List.replicate k none):=λ{F' H' σ' ρ' s'} S' kp hl e'=>by
   let{h1,h2,h3}:=jN sh _ s' e';have hρ':ρ'.length=Z.length+k:=by grind
   refine S'.weak (by simp[ZJ];lia) (λi av q=>?_) λi c q=>?_
   ·grind
   grind
  refine{Zz X.K G Z k ds F1 (λs=>wr sh s++List.replicate k none) (λi s rest=>eW step (ds.drop i) s=.ret (rest,sf)) out,
   {_,{F1,[],out,s0,ai _,c_.refl _,S0.grow k,λj hj=>by rw[ul hj],by simp,.nil,VL,rfl}},?_}
  rintro i m vs σ' H' ⟨F',acc,rest,sc,hi,s2,S2,kp,hlen,rp,go,eo⟩;refine{by rw[rp.length];rw[eo,R4]at Vg;lia,?_};by_cases x_:i<ds.length
  ·refine .inr {wk.go i G F' σ' H' _ s2 S2 x_,λx H2 y cl sx H0 fp C=>?_};let{F3,s3,S3,r3}:=wk.VB i G F' σ' H' _ x H2 ds[i] s2 S2 (ay x_) y;rw[re x_]at go;let{o,sn,Ro,V7,hr,er}:=Au go;subst er;clear go;rw[<-Se]at V7;refine hg cl sx H0 fp C (λm=>m=.ret (o,sn)) _ G F3 σ' H2 _ x ds[i] _ ?jd S3 r3 V7 λσ3 ρ3 S4 kp3 hl3 ml3 o4=>?_
   have Y7:∀j,j<Z.length->σ3[j]? = Z[j]?:=λj hj=>((kp3 j ?A).1).trans<|kp j hj
   intro cl sx H0 fp C;refine ht cl sx H0 fp C (λm=>m=.ret (o,sn)) (λe _=>.exc e) _ G F3 σ3 H2 ρ3 _ ?jd (λF ρ e z=>nomatch z) S4 o4 λb F5 H5 ρ5 s5 S5 o5=>?_
   cases b with
   | true =>
    refine LL ?_;intro cl sx H0 fp C;refine he cl sx H0 fp C (λm=>m=.ret (o,sn)) (λe _=>.exc e) _ G F5 σ3 H5 ρ5 _ ?jd (λF ρ e z=>nomatch z) S5 o5 λv u F6 H6 ρ6 s6 S6 ru o6=>?_
    let{s',e',o'}:=gS (OK:=λm=>m=.ret (o,sn)) ?jd o6
    cases o'
    exact Zz.on F6 (acc++[v]) Ro sn x_ (((s2.trans s3).trans s5).trans s6) (again S6 Y7 ?A e') Y7 ?A ((rp.mono<|(s3.trans s5).trans s6).append<|.cons ru .nil) hr (by rw[eo];simp)
   | false =>
    let{s',e',o'}:=gS (OK:=λm=>m=.ret (o,sn)) ?jd o5
    cases o'
    exact Zz.on F5 acc Ro sn x_ ((s2.trans s3).trans s5) (again S5 Y7 ?A e') Y7 ?A (rp.mono<|s3.trans s5) hr (by rw[eo];simp)
  ·have ei:i=ds.length:=by lia
   subst ei;rw[Ba]at go
   cases go
   rw[ic]at eo;subst eo;refine .inl {wk.stop G F' σ' H' _ s2 S2,λp hp=>?_};have Ssh:=S2.shrink  (by simp[ZJ]) hP;have e1:=qS kp rfl;have e2:(wr sh sf++List.replicate k none).take Z.length=wr sh sf:=by grind
   rw[e1,e2]at Ssh;let{S5,r5}:=Ssh.P_ hp rp;exact k2 _ _ F' _ _ ?jo S5 r5 o0
theorem tS{sh:Re Kd}{it:Ev S ?Q}{t:Tg ?qE}{et:Ev ?qE Bool}{ee:Ev ?qE D}(hc:X.calm=true)(Sc:RF X N' k scope)(hi:AEi X tg iter it)
  (hg:∀cl s H fp C,AG ?M X.N.length tg t) (ht:∀cl s H fp C,Jt ?M ifs et) (he:∀cl s H fp C,AE ?M elt ee)
  (hs:∀x,foldedSetIterable iter X.env x=pure x:=by exact λ_=>rfl):AEl X (.ListComp elt [{tg,iter,ifs,0}] scope pos) (Kh sh k it t et ee):=by
 intro OK x kk G F Z H ρ Q hO hX St ok k2;unfold gE;intro pins s I;refine Bv     hc Sc (λx hx hf=>I.ok.has x.1<|Sc.free x hx hf) rE
  (λcl s H fp C pins s' Z H v u Q I r h=>lW pins s' Z H v u Q I r ?qB) (λcl s H fp C pins s' Z H Q I h=>h cl _ _ fp C pins s' I) (λcl s H fp C pins s' Z H Q I h=>aO pins s' Z H Q I ?qB) hs pins s Z H Q I<|GD hi hg ht he I.len hO hX St ok k2
theorem p9{U2:Pos}{i:Nat}{it:Pu ?Q}{t:Tg (SC D)}{pt:Pu Bool}{pe:Pu D}
  (hN:X.N.Nodup) (hy:X.N[i]? = some y) (hly:Loc X.env.scope y) (Yb:X.fn y=true\/X.env.scope.names.lookup y=some .local) (hc:X.calm=true) (Sc:RF X N' k scope) (hi:AI X tg iter it)
  (hg:∀cl s H fp C,AG ?M X.N.length tg t) (ht:∀cl s H fp C,ATs ?M ifs pt) (he:∀cl s H fp C,AP ?M elt pe)
  (X6:swapsWith (.ListComp elt [{tg,iter,ifs,0}] scope pos) (some<|.Name y pos') U2.line X.env=pure true) (hs:∀x,foldedSetIterable iter X.env x=pure x) :
  AS (S:=S) X (.Assign [.Name y pos'] (.ListComp elt [{tg,iter,ifs,0}] scope pos) U2) (JA i<|Zp<|yl k it t pt pe):=by
 intro OK K G F Z H ρ E hO hX St ok eo;unfold jM;intro pins s I;refine rC  (g:=A8 X N' scope tg) (tc:=A7 X N' scope ifs) (te:=A9 X N' scope elt) hN hy hly Yb hc Sc (λx hx hf=>I.ok.has x.1<|Sc.free x hx hf) rE
  (λcl s H fp C pins s' Z H v u Q I r h=>lW pins s' Z H v u Q I r ?qB) (λcl s H fp C pins s' Z H Q I h=>h cl _ _ fp C pins s' I) (λcl s H fp C pins s' Z H Q I h=>aO pins s' Z H Q I ?qB) X6 hs pins s Z H E I ?_
 refine wV hi hg ht he I.len St ?_;refine W.of hO hX ok λd F' H' s S' o v r=>?_
 have o':=o;split at o'
 ·rename_i ho;let{hl,Ud}:=dZ ho;exact eo.nx F' _ H' _ s (S'.store Ud hl<|.inr {.l d,rfl,r}) o'
 ·exact(hO o').elim
theorem cE{U2:Pos}{i:Nat}{it:Pu ?Q}{t:Tg (SC D)}{pt:Pu Bool}{pe:Pu D}
  (hN:X.N.Nodup) (hy:X.N[i]? = some y) (hly:Loc X.env.scope y) (Yb:X.fn y=true\/X.env.scope.names.lookup y=some .local) (hc:X.calm=true) (Sc:RF X N' k scope) (hi:AI X tg iter it)
  (hg:∀cl s H fp C,AG ?M X.N.length tg t) (ht:∀cl s H fp C,ATs ?M ifs pt) (he:∀cl s H fp C,AP ?M elt pe)
  (X6:swapsWith (.ListComp elt [{tg,iter,ifs,0}] scope pos) (some<|.Name y pos') U2.line X.env=pure true) (hs:∀x,foldedSetIterable iter X.env x=pure x) :
  AS (S:=S) X (.Assign [.Name y pos'] (.ListComp elt [{tg,iter,ifs,0}] scope pos) U2) (MZ i<|Zp<|pZ<|yl k it t pt pe):=by
 intro OK K G F Z H ρ E hO hX St ok eo;unfold jM;intro pins s I;refine rC  (g:=A8 X N' scope tg) (tc:=A7 X N' scope ifs) (te:=A9 X N' scope elt) hN hy hly Yb hc Sc (λx hx hf=>I.ok.has x.1<|Sc.free x hx hf) rE
  (λcl s H fp C pins s' Z H v u Q I r h=>lW pins s' Z H v u Q I r ?qB) (λcl s H fp C pins s' Z H Q I h=>h cl _ _ fp C pins s' I) (λcl s H fp C pins s' Z H Q I h=>aO pins s' Z H Q I ?qB) X6 hs pins s Z H E I ?_
 refine wV hi hg ht he I.len St ?_;have w:W X G F Z ρ (pZ (yl k it t pt pe) ρ) (λd F' H'=>∀v,Rep X.K F' v d->g9 i v Z H' E.nx):=W.of hO hX ok λd F' H' s S' o v r=>by
  have o':=o;split at o'
  ·rename_i ho;let{hl,Ud}:=dZ ho;exact eo.nx F' _ H' _ s (S'.store Ud hl<|.inl {d,rfl,r}) o'
  ·exact(hO o').elim
 refine w.bind.imp λds F' H' s1 S1 w1 v fr=>?_
 let{F2,s2,S2,r2}:=S1.settle   fr;exact w1 F2 H' s2 S2 v r2
end
end L4
namespace HT
open PySem PySem.Spec PyProof.Rows
section
variable {prog:Tl}{w:TD}{A:UV}{E:w_}{s:SZ}
theorem Sh{t sl:Tk}{items:UF SL}{vl vu:SL}{lo hi:SC Int}{Q:w_}(ht:IsTup s.heap t items)(hs:s.heap.IsSliceOf sl vl vu .none)(pl:IsPart vl lo)(pu:IsPart vu hi)
  (hw:E_ items.size 0 lo=0/\E_ items.size items.size hi=items.size) (h:Q (.ref t) s):wpAny ?D A (getItem (.ref t)<|.ref sl) Q E s:=by
 let{os,hos,hcs,UQ}:=id hs;have hTs:s.TypeIs (.ref sl) "slice":={os,hos,hcs};unfold getItem
 try with_reducible refine oP ?_
 refine h_<|wpAny_sequenceKey ht.typeIs ?C ?_
 refine h_<|g7  ht.typeIs yi
  <|im yi ht.typeIs entry_tuple_getitem ?_<|args_tuple_getitem _ _
 show wpAny _ _ (Builtin.Tuple.tupleItemsOf (.ref t) >>= _) _ _ s;refine h_<|tupleItemsOf_ ht ?_;refine h_<|Li hTs ?_;refine h_<|jd hs pl pu ?_;have zbr:(((?qv:Int)==0&&(1:Int)==1&&?jc==items.size)=true):=by
  grind
 show wpAny _ _ (if((?qv:Int)==0&&(1)==1&&?jc==items.size)=true then _ else _) _ _ s;rw[ar zbr];have hex:∀{Q':Bool->SZ->Prop},Q' true s->wpAny ?D A.in1 (Builtin.Tuple.tupleIsExact<|.ref t) Q' E s:=λ{Q'} q=>by
  refine h_<|Li ht.typeIs<|m_ ?_;exact q
 first
  | exact h_<|hex<|h_<|P4<|m_ {_,rfl,m_ h}
  | exact h_<|h_<|hex<|h_<|P4<|m_<|m_ {_,rfl,m_ h}
end
end HT
namespace L4
open PySem PySem.Spec PyProof.Rows L2 L3
variable {X:Cx}{K:Fg}{e:TW}{pos:Pos}{x:Str}
def cutD(ds:Re D)(lo hi:SC Int):Re D:=(ds.drop<|HT.E_ ds.length 0 lo).take<|HT.E_ ds.length ds.length hi - HT.E_ ds.length 0 lo
theorem wU{F:Hp}{vs:Re V}{ds:Re D}(r:i_ K F vs ds)(lo hi:SC Int):i_ K F (DJ vs lo hi) (cutD ds lo hi):=by
 unfold DJ cutD;rw[r.length];exact(r.drop _).take _
def OJ(K:Fg):V->SC Int->SC Int->Hp->VK->Prop:=λx lo hi H Q=>∃a xs,x=.ref a/\B_ K H a xs/\(HT.E_ xs.length 0 lo=0/\HT.E_ xs.length xs.length hi=xs.length)/\Q x H
theorem YQ:ZT X (OJ X.K):=by
 intro pins s Z H x v vl vu lo hi sl Q I rx hs pl pu h;let{a,xs,rfl,hx,hw,q}:=h
 cases rx
 let{j_,r,ht,hz}:=I.tuple hx;have hlen:j_.toArray.size=xs.length:=(r.length.symm);refine{"tuple",_,PyProof.Rows.slot_tuple_getitem.lookup,ht.typeIs,?_};exact HT.Sh ht hs pl pu (by rw[hlen];exact hw) {.ref a,H,I,rfl,q}
def OT:Pu (SC Int):=λ_=>.ret none
def Wr(d:D):M (SC Int):=match d with
 | .int i=>.ret<|some i
 | _=>.bad
def OW(p:Pu D):Pu (SC Int):=λρ=>bd (p ρ) Wr
def kj(d:D)(lo hi:SC Int):SC D:=match d with
 | .tuple ds=>some<|.tuple<|cutD ds lo hi
 | .list ds=>some<|.list<|cutD ds lo hi
 | _=>none
def K8(p:Pu D)(l h:Pu (SC Int)):Pu D:=λρ=>bd (p ρ) λd=>bd (l ρ) λlo=>bd (h ρ) λhi=>oM<|kj d lo hi
def APo(X:Cx)(e:SC TW)(p:Pu (SC Int)):Prop :=
 ∀(G:Gh) (F:Hp) (Z:L2.St) (H:Hp) (ρ:En) (Q:SC Int->Hp->Prop),b_ X.K G F Z H ρ->W X G F Z ρ (p ρ) (λd F' H'=>Q d H')->∀(pins:C_) (s:SZ),Inv X pins Z H s ->
  wpAny ?B X.A (evalPart e X.env) (λu s'=>∃o H',Inv X pins Z H' s'/\IsPart u o/\Q o H') X.xe s
def MM(X:Cx)(e:SC TW):TO:=λZ H Q=>∀(pins:C_) (s:SZ),Inv X pins Z H s->wpAny ?B X.A (evalPart e X.env) (λu s'=>∃o H',Inv X pins Z H' s'/\IsPart u o/\Q o H') X.xe s
theorem E7{e:SC TW}:PO X e (MM X e):=λpins s Z H Q I h=>h pins s I
section
variable {lo hi:SC TW} {p:Pu D} {pl ph:Pu (SC Int)} {p2:Pos}
theorem ii:APo X none OT:=λG F Z H ρ Q S w pins s I=>Bq pins s Z H Q I<|w F H ?I S
theorem ie(h:AP X e p):APo X (some e) (OW p):=λG F Z H ρ Q S w pins s I=>Bp aO pins s Z H Q I (h G F Z H ρ _ S (w.bind.imp λd F1 H1 s1 S1 w1 v r=>by
 cases r with
 | int i=>exact{i,rfl,w1 F1 H1 ?I S1}
 | bl b=>exact w1.elim
 | QW=>exact w1.elim
 | str i=>exact w1.elim
 | tup _ _=>exact w1.elim
 | lst _ _=>exact w1.elim
 | UJ _ _ _=>exact w1.elim
 | Yz _ _ _=>exact w1.elim
 | exc _ _ _ _ _=>exact w1.elim
 | fn _=>exact w1.elim))
theorem ik(he:AO X e p)(hl:APo X lo pl)(hh:APo X hi ph):AP X (.Subscript e (.Slice lo hi none p2) pos) (K8 p pl ph) :=
 λG F Z H ρ Q S w=>Rt (yc (ZZ.or<|YQ.or Bc) aO E7 E7) (he G F Z H ρ _ S (w.bind.imp λd F1 H1 s1 S1 w1 x hx =>
  hl G F1 Z H1 ρ _ S1 (w1.bind.imp λlo F2 H2 s2 S2 w2=>hh G F2 Z H2 ρ _ S2 (w2.bind.imp λhi F3 H3 s3 S3 w3=>by
   let{res,hr,k}:=w3.opt;have ox:=(hx.mono<|s2.trans s3).or S3
   cases d<;>try (cases hr)
   ·let{a,vs,rfl,h1,h2}:=ox.list S3.fh;refine .inr<|.inr {a,vs,rfl,h1,λq hq=>?_};let{S4,r4}:=S3.P_ hq<|wU h2 lo hi;let{F5,s5,S5,r5}:=S4.settle r4;exact k F5 _ s5 S5 _ r5
   ·rename_i ds;let{a,vs,rfl,h1,h2}:=ox.tuple S3.fh;by_cases hw:HT.E_ vs.length 0 lo=0/\HT.E_ vs.length vs.length hi=vs.length
    ·refine .inr<|.inl {a,vs,rfl,h1,hw,k F3 H3 ?I S3 _ ?_};have:cutD ds lo hi=ds:=by
      unfold cutD;rw[<-h2.length,hw.1,hw.2];simp[h2.length]
     rw[this];exact ox.YJ
    ·refine .inl {a,vs,rfl,h1,hw,λq hq=>?_};let{s4,S4,r4}:=S3.Rv hq<|wU h2 lo hi
     exact k _ _ s4 S4 _ r4))))
end
def lF(d e:D):SC Bool:=match d,e with
 | .bool a,.bool b=>some<|a==b
 | _,.none=>some<|isNone d
 | _,_=>none
def gU(d e:D):SC Bool:=match d,e with
 | .bool a,.bool b=>some<|a != b
 | _,.none=>some<|!isNone d
 | _,_=>none
section
theorem mY:QN X (compareOp .Is) (XF X.K lF):=by
 intro pins s Z H x y v u Q I rx ry ⟨d,e,b,r1,r2,ho,q⟩;unfold lF at ho;split at ho
 ·cases ho
  obtain rfl:=(r1.of rfl).bool_inv;obtain rfl:=(r2.of rfl).bool_inv
  cases rx
  cases ry
  exact PyProof.Rows.is_bool {.bl _,H,I,rfl,q}
 ·exact HW pins s Z H x y v u Q I rx ry {d,.none,b,r1,r2,by rw[<-ho];rfl,q}
 ·cases ho
theorem rM:QN X (compareOp .IsNot) (XF X.K gU):=by
 intro pins s Z H x y v u Q I rx ry ⟨d,e,b,r1,r2,ho,q⟩;unfold gU at ho;split at ho
 ·cases ho
  obtain rfl:=(r1.of rfl).bool_inv;obtain rfl:=(r2.of rfl).bool_inv
  cases rx
  cases ry
  exact PyProof.Rows.isnot_bool {.bl _,H,I,rfl,q}
 ·exact Fp pins s Z H x y v u Q I rx ry {d,.none,b,r1,r2,by rw[<-ho];rfl,q}
 ·cases ho
end
def qh(T:String)(d:D):SC Bool:=if isFn d then none else some (VG T d)
def pIs(T:String)(p:Pu D):Pu Bool:=λρ=>bd (p ρ) λd=>oM<|qh T d
def OO(K:Fg)(T:String):Re V->Hp->VK->Prop:=λxs H Q=>∃v d,xs=[v,.ty T]/\T6 K H v d/\isFn d=false/\Q (.bl<|VG T d) H
theorem IZ{T:String}(hT:qQ T=true):l_ X (.builtin "isinstance") (OO X.K T):=by
 intro pins s Z H xs us Q I r h;let{v,d,rfl,rp,nf,q}:=h;let{u,w,rfl,ru,SX}:=vals2 r
 cases SX
 let rp||{a,kvs,es,rfl,rfl,h1,h2}:=rp
 ·exact Ag hT I rp nf ru λtk=>{.bl _,H,I.tok tk,rfl,q}
 ·exact u7 hT I h1 h2 ru λtk=>{.bl _,H,I.tok tk,rfl,q}
section
variable {p:Pu D} {p1 p2:Pos} {T:String}
theorem tU(hT:qQ T=true)(hg:Gl X "isinstance")(hm:X.mg "isinstance"=none)(hgT:Gl X x)(hmT:X.mg x=none)(hv:bootBuiltins x=some (.type T))(ha:AO X e p)(hs:starEach [e,.Name x p2] X.env=?K::starEach [.Name x p2] X.env)(Tu:starEach [.Name x p2] X.env=(false,eval (.Name x p2) X.env)::starEach [] X.env)
  (Q7:(backTo pos<|starEach [.Name x p2] X.env).any (·.1)=false) (hn:x ≠ "__name__":=by decide) (hd:(x==("__debug__" : Str))=false:=by decide):AB X (.Call (.Name "isinstance" p1) [e,.Name x p2] [] pos) (pIs T p) :=
 λG F Z H ρ Q S w=>Rt (ji (IZ hT) hg hm (rfl) (dO aO (dO (Bx hgT hmT hv (v:=.ty T) rfl hn hd) iQ Tu) hs) ?C ?C hs Q7) (ha G F Z H ρ _ S (w.bind.imp λd F1 H1 s1 S1 w1 v hv=>by
  let{b,hb,k}:=w1.opt;unfold qh at hb;split at hb
  ·cases hb
  ·rename_i nf
   cases hb
   exact{v,d,rfl,(hv.or S1).rep S1.fh,by simpa using nf,k F1 H1 ?I S1}))
end
def boolsOf:Re D->SC (Re Bool)
 | []=>some []
 | .bool b::r=>match boolsOf r with
  | some l=>some<|b::l
  | none=>none
 | _=>none
theorem mI:∀{ds:Re D} {bs:Re Bool},boolsOf ds=some bs->ds=bs.map PyData.bool
 | [],_,h=>by cases h;rfl
 | .bool i::r,ns,h=>by
  dsimp only[boolsOf]at h;split at h
  ·rename_i l e;cases h;rw[mI e];rfl
  ·cases h
 | .none::_,_,h=>by cases h
 | .int _::_,_,h=>by cases h
 | .str _::_,_,h=>by cases h
 | .list _::_,_,h=>by cases h
 | .tuple _::_,_,h=>by cases h
 | .dict _::_,_,h=>by cases h
theorem p7(bs:Re Bool):boolsOf ?jn=some bs:=by
 induction bs with
 | nil=>rfl
 | cons b r ih=>simp[boolsOf,ih]
theorem rh{K:Fg}{F:Hp}:∀{vs:Re V} {bs:Re Bool},i_ K F vs ?jn->vs=bs.map V.bl
 | _,[],h=>by cases h;rfl
 | _,n::r,h=>by
  cases h with
  | cons a b=>cases a;rw[rh b];rfl
theorem lV:∀{bs:Re Bool} {us:Re SL},Vals (bs.map V.bl) us->us=bs.map Value.bool
 | [],_,h=>by cases h;rfl
 | n::r,_,h=>by
  cases h with
  | cons a b=>cases a;rw[lV b];rfl
def IP:Re D->SC Bool
 | [.list ds]=>(boolsOf ds).map λbs=>bs.all id
 | _=>none
def IN:Re D->SC Bool
 | [.list ds]=>(boolsOf ds).map λbs=>bs.any id
 | _=>none
def rA(K:Fg)(f:Re Bool->Bool):Re V->Hp->VK->Prop:=λxs H Q=>∃a bs,xs=[.ref a]/\QO K H a (bs.map V.bl)/\Q (.bl<|f bs) H
theorem yr{f:Re Bool->Bool}{g:Re D->SC Bool}(hg:∀l b,g l=some b->∃bs,l=[.list ?jn]/\b=f bs):xJ K (rA K f) g:=by
 intro G F Z H ρ xs ds res Q S o e k;let{bs,rfl,rfl}:=hg _ _ e;let{v,r,rfl,ho,hr}:=bN o;obtain rfl:=ci hr;let{a,vs,rfl,h1,h2}:=ho.list S.fh;rw[rh h2]at h1;exact{a,bs,rfl,h1,k}
theorem Lq:xJ K (rA K λbs=>bs.all id) IP:=yr λl b h=>by
 unfold IP at h;split at h
 ·let{bs,e,rfl}:=Option.map_eq_some_iff.mp h;exact{bs,by rw[mI e],rfl}
 ·cases h
theorem Lp:xJ K (rA K λbs=>bs.any id) IN:=yr λl b h=>by
 unfold IN at h;split at h
 ·let{bs,e,rfl}:=Option.map_eq_some_iff.mp h;exact{bs,by rw[mI e],rfl}
 ·cases h
theorem u5{prog:Tl}{w:TD}{A:UV}{E:w_}{s:SZ}{l:Tk}{j_:UF SL}{Q:w_}(hl:s.heap.IsList l j_)
  (h:∀s₂:SZ,s₂={ s with heap:=s.heap.push { cls:=.type "list_iterator",data:=.fields #[.ref l,.int 0 0] } } ->
   (s₂.heap.IsListIter s.heap.objs.size l 0/\s₂.heap.IsList l j_)->l≠s.heap.objs.size->Q (.ref s.heap.objs.size) s₂) :
  wpAny ?D A (pyIter<|.ref l) Q E s:=by
 have x_:l<s.heap.objs.size:=by let{_,e,_}:=hl;exact aw e
 exact PU hl<|h _ rfl {{_,QV _ rfl,rfl,rfl},hl.push _}<|bu x_
theorem pE{prog:Tl}{w:TD}{A:UV}(bs:Re Bool):TruthOf prog w A (λi v=>(bs.map Value.bool).toArray[i]? = some v) (λi=>bs.getD i false):=λi v s Q E hP hQ=>by
 dsimp only at hP hQ;rw[List.getElem?_toArray,je]at hP;let{b,e,rfl}:=Option.map_eq_some_iff.mp hP;rw[fu,e]at hQ;exact Go hQ
theorem all_range(bs:Re Bool):(List.range bs.length).all (λi=>bs.getD i false)=bs.all id:=by
 induction bs with
 | nil=>rfl
 | cons b r ih =>
  rw[eE,QF,PM,List.all_map,PM];simp![List.getD_cons_zero,id_eq];congr 1
theorem any_range(bs:Re Bool):(List.range bs.length).any (λi=>bs.getD i false)=bs.any id:=by
 induction bs with
 | nil=>rfl
 | cons b r ih =>
  rw[eE,QF,PL,List.any_map,PL];simp![List.getD_cons_zero,id_eq];congr 1
theorem GL(hc:X.calm=true):l_ X (.builtin "all") (rA X.K λbs=>bs.all id):=by
 intro pins s Z H xs us Q I r h;let{a,bs,rfl,hq,q}:=h;let{u,rfl,ru}:=Vals.one r
 cases ru
 let{j_,rv,pl,hz}:=I.list hq;rw[lV rv]at pl;refine call_all_walk<|u5 pl.isList λs₂ e st hlI=>?_;subst e;refine{_,_,_,_,_,_,_,rfl,Walks.list (A:=X.A.in1) (I.ok.hd hc) _ a hlI (bs.map Value.bool).toArray,st,pE bs,λh' tk hk=>?_};refine{.bl<|bs.all id,H,I.kept<|old_kept hk,?_,q};show _=_;rw[<-all_range bs];simp
theorem GK(hc:X.calm=true):l_ X (.builtin "any") (rA X.K λbs=>bs.any id):=by
 intro pins s Z H xs us Q I r h;let{a,bs,rfl,hq,q}:=h;let{u,rfl,ru}:=Vals.one r
 cases ru
 let{j_,rv,pl,hz}:=I.list hq;rw[lV rv]at pl;refine call_any_walk<|u5 pl.isList λs₂ e st hlI=>?_;subst e;refine{_,_,_,_,_,_,_,rfl,Walks.list (A:=X.A.in1) (I.ok.hd hc) _ a hlI (bs.map Value.bool).toArray,st,pE bs,λh' tk hk=>?_};refine{.bl<|bs.any id,H,I.kept<|old_kept hk,?_,q};show _=_;rw[<-any_range bs];simp
def pT:Re D->SC ?Q
 | [.list ds]=>some ds
 | [.tuple ds]=>some ds
 | _=>none
def Nh(K:Fg):Re V->Hp->VK->Prop:=λxs H Q=>∃p ys,xs=[.ref p]/\(QO K H p ys\/B_ K H p ys)/\∀l,H l=none->Q (.ref l) (upd H l<|.lst ys)
theorem v4:CB K (Nh K) pT:=by
 intro G F Z H ρ xs ds res Q S o e k;unfold pT at e;split at e
 ·cases e
  let{v,r,rfl,ho,hr}:=bN o;obtain rfl:=ci hr;let{a,vs,rfl,h1,h2}:=ho.list S.fh;refine{a,vs,rfl,.inl h1,λl hl=>?_};let{S2,r2}:=S.P_ hl h2;exact k _ F _ ?I S2 r2
 ·cases e
  let{v,r,rfl,ho,hr}:=bN o;obtain rfl:=ci hr;let{a,vs,rfl,h1,h2}:=ho.tuple S.fh;refine{a,vs,rfl,.inr h1,λl hl=>?_};let{S2,r2}:=S.P_ hl h2;exact k _ F _ ?I S2 r2
 ·cases e
def mE:Re D->SC D
 | [.int i]=>some<|.int i
 | [.bool b]=>some<|.int<|if b then 1 else 0
 | _=>none
theorem j8:il K (λxs H Q=>(∃i,xs=[.int i]/\Q (.int i) H)\/∃k,xs=[.bl k]/\Q (.int<|if k then 1 else 0) H) mE:=by
 intro G F Z H ρ xs ds res Q S o e k;unfold mE at e;split at e
 ·cases e
  let{v,r,rfl,ho,hr}:=bN o;obtain rfl:=ci hr;exact .inl {_,by rw[ho.int],k _ F H ?I S<|.int _}
 ·cases e
  let{v,r,rfl,ho,hr}:=bN o;obtain rfl:=ci hr;exact .inr {_,by rw[ho.bool],k _ F H ?I S<|.int _}
 ·cases e
section
variable {S:Type}
def putD(ds:Re D)(j d:D):SC ?Q:=match j with
 | .int k=>(WA ds.length k).map λq=>ds.set q d
 | _=>none
def OD(i:Nat)(mi me:Ev S D):SM S:=λK ρ=>me K.x (λd ρ1=>match iR ρ1 i with
 | some _=>mi K.x (λj ρ2=>match iR ρ2 i with
  | some ds=>(oM<|putD ds j d).on (λe=>K.x e ρ2) λWI=>K.nx<|qb ρ2 i WI
  | none=>.bad) ρ1
 | none=>.bad) ρ
def M5(i:Nat)(f:D->D->SC D)(me:Ev S D):SM S:=λK ρ=>match ρ[i]? with
 | some (some<|.fz x)=>me K.x (λd ρ1=>(oM<|f x d).on (λe=>K.x e ρ1) (λr=>match jO ρ1 i with
  | true=>K.nx<|ρ1.set i<|some<|.fz r
  | false=>.bad)) ρ
 | _=>.bad
def JF(i:Nat)(f:D->D->SC D)(mj me:Ev S D):SM S:=λK ρ=>match iR ρ i with
 | some _=>mj K.x (λj ρ1=>match iR ρ1 i with
  | some ds=>(oM<|fJ (.list ds) j).on (λe=>K.x e ρ1) (λx=>me K.x (λd ρ2=>(oM<|f x d).on (λe=>K.x e ρ2) (λr=>match iR ρ2 i with
   | some ds2=>(oM<|putD ds2 j r).on (λe=>K.x e ρ2) λWI=>K.nx<|qb ρ2 i WI
   | none=>.bad)) ρ1)
  | none=>.bad) ρ
 | none=>.bad
def ipD(f:D->D->SC D)(K:Fg)(t:Zw):Prop:=∀(x y:V) (dx dy r:D) (F H:Hp) (Q:VK),Rep K F x dx->Rep K F y dy->f dx dy=some r->(∀v,Rep K F v r->Q v H)->t x y H Q
def lX:D->D->SC D
 | .int i,.int j=>some<|.int<|i+j
 | _,_=>none
theorem qF:ipD lX K (ipI λi j=>i+j):=λx y dx dy r F H Q r1 r2 e k=>by
 cases dx<;>first|exact SY e|(cases dy<;>first|exact SY e|cases e)
 obtain rfl:=r1.int_inv;obtain rfl:=r2.int_inv;exact{_,_,rfl,rfl,k _<|.int _}
theorem IE:ipD gT K (ipI λi j=>i - j):=λx y dx dy r F H Q r1 r2 e k=>by
 cases dx<;>first|exact SY e|(cases dy<;>first|exact SY e|cases e)
 obtain rfl:=r1.int_inv;obtain rfl:=r2.int_inv;exact{_,_,rfl,rfl,k _<|.int _}
variable {a b:TW} {mi me:Ev S D} {pos' O_ apos u_:Pos} {ml:Ev S ?Q}
theorem px{i:Nat}(hN:X.N[i]? = some x)(hv:UW X.env.scope x)(hi:AE X b mi)(he:AE X e me)(ha:∀v,assign (.Subscript (.Name x pos') b O_) X.env v=(do
   let ov <-holding [v] (eval (.Name x pos') X.env)
   let iv <-holding [v,ov] (eval b X.env)
   standAt O_
   holding [v,ov,iv] (setItem ov iv v)
   release [v,ov,iv] []))
  (hs:swapsWithSole [.Subscript (.Name x pos') b O_] e pos.line X.env=pure false) (hw:swappedStores [.Subscript (.Name x pos') b O_] e X.env=pure none)
  (h1:(assignEach [.Subscript (.Name x pos') b O_] X.env).map (·.2)=[assign (.Subscript (.Name x pos') b O_) X.env])
  (hd:(x==("__debug__" : Str))=false:=by decide) (Ri:(x==("__classdict__" : Str))=false:=by decide):AS X (.Assign [.Subscript (.Name x pos') b O_] e pos) (OD i mi me):=λOK K G F Z H ρ E hO hX St ok eo =>
 jf (E5 aO (KZ ?j3 aO set_list ha) hs hw h1) (he OK K.x _ G F Z H ρ _ hO hX St ok λd v F1 H1 ρ1 s1 S1 r1 o1=>by
  split at o1
  case h_2=>exact(hO o1).elim
  rename_i ds0 hd0;let{a,ZC,ea,_,_}:=eR S1 hd0;refine{_,ea,hi OK K.x _ G F1 Z H1 ρ1 _ hO hX S1 o1 λj u F2 H2 ρ2 s2 S2 r2 o2=>?_};split at o2
  case h_2=>exact(hO o2).elim
  rename_i ds UQ;let{WI,hp,o3}:=dC hO o2;let{a',vs,Q0,hh,rv}:=eR S2 UQ;rw[ea]at Q0;injection Q0 with Q0;injection Q0 with Q0;injection Q0 with Q0;subst Q0;unfold putD at hp;split at hp
  ·rename_i k;let{q,hq,rfl}:=Option.map_eq_some_iff.mp hp;obtain rfl:=r2.int_inv;refine{a,vs,k,q,rfl,rfl,hh,by rw[rv.length];exact hq,?_};exact eo.nx F2 Z _ _ ?jo (mW S2 UQ ea<|i_.set ?qM q rv) o3
  ·cases hp)
theorem GU{i:Nat}{op:Operator}{t:Zw}{f:D->D->SC D}(hN:X.N.Nodup)(hi:X.N[i]? = some x)(hx:Loc X.env.scope x)(ho:PIp X op t)(hf:ipD f X.K t)(he:AE X e me)(Yb:X.fn x=true\/X.env.scope.names.lookup x=some .local) :
  AS X (.AugAssign (.Name x pos') op e pos) (M5 i f me):=λOK K G F Z H ρ E hO hX St ok eo =>
 jf (KW hN hi hx aO ho Yb) (by
  unfold M5 at ok;split at ok
  case h_2=>exact(hO ok).elim
  rename_i dx hdx;let{v,ev,rv}:=St.fz i dx hdx;refine{v,ev,he OK K.x _ G F Z H ρ _ hO hX St ok λd u F1 H1 ρ1 s1 S1 r1 o1=>?_};let{r,er,o2}:=dC hO o1;refine hf v u dx d r F1 H1 _ (rv.mono s1) r1 er λz rz=>?_
  split at o2
  ·rename_i k_;let{hl,Ud}:=dZ k_;exact eo.nx F1 _ H1 _ s1 (S1.store Ud hl<|.inl {r,rfl,rz}) o2
  ·exact(hO o2).elim)
def Pd:V->V->Hp->VK->Prop:=λx y H Q=>∃p xs i v,x=.ref p/\y=.int i/\H p=some (.lst xs)/\VP xs i=some v/\Q v H
end
def kindB(k:NameKind):SC NameKind->Bool
 | some k'=>k==k'
 | none=>false
def Cf(N N':Re Str)(k:Nat)(scope sc:Scope):Bool :=
 (scope.kind==.function)&&(N'.length==N.length+k)&&scope.names.all (λy=>y.2 != .cell||kindB .cell (scope.names.lookup y.1))&&scope.names.all (λy=>y.2 != .local||kindB .local (scope.names.lookup y.1))
  && ((List.range N.length).all λi=>match N'[i]? with
   | some x=>!(kindB .free (scope.names.lookup x)||kindB .local (scope.names.lookup x)||kindB .cell (scope.names.lookup x))||(N[i]? == some x&&kindB .free (scope.names.lookup x))
   | none=>true)
  && scope.names.all (λy=>y.2 != .free||kindB .cell (sc.names.lookup y.1)||kindB .free (sc.names.lookup y.1))
theorem kh{k:NameKind}{o:SC NameKind}(h:kindB k o=true):o=some k:=by
 cases o with
 | none=>cases h
 | some k'=>simp[kindB]at h;rw[h]
theorem F4{k:NameKind}{o:SC NameKind}(h:o=some k):kindB k o=true:=by subst h;simp[kindB]
theorem aU{N N':Re Str}{k:Nat}{scope sc:Scope}(h:Cf N N' k scope sc=true)(hN:X.N=N)(hs:X.env.scope=sc):RF X N' k scope:=by
 subst hN hs;simp![Cf,am,ir,beq_iff_eq,gs,bne_iff_ne,ne_eq]at h;let{{{{{h1,h2},h3},h4},h5},h6}:=h;refine{h1,h2,λy hy hl=>?_,λy hy hl=>?_,λi x hi hx _ hk=>?_,λy hy hf=>?_}
 ·let z||z:=h3 y hy
  ·exact absurd hl z
  ·exact kh z
 ·let z||z:=h4 y hy
  ·exact absurd hl z
  ·exact kh z
 ·have:=h5 i<|List.mem_range.mpr hi;rw[hx]at this;simp![gs,ye,am,beq_iff_eq]at this;let z||{z1,z2}:=this
  ·exfalso;let hk||hk||hk:=hk<;>simp[F4 hk]at z
  ·exact{z1,kh z2}
 ·rcases h6 y hy with (z|z)|z
  ·exact absurd hf z
  ·exact .inl<|kh z
  ·exact .inr<|kh z
theorem Do{H:Hp}{a:Tk}{ns:Re Int}{mf:Re D->M D}(hS:QO K H a ?jM)(h:mf [.list ?jb]=.ret (.bool true)):J_ K 1 mf [.ref a] H (λv _=>v=.bl true) λ_ _ _=>False:=by
 refine{{λ_=>none,λ_=>none,H},H,[.list ?jb],rfl,{c_.refl _,λb o z=>(nomatch z),λb o z=>(nomatch z),rfl,λi d z=>?_,λi c z=>(jy  z).elim,λi j c e a z=>(jy  z).elim,λi a z=>(nomatch z),λi c z=>?_,c_.refl _},?_}
 ·let{d',e,q}:=oZ  z
  cases e
  cases i with
  | zero=>simp at q;subst q;exact{_,rfl,.lst hS<|i_.ints ns}
  | succ i=>simp at q
 ·grind
 ·rw[h];intro v F' H' s S' r
  cases r
  rfl
end L4
namespace HT
end HT
namespace L4
open PySem PySem.Spec PyProof.Rows L2 L3
variable {S:Type}
section
variable {X:Cx} {a:TW} {pa:Pu D} {pos:Pos} {ta:TE}
theorem HQ(ha:PE X a ta):PE X (.UnaryOp .Not a pos) (λZ H Q=>ta Z H λx H'=>∃k,MB X.K x H' k/\Q (.bl<|!k) H'):=by
 intro pins s Z H Q I h;refine UnaryOp_<|p_ ?jl λv s1 ⟨x,H1,I1,r1,q1⟩=>?_;let{k,q1,q2}:=q1;exact not_of<|p_ (El pins s1 Z H1 x v (λc H'=>Q (.bl<|!c) H') I1 r1 {k,q1,q2}) λc s2 ⟨H2,I2,q⟩=>{.bl<|!c,H2,I2,rfl,q}
theorem xE(ha:AO X a pa):AB X (.UnaryOp .Not a pos) (K9<|Nz pa) :=
 λG F Z H ρ Q S w=>Rt (HQ aO) (ha G F Z H ρ _ S (w.bind.bind.imp λx F1 H1 s1 S1 w1 v hv=>by
  let{bb,hb,k}:=w1.opt;refine{bb,?_,k F1 H1 ?I S1 F1 H1 ?I S1};have o:=hv.or S1
  cases x with
  | none=>rw[o.none];cases hb;exact rfl
  | bool i=>rw[o.bool];cases hb;exact rfl
  | int i=>rw[o.int];cases hb;exact rfl
  | str i =>
   rw[o.str];unfold fF at hb;dsimp only at hb;split at hb
   ·rename_i hl;cases hb;exact{hl,rfl}
   ·cases hb
  | list ds=>let{a,vs,rfl,h1,h2}:=o.list S1.fh;cases hb;exact .inl {vs,h1,(gJ h2).symm}
  | tuple ds=>let{a,vs,rfl,h1,h2}:=o.tuple S1.fh;cases hb;exact .inr<|.inl {vs,h1,(gJ h2).symm}
  | dict ds=>cases hb))
end
noncomputable def cO{S T:Type}:(T->D->(T->M S)->M S)->Re D->T->(T->M S)->M S:=Classical.choose ({@cP S T,rfl}:∃f,f = @cP S T)
theorem bS{T:Type} : @cO S T = @cP S T:=Classical.choose_spec ({@cP S T,rfl}:∃f,f = @cP S T)
noncomputable def jX{S T:Type}:(T->(T->M S)->M S)->Nat->T->M S:=Classical.choose ({@bO S T,rfl}:∃f,f = @bO S T)
theorem fD{T:Type} : @jX S T = @bO S T:=Classical.choose_spec ({@bO S T,rfl}:∃f,f = @bO S T)
section
noncomputable def EM(sh:Re Kd)(it:Ev S ?Q)(t:Tg S)(mb:SM S):SM S:=λK ρ=>it K.x (λds ρ1=>SD sh (λs=>cO (λs d kn=>t d (λρ2=>mb (pN sh K kn) ρ2) ?jT) ds s ?ju) ρ1) ρ
noncomputable def vR(sh:Re Kd)(fuel:Nat)(c:Ev S Bool)(mb:SM S):SM S:=λK ρ=>SD sh (λs=>jX (λs kn=>c K.x (λb ρ2=>if b then mb (pN sh K kn) ρ2 else SD sh ?ju ρ2) ?jT) fuel s) ρ
theorem EL(sh:Re Kd)(it:Ev S ?Q)(t:Tg S)(mb:SM S):EM sh it t mb=Kz sh it t mb:=by
 unfold EM Kz;rw[bS]
theorem zI(sh:Re Kd)(fuel:Nat)(c:Ev S Bool)(mb:SM S):vR sh fuel c mb=zJ sh fuel c mb:=by
 unfold vR zJ;rw[fD]
variable {X:Cx} {mb:SM S} {c:TW} {mt:Ev S Bool} {ml:Ev S ?Q} {pos:Pos}
theorem br{tg iter:TW}{body:Re Uf}{sh:Re Kd}{t:Tg S}(hp:PassesOwn ?B X.A X.env X.xe)(hc:X.calm=true)(hi:AEi X tg iter ml)(hg:AG X 0 tg t)(hb:Uk X body mb)
  (hs:∀x,foldedSetIterable iter X.env x=pure x:=by exact λ_=>rfl):AS X (.For tg iter body [] pos) (EM sh ml t mb):=by
 rw[EL];exact Ms hp hc hi hg hb hs
theorem gP{body:Re Uf}{sh:Re Kd}{fuel:Nat}(hp:PassesOwn ?B X.A X.env X.xe)(hc:Xv X c mt)(hb:Uk X body mb):AS X (.While c body [] pos) (vR sh fuel mt mb):=by
 rw[zI];exact GT hp hc hb
end
end L4
namespace HT
open PySem PySem.Spec PyProof.Rows
section
variable {prog:Tl}{w:TD}{A:UV}{E:w_}{s:SZ}{xs:UF (Int×Tok)}{l:Tk}
theorem V1{Q:w_}(hh:A.handled=none)(hl:s.heap.IsTuple l (intItems xs))(VH:0<xs.size)
  (h:∀v h' tk,(intItems xs)[argBest (λi j=>decide<|numAt xs i>numAt xs j) (xs.size - 1)]? = some v->(∀b o,s.heap.get? b=some o->h'.get? b=some o)->Q v { s with heap:=h',toks:=tk }) :
  wpAny ?D A (call (.builtin "max") [.ref l]) Q E s:=by
 have x_:l<s.heap.objs.size:=by let{_,e,_}:=hl;exact aw e
 refine call_max_walk<|pr hl ?_;refine{_,_,_,_,_,_,_,rfl,Walks.tuple (A:=A.in1) hh _ l (bu x_)<|intItems xs,{{_,QV _ rfl,rfl,rfl},?_},λb hb=>?_,by simpa[intItems]using VH,CmpOf.ints_gt (numAt xs) λ_ _=>intItems_at,λv h' tk hP hk=>?_}
 ·let{o,e,r}:=hl;exact{o,z_ _ e,r}
 ·rw[oC]
  grind
 ·refine h v h' tk (by simpa[intItems]using hP) λb o e=>hk b o (λhm=>?_)<|z_ _ e
  let e1||hm:=List.mem_cons.mp hm
  ·exact absurd (e1▸aw e)<|lf _
  ·cases hm
end
end HT
namespace L4
open PySem PySem.Spec PyProof.Rows L2 L3
def Gw:Re D->SC D
 | [.tuple ds]=>match intsOf ds with
  | some (n::r)=>some<|.int<|wD<|n::r
  | _=>none
 | _=>none
def rq(K:Fg)(f:Re Int->SC Int):Re V->Hp->VK->Prop:=λxs H Q=>∃a ns i,xs=[.ref a]/\B_ K H a ?jM/\f ns=some i/\Q (.int i) H
theorem Ic{K:Fg}:il K (rq K Dz) Gw:=by
 intro G F Z H ρ xs ds res Q S o e k;unfold Gw at e;split at e
 ·split at e
  ·rename_i WC
   cases e
   let{v,r,rfl,ho,hr}:=bN o;obtain rfl:=ci hr;let{a,vs,rfl,h1,h2}:=ho.tuple S.fh;rw[dP WC]at h2;rw[eL h2]at h1;exact{a,_,_,rfl,h1,rfl,k _ F H ?I S<|(.int _)}
  ·cases e
 ·cases e
theorem DV{X:Cx}(hc:X.calm=true):l_ X (.builtin "max") (rq X.K Dz):=by
 intro pins s Z H xs us Q I r h0;let{a,ns,i,rfl,hq,e,q}:=h0;let{u,rfl,ru}:=Vals.one r
 cases ru
 let{j_,rv,pl,hz}:=I.tuple hq;let{ps,rfl,rfl}:=fE rv;have VH:ps≠[]:=by rintro rfl;cases e
 have Ve:ps.map Prod.fst≠[]:=by simpa using VH
 have ei:i=wD (ps.map Prod.fst):=by
  cases hp:ps.map Prod.fst with
  | nil=>exact absurd hp Ve
  | cons n r=>rw[hp]at e;cases e;rfl
 subst ei;have hl:s.heap.IsTuple a (intItems ps.toArray):=by
  have:s.heap.IsTuple a _:=pl;unfold intItems;simpa using this
 have X7:0<ps.length:=List.length_pos_iff.mpr VH;refine HT.V1 (I.ok.hd hc) hl (by simpa using X7) λv h' tk hv hk=>?_
 let{t,rfl}:=intItems_at hv;refine{.int _,H,I.kept hk,{_,rfl},?_};have b:=argBest_gt (numAt ps.toArray) ?qo;generalize argBest (λi j=>decide<|numAt ps.toArray i>numAt ps.toArray j) ?qo=m at b hv;have hm:m<ps.length:=by
  have h0:=b.1;simp at h0;lia
 have Uu:=uY Ve;have e1:numAt ps.toArray m=wD (ps.map Prod.fst):=by
  refine Int.le_antisymm ?_ ?_
  ·refine Uu.1 _ ?_;rw[fW,fu,ay (by simpa using hm)];exact gh _
  ·let{j,hj,ej}:=oR Uu.2;have h0:=b.2 j (by simp at hj ⊢;lia);rw[fW,fu,ay hj]at h0;rw[<-ej];exact h0
 rw[e1];exact q
end L4
namespace PySem
open Sem (wp)
open AutoSeq1 (wpAny_loadPart')
variable {Q:w_}{l1 l2:Tk}{xs ys:UF SL}
section
variable {prog:Tl} {w:TD} {A:UV} {E:w_} {s:SZ}
theorem jz{it t:Tk}{i:Nat}{items}{x:SL}(hit:s.heap.IsTupleIter it t i)
  (ht:s.heap.IsTuple t items) (hx:items[i]? = some x)
  (hQ:∀h',h'.IsTupleIter it t ?qc->Heap.SameBut it s.heap h'->Q x { s with heap:=h' }) :
  wpAny ?D A (Builtin.SmallTypes.nextOf<|.ref it) Q E s:=by
 let{o,ho,hc,hd}:=id hit;let{ol,hol,_,nl,hdl}:=ht
 refine h_<|g7  hit.typeIs Ix
  <|im Ix hit.typeIs F.entry_tuple_iterator_next ?_<|F.args_tuple_iterator_next_1 _
 show wpAny _ _ (field (.ref it) 0 >>= _) _ _ s;refine h_<|fi ho hd  rfl ?_;refine h_<|fi ho hd  rfl ?_;refine h_<|wa hol hdl ?_;simp  [xz,hx];refine h_<|wP ho hd ?G<|m_ {x,rfl,m_<|hQ _ ?_<|Heap.SameBut.update ..}
 exact{_,su _ ho<|wS<|ig hd _,(Qm ..).trans hc,by
  rw[ig hd];simp[rawInt]}
theorem kY{it t:Tk}{i:Nat}{items}(hh:A.handled=none)
  (hit:s.heap.IsTupleIter it t i) (ht:s.heap.IsTuple t items) (hx:items[i]? = none)
  (hE:∀h' e,Heap.ExtBut it s.heap h'->(∃o,h'.get? e=some o/\o.cls=.type "StopIteration")->E (.ref e) { s with heap:=h' }) :
  wpAny ?D A (Builtin.SmallTypes.nextOf<|.ref it) Q E s:=by
 let{o,ho,hc,hd}:=id hit;let{ol,hol,_,nl,hdl}:=ht
 refine h_<|g7  hit.typeIs Ix
  <|im Ix hit.typeIs F.entry_tuple_iterator_next ?_<|F.args_tuple_iterator_next_1 _
 show wpAny _ _ (field (.ref it) 0 >>= _) _ _ s;refine h_<|fi ho hd  rfl ?_;refine h_<|fi ho hd  rfl ?_;refine h_<|wa hol hdl ?_;simp  [xz,hx];refine h_<|P4<|h_<|wP ho hd ?G ?_
 first
  | (refine h_ ?_
     refine h_ (gu ?_ (by size_fits));refine h_<|wpAny_of_eq  (rfl) ?_;refine gu ?_ (by size_fits);refine h_<|wpAny_handled ?_
     first|rw[(hh)]|rw[hh]
     refine h_<|m_<|wpAny_throw ?_
     exact hE _ _ (((Heap.SameBut.update ..).extBut.push _).push _) {_,QV _ rfl,rfl})
  | (refine h_<|P9 ?_    )
structure Zt(h:Wp)(z p q i1 i2 l1 l2:Tk)(f0 u v:SL)(k1 k2:Nat):Prop where
 z0:IsZip h z p q f0
 p0:IsPair h p (.ref i1) (.ref i2)
 q0:IsPair h q u v
 a0:h.IsTupleIter i1 l1 k1
 b0:h.IsTupleIter i2 l2 k2
theorem CC{z p q i1 i2:Tk}{k:Nat}{x y u v:SL}(D:ZipApart z p q i1 i2 l1 l2)
  (T:Zt s.heap z p q i1 i2 l1 l2 .none u v k k) (e1:s.heap.IsTuple l1 xs) (e2:s.heap.IsTuple l2 ys) (hx:xs[k]? = some x) (hy:ys[k]? = some y)
  (hQ:∀h',Zt h' z p q i1 i2 l1 l2 (rawInt s.heap.objs.size) x y (k+1) (k+1)->IsPair h' s.heap.objs.size x y ->
   (∀c o,c≠z->c≠q->c≠i1->c≠i2->s.heap.get? c=some o->h'.get? c=some o)->Q (.ref s.heap.objs.size) { s with heap:=h' }) :
  wpAny ?D A (Builtin.«zip.__next__» {[.ref z],[]}) (λfin s'=>∃r,fin=.done (.ret r)/\Q r s') E s:=by
 have z0:=T.z0;show wpAny _ _ (field (.ref z) 2 >>= _) _ _ _;refine h_<|fi z0 rfl (x:=.bool false) rfl ?_;show wpAny _ _ (field (.ref z) 3 >>= _) _ _ _;refine h_<|fi z0 rfl (x:=.ref p) rfl<|h_<|wa T.p0 rfl ?_;show wpAny _ _ (Builtin.SmallTypes.ownedTupleIsFree (.ref z) >>= _) _ _ _;refine h_ ?_;refine h_<|fi z0 rfl  rfl<|m_ ?_;refine h_<|P4<|h_<|fi z0 rfl  rfl ?_;refine h_<|ng z0 ?G λg1 (z1) (m1)=>h_ ?_;refine h_<|h_<|Qr ?_;refine h_<|jz (T.a0.at λo e=>m1.extBut _ _ D.i1z e) (e1.extBut m1.extBut D.l1z) hx λg2 a2 (m2)=>m_ ?_;have q2:=m2.extBut _ _ D.TOi1<|m1.extBut _ _ D.TOz T.q0;refine h_<|wa q2 rfl<|h_<|wpAny_updateSeq_pair q2 λg3 (q3) (m3)=>h_<|P9<|m_ ?_;refine h_<|h_<|Qr ?_
 refine h_<|jz (T.b0.at λo e=>m3.extBut _ _ D.TOi2.symm<|m2.extBut _ _ D.i12.symm<|m1.extBut _ _ D.i2z e)
  (((e2.extBut m1.extBut D.l2z).extBut m2.extBut D.l2i1).extBut m3.extBut D.l2TO) hy λg4 b4 (m4)=>m_ ?_
 have q4:=m4.extBut _ _ D.TOi2 q3;refine h_<|wa q4 rfl<|h_<|wpAny_updateSeq_pair q4 λg5 (q5:IsPair g5 q x y) (m5)=>h_<|P9<|m_<|m_ ?_;refine h_<|wa q5 rfl<|h_<|wpAny_newTuple ?_;have sz:g5.objs.size=s.heap.objs.size:=by rw[m5.1,m4.1,m3.1,m2.1,m1.1]
 have z5:=m5.extBut _ _ D.TOz.symm<|m4.extBut _ _ D.i2z.symm<|m3.extBut _ _ D.TOz.symm<|m2.extBut _ _ D.i1z.symm z1;have k5:∀c o,c≠z->c≠q->c≠i1->c≠i2->s.heap.get? c=some o->g5.get? c=some o:=λc o c1 c2 c3 c4 e =>
  m5.extBut _ _ c2<|m4.extBut _ _ c4<|m3.extBut _ _ c2<|m2.extBut _ _ c3<|m1.extBut _ _ c1 e
 have a5:=a2.at λo e=>m5.extBut _ _ D.TOi1.symm<|m4.extBut _ _ D.i12<|m3.extBut _ _ D.TOi1.symm e
 have b5:=b4.at λo e=>m5.extBut _ _ D.TOi2.symm e
 have lz:=aw z5;refine h_ ?_;have z6:IsZip (g5.push { cls:=.type "tuple",data:=.seq #[x,y] }) z p q .ellipsis:=z_ _ z5;refine h_<|ng z6 ?G λg7 (z7) m7=>?_;refine ng z7 ?G λg8 (z8) m8=>?_
 have up:∀c o,c≠z->g5.get? c=some o->g8.get? c=some o:=λc o c1 e=>m8.extBut _ _ c1<|m7.extBut _ _ c1<|z_ _ e
 have t8:=m8.extBut _ _ (ny lz)<|m7.extBut _ _ (ny lz)<|QV _ rfl;rw[sz]at z8 t8;refine m_ {_,rfl,?_};rw[sz];exact hQ g8 {z8,up _ _ D.TIz<|k5 _ _ D.TIz D.TITO D.TIi1 D.TIi2 T.p0,up _ _ D.TOz q5,a5.at λo e=>up _ o D.i1z e,b5.at λo e=>up _ o D.i2z e} t8 λc o c1 c2 c3 c4 e=>up c o c1<|k5 c o c1 c2 c3 c4 e
theorem Ea{z p q i1 i2:Tk}{k:Nat}{u v:SL}{Q:Fin->SZ->Prop}(hh:A.handled=none)(D:ZipApart z p q i1 i2 l1 l2)
  (T:Zt s.heap z p q i1 i2 l1 l2 .none u v k k) (e1:s.heap.IsTuple l1 xs) (e2:s.heap.IsTuple l2 ys) (en:xs[k]? = none\/ys[k]? = none)
  (hE:∀h' e,(∀c o,c≠z->c≠q->c≠i1->c≠i2->s.heap.get? c=some o->h'.get? c=some o)->(∃o,h'.get? e=some o/\o.cls=.type "StopIteration")->E (.ref e) { s with heap:=h' }) :
  wpAny ?D A (Builtin.«zip.__next__» {[.ref z],[]}) Q E s:=by
 have z0:=T.z0;show wpAny _ _ (field (.ref z) 2 >>= _) _ _ _;refine h_<|fi z0 rfl  rfl ?_;refine h_<|fi z0 rfl  rfl<|h_<|wa T.p0 rfl ?_;refine h_ ?_;refine h_<|fi z0 rfl  rfl<|m_ ?_;refine h_<|P4<|h_<|fi z0 rfl  rfl ?_;refine h_<|ng z0 ?G λg1 (z1) (m1)=>h_ ?_;refine h_<|h_<|Qr ?_;have a1:=T.a0.at λo e=>m1.extBut _ _ D.i1z e
 cases hx:xs[k]? with
 | none =>
  refine h_<|kY hh a1 (e1.extBut m1.extBut D.l1z) hx λg2 e (m2) ⟨oe,ho,hc⟩=>?_;have z2:=m2 _ _ D.i1z.symm z1;have ne:e≠z:=λx=>by subst x;rw[z2]at ho;cases ho;simp at hc
  exact ng z2 ?G λg3 _ m3=>hE g3 e (λc o c1 _ c3 _ x=>m3.extBut _ _ c1<|m2 _ _ c3<|m1.extBut _ _ c1 x) {oe,m3.extBut _ _ ne ho,hc}
 | some x =>
  have hy:ys[k]? = none:=by grind
  refine h_<|jz a1 (e1.extBut m1.extBut D.l1z) hx λg2 a2 (m2)=>m_ ?_;have q2:=m2.extBut _ _ D.TOi1<|m1.extBut _ _ D.TOz T.q0;refine h_<|wa q2 rfl<|h_<|wpAny_updateSeq_pair q2 λg3 (q3) (m3)=>h_<|P9<|m_ ?_;refine h_<|h_<|Qr ?_
  refine h_<|kY hh (T.b0.at λo e=>m3.extBut _ _ D.TOi2.symm<|m2.extBut _ _ D.i12.symm<|m1.extBut _ _ D.i2z e)
   (((e2.extBut m1.extBut D.l2z).extBut m2.extBut D.l2i1).extBut m3.extBut D.l2TO) hy λg4 e (m4) ⟨oe,ho,hc⟩=>?_
  have z4:=m4 _ _ D.i2z.symm<|m3.extBut _ _ D.TOz.symm<|m2.extBut _ _ D.i1z.symm z1;have ne:e≠z:=λx=>by subst x;rw[z4]at ho;cases ho;simp at hc
  exact ng z4 ?G λg5 _ m5=>hE g5 e (λc o c1 c2 c3 c4 x=>m5.extBut _ _ c1<|m4 _ _ c4<|m3.extBut _ _ c2<|m2.extBut _ _ c3<|m1.extBut _ _ c1 x) {oe,m5.extBut _ _ ne ho,hc}
abbrev zT1(h:Wp)(l1:Tk):Wp:=h.push { cls:=.type "tuple_iterator",data:=.fields #[.ref l1,.int 0 0] }
abbrev zT2(h:Wp)(l1 l2:Tk):Wp:=(zT1 h l1).push { cls:=.type "tuple_iterator",data:=.fields #[.ref l2,.int 0 0] }
abbrev zT3(h:Wp)(l1 l2:Tk):Wp:=(zT2 h l1 l2).push { cls:=.type "tuple",data:=.seq #[.ref h.objs.size,.ref (zT1 h l1).objs.size] }
abbrev zT4(h:Wp)(l1 l2:Tk):Wp:=(zT3 h l1 l2).push { cls:=.type "tuple",data:=.seq #[.none,.none] }
abbrev zT5(h:Wp)(l1 l2:Tk):Wp:=(zT4 h l1 l2).push { cls:=.type "zip",data:=.fields #[.none,.bool false,.bool false,.ref (zT2 h l1 l2).objs.size,.ref (zT3 h l1 l2).objs.size] }
theorem D9(l1 l2:Tk)(xs ys:UF SL) :
  Meets (Builtin.«zip.__new__» {[.type "zip",.ref l1,.ref l2],[]}) (λ_ R s=>s.heap.IsTuple l1 xs/\s.heap.IsTuple l2 ys /\
   R (.ok<|.ret<|.ref (zT4 s.heap l1 l2).objs.size) { s with heap:=zT5 s.heap l1 l2 }) :=
 .of_wp λprog w A R s h=>by
  let{hp,g,d,tk,os}:=s;let{e1,e2,h}:=h;have zbs:=sub_zip;have L1:=e1;have L2:Heap.IsTuple (Shared.heap {hp.push { cls:=.type "tuple_iterator",data:=.fields #[.ref l1,.int 0 0] },g,d,tk,os}) l2 ys:=by
   let{o,ho,r}:=e2;exact{o,z_ _ ho,r}
  wp_walk using pr L1,pr L2
  exact{_,rfl,h}
theorem CD(e1:s.heap.IsTuple l1 xs)(e2:s.heap.IsTuple l2 ys)
  (h:∀h',Zt h' (s.heap.objs.size+4) (s.heap.objs.size+2) (s.heap.objs.size+3) s.heap.objs.size ?jD l1 l2 .none .none .none 0 0 ->
   (∀c o,s.heap.get? c=some o->h'.get? c=some o)->Q (.ref<|s.heap.objs.size+4) { s with heap:=h' }) :
  wpAny ?D A (call (.type "zip") [.ref l1,.ref l2]) Q E s:=by
 refine callType_new F.called_zip ?C (F.typeCall_zip_2 _ _) (F.newCall_zip_2 _ _) (λobj=>F.args_object_init_3 obj _ _) F.entry_zip_new
  (D9 l1 l2 xs ys) {e1,e2,?_}
 have y1:(zT1 s.heap l1).objs.size=s.heap.objs.size+1:=oC ..;have y2:(zT2 s.heap l1 l2).objs.size=s.heap.objs.size+2:=by rw[oC,y1]
 have y3:(zT3 s.heap l1 l2).objs.size=s.heap.objs.size+3:=by rw[oC,y2]
 have y4:(zT4 s.heap l1 l2).objs.size=s.heap.objs.size+4:=by rw[oC,y3]
 have g5:(zT5 s.heap l1 l2).get? (zT4 s.heap l1 l2).objs.size=some _:=QV _ rfl;have g4:(zT5 s.heap l1 l2).get? (zT3 s.heap l1 l2).objs.size=some _:=z_ _<|QV _ rfl;have g3:(zT5 s.heap l1 l2).get? (zT2 s.heap l1 l2).objs.size=some _:=z_ _<|z_ _<|QV _ rfl;have g2:(zT5 s.heap l1 l2).get? (zT1 s.heap l1).objs.size=some _:=z_ _<|z_ _<|z_ _<|QV _ rfl;have g1:(zT5 s.heap l1 l2).get? s.heap.objs.size=some _:=z_ _<|z_ _<|z_ _<|z_ _<|QV _ rfl;rw[y2,y3,y4]at g5;rw[y1,y2]at g3;rw[y3]at g4;rw[y1]at g2;rw[y4];exact{{_,g5,rfl},h _ {g5,g3,g4,{_,g1,rfl,rfl},{_,g2,rfl,rfl}} λc o x=>z_ _<|z_ _<|z_ _<|z_ _<|z_ _ x}
end
end PySem
namespace L4
open PySem PySem.Spec PyProof.Rows L2 L3
variable {X:Cx}{K:Fg}{H F:Hp}{pos apos u_:Pos}{a:Tk}{Z:L2.St}{pins:C_}{s:SZ}{y:V}{e:TW}{elts:Re TW}{x1:Nat}{x:Str}{Q:w_}
def Itz(K:Fg)(a b:Tk):It :=
 {λi H=>∃xs x ys y,B_ K H a xs/\xs[i]? = some x/\B_ K H b ys/\ys[i]? = some y,
  λi H r H'=>∃p x y,(∀xs,B_ K H a xs->xs[i]? = some x)/\(∀ys,B_ K H b ys->ys[i]? = some y)/\H p=none/\r=.ref p/\H'=upd H p (.tup [x,y]),
  λi H=>∃xs ys,B_ K H a xs/\B_ K H b ys/\(xs.length<=i\/ys.length<=i)}
theorem yG{h':Wp}{t':Nat}{fp:Re Tk}(I:Inv X pins Z H s)(hf:∀b∈fp,mM X pins H b)
  (k:∀b o,b∉fp->s.heap.get? b=some o->h'.get? b=some o):Inv X pins Z H { s with heap:=h',toks:=t' }:=by
 have nit:∀b u,H b=some u->b∉fp:=λb u e z=>by rw[(hf b z).1]at e;cases e
 refine I.step    (λb hb=>?_) (λb o _ _ hc e _=>k b o hc e) (λb o _ _ hc e _=>{o.slots,k b o hc e}) (λ_ _ _ _ n=>n)
  (λb o hc e=>{o,k b o hc e}) (λ_ _ e=>e) (λ_ _ _ e=>e) (λb ps e=>{#[],by rw[e];simp}) (λm hm=>?_) (λb u e=>?_) I.bare
 ·let{f0,f1,f2,f3,f4,f5}:=hf b hb
  grind
 ·let{o,es,ep,ho,r}:=hm;exact{o,es,ep,k _ o (λz=>(hf _ z).2.1 rfl) ho,r}
 ·refine(I.k_ b u e).Tq (λc v hc q=>k c v ?_ q) (λ_ q=>q) λ_ _ q=>q
  grind
theorem rK{ch:Re Tk}{x:V}{x' y':SL}{t:Nat}{h2:Wp}(I:Inv X pins Z H s)(hf:∀c∈ch,mM X pins H c)(ru:RelV x x')(ru2:RelV y y')
  (QY:∀c o,c∉ch->s.heap.get? c=some o->h2.get? c=some o) (TU:h2.get? s.heap.objs.size=some { cls:=.type "tuple",data:=.seq #[x',y'] }) :
  Inv X pins Z (upd H s.heap.objs.size<|.tup [x,y]) { s with heap:=h2,toks:=t }:=by
 have fr:=I.fresh;have nit:∀c o,H c=some o->c∉ch:=λc o e m=>by rw[(hf c m).1]at e;cases e
 have k_:Rr X.prog X.w (upd H s.heap.objs.size<|.tup [x,y]) h2:=λc ob e=>by
  by_cases hb:c=s.heap.objs.size
  ·subst hb;rw[aN]at e
   cases e
   exact{by show 2<=sizeLine;decide,[x',y'],.cons ru<|.cons ru2 .nil,{_,TU,rfl,_,rfl},{_,TU,rfl}}
  ·rw[aQ hb]at e;refine(I.k_ c ob e).Tq (λc' v' Sy e'=>?_) (λc' e'=>by rw[aQ<|bp e' fr];exact e') λc' ys e'=>by rw[aQ<|bp e' fr];exact e'
   grind
 refine I.step      (λc hc=>?_) (λc o _ _ UR e _=>QY c o UR e) (λc o _ _ UR e _=>{o.slots,QY c o UR e})
  (λc o _ e n=>by rw[aQ<|bu<|aw e];exact n) (λc o UR e=>{o,QY c o UR e})
  (λc ys e=>by rw[aQ<|bp e fr];exact e) (λc o u' e=>by rw[aQ<|bp e fr];exact e) (λc ps e=>{#[],by rw[aQ<|bp e fr,e];simp}) (λm hm=>?_) k_ I.bare
 ·let{f0,f1,f2,f3,f4,f5}:=hf c hc
  grind
 ·let{o,es,ep,Vd,r}:=hm;exact{o,es,ep,QY _ o (λm=>(hf _ m).2.1 rfl) Vd,r}
theorem Ek{P:Tl}{w:TD}(a b z p q i1 i2:Tk)(D:ZipApart z p q i1 i2 a b) :
  Turn P w K (.Tuple elts x1 pos) (Itz K a b) [z,p,q,i1,i2] z (λi h=>∃u v,Zt h z p q i1 i2 a b .none u v i i) where
 mem:=by simp
 obj:=λi h ⟨u,v,T⟩ c hc=>by
  simp  [tu,wE,Qa]at hc;let rfl||rfl||rfl||rfl||rfl:=hc
  ·exact{_,T.z0,λv z=>nomatch z}
  ·exact{_,T.p0,λv z=>nomatch z}
  ·exact{_,T.q0,λv z=>nomatch z}
  ·let{o,e1,c,d}:=T.a0
   grind
  ·let{o,e1,c,d}:=T.b0
   grind
 keep:=λi h h' ⟨u,v,T⟩ k=>{u,v,k z ?G _ T.z0,k p ?G _ T.p0,k q ?G _ T.q0,T.a0.at λo e=>k i1 ?G o e,T.b0.at λo e=>k i2 ?G o e}
 item:=by
  intro X hP hw hK hc i pins s Z H E I hf ⟨u,v,T⟩ hg;subst hP hw hK;let{xs,x,ys,y,hq,hx,hq2,hy}:=hg;let{j_,rv,pa,hz}:=I.tuple hq;let{jts,Z5,pb,hz2}:=I.tuple hq2;let{x',hu,ru}:=rv.get hx;let{y',hu2,ru2}:=Z5.get hy;have hT:s.TypeIs (.ref z) "zip":={_,T.z0,rfl}
  refine h_ (Db (g7  hT QK
   (im QK hT F.entry_zip_next (CC D T ((pa)) ((pb))   (by simpa using hu) (by simpa using hu2) λh1 T1 t1 k1=>m_ ?_)<|F.args_zip_next_1 _)))
  refine{_,rfl,wpAny_letOwnedTupleGo_zip T1.z0 λh2 z2 (m2)=>?_};have lt:∀{c o},s.heap.get? c=some o->s.heap.objs.size≠c:=λe=>ny<|aw e
  have ltz:=lt T.z0;have ltp:=lt T.p0;have ltq:=lt T.q0;have lt1:s.heap.objs.size≠i1:=by let{_,e,_}:=T.a0;exact lt e
  have lt2:s.heap.objs.size≠i2:=by let{_,e,_}:=T.b0;exact lt e
  have QY:∀c o,c∉[z,p,q,i1,i2]->s.heap.get? c=some o->h2.get? c=some o:=λc o hc e=>by
   simp  [tu,wE,Qa,not_or]at hc;exact m2.extBut _ _ hc.1<|k1 c o hc.1 hc.2.2.1 hc.2.2.2.1 hc.2.2.2.2 e
  have TU:=m2.extBut _ _ ltz t1;have I1:Inv X pins Z (upd H s.heap.objs.size<|.tup [x,y]) { s with heap:=h2,toks:=s.toks }:=rK I hf ru ru2 QY TU
  refine{.ref s.heap.objs.size,_,I1,rfl,{_,x,y,λys' Vb=>by rw[I.RG Vb hq];exact hx,λys' Vb=>by rw[I.RG Vb hq2];exact hy,I.fresh,rfl,rfl},
   {x',y',z2,m2.extBut _ _ D.TIz T1.p0,m2.extBut _ _ D.TOz T1.q0,T1.a0.at λo e=>m2.extBut _ _ D.i1z e,T1.b0.at λo e=>m2.extBut _ _ D.i2z e},λc hc=>?_}
  have nc:c≠s.heap.objs.size:=by
   simp  [tu,wE,Qa]at hc
   grind
  rw[aQ nc];exact(hf c hc).1
 done:=by
  intro X hP hw hK hc i pins s Z H E I hf ⟨u,v,T⟩ hg;subst hP hw hK;let{xs,ys,hq,hq2,hl}:=hg;let{j_,rv,pa,hz}:=I.tuple hq;let{jts,Z5,pb,hz2}:=I.tuple hq2;have l1:=rv.length;have l2:=Z5.length;have hT:s.TypeIs (.ref z) "zip":={_,T.z0,rfl}
  refine h_ (Db (g7  hT QK
   (im QK hT F.entry_zip_next (Ea (I.ok.hd hc) D T ((pa)) ((pb))
    (hl.imp (λh=>by simp;lia) (λh=>by simp;lia)) λh' e k he=>?_)<|F.args_zip_next_1 _)))
  let{o,ho,Ux}:=he;refine h_<|Ma   {o,ho,Ux} Qh ?_
  exact m_ {rfl,yG  I hf λc o hc e=>by
   simp  [tu,wE,Qa,not_or]at hc
   exact k c o hc.1 hc.2.2.1 hc.2.2.2.1 hc.2.2.2.2 e}
 self:=λ_ _ _ _ _ ⟨u,v,T⟩ h=>wpAny_pyIter_zip T.z0 h
def tW(as bs:Re D):Re D:=List.zipWith (λx y=>PyData.tuple [x,y]) as bs
theorem Ef{b:Tk}{vs ws:Re V}{as bs:Re D}(h:B_ K F a vs)(r:i_ K F vs as)(h2:B_ K F b ws)(r2:i_ K F ws bs):Walk K (Itz K a b) (tW as bs) F where
 go:=λi G F2 Z H2 ρ s S hi=>by
  simp  [tW,List.length_zipWith]at hi;have i1:i<vs.length:=by rw[r.length];lia
  have i2:i<ws.length:=by rw[r2.length];lia
  exact{vs,vs[i],ws,ws[i],bK S.fh<|bK s h,by simp ,bK S.fh<|bK s h2,by simp }
 VB:=λi G F2 Z H2 ρ x H3 d s S hd ⟨p,y,y',hy,Vb,hp,hx,hH⟩=>by
  unfold tW at hd
  cases e:as[i]? with
  | none=>grind
  | some d1 =>
   cases e':bs[i]? with
   | none=>grind
   | some d2 =>
    let{v,g1,g2}:=r.get e;let{v',g3,g4}:=r2.get e';have z1:=hy vs<|bK S.fh<|bK s h;have z2:=Vb ws<|bK S.fh<|bK s h2;rw[g1]at z1
    cases z1
    let{s2,S2,r2}:=S.Rv hp<|i_.cons (g2.mono s)<|i_.cons (g4.mono s) i_.nil
    grind
 stop:=λG F2 Z H2 ρ s S=>{vs,ws,bK S.fh<|bK s h,bK S.fh<|bK s h2,by
  rw[r.length,r2.length];simp  [tW,List.length_zipWith];lia}
def O9(K:Fg)(tl:TA):TI:=λZ H R=>tl Z H λxs H1=>∃a b,xs=[.ref a,.ref b]/\(∃ys,B_ K H1 a ys)/\(∃ys,B_ K H1 b ys)/\R (Itz K a b) H1
theorem KY{e1 e2:TW}{tl:TA}{tp p:Pos}(hg:Gl X "zip")(hm:X.mg "zip"=none)(ha:PA X [e1,e2] tl)
  (hs:starEach [e1,e2] X.env=[(false,eval e1 X.env),(false,eval e2 X.env)]) (Tu:starEach [e2] X.env=[(false,eval e2 X.env)]) :
  PI X (.Tuple elts x1 tp) (.Call (.Name "zip" p) [e1,e2] [] pos) (O9 X.K tl):=by
 intro pins s Z H R I h;refine Call_ (gY I hg hm (show bootBuiltins "zip"=some (.type "zip") by decide +kernel) (ib (p_ ?jF λus s1 ⟨vs,H1,I1,r1,q1⟩=>?_) (by rw[hs,Tu]) (by rw[Tu];rfl)) ?C ?C);let{a,b,rfl,{ys,hq},{zs,hq2},q}:=q1
 cases r1 with
 | cons r rr =>
  cases rr with
  | cons r' rr =>
   cases rr
   cases r
   cases r'
   let{j_,rv,pt,hz}:=I1.tuple hq;let{jts,Z5,pt2,hz2}:=I1.tuple hq2;have la:a<s1.heap.objs.size:=by let{o,e1,_}:=pt;exact aw e1
   have lb:b<s1.heap.objs.size:=by let{o,e1,_}:=pt2;exact aw e1
   refine CD ((pt)) ((pt2)) λh' T hk=>?_
   refine wpAny_pyIter_zip  T.z0 ?_;refine{s1.heap.objs.size+4,[s1.heap.objs.size+4,s1.heap.objs.size+2,s1.heap.objs.size+3,s1.heap.objs.size,s1.heap.objs.size+1],_,_,H1,rfl,I1.kept  hk,Ek a b _ _ _ _ _<|zipApart_new la lb,{_,_,T},λc hc=>?_,q};have:s1.heap.objs.size<=c:=by
    grind
   exact I1.RJ this<|I1.k_.fresh this
def DC:Re D->SC ?Q
 | [.tuple as,.tuple bs]=>some<|tW as bs
 | _=>none
section
variable {tg e1 e2:TW} {ps:(Re D->M ?Q)->Pu ?Q} {p tp:Pos}
theorem Kk{vs:Re V}{ds out:Re D}{R:It->Hp->Prop}(s:c_ F H)(r:i_ X.K F vs ds)(h:DC ds=some out)(k:∀J,Walk X.K J out F->R J H) :
  ∃a b,vs=[.ref a,.ref b]/\(∃ys,B_ X.K H a ys)/\(∃ys,B_ X.K H b ys)/\R (Itz X.K a b) H:=by
 unfold DC at h;split at h
 ·cases h
  let{v,u,rfl,r1,r2}:=r.Ww;let{a,as,rfl,a1,a2}:=r1.QX;let{b,bs,rfl,b1,b2}:=r2.QX;exact{_,_,rfl,{_,B_.of<|s _ _ a1},{_,B_.of<|s _ _ b1},k _<|Ef (B_.of a1) a2 (B_.of b1) b2}
 ·cases h
theorem GY{ps:Pa ?Q}(hg:Gl X "zip")(hm:X.mg "zip"=none)(ha:AA X [e1,e2] ps)(hs:starEach [e1,e2] X.env=[(false,eval e1 X.env),(false,eval e2 X.env)])(Tu:starEach [e2] X.env=[(false,eval e2 X.env)]):AI X (.Tuple elts x1 tp) (.Call (.Name "zip" p) [e1,e2] [] pos) (j7 DC ps) :=
 λG F Z H ρ R S w=>vP (KY hg hm cI hs Tu) (ha G F Z H ρ _ _ _ S w λds vs F1 H1 s1 S1 _ r1 w1=>by
  let{out,hd,k}:=w1.opt
  exact Kk S1.fh r1 hd ?qN)
end
def zX(ds es:Re D):SC ?Q:=if decide (ds.length+es.length<=sizeLine)then some (ds++es)else none
section
variable {S:Type} {c:TW} {ml:Ev S ?Q} {pos':Pos} {m:SM S}
theorem qL{i:Nat}(hN:X.N[i]? = some x)(hv:UW X.env.scope x)(he:AEl X e ml)
  (Rz:attributeBase (.Name x pos') "extend" X.env (eval (.Name x pos') X.env)=eval (.Name x pos') X.env)
  (Yc:((backTo u_<|starEach [e] X.env).all (λx=>!x.1)&&(backToKw u_<|keywordEach [] X.env).all (λx=>x.1.isSome)
   && decide ([e].length+([]:Re Keyword).length+(if([]:Re Keyword).isEmpty then 0 else 1)<30))=true)
  (Ry:?jQ=true) (hs:starEach [e] X.env=?K::starEach [] X.env) (Tv:(backTo u_<|starEach [] X.env).any (·.1)=false)
  (X6:swapsWith (.Call (.Attribute (.Name x pos') "extend" apos) [e] [] u_) none pos.line X.env=pure false) (hd:(x==("__debug__" : Str))=false:=by decide) (Ri:(x==("__classdict__" : Str))=false:=by decide) :
  AS X (.Expr (.Call (.Attribute (.Name x pos') "extend" apos) [e] [] u_) pos) (Hv i zX ml):=λOK K G F Z H ρ E hO hX St ok eo =>
 jf (qB (Fk PQ PySem.F.slot_list_extend PySem.F.type_list_extend Dc ?j3 (dO aO iQ hs) Rz Yc Ry hs Tv) X6) (by
  unfold Hv at ok;split at ok
  case h_2=>exact(hO ok).elim
  ·rename_i ds0 h0;let{a,ZC,ea,hh,_}:=eR St h0;refine{_,ea,.inl {rfl,ZC,.inl<|.inl hh},he OK K.x _ G F Z H ρ _ hO hX St ok λes v F1 H1 ρ1 s1 S1 fr o1=>?_};split at o1
   ·rename_i ds UQ;let{WI,hf,o2}:=dC hO o1;let{a',vs,Q0,hh',rv}:=eR S1 UQ;rw[ea]at Q0;injection Q0 with Q0;injection Q0 with Q0;injection Q0 with Q0;subst Q0;let{b,rfl,ob,_}:=fr;let{ws,g1,g2}:=ob.he;unfold zX at hf;split at hf
    ·rename_i hz
     cases hf
     refine{a,b,vs,ws,rfl,rfl,hh',g1,by rw[rv.length,g2.length];simpa using hz,?_};exact eo.nx F1 Z _ _ s1 (mW S1 UQ ea<|rv.append g2) o2
    ·cases hf
   ·exact(hO o1).elim)
end
def gj:D->Bool
 | .int _=>true
 | .str _=>true
 | _=>false
def dB:D->Bool
 | .tuple ds=>ds.all gj
 | _=>false
def yO:D->D->Bool
 | .int i,.int j=>decide<|i=j
 | .str i,.str j=>decide<|i=j
 | _,_=>false
def BI:Re D->Re D->Bool
 | [],[]=>true
 | a::r,b::t=>yO a b&&BI r t
 | _,_=>false
def gH:D->D->Bool
 | .tuple a,.tuple b=>BI a b
 | a,b=>yO a b
def keyOk(es:Re ?N)(k:D):Bool:=(dB k&&es.all λp=>dB p.1)||(gj k&&es.all λp=>gj p.1)
theorem qE{es:Re ?N}{k:D}(h:keyOk es k=true):mB es=false:=by
 unfold mB;split
 ·simp[keyOk,dB,gj]at h
 ·simp[keyOk,dB,gj]at h
 ·rfl
def gk(es:Re ?N)(k:D):SC D:=(es.find? λp=>gH p.1 k).map (·.2)
def oz(es:Re ?N)(k d:D):Re ?N:=if es.any (λp=>gH p.1 k)then es.map (λp=>if gH p.1 k then(p.1,d)else p)else es++[(k,d)]
theorem yN(a b:Key):yO (s_ a) (s_ b)=decide (a=b):=by
 cases a<;>cases b<;>simp[yO,s_]
theorem yM:∀(a b:Re Key),BI (a.map s_) (b.map s_)=decide (a=b)
 | [],[]=>rfl
 | [],_::_=>rfl
 | _::_,[]=>rfl
 | x::xs,y::ys=>by
  simp![ap,BI,yN,yM xs ys]
  grind
theorem mz(a b:Re Key):gH (dc a) (dc b)=decide (a=b):=yM a b
theorem Ae(a b:Key):gH (s_ a) (s_ b)=decide (a=b):=by
 have h:gH (s_ a) (s_ b)=yO (s_ a) (s_ b):=by cases a<;>cases b<;>rfl
 rw[h];exact yN a b
theorem jp{d:D}(h:gj d=true):∃k,d=s_ k:=by
 cases d<;>first|exact{.inl _,rfl}|exact{.inr _,rfl}|cases h
theorem sJ:∀{ds:Re D},ds.all gj=true->∃k:Re Key,ds=k.map s_
 | [],_=>{[],rfl}
 | d::ds,h=>by
  rw[PM,am]at h;let{k,rfl}:=jp h.1;let{ks,rfl}:=sJ h.2;exact{k::ks,rfl}
theorem eN{d:D}(h:dB d=true):∃k,d=dc k:=by
 cases d<;>first|cases h|skip
 let{k,rfl}:=sJ h;exact{k,rfl}
theorem Gb(k:Key):gj (s_ k)=true:=by cases k<;>rfl
theorem F9(k:Re Key):dB (dc k)=true:=by
 unfold dc dB;simp[Gb]
theorem Ga(k:Key):dB (s_ k)=false:=by cases k<;>rfl
section
variable {v:V}
theorem j1{k:Key}(r:Rep K F v (s_ k)):v=kV k:=by
 cases k with
 | inl i=>cases ((r));rfl
 | inr i=>cases ((r));rfl
theorem uM:∀{vs:Re V} {k:Re Key},i_ K F vs (k.map s_)->vs=k.map kV
 | _,[],r=>by cases r;rfl
 | _,k::ks,r=>by
  cases r with
  | cons a b=>rw[j1 a,uM b];rfl
theorem fT{k:Re Key}(r:Rep K F v (dc k)):∃b,v=.ref b/\F b=some (.tup<|k.map kV):=by
 cases r with
 | tup h1 h2=>rw[uM h2]at h1;grind
def DT(K:Fg)(F H:Hp)(a:Tk)(es:Re ?N):Prop:=∃kvs,Rd H a (.dT kvs)/\es.map (·.1)=kvs.map ?qn/\i_ K F (kvs.map (·.2)) (es.map (·.2))
def DK(K:Fg)(F H:Hp)(a:Tk)(es:Re ?N):Prop:=∃kvs,H a=some (.dK kvs)/\es.map (·.1)=kvs.map (λp=>s_ p.1)/\i_ K F (kvs.map (·.2)) (es.map (·.2))
theorem OR.dict{es:Re ?N}(s:c_ F H)(h:OR K F H v (.dict es))(hx:mB es=false):∃a,v=.ref a/\(DT K F H a es\/DK K F H a es):=by
 let h||{a,c,e,e2,h1,hI}:=h
 ·cases h with
  | UJ h1 h2 h3=>exact{_,rfl,.inl {_,.inr {_,s _ _ h1},h2,h3}}
  | Yz h1 h2 h3=>exact{_,rfl,.inr {_,s _ _ h1,h2,h3}}
  | exc _ _ _ _ _=>cases hx
  | fn _=>cases hx
 ·cases c<;>cases e2
  ·let{kvs,q1,q2,q3}:=h1;exact{a,e,.inl {kvs,.inl q1,q2,q3}}
  ·exact{a,e,.inr h1}
theorem wN{κ:Type}[DecidableEq κ]{kd:κ->D}(inj:∀a b,gH (kd a) (kd b)=decide (a=b))(k:κ):∀{kvs:Re ?qX} {es:Re ?N},es.map (·.1)=kvs.map (λp=>kd p.1)->i_ K F (kvs.map (·.2)) (es.map (·.2)) ->
  (∃d v,gk es (kd k)=some d/\lA kvs k=some v/\Rep K F v d)\/(gk es (kd k)=none/\lA kvs k=none)
 | [],[],_,_=>.inr {rfl,rfl}
 | [],_::_,e,_=>by simp at e
 | _::_,[],e,_=>by simp at e
 | p::kvs,q::es,e,r=>by
  simp  [ap,List.cons.injEq]at e
  cases r with
  | cons r1 r2 =>
   unfold gk lA;rw[ou,ou,e.1,inj];by_cases h:p.1=k
   ·grind
   ·simp![h,Qg];exact wN inj k e.2 r2
theorem qA{κ:Type}[DecidableEq κ]{kd:κ->D}(inj:∀a b,gH (kd a) (kd b)=decide (a=b))(k:κ){d:D}(rv:Rep K F v d):∀{kvs:Re ?qX} {es:Re ?N},es.map (·.1)=kvs.map (λp=>kd p.1)->i_ K F (kvs.map (·.2)) (es.map (·.2)) ->
  (oz es (kd k) d).map (·.1)=(putK kvs k v).map (λp=>kd p.1)/\i_ K F ((putK kvs k v).map (·.2)) ((oz es (kd k) d).map (·.2)):=by
 intro kvs es e r;have any:∀{kvs:Re ?qX} {es:Re ?N},es.map (·.1)=kvs.map (λp=>kd p.1)->(es.any λp=>gH p.1<|kd k)=kvs.any λp=>decide<|p.1=k:=by
  intro kvs
  induction kvs with
  | nil=>intro es e;cases es with
   | nil=>rfl
   | cons _ _=>simp at e
  | cons p kvs ih=>intro es e;cases es with
   | nil=>simp at e
   | cons q es =>
    simp![ap,List.cons.injEq]at e;rw[PL,PL,ih e.2,e.1,inj]
 have mp:∀{kvs:Re ?qX} {es:Re ?N},es.map (·.1)=kvs.map (λp=>kd p.1)->i_ K F (kvs.map (·.2)) (es.map (·.2)) ->
   (es.map λp=>if gH p.1 (kd k)then(p.1,d)else p).map (·.1)=(kvs.map λp=>if p.1=k then(p.1,v)else p).map (λp=>kd p.1) /\
   i_ K F ((kvs.map λp=>if p.1=k then(p.1,v)else p).map (·.2)) ((es.map λp=>if gH p.1 (kd k)then(p.1,d)else p).map (·.2)):=by
  intro kvs
  induction kvs with
  | nil=>intro es e r;cases es with
   | nil=>exact{rfl,.nil}
   | cons _ _=>simp at e
  | cons p kvs ih=>intro es e r;cases es with
   | nil=>simp at e
   | cons q es =>
    simp![ap,List.cons.injEq]at e
    cases r with
    | cons r1 r2 =>
     let{i1,i2}:=ih e.2 r2;simp![ap,e.1,inj];by_cases h:p.1=k
     ·simp![h,decide_true,yp,List.cons.injEq];exact{{trivial,i1},.cons rv i2}
     ·simp![h,Qg,Qv,List.cons.injEq];exact{{by simpa using e.1,i1},.cons r1 i2}
 unfold oz putK;rw[any e];by_cases h:(kvs.any λp=>decide<|p.1=k)=true
 ·rw[ar h,ar h];exact mp e r
 ·rw[ax h,ax h];refine{by simp[e],?_};rw[eg,eg];exact r.append<|.cons rv .nil
end
def xI(H:Hp)(a:Tk):Prop:=Rd H a (.dT [])\/H a=some (.dK [])
theorem mF(I:Inv X pins Z H s)(h:xI H a) :
  s.heap.DictOfH (tupleKind ?qy) a []/\s.heap.DictOf ?qy a []/\?j0=false:=by
 let h||h:=h
 ·let{z,y,xs,kt,o,es,ep,h1,h2,h3,h4,h5,h6}:=lO I.k_ h
  cases kt
  have e0:es = #[]:=by
   grind
  subst e0;exact{{o,_,ep,h1,h2,h3,rfl,(λx hx=>by simp at hx),PY},{o,_,ep,h1,h2,h3,λe he=>by simp at he,.nil,PY},y}
 ·let{z,y,vs,kv,o,es,ep,h1,h2,h3,h4,h5,h6}:=Cd I.k_ h
  cases kv
  have e0:es = #[]:=by
   have:es.toList=[]:=by
    generalize es.toList=l at h5
    cases h5
    rfl
   grind
  subst e0;exact{{o,_,ep,h1,h2,h3,rfl,(λx hx=>by simp at hx),PY},{o,_,ep,h1,h2,h3,λe he=>by simp at he,.nil,PY},y}
theorem DT.empty(h:DT K F H a []):xI H a:=by
 let{kvs,h1,h2,_}:=h
 cases kvs with
 | nil=>exact .inl h1
 | cons _ _=>simp at h2
theorem DK.empty(h:DK K F H a []):xI H a:=by
 let{kvs,h1,h2,_}:=h
 cases kvs with
 | nil=>exact .inr h1
 | cons _ _=>simp at h2
def ME(H:Hp)(y:V):Prop:=(∃k,y=kV k)\/∃(b:Tk) (ks:Re Key),y=.ref b/\H b=some (.tup<|ks.map kV)
def AZ(H:Hp)(a:Tk)(y:V)(o:SC V):Prop:=TJ H a y o\/(xI H a/\ME H y/\o=none)
theorem xx{es:Re ?N}{k:D}(s:c_ F H)(h:DT K F H a es\/DK K F H a es)(r:Rep K F y k)(hk:keyOk es k=true) :
  (∃d v,gk es k=some d/\AZ H a y (some v)/\Rep K F v d)\/(gk es k=none/\AZ H a y none):=by
 unfold keyOk at hk;rw[gs,am,am]at hk;have kT:dB k=true->ME H y:=λh=>by
  let{ks,rfl}:=eN h;let{b,rfl,hb}:=fT r;exact .inr {b,ks,rfl,s _ _ hb}
 have kK:gj k=true->ME H y:=λh=>by
  let{ks,rfl}:=jp h;exact .inl {ks,j1 r}
 cases es with
 | nil =>
  refine .inr {rfl,.inr {?_,?_,rfl}}
  ·let h||h:=h
   ·exact h.empty
   ·exact h.empty
  grind
 | cons p es =>
  let{kvs,h1,h2,h3}||{kvs,h1,h2,h3}:=h
  ·let{hk,_}||{_,hk}:=hk
   ·let{ks,rfl}:=eN hk;let{b,rfl,hb}:=fT r;let{d,v,e1,e2,e3}||{e1,e2}:=wN mz ks h2 h3
    ·exact .inl {d,v,e1,.inl<|e2▸.inr {kvs,ks,b,h1,rfl,s _ _ hb,rfl},e3}
    ·exact .inr {e1,.inl<|e2▸.inr {kvs,ks,b,h1,rfl,s _ _ hb,rfl}}
   ·cases kvs with
    | nil=>simp at h2
    | cons q kvs =>
     simp  [ap,List.cons.injEq]at h2;rw[PM,h2.1]at hk
     cases hk
  ·let{_,hk}||{hk,_}:=hk
   ·cases kvs with
    | nil=>simp at h2
    | cons q kvs =>
     simp  [ap,List.cons.injEq]at h2;rw[PM,h2.1,Ga]at hk
     cases hk
   ·let{ks,rfl}:=jp hk;obtain rfl:=j1 r;let{d,v,e1,e2,e3}||{e1,e2}:=wN Ae ks h2 h3
    ·exact .inl {d,v,e1,.inl<|e2▸TJ.k h1,e3}
    ·exact .inr {e1,.inl<|e2▸TJ.k h1}
section
variable {d:V} {u r:SL} {o:SC V} {A:UV} {E:w_}
theorem Pr(hu:A.units+1<cLine)(I:Inv X pins Z H s)(g:AZ H a y o)(ry:RelV y u)(h:∀s',Inv X pins Z H s'->Q (.bool o.isSome) s') :
  wpAny ?B A (compareOp .In u<|.ref a) Q E s:=by
 let g||{e,k,rfl}:=g
 ·exact Pl hu I g ry h
 ·let{h1,h2,hd}:=mF I e;let{k,rfl}||{b,ks,rfl,hb}:=k
  ·exact wpAny_in_of (lJ ry) hd h2.mapOf<|h _ ?qz
  ·cases ((ry))
   exact wpAny_in_heap (ur hu) (gZ I.k_ hb) hd h1<|h _ ?qz
theorem Jq(hu:A.units+1<cLine)(I:Inv X pins Z H s)(g:AZ H a y o)(ry:RelV y u)(h:∀s',Inv X pins Z H s'->Q (.bool<|!o.isSome) s') :
  wpAny ?B A (compareOp .NotIn u<|.ref a) Q E s:=by
 let g||{e,k,rfl}:=g
 ·exact IT hu I g ry h
 ·let{h1,h2,hd}:=mF I e;let{k,rfl}||{b,ks,rfl,hb}:=k
  ·exact wpAny_notIn_of (lJ ry) hd h2.mapOf<|h _ ?qz
  ·cases ((ry))
   exact wpAny_notIn_heap (ur hu) (gZ I.k_ hb) hd h1<|h _ ?qz
theorem MA(hu:A.units+1<cLine)(I:Inv X pins Z H s)(g:AZ H a y o)(ry:RelV y u)(h:∀w' s',Inv X pins Z H s'->RelV (o.getD .QW) w'->Q w' s') :
  wpAny ?B A (call (.builtin "dict.get") [.ref a,u]) Q E s:=by
 let g||{e,k,rfl}:=g
 ·exact Mg hu I g ry h
 ·let{h1,h2,hd}:=mF I e;let{k,rfl}||{b,ks,rfl,hb}:=k
  ·exact QC Er h2.typeIs PX (PR _ _) (meets_dict_get ?qy a (lJ ry) hd) {_,h2.mapOf,h _ _ ?qz rfl}
  ·cases ((ry))
   exact QC Er h1.typeIs PX (PR _ _) (meetsH_dict_get (tupleKind ?qy) a b hd) {ur hu,ks,[],gZ I.k_ hb,h1,h _ _ ?qz rfl}
theorem DT.isD{es:Re ?N}(h:DT K F H a es\/DK K F H a es):IsD H a:=by
 let{kvs,h1,_}||{kvs,h1,_}:=h
 ·exact .inr {_,h1}
 ·exact .inl {_,.inl h1}
end
def zg:D->D->SC D
 | .dict es,k=>if keyOk es k then some ((gk es k).getD .none)else none
 | _,_=>none
def gz(d c:D):SC Bool:=match c with
 | .dict es=>if keyOk es d then some (gk es d).isSome else none
 | _=>yn d c
def bB(d c:D):SC Bool:=match c with
 | .dict es=>if keyOk es d then some (!(gk es d).isSome)else none
 | _=>iu d c
def aF(x y:D):SC D:=match x with
 | .dict es=>if keyOk es y then gk es y else none
 | _=>fJ x y
def nM:Re D->SC D
 | [.dict es]=>if mB es then none else some (.int es.length)
 | l=>dE l
def La(po pe:Pu D):Pu D:=λρ=>bd (po ρ) λd=>bd (XI<|pe ρ) λk=>oM<|zg d k
theorem W.nx{G:Gh}{ρ:En}{α:Type}{m:M α}{C:α->Hp->Hp->Prop}(h:W X G F Z ρ (XI m) C):W X G F Z ρ m C:=by
 cases m with
 | ret a=>exact h
 | exc x=>exact h.elim
 | bad=>exact h.elim
def Ku(td ty:TE):TE:=λZ H Q=>td Z H λx H1=>∃a,x=.ref a/\IsD H1 a/\ty Z H1 λy H2=>∃o,AZ H2 a y o/\Q (o.getD .QW) H2
section
variable {o f:TW} {td ty tx:TE}
theorem Fl(hu:X.A.units+1<cLine)(ho:PE X o td)(he:PE X e ty)(m:M1 X o "get" apos e u_):PE X (.Call (.Attribute o "get" apos) [e] [] u_) (Ku td ty):=by
 intro pins s Z H Q I h;refine wpAny_Call_method m.base m.Yx m.line PySem.F.plainAttrs_dict Er PySem.F.type_dict_get<|p_ ?qm λu s1 ⟨x,H1,I1,rx,a,ex,d,q1⟩=>?_;subst ex;obtain rfl:u=Value.ref a:=rx;let{t1,t2,_}:=LM I1 d;refine{t1,t2,?_};rw[m.trees];refine P0 rfl<|Calls.evalArgs_plain<|Qj<|p_ (he pins s1 Z H1 _ I1 q1) λiv s2 ⟨y,H2,I2,ry,ov,g,q2⟩=>Qq ?_;exact MA hu I2 g ry λw' s3 I3 SX=>{_,H2,I3,SX,q2}
end
section
variable {o f:TW} {po pe pf:Pu D}
theorem GX(hu:X.A.units+1100<cLine)(ho:AO X o po)(he:AP X e pe)(m:M1 X o "get" apos e u_):AP X (.Call (.Attribute o "get" apos) [e] [] u_) (La po pe) :=
 λG F Z H ρ Q S w=>Rt (Fl ?A aO aO m) (ho G F Z H ρ _ S (w.bind.imp λd F1 H1 s1 S1 w1 v hv=>by
  have hd:∃es,d=.dict es/\mB es=false:=by
   cases hk:pe ρ with
   | ret k =>
    rw[hk]at w1;let{res,e,_}:=w1.opt
    cases d with
    | dict es =>
     dsimp only[zg]at e;split at e
     ·rename_i hk;exact{es,rfl,qE hk}
     ·cases e
    | _=>cases e
   | exc x=>rw[hk]at w1;exact w1.elim
   | bad=>rw[hk]at w1;exact w1.elim
  let{es,rfl,hnx}:=hd;let{a,rfl,hh}:=(hv.or S1).dict S1.fh hnx;refine{a,rfl,DT.isD hh,he G F1 Z H1 ρ _ S1<|w1.bind.nx.imp λk F2 H2 s2 S2 w2 y hy=>?_};let{res,e,kk}:=w2.opt;dsimp only[zg]at e;split at e
  case isFalse=>cases e
  rename_i hk
  cases e
  let{a',ea,hh3}:=((hv.mono s2).or S2).dict S2.fh hnx
  cases ea
  let{d,v,e1,g,r}||{e1,g}:=xx S2.fh hh3 hy hk
  ·grind
  ·refine{none,g,?_};rw[e1]at kk
   exact kk F2 H2 ?I S2 .QW .QW))
end
def Nm(neg:Bool):R2:=λx y H Q=>∃a o,y=.ref a/\AZ H a x o/\Q (.bl<|if neg then !o.isSome else o.isSome) H
def Nl(K:Fg):R2:=λx y H Q=>XF K yn x y H Q\/Nm false x y H Q
def Bd(K:Fg):R2:=λx y H Q=>XF K iu x y H Q\/Nm true x y H Q
def KR:R2:=λx y H Q=>∃a v,x=.ref a/\TJ H a y (some v)/\Q v H
def Nk(K:Fg):R2:=λx y H Q=>rIx K x y H Q\/KR x y H Q
section
theorem mZ(hu:X.A.units+1100<cLine):QN X (compareOp .In) (Nl X.K):=QN.or (Lc hu) (by
 intro pins s Z H x y v u Q I rx ry ⟨a,o,e,g,q⟩;subst e;obtain rfl:u=Value.ref a:=ry
 exact Pr ?A I g rx λs' I'=>{.bl _,H,I',rfl,q})
theorem bU(hu:X.A.units+1100<cLine):QN X (compareOp .NotIn) (Bd X.K):=QN.or (C2 hu) (by
 intro pins s Z H x y v u Q I rx ry ⟨a,o,e,g,q⟩;subst e;obtain rfl:u=Value.ref a:=ry
 exact Jq ?A I g rx λs' I'=>{.bl _,H,I',rfl,q})
theorem BM(hu:X.A.units+1100<cLine):WM X KR:=by
 intro value slice pins s Z H x y v u Q I rx ry ⟨a,w,e,g,q⟩ hs;subst e;obtain rfl:v=Value.ref a:=rx;have hT:=ze I g;refine h_ ?_;refine h_<|wpAny_specialOf hT PySem.F.slot_dict_getitem.lookup ?_;have h₂:wpAny ?B X.A (getItem (.ref a) u) ?jr X.xe s:=DH ?A I g ry λw' s3 I3 SX=>{w,H,I3,SX,q}
 have fin:wpAny ?B X.A (subscripted slice false (.ref a) u) (λr s₃=>wpAny ?B X.A (letTemporaryGo value (.ref a) r >>= λ_=>pure r) ?jr X.xe s₃) X.xe s:=by
  rw[hs];exact wpAny_operating<|pd h₂ (λr s₃ h₃=>h_<|wpAny_letTemporaryGo<|m_ h₃) λ_ _ x=>x
 first
  | exact m_<|h_ fin
  | exact h_<|m_<|h_ fin
  | exact h_ fin
theorem aD(hu:X.A.units+1100<cLine):WM X (Nk X.K):=WM.or LK<|BM hu
theorem oX{es:Re ?N}{k:D}(h:OR K F H y k)(hk:keyOk es k=true):Rep K F y k:=by
 let h||{a,c,e,e2,h1,hI}:=h
 ·exact h
 ·subst e2;unfold keyOk at hk
  cases c<;>simp[OC.d,dB,gj]at hk
theorem rQ:Xt K (Nl K) gz:=by
 intro G F Z H ρ x y dx dy res Q S ox oy e k;unfold gz at e;split at e
 ·split at e
  case isFalse=>cases e
  rename_i hk
  cases e
  let{a,rfl,hh}:=oy.dict S.fh<|qE hk;let{d,v,e1,g,r}||{e1,g}:=xx S.fh hh (oX ox hk) hk
  ·exact .inr {a,_,rfl,g,by rw[e1]at k;exact k}
  ·exact .inr {a,_,rfl,g,by rw[e1]at k;exact k}
 ·exact .inl<|bv G F Z H ρ x y dx dy res Q S ox oy e k
theorem cg:Xt K (Bd K) bB:=by
 intro G F Z H ρ x y dx dy res Q S ox oy e k;unfold bB at e;split at e
 ·split at e
  case isFalse=>cases e
  rename_i hk
  cases e
  let{a,rfl,hh}:=oy.dict S.fh<|qE hk;let{d,v,e1,g,r}||{e1,g}:=xx S.fh hh (oX ox hk) hk
  ·exact .inr {a,_,rfl,g,by rw[e1]at k;exact k}
  ·exact .inr {a,_,rfl,g,by rw[e1]at k;exact k}
 ·exact .inl<|bv G F Z H ρ x y dx dy res Q S ox oy e k
theorem aC:Xg K (Nk K) aF:=by
 intro G F Z H ρ x y dx dy res Q S ox oy e k;unfold aF at e;split at e
 ·split at e
  case isFalse=>cases e
  rename_i hk;let{a,rfl,hh}:=ox.dict S.fh<|qE hk;let{d,v,e1,g,r}||{e1,g}:=xx S.fh hh (oX oy hk) hk
  ·rw[e1]at e
   cases e
   let g||{_,_,z}:=g
   ·exact .inr {a,v,rfl,g,k v F H ?I S r}
   ·cases z
  grind
 ·exact .inl<|NL G F Z H ρ x y dx dy res Q S ox oy e k
end
def HU(ρ:En)(i:Nat):SC (Bool×Re ?N):=match ρ[i]? with
 | some (some<|.ol<|.t es)=>some (true,es)
 | some (some<|.ol<|.k es)=>some (false,es)
 | _=>none
def Y1(t:Bool)(es:Re ?N):OC:=if t then .t es else .k es
theorem ym{ρ:En}{i:Nat}{t:Bool}{es:Re ?N}(h:HU ρ i=some (t,es)):ρ[i]? = some (some<|.ol<|Y1 t es):=by
 unfold HU at h;split at h
 ·rename_i q;cases h;exact q
 ·rename_i q;cases h;exact q
 ·cases h
def keyOf(t:Bool)(k:D):Bool:=if t then dB k else gj k
def hV(t:Bool)(es:Re ?N)(k d:D):SC (Re ?N):=if keyOf t k&&decide (es.length<sizeLine)then some (oz es k d)else none
section
variable {S:Type}
def JE(t:Bool)(i:Nat):SM S:=λK ρ=>match jO ρ i with
 | true=>K.nx<|ρ.set i<|some<|.ol<|Y1 t []
 | false=>.bad
def KA(i:Nat)(mi me:Ev S D):SM S:=λK ρ=>me K.x (λd ρ1=>match HU ρ1 i with
 | some _=>mi K.x (λj ρ2=>match HU ρ2 i with
  | some (t,es)=>(oM<|hV t es j d).on (λe=>K.x e ρ2) λW_=>K.nx<|ρ2.set i<|some<|.ol<|Y1 t W_
  | none=>.bad) ρ1
 | none=>.bad) ρ
variable {b:TW} {mi me:Ev S D} {pos' O_:Pos}
theorem qM(t:Bool){i:Nat}(hN:X.N.Nodup)(hi:X.N[i]? = some x)(hx:Loc X.env.scope x)(hs:swapsWith (.Dict [] [] O_) (some<|.Name x pos') pos.line X.env=pure false)(hf:X.fn x=true\/X.env.scope.names.lookup x=some .local) :
  AS (S:=S) X (.Assign [.Name x pos'] (.Dict [] [] O_) pos) (JE t i):=λOK K G F Z H ρ E hO hX St ok eo=>by
 unfold JE at ok;split at ok
 case h_2=>exact(hO ok).elim
 rename_i ho;let{hl,Ud}:=dZ ho
 cases t with
 | true=>exact jf (j6 hN hi hx yf hs hf) λp hp=>eo.nx F _ _ _ ?I ((St.lay  hp).store Ud hl<|.inr {.t [],rfl,p,rfl,{St.fh.free hp,St.oh.free hp,[],aN,rfl,.nil},St.fresh_ne hp}) ok
 | false=>exact jf (j6 hN hi hx Fj hs hf) λp hp=>eo.nx F _ _ _ ?I ((St.lay  hp).store Ud hl<|.inr {.k [],rfl,p,rfl,{St.fh.free hp,St.oh.free hp,[],aN,rfl,.nil},St.fresh_ne hp}) ok
theorem iM(hu:X.A.units+1100<cLine){i:Nat}(hN:X.N[i]? = some x)(hv:UW X.env.scope x)(hi:AE X b mi)(he:AE X e me)
  (hs:swapsWith e (some<|.Subscript (.Name x pos') b O_) pos.line X.env=pure false)
  (hd:(x==("__debug__" : Str))=false:=by decide) (Ri:(x==("__classdict__" : Str))=false:=by decide):AS X (.Assign [.Subscript (.Name x pos') b O_] e pos) (KA i mi me):=λOK K G F Z H ρ E hO hX St ok eo =>
 jf (Bo ?A ?j3 aO aO hs) (he OK K.x _ G F Z H ρ _ hO hX St ok λd v F1 H1 ρ1 s1 S1 r1 o1=>by
  split at o1
  case h_2=>exact(hO o1).elim
  rename_i te0 hd0;let{a,ea,_}:=S1.ow i _<|.inl<|ym hd0;refine{_,ea,hi OK K.x _ G F1 Z H1 ρ1 _ hO hX S1 o1 λj u F2 H2 ρ2 s2 S2 r2 o2=>?_};split at o2
  case h_2=>exact(hO o2).elim
  rename_i t es UQ;let{W_,hp,o3}:=dC hO o2;have X8:=ym UQ;let{a',Q0,oa}:=S2.ow i _<|.inl X8;rw[ea]at Q0;injection Q0 with Q0;injection Q0 with Q0;injection Q0 with Q0;subst Q0;unfold hV at hp;split at hp
  case isFalse=>cases hp
  rename_i hc
  cases hp
  rw[am]at hc
  cases t with
  | true =>
   let{ks,rfl}:=eN hc.1;let{b,rfl,hb}:=fT r2;let{kvs,h1,h2,h3}:=((oa.he));let{p1,p2}:=qA mz ks ?qM h2 h3;have hlen:=by have:=congrArg List.length h2;simpa using this.symm
   refine{a,_,rfl,RY.t h1 (S2.fh _ _ hb) ?A,eo.nx F2 Z _ _ ?jo ?_ o3};have:=S2.change (.inl X8) ea (c':=.t (oz es (dc ks) d))  {_,aN,p1,p2};rw[X8]at this;exact this
  | false =>
   let{ks,rfl}:=jp hc.1;obtain rfl:=j1 r2;let{kvs,h1,h2,h3}:=((oa.he));let{p1,p2}:=qA Ae ks ?qM h2 h3;have hlen:=by have:=congrArg List.length h2;simpa using this.symm
   refine{a,_,rfl,RY.k h1 ?A,eo.nx F2 Z _ _ ?jo ?_ o3};have:=S2.change (.inl X8) ea (c':=.k (oz es (s_ ks) d))  {_,aN,p1,p2};rw[X8]at this
   exact this)
end
end L4
namespace HT
open PySem PyProof.Rows
end HT
namespace L4
open PySem PySem.Spec PyProof.Rows L2 L3
def dU(x y:D):SC Bool:=match x,y with
 | .tuple a,.tuple b=>match intsOf a,intsOf b with
  | some m,some n=>some<|HT.lexLt m n
  | _,_=>none
 | x,y=>zQ x y
def Ng(K:Fg):R2:=λx y H Q=>Wx (λi j=>.bl<|decide<|i<j) x y H Q\/Nf K x y H Q
theorem iT{X:Cx}(hu:X.A.units+1100<cLine):QN X (compareOp .Lt) (Ng X.K):=QN.or NG<|Lg ?A
theorem iV{K:Fg}:Xt K (Ng K) dU:=by
 intro G F Z H ρ x y dx dy res Q S ox oy e k;unfold dU at e;split at e
 ·split at e
  ·rename_i m n hm hn
   cases e
   let{p,vs,rfl,h1,h2}:=ox.tuple S.fh;let{q,us,rfl,g1,g2}:=oy.tuple S.fh;rw[dP hm]at h2;rw[dP hn]at g2;rw[eL h2]at h1;rw[eL g2]at g1;exact .inr {p,q,m,n,rfl,rfl,h1,g1,k}
  ·cases e
 ·exact .inl<|NJ G F Z H ρ x y dx dy res Q S ox oy e k
end L4
namespace PySem
open Sem (wp)
open AutoSeq1 (wpAny_loadPart')
theorem DF{prog:Tl}{w:TD}{A:UV}(hh:A.handled=none)(it l:Tk)(VH:l≠it)(items:UF SL) :
  Draws prog w A it [it,l] items.size (λi v=>items[i]? = some v) (λi h=>h.IsTupleIter it l i/\h.IsTuple l items) where
 live:=λ_ _ st=>let ⟨o,ho,_⟩:=st.1;{o,ho}
 frame:=λ_ _ _ st hk=>{st.1.at λo e=>hk it ?G o e,by let{o,e,r}:=st.2;exact{o,hk l ?G o e,r}}
 item:=λi s Q E hi st hQ=>by
  refine jz st.1 st.2 (x:=items[i]) (by simp ) λh' Zd Yt=>?_
  exact hQ _ h' s.toks (by simp ) {Zd,st.2.extBut Yt.extBut VH} Yt
 done:=λs Q E st hE=>kY hh st.1 st.2 ?G hE
set_option maxHeartbeats 1000000 in
theorem qg(l:Tk)(items:UF SL)(n:Nat)(UJ:SC Tk)(sl:UF (SC SL)) :
  Meets (Builtin.«enumerate.__new__» {[.type "enumerate",.ref l],[]}) (λ_ R s=>s.heap.get? l=some { cls:=.type "tuple",dict:=UJ,data:=.seq items n,slots:=sl } /\
   R (.ok<|.ret<|.ref (s.heap.push { cls:=.type "tuple_iterator",data:=.fields #[.ref l,.int 0 0] }).objs.size)
    { s with heap:=(s.heap.push { cls:=.type "tuple_iterator",data:=.fields #[.ref l,.int 0 0] }).push { cls:=.type "enumerate",data:=.fields #[.none,.bool false,.ref s.heap.objs.size,rawInt 0,.none,.none] } }) :=
 .of_wp λprog w A R s h=>by
  let{hp,g,d,tk,os}:=s;let{hl,h}:=h;have zbs:=sub_enumerate;have hL:Heap.IsTuple (Shared.heap {hp,g,d,tk,os}) l items:={_,hl,rfl,n,rfl}
  wp_walk using wpAny_loadPart' hl
  refine wpAny_stack_any λst=>m_ ?_
  split
  ·rename_i c _ _ _ _ _
   cases (c==Value.type "enumerate")
   ·wp_walk using wpAny_loadPart' hl,pr hL
    exact{_,rfl,h}
   ·wp_walk using wpAny_loadPart' hl,pr hL
    exact{_,rfl,h}
  ·wp_walk using wpAny_loadPart' hl,pr hL
   exact{_,rfl,h}
section
variable {prog:Tl}{w:TD}{A:UV}{E:w_}{s:SZ}
theorem ql{l:Tk}{items:UF SL}{Q:w_}(hL:s.heap.IsTuple l items)
  (h:∀h',IsEnum h' ?jD s.heap.objs.size 0 .none->h'.IsTupleIter s.heap.objs.size l 0->h'.objs.size=s.heap.objs.size+2 ->
   (∀b o,s.heap.get? b=some o->h'.get? b=some o)->Q (.ref ?jD) { s with heap:=h' }) :
  wpAny ?D A (call (.type "enumerate") [.ref l]) Q E s:=by
 let{{c,UJ,dt,sl},hl,hc,n,hd}:=hL;subst hc hd;refine callType_new F.called_enumerate ?C (F.typeCall_enumerate_1 _) (F.newCall_enumerate_1 _) (λobj=>F.args_object_init_2 obj _) F.entry_enumerate_new
  (qg l items n UJ sl) {hl,?_}
 have hz:(s.heap.push { cls:=.type "tuple_iterator",data:=.fields #[.ref l,.int 0 0] }).objs.size=s.heap.objs.size+1:=oC ..;rw[hz]
 have he:IsEnum ((s.heap.push { cls:=.type "tuple_iterator",data:=.fields #[.ref l,.int 0 0] }).push
   { cls:=.type "enumerate",data:=.fields #[.none,.bool false,.ref s.heap.objs.size,rawInt 0,.none,.none] }) ?jD s.heap.objs.size 0 .none:=by
  have:=QV (s.heap.push { cls:=.type "tuple_iterator",data:=.fields #[.ref l,.int 0 0] })
   (o:={ cls:=.type "enumerate",data:=.fields #[.none,.bool false,.ref s.heap.objs.size,rawInt 0,.none,.none] }) rfl
  grind
 refine{{_,he,rfl},h _ he {_,z_ _<|QV _ rfl,rfl,rfl} (by rw[oC,hz]) λb o x=>z_ _<|z_ _ x}
end
end PySem
namespace L3
open PySem PySem.Spec PyProof.Rows L2 L4
def Ite(K:Fg)(a:Tk):It :=
 {λi H=>∃xs x,B_ K H a xs/\xs[i]? = some x,λi H y H'=>∃p x,(∀xs,B_ K H a xs->xs[i]? = some x)/\H p=none/\y=.ref p/\H'=upd H p (.tup [.int i,x]),λi H=>∃xs,B_ K H a xs/\xs.length<=i}
theorem zc{X:Cx}{pins:C_}{Z:L2.St}{H:Hp}{s:SZ}{e it:Tk}{i:Nat}{x:V}{x':SL}{tk:Nat}{h2:Wp}(I:Inv X pins Z H s)(fe:mM X pins H e)(ft:mM X pins H it)(ru:RelV x x')
  (QY:∀b o,b≠e->b≠it->s.heap.get? b=some o->h2.get? b=some o) (TU:h2.get? s.heap.objs.size=some { cls:=.type "tuple",data:=.seq #[.int i tk,x'] }) :
  Inv X pins Z (upd H s.heap.objs.size<|.tup [.int i,x]) { s with heap:=h2,toks:=tk+1 }:=by
 refine rK (ch:=[e,it]) I (λc hc=>?_) ({tk,rfl}) ru (λb o UR q=>QY b o (λz=>UR (by rw[z];exact cr)) (λz=>UR (by rw[z];exact Sw _ cr)) q) TU
 grind
theorem CL{P:Tl}{w:TD}{K:Fg}{elts:Re TW}{x1:Nat}{pos:Pos}(a it e:Tk)(hai:a≠it)(hei:e≠it)(hea:e≠a) :
  Turn P w K (.Tuple elts x1 pos) (Ite K a) [e,it] e (λi h=>(∃old,IsEnum h e it i old)/\h.IsTupleIter it a i) where
 mem:=by simp
 obj:=λi h st b hb=>by
  let{{old,he},o,e1,c,d}:=st
  grind
 keep:=λi h h' st k=>by
  let{{old,he},ht}:=st;exact{{old,k e ?G _ he},ht.at λo e=>k it ?G o e}
 item:=by
  intro X hP hw hK hc i pins s Z H E I hf st hg;subst hP hw hK;let{xs,x,hq,hx}:=hg;let{j_,rv,p,hz}:=I.tuple hq;let{u,hu,ru}:=rv.get hx;let{{old,he},ht}:=st;have D:=DF (prog:=X.prog) (w:=X.w) (A:=X.A.in1) (I.ok.hd hc) it a hai j_.toArray;have hi:i<j_.toArray.size:=by grind
  have fe:=hf e ?G;have ft:=hf it ?G;refine wpAny_pyNext_enum_itemD D he {ht,(p)} hi hei (by simp[hei,hea]) λx' h' tk hP ho Yt hT hsz hk=>?_
  have ex:x'=u:=by
   grind
  subst ex;refine{_,rfl,wpAny_letOwnedTupleGo_enum ho λh2 he2 Z0=>?_};have hpe:=ny<|aw he;have hpi:s.heap.objs.size≠it:=by let{o,e1,_}:=ht;exact ny<|aw e1
  have QY:=λb o h1 h2' q=>(Z0.2 b h1).trans<|hk b o h1 h2' q
  have TU:=(Z0.2 _ hpe).trans hT;have I1:=zc I fe ft ru QY TU;refine{.ref s.heap.objs.size,_,I1,rfl,{_,x,λys hy=>by rw[I.RG hy hq];exact hx,I.fresh,rfl,rfl},{{_,(he2)},?_},λb hb=>?_}
  ·let{o,e1,r}:=Yt.1;exact{o,(Z0.2 it<|Ne.symm hei).trans e1,r}
  ·let rfl||hb:=List.mem_cons.mp hb
   ·rw[aQ<|Ne.symm hpe];exact fe.1
   ·rw[List.mem_singleton.mp hb,aQ<|Ne.symm hpi];exact ft.1
 done:=by
  intro X hP hw hK hc i pins s Z H E I hf st hg;subst hP hw hK;let{xs,hq,hx}:=hg;let{j_,rv,p,hz}:=I.tuple hq;let{{old,he},ht}:=st;let{g0,g1,g2,g3,g4,g5}:=hf it ?G;have hl:=rv.length;have hT:s.TypeIs (.ref e) "enumerate":={_,he,rfl}
  refine h_<|Db<|g7  hT P2
   <|im P2 hT F.entry_enumerate_next ?_<|F.args_enumerate_next_1 _
  show wpAny _ _ (field (.ref e) 2 >>= _) _ _ _;refine h_<|fi he rfl  rfl ?_;refine h_<|kY (I.ok.hd hc) ht ((p)) ?Y λh' x he' Rx=>?_;let{o,ho,Ux}:=Rx;refine h_<|Ma   {o,ho,Ux} Qh ?_;exact m_ {rfl,I.turned  (λb o hb e=>he' b o hb e) g0 g1 g3 g4 g5}
 self:=λ_ _ _ _ _ st h=>by
  let{{old,he},ht}:=st;exact Qk he h
def hJ(ds:Re D):Re D:=ds.zipIdx.map λp=>PyData.tuple [.int (p.2:Int),p.1]
theorem gK(ds:Re D):(hJ ds).length=ds.length:=by simp[hJ]
theorem CJ{K:Fg}{F:Hp}{a:Tk}{vs:Re V}{ds:Re D}(h:B_ K F a vs)(r:i_ K F vs ds):Walk K (Ite K a) (hJ ds) F where
 go:=λi G F2 Z H2 ρ s S hi=>by
  have Xn:i<vs.length:=by rw[r.length];rw[gK]at hi;exact hi
  exact{vs,vs[i],bK S.fh<|bK s h,by simp }
 VB:=λi G F2 Z H2 ρ x H3 d s S hd ⟨p,y,hy,hp,hx,hH⟩=>by
  unfold hJ at hd
  cases q:ds[i]? with
  | none=>grind
  | some d' =>
   let{v,e1,e2}:=r.get q;have:=hy vs<|bK S.fh<|bK s h;let{s2,S2,r2}:=S.Rv hp<|i_.cons (Rep.int<|i)<|i_.cons (e2.mono s) i_.nil
   grind
 stop:=λG F2 Z H2 ρ s S=>{vs,bK S.fh<|bK s h,by rw[r.length,gK];exact ac _}
def NY(K:Fg)(tl:TA):TI:=λZ H R=>tl Z H λxs H1=>∃a,xs=[.ref a]/\(∃ys,B_ K H1 a ys)/\R (Ite K a) H1
theorem HP{X:Cx}{e:TW}{tl:TA}{elts:Re TW}{x1:Nat}{tp p pos:Pos}(hg:Gl X "enumerate")(hm:X.mg "enumerate"=none)(ha:PA X [e] tl)(hs:starEach [e] X.env=[?K]) :
  PI X (.Tuple elts x1 tp) (.Call (.Name "enumerate" p) [e] [] pos) (NY X.K tl):=by
 intro pins s Z H R I h;refine nu<|gY I hg hm (show bootBuiltins "enumerate"=some (.type "enumerate") by decide +kernel) ?_ ?C ?C;refine ib (p_ ?jF λus s1 ⟨vs,H1,I1,r1,q1⟩=>?_) hs rfl;let{a,rfl,{ys,hq},q}:=q1;let{u,rfl,ru}:=L2.Vals.one r1
 cases ru
 let{j_,rv,pt,hz}:=I1.tuple hq;have alt:a<s1.heap.objs.size:=by let{o,e1,_}:=pt;exact aw e1
 refine ql ((pt)) λh' he ht hsz hk=>?_
 refine Qk  he ?_;refine{s1.heap.objs.size+1,[s1.heap.objs.size+1,s1.heap.objs.size],_,_,H1,rfl,I1.kept  hk,CL a s1.heap.objs.size (s1.heap.objs.size+1) (bu alt) (Nat.succ_ne_self _)<|ny<|wn alt,{{_,he},ht},λb hb=>?_,q};let rfl||hb:=List.mem_cons.mp hb
 ·exact I1.RJ (Qn _)<|I1.k_.fresh<|Qn _
 ·rw[List.mem_singleton.mp hb];exact I1.RJ ?jm ?jJ
end L3
namespace L4
open PySem PySem.Spec PyProof.Rows L2 L3
variable {X:Cx}{F H:Hp}{pos:Pos}{G:Gh}{Z:L2.St}{ρ:En}{p:Tk}{o:HO}
def lN:Re D->SC ?Q
 | [.tuple ds]=>some<|hJ ds
 | _=>none
section
variable {tg e:TW} {p tp:Pos} {elts:Re TW} {x1:Nat}
theorem IR{vs:Re V}{ds out:Re D}{R:It->Hp->Prop}(s:c_ F H)(r:i_ X.K F vs ds)(h:lN ds=some out)(k:∀J,Walk X.K J out F->R J H) :
  ∃a,vs=[.ref a]/\(∃ys,B_ X.K H a ys)/\R (Ite X.K a) H:=by
 unfold lN at h;split at h
 ·cases h
  let{v,rfl,r1}:=r.Te;let{a,vs,rfl,a1,a2}:=r1.QX;exact{_,rfl,{_,B_.of<|s _ _ a1},k _<|CJ (B_.of a1) a2}
 ·cases h
theorem xB{ps:Pa ?Q}(hg:Gl X "enumerate")(hm:X.mg "enumerate"=none)(ha:AA X [e] ps)(hs:starEach [e] X.env=[?K]):AI X (.Tuple elts x1 tp) (.Call (.Name "enumerate" p) [e] [] pos) (j7 lN ps) :=
 λG F Z H ρ R S w=>vP (HP hg hm cI hs) (ha G F Z H ρ _ _ _ S w λds vs F1 H1 s1 S1 _ r1 w1=>by
  let{out,hd,k}:=w1.opt
  exact IR S1.fh r1 hd ?qN)
end
def Gh.add(G:Gh)(p:Tk)(o:HO):Gh:={ G with O:=upd G.O p o }
theorem _root_.L3.b_.hold{K:Fg}(S:b_ K G F Z H ρ)(hp:H p=some o)(fp:F p=none)(ne:∀(i:Nat) (e:OC),own ρ i e->Z[i]? ≠ some (some<|V.ref p))(nt:D8 o:=by exact True.intro):b_ K (Gh.add G p o) F Z H ρ:=by
 refine{S.fh,λb u e=>?_,λb u e=>?_,S.ln,S.fz,λi c h=>?_,S.dj,S.pp,S.pq,S.fb}
 ·by_cases hb:b=p
  ·subst hb;rw[show(Gh.add G b o).O b=some o from aN]at e
   cases e;exact hp
  ·rw[show(Gh.add G p o).O b=G.O b from aQ hb]at e;exact S.oh b u e
 ·by_cases hb:b=p
  ·subst hb;rw[show(Gh.add G b o).O b=some o from aN]at e
   grind
  ·rw[show(Gh.add G p o).O b=G.O b from aQ hb]at e;exact S.fo b u e
 ·let{a,e,oa}:=S.ow i c h;refine{a,e,oa.nf,?_,oa.he};have:a≠p:=λz=>ne i c h (by rw[e,z])
  exact((aQ this)).trans oa.no
theorem _root_.L3.b_.Ul{K:Fg}(hn:G.O p=none)(S:b_ K (Gh.add G p o) F Z H ρ) :
  b_ K G F Z H ρ/\H p=some o/\F p=none/\∀(i:Nat) (e:OC),own ρ i e->Z[i]? ≠ some (some<|V.ref p):=by
 have zaY:(Gh.add G p o).O p=some o:=aN;have pj:∀b,b≠p->(Gh.add G p o).O b=G.O b:=λb hb=>aQ hb
 have nb:∀b u,G.O b=some u->b≠p:=λb u e z=>by rw[z,hn]at e;cases e
 refine{{S.fh,λb u e=>S.oh b u<|(pj b<|nb b u e).trans e,λb u e=>S.fo b u<|(pj b<|nb b u e).trans e,S.ln,S.fz,λi c h=>?_,S.dj,S.pp,S.pq,S.fb},S.oh p o zaY,(S.fo p o zaY).1,λi c h e=>?_}
 ·grind
 grind
theorem W.held{α:Type}{m:M α}{C:α->Hp->Hp->Prop}(hn:G.O p=none)(h:W X G F Z ρ m C) :
  W X (Gh.add G p o) F Z ρ m λa F' H'=>C a F' H':=by
 cases m with
 | ret a=>exact λF2 H2 s2 S2=>h F2 H2 s2 (S2.Ul hn).1
 | exc x =>
  have nb:∀b u,G.O b=some u->b≠p:=λb u e z=>by rw[z,hn]at e;cases e
  have pj:∀b u,G.O b=some u->(Gh.add G p o).O b=some u:=λb u e=>((aQ<|nb b u e)).trans e
  exact λF' H' s' a C dd pins Z g fz I xs hp xr=>h F' H' s' a C dd pins Z {g.fh,λb u e=>g.oh b u<|pj b u e,λb u e=>g.fo b u<|pj b u e,g.fb} fz I xs hp xr
 | bad=>exact h
def NA(pa:Pu ?Q)(pb:Pu D):Pu ?Q:=λρ=>bd (pa ρ) λds=>bd (pb ρ) λy=>oM<|rN (.list ds) y
theorem My{a b:TW}{pa:Pu ?Q}{pb:Pu D}(ha:AL X a pa)(hb:AO X b pb):AL X (.BinOp a .Mult b pos) (NA pa pb) :=
 λG F Z H ρ Q S w=>Rt (Fh Ld aO aO) (ha G F Z H ρ _ S (w.bind.imp λds F1 H1 s1 S1 w1 v fr=>by
  let{p,rfl,oa,ne}:=fr;let{vs,h1,h2}:=oa.he;have S1':=S1.hold h1 oa.nf ne;refine hb (Gh.add G p<|.lst vs) F1 Z H1 ρ _ S1'<|(W.held oa.no w1.bind).imp λy F2 H2 s2 S2 w2 u hu=>?_;let{S2',g1,g2,g3}:=S2.Ul oa.no;let{res,e,kk}:=w2.opt
  cases y<;>try (cases e)
  rename_i k';dsimp only[rN]at e;split at e
  case isFalse=>cases e
  rename_i hc
  cases e
  simp  [am,QS]at hc;have hi:=(hu.or S2).int;subst hi;refine{p,k',vs,rfl,rfl,g1,hc.1.1,hc.1.2,by rw[h2.length];exact hc.2,λq hq=>?_};let{S3,r3}:=S2'.P_ hq<|i_.rep (h2.mono s2) k'.toNat
  exact kk F2 _ ?I S3 _ r3))
theorem Gj:Ol X Pd:=by
 intro pins s Z H x y v u Q I rx ry h;let{p,xs,i,z,rfl,rfl,hq,he,q}:=h
 cases rx
 let{t,rfl}:=ry;let{j_,r,pl,hz}:=I.list<|QO.of hq;let{j,h1,h2,h3,h4,h5}:=qK he;let{w,ew,SX}:=r.get h2;have hl:=r.length;have hn:=kg;have fin:EP X pins Z Q w s:={z,H,I,SX,q};by_cases h0:0<=i
 ·have hj:i.toNat=j:=by
   rw[seqIndex_of h0 h5]at h1
   grind
  exact wpAny_getItem_list pl.isList h0 ?A ?Z fin
 ·have hj:(i+(j_.toArray.size)).toNat=j:=by
   rw[seqIndex_neg ?A h4]at h1
   grind
  exact wpAny_getItem_list_neg pl.isList ?A ?Z ?A ?Z fin
section
variable {S:Type} {b e:TW} {mj me:Ev S D} {pos' O_:Pos}
theorem xy{i:Nat}{x:Str}{op:Operator}{t:Zw}{f:D->D->SC D}(hN:X.N[i]? = some x)(hv:UW X.env.scope x)(ho:PIp X op t)(hf:ipD f X.K t)(hj:AE X b mj)(he:AE X e me)
  (ha:∀ov iv new,augStore b ov iv new=(do holding [new,ov,iv] (setItem ov iv new);release [new,ov,iv] [];pure .next))
  (hd:(x==("__debug__" : Str))=false:=by decide) (Ri:(x==("__classdict__" : Str))=false:=by decide):AS X (.AugAssign (.Subscript (.Name x pos') b O_) op e pos) (JF i f mj me):=λOK K G F Z H ρ E hO hX St ok eo =>
 jf (HK ?j3 aO Gj aO ho set_list ha) (by
  unfold JF at ok;split at ok
  case h_2=>exact(hO ok).elim
  rename_i ds0 hd0;let{a,ZC,ea,_,_}:=eR St hd0;refine{_,ea,hj OK K.x _ G F Z H ρ _ hO hX St ok λj u F1 H1 ρ1 s1 S1 r1 o1=>?_};split at o1
  case h_2=>exact(hO o1).elim
  rename_i ds UQ;let{a',vs,Q0,hh,rv}:=eR S1 UQ;rw[ea]at Q0;injection Q0 with Q0;injection Q0 with Q0;injection Q0 with Q0;subst Q0;let{dx,hx,o2}:=dC hO o1;have hint:∃k,j=.int k:=by
   cases j<;>first|exact{_,rfl}|cases hx
  let{k,rfl}:=hint
  cases r1
  let{v,ev,rvv}:=xu rv<|(hx);refine{a,vs,k,v,rfl,rfl,hh,ev,?_};refine he OK K.x _ G F1 Z H1 ρ1 _ hO hX S1 o2 λd w F2 H2 ρ2 s2 S2 r2 o3=>?_
  let{r,er,o4}:=dC hO o3;refine hf v w dx d r F2 H2 _ (rvv.mono s2) r2 er λz rz=>?_
  split at o4
  case h_2=>exact(hO o4).elim
  rename_i ds2 zaQ;let{a2,vs2,ZQ,hh2,Z5}:=eR S2 zaQ;rw[ea]at ZQ;injection ZQ with ZQ;injection ZQ with ZQ;injection ZQ with ZQ;subst ZQ;let{WI,hp,o5}:=dC hO o4;let{q,hq,rfl}:=Option.map_eq_some_iff.mp hp;refine{a,vs2,k,q,rfl,rfl,hh2,by rw[Z5.length];exact hq,?_}
  exact eo.nx F2 Z _ _ ?jo (mW S2 zaQ ea<|i_.set rz q Z5) o5)
end
end L4
namespace HT
open PySem PySem.Spec PyProof.Rows
section
variable {prog:Tl}{w:TD}{A:UV}{E:w_}{s:SZ}{xs:UF (Int×Tok)}{l:Tk}
theorem VS{Q:w_}(hh:A.handled=none)(hl:s.heap.IsTuple l (intItems xs))(Vg:∀j,j<xs.size->InLong (numAt xs j)/\InLong (preSum (numAt xs)<|j+1))
  (h:∀h' tk t',(∀b o,s.heap.get? b=some o->h'.get? b=some o)->Q (.int (preSum (numAt xs) xs.size) t') { s with heap:=h',toks:=tk }) :
  wpAny ?D A (call (.builtin "sum") [.ref l]) Q E s:=by
 have x_:l<s.heap.objs.size:=by let{_,e,_}:=hl;exact aw e
 refine call_sum_walk<|pr hl ?_;refine{_,_,_,_,_,_,numAt xs,rfl,Walks.tuple (A:=A.in1) hh _ l (bu x_)<|intItems xs,{{_,QV _ rfl,rfl,rfl},?_},λb hb=>?_,(λ_ _=>intItems_at),(λj hj=>Vg j (by simpa[intItems]using hj)),λh' tk t' hk=>?_}
 ·let{o,e,r}:=hl;exact{o,z_ _ e,r}
 ·rw[oC]
  grind
 ·have:=h h' tk t' λb o e=>hk b o (λhm=>by
   let e1||hm:=List.mem_cons.mp hm
   ·exact absurd (e1▸aw e)<|lf _
   ·cases hm)<|z_ _ e
  simpa[intItems]using this
end
end HT
namespace L4
open PySem PySem.Spec PyProof.Rows L2 L3
variable {X:Cx}
def fA:Re D->SC D
 | [.tuple ds]=>match intsOf ds with
  | some ns=>if qU ns then some (.int ns.sum)else none
  | none=>none
 | l=>IM l
def Cb:Re D->SC D
 | [.tuple ds]=>Gw [.tuple ds]
 | l=>LY l
theorem DN(hc:X.calm=true):l_ X (.builtin "sum") (rq X.K wO):=by
 intro pins s Z H xs us Q I r h0;let{a,ns,i,rfl,hq,e,q}:=h0;let{u,rfl,ru}:=L2.Vals.one r
 cases ru
 unfold wO at e;split at e
 case isFalse=>cases e
 rename_i k_
 cases e
 let{j_,rv,pl,hz}:=I.tuple hq;let{ps,rfl,rfl}:=fE rv;have zan:∀j,numAt ps.toArray j=(ps.map Prod.fst).getD j 0:=λj=>fW
 have X_:=funext zan;unfold qU at k_;simp![am,ir,QS]at k_;have hl:s.heap.IsTuple a (intItems ps.toArray):=by
  have:s.heap.IsTuple a _:=pl;unfold intItems;simpa using this
 have bnd:∀j,j<=ps.length->((ps.map Prod.fst).take j).sum.natAbs<=2^60:=λj hj=>by
  have h1:=sum_bound (2^40) ((ps.map Prod.fst).take j) λi hi=>k_.1 i<|List.mem_of_mem_take hi
  grind
 refine HT.VS (I.ok.hd hc) hl (λj hj=>?_) λh' tk t' hk=>?_
 ·have Xm:j<ps.length:=(hj);rw[X_,jh _ _ ?Y];have h2:((ps.map Prod.fst).getD j 0).natAbs<=2^40:=by
   grind
  unfold InLong
  grind
 ·refine{.int _,H,I.kept hk,{_,rfl},?_};rw[X_,jh _ _ ?G,Cn ?G];exact q
def JK(K:Fg):Re V->Hp->VK->Prop:=λxs H Q=>rq K wO xs H Q\/pJ K wO xs H Q
theorem dQ(hc:X.calm=true):l_ X (.builtin "sum") (JK X.K):=l_.or (DN hc)<|DO hc
def JO(K:Fg):Re V->Hp->VK->Prop:=λxs H Q=>rq K Dz xs H Q\/(pJ K Dz xs H Q\/∃i j,xs=[.int i,.int j]/\Q (.int<|if j>i then j else i) H)
theorem DX(hc:X.calm=true):l_ X (.builtin "max") (JO X.K):=l_.or (DV hc)<|(DW hc).or<|DY hc
theorem gG{K:Fg}:il K (JK K) fA:=by
 intro G F Z H ρ xs ds res Q S o e k;unfold fA at e;split at e
 ·split at e
  case h_2=>cases e
  rename_i ns WC;split at e
  case isFalse=>cases e
  rename_i hc
  cases e
  let{v,r,rfl,ho,hr}:=bN o;obtain rfl:=ci hr;let{a,vs,rfl,h1,h2}:=ho.tuple S.fh;rw[dP WC]at h2;rw[eL h2]at h1;exact .inl {a,ns,_,rfl,h1,by unfold wO;rw[ar hc],k _ F H ?I S<|(.int _)}
 ·exact .inr<|Ll G F Z H ρ xs ds res Q S o e k
theorem Ie{K:Fg}:il K (JO K) Cb:=by
 intro G F Z H ρ xs ds res Q S o e k;unfold Cb at e;split at e
 ·exact .inl<|Ic G F Z H ρ xs _ res Q S o e k
 ·exact .inr<|Lo G F Z H ρ xs ds res Q S o e k
end L4
namespace L4
open PySem PySem.Spec PyProof.Rows L2 L3 PySem.W
section
variable {prog:Tl}{w:TD}{A:UV}{E:w_}{K:Frag}{C D fI:Tk}{h:Wp}{g:UF GenState}{d:Drawn}{t:Nat}{os:OsState}{rest:Re SL}
abbrev C9(h:Wp)(C:Tk)(rest:Re SL):Wp:=(h.push { cls:=.type "tuple",data:=.seq rest.toArray }).push { cls:=.ref C,data:=.fields #[.ref h.objs.size,.none,.none,.none,.bool false,.none] }
theorem uU{b:Tk}{o:Obj}(q:h.get? b=some o):(C9 h C rest).get? b=some o:=z_ _<|z_ _ q
theorem BB:(C9 h C rest).get? (h.objs.size+1)=some { cls:=.ref C,data:=.fields #[.ref h.objs.size,.none,.none,.none,.bool false,.none] }:=by
 have z:=QV (h.push { cls:=.type "tuple",data:=.seq rest.toArray }) (o:={ cls:=.ref C,data:=.fields #[.ref h.objs.size,.none,.none,.none,.bool false,.none] }) rfl
 rwa [oC]at z
theorem wG(X:K.In h)(c:XC K C D fI){Q:Fin->SZ->Prop}(hz:rest.length<=sizeLine)
  (hq:wpAny ?D A (call (.ref fI)<|.ref (h.objs.size+1)::rest) (λr s'=>r=.none/\Q (.done<|.ret<|.ref<|h.objs.size+1) s') E {C9 h C rest,g,d,t,os}) :
  wpAny ?D A (Builtin.«type.__call__» {.ref C::rest,[]}) Q E {h,g,d,t,os}:=by
 let{nm,q,N,bs,sn,sub,ab,col,dd,k0,k1,k2,k3,k5,lk}:=c.obj;have hC:=X _ _ lk;have T:=tail_of_in X c.tl;have B:=F.excBase_ValueError
 repeat (first|with_reducible refine Ql hC ?_|with_reducible refine wpAny_madeBy_exc hC ?_|wp_step)
 refine codeAny_call_builtin_code (Code.quiet_builtin _ B.quiet)<|wpAny_check_new_subT B T hC<|codeAny_exc_new_subT B T hC ?_ hz;have X1:K.In (C9 h C rest):=X.keeps λb o z=>uU z
 have LI:=looks_findIn (M:=model prog w) X1 c.ini;have LB:=bind_fn (M:=model prog w) X1 (.ref<|h.objs.size+1) c.fn;have hC1:=uU (rest:=rest) (C:=C) hC
 repeat (first|with_reducible refine Ql BB ?_|(with_reducible refine wpAny_isSubtype_exc hC1 ?_)|wp_step)
 refine LI.at ?_;refine oP<|h_<|LB.at ?_;refine h_<|pd hq (λr s' z=>?_) λ_ _ z=>z;let{rfl,z}:=z
 wp_walk
 exact z
theorem call_exc(X:K.In h)(c:XC K C D fI){Q:w_}(hz:rest.length<=sizeLine)
  (hq:wpAny ?D (A.under<|.builtin "type.__call__" {.ref C::rest,[]}) (call (.ref fI)<|.ref (h.objs.size+1)::rest) (λr s'=>r=.none/\Q (.ref<|h.objs.size+1) s') E {C9 h C rest,g,d,t,os}) :
  wpAny ?D A (call (.ref C) rest) Q E {h,g,d,t,os}:=by
 let{nm,q,N,bs,sn,sub,ab,col,dd,k0,k1,k2,k3,k5,lk}:=c.obj;have hC:=X _ _ lk;have f1:=tc_lookup;have f2:=tc_bind<|.ref C;refine wpAny_call<|codeAny_of_tree ?_
 repeat (any_goals (first|assumption|with_reducible refine Ql hC ?_|wp_step))
 refine{rfl,codeAny_call_builtin_at (Code.quiet_builtin _ ?E) entry_typeCall<|wpAny_check_type_call_sub hC<|wG X c hz ?_};exact hq
end
end L4
namespace L4
open PySem PySem.Spec PyProof.Rows L2 L3
variable {C e:Tk}{H F:Hp}{s:SZ}{K:Fg}{E:w_}{X:Cx}{pos:Pos}{A:UV}{Z:L2.St}{w:TD}{dd:SC Tk}{pins:C_}{x n:Str}{Q:Unit->SZ->Prop}
def XN(e C:Tk)(dd:SC Tk):Wp->Prop:=λh=>∃oe vs,h.get? e=some oe/\oe.cls=.ref C/\oe.dict=dd/\oe.data=.fields vs/\1<vs.size/\vs[1]? = some .none
section
variable {P:Tl} {h h':Wp} {dx:Tk} {fs:Re (Str×V)}
theorem XN.ok{H':Hp}(x:XN e C dd h):D_ P w H' h e (.ext<|XN e C dd):=by
 let{oe,vs,q,r}:=x;exact{{oe,vs,q,r},{oe,q},λh1 h2 ⟨o,vs,z,r⟩ k=>{o,vs,k o z,r}}
end
def spI(C:Tk)(fl:Re Str):Sp:=λvs H Q _=>∃e args,vs=.ref e::args/\args.length=fl.length/\H e=some (.ext<|XN e C none) /\
 ((fl=[]/\Q .QW H)\/(fl≠[]/\∀dx,H dx=none->dx≠e->Q .QW (upd (upd H dx<|.ext<|XD dx<|fl.zip args) e<|.ext<|XN e C<|some dx)))
section
variable {P:Tl} {mg:Rm} {base:Wp} {qual:Str} {st:Uf} {f:Tk} {fd:FuncData} {k:Nat} {D:Tk} {f1 f2 q1 q2 self:Str} {a1 a2 a3 a4 b1 b2 b3 b4:Pos}
theorem NS(Fn:WN K "__init__" qual st f fd)(Sc:q_ [self] [self] ?jR)(hb:bV st=[.Pass a1]):Q6 P w K mg base ?qK (k+1) f fd [self] (spI C []):=by
 refine IJ Fn Sc (λvs H Q E h=>?_) λt_ A outer s H vs Q E hr h=>?_
 ·let{e,args,rfl,hl,_}:=h;grind
 ·let{e,args,rfl,hl,he,h}:=h;let{_,h}||{h,_}:=h
  ·rw[hb];exact{_,j5 HJ Bm,h}
  ·exact absurd rfl h
end
section
variable {M:Model} {env:Env} {D fI:Tk}
theorem xZ{x:Sem SL}{Q:Flow->SZ->Prop}(c:XC K C D fI)(hh:A.handled=none)
  (h:wpAny M A x (λv s1=>∃e oe vs,v=.ref e/\K.In s1.heap/\s1.heap.get? e=some oe/\oe.cls=.ref C/\oe.data=.fields vs/\vs[1]? = some .none/\E (.ref e) s1) E s) :
  wpAny M A (raiseStmt env (some x) none) Q E s:=by
 let{nm,q,N,bs,sn,sub,ab,col,dd,k0,k1,k2,k3,k5,lk}:=c.obj;refine h_<|pd h (λv s1 z=>?_) λ_ _ z=>z;let{e,oe,vs,rfl,X,he,hc,hd,h1,hE}:=z;have hC:=X _ _ lk
 repeat (first|(with_reducible rw[hc])|with_reducible refine Ql hC ?_|(with_reducible refine wpAny_isSubtype_exc hC ?_)|with_reducible refine fi he hd h1 ?_|wp_step)
 exact wpAny_raiseNew_none hh hE
end
def MadeX(H H':Hp)(e C:Tk)(fl:Re Str)(vs:Re V)(dd:SC Tk):Prop :=
 (fl=[]/\dd=none/\H'=upd H e (.ext<|XN e C none))\/(fl≠[]/\∃dx,dd=some dx/\H dx=none/\dx≠e/\H'=upd (upd (upd H e<|.ext<|XN e C none) dx<|.ext<|XD dx<|fl.zip vs) e (.ext<|XN e C<|some dx))
section
variable {D fI:Tk} {fd:FuncData} {ps fl:Re Str} {k:Nat} {us:Re SL} {vs:Re V} {Q:w_}
theorem Gc(I:Inv X pins Z H s):Inv X pins Z (upd H ?jD<|.ext<|XN ?jD C none) { s with heap:=C9 s.heap C us }:=by
 have I1:=I.kept (h':=s.heap.push { cls:=.type "tuple",data:=.seq us.toArray }) (t':=s.toks) λb u q=>z_ _ q
 refine I1.laid    (λb u q=>z_ _ q) (Nat.le_of_eq<|oC _ _) ?_;exact XN.ok {_,_,BB,rfl,rfl,rfl,(show 1<6 from by decide),rfl}
theorem CS(c:XC X.K C D fI)(Fn:Q6 X.prog X.w X.K X.mg X.base (R3 X.prog X.w) k fI fd ps (spI C fl))(hr:y_ (k+1) X.A)(hb:L2.Binds X.K fd ps [])(I:Inv X pins Z H s)(r:Vals vs us)(hl:vs.length=fl.length)(hz:us.length<=sizeLine)
  (h:∀e dd H' s',s.heap.objs.size<=e->Inv X pins Z H' s'->MadeX H H' e C fl vs dd->H' e=some (.ext<|XN e C dd)->Q (.ref e) s'):wpAny ?B X.A (call (.ref C) us) Q E s:=by
 have I2:=Gc (C:=C) (us:=us) I;let{hp,g,d,t,os}:=s;have sp:∀E',spI C fl (V.ref ?jA::vs) (upd H ?jA<|.ext<|XN ?jA C none) (λv H'=>v=.QW/\∃dd,MadeX H H' ?jA C fl vs dd/\H' ?jA=some (.ext<|XN ?jA C dd)) E':=by
  intro E';refine{_,vs,rfl,hl,aN,?_};by_cases z:fl=[]
  ·exact .inl {z,rfl,none,.inl {z,rfl,rfl},aN}
  ·exact .inr {z,λdx q ne=>{rfl,some dx,.inr {z,dx,rfl,by rw[aQ ne]at q;exact q,ne,rfl},aN}}
 have r2:Vals (V.ref ?jA::vs) (Value.ref ?jA::us):=.cons rfl r;have hl2:((Value.ref ?jA::us)++[]).length=ps.length:=by
  have e:=r2.length;rw[Fn.len _ _ _ _<|sp λ_ _ _=>False]at e
  grind
 refine call_exc I.S8 c hz (wpAny_call (QB (Fn.run _ X.stack _ _ {Value.ref ?jA::us,[]} (Value.ref ?jA::us) _ _ (λ_ _ _=>False) (hr.make C us []) (I2.zaq.make C us []) (by
  have:=hb _ (Value.ref ?jA::us) I2.S8 hl2
  grind) r2<|sp _) λr s' q=>?_))
 cases r with
 | error e=>let{_,_,_,_,_,_,_,_,_,_,z}:=q;exact z.elim
 | ok fl' =>
  cases fl' with
  | ret u =>
   let{v,H',I3,rv,ev,dd,mk,he}:=I2.after q;subst ev;exact{rv,h _ dd H' s' (Qn _) I3 mk he}
  | next=>exact False.elim q
  | brk=>exact False.elim q
  | cont=>exact False.elim q
end
structure CCl(P:Tl)(w:TD)(K:Fg)(mg:Rm)(base:Wp)(x:Str)(k:Nat)(fl:Re Str):Prop where
 ex:∃C D fI fd ps,XC K C D fI/\Q6 P w K mg base ?qK k fI fd ps (spI C fl)/\L2.Binds K fd ps []/\mg x=some (.ref C)/\XQ K C x/\PySem.W.keepIn K (.ref C)=true/\(∀f∈fl,tV K C f)/\PySem.W.exmOne K (.ref C) (.ref C)=some true
def Hu{S:Type}(x:Str):SM S:=λK ρ=>K.x {x,[]} ρ
theorem Ha:∀{fl:Re Str} {vs:Re V} {ds:Re D},i_ K F vs ds->fl.length=vs.length->Paired (λ(p:Str×V) (q:Str×D)=>p.1=q.1/\Rep K F p.2 q.2) (fl.zip vs) (fl.zip ds)
:=by
 intro fl vs ds r h
 induction vs generalizing fl ds with
 | nil=>cases r;rw[List.zip_nil_right,List.zip_nil_right];exact .nil
 | cons v vs ih=>cases r with
  | cons a b=>cases fl with
   | nil=>cases h
   | cons f fl=>exact .cons {rfl,a}<|ih b<|Nat.succ.inj h
section
variable {H':Hp} {fl:Re Str} {vs:Re V} {ds:Re D} {G:Gh} {ρ:En}
theorem EY(I:Inv X pins Z H' s)(hs:X.s₀.heap.objs.size<=e)(hn:H e=none)(mk:MadeX H H' e C fl vs dd)(he:H' e=some (.ext<|XN e C dd))(St:b_ X.K G F Z H ρ)(r:i_ X.K F vs ds)(hl:fl.length=vs.length)
  (hc:XQ X.K C x) (xw:XW X G F ρ {x,fl.zip ds}):X.xe (.ref e) s:=by
 let{{oe,ws,q1,q2,q3,q4,q5,q6},_}:=I.k_ e _ he;have I2:=by
  have:=I.write     (t':=s.toks) (by rw[he];exact True.intro) (.inl rfl) (λb u _ z=>z) {_,q1} (XO.ok {oe,q1,q2,q3,by unfold PySem.W.notCls;rw[q4]});exact this
 have low:∀b u,b≠e->H b=some u->upd H' e (.ext<|XO e C dd) b=some u:=λb u ne z=>by
  let{_,_,rfl}||{_,dx,_,hd,_,rfl}:=mk
  ·grind
  grind
 have ne:∀b u,H b=some u->b≠e:=λb u z y=>by subst y;rw[hn]at z;cases z
 have xs:XS (upd H' e<|.ext<|XO e C dd) s.heap X.s₀.heap.objs.size e C dd:={hs,aN,oe,ws,q1,q2,q3,q4,q5,.inl q6};have nt:∀b,¬ lD s.heap e b:=λb ⟨oe',Xw,z1,z2,z3⟩=>by
  grind
 have fh0:=λb u z=>low b u (ne b u<|St.fh b u z)<|St.fh b u z
 have oh0:=λb u z=>low b u (ne b u<|St.oh b u z)<|St.oh b u z
 let{z,rfl,_}||{z,dx,rfl,hd,nx,rfl}:=mk
 ·subst z;refine xw F _ s e C none pins Z {fh0,oh0,St.fo,St.fb} (St.zao ?I) I2 xs (λp _=>nt p.1) {hc,[],.inl {rfl,rfl},.nil}
 ·have fd:=St.fh.free hd;have sm:c_ F (upd F dx<|.ext<|XD dx<|fl.zip vs):=cx fd;refine xw (upd F dx<|.ext<|XD dx<|fl.zip vs) _ s e C (some dx) pins Z {λb u z=>?_,oh0,λb u z=>?_,St.fb.trans sm} (St.zao sm) I2 xs (λp _=>nt p.1) {hc,_,.inr {dx,rfl,aN},Ha (r.mono sm) hl}
  ·grind
  grind
end
section
variable {S:Type} {k:Nat} {fl:Re Str} {p u_:Pos} {e:TW} {es:Re TW} {ms:Ev S ?Q}
theorem D4(C:CCl X.prog X.w X.K X.mg X.base x k [])(hr:y_ (k+1) X.A)(hg:Gl X x)(Sf:(x==("__debug__" : Str))=false) :
  AS (S:=S) X (.Raise (some<|.Call (.Name x p) [] [] u_) none pos) (Hu x):=by
 let{Cl,D,fI,fd,ps,c,Fn,hb,hm,hc,kp,_}:=C.ex;intro OK K G F Z H ρ E hO hX St ok eo;unfold jM;intro pins s I;refine h_<|P6<|xZ c hr.hd ?_;refine h_<|pd (nu<|nF I hg hm (PySem.W.callWith_K0 I.S8 kp  ?_) Sf) (λv s3 z=>h_<|P6<|m_ z) λ_ _ z=>z;refine CS   c Fn hr hb I .nil rfl ?X λa dd H2 s2 hs I2 mk hh=>?_
 let{{oe,ws,q1,q2,q3,q4,q5,q6},_}:=I2.k_ a _ hh;exact{a,oe,ws,rfl,I2.S8,q1,q2,q4,q6,EY   I2 (bj I.sz hs) (I.k_.fresh hs) mk hh St .nil rfl hc<|hX F ρ _ ok}
end
section
variable {prog:Tl} {env:Env}
theorem Dy{t:TW}{b0:Uf}{R8:Re Uf}{rest:Re ExceptHandler}{Q:Flow->SZ->Prop}
  (h:wpAny ?D (A.mark<|some<|.ref e) (eval t env) (λc s1=>K.In s1.heap/\PySem.W.exmOne K (.ref C) c=some true/\(∃oe,s1.heap.get? e=some oe/\oe.cls=.ref C) /\
   wpAny ?D (A.mark<|some<|.ref e) (setFlight (.ref e) none) (λ_ s2=>wpAny ?D (A.mark<|some<|.ref e) (storeName env n<|.ref e) (λ_ s3 =>
    wpAny ?D (A.mark<|some<|.ref e) (execs (b0::R8) env) (λf s4=>wpAny ?D A (do bindName env n .none;unbindBehindTheSuite env n pos) (λ_ s5=>Q f s5) E s4) ?jN s3) ?jN s2) ?jN s1) ?jN s) :
  wpAny ?D A (handleBy (.ref e) env<|.ExceptHandler (some t) (some n) (b0::R8) pos::rest) Q E s:=by
 refine wpAny_handleBy_cons (codeAny_handlers_test<|pd h (λc s1 z=>?_) λ_ _ z=>z.elim) ?jd;let{X,hx,{oe,he,hc},k}:=z;have LT:PySem.W.Looks ?D s1.heap (typeOf<|.ref e) (.ref C):=hc▸(PySem.W.Looks.ld he).andThen .now;refine(PySem.W.exm_one  X LT hx).at ?_;refine codeAny_handlers_suite_as<|pd k (λ_ s2 k2=>pd k2 (λ_ s3 k3=>pd k3 (λf s4 k4=>k4) λ_ _ z=>z.elim) λ_ _ z=>z.elim) λ_ _ z=>z.elim
theorem name_goes{m:Rm}(hl:env.kindOf n=some .local)(hn:s.heap.Ns env.locals m)(hk:env.scope.kind=.function)
  (k:∀h' v t',h'.Ns env.locals (λy=>if y=n then v else m y)->Heap.SameBut env.locals s.heap h'->Q () { s with heap:=h',toks:=t' }):wpAny ?D A (do bindName env n .none;unbindBehindTheSuite env n pos) Q E s:=by
 have hc:(env.scope.kind==.class||(env.scope.kind==.module&&env.locals != env.globals))=false:=by rw[hk];rfl
 refine h_<|wpAny_bindName<|wpAny_storeName_local hl hn (λh1 n1 b1=>?_) hc;refine Qr<|h_<|wpAny_point<|h_ ?_;unfold deleteName;simp  [hl,hc];refine h_<|wpAny_nsDel_keeps n1 λh2 v n2 b2=>?_;simp;refine m_<|wpAny_point<|k h2 v _ ?_<|b1.trans b2
 grind
end
section
variable {j:Nat}
theorem IF(I:Inv X pins Z H s)(hN:X.N.Nodup)(hj:X.N[j]? = some n)(hl:X.env.kindOf n=some .local)
  (k:∀s',Inv X pins (Z.set j none) H s'->Q () s'):wpAny ?B A (do bindName X.env n .none;unbindBehindTheSuite X.env n pos) Q E s:=by
 let{m,hn,hv}:=id I.loc;refine name_goes hl hn I.ok.kind λh' v t' n1 b1=>k _ ?_
 have neL:∀b o,X.s₀.heap.get? b=some o->b≠X.env.locals:=λb o q=>bu<|bo (aw q) I.ok.above
 refine{I.ok,I.os,I.bare,{λb o q z hb hx=>?_,λb o q z hb hx=>?_,I.base.free,λb o q hx=>?_,I.base.SA,I.base.Sk,I.base.SW},{_,n1,λi x u q1 q2 q3=>?_},λx c q=>?_,I.free,I.QZ,λp hp=>?_,λb o q=>?_,by simpa using I.len}
 ·exact(b1.2 b<|neL b o q).trans<|I.base.keep b o q z hb hx
 ·let{sl,r}:=I.base.slot b o q z hb hx;exact{sl,(b1.2 b<|neL b o q).trans r}
 ·let{o',r}:=I.base.there b o q hx;exact{o',(b1.2 b<|neL b o q).trans r}
 ·have ne:i≠j:=λz=>by
   subst z;have hi:i<Z.length:=by rw[I.len];exact(List.getElem?_eq_some_iff.mp q1).1
   rw[di hi]at q2
   cases q2
  rw[be<|Ne.symm ne]at q2;let{w',r,l}:=hv i x u q1 q2 q3;refine{w',r,?_};let{l1,l2}||{l1,c,l2,l3}:=l
  ·refine .inl {l1,?_};have nx:x≠n:=λz=>by subst z;exact ne<|rV hN q1 hj
   grind
  ·refine .inr {l1,c,l2,?_};let{oc,g1,g2}:=l3;exact{oc,(b1.2 c<|I.Zs x c l2).trans g1,g2}
 ·let{v',oc,g1,g2}:=I.cell x c q;exact{v',oc,(b1.2 c<|I.Zs x c q).trans g1,g2}
 ·let{g1,g2,g3,g4}:=I.pin p hp;exact{(b1.2 p.1 g3).trans g1,g2,g3,g4}
 ·refine(I.k_ b o q).Tq (λc u hc r=>(b1.2 c ?_).trans r) (λ_ r=>r) λ_ _ r=>r
  rintro rfl;let z||z:=hc
  ·rw[<-z,I.free]at q;cases q
  ·rw[I.free]at z;cases z
abbrev cau(X:Cx)(e:Tk):Cx:={ X with A:=X.A.mark (some<|.ref e),calm:=false,xe:=λ_ _=>False }
theorem vh(I:Inv X pins Z H s):Inv (cau X e) pins Z H s :=
 {{I.ok.mod,I.ok.kind,I.ok.glob,I.ok.blt,I.ok.above,I.ok.inj,I.ok.has,I.ok.cab,?jd,I.ok.frames,I.ok.Xk,I.ok.exf,I.ok.bs,I.ok.YA,I.ok.VZ,I.ok.Wn,I.ok.Sj,I.ok.Zl},I.os,I.bare,I.base,I.loc,I.cell,I.free,I.QZ,I.pin,I.k_,I.len}
theorem Ax(h:X.calm=true->X.A.handled=none)(I:Inv (cau X e) pins Z H s):Inv X pins Z H s :=
 {{I.ok.mod,I.ok.kind,I.ok.glob,I.ok.blt,I.ok.above,I.ok.inj,I.ok.has,I.ok.cab,h,I.ok.frames,I.ok.Xk,I.ok.exf,I.ok.bs,I.ok.YA,I.ok.VZ,I.ok.Wn,I.ok.Sj,I.ok.Zl},I.os,I.bare,I.base,I.loc,I.cell,I.free,I.QZ,I.pin,I.k_,I.len}
end
section
variable {M:Model} {lo:Nat}
theorem flight_again(fs:Re Tk)(xs:XS H s.heap lo e C dd)(k:∀h',Mv fs s.heap h' e->XS H h' lo e C dd->Q () { s with heap:=h' }):wpAny M A (setFlight (.ref e) none) Q E s:=by
 let{oe,vs,he,hc,hdd,hd,hz,tb}:=xs.obj;let tb||{T,oT,ts,tb,hTe,hTl,hTn,hT,ZL,t3}:=tb
 ·refine h_<|fi he hd tb ?_;exact m_<|k s.heap {λ_ _ q _ _ _=>q,λb o q _ _=>{o.slots,q},λb o q=>{o,q}} xs
 ·refine h_<|fi he hd tb ?_;have z3:=(Array.getElem?_eq_some_iff.mp t3).1;have VG:lD s.heap e T:={oe,vs,he,hd,tb};have off:∀b,b≠T->(s.heap.update T (Obj.mapFields (·.setIfInBounds 3<|(none).elim Value.none λf=>rawInt f))).get? b=s.heap.get? b:=λb hb=>ug _ _<|Ne.symm hb
  have T0:(s.heap.update T (Obj.mapFields (·.setIfInBounds 3<|(none).elim Value.none λf=>rawInt f))).get? T=some (oT.mapFields (·.setIfInBounds 3<|(none).elim Value.none λf=>rawInt f)):=su _ hT<|wS<|ig ZL _;have nt:∀b,¬ lD s.heap e b->b≠T:=λb z q=>z<|q▸VG
  refine wP hT ZL z3 (k _ {λb o q _ _ z=>(off b<|nt b z).trans q,λb o q _ z=>{o.slots,(off b<|nt b z).trans q},λb o q=>?_} {xs.yg,xs.VE,oe,vs,(off e<|Ne.symm hTe).trans he,hc,hdd,hd,hz,.inr {T,_,_,tb,hTe,hTl,hTn,T0,ig ZL _,by simp[z3]}})
  grind
end
theorem _root_.L3.b_.YU{G:Gh}{ρ:En}(S:b_ K G F Z H ρ){j:Nat}(hj:∀av,ρ[j]? ≠ some (some av))(u:SC V):b_ K G F (Z.set j u) H ρ:=by
 have ne:∀i av,ρ[i]? = some (some av)->i≠j:=λi av q z=>by subst z;exact hj av q
 have at_:∀i av,ρ[i]? = some (some av)->(Z.set j u)[i]? = Z[i]?:=λi av q=>be<|Ne.symm<|ne i av q
 have ao:∀i c,own ρ i c->(Z.set j u)[i]? = Z[i]?:=λi c q=>by let q||q:=q<;>exact at_ i _ q
 refine{S.fh,S.oh,S.fo,by simpa using S.ln,λi d q=>by rw[at_ i _ q];exact S.fz i d q,λi c q=>by rw[ao i c q];exact S.ow i c q,λi k c e a q1 q2 z1 z2=>?_,λi a q=>?_,S.pq,S.fb}
 ·rw[ao i c q1]at z1;rw[ao k e q2]at z2;exact S.dj i k c e a q1 q2 z1 z2
 ·let{z1,c,z2}:=S.pp i a q;exact{by rw[at_ i _ z2];exact z1,c,z2}
theorem av(i:Nat)(hN:X.N[i]? = some x:=by rfl)(hv:UW X.env.scope x:=by exact vi rfl)
  (hd:(x==("__debug__" : Str))=false:=by decide) (Ri:(x==("__classdict__" : Str))=false:=by decide):AP X (.Name x pos) (K7 i):=Mw hN hv hd Ri
theorem g_(i:Nat)(hN:X.N[i]? = some x:=by rfl)(hv:UW X.env.scope x:=by exact vi rfl)
  (hd:(x==("__debug__" : Str))=false:=by decide) (Ri:(x==("__classdict__" : Str))=false:=by decide):AO X (.Name x pos) (K7 i):=ao<|av i hN hv hd Ri
end L4
namespace L3
open PySem PySem.Spec PyProof.Rows L2 L4
variable {K:Fg}
theorem jc{F F':Hp}{a:Tk}{vs:Re V}(s:c_ F F')(h:QO K F a vs):QO K F' a vs:=s.seq h
def Js(K:Fg)(a:Tk):It :=
 {λi H=>∃xs x,QO K H a xs/\xs[i]? = some x,λi H y H'=>∃p x,(∀xs,QO K H a xs->xs[i]? = some x)/\H p=none/\y=.ref p/\H'=upd H p (.tup [.int i,x]),λi H=>∃xs,QO K H a xs/\xs.length<=i}
theorem zC{P:Tl}{w:TD}{elts:Re TW}{x1:Nat}{pos:Pos}(a it e:Tk)(hai:a≠it)(hei:e≠it)(hea:e≠a) :
  Turn P w K (.Tuple elts x1 pos) (Js K a) [e,it] e (λi h=>(∃old,IsEnum h e it i old)/\h.IsListIter it a i) where
 mem:=by simp
 obj:=λi h st b hb=>by
  let{{old,he},o,e1,c,d}:=st
  grind
 keep:=λi h h' st k=>by
  let{{old,he},ht}:=st;exact{{old,k e ?G _ he},ht.at λo e=>k it ?G o e}
 item:=by
  intro X hP hw hK hc i pins s Z H E I hf st hg;subst hP hw hK;let{xs,x,hq,hx}:=hg;let{j_,rv,p,hz}:=I.list hq;let{u,hu,ru}:=rv.get hx;let{{old,he},ht}:=st;have D:=Draws.list (prog:=X.prog) (w:=X.w) (A:=X.A.in1) (I.ok.hd hc) it a hai j_.toArray;have hi:i<j_.toArray.size:=by grind
  have fe:=hf e ?G;have ft:=hf it ?G;refine wpAny_pyNext_enum_itemD D he {ht,p.isList} hi hei (by simp[hei,hea]) λx' h' tk hP ho Yt hT hsz hk=>?_
  have ex:x'=u:=by
   grind
  subst ex;refine{_,rfl,wpAny_letOwnedTupleGo_enum ho λh2 he2 Z0=>?_};have hpe:=ny<|aw he;have hpi:s.heap.objs.size≠it:=by let{o,e1,_}:=ht;exact ny<|aw e1
  have QY:=λb o h1 h2' q=>(Z0.2 b h1).trans<|hk b o h1 h2' q
  have TU:=(Z0.2 _ hpe).trans hT;have I1:=zc I fe ft ru QY TU;refine{.ref s.heap.objs.size,_,I1,rfl,{_,x,λys hy=>by rw[I.U9 hy hq];exact hx,I.fresh,rfl,rfl},{{_,(he2)},?_},λb hb=>?_}
  ·let{o,e1,r}:=Yt.1;exact{o,(Z0.2 it<|Ne.symm hei).trans e1,r}
  ·let rfl||hb:=List.mem_cons.mp hb
   ·rw[aQ<|Ne.symm hpe];exact fe.1
   ·rw[List.mem_singleton.mp hb,aQ<|Ne.symm hpi];exact ft.1
 done:=by
  intro X hP hw hK hc i pins s Z H E I hf st hg;subst hP hw hK;let{xs,hq,hx}:=hg;let{j_,rv,p,hz}:=I.list hq;let{{old,he},ht}:=st;let{g0,g1,g2,g3,g4,g5}:=hf it ?G;have hl:=rv.length;have hT:s.TypeIs (.ref e) "enumerate":={_,he,rfl}
  refine h_<|Db<|g7  hT P2
   <|im P2 hT F.entry_enumerate_next ?_<|F.args_enumerate_next_1 _
  show wpAny _ _ (field (.ref e) 2 >>= _) _ _ _;refine h_<|fi he rfl  rfl ?_;refine h_<|wpAny_nextOf_list_end (I.ok.hd hc) ht p.isList ?Y λh' x he' Rx=>?_;let{o,ho,Ux}:=Rx;refine h_<|Ma   {o,ho,Ux} Qh ?_;exact m_ {rfl,I.turned  (λb o hb e=>he' b o hb e) g0 g1 g3 g4 g5}
 self:=λ_ _ _ _ _ st h=>by
  let{{old,he},ht}:=st;exact Qk he h
theorem zy{F:Hp}{a:Tk}{vs:Re V}{ds:Re D}(h:QO K F a vs)(r:i_ K F vs ds):Walk K (Js K a) (hJ ds) F where
 go:=λi G F2 Z H2 ρ s S hi=>by
  have Xn:i<vs.length:=by rw[r.length];rw[gK]at hi;exact hi
  exact{vs,vs[i],jc S.fh<|jc s h,by simp }
 VB:=λi G F2 Z H2 ρ x H3 d s S hd ⟨p,y,hy,hp,hx,hH⟩=>by
  unfold hJ at hd
  cases q:ds[i]? with
  | none=>grind
  | some d' =>
   let{v,e1,e2}:=r.get q;have:=hy vs<|jc S.fh<|jc s h;let{s2,S2,r2}:=S.Rv hp<|i_.cons (Rep.int<|i)<|i_.cons (e2.mono s) i_.nil
   grind
 stop:=λG F2 Z H2 ρ s S=>{vs,jc S.fh<|jc s h,by rw[r.length,gK];exact ac _}
def LO(K:Fg)(tl:TA):TI:=λZ H R=>tl Z H λxs H1=>∃a,xs=[.ref a]/\(∃ys,QO K H1 a ys)/\R (Js K a) H1
theorem Fe{X:Cx}{e:TW}{tl:TA}{elts:Re TW}{x1:Nat}{tp p pos:Pos}(hg:Gl X "enumerate")(hm:X.mg "enumerate"=none)(ha:PA X [e] tl)(hs:starEach [e] X.env=[?K]) :
  PI X (.Tuple elts x1 tp) (.Call (.Name "enumerate" p) [e] [] pos) (LO X.K tl):=by
 intro pins s Z H R I h;refine nu<|gY I hg hm (show bootBuiltins "enumerate"=some (.type "enumerate") by decide +kernel) ?_ ?C ?C;refine ib (p_ ?jF λus s1 ⟨vs,H1,I1,r1,q1⟩=>?_) hs rfl;let{a,rfl,{ys,hq},q}:=q1;let{u,rfl,ru}:=L2.Vals.one r1
 cases ru
 let{j_,rv,pt,hz}:=I1.list hq;have alt:a<s1.heap.objs.size:=by let{o,e1,_}:=pt.isList;exact aw e1
 refine call_enumerate_list pt.isList λh' he ht hsz hk=>?_
 refine Qk  he ?_;refine{s1.heap.objs.size+1,[s1.heap.objs.size+1,s1.heap.objs.size],_,_,H1,rfl,I1.kept  hk,zC a s1.heap.objs.size (s1.heap.objs.size+1) (bu alt) (Nat.succ_ne_self _)<|ny<|wn alt,{{_,he},ht},λb hb=>?_,q};let rfl||hb:=List.mem_cons.mp hb
 ·exact I1.RJ (Qn _)<|I1.k_.fresh<|Qn _
 ·rw[List.mem_singleton.mp hb];exact I1.RJ ?jm ?jJ
end L3
namespace L4
open PySem PySem.Spec PyProof.Rows L2 L3
variable {X:Cx}{pos p1 p2:Pos}{K:Fg}{F H:Hp}{e:TW}{c x:Str}{ts:Re TW}{Z:L2.St}{cs:Re Str}
def sN:Re D->SC ?Q
 | [.list ds]=>some<|hJ ds
 | _=>none
section
variable {tg:TW} {p tp:Pos} {elts:Re TW} {x1:Nat}
theorem GB{vs:Re V}{ds out:Re D}{R:It->Hp->Prop}(s:c_ F H)(r:i_ X.K F vs ds)(h:sN ds=some out)(k:∀J,Walk X.K J out F->R J H) :
  ∃a,vs=[.ref a]/\(∃ys,QO X.K H a ys)/\R (Js X.K a) H:=by
 unfold sN at h;split at h
 ·cases h
  let{v,rfl,r1}:=r.Te;let{a,vs,rfl,a1,a2}:=r1.lst_inv;exact{_,rfl,{_,s.seq a1},k _<|zy a1 a2}
 ·cases h
theorem GZ{ps:Pa ?Q}(hg:Gl X "enumerate")(hm:X.mg "enumerate"=none)(ha:AA X [e] ps)(hs:starEach [e] X.env=[?K]):AI X (.Tuple elts x1 tp) (.Call (.Name "enumerate" p) [e] [] pos) (j7 sN ps) :=
 λG F Z H ρ R S w=>vP (Fe hg hm cI hs) (ha G F Z H ρ _ _ _ S w λds vs F1 H1 s1 S1 _ r1 w1=>by
  let{out,hd,k}:=w1.opt
  exact GB S1.fh r1 hd ?qN)
end
def g6(tb:Re ?j4):D->SC Bool
 | .dict ((.none,.str c)::_)=>tb.lookup c
 | _=>none
def yk(tb:Re ?j4)(p:Pu D):Pu Bool:=λρ=>bd (p ρ) λd=>oM<|g6 tb d
def RT(K:Fg)(cv:SL):Re ?j4->Prop
 | []=>True
 | (c,b)::r=>(∃C,PySem.W.nsIn K mainGlobals c=some (some<|.ref C)/\PySem.W.kitOne K (.ref C) cv=some b)/\RT K cv r
def SU(K:Fg)(j_:Re SL):Re ?j4->Prop
 | []=>True
 | (c,b)::r=>(∃C,PySem.W.nsIn K mainGlobals c=some (some<|.ref C)/\PySem.W.kitAny K (.ref C) j_=some b)/\SU K j_ r
theorem RT.at{K:Fg}{cv:SL}:∀{tb:Re ?j4} {c:Str} {b:Bool} {C:Tk},RT K cv tb->tb.lookup c=some b->PySem.W.nsIn K mainGlobals c=some (some<|.ref C)->PySem.W.kitOne K (.ref C) cv=some b
 | (d,b')::r,c,b,C,h,l,n=>by
  rw[Qx]at l
  cases q:c==d with
  | true =>
   let{{C',n',k},_}:=h
   grind
  | false=>rw[q]at l;exact RT.at h.2 l n
theorem SU.at{K:Fg}{j_:Re SL}:∀{tb:Re ?j4} {c:Str} {b:Bool} {C:Tk},SU K j_ tb->tb.lookup c=some b->PySem.W.nsIn K mainGlobals c=some (some<|.ref C)->PySem.W.kitAny K (.ref C) j_=some b
 | (d,b')::r,c,b,C,h,l,n=>by
  rw[Qx]at l
  cases q:c==d with
  | true =>
   let{{C',n',k},_}:=h
   grind
  | false=>rw[q]at l;exact SU.at h.2 l n
theorem Gy{v:V}{es:Re ?N}(r:Rep K F v (.dict<|(.none,.str c)::es)):∃a C dd fv,v=.ref a/\F a=some (.ext<|XO a C dd)/\XQ K C c/\FX F dd fv/\es.map (·.1)=fv.map (λp=>.str p.1)/\i_ K F (fv.map (·.2)) (es.map (·.2)):=by
 cases r with
 | UJ _ h _=>exact absurd (wK h) (by simp[mB])
 | Yz _ h _=>exact absurd (wL h) (by simp[mB])
 | exc h1 q fx h2 h3=>exact{_,_,_,_,rfl,h1,q,fx,h2,h3}
theorem FX.xat{a C:Tk}{dd:SC Tk}{fv:Re (Str×V)}(s:c_ F H)(h1:F a=some (.ext<|XO a C dd))(fx:FX F dd fv):XAt H a C dd:={s _ _ h1,λdx z=>by
 let{z',_}||{dx',z',y}:=fx
 ·rw[z']at z;cases z
 ·rw[z']at z;cases z;exact{_,s _ _ y}}
def KQ(K:Fg)(tb:Re ?j4)(vc:V):Re V->Hp->VK->Prop:=λxs H Q=>∃v d b,xs=[v,vc]/\Rep K H v d/\g6 tb d=some b/\Q (.bl b) H
def KP(K:Fg)(tb:Re ?j4)(vcs:Re V):Re V->Hp->VK->Prop:=λxs H Q=>∃v p d b,xs=[v,.ref p]/\H p=some (.tup vcs)/\Rep K H v d/\g6 tb d=some b/\Q (.bl b) H
theorem u9{tb:Re ?j4}{d:D}{b:Bool}(h:g6 tb d=some b):∃c es,d=.dict ((.none,.str c)::es)/\tb.lookup c=some b:=by
 unfold g6 at h
 grind
theorem AF{tb:Re ?j4}{vc:V}{cv:SL}(hv:RelV vc cv)(hu:∀u,RelV vc u->u=cv)(ht:RT X.K cv tb):l_ X (.builtin "isinstance") (KQ X.K tb vc):=by
 intro pins s Z H xs us Q I r h;let{v,d,b,rfl,rp,hb,q}:=h;let{u,w,rfl,ru,SX}:=vals2 r;have:=hu w SX;subst this;let{c,es,rfl,hl}:=u9 hb;let{a,C,dd,fv,rfl,h1,xq,fx,_,_}:=Gy rp
 cases ru
 let{D,fI,xc}:=xq.xc;exact sH I xc xq.kc (fx.xat ?I h1) (ht.at hl xq.ns) λtk=>{.bl _,H,I.tok tk,rfl,q}
theorem AD{tb:Re ?j4}{vcs:Re V}{j_:Re SL}(hu:∀us,Vals vcs us->us=j_)(ht:SU X.K j_ tb):l_ X (.builtin "isinstance") (KP X.K tb vcs):=by
 intro pins s Z H xs us Q I r h;let{v,p,d,b,rfl,hp,rp,hb,q}:=h;let{u,w,rfl,ru,SX}:=vals2 r
 cases SX
 let{c,es,rfl,hl}:=u9 hb;let{a,C,dd,fv,rfl,h1,xq,fx,_,_}:=Gy rp
 cases ru
 let{D,fI,xc}:=xq.xc;let{Sb,rv,{o,e1,e2,n',e3},hz}:=I.tuple<|B_.of hp;have:=hu Sb rv;subst this;let{cl,d1,da,sl}:=o;subst e2 e3;exact yQ I xc xq.kc (fx.xat ?I h1) e1 (ht.at hl xq.ns) λtk=>{.bl _,H,I.tok tk,rfl,q}
def tCs:Re V->TA
 | []=>Hn
 | v::r=>Ew (tC v)<|tCs r
theorem Eu{Z:L2.St}{H:Hp}:∀{vs:Re V} {Q:Re V->Hp->Prop},Q vs H->tCs vs Z H Q
 | [],Q,h=>h
 | v::r,Q,h=>by
  show tCs r Z H λys H2=>Q (v::ys) H2
  exact Eu h
section
variable {t:TW} {p:Pu D} {tb:Re ?j4} {x1:ZU}
theorem zw{vc:V}{cv:SL}(hv:RelV vc cv)(hu:∀u,RelV vc u->u=cv)(htb:RT X.K cv tb)(hg:Gl X "isinstance")(hm:X.mg "isinstance"=none)(ht:PE X t (tC vc))(ha:AP X e p)(hs:starEach [e,t] X.env=?K::starEach [t] X.env)(Tu:starEach [t] X.env=(false,eval t X.env)::starEach [] X.env)
  (Q7:(backTo pos<|starEach [t] X.env).any (·.1)=false):AB X (.Call (.Name "isinstance" p1) [e,t] [] pos) (yk tb p) :=
 λG F Z H ρ Q S w=>Rt (ji (AF hv hu htb) hg hm (rfl) (dO aO (dO ht iQ Tu) hs) ?C ?C hs Q7) (ha G F Z H ρ _ S (w.bind.imp λd F1 H1 s1 S1 w1 v hv=>by
  let{b,hb,k}:=w1.opt
  exact{v,d,b,rfl,hv.mono S1.fh,hb,k F1 H1 ?I S1}))
end
section
variable {p:Pu D} {tb:Re ?j4}
theorem G7{vcs:Re V}{j_:Re SL}{x1}(hu:∀us,Vals vcs us->us=j_)(htb:SU X.K j_ tb)(hg:Gl X "isinstance")(hm:X.mg "isinstance"=none)(ht:PA X ts (tCs vcs))(hl:vcs.length<=1000)(ha:AP X e p)
  (hs:starEach [e,.Tuple ts x1 p2] X.env=?K::starEach [.Tuple ts x1 p2] X.env) (Tu:starEach [.Tuple ts x1 p2] X.env=(false,eval (.Tuple ts x1 p2) X.env)::starEach [] X.env)
  (Q7:(backTo pos<|starEach [.Tuple ts x1 p2] X.env).any (·.1)=false):AB X (.Call (.Name "isinstance" p1) [e,.Tuple ts x1 p2] [] pos) (yk tb p) :=
 λG F Z H ρ Q S w=>Rt (ji (AD hu htb) hg hm (rfl) (dO aO (dO (zM ht) iQ Tu) hs) ?C ?C hs Q7) (ha G F Z H ρ _ S (w.bind.imp λd F1 H1 s1 S1 w1 v hv=>by
  let{b,hb,k}:=w1.opt;refine Eu {mw hl,λq hq=>?_};have S2:=S1.lay (o:=.tup vcs) hq
  exact{v,q,d,b,rfl,aN,hv.mono S2.fh,hb,k F1 _ ?I S2}))
end
abbrev _root_.L2.Cx.SO(X:Cx)(E:w_)(pn:C_):Cx:={ X with xe:=E,pn:=pn }
section
variable {pins U6:C_} {s:SZ} {E:w_}
theorem _root_.L2.Inv.SO(I:Inv X pins Z H s)(E:w_):Inv (X.SO E<|X.pn++pins) [] Z H s :=
 {{I.ok.mod,I.ok.kind,I.ok.glob,I.ok.blt,I.ok.above,I.ok.inj,I.ok.has,I.ok.cab,I.ok.hd,I.ok.frames,I.ok.Xk,I.ok.exf,I.ok.bs,I.ok.YA,I.ok.VZ,I.ok.Wn,I.ok.Sj,I.ok.Zl},I.os,I.bare,I.base,I.loc,I.cell,I.free,I.QZ,λp hp=>I.pin p (by simpa using hp),I.k_,I.len}
theorem _root_.L2.Inv.R6(I:Inv (X.SO E<|X.pn++pins) U6 Z H s):Inv X pins Z H s :=
 {{I.ok.mod,I.ok.kind,I.ok.glob,I.ok.blt,I.ok.above,I.ok.inj,I.ok.has,I.ok.cab,I.ok.hd,I.ok.frames,I.ok.Xk,I.ok.exf,I.ok.bs,I.ok.YA,I.ok.VZ,I.ok.Wn,I.ok.Sj,I.ok.Zl},I.os,I.bare,I.base,I.loc,I.cell,I.free,I.QZ,λp hp=>I.pin p<|UY _ hp,I.k_,I.len}
theorem zD{Dd:Ends}{f:Flow}{s':SZ}(h:SP (X.SO E<|X.pn++pins) [] Dd f s'):SP X pins Dd f s':=by
 cases f with
 | next=>let{σ',H',I,q}:=h;exact{σ',H',I.R6,q}
 | brk=>let{σ',H',I,q}:=h;exact{σ',H',I.R6,q}
 | cont=>let{σ',H',I,q}:=h;exact{σ',H',I.R6,q}
 | ret u=>let{v,σ',H',I,r,q}:=h;exact{v,σ',H',I.R6,r,q}
end
theorem _root_.L3.b_.reB{G:Gh}{B:Hp}{ρ:En}(S:b_ K { G with B:=B } F Z H ρ)(h:c_ G.B F):b_ K G F Z H ρ :=
 {S.fh,S.oh,S.fo,S.ln,S.fz,λi c q=>by let{a,e,oa}:=S.ow i c q;exact{a,e,oa.nf,oa.no,oa.he},S.dj,S.pp,S.pq,h}
theorem _root_.L3.b_.toB{G:Gh}{ρ:En}(S:b_ K G F Z H ρ):b_ K { G with B:=F } F Z H ρ :=
 {S.fh,S.oh,S.fo,S.ln,S.fz,λi c q=>by let{a,e,oa}:=S.ow i c q;exact{a,e,oa.nf,oa.no,oa.he},S.dj,S.pp,S.pq,c_.refl _}
def Ls(ρ:En):Bool:=ρ.all λx=>match x with
 | some (.op _)=>false
 | _=>true
def m6(sh:Re Kd):Bool:=sh.all λk=>match k with
 | .f=>true
 | .z=>true
 | _=>false
theorem rP:∀{sh:Re Kd} {s:Rb sh} {i:Nat} {av:AV},m6 sh=true->?jT[i]? = some (some av)->∃d,av=.fz d
 | [],s,i,av,_,q=>by simp[wr]at q
 | .f::r,s,0,av,h,q=>by simp[wr]at q;exact{_,q.symm}
 | .f::r,s,i+1,av,h,q=>rP    (by simpa[m6]using h) (by simpa[wr]using q)
 | .z::r,s,0,av,h,q=>by simp[wr]at q
 | .z::r,s,i+1,av,h,q=>rP    (by simpa[m6]using h) (by simpa[wr]using q)
 | .o::r,s,i,av,h,q=>by simp[m6]at h
 | .p::r,s,i,av,h,q=>by simp[m6]at h
 | .t::r,s,i,av,h,q=>by simp[m6]at h
 | .k::r,s,i,av,h,q=>by simp[m6]at h
def uS{S:Type}(cs:Re Str)(c:Str)(m:M S):M S:=match cs.contains c with
 | true=>m
 | false=>.bad
def Hi{S A B:Type}(m:M (A ⊕ (Ex×B)))(k:A->M S)(h:Ex->B->M S):M S:=bd m λr=>match r with
 | .inl a=>k a
 | .inr p=>h p.1 p.2
def onX{S T:Type}(h:Ex->M T)(m:M S)(k:S->M T):M T:=m.on h k
def KB(sh shx:Re Kd):KS (Rb sh ⊕ (Ex×Rb shx)):={SD sh λs=>.ret<|.inl s,λ_ _=>.bad,λ_ _=>.bad,λ_=>.bad,λ_=>.bad,λex ρ=>SD shx (λs=>.ret<|.inr (ex,s)) ρ}
def KH{S:Type}(j:Nat)(K:KS S):KS S:={λρ=>K.nx<|ρ.set j none,λ_ _=>.bad,λ_ _=>.bad,λ_=>.bad,λ_=>.bad,λ_ _=>.bad}
def Ky{S:Type}(j:Nat)(cs:Re Str)(sh shx:Re Kd)(mb:SM (Rb sh ⊕ (Ex×Rb shx)))(mh:SM S):SM S:=λK ρ=>match Ls ρ with
 | true=>Hi (mb (KB sh shx) ρ) (λs=>K.nx ?jT) λex s=>uS cs ex.cls<|mh (KH j K)<|(wr shx s).set j<|some<|.fz<|nO ex
 | false=>.bad
def TH(K:Fg)(hv:SL):Re Str->Prop
 | []=>True
 | c::r=>(∃C,PySem.W.nsIn K mainGlobals c=some (some<|.ref C)/\PySem.W.exmOne K (.ref C) hv=some true)/\TH K hv r
theorem TH.at{hv:SL}:∀{cs:Re Str} {c:Str} {C:Tk},TH K hv cs->cs.contains c=true->PySem.W.nsIn K mainGlobals c=some (some<|.ref C)->PySem.W.exmOne K (.ref C) hv=some true
 | d::r,c,C,h,l,n=>by
  rw[List.contains_cons,gs]at l;let q||q:=l
  ·let{{C',n',k},_}:=h
   grind
  ·exact TH.at h.2 q n
section
variable {S:Type} {j:Nat} {n:Str} {b0:Uf} {body R8:Re Uf} {pC ph:Pos} {sh shx:Re Kd} {hv:SL} {mb:SM (Rb sh ⊕ (Ex×Rb shx))} {mh:SM S}
theorem Mr(hmx:X.mg x=some hv)(hgx:Gl X x)(hcs:TH X.K hv cs)(hb:∀E pn,Uk (X.SO E pn) body mb)(hh:∀a,Uk (cau X a) (b0::R8) mh)(hF:m6 shx=true)
  (hN:X.N.Nodup) (hj:X.N[j]? = some n) (hnl:X.env.scope.names.lookup n=some .local) (Xk:X.stack=X.env::X.outer) (frm:X.env.frame=some X.env.locals) (hdx:(x==("__debug__" : Str))=false) :
  AS X (.Try body [.ExceptHandler (some<|.Name x pC) (some n) (b0::R8) ph] [] [] pos) (Ky j cs sh shx mb mh):=by
 intro OK K G F Z H ρ E hO hX St ok eo;unfold Ky at ok
 cases hq:Ls ρ with
 | false=>rw[hq]at ok;exact(hO ok).elim
 | true =>
 rw[hq]at ok;dsimp only at ok;have noP:∀i a,G.P i≠some a:=λi a z=>by
  let{_,c,q}:=St.pp i a z;unfold Ls at hq;have:=List.all_eq_true.mp hq _<|pI q
  cases this
 unfold jM;intro pins s I;rw[arm_exec_Try];refine h_<|P6<|wpAny_tryStmt_except ?_;generalize hXE:(λ(e:SL) (s1:SZ)=>wpAny ?B X.A (noteFrame e X.env) (λ_ s2=>wpAny ?B X.A (setFlight e none) (λ_ s3=>wpAny ?B X.A (handleBy e X.env [.ExceptHandler (some<|.Name x pC) (some n) (b0::R8) ph]) (SP X pins E) X.xe s3) X.xe s2) X.xe s1)=XE
 let E1:Ends:={ nx:=E.nx,rt:=λ_ _=>False,bk:=λ_ _=>False,ct:=λ_ _=>False }
 let OK1:M (Rb sh ⊕ (Ex×Rb shx))->Prop:=λm=>OK<|Hi m (λs=>K.nx ?jT) λex s=>uS cs ex.cls<|mh (KH j K)<|(wr shx s).set j<|some<|.fz<|nO ex
 have hO1:T7 OK1:=λz=>hO z
 have zaW:i7 (X.SO XE<|X.pn++pins) body E1 Z H:=by
  refine hb XE (X.pn++pins) OK1 (KB sh shx) { G with B:=F } F Z H ρ E1 hO1 ?_ St.toB ok {?_,λF' σ' H' ρ' d v s S' r o=>(hO1 o).elim,λF' σ' H' ρ' d v s S' r o=>(hO1 o).elim,λF' σ' H' ρ' s S' o=>(hO1 o).elim,λF' σ' H' ρ' s S' o=>(hO1 o).elim}
  ·
   intro F1 ρ1 ex o1;intro F' H' s' a C dd U6 σ' g fz I' xs hp xr;have o2:OK1 (SD shx (λs=>.ret<|.inr (ex,s)) ρ1):=o1;unfold SD at o2
   cases hr:rd shx ρ1 with
   | none=>rw[hr]at o2;exact(hO1 o2).elim
   | some sx =>
   rw[hr]at o2;have o3:OK (uS cs ex.cls<|mh (KH j K)<|(wr shx sx).set j<|some<|.fz<|nO ex):=o2;unfold uS at o3
   cases hc:cs.contains ex.cls with
   | false=>rw[hc]at o3;exact(hO o3).elim
   | true =>
   rw[hc]at o3;dsimp only at o3;have I2:Inv X pins σ' H' s':=I'.R6;have ZI:X.s₀.heap.objs.size<=X.s₀.heap.objs.size:=ac _;have hp2:∀p∈X.pn++pins,¬ lD s'.heap a p.1:=λp q=>hp p<|UY _ q
   show XE (.ref a) s';subst hXE;refine yt (lo:=X.s₀.heap.objs.size) (base:=X.base) (env:=X.env) (outer:=X.outer) (L:=X.env.locals) (P:=X.prog) (w:=X.w) (I2.ok.frames.trans<|congrArg some Xk) (Xk▸I2.stack) frm I2.k_ xs λh3 m3 xs3 tn=>?_
   have I3:Inv X pins σ' H' { s' with heap:=h3 }:=Inv.mv I2 (by rw[Xk];exact m3) xs xs3 ZI hp2 s'.toks;have hp3:∀p∈X.pn++pins,¬ lD h3 a p.1:=λp q z=>absurd (bo (aw (I2.pin p q).1)<|tn _ z)<|lf _
   refine Dy (K:=X.K) (C:=C)<|nF (X:=cau X a) (vh I3) hgx hmx {I3.S8,hcs.at hc xr.1.ns,?_,?_} hdx
   ·let{oe,_,q1,q2,_}:=xs3.obj;exact{oe,q1,q2}
   refine flight_again (s:={ s' with heap:=h3 }) (TN X.stack) xs3 λh4 m4 xs4=>?_
   have I4:Inv X pins σ' H' { s' with heap:=h4 }:=Inv.mv (s:={ s' with heap:=h3 }) I3 m4 xs3 xs4 ZI hp3 s'.toks;refine mO I4 hN hj (.inl hnl) (v:=.ref a) rfl (λs5 I5=>?_)<|.inr hnl;have oa:G.O a=none:=by
    cases q:G.O a with
    | none=>rfl
    | some o =>
     have h1:=g.oh a o q;rw[xs.VE]at h1
     cases h1
     exact((g.fo a _ q).2:False).elim
   obtain⟨F2,sm2,fh2,fo2,ra⟩:∃F2,c_ F' F2/\c_ F2 H'/\(∀b o,G.O b=some o->F2 b=none/\D8 o)/\Rep X.K F2 (.ref a) (nO ex):=by
    cases q:F' a with
    | some o =>
     have h1:=g.fh a o q;rw[xs.VE]at h1
     cases h1
     exact{F',c_.refl _,g.fh,g.fo,xr.rep q}
    | none =>
     have sm:=cx (F:=F') (o:=.ext (XO a C dd)) q;refine{upd F' a<|.ext<|XO a C dd,sm,λb u z=>?_,λb u z=>?_,(xr.mono sm).rep aN}
     ·by_cases y:b=a
      ·subst y;rw[aN]at z;cases z;exact xs.VE
      ·rw[aQ y]at z;exact g.fh b u z
     ·rw[aQ<|bp z oa];exact g.fo b u z
   have FB:c_ F F':=g.fb;have hjl:j<σ'.length:=by rw[I2.len];exact(List.getElem?_eq_some_iff.mp hj).1
   let{wl,w1,w2}:=jN shx ρ1 sx hr;have hjr:j<(wr shx sx).length:=by rw[wl,<-fz.ln];exact hjl
   have only:∀i av,((wr shx sx).set j<|some<|.fz<|nO ex)[i]? = some (some av)->∃d,av=AV.fz d:=λi av q=>by
    by_cases y:i=j
    ·rw[y,di hjr]at q;injection q with q;injection q with q;exact{_,q.symm}
    ·rw[be<|Ne.symm y]at q;exact rP hF q
   have ZH:∀i c,¬ own ((wr shx sx).set j<|some<|.fz<|nO ex) i c:=λi c q=>by
    let q||q:=q<;>(let{d,z}:=only i _ q;cases z)
   have S3:b_ X.K G F2 (σ'.set j<|some ?qA) H' ((wr shx sx).set j<|some<|.fz<|nO ex):=by
    refine{fh2,g.oh,fo2,by simp[wl,fz.ln],λi d q=>?_,λi c q=>(ZH i c q).elim,λi k c e b q=>(ZH i c q).elim,λi b z=>(noP i b z).elim,λi c q=>?_,(St.fb.trans FB).trans sm2}
    ·by_cases y:i=j
     ·rw[y,di hjr]at q;injection q with q;injection q with q;injection q with q;rw[<-q,y];exact{_,di hjl,ra}
     ·rw[be<|Ne.symm y]at q;let{v,e1,r1}:=fz.fz i d<|w1 i _ q;exact{v,by rw[be<|Ne.symm y];exact e1,r1.mono sm2}
    ·let{d,z}:=only i _ q;cases z
   have Xx:=hh a OK (KH j K) G F2 _ H' _ { nx:=λσ6 H6=>∃F6 ρ6,c_ F2 F6/\b_ X.K G F6 σ6 H6 ρ6/\OK (K.nx<|ρ6.set j none),rt:=λ_ _=>False,bk:=λ_ _=>False,ct:=λ_ _=>False } hO (λ_ _ _ z=>(hO z).elim) S3 o3
    {λF6 σ6 H6 ρ6 s6 S6 o6=>{F6,ρ6,s6,S6,o6},λF' σ' H' ρ' d v s S' r o=>(hO o).elim,λF' σ' H' ρ' d v s S' r o=>(hO o).elim,λF' σ' H' ρ' s S' o=>(hO o).elim,λF' σ' H' ρ' s S' o=>(hO o).elim}
   unfold i7 at Xx;refine pd (Xx pins s5<|vh I5) (λf s6 z=>?_) λ_ _ z=>z
   cases f with
   | next =>
    let{σ6,H6,I6,F6,ρ6,s6,S6,o6}:=z;refine IF (Ax I2.ok.hd I6) hN hj hnl λs7 I7=>{σ6.set j none,H6,I7,?_}
    have S7:b_ X.K G F6 σ6 H6 (ρ6.set j none):=by
     refine S6.weak ?G (λi av q=>?_) λi c q=>?_
     ·by_cases y:i=j
      ·rw[y,List.getElem?_set]at q;simp at q
      ·rw[be<|Ne.symm y]at q;exact q
     ·let{b,z}:=S6.pq i c q;exact(noP i b z).elim
    refine eo.nx F6 _ H6 (ρ6.set j none) ((FB.trans sm2).trans s6) (S7.YU (λav q=>?_) none) o6;rw[List.getElem?_set]at q;simp at q
   | brk=>let{_,_,_,z}:=z;exact z.elim
   | cont=>let{_,_,_,z}:=z;exact z.elim
   | ret u=>let{_,_,_,_,_,z}:=z;exact z.elim
  ·intro F' σ' H' ρ' s1 S' o;have o2:OK1 (SD sh (λs=>.ret<|.inl s) ρ'):=o;unfold SD at o2
   cases hr:rd sh ρ' with
   | none=>rw[hr]at o2;exact(hO1 o2).elim
   | some sx =>
   rw[hr]at o2;have S2:b_ X.K G F' σ' H' ρ':=S'.reB<|St.fb.trans s1;exact eo.nx F' σ' H' (wr sh sx) s1 (S2.rd hr) o2
 unfold i7 at zaW;refine pd (zaW [] s<|I.SO XE) (λf s1 z=>?_) λe s1 z=>by subst hXE;exact z
 have z2:=zD z
 cases f with
 | next=>exact Qb z2
 | brk=>let{_,_,_,z}:=z2;exact z.elim
 | cont=>let{_,_,_,z}:=z2;exact z.elim
 | ret u=>let{_,_,_,_,_,z}:=z2;exact z.elim
end
theorem EU{a:Tk}:∀u,RelV (.ref a) u->u=.ref a:=λu h=>h
theorem uN:∀{Cs:Re Tk} (us:Re SL),Vals (Cs.map V.ref) us->us=Cs.map Value.ref
 | [],us,h=>by cases h;rfl
 | C::r,us,h=>by
  cases h with
  | cons a b=>rw[uN _ b];cases a;rfl
def MgL(mg:Rm):Re Str->Re Tk->Prop
 | [],[]=>True
 | c::r,C::t=>mg c=some (.ref C)/\MgL mg r t
 | _,_=>False
inductive Sq(X:Cx):Re Str->Re TW->Prop
 | nil:Sq X [] []
 | cons {c:Str} {p:Pos} {cs:Re Str} {ts:Re TW} (hg:Gl X c) (hd:(c==("__debug__" : Str))=false) (hs:starEach (.Name c p::ts) X.env=(false,eval (.Name c p) X.env)::starEach ts X.env) (r:Sq X cs ts):Sq X (c::cs) (.Name c p::ts)
theorem yj{X:Cx}:∀{cs:Re Str} {ts:Re TW} {Cs:Re Tk},Sq X cs ts->MgL X.mg cs Cs->PA X ts (tCs<|Cs.map V.ref)
 | _,_,[],.nil,_=>iQ
 | _,_,C::Cs,.nil,h=>h.elim
 | _,_,[],.cons _ _ _ _,h=>h.elim
 | _,_,C::Cs,.cons hg hd hs r,h=>dO (vY hg h.1 ((rfl)) hd) (yj r h.2) hs
theorem BE{mg:Rm}:∀{cs:Re Str} {Cs:Re Tk},MgL mg cs Cs->Cs.length=cs.length
 | [],[],_=>rfl
 | [],_::_,h=>h.elim
 | _::_,[],h=>h.elim
 | _::_,_::_,h=>by simp[BE h.2]
section
variable {p:Pu D} {tb:Re ?j4}
theorem G8(h:∃C,X.mg c=some (.ref C)/\RT X.K (.ref C) tb)(hgc:Gl X c)(hm:X.mg "isinstance"=none)(hg:Gl X "isinstance")(ha:AP X e p)(hs:starEach [e,.Name c p2] X.env=?K::starEach [.Name c p2] X.env)(Tu:starEach [.Name c p2] X.env=(false,eval (.Name c p2) X.env)::starEach [] X.env)
  (Q7:(backTo pos<|starEach [.Name c p2] X.env).any (·.1)=false) (hd:(c==("__debug__" : Str))=false):AB X (.Call (.Name "isinstance" p1) [e,.Name c p2] [] pos) (yk tb p):=by
 let{C,h1,h2}:=h;exact zw (vc:=.ref C) rfl EU h2 hg hm (vY hgc h1 rfl hd) ha hs Tu Q7
theorem G6{T:String}(h:RT X.K (.type T) tb)(hgc:Gl X c)(hmc:X.mg c=none)(hb:bootBuiltins c=some (.type T))(hm:X.mg "isinstance"=none)(hg:Gl X "isinstance")(ha:AP X e p)(hs:starEach [e,.Name c p2] X.env=?K::starEach [.Name c p2] X.env)(Tu:starEach [.Name c p2] X.env=(false,eval (.Name c p2) X.env)::starEach [] X.env)
  (Q7:(backTo pos<|starEach [.Name c p2] X.env).any (·.1)=false) (hn:c ≠ "__name__") (hd:(c==("__debug__" : Str))=false):AB X (.Call (.Name "isinstance" p1) [e,.Name c p2] [] pos) (yk tb p) :=
 zw (vc:=.ty T) rfl (λu h=>h) h hg hm (Bx hgc hmc hb rfl hn hd) ha hs Tu Q7
theorem D6{x1}(h:∃Cs,MgL X.mg cs Cs/\SU X.K (Cs.map Value.ref) tb)(hn:Sq X cs ts)(hl:cs.length<=1000)(hm:X.mg "isinstance"=none)(hg:Gl X "isinstance")(ha:AP X e p)
  (hs:starEach [e,.Tuple ts x1 p2] X.env=?K::starEach [.Tuple ts x1 p2] X.env) (Tu:starEach [.Tuple ts x1 p2] X.env=(false,eval (.Tuple ts x1 p2) X.env)::starEach [] X.env)
  (Q7:(backTo pos<|starEach [.Tuple ts x1 p2] X.env).any (·.1)=false):AB X (.Call (.Name "isinstance" p1) [e,.Tuple ts x1 p2] [] pos) (yk tb p):=by
 let{Cs,h1,h2}:=h;exact G7  uN h2 hg hm (yj hn h1) (by rw[v_,BE h1];exact hl) ha hs Tu Q7
end
section
variable {S:Type} {j:Nat} {n:Str} {b0:Uf} {body R8:Re Uf} {pC ph:Pos} {sh shx:Re Kd} {mb:SM (Rb sh ⊕ (Ex×Rb shx))} {mh:SM S}
theorem Jd(h:∃hv,X.mg x=some hv/\TH X.K hv cs)(hgx:Gl X x)(hb:∀E pn,Uk (X.SO E pn) body mb)(hh:∀a,Uk (cau X a) (b0::R8) mh)(hF:m6 shx=true)
  (hN:X.N.Nodup) (hj:X.N[j]? = some n) (hnl:X.env.scope.names.lookup n=some .local) (Xk:X.stack=X.env::X.outer) (frm:X.env.frame=some X.env.locals) (hdx:(x==("__debug__" : Str))=false) :
  AS X (.Try body [.ExceptHandler (some<|.Name x pC) (some n) (b0::R8) ph] [] [] pos) (Ky j cs sh shx mb mh):=by
 let{hv,h1,h2}:=h;exact Mr h1 hgx h2 hb hh hF hN hj hnl Xk frm hdx
end
theorem MG{C:Tk}(h:(["bool","int","str","list","tuple","dict"].all λT=>PySem.W.kitOne K (.ref C) (.type T)==some false)=true):∀T,qQ T=true->PySem.W.kitOne K (.ref C) (.type T)=some false:=λT hT=>by
 simp  [qQ,gs,beq_iff_eq]at hT
 grind
theorem O2{α:Type}{us:Re α}{n:Nat}(h:us.length=n+1):∃a r,us=a::r/\r.length=n:=by
 cases us with
 | nil=>exact absurd h (Nat.succ_ne_zero n).symm
 | cons a r=>exact{a,r,rfl,Nat.succ.inj h}
theorem O3{α:Type}{us:Re α}(h:us.length=1):∃a0,us=[a0]:=by
 let{a0,r,rfl,h0}:=O2 h
 grind
theorem Po{qual:Str}{st:Uf}{f:Tk}{fd:FuncData}{p0:Str}(F:WN K x qual st f fd)
  (h:∀(kV doc pm:SL) (an:SC Tk) (t_ ct:SL) (u0:SL),bindArgs (PySem.W.fnOf x qual (cY st) ?qt ?jR .none kV doc pm an t_ ct) {[u0],[]}=pure (List.zip [p0] [u0])):Binds K fd [p0] [] :=
 F.binds λa b c d e g us hl=>by let{u0,rfl}:=O3 hl;grind
theorem lE{K:Fg}{F:Hp}:∀{vs:Re V} {ds:Re D},i_ K F vs ds->i_ K F vs.dropLast ds.dropLast
 | _,_,.nil=>.nil
 | _,_,.cons h .nil=>.nil
 | _,_,.cons h (.cons h2 t)=>by
  exact .cons h<|lE<|.cons h2 t
end L4
namespace TS
open PySem PyProof.Rows
variable {st:SortSt}{xs:UF Keyed}{j z n:Nat}{p:Keyed}{Q:SC Nat->SortSt->Prop}
def kr(rk:SL->Int)(xs:UF Keyed)(i:Nat):Int:=(xs[i]?.map λp=>rk p.1).getD 0
def UX(rk:SL->Int)(xs:UF Keyed)(lo hi:Nat):Prop:=∀i j:Nat,lo<=i->i<=j->j<hi->kr rk xs i<=kr rk xs j
def YD(rk:SL->Int)(xs:UF Keyed)(lo hi:Nat):Prop:=∀i j:Nat,lo<=i->i<=j->j<hi->kr rk xs j<=kr rk xs i
def qv(prog:Tl)(w:TD)(A:UV)(s:SZ)(κ:SortKind)(rk:SL->Int)(a₀:UF Keyed):Prop :=
 ∀x y,x∈a₀.toList->y∈a₀.toList->∀(E:w_) (Q:Bool->SZ->Prop),Q (decide<|rk x.1<rk y.1) s->wpAny ?D A (keyLt' κ x.1 y.1) Q E s
abbrev Runs:=UF<|Nat×Nat×Nat
structure SB(κ:SortKind)(a₀:UF Keyed)(lo:Nat)(old:UF Keyed)(P:Runs)(st:SortSt):Prop where
 pm:(arrOf st).Perm a₀
 kd:kindOf st=κ
 fl:failedOf st=none
 kp:∀i,i<lo->?jk[i]? = old[i]?
 pe:pendingOf st=P
section
variable {prog:Tl} {w:TD} {A:UV} {E:w_} {s:SZ} {κ:SortKind} {rk:SL->Int} {a₀ old:UF Keyed} {lo:Nat} {P:Runs}
theorem SB.sz(h:SB κ a₀ lo old P st):(arrOf st).size=a₀.size:=h.pm.size_eq
theorem SB.to(h:SB κ a₀ lo old P st)(hp:xs.Perm ?jk)(hk:∀i,i<lo->xs[i]? = ?jk[i]?):SB κ a₀ lo old P (setArr st xs) :=
 {hp.trans h.pm,h.kd,h.fl,λi hi=>(hk i hi).trans<|h.kp i hi,h.pe}
theorem SB.mem(h:SB κ a₀ lo old P st){i:Nat}(e:?jk[i]? = some p):p∈a₀.toList :=
 (Array.perm_iff_toList_perm.mp h.pm).mem_iff.mp (by
  let{hl,e}:=Array.getElem?_eq_some_iff.mp e
  rw[<-e];simp)
theorem BH{i:Nat}(e:xs[i]? = some p):kr rk xs i=rk p.1:=by unfold kr;rw[e];rfl
theorem yL{ys:UF Keyed}{i:Nat}(e:xs[i]? = ys[j]?):kr rk xs i=kr rk ys j:=by unfold kr;rw[e]
theorem Kg{i:Nat}{Q:Keyed->SortSt->Prop}(e:xs[i]? = some p)(q:Q p st):wpS ?D A E s (elem' xs i) Q st:=by
 rw[elem'_eq,e];exact um q
theorem NN{x y:Keyed}{Q:SC Bool->SortSt->Prop}(hC:qv prog w A s κ rk a₀)(hk:kindOf st=κ)(hx:x∈a₀.toList)(hy:y∈a₀.toList)(q:Q (some<|decide<|rk x.1<rk y.1) st) :
  wpS ?D A E s (lt' x y) Q st:=by
 rw[lt'_eq];refine li<|wpS_get ?_;rw[hk];refine li<|wpS_lift<|Db<|hC x y hx hy _ _ {rfl,?_};exact um q
theorem zt{i:Nat}{Q:SC Bool->SortSt->Prop}(hC:qv prog w A s κ rk a₀)(h:SB κ a₀ lo old P st)(hi:i<a₀.size)(hj:j<a₀.size)(q:Q (some<|decide<|kr rk ?jk i<kr rk ?jk j) st) :
  wpS ?D A E s (ltAt' i j) Q st:=by
 have e1:?jk[i]? = some (?jk[i]'(by rw[h.sz];exact hi)):=mo _;have e2:?jk[j]? = some (?jk[j]'(by rw[h.sz];exact hj)):=mo _;refine li<|wpS_get ?_;refine li<|Kg e1<|li<|Kg e2 ?_;refine NN hC h.kd (h.mem e1) (h.mem e2) ?_;rw[BH e1,BH e2]at q;exact q
theorem vU{i:Nat}{Q:Unit->SortSt->Prop}(q:Q () (setArr st<|mirror ?jk i j<|(j - i) / 2)):wpS ?D A E s (reverseSlice' i j) Q st:=by
 exact wpS_modify q
theorem Ad{i:Nat}(hj:j<=xs.size)(k:Nat):kr rk (mirror xs i j<|(j - i) / 2) k=if i<=k/\k<j then kr rk xs (i+j - 1 - k)else kr rk xs k:=by
 have e:=getElem?_mirror_all (i:=i) hj k;split
 ·rename_i c;rw[ar c]at e;exact yL e
 ·rename_i c;rw[ax c]at e;exact yL e
theorem nB{i lo:Nat}(hj:j<=xs.size)(hl:lo<=i):∀k,k<lo->(mirror xs i j<|(j - i) / 2)[k]? = xs[k]?:=λk hk=>by
 rw[getElem?_mirror_all hj k,ax ?A]
theorem rW{i:Nat}(hj:j<=xs.size)(e:∀k,i<=k->k<j->kr rk xs k=kr rk xs (j - 1))(k:Nat):kr rk (mirror xs i j<|(j - i) / 2) k=kr rk xs k:=by
 rw[Ad hj]
 grind
abbrev Asl:=SC (SC Nat)×Nat
abbrev Dsl:=SC (SC Nat)×Nat×Nat
def upW(lo a z:Nat):StateT SortSt Sem Asl:=forIn [a:z] ((none,a):Asl) λ_ c=>do
 match <-ltAt' (lo+c.snd) (lo+c.snd - 1)with
 | some b=>if b=true then pure (ForInStep.done (none,c.snd))else pure (ForInStep.yield (none,c.snd+1))
 | _=>pure (ForInStep.done (some none,c.snd))
def IS(lo n z:Nat):StateT SortSt Sem (SC Nat):=do
 reverseSlice' lo (lo+n)
 let c <-upW lo n z
 match c.fst with
 | some r=>pure r
 | none=>pure (some c.snd)
def dnW(lo n z:Nat):StateT SortSt Sem Dsl:=forIn [n:z] ((none,n,0):Dsl) λ_ c=>do
 match <-ltAt' (lo+c.snd.fst) (lo+c.snd.fst - 1)with
 | some b =>
  if b=true then
   if c.snd.snd>0 then do
    reverseSlice' (lo+c.snd.fst - (c.snd.snd+1)) (lo+c.snd.fst)
    pure (ForInStep.yield (none,c.snd.fst+1,0))
   else pure (ForInStep.yield (none,c.snd.fst+1,0))
  else do
   match <-ltAt' (lo+c.snd.fst - 1) (lo+c.snd.fst)with
   | some g=>if g=true then pure (ForInStep.done (none,c.snd.fst,c.snd.snd))else pure (ForInStep.yield (none,c.snd.fst+1,c.snd.snd+1))
   | _=>pure (ForInStep.done (some none,c.snd.fst,c.snd.snd))
 | _=>pure (ForInStep.done (some none,c.snd.fst,c.snd.snd))
def B7(lo n z:Nat):StateT SortSt Sem (SC Nat):=do
 liftM (rule "list.sort.descending-run")
 let c <-dnW lo (n+1) z
 match c.fst with
 | some r=>pure r
 | none =>
  if c.snd.snd>0 then do
   reverseSlice' (lo+c.snd.fst - (c.snd.snd+1)) (lo+c.snd.fst)
   IS lo c.snd.fst z
  else IS lo c.snd.fst z
theorem KF(lo z:Nat):countRun' lo z=(do
  let c <-upW lo 1 z
  match c.fst with
  | some r=>pure r
  | none =>
   if(c.snd==z)=true then pure (some c.snd)
   else if c.snd>1 then do
    match <-ltAt' lo (lo+c.snd - 1)with
    | some b=>if b=true then pure (some c.snd)else do
      reverseSlice' lo (lo+c.snd)
      B7 lo c.snd z
    | _=>pure none
   else B7 lo c.snd z):=by
 rw[countRun'_eq];unfold B7 IS dnW upW;dsimp only;have tl:∀(x:StateT SortSt Sem Asl),(x >>= λc3=>match c3.fst with|some r=>pure r|none=>pure<|some c3.snd:StateT SortSt Sem (SC Nat))=(x >>= λc3=>match c3.fst with|none=>pure<|some c3.snd|some r=>pure r):=λx=>by
  congr 1;funext c3;let{_||r3,n3}:=c3<;>rfl
 congr 1;funext c;let{_||r,n}:=c
 ·dsimp only;split
  ·rfl
  ·split
   ·congr 1;funext x
    cases x with
    | none=>rfl
    | some b =>
     dsimp only;split
     ·rfl
     ·congr 1;funext _;congr 1;funext _;congr 1;funext c2;let{_||r2,n2,q2}:=c2
      ·dsimp only;split
       ·congr 1;funext _;congr 1;funext _;congr 1;funext c3;let{_||r3,n3}:=c3<;>rfl
       ·congr 1;funext _;congr 1;funext c3;let{_||r3,n3}:=c3<;>rfl
      ·rfl
   ·congr 1;funext _;congr 1;funext c2;let{_||r2,n2,q2}:=c2
    ·dsimp only;split
     ·congr 1;funext _;congr 1;funext _;congr 1;funext c3;let{_||r3,n3}:=c3<;>rfl
     ·congr 1;funext _;congr 1;funext c3;let{_||r3,n3}:=c3<;>rfl
    ·rfl
 ·rfl
end
section
variable {prog:Tl} {w:TD} {A:UV} {E:w_} {s:SZ} {κ:SortKind} {rk:SL->Int} {a₀ old:UF Keyed} {lo:Nat} {P:Runs}
theorem UX.snoc{lo m:Nat}(h:UX rk xs lo (lo+m))(h1:1<=m)(q:¬ kr rk xs (lo+m)<kr rk xs (lo+m - 1)):UX rk xs lo (lo+(m+1)):=λi j hi VJ hj=>by
 by_cases c:j<lo+m
 ·exact h i j hi VJ c
 ·by_cases c2:i=j
  ·subst c2;exact Ch _
  ·have e:j=lo+m:=by lia
   subst e;have:=h i (lo+m - 1) hi ?A ?A;lia
theorem Ju{a:Nat}{Q:Asl->SortSt->Prop}(hC:qv prog w A s κ rk a₀)(hz:lo+z<=a₀.size)(h1:1<=a)(ha:a<=z)(h:SB κ a₀ lo old P st)(ho:UX rk ?jk lo (lo+a))
  (q:∀n,a<=n->n<=z->UX rk ?jk lo (lo+n)->(n=z\/kr rk ?jk (lo+n)<kr rk ?jk (lo+n - 1))->Q (none,n) st):wpS ?D A E s (upW lo a z) Q st:=by
 refine Qf (I:=λx c o_=>o_=st/\c=(none,x)/\UX rk ?jk lo (lo+x)) (λx c o_ hx hxz I=>?_) (λc o_ I=>?_) {rfl,rfl,ho}
 ·let{rfl,rfl,o}:=I;refine li<|zt hC h ?A ?A ?_;by_cases c:kr rk ?jp (lo+x)<kr rk ?jp (lo+x - 1)
  ·rw[ba c];exact um<|q x hx ?A o<|.inr c
  ·rw[bi c];exact um {rfl,rfl,o.snoc ?A c}
 grind
def Run(κ:SortKind)(rk:SL->Int)(a₀ old:UF Keyed)(lo z:Nat)(P:Runs)(m:Nat)(st:SortSt):Prop:=SB κ a₀ lo old P st/\1<=m/\m<=z/\UX rk ?jk lo (lo+m)
theorem GC(hC:qv prog w A s κ rk a₀)(hz:lo+z<=a₀.size)(h1:1<=n)(hn:n<=z)(h:SB κ a₀ lo old P st)(ho:YD rk ?jk lo (lo+n))
  (q:∀m o_,Run κ rk a₀ old lo z P m o_->Q (some m) o_):wpS ?D A E s (IS lo n z) Q st:=by
 have hl:lo+n<=(arrOf st).size:=by rw[h.sz];lia
 have h':=h.to (mirror_perm ?jk lo (lo+n)<|(lo+n - lo) / 2)<|nB hl ?jm;refine li (vU (li (Ju hC hz h1 hn h' (λi j hi VJ hj=>?_) λm m1 m2 o _=>um (q m _ {h',by lia,m2,o}))));rw[Ad hl,Ad hl,ar {hi,by lia},ar {by lia,hj}];exact ho _ _ ?A ?A ?A
theorem YD.snoc{ys:UF Keyed}{lo m:Nat}(h:YD rk xs lo (lo+m))(h1:1<=m)(e:∀k,kr rk ys k=kr rk xs k)(q:kr rk xs (lo+m)<=kr rk xs (lo+m - 1)):YD rk ys lo (lo+(m+1)):=λi j hi VJ hj=>by
 rw[e,e];by_cases c:j<lo+m
 ·exact h i j hi VJ c
 ·by_cases c2:i=j
  ·grind
  ·have e:j=lo+m:=by lia
   have:=h i (lo+m - 1) hi ?A ?A;lia
def Flat(rk:SL->Int)(xs:UF Keyed)(lo m q:Nat):Prop:=q+1<=m/\∀k,lo+m - (q+1)<=k->k<lo+m->kr rk xs k=kr rk xs (lo+m - 1)
theorem N6{Q:Dsl->SortSt->Prop}(hC:qv prog w A s κ rk a₀)(hz:lo+z<=a₀.size)(h1:1<=n)(hn:n<=z)(h:SB κ a₀ lo old P st)(ho:YD rk ?jk lo (lo+n))
  (q:∀m r o_,SB κ a₀ lo old P o_->n<=m->m<=z->YD rk ?jp lo (lo+m)->Flat rk ?jp lo m r->Q (none,m,r) o_):wpS ?D A E s (dnW lo n z) Q st:=by
 refine Qf (I:=λx c o_=>∃r,c=(none,x,r)/\SB κ a₀ lo old P o_/\YD rk ?jp lo (lo+x)/\Flat rk ?jp lo x r) (λx c o_ hx hxz I=>?_) (λc o_ I=>?_) {0,rfl,h,ho,by lia,λk k1 k2=>by congr 1;lia}
 ·let{r,rfl,h',o,fl}:=I;have hl:lo+x<=(arrOf o_).size:=by rw[h'.sz];lia
  refine li<|zt hC h' ?A ?A ?_;dsimp only;by_cases c:kr rk ?jp (lo+x)<kr rk ?jp (lo+x - 1)
  ·rw[ba c];rw[ar rfl];split
   ·have hfl:=fl.2;have kp:=rW  hl hfl;have fl1:=fl.1;refine li (vU (um {0,rfl,h'.to (mirror_perm _ _ _ _)<|nB hl ?A,o.snoc ?A kp ?A,by lia,λk k1 k2=>by congr 1;lia}))
   ·exact um {0,rfl,h',o.snoc ?A ?R ?A,by lia,λk k1 k2=>by congr 1;lia}
  ·rw[bi c];refine li<|zt hC h' ?A ?A ?_;by_cases c2:kr rk ?jp (lo+x - 1)<kr rk ?jp (lo+x)
   ·rw[ba c2];exact um<|q x r o_ h' hx ?A o fl
   ·rw[bi c2];refine um {r+1,rfl,h',o.snoc ?A ?R ?A,by have:=fl.1;lia,λk k1 k2=>?_};have e:kr rk ?jp (lo+x)=kr rk ?jp (lo+x - 1):=by lia
    rw[show lo+(x+1) - 1=lo+x by lia,e];by_cases c3:k=lo+x
    ·rw[c3];exact e
    ·exact fl.2 k ?A ?A
 grind
theorem B6(hC:qv prog w A s κ rk a₀)(hz:lo+z<=a₀.size)(hn:n+1<=z)(h:SB κ a₀ lo old P st)(ho:YD rk ?jk lo (lo+(n+1)))
  (q:∀m o_,Run κ rk a₀ old lo z P m o_->Q (some m) o_):wpS ?D A E s (B7 lo n z) Q st:=by
 refine li<|wpS_lift<|P4 {rfl,li<|N6 hC hz ?A hn h ho λm r o_ h' m1 m2 o fl=>?_};dsimp only;have hl:lo+m<=(arrOf o_).size:=by rw[h'.sz];lia
 have fl1:=fl.1;split
 ·have kp:=rW  hl fl.2;refine li<|vU<|GC hC hz ?A m2 (h'.to (mirror_perm _ _ _ _)<|nB hl ?A) (λi j hi VJ hj=>?_) q;rw[kp,kp];exact o i j hi VJ hj
 ·exact GC hC hz ?A m2 h' o q
theorem KE(hC:qv prog w A s κ rk a₀)(hz:lo+z<=a₀.size)(h1:1<=z)(h:SB κ a₀ lo old P st)
  (q:∀m o_,Run κ rk a₀ old lo z P m o_->Q (some m) o_):wpS ?D A E s (countRun' lo z) Q st:=by
 rw[KF];refine li (Ju hC hz (ac 1) h1 h (λi j hi VJ hj=>by rw[show i=j by lia];exact Ch _) λn n1 n2 o e=>?_);dsimp only;by_cases c:n=z
 ·rw[ar (by simpa using c)];exact um<|q n st {h,n1,n2,o}
 ·rw[ax (by simpa using c)];split
  ·refine li<|zt hC h ?A ?A ?_;by_cases c2:kr rk ?jk lo<kr rk ?jk (lo+n - 1)
   ·rw[ba c2];exact um<|q n st {h,n1,n2,o}
   ·rw[bi c2];have hl:lo+n<=(arrOf st).size:=by rw[h.sz];lia
    have fl:∀k,lo<=k->k<lo+n->kr rk ?jk k=kr rk ?jk (lo+n - 1):=λk k1 k2=>by
     have a1:=o lo k ?jm k1 k2;have a2:=o k (lo+n - 1) k1 ?A ?A;lia
    have kp:=rW  hl fl;have dd:YD rk ?jk lo (lo+n):=λi j hi VJ hj=>by rw[fl i hi ?A,fl j ?A hj];exact Ch _
    exact li<|vU<|B6 hC hz ?A (h.to (mirror_perm _ _ _ _)<|nB hl ?jm) (dd.snoc n1 kp ?A) q
  ·have e1:n=1:=by lia
   subst e1;have dd:YD rk ?jk lo (lo+1):=λi j hi VJ hj=>by rw[show i=j by lia];exact Ch _
   exact B6 hC hz ?A h (dd.snoc ?jm ?R ?A) q
theorem FW{src d:Nat}(hs:src<xs.size)(hd:d<=src)(k:Nat):kr rk (bubble xs src d) k=if k=src - d then kr rk xs src else if src - d<k/\k<=src then kr rk xs (k - 1)else kr rk xs k:=by
 have e:=getElem?_bubble hs d hd k;split
 ·rename_i c;rw[ar c]at e;exact yL e
 ·rename_i c;rw[ax c]at e;split
  ·rename_i c2;rw[ar c2]at e;exact yL e
  ·rename_i c2;rw[ax c2]at e;exact yL e
theorem Mn{ok:Nat}{Q:Bool->SortSt->Prop}(hC:qv prog w A s κ rk a₀)(hn:lo+n<=a₀.size)(hk:ok<=n)(h:SB κ a₀ lo old P st)(ho:UX rk ?jk lo (lo+ok))
  (q:∀o_,SB κ a₀ lo old P o_->UX rk ?jp lo (lo+n)->Q true o_):wpS ?D A E s (binarySort' lo n ok) Q st:=by
 rw[binarySort'_eq]
 refine li<|wpS_mono (Qf (I:=λk c o_=>c=(none,())/\SB κ a₀ lo old P o_/\UX rk ?jp lo (lo+min k n))
  (Q:=λc o_=>c=(none,())/\SB κ a₀ lo old P o_/\UX rk ?jp lo (lo+n)) (λk c o_ hk1 UP I=>?_) (λc o_ I=>?_) {rfl,h,λi j hi VJ hj=>?_}) λc o_ I=>?_
 ·let{rfl,h',o}:=I;rw[show min k n=k by lia]at o;have hsz:lo+k<(arrOf o_).size:=by rw[h'.sz];lia
  refine li (wpS_mono (Qf (I:=λx c Rf=>Rf=o_/\∃l r,c=(none,l,r)/\l<=r/\r<=k/\r - l<=k - x /\
    (∀i,i<l->kr rk ?jp (lo+i)<=kr rk ?jp (lo+k))/\(∀i,r<=i->i<k->kr rk ?jp (lo+k)<kr rk ?jp (lo+i)))
   (Q:=λc Rf=>Rf=o_/\∃l r,c=(none,l,r)/\l<=k/\(∀i,i<l->kr rk ?jp (lo+i)<=kr rk ?jp (lo+k))/\(∀i,l<=i->i<k->kr rk ?jp (lo+k)<kr rk ?jp (lo+i)))
   (λx c Rf _ hx J=>?_) (λc Rf J=>?_) {rfl,0,k,rfl,by lia,by lia,by lia,λi hi=>by lia,λi i1 i2=>by lia}) λc Rf J=>?_)
  ·let{rfl,l,r,rfl,lr,rk',sz,b1,b2}:=J;dsimp only;by_cases c:l>=r
   ·rw[ar c];exact um {rfl,l,r,rfl,by lia,b1,λi i1 i2=>b2 i ?A i2}
   ·rw[ax c];refine li<|zt hC h' ?A ?A ?_;by_cases c2:kr rk (arrOf Rf) (lo+k)<kr rk (arrOf Rf) (lo+(l+r) / 2)
    ·rw[ba c2];refine um {rfl,l,(l+r) / 2,rfl,by lia,by lia,by lia,b1,λi i1 i2=>?_};have:=o (lo+(l+r) / 2) (lo+i) ?A ?A ?A;lia
    ·rw[bi c2];refine um {rfl,(l+r) / 2+1,r,rfl,by lia,by lia,by lia,λi i1=>?_,b2};have:=o (lo+i) (lo+(l+r) / 2) ?A ?A ?A;lia
  ·let{rfl,l,r,rfl,lr,rk',sz,b1,b2}:=J;exact{rfl,l,r,rfl,by lia,b1,λi i1 i2=>b2 i ?A i2}
  ·let{rfl,l,r,rfl,lk,b1,b2}:=J;show wpS _ _ _ _ (moveDown' (lo+k) (lo+l) >>= λ_=>pure<|ForInStep.yield (none,())) _ _;rw[moveDown'_eq];have ed:lo+k - (lo+k - (lo+l))=lo+l:=by lia
   refine li<|wpS_modify<|um {rfl,h'.to (bubble_perm _ _ _) λi hi=>?_,λi j hi VJ hj=>?_}
   ·rw[getElem?_bubble hsz _ ?A,ax ?A,ax ?A]
   ·rw[show min (k+1) n=k+1 by lia]at hj;show kr rk (bubble (arrOf Rf) (lo+k)<|lo+k - (lo+l)) i<=kr rk (bubble (arrOf Rf) (lo+k)<|lo+k - (lo+l)) j;rw[FW hsz ?A,FW hsz ?A,ed];have t1:∀i,lo<=i->i<lo+l->kr rk (arrOf Rf) i<=kr rk (arrOf Rf) (lo+k):=λi i1 i2=>by
     have:=b1 (i - lo) ?A
     rwa [show lo+(i - lo)=i by lia]at this
    have t2:∀i,lo+l<=i->i<lo+k->kr rk (arrOf Rf) (lo+k)<kr rk (arrOf Rf) i:=λi i1 i2=>by
     have:=b2 (i - lo) ?A ?A
     rwa [show lo+(i - lo)=i by lia]at this
    split
    ·split
     ·exact Ch _
     ·split
      ·exact Int.le_of_lt<|t2 _ ?A ?A
      ·lia
    ·split
     ·split
      ·lia
      ·split
       ·exact o _ _ ?A ?A ?A
       ·lia
     ·split
      ·exact t1 _ hi ?A
      ·split
       ·exact o _ _ ?A ?A ?A
       ·exact o _ _ ?A ?A ?A
 ·let{rfl,h',o}:=I;rw[show min (max (max ok 1) n) n=n by lia]at o;exact{rfl,h',o}
 ·by_cases c:ok=0
  ·rw[show i=j by lia];exact Ch _
  ·exact ho i j hi VJ ?A
 ·let{rfl,h',o}:=I;exact um<|q o_ h' o
end
abbrev SM':=StateT SortSt Sem
end TS
namespace TS
end TS
namespace TS
open PySem PyProof.Rows
section
variable {rk:SL->Int}
abbrev Le(rk:SL->Int)(x y:Keyed):Prop:=rk x.1<=rk y.1
theorem GS{a:UF Keyed}(h:UX rk a 0 a.size):a.toList.Pairwise (Le rk):=by
 rw[List.pairwise_iff_getElem];intro i j hi hj VJ;have Xn:i<a.size:=by simpa using hi
 have Xm:j<a.size:=by simpa using hj
 have:=h i j ?X (Me VJ) Xm;rw[BH<|mo Xn,BH<|mo Xm]at this;simpa using this
end
end TS
namespace TS
end TS
namespace TS
end TS
namespace TS
open PySem PyProof.Rows
section
variable {rk:SL->Int}
def Cov:Re (Nat×Nat×Nat)->Nat->Nat->Prop
 | [],lo,hi=>lo=hi
 | (s,n,_)::r,lo,hi=>s=lo/\1<=n/\Cov r (lo+n) hi
structure Rn(κ:SortKind)(rk:SL->Int)(a₀:UF Keyed)(hi:Nat)(st:SortSt):Prop where
 pm:(arrOf st).Perm a₀
 kd:kindOf st=κ
 fl:failedOf st=none
 cv:Cov (pendingOf st).toList 0 hi
 so:∀x∈(pendingOf st).toList,UX rk ?jk x.1 (x.1+x.2.1)
 le:hi<=a₀.size
variable {prog:Tl}{w:TD}{A:UV}{E:w_}{s:SZ}{κ:SortKind}{a₀:UF Keyed}
end
end TS
namespace TS
end TS
namespace TS
open PySem PyProof.Rows
variable {vs:Re SL}{n:Nat}{a:Tk}{o:Obj}
abbrev Cu:=SC Unit×Unit
def Pn(pw:Nat):SM' (ForInStep Cu):=do
 let st <-get
 match (if(pendingOf st).size>1 then(pendingOf st)[(pendingOf st).size - 2]? else none)with
 | some (_,_,o) =>
  if o<=pw then pure (.done (none,()))
  else do
   let b <-mergeAt' ((pendingOf st).size - 2)
   if(!b)=true then pure (.done (some (),()))else pure (.yield (none,()))
 | _=>pure (.done (none,()))
def addW(lo n:Nat):SM' (ForInStep<|SC Unit×Nat):=do
 modify λc=>setPending c<|(pendingOf c).push (lo,n,0)
 pure (.yield (none,lo+n))
def Bi(z lo n:Nat):SM' (ForInStep<|SC Unit×Nat):=do
 let st <-get
 match (pendingOf st).back? with
 | some (s1,n1,_)=>do
  let c <-forIn [0:z] ((none,()):Cu) λ_ _=>Pn<|power' z (2*s1+n1) (2*s1+n1+n1+n) z
  match c.1 with
  | some r=>pure (.done (some r,lo))
  | none=>do
   modify λc=>setPending c<|(pendingOf c).modify ((pendingOf c).size - 1) λx=>(x.1,x.2.1,power' z (2*s1+n1) (2*s1+n1+n1+n) z)
   addW lo n
 | _=>addW lo n
def LD(P:Runs):Nat:=if((if P.size - 2>0 then P[P.size - 2 - 1]?.map (·.2.1)else none).any (· < (P[P.size - 2+1]?.elim 0 (·.2.1))))=true then P.size - 2 - 1 else P.size - 2
def J7:SM' (ForInStep Cu):=do
 let st <-get
 if(pendingOf st).size<=1 then pure (.done (none,()))
 else do
  let b <-mergeAt' (LD<|pendingOf st)
  if(!b)=true then pure (.done (some (),()))else pure (.yield (none,()))
theorem Hr:sortRuns'=(do
  let st <-get
  let c <-forIn [0:(arrOf st).size] ((none,0):SC Unit×Nat) λ_ c =>
   if c.2>=(arrOf st).size then pure (.done (none,c.2))
   else do
    match <-countRun' c.2 ((arrOf st).size - c.2)with
    | some f =>
     if f<minRun' (arrOf st).size (arrOf st).size 0 then do
      liftM (rule "list.sort.binary-insertion")
      let b <-binarySort' c.2 (min ((arrOf st).size - c.2)<|minRun' (arrOf st).size (arrOf st).size 0) f
      if(!b)=true then pure (.done (some (),c.2))
      else Bi (arrOf st).size c.2 (min ((arrOf st).size - c.2)<|minRun' (arrOf st).size (arrOf st).size 0)
     else Bi (arrOf st).size c.2 f
    | _=>pure (.done (some (),c.2))
  match c.1 with
  | some r=>pure r
  | none=>do
   let c <-forIn [0:(arrOf st).size] ((none,()):Cu) λ_ _=>J7
   match c.1 with
   | some r=>pure r
   | none=>pure ()):=by
 kernel_rfl
section
variable {z:Nat} {rk:SL->Int} {prog:Tl} {w:TD} {A:UV} {E:w_} {s:SZ} {κ:SortKind} {a₀:UF Keyed}
def Rp(κ:SortKind)(rk:SL->Int)(a₀:UF Keyed)(lo n:Nat)(st:SortSt):Prop:=Rn κ rk a₀ lo st/\1<=n/\lo+n<=a₀.size/\UX rk ?jk lo (lo+n)
theorem De:∀n,n<64->minRun' n n 0=n:=by decide +kernel
theorem Cw{st:SortSt}{Q:ForInStep (SC Unit×Nat)->SortSt->Prop}(h:Rp κ rk a₀ 0 n st)(hp:pendingOf st = #[])(q:∀o_,Rn κ rk a₀ n o_->(pendingOf o_).size<=1->Q (.yield (none,n)) o_):wpS ?D A E s (Bi z 0 n) Q st:=by
 let{r,n1,le,o}:=h;unfold Bi;refine li<|wpS_get ?_;rw[hp];show wpS ?D A E s (addW 0 n) Q st;unfold addW;have e:0+n=n:=Nat.zero_add n;rw[e];refine li (wpS_modify (um (q _ {r.pm,r.kd,r.fl,?_,λx hx=>?_,by omega} ?_)))
 ·show Cov ((pendingOf st).push (0,n,0)).toList 0 n;rw[hp];exact{rfl,n1,by show 0+n=n;exact e}
 ·have Rx:x∈((pendingOf st).push (0,n,0)).toList:=hx;rw[hp]at Rx;rw[List.mem_singleton.mp Rx];exact o
 ·show((pendingOf st).push (0,n,0)).size<=1;rw[hp];exact ac _
theorem qy{st:SortSt}{Q:Unit->SortSt->Prop}(hC:qv prog w A s κ rk a₀)(h2:1<=a₀.size)(h64:a₀.size<64)(h:Rn κ rk a₀ 0 st)(q:∀o_,(arrOf o_).Perm a₀->failedOf o_=none->UX rk ?jp 0 a₀.size->Q () o_)(hp0:pendingOf st = #[]):wpS ?D A E s sortRuns' Q st:=by
 rw[Hr];refine li<|wpS_get ?_;have hsz:(arrOf st).size=a₀.size:=h.pm.size_eq;rw[hsz,De _ h64];refine li<|wpS_mono (Qf (I:=λx c o_=>∃lo,c=(none,lo)/\Rn κ rk a₀ lo o_/\(x=0/\lo=0/\pendingOf o_ = #[]\/lo=a₀.size/\(pendingOf o_).size<=1)) (Q:=λc o_=>c=(none,a₀.size)/\Rn κ rk a₀ a₀.size o_/\(pendingOf o_).size<=1) (λx c o_ _ hx I=>?_) (λc o_ I=>?_) {0,rfl,h,.inl {rfl,rfl,hp0}}) λc o_ I=>?_
 ·let{lo,rfl,r,hl}:=I;have rle:=r.le;dsimp only;split
  ·let{_,rfl,_}||{rfl,hp}:=hl
   ·omega
   ·exact um {rfl,r,hp}
  ·rename_i c;let{hx0,rfl,hp}||{rfl,hp}:=hl
   ·have sb:SB κ a₀ 0 ?jp (pendingOf o_) o_:={r.pm,r.kd,r.fl,λ_ _=>rfl,rfl};have back:∀Rf n,SB κ a₀ 0 ?jp (pendingOf o_) Rf->1<=n->0+n<=a₀.size->UX rk (arrOf Rf) 0 (0+n)->Rp κ rk a₀ 0 n Rf:=λRf n b n1 n2 o=>by
     refine{{b.pm,b.kd,b.fl,by rw[b.pe,hp];rfl,λx hx=>?_,r.le},n1,n2,o};rw[b.pe,hp]at hx
     cases hx
    refine li<|KE hC ?S ?S sb λm Rf ⟨b2,m1,m2,o2⟩=>?_;dsimp only;split
    ·refine li<|wpS_lift<|P4 {rfl,li<|Mn hC ?S ?S b2 o2 λYO b3 o3=>?_};rw[ax ?C];have em:min (a₀.size - 0) a₀.size=a₀.size:=by omega
     rw[em]at o3 ⊢;exact Cw (back YO _ b3 ?S ?S o3) (by rw[b3.pe,hp]) λst4 r4 p4=>{_,rfl,r4,.inr {rfl,p4}}
    ·have em:m=a₀.size:=by omega
     subst em;exact Cw (back Rf _ b2 m1 ?S o2) (by rw[b2.pe,hp]) λst4 r4 p4=>{_,rfl,r4,.inr {rfl,p4}}
   ·omega
 ·let{lo,rfl,r,hl}:=I;let{h0,_}||{rfl,hp}:=hl
  ·omega
  ·exact{rfl,r,hp}
 ·let{rfl,r,hp}:=I;dsimp only;refine li<|wpS_mono (Qf (I:=λx c Rf=>c=(none,())/\Rn κ rk a₀ a₀.size Rf/\(pendingOf Rf).size<=1) (Q:=λc Rf=>c=(none,())/\Rn κ rk a₀ a₀.size Rf/\(pendingOf Rf).size<=1) (λx c Rf _ hx I=>?_) (λc Rf I=>I) {rfl,r,hp}) λc Rf I=>?_
  ·let{rfl,r2,sz}:=I;unfold J7;refine li<|wpS_get ?_;rw[ar sz];exact um {rfl,r2,sz}
  ·let{rfl,r2,sz}:=I;dsimp only;refine um<|q Rf r2.pm r2.fl ?_;have cv:=r2.cv;have so:=r2.so;have hl:(pendingOf Rf).toList.length<=1:=by rw[y9];exact sz
   match hP:(pendingOf Rf).toList,hl,cv,so with
   | [],_,cv,_=>have:0=a₀.size:=cv;omega
   | [(a,n,p)],_,cv,so =>
    let{rfl,_,e}:=cv;have e':0+n=a₀.size:=e;have:=so (0,n,p) cr;dsimp only at this;rw[e']at this;exact this
   | _::_::_,hl,_,_=>simp at hl
end
def mid(s:SZ)(a:Tk)(vs:Re SL):SZ:={ s with heap:=((s.heap.update a<|Obj.mapSeq λ_=>#[]).push<|seqObj "tuple" vs.toArray 0).push ?jK }
section
variable {prog:Tl} {w:TD} {A:UV} {E:w_} {s:SZ} {κ:SortKind} {rk:SL->Int}
theorem FO{P:Fin->SZ->Prop}(ho:s.heap.get? a=some (seqObj "list" vs.toArray n))(h64:vs.length<64)
  (hk:2<=vs.length->∀Q:SortKind->SZ->Prop,Q κ (mid s a vs)->wpAny ?D A (keyKind' vs.toArray) Q E (mid s a vs)) (hC:2<=vs.length->qv prog w A (mid s a vs) κ rk (pairsOf vs))
  (h:∀out:UF SL,out.toList.Perm vs->out.toList.Pairwise (λx y=>rk x<=rk y)->P (.done<|.ret .none) { s with heap:=sortedHeap s.heap a vs out }):wpAny ?D A (Builtin.«list.sort» {[.ref a],[]}) P E s:=by
 have hz:vs.length<=sizeLine:=bj (Me h64) ?C;have x_:=aw ho;obtain⟨ep,ho1⟩:∃ep,(s.heap.update a<|Obj.mapSeq λ_=>#[]).get? a=some (seqObj "list" #[] ep):={_,QH ho λ_=>#[]};have Tw:(mid s a vs).heap.get? a=some (seqObj "list" #[] ep):=by
  unfold mid;dsimp only;rw[wo,wo]
  ·exact ho1
  ·rw[u8];exact bu x_
  ·rw[Qz,u8];exact bu<|wn x_
 rw[list_sort_plain];refine h_ (QA ho rfl (h_ (Qt ho rfl (h_<|seqEpoch_at ho1 rfl<|h_<|wpAny_newTuple<|h_<|wpAny_newList<|oP ?_)  (by simpa using hz) ?X)));have mem:∀p∈(pairsOf vs).toList,p.1=p.2/\p.1∈vs:=λp hp=>by
  rw[pairsOf_toList]at hp;exact mem_zip_self hp
 have fin:∀c:SortSt,(arrOf c).Perm (pairsOf vs)->UX rk (arrOf c) 0 (arrOf c).size->P (.done<|.ret .none) { s with heap:=sortedHeap s.heap a vs ((arrOf c).map (·.2)) }:=λc hp ha=>by
  have W0:=Array.perm_iff_toList_perm.mp hp;have e:((arrOf c).map (·.2)).toList=(arrOf c).toList.map (·.1):=by
   rw[Array.toList_map];exact gi λp q=>(mem p<|W0.mem_iff.mp q).1.symm
  refine h _ ?_ ?_
  ·rw[e];have:=W0.map (·.1)
   rwa [pairsOf_toList,List.map_fst_zip ?jm]at this
  ·rw[e,Qp];exact GS ha
 have ZF:∀c:SortSt,(arrOf c).Perm (pairsOf vs)->((arrOf c).map (·.2)).size<=sizeLine+1:=λc hp=>by
  rw[Array.size_map,hp.size_eq,pairsOf_size];omega
 have vz:vs.toArray.size=vs.length:=f8 ..;show wpAny ?D A _ P E<|mid s a vs;by_cases c:vs.length<2
 ·rw[ar (by rw[vz];exact c),ar (by rw[vz];exact c)];refine h_<|m_ ?_;dsimp only;rw[StateT.run_pure];refine h_<|m_<|h_<|seqEpoch_at Tw rfl<|h_<|Qt Tw rfl ?_ ?X<|ZF (SortSt.mk' general' (vs.toArray.zip vs.toArray) #[] 7 none)<|Array.Perm.refl _;rw[ax ?G];refine m_<|fin (SortSt.mk' general' (vs.toArray.zip vs.toArray) #[] 7 none) (Array.Perm.refl _) λi j _ ij hj=>?_;have Xm:j<(pairsOf vs).size:=hj;rw[pairsOf_size]at Xm;rw[show i=j by omega];exact Ch _
 ·rw[ax (by rw[vz];exact c),ax (by rw[vz];exact c)];refine h_<|hk ?S _ ?_;have so:=qy (E:=E) (hC ?S) (by rw[pairsOf_size];omega) (by rw[pairsOf_size];exact h64) (hp0:=rfl) (st:=SortSt.mk' κ (vs.toArray.zip vs.toArray) #[] 7 none) (Q:=λ_ c=>(arrOf c).Perm (pairsOf vs)/\failedOf c=none/\UX rk (arrOf c) 0 (pairsOf vs).size)
   {Array.Perm.refl _,rfl,rfl,rfl,(λx hx=>by cases hx),ai _} λc a1 a2 a3=>{a1,a2,a3}
  refine h_<|pd so (λr s' ⟨e,a1,a2,a3⟩=>?_) λ_ _ e=>e;subst e;obtain⟨⟨⟩,c⟩:=r;dsimp only at a1 a2 a3 ⊢;refine h_<|seqEpoch_at Tw rfl<|h_<|Qt Tw rfl ?_ ?X<|ZF c a1;rw[a2];dsimp only;rw[ax ?G];exact m_ (fin c a1 (by rw[a1.size_eq];exact a3))
theorem IU{l:Tk}{Q:Re SL->SZ->Prop}(ho:s.heap.get? l=some o)(hc:o.cls=.type "list" \/ o.cls=.type "tuple")(hd:o.data=.seq vs.toArray n)(hz:vs.length<=sizeLine)
  (h:Q vs { s with heap:=(s.heap.push ?jK).update s.heap.objs.size (Obj.mapSeq (· ++ vs.toArray)) }):wpAny ?D A (collect<|.ref l) Q E s:=by
 have Vd:(s.heap.push ?jK).get? l=some o:=z_ _ ho;have e0:(s.heap.push ?jK).get? s.heap.objs.size=some ?jK:=QV _ rfl;unfold collect;refine h_<|wpAny_runValue<|QI entry_proto_collect' ?_;show wpAny ?D _ (newList [] >>= λx=>again<|.builtin "list.__iadd__" {[x,.ref l],[]}) _ _ s;refine h_<|wpAny_newList<|m_ {Code.quiet_builtin _ ?E,QI entry_list_iadd' ?_};show wpAny ?D _ (Builtin.List.listExtendWith (.ref s.heap.objs.size) (.ref l)<|.ref s.heap.objs.size) _ _ { s with heap:=s.heap.push ?jK };unfold Builtin.List.listExtendWith;have sz:(((· ++ vs.toArray):UF SL->UF SL) #[]).size<=sizeLine+1:=by
  show(#[]++vs.toArray).size<=_;rw[Array.size_append,f8];simp![f8,PN];omega
 have tail:wpAny ?D A (do
   let o <-load s.heap.objs.size
   match o.data with
   | .seq xs _=>pure xs.toList
   | _=>unsupported "internal:collect") Q E { s with heap:=(s.heap.push ?jK).update s.heap.objs.size (Obj.mapSeq (· ++ vs.toArray)) }:=by
  refine h_<|wpAny_load (QH e0 _) ?_;show wpAny ?D A (pure ((#[]:UF SL)++vs.toArray).toList) Q E _;rw[show((#[]:UF SL)++vs.toArray).toList=vs by simp];exact m_ h
 let hc||hc:=hc
 ·refine h_<|Li (T := "list") {o,Vd,hc} ?_;rw[ar (by rw[show(Value.type "list" == Value.type "list")=true from rfl];simp)];refine h_<|QA Vd hd<|h_<|QA (xs:=#[]) (n:=0) e0 rfl ?_;rw[ax ?G];exact h_<|Qt (xs:=#[]) (n:=0) e0 rfl (m_ tail) ?X sz
 ·refine h_<|Li (T := "tuple") {o,Vd,hc} ?_;rw[ar (by rw[show(Value.type "tuple" == Value.type "tuple")=true from rfl];simp)];refine h_<|QA Vd hd<|h_<|QA (xs:=#[]) (n:=0) e0 rfl ?_;rw[ax ?G];exact h_<|Qt (xs:=#[]) (n:=0) e0 rfl (m_ tail) ?X sz
def gC(s:SZ)(vs:Re SL):SZ:={ s with heap:=s.heap.push (seqObj "list" vs.toArray 0) }
theorem zE{x:SL}{Q:w_}(col:∀(E':w_) (Q':Re SL->SZ->Prop),(∀vs s2,(vs.length<64/\∃(κ:SortKind) (rk:SL->Int),
   (2<=vs.length->∀(E':w_) (Q:SortKind->SZ->Prop),Q κ (mid (gC s2 vs) s2.heap.objs.size vs)->wpAny ?D A.in1.in1 (keyKind' vs.toArray) Q E' (mid (gC s2 vs) s2.heap.objs.size vs)) /\
   (2<=vs.length->qv prog w A.in1.in1 (mid (gC s2 vs) s2.heap.objs.size vs) κ rk (pairsOf vs)) /\
   ∀out:UF SL,out.toList.Perm vs->out.toList.Pairwise (λx y=>rk x<=rk y)->Q (.ref s2.heap.objs.size) { s2 with heap:=sortedHeap (gC s2 vs).heap s2.heap.objs.size vs out })->Q' vs s2)->wpAny ?D A.in1 (collect x) Q' E' s) :
  wpAny ?D A (call (.builtin "sorted") [x]) Q E s:=by
 refine Calls.call_function_entry kind_sorted plain_sorted entry_sorted (args_sorted1 _) ?_;unfold Builtin.«sorted»;refine h_ (m:=checkCount "sorted" 1 1 _)<|m_<|h_<|col _ _ λvs s2 ⟨hz,κ,rk,hk,hC,h⟩=>h_<|wpAny_newList ?_;have hg:(gC s2 vs).heap.get? s2.heap.objs.size=some (seqObj "list" vs.toArray 0):=QV _ rfl;show wpAny _ _ _ _ _<|gC s2 vs;exact h_<|oP<|im slot_list_sort {_,hg,rfl} entry_list_sort (FO hg hz (λc=>hk c _) hC λout a1 a2=>{_,rfl,m_ {_,rfl,h out a1 a2}})<|args_list_sort _
theorem vJ{h:Wp}{out:UF SL}{b:Tk}(ZK:b≠a)(e:h.get? b=some o):(sortedHeap h a vs out).get? b=some o:=by
 have x_:b<h.objs.size:=aw e;unfold sortedHeap;rw[Qe _ _ _ _ ZK,wo _ _ _ (by rw[Qz,u8];exact bu<|wn x_),wo _ _ _ (by rw[u8];exact bu x_),Qe _ _ _ _ ZK];exact e
theorem zF{h:Wp}{out:UF SL}(ho:h.get? a=some (seqObj "list" vs.toArray n)):∃e,(sortedHeap h a vs out).get? a=some (seqObj "list" out e):=by
 have x_:a<h.objs.size:=aw ho;obtain⟨ep,e1⟩:∃ep,(h.update a<|Obj.mapSeq λ_=>#[]).get? a=some (seqObj "list" #[] ep):={_,QH ho λ_=>#[]};unfold sortedHeap;refine{_,QH (n:=ep) (xs:=#[]) ?_ λ_=>out};rw[wo _ _ _ (by rw[Qz,u8];exact bu<|wn x_),wo _ _ _ (by rw[u8];exact bu x_)];exact e1
theorem Ik{b:Tk}(e:s.heap.get? b=some o):(mid (gC s vs) s.heap.objs.size vs).heap.get? b=some o:=by
 have x_:b<s.heap.objs.size:=aw e;unfold mid gC;dsimp only;rw[wo _ _ _ (by rw[Qz,u8,Qz];exact bu<|wn<|wn x_),wo _ _ _ (by rw[u8,Qz];exact bu<|wn x_),Qe _ _ _ _<|bu x_];exact z_ _ e
end
end TS
namespace L4
open PySem PySem.Spec PyProof.Rows L2 L3
variable {α:Type}
section
open HT
theorem sg:∀a:Re Int,lexLt a a=false
 | []=>rfl
 | x::a=>by rw[F_,ar rfl];exact sg a
theorem BF:∀{a b c:Re Int},lexLt a b=true->lexLt b c=true->lexLt a c=true
 | [],[],_,h,_=>by cases h
 | [],_::_,[],_,h=>by cases h
 | [],_::_,_::_,_,_=>rfl
 | _::_,[],_,h,_=>by cases h
 | _::_,_::_,[],_,h=>by cases h
 | x::a,y::b,z::c,h1,h2=>by
  rw[F_]at h1 h2 ⊢;by_cases e1:x=y
  ·by_cases e2:y=z
   ·rw[ar e1]at h1;rw[ar e2]at h2;rw[ar<|e1.trans e2];exact BF h1 h2
   ·rw[ax e2,QS]at h2;rw[ax ?S,QS];omega
  ·rw[ax e1,QS]at h1;by_cases e2:y=z
   ·rw[ax ?S,QS];omega
   ·rw[ax e2,QS]at h2;rw[ax ?S,QS];omega
theorem oW:∀{a b:Re Int},lexLt a b=false->lexLt b a=false->a=b
 | [],[],_,_=>rfl
 | [],_::_,h,_=>by cases h
 | _::_,[],_,h=>by cases h
 | x::a,y::b,h1,h2=>by
  rw[F_]at h1 h2;by_cases e:x=y
  ·rw[ar e]at h1;rw[ar e.symm]at h2;rw[e,oW h1 h2]
  ·rw[ax e,lu]at h1;rw[ax λz=>e z.symm,lu]at h2;omega
theorem FN{a b:Re Int}(h:lexLt a b=true):lexLt b a=false:=by
 cases q:lexLt b a with
 | false=>rfl
 | true=>have:=BF h q;rw[sg]at this;cases this
end
theorem DM{p q:α->Bool}{l:Re α}{x:α}(h:∀y∈l,p y=true->q y=true)(hx:x∈l)(h1:p x=false)(h2:q x=true):l.countP p<l.countP q:=by
 induction l with
 | nil=>cases hx
 | cons y l ih =>
  have hm:∀z∈l,p z=true->q z=true:=λz hz=>h z<|Sw _ hz
  have le:l.countP p<=l.countP q:=List.countP_mono_left hm;rw[List.countP_cons,List.countP_cons];let rfl||hx:=List.mem_cons.mp hx
  ·rw[h1,h2];simp;omega
  ·have:=ih hm hx;have hy:=h y cr
   cases e:p y with
   | false=>simp;omega
   | true=>rw[hy e];simp;omega
def Q2{α:Type}(l:Re α)(k:α->Re Int)(x:α):Int:=(l.countP λu=>HT.lexLt (k u)<|k x:Nat)
theorem vV{l:Re α}{k:α->Re Int}{x y:α}(hx:x∈l)(hy:y∈l):decide (Q2 l k x<Q2 l k y)=HT.lexLt (k x) (k y):=by
 have up:∀x y,x∈l->HT.lexLt (k x) (k y)=true->Q2 l k x<Q2 l k y:=λx y hx h=>by
  have:=DM (p:=λu=>HT.lexLt (k u)<|k x) (q:=λu=>HT.lexLt (k u)<|k y) (l:=l) (λz _ hz=>BF hz h) hx (sg _) h;unfold Q2;omega
 cases e:HT.lexLt (k x) (k y)with
 | true=>exact ba<|up x y hx e
 | false =>
  rw[lu];intro z
  cases e2:HT.lexLt (k y) (k x)with
  | true=>have:=up y x hy e2;omega
  | false =>
   have ek:=oW e e2;unfold Q2 at z;rw[ek]at z;omega
def Ai:D->Bool
 | .tuple ds=>match intsOf ds with
  | some (_::_)=>true
  | _=>false
 | _=>false
def Ah:D->Bool
 | .int _=>true
 | _=>false
def eF(ds:Re D):Bool:=decide (ds.length<64)&&(ds.all Ah||ds.all Ai)
def s_:D->Re Int
 | .int i=>[i]
 | .tuple ds=>(intsOf ds).getD []
 | _=>[]
def WX(x y:D):Bool:=!HT.lexLt (s_ y) (s_ x)
def mQ(ds:Re D):Re D:=ds.mergeSort WX
theorem ju(ds:Re D):(mQ ds).Perm ds:=List.mergeSort_perm ds WX
theorem Lz(x y z:D)(h1:WX x y=true)(h2:WX y z=true):WX x z=true:=by
 unfold WX at *;rw[ye]at *
 cases e:HT.lexLt (s_ z) (s_ x)with
 | false=>rfl
 | true =>
  exfalso
  cases e2:HT.lexLt (s_ x) (s_ y)with
  | true=>have:=BF e e2;rw[h2]at this;cases this
  | false=>rw[oW e2 h1,h2]at e;cases e
theorem Iy(x y:D):(WX x y||WX y x)=true:=by
 unfold WX
 cases e:HT.lexLt (s_ y) (s_ x)with
 | false=>rfl
 | true=>rw[FN e];rfl
theorem mP(ds:Re D):(mQ ds).Pairwise λx y=>WX x y=true:=List.pairwise_mergeSort Lz Iy ds
theorem uH{R:D->D->Prop}:∀{a b:Re D},(∀x∈b,∀y∈b,R x y->R y x->x=y)->a.Perm b->a.Pairwise R->b.Pairwise R->a=b
 | [],b,_,hp,_,_=>by simpa using hp.symm.eq_nil
 | x::r,b,hR,hp,ha,hb=>by
  cases b with
  | nil=>exact absurd hp.length_eq ?G
  | cons y t =>
   rw[List.pairwise_cons]at ha hb;have hx:x∈y::t:=hp.mem_iff.mp cr;have hy:y∈x::r:=hp.mem_iff.mpr cr;have e:x=y:=by
    let e||Rx:=List.mem_cons.mp hx
    ·exact e
    ·let e||Vb:=List.mem_cons.mp hy
     ·exact e.symm
     ·exact hR x hx y cr (ha.1 y Vb)<|hb.1 x Rx
   subst e;rw[uH (λx hx y hy=>hR x (Sw _ hx) y<|Sw _ hy) (List.Perm.cons_inv hp) ha.2 hb.2]
theorem lc{d:D}(h:Ai d=true):∃n r,d=.tuple ((n::r).map PyData.int):=by
 unfold Ai at h;split at h
 ·rename_i ds;split at h
  ·rename_i n r e;exact{n,r,by rw[dP e]}
  ·cases h
 ·cases h
theorem kZ{d:D}(h:Ah d=true):∃n,d=.int n:=by
 cases d<;>first|exact{_,rfl}|cases h
theorem IA{ds:Re D}(h:eF ds=true):∀x∈ds,∀y∈ds,s_ x=s_ y->x=y:=λx hx y hy e=>by
 unfold eF at h;rw[am]at h;replace h:=h.2;rw[gs,ir,ir]at h;let h||h:=h
 ·let{n,rfl}:=kZ<|h x hx;let{m,rfl}:=kZ<|h y hy;have e':[n]=[m]:=e;injection e' with e';rw[e']
 ·let{n,r,rfl}:=lc<|h x hx;let{m,t,rfl}:=lc<|h y hy;have kt:∀l:Re Int,s_ (.tuple<|l.map PyData.int)=l:=λl=>by
   show(intsOf<|l.map PyData.int).getD []=l;rw[mC];rfl
  rw[kt,kt]at e;rw[e]
theorem xT{ds r:Re D}(h:eF ds=true)(hp:r.Perm ds)(hs:r.Pairwise λx y=>WX x y=true):r=mQ ds :=
 uH (λx hx y hy h1 h2=>IA h x ((ju ds).mem_iff.mp hx) y ((ju ds).mem_iff.mp hy) (by
  unfold WX at h1 h2;rw[ye]at h1 h2
  exact oW h2 h1)) (hp.trans (ju ds).symm) hs<|mP ds
theorem yb{β:Type}{f:α->β}:∀{out:Re β} {l:Re α},out.Perm (l.map f)->∃l':Re α,l'.Perm l/\l'.map f=out:=by
 intro out l h;generalize e:l.map f=m at h
 induction h generalizing l with
 | nil =>
  cases l with
  | nil=>exact{[],.refl _,rfl}
  | cons y l=>cases e
 | @cons x a b hp ih =>
  cases l with
  | nil=>cases e
  | cons y l =>
   rw[ap]at e;injection e with e1 e2;let{l',h1,h2}:=ih e2;exact{y::l',h1.cons y,by rw[ap,h2,e1]}
 | @swap x y a =>
  match l,e with
  | u::v::l,e =>
   rw[ap,ap]at e;injection e with e1 e2;injection e2 with e2 e3;exact{v::u::l,.swap _ _ _,by rw[ap,ap,e1,e2,e3]}
 | @trans a b c h1 h2 ih1 ih2 =>
  let{l1,p1,q1}:=ih2 e;let{l2,p2,q2}:=ih1 q1;exact{l2,p2.trans p1,q2}
end L4
namespace L4
open PySem PySem.Spec PyProof.Rows L2 L3 TS
theorem pQ{prog:Tl}{w:TD}{A:UV}{s:SZ}{b fin:Bool}{Q:Bool->SZ->Prop}:∀{vs us:Re SL} {ns ms:Re Int} (i:Nat),IntsAre vs ns->IntsAre us ms->fin=decide (vs.length<us.length)->Q (HT.lexLt ns ms) s ->
  PySem.W.KatLex prog w A b fin Q (vs.zip us) i s
 | _,_,_,_,i,.nil,.nil,e,q=>by
  subst e;exact q
 | _,_,_,_,i,.nil,.cons _ _ _,e,q=>by
  subst e;exact q
 | _,_,_,_,i,.cons _ _ _,.nil,e,q=>by
  subst e;exact q
 | _,_,_,_,i,.cons x t h1,.cons y u h2,e,q=>by
  rw[List.zip_cons_cons];refine PySem.W.kat_cons<|wpAny_eqBool_int ?_;rw[HT.F_]at q;by_cases c:x=y
  ·rw[ar c]at q;rw[show(x==y)=true by simpa using c];exact PySem.W.kat_yes (pQ ?qc h1 h2 (by rw[e];simp) q)
  ·rw[ax c]at q;rw[show(x==y)=false by simpa using c];refine PySem.W.kat_no ?_
   cases hb:(b&&i==0)with
   | true=>exact oneLt_int q
   | false=>exact PySem.W.kat_one _ _<|lt_int q
theorem triples{K:Fg}{F:Hp}:∀{vs:Re V} {ds:Re D} {j_:Re SL},i_ K F vs ds->Vals vs j_->∃L:Re (V×D×SL),L.map (·.1)=vs/\L.map (·.2.1)=ds/\L.map (·.2.2)=j_/\∀t∈L,Rep K F t.1 t.2.1/\RelV t.1 t.2.2
 | _,_,_,.nil,r=>by cases r;exact{[],rfl,rfl,rfl,λ_ h=>by cases h}
 | _,_,_,.cons h t,r=>by
  cases r with
  | cons r rr =>
   let{L,e1,e2,e3,e4}:=triples t rr;refine{(_,_,_)::L,by rw[ap,e1],by rw[ap,e2],by rw[ap,e3],λx hx=>?_};let rfl||hx:=List.mem_cons.mp hx
   ·exact{h,r}
   ·exact e4 x hx
theorem xL{K:Fg}{F:Hp}:∀{L:Re (V×D×SL)},(∀t∈L,Rep K F t.1 t.2.1/\RelV t.1 t.2.2)->i_ K F (L.map (·.1)) (L.map (·.2.1))/\Vals (L.map (·.1)) (L.map (·.2.2))
 | [],_=>{.nil,.nil}
 | x::L,h=>by
  let{h1,h2}:=h x cr;let{h3,h4}:=xL (L:=L) λt ht=>h t<|Sw _ ht
  exact{.cons h1 h3,.cons h2 h4}
def JL(K:Fg):Re V->Hp->VK->Prop:=λxs H Q=>∃(G:Gh) (F:Hp) (Z:L2.St) (ρ:En) (x:V) (d:D) (ds:Re D),xs=[x]/\b_ K G F Z H ρ/\OR K F H x d/\cH d=some ds/\eF ds=true /\
 ∀l vs,H l=none->i_ K F vs (mQ ds)->Q (.ref l) (upd H l<|.lst vs)
def pS:Re D->SC ?Q
 | [d]=>match cH d with
  | some ds=>if eF ds then some (mQ ds)else none
  | none=>none
 | _=>none
theorem FT{ds:Re D}(h:eF ds=true):PyData.canLayAll0 ds=true:=by
 have all:∀l:Re D,(∀d∈l,d.canLay0=true)->PyData.canLayAll0 l=true:=by
  intro l
  induction l with
  | nil=>intro _;simp[PyData.canLayAll0]
  | cons a l ih =>
   intro h;simp![PyData.canLayAll0,am];exact{h a cr,ih λd hd=>h d<|Sw _ hd}
 refine all ds λd hd=>?_
 unfold eF at h;rw[am]at h;replace h:=h.2;rw[gs,ir,ir]at h;let h||h:=h
 ·let{n,rfl}:=kZ<|h d hd;simp[PyData.canLay0]
 ·let{n,r,rfl}:=lc<|h d hd;simp![PyData.canLay0];refine all _ λd hd=>?_
  let{m,_,rfl}:=List.mem_map.mp hd;simp[PyData.canLay0]
theorem oY{h:Wp}:∀{vs:Re SL} {ns:Re Int} {as:Re Tk},ReadsAll h vs ?jb as->IntsAre vs ns
 | _,[],_,r=>by rw[List.map_nil]at r;cases r;exact .nil
 | _,n::ns,_,r=>by
  rw[ap]at r
  cases r with
  | cons a b =>
   cases a with
   | int i t=>exact .cons n t<|oY b
theorem all_ints:∀{ds:Re D},ds.all Ah=true->∃ns:Re Int,ds=ns.map PyData.int
 | [],_=>{[],rfl}
 | d::ds,h=>by
  rw[PM,am]at h;let{n,rfl}:=kZ h.1;let{ns,rfl}:=all_ints h.2;exact{n::ns,rfl}
theorem CN{X:Cx}{pins:C_}{Z σ':L2.St}{H F:Hp}{s:SZ}{G:Gh}{ρ:En}{vs:Re V}{ds:Re D}{j_:Re SL}{Q:VK}(I:Inv X pins Z H s)(S:b_ X.K G F σ' H ρ)(rl:i_ X.K F vs ds)(rv:Vals vs j_)(hz:vs.length<=sizeLine)(k_:eF ds=true)
  (k:∀l vs,H l=none->i_ X.K F vs (mQ ds)->Q (.ref l) (upd H l<|.lst vs)):j_.length<64/\∃(κ:SortKind) (rk:SL->Int),
   (2<=j_.length->∀(E':w_) (Q:SortKind->SZ->Prop),Q κ (mid (gC s j_) s.heap.objs.size j_)->wpAny ?B X.A.in1.in1 (keyKind' j_.toArray) Q E' (mid (gC s j_) s.heap.objs.size j_)) /\
   (2<=j_.length->qv X.prog X.w X.A.in1.in1 (mid (gC s j_) s.heap.objs.size j_) κ rk (pairsOf j_)) /\
   ∀out:UF SL,out.toList.Perm j_->out.toList.Pairwise (λx y=>rk x<=rk y)->EP X pins Z Q (.ref s.heap.objs.size) { s with heap:=sortedHeap (gC s j_).heap s.heap.objs.size j_ out }:=by
 have lay:=FT k_;have I1:Inv X pins Z H (mid (gC s j_) s.heap.objs.size j_):=I.kept (t':=s.toks) λb o e=>Ik e
 let{as,ra}:=(cD I1).2 (rl.mono S.fh) lay rv;generalize hs1:mid (gC s j_) s.heap.objs.size j_=s1 at I1 ra;have emap:j_.map (SeqAt.readOf s1.heap)=ds:=SeqAt.readsAll_map ds _ _ lay ra
 let kf:SL->Re Int:=λv=>s_<|SeqAt.readOf s1.heap v
 have Uw:∀x,x∈(pairsOf j_).toList->x.1∈j_:=λx hx=>by
  rw[pairsOf_toList]at hx;exact(mem_zip_self hx).2
 have hzl:j_.length<=sizeLine:=by rw[<-rv.length];exact hz
 have fin:∀out:UF SL,out.toList.Perm j_->out.toList.Pairwise (λx y=>Q2 j_ kf x<=Q2 j_ kf y)->EP X pins Z Q (.ref s.heap.objs.size) { s with heap:=sortedHeap (gC s j_).heap s.heap.objs.size j_ out }:=λout o1 o2=>by
  let{L,e1,e2,e3,e4}:=triples rl rv;rw[<-e3]at o1;let{L',p1,p2}:=yb o1;have e4':∀t∈L',Rep X.K F t.1 t.2.1/\RelV t.1 t.2.2:=λt ht=>e4 t<|p1.mem_iff.mp ht
  have rd:∀t∈L',SeqAt.readOf s1.heap t.2.2=t.2.1:=λt ht=>by
   let{a1,a2}:=e4' t ht;have:t.2.1∈ds:=by rw[<-e2];exact List.mem_map.mpr {t,p1.mem_iff.mp ht,rfl}
   have al:∀l:Re D,PyData.canLayAll0 l=true->∀d∈l,d.canLay0=true:=by
    intro l
    induction l with
    | nil=>intro _ d hd;cases hd
    | cons a l ih =>
     intro h d hd;simp![PyData.canLayAll0,am]at h;let rfl||hd:=List.mem_cons.mp hd
     ·exact h.1
     ·exact ih h.2 d hd
   have Ux:=al ds lay _ this;let{bs,rb}:=(cD I1).1 (a1.mono S.fh) Ux a2;exact SeqAt.readOf_eq Ux rb
  let{u1,u2}:=xL e4';have es:L'.map (·.2.1)=mQ ds:=by
   refine xT k_ (by rw[<-e2];exact p1.map _) ?_;rw[<-p2,Qp]at o2;rw[Qp];refine List.Pairwise.imp_of_mem (λ{x y} hx hy h=>?_) o2;have mx:x.2.2∈j_:=by rw[<-e3];exact List.mem_map.mpr {x,p1.mem_iff.mp hx,rfl}
   have my:y.2.2∈j_:=by rw[<-e3];exact List.mem_map.mpr {y,p1.mem_iff.mp hy,rfl}
   have q:=vV (k:=kf) my mx;rw[bi ?S]at q;show(!HT.lexLt (s_ y.2.1) (s_ x.2.1))=true;rw[<-rd x hx,<-rd y hy];show(!HT.lexLt (kf y.2.2) (kf x.2.2))=true;rw[<-q];rfl
  rw[es]at u1;rw[p2]at u2;let{ep,he}:=zF (out:=out)<|show(gC s j_).heap.get? s.heap.objs.size=some (seqObj "list" j_.toArray 0)from QV _ rfl;refine{.ref s.heap.objs.size,upd H s.heap.objs.size (.lst (L'.map (·.1))),I.laid (t':=s.toks) (λb o q=>vJ (bu<|aw q)<|z_ _ q) ?jm {?_,out.toList,ep,u2,?_},rfl,k _ _ ?j2 u1}
  ·rw[u2.length,<-p2,v_,p1.length_eq,<-v_ (f:=λt:V×D×SL=>t.2.2),e3];exact hzl
  ·exact he
 have h64:j_.length<64:=by
  have h:=k_;unfold eF at h;rw[am,QS]at h;rw[<-rv.length,rl.length];exact h.1
 have Vc:=k_;unfold eF at Vc;rw[am]at Vc;replace Vc:=Vc.2;rw[gs]at Vc;let hI||hT:=Vc
 ·let{ns,rfl}:=all_ints hI;have ia:IntsAre j_ ns:=oY ra;have kfi:∀{m:Int} {t:Tok},kf (.int m t)=[m]:=λ{m t}=>by
   show s_ (SeqAt.readOf s1.heap<|.int m t)=[m];rw[SeqAt.readOf_eq (d:=.int m) (by simp[PyData.canLay0])<|.int m t];rfl
  refine{h64,oneType',Q2 j_ kf,λh2 E' Q' q=>?_,λh2 x y hx hy E' Q' q=>?_,fin}
  ·match j_,ia,h2,q with
   | v1::v2::rest,ia,_,q =>
    rw[keyKind_ints ia];exact m_ q
  ·have Rx:=Uw x hx;have Vb:=Uw y hy;rw[vV Rx Vb]at q;let{m1,t1,e1}:=ia.all _ Rx;let{m2,t2,e2}:=ia.all _ Vb;rw[e1,e2]at q ⊢;rw[kfi,kfi]at q;rw[keyLt'_oneType];refine oneLt_int ?_;have:HT.lexLt [m1] [m2]=decide (m1<m2):=by
    rw[HT.F_];split
    ·rename_i e;rw[e];simp[HT.RK]
    ·rfl
   rw[this]at q;exact q
 ·rw[ir]at hT;have each:∀v∈j_,∃(a:Tk) (o:Obj) (xs:Re SL) (n:Nat) (m:Int) (ms:Re Int),v=.ref a/\s1.heap.get? a=some o/\o.cls=.type "tuple" /\ o.data=.seq xs.toArray n/\IntsAre xs (m::ms)/\kf v=m::ms:=λv hv=>by
   let{dv,bs,rd,hl,_}:=SeqAt.readsAll_mem ds j_ _ lay ra v hv;have er:=SeqAt.readOf_eq hl rd;have VI:dv∈ds:=by rw[<-emap,<-er];exact List.mem_map.mpr {v,hv,rfl}
   let{m,ms,rfl}:=lc<|hT dv VI
   cases rd with
   | tuple g1 g2 g3 g4 =>
    rename_i a o Xw n;refine{a,o,Xw.toList,n,m,ms,rfl,g1,g2,by rw[g3],oY g4,?_};show s_ (SeqAt.readOf s1.heap<|.ref a)=_;rw[er];show(intsOf<|(m::ms).map PyData.int).getD []=_;rw[mC];rfl
  refine{h64,tuples' true,Q2 j_ kf,λh2 E' Q' q=>?_,λh2 x y hx hy E' Q' q=>?_,fin}
  ·have fs:∀l:Re SL,(∀v∈l,v∈j_)->∃fs:Re SL,PySem.W.KatTups s1.heap l fs/\fs.length=l.length/\∀v∈fs,∃i t,v=.int i t:=by
    intro l
    induction l with
    | nil=>intro _;exact{[],trivial,rfl,λ_ h=>by cases h}
    | cons v l ih =>
     intro hl;let{fs,f1,f2,f3}:=ih λv hv=>hl v<|Sw _ hv
     let{a,o,xs,n,m,ms,rfl,g1,g2,g3,g4,_}:=each v<|hl v cr
     cases g4 with
     | cons _ t g5 =>
      refine{.int m t::fs,PySem.W.KatTups.cons g1 g2 g3 ?G f1,by simp[f2],λv hv=>?_};let rfl||hv:=List.mem_cons.mp hv
      ·exact{_,_,rfl}
      ·exact f3 v hv
   let{fs,f1,f2,f3}:=fs j_ λ_ h=>h
   refine PySem.W.kat_kind f1 ?S (T:=.type "int") (λv hv=>?_) rfl q;let{i,t,rfl}:=f3 v hv;exact PySem.W.Looks.now
  ·have Rx:=Uw x hx;have Vb:=Uw y hy;rw[vV Rx Vb]at q;let{a1,o1,xs1,n1,m1,ms1,e1,g1,g2,g3,g4,g5}:=each _ Rx;let{a2,o2,xs2,n2,m2,ms2,e2,k1,k2,k3,k4,k5}:=each _ Vb;rw[g5,k5]at q;rw[e1,e2];refine PySem.W.kat_lt g1 g3 k1 k3 ?_;have:=pQ (prog:=X.prog) (w:=X.w) (A:=X.A.in1.in1) (b:=true) (Q:=Q') 0 g4 k4 rfl q;simpa using this
theorem o8{X:Cx}:l_ X (.builtin "sorted") (JL X.K):=by
 intro pins s Z H xs us Q I r h0;let{G,F,σ',ρ,x,d,ds,rfl,S,ho,hd,k_,k}:=h0;let{u,rfl,ru}:=L2.Vals.one r;have zbu:∃(p:Tk) (o:Obj) (n:Nat) (vs:Re V) (j_:Re SL),u=.ref p/\s.heap.get? p=some o/\(o.cls=.type "list" \/ o.cls=.type "tuple")/\o.data=.seq j_.toArray n/\Vals vs j_/\vs.length<=sizeLine/\i_ X.K F vs ds:=by
  cases d with
  | list es =>
   cases hd
   let{a,vs,rfl,h1,h2}:=ho.list S.fh
   cases ru
   let{j_,rv,pl,hz}:=I.list h1;let{o,e1,e2,n,e3}:=pl.isList;exact{a,o,n,vs,j_,rfl,e1,.inl e2,e3,rv,hz,h2}
  | tuple es =>
   cases hd
   let{a,vs,rfl,h1,h2}:=ho.tuple S.fh
   cases ru
   let{j_,rv,{o,e1,e2,n,e3},hz}:=I.tuple h1;exact{a,o,n,vs,j_,rfl,e1,.inr e2,e3,rv,hz,h2}
  | _=>cases hd
 let{p,o,n,vs,j_,rfl,hp,Ux,TZ,rv,hz,rl}:=zbu;have I2:Inv X pins Z H { s with heap:=(s.heap.push ?jK).update s.heap.objs.size (Obj.mapSeq (· ++ j_.toArray)) }:=I.kept (t':=s.toks) λb o e=>by
  have x_:b<s.heap.objs.size:=aw e;rw[Qe _ _ _ _<|bu x_];exact z_ _ e
 exact zE λE' Q' q=>IU hp Ux TZ (by rw[<-rv.length];exact hz)<|q _ _<|CN I2 S rl rv hz k_ k
theorem v3{K:Fg}:CB K (JL K) pS:=by
 intro G F Z H ρ xs ds res Q S o e k;unfold pS at e;split at e
 ·rename_i d;split at e
  ·rename_i es hes;split at e
   ·rename_i k_
    cases e
    let{v,r,rfl,ho,hr}:=bN o;obtain rfl:=ci hr;refine{G,F,Z,ρ,v,d,es,rfl,S,ho,hes,k_,λl vs hl rp=>?_};let{S2,r2}:=S.P_ hl rp;exact k _ F _ ?I S2 r2
   ·cases e
  ·cases e
 ·cases e
end L4
namespace TS
open PySem PyProof.Rows
def DR(h:Wp)(d:Tk)(es:UF DictEntry)(ep:Nat):Prop:=∃o,h.get? d=some o/\o.ExactDict/\o.data=.dict es ep
theorem DR.ty{s:SZ}{d:Tk}{es:UF DictEntry}{ep:Nat}(x:DR s.heap d es ep):s.TypeIs (.ref d) "dict":=let ⟨o,e,c,_⟩:=x;{o,e,c.1}
section
variable {prog:Tl}{w:TD}{A:UV}{E:w_}{s:SZ}{d it:Tk}{es:UF DictEntry}{ep i:Nat}
theorem Y_{Q:w_}(lo:(d==sysModules)=false)(x:DR s.heap d es ep)(q:Q (.ref s.heap.objs.size) { s with heap:=s.heap.push { cls:=.type "dict_keyiterator",data:=.fields #[.ref d,.int 0 0,.int es.size 0,.int ep 0] } }) :
  wpAny ?D A (pyIter<|.ref d) Q E s:=by
 let{o,e1,e2,e3}:=id x;refine wpAny_pyIter_slot x.ty F.slot_dict_iter<|im F.slot_dict_iter x.ty F.entry_dict_iter ?_<|F.args_dict_iter_1 _;unfold Builtin.«dict.__iter__»;refine h_ ?_;unfold Builtin.Dict.dictSlotNone;refine h_<|QL x.ty<|show wpAny ?D _ (pure<|Value.ref d) _ _ s from m_ ?_;refine(show wpAny ?D _ (Builtin.Dict.showsAll d >>= _) _ _ s from ?_);unfold Builtin.Dict.showsAll;rw[ax (by rw[lo];decide)];refine h_<|m_<|h_<|PV e1 e3<|h_<|QG e1 e3<|h_<|gu<|m_ {_,rfl, "dict_keyiterator",_,{_,QV _ rfl,rfl},F.slot_dict_keyiterator_next.lookup,?_};simpa[rawInt]using q
theorem Wy{n:Nat}{Q:SC SL->SZ->Prop}(hit:s.heap.IsKeyIter it d i es.size ep)(x:DR s.heap d es ep)
  (q1:∀(hi:i<es.size) (h':Wp),h'.IsKeyIter it d ?qc es.size ep->Heap.SameBut it s.heap h'->Q (some es[i].key) { s with heap:=h' })
  (q2:es.size<=i->A.handled=none/\∀h',Heap.ExtBut it s.heap h'->Q none { s with heap:=h' }):wpAny ?D A (pyNext<|.ref it) Q E s:=by
 let{o,ho,hc,hd}:=id hit;let{od,f1,f2,f3}:=id x;have T:=hit.typeIs;have no:Builtin.Dict_items.ownsTuple "dict_keyiterator" = false:=by decide
 have pos:¬ ((i:Int)<0):=by omega
 unfold pyNext;refine h_<|Db<|g7 (name:=Str.ofString "__next__") T F.slot_dict_keyiterator_next<|im F.slot_dict_keyiterator_next T F.entry_dict_keyiterator_next ?_<|F.args_dict_keyiterator_next_1 _;refine h_<|m_<|h_<|h_<|h_<|P8 T<|m_<|h_<|wpAny_fieldsOf ho hd ?_;simp![no,Bool.false_eq_true,Qv];refine(show wpAny ?D _ (if(Value.ref d==Value.none)=true then _ else _) _ _ s from ?_);rw[ax<|show ¬ ((Value.ref d==Value.none)=true)from λz=>Bool.noConfusion z];refine h_<|m_<|h_<|PV f1 f3 ?_;rw[ax ?G];refine h_<|m_<|h_<|QG f1 f3 ?_;rw[ax ?G];refine m_ ?_;by_cases hi:i<es.size
 ·simp![pos,Qv,xz,mo hi];refine h_<|h_<|P8 T<|m_<|h_<|wpAny_isOneOf_keyiter T ?_;refine(show wpAny ?D _ (setField (.ref it) 1 (rawInt<|(i:Int)+1) >>= _) _ _ s from h_<|wP ho hd ?G ?_);have Zd:(s.heap.update it (Obj.mapFields (·.setIfInBounds 1<|rawInt<|(i:Int)+1))).IsKeyIter it d ?qc es.size ep :=
   {_,su _ ho<|wS<|ig hd _,(Qm ..).trans hc,by rw[ig hd];simp[rawInt]}
  refine h_ (oP (h_ (wpAny_isOneOf_keyiter (s:={ s with heap:=s.heap.update it (Obj.mapFields (·.setIfInBounds 1<|rawInt<|(i:Int)+1)) }) Zd.typeIs ?_)));refine(show wpAny ?D _ (pure es[i].key) _ _ _ from m_<|m_ {_,rfl,m_<|q1 hi _ Zd<|Heap.SameBut.update ..})
 ·let{hh,q}:=q2 ?S;simp![pos,Qv,xz,Array.getElem?_eq_none (show es.size<=i by omega)];refine h_<|h_<|P8 T<|m_ ?_;refine(show wpAny ?D _ (setField (.ref it) 0 .none >>= _) _ _ s from h_<|wP ho hd ?G ?_);refine(show wpAny ?D _ (newExc (.type "StopIteration") [] >>= _) _ _ _ from h_ ?_);simp![newExc,newTuple];refine h_ (gu ?_ (by size_fits));refine h_ (m:=firstArgMember _ _) (wpAny_of_eq (a:=Value.none) (by first|rfl|(simp![firstArgMember];rfl)) ?_);refine gu ?_ (by size_fits);simp![raiseNew];refine h_<|wpAny_handled ?_;rw[show A.in1.handled=none from hh];refine h_<|m_<|wpAny_throw ?_;refine h_ (Ma (T := "StopIteration") (b:=true) (by exact{_,QV _ rfl,rfl}) Qh ?_);exact m_<|q _<|((Heap.SameBut.update ..).extBut.push _).push _
end
end TS
namespace L4
open PySem PySem.Spec PyProof.Rows L2 L3 TS
variable {K:Fg}
theorem _root_.L3.b_.zay{G:Gh}{F H:Hp}{Z:L2.St}{ρ:En}(S:b_ K G F Z H ρ){b:Tk}{vs:Re V}{ds:Re D}(hb:H b=some (.tup vs))(r:i_ K F vs ds):∃F',c_ F F'/\b_ K G F' Z H ρ/\Rep K F' (.ref b) (.tuple ds):=by
 cases e:F b with
 | some o =>
  have:=S.fh b o e;rw[hb]at this
  cases this
  exact{F,c_.refl _,S,.tup e r}
 | none =>
  have og:G.O b=none:=by
   cases q:G.O b with
   | none=>rfl
   | some o =>
    have:=S.oh b o q;rw[hb]at this
    cases this
    exact((S.fo b _ q).2:False).elim
  refine{upd F b<|.tup vs,cx e,S.freeze hb e og λi c ho z=>?_,.tup aN<|r.mono<|cx e};let{a,e1,oa}:=S.ow i c ho;rw[z]at e1;injection e1 with e1;injection e1 with e1;injection e1 with e1;subst e1;exact(oa.he.XH hb:False)
theorem HA{F:Hp}:∀k:Key,Rep K F (kV k)<|L3.s_ k
 | .inl i=>.int i
 | .inr x=>.str x
theorem j0{K:Fg}{F:Hp}:∀ks:Re Key,i_ K F (ks.map kV)<|ks.map L3.s_
 | []=>.nil
 | k::ks=>.cons (HA k)<|j0 ks
theorem EH{G:Gh}{H:Hp}{Z:L2.St}{ρ:En}:∀{kvs:Re ?qs} {xs:Re ?jV} {F:Hp},KT H kvs xs->b_ K G F Z H ρ ->
  ∃F',c_ F F'/\b_ K G F' Z H ρ/\i_ K F' (xs.map λq=>V.ref q.2.1) (kvs.map λp=>dc p.1)/\Vals (xs.map λq=>V.ref q.2.1) (xs.map λq=>Value.ref q.2.1):=by
 intro kvs xs F r S
 induction r generalizing F with
 | nil=>exact{F,c_.refl _,S,.nil,.nil}
 | @cons p q ps qs h t ih =>
  let{h1,h2,h3}:=h;let{F1,s1,S1,r1}:=S.zay h2<|j0 p.1;let{F2,s2,S2,r2,v2}:=ih S1;exact{F2,s1.trans s2,S2,.cons ?qM r2,.cons rfl v2}
end L4
namespace L4
open PySem PySem.Spec PyProof.Rows L2 L3
variable {X:Cx}{pos p:Pos}{x f:Str}{K:Fg}{e ke ve:TW}{es:Re TW}{fd:FuncData}{ps:Re Str}
def Am:Re Int->SC Int
 | []=>none
 | n::r=>some<|r.foldl min n
def Ca:Re D->SC D
 | [.list ds]=>match intsOf ds with
  | some ns=>(Am ns).map PyData.int
  | none=>none
 | l=>Gu l
theorem DA(r:Re Int):∀n:Int,r.foldl min n<=n/\(∀i∈r,r.foldl min n<=i)/\(r.foldl min n=n\/r.foldl min n∈r):=by
 induction r with
 | nil=>grind
 | cons a r ih =>
  intro n;let{h1,h2,h3}:=ih<|min n a;rw[io];refine{by lia,λi hi=>?_,?_}
  ·let rfl||hi:=List.mem_cons.mp hi
   ·lia
   ·exact h2 i hi
  ·let h3||h3:=h3
   ·rw[h3];by_cases hna:a<=n
    ·right;rw[show min n a=a by lia];exact cr
    ·lia
   ·right;exact Sw _ h3
theorem va{ns:Re Int}{i:Int}(h:Am ns=some i):(∀j∈ns,i<=j)/\i∈ns:=by
 cases ns with
 | nil=>cases h
 | cons n r =>
  cases h
  let{h1,h2,h3}:=DA r n
  grind
theorem DQ(hc:X.calm=true):l_ X (.builtin "min") (pJ X.K Am):=by
 intro pins s Z H xs us Q I r h0;let{a,ns,i,rfl,hq,e,q}:=h0;let{u,rfl,ru}:=Vals.one r
 cases ru
 let{j_,rv,pl,hz}:=I.list hq;let{ps,rfl,rfl}:=fE rv;have VH:ps≠[]:=by rintro rfl;cases e
 have hl:s.heap.IsList a (intItems ps.toArray):=by
  have:=pl.isList;unfold intItems;simpa using this
 have X7:0<ps.length:=List.length_pos_iff.mpr VH;refine min_intList (I.ok.hd hc) hl (by simpa using X7) λv h' tk hv hk=>?_
 let{t,rfl}:=intItems_at hv;refine{.int _,H,I.kept hk,{_,rfl},?_};have b:=argBest_lt (numAt ps.toArray) ?qo;generalize argBest (λi j=>decide<|numAt ps.toArray i<numAt ps.toArray j) ?qo=m at b hv;have hm:m<ps.length:=by
  have h0:=b.1;simp at h0;lia
 have Uu:=va e;have e1:numAt ps.toArray m=i:=by
  refine Int.le_antisymm ?_ ?_
  ·let{j,hj,ej}:=oR Uu.2;have h0:=b.2 j (by simp at hj ⊢;lia);rw[fW (i:=j),fu,ay hj]at h0;rw[<-ej];exact h0
  ·refine Uu.1 _ ?_;rw[fW,fu,ay (by simpa using hm)];exact gh _
 rw[e1];exact q
def JN(K:Fg):Re V->Hp->VK->Prop:=λxs H Q=>pJ K Am xs H Q\/∃i j,xs=[.int i,.int j]/\Q (.int<|if j<i then j else i) H
theorem DS(hc:X.calm=true):l_ X (.builtin "min") (JN X.K):=(DQ hc).or<|DU hc
theorem Ia:il K (JN K) Ca:=by
 intro G F Z H ρ xs ds res Q S o e k;unfold Ca at e;split at e
 ·split at e
  case h_2=>cases e
  rename_i ns WC;let{i,hi,rfl}:=Option.map_eq_some_iff.mp e;let{v,r,rfl,ho,hr}:=bN o;obtain rfl:=ci hr;let{a,vs,rfl,h1,h2}:=ho.list S.fh;rw[dP WC]at h2;rw[eL h2]at h1;exact .inl {a,ns,_,rfl,h1,hi,k _ F H ?I S<|(.int _)}
 ·exact .inr<|Ib G F Z H ρ xs ds res Q S o e k
section
variable {prog:Tl} {w:TD} {A:UV} {E:w_} {s:SZ}
theorem zT(d:Tk)(hd:(d==sysModules)=false) :
  MeetsIn prog w (Builtin.«dict.__len__» {[.ref d],[]}) (λ_ R s=>∃o es ep,s.heap.get? d=some o/\o.data=.dict es ep/\R (.ok<|.ret<|.int es.size s.toks) { s with toks:=s.toks+1 }) :=
 .of_wp λA R s ⟨o,es,ep,ho,TZ,h⟩=>by
  show wpAny _ _ (dictSize d >>= _) _ _ s;refine h_<|h_<|PV ho TZ<|m_ ?_;refine h_<|wpAny_pendingCount_other hd ?_;refine wpAny_ret_mkInt ?_
  grind
theorem Az{d:Tk}{o:Obj}{es:UF DictEntry}{ep:Nat}{Q:w_}(hd:(d==sysModules)=false)(ho:s.heap.get? d=some o)(hc:o.cls=.type "dict")(TZ:o.data=.dict es ep)(Vg:(es.size:Int)<2^63)
  (h:Q (.int es.size<|s.toks+1) { s with toks:=s.toks+1+1 }):wpAny ?D A (call (.builtin "len") [.ref d]) Q E s:=by
 have ty:s.TypeIs (.ref d) "dict":={o,ho,hc};refine Calls.call_function_entry kind_len plain_len entry_len (args_len1 _) ?_;refine h_<|m_ ?_
 refine h_<|g7  ty F.slot_dict_len
  <|QC F.slot_dict_len ty F.entry_dict_len (F.args_dict_len_1 _) (zT d hd) {o,es,ep,ho,TZ,?_}
 refine h_<|oP<|m_ ?_;refine h_<|P9 ?_;rw[ax ?A];rw[ax ?A];exact h_<|wpAny_mkInt<|m_ {_,rfl,h}
end
def JP:Re V->Hp->VK->Prop:=λxs H Q=>∃a n,xs=[.ref a]/\((∃kvs,Rd H a (.dT kvs)/\n=kvs.length)\/∃kvs,H a=some (.dK kvs)/\n=kvs.length)/\Q (.int (n:Nat)) H
theorem DZ:l_ X (.builtin "len") JP:=by
 intro pins s Z H xs us Q I r h0;let{a,n,rfl,hd,q}:=h0;let{u,rfl,ru}:=L2.Vals.one r
 cases ru
 let{kvs,e,rfl}||{kvs,e,rfl}:=hd
 ·let{z,lo,xs,kt,o,es,ep,h1,h2,h3,h4,_}:=lO I.k_ e;have el:es.size=kvs.length:=by
   rw[<-y9,h4,v_];exact(Paired.length kt).symm
  refine Az lo h1 h2.1 h3 (by rw[sizeLine_eq]at z;lia) ?_;rw[el];exact{.int _,H,I.tok _,{_,rfl},q}
 ·exact N8 I (.inl e) λt s' I'=>{.int _,H,I',{_,rfl},q}
def JQ(K:Fg):Re V->Hp->VK->Prop:=λxs H Q=>KN K xs H Q\/JP xs H Q
theorem gO:l_ X (.builtin "len") (JQ X.K):=l_.or bJ DZ
theorem kW:il K (JQ K) nM:=by
 intro G F Z H ρ xs ds res Q S o e k;unfold nM at e;split at e
 ·rename_i es;split at e
  ·cases e
  ·rename_i nx
   cases e
   let{v,r,rfl,ho,hr}:=bN o;obtain rfl:=ci hr;let{a,rfl,hh}:=ho.dict S.fh (by simpa using nx);refine .inr {a,es.length,rfl,?_,k _ F H ?I S<|.int _};let{kvs,h1,h2,_}||{kvs,h1,h2,_}:=hh
   ·exact .inl {kvs,h1,by have:=congrArg List.length h2;simpa using this}
   ·exact .inr {kvs,h1,by have:=congrArg List.length h2;simpa using this}
 ·exact .inl<|cX G F Z H ρ xs ds res Q S o e k
def JB{S:Type}(i j:Nat):SM S:=λK ρ=>match iR ρ i with
 | some ds=>match ds.getLast? with
  | some d=>match jO (qb ρ i ds.dropLast) j with
   | true=>K.nx<|(qb ρ i ds.dropLast).set j<|some<|.fz d
   | false=>.bad
  | none=>.bad
 | none=>.bad
section
variable {S:Type} {pos' apos u_ zaw:Pos}
theorem Jf{i j:Nat}{y:Str}(hN:X.N[i]? = some x)(hv:UW X.env.scope x)(hnd:X.N.Nodup)(hj:X.N[j]? = some y)(hy:Loc X.env.scope y)(VJ:i≠j)
  (Rz:attributeBase (.Name x pos') "pop" X.env (eval (.Name x pos') X.env)=eval (.Name x pos') X.env) (Ry:?jQ=true)
  (X6:swapsWith (.Call (.Attribute (.Name x pos') "pop" apos) [] [] u_) (some<|.Name y zaw) pos.line X.env=pure false) (hf:X.fn y=true\/X.env.scope.names.lookup y=some .local) (hd:(x==("__debug__" : Str))=false:=by decide) (Ri:(x==("__classdict__" : Str))=false:=by decide) :
  AS X (.Assign [.Name y zaw] (.Call (.Attribute (.Name x pos') "pop" apos) [] [] u_) pos) (JB (S:=S) i j):=λOK K G F Z H ρ E hO hX St ok eo =>
 jf (j6 hnd hj hy (K5 PQ PySem.F.slot_list_pop PySem.F.type_list_pop Lu ?j3 Rz Ry) X6 hf) (by
  unfold JB at ok;split at ok
  case h_2=>exact(hO ok).elim
  rename_i ds0 h0;split at ok
  case h_2=>exact(hO ok).elim
  rename_i d hdl;split at ok
  case h_2=>exact(hO ok).elim
  rename_i zak;let{hl,Ud}:=dZ zak;let{a,ZC,ea,hh,rv}:=eR St h0;have hlen:=rv.length;rw[List.getLast?_eq_getElem?]at hdl;let{u,hu,ru}:=rv.get hdl;refine{_,ea,.inl {rfl,ZC,.inl<|.inl hh},a,ZC,u,rfl,rfl,hh,by rw[hlen];exact hu,?_}
  exact eo.nx F _ _ _ ?I ((mW St h0 ea<|lE rv).store Ud hl<|.inl {d,rfl,ru}) ok)
end
def ZO(f:Str):D:=.dict [(.bool true,.str f)]
def fnQ(d:D)(f:Str):Bool:=match d with
 | .dict [(.bool true,.str g)]=>g==f
 | _=>false
theorem LV{d:D}(h:fnQ d f=true):d=ZO f:=by
 unfold fnQ at h;split at h
 ·have:=by simpa using h
  subst this;rfl
 ·cases h
theorem N3{F:Hp}{v:V}(r:Rep K F v (ZO f)):∃a,v=.ref a/\PySem.W.nsIn K mainGlobals f=some (some<|.ref a):=by
 cases r with
 | UJ _ h _=>exact absurd (wK h) (by simp[mB])
 | Yz _ h _=>exact absurd (wL h) (by simp[mB])
 | fn h=>exact{_,rfl,h}
theorem zu(h:∃a,X.mg f=some (.ref a)/\PySem.W.nsIn X.K mainGlobals f=some (some<|.ref a))(hg:Gl X f)(hd:(f==("__debug__" : Str))=false):AP X (.Name f p) (C1<|ZO f):=by
 let{a,h1,h2}:=h;exact λG F Z H ρ Q S w=>Rt (vY (v:=.ref a) hg h1 rfl hd)<|w F H ?I S _<|.fn h2
def NC(i:Nat)(f:Str)(mf:Re D->M D)(ps:Pa D):Pu D:=λρ=>match ρ[i]? with
 | some (some<|.fz d)=>match fnQ d f with
  | true=>ps (λds=>mf ds) ρ
  | false=>.bad
 | _=>.bad
theorem GW{k n i:Nat}{mf:Re D->M D}{ps:Pa D}(C:CF X.prog X.w X.K X.mg X.base f k (J_ X.K n mf))(hr:y_ k X.A)(hN:X.N[i]? = some x)(hv:UW X.env.scope x)(ha:AA X (e::es) ps)(hn:(e::es).length=n)
  (he:starEach (e::es) X.env=?K::starEach es X.env) (Q7:(backTo pos ?T).any (·.1)=false) (hd:(x==("__debug__" : Str))=false:=by decide) (Ri:(x==("__classdict__" : Str))=false:=by decide):AP X (.Call (.Name x p) (e::es) [] pos) (NC i f mf ps):=by
 let{fa,fd,pl,Fn,h1,h2,h3}:=C.ex;intro G F Z H ρ Q St w;unfold NC at w;split at w
 case h_2=>exact w.elim
 rename_i d hd0;split at w
 case h_2=>exact w.elim
 rename_i hq;obtain rfl:=LV hq;let{v,hv0,rv}:=St.fz i _ hd0;let{a,ea,WC}:=N3 rv;subst ea;unfold gE;intro pins s I;have hm:=qu I.S8 (I.mod.glob.keeps I.bk) WC;rw[hm]at h1
 cases h1
 have arg:gQ X (e::es) Z H λvs H1=>J_ X.K n mf vs H1 Q<|EX X G Z:=by
  refine ha G F Z H ρ _ _ _ St w λds vs F1 H1 s1 S1 hl r1 w1=>?_
  cases hdm:mf ds with
  | bad=>rw[hdm]at w1;exact w1.elim
  | exc e =>
   rw[hdm]at w1;exact{_,F1,ds,hl.trans hn,eO S1 r1,by rw[hdm];exact λF' H' Cl dd g xr=>EX.of S1 w1 g xr}
  | ret d =>
   rw[hdm]at w1;refine{_,F1,ds,hl.trans hn,eO S1 r1,?_};rw[hdm];intro v F2 H2 s2 S2 r2;let{S3,t3}:=jG  S1 s2 S2;exact w1 F2 H2 s2 S3 v r2
 unfold gQ at arg;refine nu<|p_ (dh  hN hv hd Ri pins s Z H (λu H'=>u=.ref fa/\H'=H) I {_,hv0,rfl,rfl}) λu s1 ⟨y,H1,I1,ry,e1,e2⟩=>?_;subst e1 e2
 cases ry
 refine PySem.W.callWith_K  I1.ok.mod.kin h2 (p_ (arg pos pins s1 I1) λus s2 ⟨vs,H2,I2,r,q⟩=>{I2.S8,?_}) he Q7;exact EO Fn hr h3 yh I2 r q
structure VA(K:Fg)(x qual:Str)(st:Uf)(f:Tk)(fd:FuncData)(T:Tk):Prop where
 ex:∃(oc:SL) (od:SC Tk) (kV doc pm:SL) (an:SC Tk) (t_ ct:SL) (Uc:UF (SC SL)),
  fd=PySem.W.fnOf x qual (cY st) ?qt ?jR (.ref T) kV doc pm an t_ ct/\K.lookup f=some {oc,od,.func fd,Uc}/\PySem.W.codeIn K t_ qual=true
 kp:PySem.W.keepIn K (.ref f)=true
section
variable {P:Tl} {w:TD} {mg:Rm} {base:Wp} {qual:Str} {st:Uf} {f T:Tk} {N:Re Str} {k:Nat}
theorem IG{oc:SL}{od an:SC Tk}{Uc:UF (SC SL)}{kV doc pm t_ ct:SL}(l:K.lookup f=some {oc,od,.func<|PySem.W.fnOf x qual (cY st) ?qt ?jR (.ref T) kV doc pm an t_ ct,Uc})
  (c:PySem.W.codeIn K t_ qual=true) (k:PySem.W.keepIn K (.ref f)=true):VA K x qual st f (PySem.W.fnOf x qual (cY st) ?qt ?jR (.ref T) kV doc pm an t_ ct) T:={{oc,od,kV,doc,pm,an,t_,ct,Uc,rfl,l,c},k}
theorem N2{sp:Sp}(Fn:VA K x qual st f fd T)(S:q_ N ps ?jR)(len:∀vs H Q E,sp vs H Q E->vs.length=ps.length)
  (Vi:∀(t_:SL) (A:UV) (outer:Re Env) (s:SZ) (H:Hp) (vs:Re V) (Q:VK) (E:XK),y_ k ?ja->sp vs H Q E ->
   ∃t,VQ ?U ?qt t/\t { nx:=λ_ H'=>Q .QW H',rt:=Q } (start N vs) H):Q6 P w K mg base ?qK (k+1) f fd ps sp:=by
 let{oc,od,kV,doc,pm,an,t_,ct,Uc,rfl,lk,Ri}:=Fn.ex;exact Ke lk Ri S len λA outer s H vs Q E hr Uu=>Vi t_ A outer s H vs Q E hr Uu
theorem IK{mb:SM D}{mf:Re D->M D}(Fn:VA K x qual st f fd T)(Sc:q_ N ps ?jR)
  (hb:∀(t_:SL) (A:UV) (outer:Re Env) (s:SZ) (H:Hp) (E:XK),y_ k ?ja ->
   Uk ?U ?qt mb)
  (hm:∀ds,ds.length=ps.length->mf ds=mb KD (Si ds++List.replicate ?jE none)):Q6 P w K mg base ?qK (k+1) f fd ps (J_ K ps.length mf):=by
 refine N2 Fn Sc (λvs H Q E h=>?_) λt_ A outer s H vs Q E hr h=>?_
 ·let{_,_,_,h1,_}:=h;exact h1
 ·let{G,F0,ds,h1,S0,e}:=h;have hl:ds.length=ps.length:=by grind
  rw[hm ds hl]at e;refine{_,fP,hb t_ A outer s H E hr (λm=>qt K G E m _) KD G F0 _ H _ _ (λz=>z) (λF ρ e z=>Cc z) (qY h1 S0) e ?_};exact{λF' σ' H' ρ' s S' o=>((o .QW F' H' s (tQ S0 s S') .QW)),λF' σ' H' ρ' d' v s S' r o=>((o v F' H' s (tQ S0 s S') r)),λF' σ' H' ρ' d' v s S' r o=>(o).elim,λF' σ' H' ρ' s S' o=>(o).elim,λF' σ' H' ρ' s S' o=>(o).elim}
end
structure CFd(P:Tl)(w:TD)(K:Fg)(mg:Rm)(base:Wp)(x:Str)(k:Nat)(sp:Sp)(i:Int):Prop where
 ex:∃(f:Tk) (fd:FuncData) (ps:Re Str) (u:SL),Q6 P w K mg base ?qK k f fd ps sp/\mg x=some (.ref f)/\PySem.W.keepIn K (.ref f)=true/\L2.Binds K fd ps [u]/\RelV (.int i) u
def ND(mf:Re D->M D)(i:Int)(ps:Pa D):Pu D:=λρ=>ps (λds=>mf<|ds++[.int i]) ρ
section
variable {k:Nat} {f:Tk} {sp:Sp} {E:XK} {Z:L2.St} {H:Hp} {Q:VK} {i:Int} {u:SL}
theorem CP(F:Q6 X.prog X.w X.K X.mg X.base (R3 X.prog X.w) k f fd ps sp)(hr:y_ k X.A)(hg:Gl X x)(hm:X.mg x=some (.ref f))(hk:PySem.W.keepIn X.K (.ref f)=true)(hb:L2.Binds X.K fd ps [u])(hu:RelV (.int i) u)(hx:nZ X Z E)
  (Sf:(x==("__debug__" : Str))=false) (he:starEach (e::es) X.env=?K::starEach es X.env) (Q7:(backTo pos ?T).any (·.1)=false)
  (h:gQ X (e::es) Z H λvs H1=>sp (vs++[.int i]) H1 Q E):gE X (.Call (.Name x p) (e::es) [] pos) Z H Q:=by
 unfold gE;intro pins s I;unfold gQ at h;refine nu<|nF I hg hm ?_ Sf;refine PySem.W.callWith_K  I.ok.mod.kin hk (p_ (h pos pins s I) λus s1 ⟨vs,H1,I1,r,q⟩=>{I1.S8,?_}) he Q7;have r2:=r.append<|.cons hu .nil;have hl:(us++[u]).length=ps.length:=by rw[<-r2.length];exact F.len _ _ _ _ q
 refine wpAny_call<|QB (F.run X.A X.stack s1 H1 {us,[]} (us++[u]) (vs++[.int i]) Q E hr I1.zaq (hb s1 us I1.S8 hl) r2 q) λr s' hq=>?_
 cases r with
 | error e=>exact hx pins H1 s1 e s' I1 hq
 | ok fl =>
  cases fl with
  | ret u=>exact I1.after hq
  | next=>exact False.elim hq
  | brk=>exact False.elim hq
  | cont=>exact False.elim hq
end
section
variable {k n:Nat} {mf:Re D->M D} {ml:Re D->M ?Q} {ps:Pa D} {pl:Pa ?Q} {i:Int}
theorem uL{F:Hp}{vs:Re V}{ds:Re D}(r:i_ K F vs ds):i_ K F (vs++[.int i]) (ds++[.int i]):=r.append<|.cons (.int i) .nil
theorem GV(C:CFd X.prog X.w X.K X.mg X.base x k (J_ X.K n mf) i)(hr:y_ k X.A)(ha:AA X (e::es) ps)(hg:Gl X x:=by rfl)(hn:(e::es).length+1=n:=by rfl)
  (Sf:(x==("__debug__" : Str))=false:=by decide) (he:starEach (e::es) X.env=?K::starEach es X.env:=by rfl) (Q7:(backTo pos ?T).any (·.1)=false:=by rfl):AP X (.Call (.Name x p) (e::es) [] pos) (ND mf i ps):=by
 let{f,fd,pz,u,Fn,h1,h2,h3,hu}:=C.ex;intro G F Z H ρ Q St w;refine CP Fn hr hg h1 h2 h3 hu (yh (G:=G)) Sf he Q7 ?_;refine ha G F Z H ρ _ _ _ St w λds vs F1 H1 s1 S1 hl r1 w1=>?_
 have hz:(vs++[V.int i]).length=n:=by grind
 cases hd:mf (ds++[.int i])with
 | bad=>rw[hd]at w1;exact w1.elim
 | exc e =>
  rw[hd]at w1;exact{_,F1,ds++[.int i],hz,eO S1<|uL r1,by rw[hd];exact λF' H' Cl dd g xr=>EX.of S1 w1 g xr}
 | ret d =>
  rw[hd]at w1;refine{_,F1,ds++[.int i],hz,eO S1<|uL r1,?_};rw[hd];intro v F2 H2 s2 S2 r2;let{S3,t3}:=jG  S1 s2 S2;exact w1 F2 H2 s2 S3 v r2
end
section
variable {pins:C_} {Z:L2.St} {H:Hp} {s:SZ} {a b:Tk} {v:V} {u r:SL} {A:UV} {E:w_} {k:Re Key}
theorem DI{kvs:Re ?qs}{Q:Unit->SZ->Prop}(hu:A.units+1<cLine)(I:Inv X pins Z H s)(e:H a=some (.dT kvs))(eb:H b=some (.tup<|k.map kV))(rv:RelV v r)(l:kvs.length<sizeLine)
  (h:∀s',Inv X pins Z (upd H a<|.dT<|putK kvs k v) s'->Q () s'):wpAny ?B A (dictSet a (.ref b) r) Q E s:=by
 let{z,hd,xs,rel,dd}:=GE I.k_ e;have hz:xs.length<=sizeLine:=by rw[<-Paired.length rel];exact z
 have hl:(putK kvs k v).length<=sizeLine:=by have:=fY kvs k v;lia
 refine wpAny_dictSet_heap  ((by first|exact hu|exact ut ?jm hu|(show A.units<cLine;lia))) (gZ I.k_ eb) dd λh' Xs hs=>h _ ?_
 let{q,es,ep,hq,h2,h3,h4,_,h5}:=Xs;refine nP I (by rw[e];exact True.intro) hs {q,hq} {hl,hd,_,(rel.put k eb rv).keeps λc ys ec=>?_,q,es,ep,hq,h2,h3,h4,h5}
 grind
end
def MQ(tk tv:TE):TE:=λZ H Q=>∀p,H p=none->tk Z (upd H p<|.dT []) λx H1=>tv Z H1 λy H2=>∃b k,x=.ref b/\H2 b=some (.tup<|k.map kV)/\H2 p=some (.dT [])/\Q (.ref p) (upd H2 p<|.dT [(k,y)])
theorem Bu{tk tv:TE}(hu:X.A.units+1<cLine)(hk:PE X ke tk)(hv:PE X ve tv):PE X (.Dict [some ke] [ve] pos) (MQ tk tv):=by
 intro pins s Z H Q I q;have hn:=I.k_.fresh<|ac s.heap.objs.size;have I1:=I.laid    (t':=s.toks) ?qS ?jm<|sT s.heap I.big;refine wpAny_Dict_any rfl rfl ?G ?G ?_;have pp:=E6 (pos:=pos) hk hv<|HL  
 let R:Re (V×V)->Hp->Prop:=λps H2=>match ps with
  | [(x,y)]=>∃b k,x=.ref b/\H2 b=some (.tup<|k.map kV)/\H2 s.heap.objs.size=some (.dT [])/\Q (.ref s.heap.objs.size) (upd H2 s.heap.objs.size<|.dT [(k,y)])
  | _=>False
 refine p_ (pp pins _ Z _ R I1<|q _ hn) λws s2 ⟨ps,H2,I2,rel,hR⟩=>?_
 let _||{{x,y},_||{p2,r2}}:=ps
 ·grind
 ·let{b,k,ex,hb,hp,q2}:=hR;subst ex
  cases rel with
  | @cons _ wq _ _ h t =>
   cases t
   let{w1,w2}:=wq;let{rx,ry}:=h
   cases rx
   refine h_<|h_<|DI hu I2 hp hb ry ?C λs3 I3=>m_<|m_ {.ref s.heap.objs.size,_,I3,rfl,q2}
 grind
def jj{S:Type}(d:D)(m:M S):M S:=match dB d with
 | true=>m
 | false=>.bad
def JC{S:Type}(i:Nat)(pk pv:Pu D):SM S:=λK ρ=>bd (XI<|pk ρ) λkd=>bd (XI<|pv ρ) λd=>match jO ρ i with
 | true=>jj kd<|K.nx<|ρ.set i<|some<|.ol<|.t [(kd,d)]
 | false=>.bad
theorem Cp{S:Type}{i:Nat}{pk pv:Pu D}{pos' O_:Pos}(hu:X.A.units+1100<cLine)(hN:X.N.Nodup)(hi:X.N[i]? = some x)(hx:Loc X.env.scope x)(hk:AP X ke pk)(hv:AP X ve pv)(hs:swapsWith (.Dict [some ke] [ve] O_) (some<|.Name x pos') pos.line X.env=pure false)(hf:X.fn x=true\/X.env.scope.names.lookup x=some .local) :
  AS (S:=S) X (.Assign [.Name x pos'] (.Dict [some ke] [ve] O_) pos) (JC i pk pv):=λOK K G F Z H ρ E hO hX St ok eo=>by
 unfold JC at ok
 cases e1:pk ρ with
 | bad=>rw[e1]at ok;exact(hO ok).elim
 | exc e=>rw[e1]at ok;exact(hO ok).elim
 | ret kd =>
 cases e2:pv ρ with
 | bad=>rw[e1,e2]at ok;exact(hO ok).elim
 | exc e=>rw[e1,e2]at ok;exact(hO ok).elim
 | ret d =>
 rw[e1,e2]at ok;have ok:OK (match jO ρ i with|true=>jj kd<|K.nx<|ρ.set i<|some<|.ol<|.t [(kd,d)]|false=>.bad):=ok
 cases hq:jO ρ i with
 | false=>rw[hq]at ok;exact(hO ok).elim
 | true =>
 rw[hq]at ok;unfold jj at ok
 cases hq1:dB kd with
 | false=>rw[hq1]at ok;exact(hO ok).elim
 | true =>
 rw[hq1]at ok;let{hl,Ud}:=dZ hq;let{ks,rfl}:=eN hq1;refine jf (j6 hN hi hx (Bu ?A aO aO) hs hf) λp hp=>?_
 have fp:=St.fh.free hp;have op:=St.oh.free hp;have S1:=(St.lay (o:=.dT []) hp).hold   aN fp<|St.fresh_ne hp;refine hk _ F Z _ ρ _ S1 ?_;rw[e1];intro F1 H1 s1 S2 kx rx;refine hv _ F1 Z H1 ρ _ S2 ?_;rw[e2];intro F2 H2 s2 S3 y ry;let{S4,hp2,fp2,ne2}:=S3.Ul op;let{b,rfl,hb}:=fT<|rx.mono s2;refine{b,ks,rfl,S4.fh _ _ hb,hp2,?_};refine eo.nx F2 _ _ _ ?jo ((S4.Ub  fp2 op ne2).store Ud hl<|.inr {.t [(dc ks,d)],rfl,p,rfl,{fp2,op,[(ks,y)],aN,rfl,.cons ry .nil},ne2}) ok
def NI{S:Type}(d:D)(f:Str)(m:M S):M S:=match fnQ d f with
 | true=>m
 | false=>.bad
def Ft{S:Type}(ds:Re D)(k:D->M S):M S:=match ds.getLast? with
 | some d=>k d
 | none=>.bad
def DfT(K:Fg)(T:Tk)(i:Int):Prop:=∃(o:Obj) (n:Nat) (u:SL),K.lookup T=some o/\o.data=.seq #[u] n/\RelV (.int i) u
section
variable {qual:Str} {st:Uf} {f T:Tk} {i:Int}
theorem VA.zat(F:VA K x qual st f fd T)(hT:DfT K T i)(h:∀(kV doc pm:SL) (an:SC Tk) (t_ ct:SL) (us:Re SL) (u:SL),us.length=ps.length->∃k:SC (UF SL)->Sem (Re<|Str×SL),bindArgs (PySem.W.fnOf x qual (cY st) ?qt ?jR (.ref T) kV doc pm an t_ ct) {us,[]}=seqItems? (.ref T) >>= k/\k (some #[u])=pure (ps.zip us)):L2.Binds K fd ps []:=by
 let{oc,od,kV,doc,pm,an,t_,ct,Uc,rfl,lk,Ri}:=F.ex;let{o,n,u,h1,h2,h3}:=hT;intro s us X hl;rw[ic]at hl ⊢;let{k,e1,e2}:=h kV doc pm an t_ ct us u hl;exact PySem.W.binds_K X rfl h1 h2 e1 e2
theorem VA.zas(F:VA K x qual st f fd T)(hT:DfT K T i)(h:∀(kV doc pm:SL) (an:SC Tk) (t_ ct:SL) (us:Re SL) (u:SL),us.length+1=ps.length->∃k:SC (UF SL)->Sem (Re<|Str×SL),bindArgs (PySem.W.fnOf x qual (cY st) ?qt ?jR (.ref T) kV doc pm an t_ ct) {us,[]}=seqItems? (.ref T) >>= k/\k (some #[u])=pure (ps.zip<|us++[u])):L2.Binds K fd ps [hT.choose_spec.choose_spec.choose]:=by
 let{oc,od,kV,doc,pm,an,t_,ct,Uc,rfl,lk,Ri}:=F.ex;have h1:=hT.choose_spec.choose_spec.choose_spec.1;have h2:=hT.choose_spec.choose_spec.choose_spec.2.1;intro s us X hl;let{k,e1,e2}:=h kV doc pm an t_ ct us hT.choose_spec.choose_spec.choose (by simpa using hl);exact PySem.W.binds_K X rfl h1 h2 e1 e2
end
def JW(pk pv:Pu D):Pu D:=λρ=>bd (XI<|pk ρ) λkd=>bd (XI<|pv ρ) λd=>jj kd<|.ret<|.dict [(kd,d)]
def tFz(t:TE):TE:=λZ H Q=>t Z H λv H'=>∃a kvs,v=.ref a/\H' a=some (.dT kvs)/\∀o,Q v<|upd H' a<|.Q3 o<|.dT kvs
theorem Nw{t:TE}(h:PE X e t):PE X e (tFz t):=λpins s Z H Q I q =>
 p_ (h pins s Z H _ I q) λu s1 ⟨v,H1,I1,r,a,kvs,ev,ea,k⟩=>let ⟨o,I2⟩:=I1.Q3 ea;{v,_,I2,r,k o}
theorem Jh{pk pv:Pu D}(hu:X.A.units+1100<cLine)(hk:AP X ke pk)(hv:AP X ve pv):AP X (.Dict [some ke] [ve] pos) (JW pk pv):=by
 intro G F Z H ρ Q St w;unfold JW at w
 cases e1:pk ρ with
 | bad=>rw[e1]at w;exact w.elim
 | exc e=>rw[e1]at w;exact w.elim
 | ret kd =>
 cases e2:pv ρ with
 | bad=>rw[e1,e2]at w;exact w.elim
 | exc e=>rw[e1,e2]at w;exact w.elim
 | ret d =>
 rw[e1,e2]at w;have w:W X G F Z ρ (jj kd<|.ret<|.dict [(kd,d)]) (λd F' H'=>∀v,Rep X.K F' v d->Q v H'):=w;unfold jj at w
 cases hq1:dB kd with
 | false=>rw[hq1]at w;exact w.elim
 | true =>
 rw[hq1]at w;let{ks,rfl}:=eN hq1;refine Rt (Nw<|Bu ?A aO aO) λp hp=>?_
 have fp:=St.fh.free hp;have op:=St.oh.free hp;have S1:=(St.lay (o:=.dT []) hp).hold   aN fp<|St.fresh_ne hp;refine hk _ F Z _ ρ _ S1 ?_;rw[e1];intro F1 H1 s1 S2 kx rx;refine hv _ F1 Z H1 ρ _ S2 ?_;rw[e2];intro F2 H2 s2 S3 y ry;let{S4,hp2,fp2,ne2}:=S3.Ul op;let{b,rfl,hb}:=fT<|rx.mono s2;refine{b,ks,rfl,S4.fh _ _ hb,hp2,p,_,rfl,aN,λo=>?_};rw[Hf];have S5:=(S4.Ub (o:=.Q3 o (.dT [(ks,y)])) fp2 op ne2).freeze   aN fp2 op ne2;exact w _ _ ((s1.trans s2).trans<|cx fp2) S5 (.ref p)<|.UJ aN rfl<|.cons (ry.mono<|cx fp2) .nil
end L4
namespace L4
open PySem PyProof.Rows L2 L3
theorem lr1:typeLookup (Value.type "list_reverseiterator") (Str.ofString "__len__")=pure none:=by rfl
theorem lr2:typeLookup (Value.type "list_reverseiterator") (Str.ofString "__length_hint__")=pure (some<|Value.builtin "list_reverseiterator.__length_hint__"):=by rfl
theorem lr3:isSubtype (.type "list_reverseiterator") (.type "list_reverseiterator")=pure true:=by rfl
section
variable {prog:Tl}{w:TD}{A:UV}{E:w_}{s:SZ}{r I l:Tk}{items:UF SL}
theorem Gf{Q:Bool->SZ->Prop}(hT:s.TypeIs (.ref r) "list_reverseiterator")(h:Q false s) :
  wpAny ?D A (Builtin.List.listLengthHint<|.ref r) Q E s:=by
 refine h_<|wpAny_specialOf hT lr1 ?_;refine h_<|wpAny_specialOf hT lr2 ?_;dsimp only;refine h_<|Ma   hT lr3 ?_;refine((m_ h))
def Hz(items:UF SL):Nat->SL->Prop:=λi v=>items[items.size - 1 - i]? = some v
theorem IQ{R:Result->SZ->Prop}(hh:A.handled=none)(hi:s.heap.IsRevIter I l ((items.size:Int) - 1))(hl:s.heap.IsList l items)(hn:items.size<=sizeLine)(hIl:l≠I)(S:Tk)(hSI:S≠I)(hSl:S≠l)(res:SL)(c₀:Nat)
  (hS:s.heap.get? S=some { cls:=Value.type "list",data:=Data.seq #[] c₀ })
  (hR:∀(h':Wp) (tk:Nat) (Wu:UF SL) (c':Nat),(∀(b:Tk) (o:Obj),b≠S->b≠I->s.heap.get? b=some o->h'.get? b=some o)->h'.get? S=some { cls:=Value.type "list",data:=Data.seq Wu c' }->ItemsOf (Hz items) Wu items.size->R (Except.ok<|Flow.ret res) { s with heap:=h',toks:=tk }) :
  wpAny ?D A.in1 (Builtin.List.listExtendWith (Value.ref S) (Value.ref I) res)
   (λfin s'=>match fin with
    | Fin.done f=>R (Except.ok f) s'
    | Fin.again c'=>c'.quiet=true/\codeAny ?D A c' R s')
   (λe s'=>R (Except.error e) s') s:=by
 have W:=Walks.listRev (prog:=prog) (w:=w) (A:=A.in1) hh I l hIl items;have hSf:S∉[I,l]:=by simp[hSI,hSl]
 refine h_<|Li hi.typeIs ?_;rw[ax (by simp[Builtin.List.listSameRef,hSI])];refine h_<|wpAny_pyIter_revIter hi<|h_<|oP<|Gf hi.typeIs ?_;refine m_ {plainId_quiet F.plain_extend_loop _,?_};refine codeAny_extend_loopS (Walks.toS W) hn S hSf res items.size 0 s #[] c₀ rfl ?X {ai _,by simpa using hi,hl} hS (ItemsOf.nil _) λs' Wu c' hm hS' Ye=>?_
 rw[Moved.eq_with hm];exact hR s'.heap s'.toks Wu c' (λb o hb hb2 e=>hm.heap b o (by simp[hb,hb2]) e) hS' Ye
theorem FP{Q:w_}(hh:A.handled=none)(hi:s.heap.IsRevIter I l ((items.size:Int) - 1))(hl:s.heap.IsList l items)(hn:items.size<=sizeLine)(hIl:l≠I)
  (hQ:∀(h':Wp) (tk:Nat) (Wu:UF SL) (c':Nat),(∀(b:Tk) (o:Obj),b≠I->s.heap.get? b=some o->h'.get? b=some o)->h'.get? s.heap.objs.size=some { cls:=Value.type "list",data:=Data.seq Wu c' }->ItemsOf (Hz items) Wu items.size->Q (Value.ref s.heap.objs.size) { s with heap:=h',toks:=tk }) :
  wpAny ?D A (call (Value.type "list") [Value.ref I]) Q E s:=by
 refine callType_codes F.called_list (F.typeCall_list_1<|Value.ref I) F.entry_list_init (code_list_new (Q₁:=λv s1=>v=Value.ref s.heap.objs.size/\s1={ s with heap:=s.heap.push { cls:=Value.type "list",data:=Data.seq #[] } }) (Value.ref I) {rfl,rfl}) λobj s₁ h₁=>?_
 let{rfl,rfl}:=h₁;have hS:(s.heap.push { cls:=Value.type "list",data:=Data.seq #[] }).get? s.heap.objs.size=some { cls:=Value.type "list",data:=Data.seq #[] }:=QV s.heap rfl;have hk:∀b o,s.heap.get? b=some o->(s.heap.push { cls:=Value.type "list",data:=Data.seq #[] }).get? b=some o:=λb o e=>z_ _ e
 refine{{_,hS,rfl},F.args_list_init_2 _ _,?_};have l1:∀{b:Tk} {o:Obj},s.heap.get? b=some o->b≠s.heap.objs.size:=λe=>bu<|aw e
 let{oi,ei,ri}:=id hi;let{ol,el,rl}:=id hl;refine((h_ ?_));refine((h_<|wa hS rfl<|m_ ?_));refine((h_<|wpAny_updateSeq hS rfl ?_ ?Z ?Z));have oth:∀b o,s.heap.get? b=some o->((s.heap.push { cls:=Value.type "list",data:=Data.seq #[] }).update s.heap.objs.size<|Obj.mapSeq λ_=>#[]).get? b=some o:=λb o e =>
  (ug _ _<|Ne.symm<|l1 e).trans<|hk b o e
 refine h_<|P9<|IQ (A:=A.in1) hh {oi,oth _ _ ei,ri} {ol,oth _ _ el,rl} hn hIl s.heap.objs.size (Ne.symm<|l1 ei) (Ne.symm<|l1 el) Value.none _ (su _ hS rfl) ?_
 grind
end
def OL(K:Fg):Re V->Hp->VK->Prop:=λxs H Q=>∃p ys,xs=[.ref p]/\QO K H p ys/\∀l,H l=none->Q (.ref l) (upd H l<|.lst ys.reverse)
theorem Du{items acc:UF SL}(h:ItemsOf (Hz items) acc items.size):acc.toList=items.toList.reverse:=by
 apply List.ext_getElem?;intro j;by_cases hj:j<items.size
 ·have h1:j<acc.size:=by rw[h.1];exact hj
  have:=h.2 j acc[j]<|mo h1;unfold Hz at this;rw[Array.getElem?_toList,mo h1,<-this,List.getElem?_reverse (by simpa using hj),Array.getElem?_toList,y9]
 ·rw[QM (by rw[y9,h.1];lia),QM (by rw[List.length_reverse,y9];lia)]
theorem Eh:∀{xs:Re V} {us:Re SL},Vals xs us->Vals xs.reverse us.reverse:=by
 intro xs
 induction xs with
 | nil=>intro us r;cases r;exact .nil
 | cons x xs ih =>
  intro us r
  cases r with
  | cons a b =>
   rw[Qo,Qo];exact Vals.append (ih b)<|.cons a .nil
theorem ET{K:Fg}{F:Hp}:∀{vs:Re V} {ds:Re D},i_ K F vs ds->i_ K F vs.reverse ds.reverse:=by
 intro vs
 induction vs with
 | nil=>intro ds r;cases r;exact .nil
 | cons x xs ih =>
  intro ds r
  cases r with
  | cons a b =>
   rw[Qo,Qo];exact i_.append (ih b)<|.cons a .nil
def B9:Re D->SC ?Q
 | [.list ds]=>some ds.reverse
 | _=>none
section
variable {X:Cx}{a:TW}{t:TA}{p p2 pos VY:Pos}
theorem zO(hc:X.calm=true)(hg:Gl X "list")(hm:X.mg "list"=none)(hg2:Gl X "reversed")(hm2:X.mg "reversed"=none)(ha:PA X [a] t)
  (he:starEach [a] X.env=[?j6]) (he2:starEach [.Call (.Name "reversed" p2) [a] [] VY] X.env=[(false,eval (.Call (.Name "reversed" p2) [a] [] VY) X.env)]) :
  PE X (.Call (.Name "list" p) [.Call (.Name "reversed" p2) [a] [] VY] [] pos) (tCB (OL X.K) t):=by
 intro pins s Z H Q I h;refine nu<|gY I hg hm (show bootBuiltins "list"=some (.type "list") by decide +kernel) ?_ ?C ?C;refine ib ?_ he2 rfl;refine Qj<|nu<|gY I hg2 hm2 (show bootBuiltins "reversed"=some (.type "reversed") by decide +kernel) ?_ ?C ?C;refine ib  (p_ (ha VY pins s Z H _ I h) λus s1 ⟨vs,H1,I1,r1,q1⟩=>?_) he rfl;let{b,ys,rfl,hq,k}:=q1;let{u,rfl,ru}:=L2.Vals.one r1
 cases ru
 let{j_,rv,{o,n,e1,e2,e3,e4},hz}:=I1.list hq;refine call_reversed_list {o,e1,e2,n,e4}<|Qq ?_;have hlen:j_.toArray.size=ys.length:=by rw[f8,rv.length]
 have VH:=bu<|aw e1;refine FP    (I1.ok.hd hc) {_,QV _ rfl,rfl,rfl} {o,z_ _ e1,e2,n,e4} (by rw[hlen];exact hz) VH λh' tk acc c kp e it=>?_
 have hs:(s1.heap.push<|revObj b<|(j_.toArray.size) - 1).objs.size=s1.heap.objs.size+1:=by simp
 have Ye:=(Du it);refine{.ref (s1.heap.push<|revObj b<|(j_.toArray.size) - 1).objs.size,_,I1.laid  (o:=.lst ys.reverse) (λb' o' e'=>kp b' o' (bu<|aw e')<|z_ _ e') ?A {by rw[List.length_reverse];exact hz,acc.toList,c,by rw[Ye];exact Eh rv,(e)},rfl,k _<|I1.k_.fresh ?A}
theorem AQ{ps:Pa ?Q}(hc:X.calm=true)(hg:Gl X "list")(hm:X.mg "list"=none)(hg2:Gl X "reversed")(hm2:X.mg "reversed"=none)(ha:YF X [a] ps)
  (he:starEach [a] X.env=[?j6]) (he2:starEach [.Call (.Name "reversed" p2) [a] [] VY] X.env=[(false,eval (.Call (.Name "reversed" p2) [a] [] VY) X.env)]) :
  AL X (.Call (.Name "list" p) [.Call (.Name "reversed" p2) [a] [] VY] [] pos) (j7 B9 ps) :=
 λG F Z H ρ Q S w=>Rt (zO hc hg hm hg2 hm2 cI he he2) (lv ha S w λxs ds F' H' s' S' hx w'=>by
  let{res,e,k}:=w'.opt;unfold B9 at e;split at e
  ·cases e
   let{v,r,rfl,ho,hr}:=bN hx;obtain rfl:=ci hr;let{a,vs,rfl,h1,h2}:=ho.list S'.fh;refine{a,vs,rfl,h1,λl hl=>?_};let{S2,r2}:=S'.P_ hl<|ET h2;exact k F' _ ?I S2 _ r2
  ·cases e)
end
end L4
namespace L4
open PySem PySem.Spec PyProof.Rows L2 L3
variable {f:Tk}{oc doc pm t_ ct:SL}{od an:SC Tk}{Uc:UF (SC SL)}
section
variable {α:Type} {l:Re α}
theorem lnS{n:Nat}(h:l.length=n+1):∃a t,l=a::t/\t.length=n :=
 List.recOn  l (λh=>(Nat.succ_ne_zero n h.symm).elim) (λa t _ h=>{a,t,rfl,Nat.succ.inj h}) h
theorem WW(h:l.length=1):∃a,l=[a]:=by let{a,t,e,q}:=lnS h;grind
theorem ln2(h:l.length=2):∃a b,l=[a,b]:=by let{a,t,rfl,q}:=lnS h;let{b,rfl}:=WW q;exact{a,b,rfl}
theorem Wz(h:l.length=3):∃a b c,l=[a,b,c]:=by let{a,t,rfl,q}:=lnS h;let{b,c,rfl}:=ln2 q;grind
theorem Yr(h:l.length=4):∃a b c d,l=[a,b,c,d]:=by let{a,t,rfl,q}:=lnS h;let{b,c,d,rfl}:=Wz q;grind
end
section
variable {K:Fg} {h:Wp} {mg:Rm} {x qual:Str} {st:Uf} {T:Tk} {kV:SL}
def Xa(K:Fg)(x qual:Str)(st:Uf)(fl:Re Str):Prop:=∃C D f fd,PySem.W.nsIn K mainGlobals x=some (some<|.ref C)/\WN K "__init__" qual st f fd/\XC K C D f/\XQ K C x/\PySem.W.keepIn K (.ref C)=true/\(∀f∈fl,tV K C f)/\PySem.W.exmOne K (.ref C) (.ref C)=some true
theorem MH{C D N:Tk}{nm qn:Str}{bs sb:Re SL}{sn:Re Str}{ab:Bool}{co:SC Bool}{dd:SC Tk}{k0 k1 k2 k3 k5:SC SL}{fl:Re Str}
  (xa:PySem.W.nsIn K mainGlobals x=some (some<|.ref C)) (xb:K.lookup C=some (excClassObj nm qn C N bs (.ref D::bmV) true sn sb ab co dd k0 k1 k2 k3 k5 "ValueError.__new__")) (xc:PySem.W.findIn K (.ref C) "__init__"=some (some<|.ref f))
  (xd:K.lookup f=some {oc,od,.func<|PySem.W.fnOf "__init__" qual (cY st) ?qt ?jR .none kV doc pm an t_ ct,Uc}) (xe:PySem.W.codeIn K t_ qual=true) (xf:PySem.W.keepIn K (.ref f)=true) (xg:PySem.W.keepIn K (.ref C)=true)
  (xh:PySem.W.tailIn K bmV (.ref D::bmV)=true) (xi:PySem.W.typeIn K (.ref f)=some (.type "function")) (xj:PySem.W.findIn K (.ref C) "__setattr__"=some (some<|.builtin "object.__setattr__")) (xk:PySem.W.findIn K (.ref C) "__getattribute__"=some (some<|.builtin "BaseException.__getattribute__"))
  (xl:PySem.W.findIn K (.ref C) "__getattr__"=some none) (xm:PySem.W.exmOne K (.ref C) (.ref C)=some true) (xp:PySem.W.findIn K (.ref C) "__class__"=some (some<|.builtin "object.__class__")) (xq:PySem.W.specialIn K (.builtin "object.__class__") "__get__"=some (some<|.builtin "getset_descriptor.__get__"))
  (xr:PySem.W.takesIn K (.builtin "object.__class__")=some true) (xo:(["bool","int","str","list","tuple","dict"].all λT=>PySem.W.kitOne K (.ref C) (.type T)==some false)=true) (xn:∀f∈fl,tV K C f):Xa K x qual st fl :=
 {C,D,f,_,xa,Gk xd xe xf,{{nm,qn,N,bs,sn,sb,ab,co,dd,k0,k1,k2,k3,k5,xb},xh,xc,xi,xj,xk,xl},{xa,{_,_,{nm,qn,N,bs,sn,sb,ab,co,dd,k0,k1,k2,k3,k5,xb},xh,xc,xi,xj,xk,xl},{xp,xq,xr},MG xo},xg,xn,xm}
theorem na0{C:Tk}:∀f∈([]:Re Str),tV K C f:=λ_ h=>(nomatch h)
def O8:SC (SC SL)->Bool
 | some none=>true
 | _=>false
theorem Ob{l:Re Str}(X:K.In h)(G:h.Ns mainGlobals mg)(z:(l.all λx=>O8<|PySem.W.nsIn K mainGlobals x)=true):∀x∈l,mg x=none:=λx hx=>by
 have q:=List.all_eq_true.mp z x hx;generalize e:PySem.W.nsIn K mainGlobals x=o at q
 match o,q with
 | some none,_=>exact PySem.W.mg_none_of X G e
end
theorem fS1{N P:Re Str}{c:Scope}(a:c.kind=.function)(b:c.isCoroutine=false)(d:c.isGenerator=false)(e:N.take P.length=P)(h:decide (N.Nodup/\(∀x∈P,c.names.lookup x=some .local\/c.names.lookup x=some .cell)/\∀y∈c.names,y.2≠.free)=true):q_ N P c :=
 have h:=of_decide_eq_true h
 {a,b,d,h.1,e,h.2.1,h.2.2}
def Fb(K:Fg)(mg:Rm)(p:Str×Uf):Prop:=∃f fd,mg p.1=some (.ref f)/\WN K p.1 p.1 p.2 f fd
def FbV(K:Fg)(mg:Rm)(p:Str×Uf)(i:Int):Prop:=∃f fd T,mg p.1=some (.ref f)/\VA K p.1 p.1 p.2 f fd T/\DfT K T i
abbrev Hb(P:Tl)(w:TD)(K:Fg)(mg:Rm)(base:Wp)(x:Str)(st:Uf)(k:Nat)(N:Re Str){S:Type}(mb:SM S):Prop :=
 ∀{f:Tk} {t_:SL} {A:UV} {outer:Re Env} {s:SZ} {H:Hp} {E:XK},y_ k (A.deeper<|envOfC x ?jR s.heap.objs.size f t_)->N.Nodup->Uk (mG ?qK P w K mg base N x ?jR f t_ A outer s H E) ?qt mb
abbrev Bn(x:Str)(st:Uf)(ps:Re Str):Prop:=∀(kV doc pm:SL) (an:SC Tk) (t_ ct:SL) (us:Re SL),us.length=ps.length->bindArgs (PySem.W.fnOf x x (cY st) ?qt ?jR .none kV doc pm an t_ ct) {us,[]}=pure (ps.zip us)
abbrev nn(N:Re Str)(m:Nat):En:=List.replicate (N.length - (N.take m).length) none
section
variable {P:Tl} {w:TD} {K:Fg} {mg:Rm} {base h:Wp} {x:Str} {st:Uf} {k m:Nat}
theorem bT{kV:SL}(X:K.In h)(G:h.Ns mainGlobals mg)(a:PySem.W.nsIn K mainGlobals x=some (some<|.ref f))(l:K.lookup f=some {oc,od,.func<|PySem.W.fnOf x x (cY st) ?qt ?jR .none kV doc pm an t_ ct,Uc})
  (c:PySem.W.codeIn K t_ x=true) (k:PySem.W.keepIn K (.ref f)=true):Fb K mg (x,st):={f,_,qu X G a,Gk l c k}
theorem Gp{T:Tk}{kV:SL}{o:Obj}{n:Nat}{u:SL}{i:Int}(X:K.In h)(G:h.Ns mainGlobals mg)(a:PySem.W.nsIn K mainGlobals x=some (some<|.ref f))(l:K.lookup f=some {oc,od,.func<|PySem.W.fnOf x x (cY st) ?qt ?jR (.ref T) kV doc pm an t_ ct,Uc})
  (c:PySem.W.codeIn K t_ x=true) (k:PySem.W.keepIn K (.ref f)=true) (dl:K.lookup T=some o) (de:o.data=.seq #[u] n) (dr:RelV (.int i) u):FbV K mg (x,st) i:={f,_,T,qu X G a,IG l c k,o,n,u,dl,de,dr}
theorem zl{ps:Re Str}{sp:Sp}(h:Fb K mg (x,st))(bn:Bn x st ps)(F:∀{f fd},WN K x x st f fd->Q6 P w K mg base ?qK k f fd ps sp):CF P w K mg base x k sp:=by
 let{f,fd,a,b}:=h;exact{f,fd,ps,F b,a,b.kp,b.binds bn}
theorem RL{mb:SM D}{mf:Re D->M D}(N:Re Str)(h:Fb K mg (x,st))(hb:Hb P w K mg base x st k N mb)
  (hm:∀ds,ds.length=(N.take m).length->mf ds=mb KD (Si ds++nn N m):=by intro ds hl;first|(let{_,rfl}:=WW hl;kernel_rfl)|(let{_,_,rfl}:=ln2 hl;kernel_rfl)|(let{_,_,_,rfl}:=Wz hl;kernel_rfl)|(let{_,_,_,_,rfl}:=Yr hl;kernel_rfl)|(let{_,_,_,_,_,rfl}:=ln5 hl;kernel_rfl))
  (sc:q_ N ?qT ?jR:=by exact fS1 rfl rfl rfl rfl ?qP) (hl:(N.take m).length=m:=by rfl)
  (bn:Bn x st ?qT:=by intro _ _ _ _ _ _ us hl;first|(let{_,rfl}:=WW hl;rfl)|(let{_,_,rfl}:=ln2 hl;rfl)|(let{_,_,_,rfl}:=Wz hl;rfl)|(let{_,_,_,_,rfl}:=Yr hl;rfl)|(let{_,_,_,_,_,rfl}:=ln5 hl;rfl)):CF P w K mg base x (k+1) (J_ K m mf) :=
 hl▸zl h bn λFn=>An Fn sc (λ_ _ _ _ _ _ hr=>hb hr sc.nd) hm
theorem cfL{mb:SM ?Q}{mf:Re D->M ?Q}(N:Re Str)(h:Fb K mg (x,st))(hb:Hb P w K mg base x st k N mb)
  (hm:∀ds,ds.length=(N.take m).length->mf ds=mb KL (Si ds++nn N m):=by intro ds hl;first|(let{_,rfl}:=WW hl;kernel_rfl)|(let{_,_,rfl}:=ln2 hl;kernel_rfl)|(let{_,_,_,rfl}:=Wz hl;kernel_rfl)|(let{_,_,_,_,rfl}:=Yr hl;kernel_rfl))
  (sc:q_ N ?qT ?jR:=by exact fS1 rfl rfl rfl rfl ?qP) (hl:(N.take m).length=m:=by rfl)
  (bn:Bn x st ?qT:=by intro _ _ _ _ _ _ us hl;first|(let{_,rfl}:=WW hl;rfl)|(let{_,_,rfl}:=ln2 hl;rfl)|(let{_,_,_,rfl}:=Wz hl;rfl)|(let{_,_,_,_,rfl}:=Yr hl;rfl)):CF P w K mg base x (k+1) (spL K m mf) :=
 hl▸zl h bn λFn=>LS Fn sc (λ_ _ _ _ _ _ hr=>hb hr sc.nd) hm
theorem cf1{mb:SM ?V}{mf:Re D->Re D->M ?V}(N:Re Str)(h:Fb K mg (x,st))(hb:Hb P w K mg base x st k N mb)
  (hm:∀g ds,ds.length+1=(N.take m).length->mf g ds=mb K1 (some (.op<|.l g)::Si ds++nn N m):=by intro g ds hl;have hl:=Nat.succ.inj hl;first|(obtain rfl:=ln0 hl;kernel_rfl)|(let{_,rfl}:=WW hl;kernel_rfl)|(let{_,_,rfl}:=ln2 hl;kernel_rfl)|(let{_,_,_,rfl}:=Wz hl;kernel_rfl))
  (sc:q_ N ?qT ?jR:=by exact fS1 rfl rfl rfl rfl ?qP) (hl:(N.take m).length=m:=by rfl)
  (bn:Bn x st ?qT:=by intro _ _ _ _ _ _ us hl;first|(let{_,rfl}:=WW hl;rfl)|(let{_,_,rfl}:=ln2 hl;rfl)|(let{_,_,_,rfl}:=Wz hl;rfl)|(let{_,_,_,_,rfl}:=Yr hl;rfl)):CF P w K mg base x (k+1) (Xy K m mf) :=
 hl▸zl h bn λFn=>Gm Fn sc (λ_ _ _ _ _ _ hr=>hb hr sc.nd) hm
theorem IX{mb:Nat->SM D}{mf:Nat->Re D->M D}(N:Re Str)(h:Fb K mg (x,st))(hb:∀{i:Nat},CF P w K mg base x (k+i) (J_ K m<|mf i)->Hb P w K mg base x st (k+i) N (mb i))
  (hz:mf 0=λ_=>.bad:=by funext l;let _||{_,_||{_,_||{_,_||{_,_||_}}}}:=l<;>rfl)
  (hm:∀i ds,ds.length=(N.take m).length->mf ?qc ds=mb i KD (Si ds++nn N m):=by intro i ds hl;first|(let{_,rfl}:=WW hl;kernel_rfl)|(let{_,_,rfl}:=ln2 hl;kernel_rfl)|(let{_,_,_,rfl}:=Wz hl;kernel_rfl)|(let{_,_,_,_,rfl}:=Yr hl;kernel_rfl))
  (sc:q_ N ?qT ?jR:=by exact fS1 rfl rfl rfl rfl ?qP) (hl:(N.take m).length=m:=by rfl)
  (bn:Bn x st ?qT:=by intro _ _ _ _ _ _ us hl;first|(let{_,rfl}:=WW hl;rfl)|(let{_,_,rfl}:=ln2 hl;rfl)|(let{_,_,_,rfl}:=Wz hl;rfl)|(let{_,_,_,_,rfl}:=Yr hl;rfl)):∀i:Nat,CF P w K mg base x (k+i)<|J_ K m<|mf i
 | 0=>by
  let{f,fd,a,b}:=h;rw[hz];exact .zero _ _ a b.kp<|b.binds bn
 | i+1=>hl▸zl h bn λFn=>An Fn sc (λ_ _ _ _ _ _ hr=>hb (IX N h hb hz hm sc hl bn i) hr sc.nd)<|hm i
theorem Oa{mb:Nat->SM ?V}{mf:Nat->Re D->Re D->M ?V}(N:Re Str)(h:Fb K mg (x,st))(hb:∀{i:Nat},CF P w K mg base x (k+i) (Xy K m<|mf i)->Hb P w K mg base x st (k+i) N (mb i))
  (hz:mf 0=λ_ _=>.bad:=by funext g l;let _||{_,_||{_,_||{_,_||{_,_||_}}}}:=l<;>rfl)
  (hm:∀i g ds,ds.length+1=(N.take m).length->mf ?qc g ds=mb i K1 (some (.op<|.l g)::Si ds++nn N m):=by intro i g ds hl;have hl:=Nat.succ.inj hl;first|(obtain rfl:=ln0 hl;kernel_rfl)|(let{_,rfl}:=WW hl;kernel_rfl)|(let{_,_,rfl}:=ln2 hl;kernel_rfl)|(let{_,_,_,rfl}:=Wz hl;kernel_rfl))
  (sc:q_ N ?qT ?jR:=by exact fS1 rfl rfl rfl rfl ?qP) (hl:(N.take m).length=m:=by rfl)
  (bn:Bn x st ?qT:=by intro _ _ _ _ _ _ us hl;first|(let{_,rfl}:=WW hl;rfl)|(let{_,_,rfl}:=ln2 hl;rfl)|(let{_,_,_,rfl}:=Wz hl;rfl)|(let{_,_,_,_,rfl}:=Yr hl;rfl)):∀i:Nat,CF P w K mg base x (k+i)<|Xy K m<|mf i
 | 0=>by
  let{f,fd,a,b}:=h;rw[hz];exact .zav _ _ a b.kp<|b.binds bn
 | i+1=>hl▸zl h bn λFn=>Gm Fn sc (λ_ _ _ _ _ _ hr=>hb (Oa N h hb hz hm sc hl bn i) hr sc.nd)<|hm i
theorem N9{mb:SM D}{mf:Re D->M D}{d:Int}(N:Re Str)(h:FbV K mg (x,st) d)(hb:Hb P w K mg base x st k N mb)
  (hm:∀ds,ds.length=(N.take m).length->mf ds=mb KD (Si ds++nn N m):=by intro ds hl;first|(let{_,_,_,rfl}:=Wz hl;kernel_rfl)|(let{_,_,_,_,rfl}:=Yr hl;kernel_rfl)|(let{_,_,rfl}:=ln2 hl;kernel_rfl))
  (sc:q_ N ?qT ?jR:=by exact fS1 rfl rfl rfl rfl ?qP) (hl:(N.take m).length=m:=by rfl)
  (b0:∀(T:Tk) (kV doc pm:SL) (an:SC Tk) (t_ ct:SL) (us:Re SL) (u:SL),us.length=(N.take m).length->∃k:SC (UF SL)->Sem (Re<|Str×SL),bindArgs (PySem.W.fnOf x x (cY st) ?qt ?jR (.ref T) kV doc pm an t_ ct) {us,[]}=seqItems? (.ref T) >>= k/\k (some #[u])=pure ((N.take m).zip us):=by intro _ _ _ _ _ _ _ us u hl;first|(let{_,_,_,rfl}:=Wz hl;exact{_,rfl,rfl})|(let{_,_,_,_,rfl}:=Yr hl;exact{_,rfl,rfl})|(let{_,_,rfl}:=ln2 hl;exact{_,rfl,rfl}))
  (b1:∀(T:Tk) (kV doc pm:SL) (an:SC Tk) (t_ ct:SL) (us:Re SL) (u:SL),us.length+1=(N.take m).length->∃k:SC (UF SL)->Sem (Re<|Str×SL),bindArgs (PySem.W.fnOf x x (cY st) ?qt ?jR (.ref T) kV doc pm an t_ ct) {us,[]}=seqItems? (.ref T) >>= k/\k (some #[u])=pure ((N.take m).zip<|us++[u]):=by intro _ _ _ _ _ _ _ us u hl;have hl:=Nat.succ.inj hl;first|(let{_,_,rfl}:=ln2 hl;exact{_,rfl,rfl})|(let{_,_,_,rfl}:=Wz hl;exact{_,rfl,rfl})|(let{_,rfl}:=WW hl;exact{_,rfl,rfl})):CF P w K mg base x (k+1) (J_ K m mf)/\CFd P w K mg base x (k+1) (J_ K m mf) d:=by
 let{f,fd,T,a,b,c}:=h;have F:=IK     b sc (λ_ _ _ _ _ _ hr=>hb hr sc.nd) hm;rw[hl]at F;exact{{f,fd,_,F,a,b.kp,b.zat c<|b0 T},f,fd,_,_,F,a,b.kp,b.zas c<|b1 T,c.choose_spec.choose_spec.choose_spec.2.2}
end
def lj:D->D->SC D
 | .list xs,.int i=>some<|.list<|cutD xs (some i) none
 | _,_=>none
theorem D5{S:Type}{X:Cx}{a b:TW}{ma mb:Ev S D}{p2 pos:Pos}(ha:AE X a ma)(hb:AE X b mb):AE X (.Subscript a (.Slice (some b) none none p2) pos) (Mb lj ma mb) :=
 λOK x k G F Z H ρ Q hO hX St ok kk=>Rt (yc Bc aO (Bp aO) Bq) (ha OK x _ G F Z H ρ _ hO hX St ok λd v F1 H1 ρ1 s1 S1 r1 o1=>hb OK x _ G F1 Z H1 ρ1 _ hO hX S1 o1 λd2 v2 F2 H2 ρ2 s2 S2 r2 o2=>by
  let{res,e,o'}:=dC hO o2;unfold lj at e;split at e
  case h_2=>cases e
  rename_i ds i
  cases e
  cases r2
  have r3:=r1.mono s2;let{a,vs,rfl,h1,h2}:=OR.list (H:=H2) S2.fh<|Or.inl r3;refine{i,rfl,a,vs,rfl,h1,λq hq=>?_};let{S4,r4}:=S2.P_ hq<|wU h2 (some i) none;let{F5,s5,S5,r5}:=S4.settle r4
  exact kk _ _ F5 _ ρ2 (s1.trans<|s2.trans s5) S5 r5 o')
end L4
set_option maxHeartbeats 3200000
namespace WD
open PySem PyProof.Rows
def tyB:Bool->String
 | true => "list"
 | false => "tuple"
section
variable {prog:Tl}{w:TD}{A:UV}{E:w_}{s:SZ}{a:Tk}{o:Obj}{xs:UF SL}{k:Nat}{name:Str}
theorem Ij(b:Bool){u:Tok}{Q:w_}
  (hx:s.heap.get? a=some o) (hc:o.cls=.type (tyB b)) (TZ:o.data=.seq xs k) (hd:o.dict=none) (Vf:typeLookup (.type<|tyB b) name=pure none) (WE:(["__module__","__name__","__qualname__","__doc__","__annotations__"]:Re Str).contains name=false) (hA:A.handled=none) (hsz:name.length+100<=sizeLine)
  (h:∀h' tk e,Heap.NewExcOf s.heap h' e "AttributeError" -> E (.ref e) { s with heap:=h',toks:=tk }) :
  wpAny ?D A (getAttrBy (.ref a) (.str name u) false) Q E s:=by
 let{c,UJ,dat,sl}:=o;simp only at hc TZ hd;subst hc TZ hd;let{hp,g,d,tk,os}:=s;have hT:∀tk',({hp,g,d,tk',os}:SZ).TypeIs (.ref a)<|tyB b:=λ_=>{_,hx,rfl}
 have f1:=sub_AttributeError;have f3:=F.slot_list_getattribute.lookup;have f4:=F.slot_list_getattribute.bind<|.ref a;have f5:=am_list_getattr_none;have g3:=F.slot_tuple_getattribute.lookup;have g4:=F.slot_tuple_getattribute.bind<|.ref a;have g5:=am_tuple_getattr_none;unfold getAttrBy
 cases b<;>dsimp only[tyB]at hT hx Vf
 all_goals
  repeat (any_goals (first|assumption|exact hT _|((with_reducible show wpAny _ _ (call (Value.builtin "list.__getattribute__") _ _) _ _ _);refine Qi F.slot_list_getattribute (hT _) am_entry_list_getattribute (F.args_list_getattribute_2 _ _) (meets_getattribute_miss_list a xs k sl name _ Vf WE hsz) {hx,hA,λh' tk' e Rx=>?_})|((with_reducible show wpAny _ _ (call (Value.builtin "tuple.__getattribute__") _ _) _ _ _);refine Qi F.slot_tuple_getattribute (hT _) am_entry_tuple_getattribute (F.args_tuple_getattribute_2 _ _) (meets_getattribute_miss_tuple a xs k sl name _ Vf WE hsz) {hx,hA,λh' tk' e Rx=>?_})|wp_step))
  let{t',u',he}:=Rx.there;show wpAny _ _ (getattributeRaised _ _ _ _ _ _ _) _ _ _;unfold getattributeRaised
  repeat (any_goals (first|assumption|wp_step))
  exact h _ _ _ Rx.of
theorem zaD(b:Bool){Q:SC SL->SZ->Prop}
  (hx:s.heap.get? a=some o) (hc:o.cls=.type (tyB b)) (TZ:o.data=.seq xs k) (hd:o.dict=none) (Vf:typeLookup (.type<|tyB b) name=pure none) (WE:(["__module__","__name__","__qualname__","__doc__","__annotations__"]:Re Str).contains name=false) (hA:A.handled=none) (hsz:name.length+100<=sizeLine)
  (h:∀h' tk e,Heap.NewExcOf s.heap h' e "AttributeError" -> Q none { s with heap:=h',toks:=tk }) :
  wpAny ?D A (getAttr? (.ref a) name) Q E s:=by
 unfold getAttr? getAttrBy?;let{hp,g,d,tk,os}:=s
 repeat (any_goals (first|assumption|(with_reducible refine Ij b (s:={hp,g,d,_,os}) hx hc TZ hd Vf WE hA hsz λh' tk' e Rx=>?_)|wp_step))
 let{oe,vs,he,hec,hed,_}:=Rx.there;have f1:=sub_AttributeError;let{c,UJ,dat,sl}:=oe;simp only at hec hed;subst hec hed
 repeat (any_goals (first|assumption|wp_step))
 exact h _ _ _ Rx
end
end WD
namespace L4
open PySem PySem.Spec PyProof.Rows L2 L3
variable {X:Cx}{H F H':Hp}{pins:C_}{Z:L2.St}{s:SZ}{a p:Tk}{K:Fg}{o:Obj}{v:V}{A:UV}{E:w_}{e tg:TW}
section
variable {b:Tk} {y:V} {u r:SL}
theorem Mh{Q:Unit->SZ->Prop}(hu:A.units+1<cLine)(I:Inv X pins Z H s)(g:RY H a y v H')(ry:RelV y u)(rv:RelV v r)
  (h:∀s',Inv X pins Z H' s'->(∀b o,b≠a->s.heap.get? b=some o->s'.heap.get? b=some o)->Q () s') :
  wpAny ?B A (dictSet a u r) Q E s:=by
 let{kvs,k,e,ey,l,eH}||{kvs,k,b,e,ey,eb,l,eH}:=g
 ·subst ey eH;let{z,hd,vs,rel,dd}:=Cd I.k_ e;have hz:vs.length<=sizeLine:=by rw[<-rel.length];exact z
  have hl:(putK kvs k v).length<=sizeLine:=by have:=fY kvs k v;lia
  refine wpAny_dictSet_pairs (hsz:=hz) (lJ ry) dd λh' Xs hs=>h _ ?_ λb o n e=>(hs.2 b n).trans e
  have he:∃q,h'.get? a=some q:=let ⟨q,_,_,hq,_⟩:=Xs;{q,hq}
  exact nP I (by rw[e];exact True.intro) hs he<|GG hl hd (rel.put k rv) Xs
 ·subst ey eH
  cases (show u=Value.ref b from ry)
  let{z,hd,xs,rel,dd}:=GE I.k_ e;have hz:xs.length<=sizeLine:=by rw[<-Paired.length rel];exact z
  have hl:(putK kvs k v).length<=sizeLine:=by have:=fY kvs k v;lia
  refine wpAny_dictSet_heap (hsz:=hz) (show(tupleKind ?qy).room A from by first|exact hu|exact ut ?jm hu|(show A.units<cLine;lia)) (gZ I.k_ eb) dd λh' Xs hs=>h _ ?_ λb o n e=>(hs.2 b n).trans e
  let{q,es,ep,hq,h2,h3,h4,_,h5}:=Xs;refine nP I (by rw[e];exact True.intro) hs {q,hq} {hl,hd,_,(rel.put k eb rv).keeps λc ys ec=>?_,q,es,ep,hq,h2,h3,h4,h5}
  grind
theorem qH(g:RY H a y v H'):H a≠none/\∀b,b≠a->H' b=H b:=by
 let{kvs,k,e,ey,l,eH}||{kvs,k,b,e,ey,eb,l,eH}:=g
 ·subst eH;grind
 ·subst eH;grind
end
inductive RX(K:PySem.W.Frag)(d:Tk):Hp->Re V->Hp->Prop where
 | nil {H:Hp}:RX K d H [] H
 | cons {H H1 H':Hp} {t:Tk} {k v:V} {rest:Re V}:B_ K H t [k,v]->RY H d k v H1->RX K d H1 rest H'->RX K d H (.ref t::rest) H'
theorem vd:entryFor table "dict.update.loop"=some Builtin.«dict.update.loop»:=entryFor_of_tree ?qP
theorem kU:plainId "dict.update.loop" = true:=by decide +kernel
def Sqb(K:PySem.W.Frag)(b:Bool)(H:Hp)(a:Tk)(xs:Re V):Prop:=match b with
 | true=>QO K H a xs
 | false=>H a=some (.tup xs)
def ItB(b:Bool)(h:Wp)(it p:Tk)(i:Nat):Prop:=match b with
 | true=>h.IsListIter it p i
 | false=>h.IsTupleIter it p i
section
variable {it:Tk} {xs:Re V} {b:Bool}
theorem FC{i:Nat}{Q:SC SL->SZ->Prop}(hh:A.handled=none)(I:Inv X pins Z H s)(h:Sqb X.K b H p xs)(st:ItB b s.heap it p i)
  (h1:∀x u h',xs[i]? = some x->RelV x u->ItB b h' it p ?qc->Heap.SameBut it s.heap h'->Q (some u) { s with heap:=h' }) (h2:∀h',xs[i]? = none->Heap.ExtBut it s.heap h'->Q none { s with heap:=h' }) :
  wpAny ?B A (pyNext<|.ref it) Q E s:=by
 cases b with
 | true =>
  let{j_,rv,pl,_}:=I.list h
  cases hx:xs[i]? with
  | some x =>
   let{u,hu,ru}:=rv.get hx;exact wpAny_pyNext_list_item st pl.isList (x:=u) (by simpa using hu) λh' a b=>h1 x u h' hx ru a b
  | none=>exact wpAny_pyNext_list_end hh st pl.isList (by have:=rv.length;simp at hx ⊢;lia) λh' e=>h2 h' hx e
 | false =>
  let{j_,rv,pl,_}:=I.tuple<|B_.of h
  cases hx:xs[i]? with
  | some x =>
   let{u,hu,ru}:=rv.get hx;exact wpAny_pyNext_tuple_item st (show s.heap.IsTuple p j_.toArray from pl) (x:=u) (by simpa using hu) λh' a b=>h1 x u h' hx ru a b
  | none=>exact wpAny_pyNext_tuple_end hh st (show s.heap.IsTuple p j_.toArray from pl) (by have:=rv.length;simp at hx ⊢;lia) λh' e=>h2 h' hx e
theorem ItB.at{h h':Wp}{i:Nat}(st:ItB b h it p i)(k:∀o,h.get? it=some o->h'.get? it=some o):ItB b h' it p i:=by
 cases b with
 | true=>exact Heap.IsListIter.at st k
 | false=>exact Heap.IsTupleIter.at st k
theorem N7{R:Result->SZ->Prop}(hh:A.handled=none)(hu:A.units+2<cLine){d:Tk}(f1:it≠X.env.locals)(f3:it∈X.ex\/X.s₀.heap.objs.size<=it)
  (f4:∀x c,X.env.cells.lookup x=some c->c≠it) (f5:∀p∈X.pn++pins,p.1≠it):∀(rest:Re V) (i:Nat) (j:Int) (u:Tok) (s:SZ) (H H':Hp),Inv X pins Z H s->H it=none->ItB b s.heap it p i ->
  (∀H1,(∀b,b≠d->H1 b=H b)->Sqb X.K b H1 p xs)->xs.drop i=rest->RX X.K d H rest H'->(∀s',Inv X pins Z H' s'->R (.ok<|.ret .none) s') ->
  codeAny ?B A (.builtin "dict.update.loop" {[.ref d,.ref it,.int j u,.none],[]}) R s:=by
 intro rest
 induction rest with
 | nil =>
  intro i j u s H H' I f0 st kp hd P hR
  cases P
  refine QI vd ?_;rw[Around.under_plainId kU _];show wpAny _ A.in1 (pyNext (.ref it) >>= _) _ _ s;refine h_<|FC (show A.in1.handled=none from hh) I (kp H λ_ _=>rfl) st (λx v h' hx=>?_) λh' _ eb=>?_
  ·have:=List.drop_eq_nil_iff.mp hd;rw[QM this]at hx
   cases hx
  exact h_<|m_<|m_<|hR _<|I.turned (t':=s.toks) ?jZ f0 f1 f3 f4 f5
 | cons q rest ih =>
  intro i j u s H H' I f0 st kp hd P hR
  cases P with
  | @cons _ H1 _ t k v _ tq g P =>
  refine QI vd ?_;rw[Around.under_plainId kU _];show wpAny _ A.in1 (pyNext (.ref it) >>= _) _ _ s;have Rx:xs[i]? = some (.ref t):=by
   have:=congrArg (λl=>l[0]?) hd;simpa using this
  refine h_ (FC (show A.in1.handled=none from hh) I (kp H λ_ _=>rfl) st (λx y h' hx ry o_ sb=>?_) λh' hx=>by rw[Rx]at hx;cases hx);rw[Rx]at hx
  cases hx
  cases (show y=Value.ref t from ry)
  dsimp only;have I1:Inv X pins Z H { s with heap:=h' }:=I.turned (t':=s.toks) (λb o hb e=>(sb.2 b hb).trans e) f0 f1 f3 f4 f5;let{tt,vt,pt,_}:=I1.tuple tq
  cases vt with
  | cons rk vt =>
  cases vt with
  | cons rv' vt =>
  cases vt
  let{ot,et,ct,n,dt}:=pt;refine h_<|oP ?_;have hT:({ s with heap:=h' }:SZ).TypeIs (.ref t) "tuple":={ot,et,ct};let{c,UJ,dat,sl}:=ot;simp only at ct dt;subst ct dt;refine h_<|wpAny_tryCatch ?_;unfold Builtin.Dict.pairItems;refine h_<|Li hT ?_;rw[ar ?C];refine h_<|wa et rfl ?_;refine m_ ?_;show wpAny _ _ (holding [_,_]<|dictSet d _ _) _ _ _;have nd:it≠d:=λz=>(qH g).1 (by rw[<-z];exact f0)
  refine oP (Mh (by show A.units+1+1<cLine;exact hu) I1 g rk rv' λs2 I2 k2=>?_);refine m_ {plainId_quiet kU _,?_};exact ih ?qc _ _ s2 H1 H' I2 (((qH g).2 it nd).trans f0) (o_.at λo e=>k2 it o nd e) (λH2 h2=>kp H2 λb n=>(h2 b n).trans<|(qH g).2 b n) (by rw[<-List.drop_drop,hd];rfl) P hR
end
section
theorem Lr(b:Bool):typeLookup (.type<|WD.tyB b) "keys" = pure none:=by cases b<;>(rw[typeLookup_type,builtinLookup_eq_fast];kernel_rfl)
theorem AH{b:Bool}{xs:Re V}{ob:HO}{Q:w_}(hh:A.handled=none)(hu:A.units+10<cLine)(I:Inv X pins Z H s)(hob:ob=.dK []\/ob=.dT [])
  (hq:∀H1,(∀b,b≠s.heap.objs.size->H1 b=H b)->Sqb X.K b H1 p xs) (P:RX X.K s.heap.objs.size (upd H s.heap.objs.size ob) xs H') (h:∀s',Inv X pins Z H' s'->Q (.ref s.heap.objs.size) s') :
  wpAny ?B A (call (.type "dict") [.ref p]) Q E s:=by
 refine callType_codes (Q₁:=λobj s₁=>obj=.ref s.heap.objs.size/\s₁={ s with heap:=s.heap.push { cls:=.type "dict",data:=.dict #[] } }) F.kt_called_dict (F.kt_typeCall_dict_1 _) F.entry_dict_init (kt_code_dict_new _ {rfl,rfl}) ?_;rintro obj s₁ ⟨rfl,rfl⟩;have I1:Inv X pins Z (upd H s.heap.objs.size ob) { s with heap:=s.heap.push { cls:=.type "dict",data:=.dict #[] },toks:=s.toks }:=by
  let rfl||rfl:=hob
  ·exact I.laid ?qS ?jm<|zd s.heap I.big
  ·exact I.laid ?qS ?jm<|sT s.heap I.big
 have hT:({ s with heap:=s.heap.push { cls:=.type "dict",data:=.dict #[] } }:SZ).TypeIs (.ref s.heap.objs.size) "dict":={_,QV _ rfl,rfl};refine{hT,F.args_dict_init_2 _ _,?_};unfold Builtin.«dict.__init__»;refine h_ ?_;unfold Builtin.Dict.selfAndRest;refine h_<|QL hT ?_;show wpAny _ _ (pure (s.heap.objs.size,[Value.ref p])) _ _ _;refine m_ ?_;show wpAny _ _ (Builtin.Dict.updateFrom "dict.__init__" s.heap.objs.size (.ref p) [] .none) _ _ _;unfold Builtin.Dict.updateFrom;have q1:=hq (upd H s.heap.objs.size ob) λb n=>aQ n;have q2:∃(o:Obj) (xs:UF SL) (n:Nat),(s.heap.push { cls:=.type "dict",data:=.dict #[] }).get? p=some o/\o.cls=.type (WD.tyB b)/\o.data=.seq xs n/\o.dict=none:=by
  cases b with
  | true=>let{j_,rv,{o,n,e,c,d,dt},hz}:=I1.list q1;exact{o,_,n,e,c,dt,d}
  | false =>
   let{_,j_,_,{o,e,c,n,dt},ob,e2,d}:=I1.k_ _ _ q1;rw[e]at e2
   cases e2
   exact{o,_,n,e,c,dt,d}
 let{o,ys,n,e,c,dt,d}:=q2;refine h_<|Li {o,e,c} ?_;rw[ar (by cases b<;>decide)];refine h_ (WD.zaD b (A:=A.in1.in1) e c dt d (Lr b) ?C hh (by rw[sizeLine_eq];decide) λh2 tk2 ex ne=>?_);simp![Option.isNone_none,yp];have I2:=I1.kept (h':=h2) (t':=tk2) ne.keeps;refine h_<|P4 ?_;have go:∀{Q:w_} {E:w_} {A:UV},(∀h',(∀b o,h2.get? b=some o->h'.get? b=some o)->ItB b h' h2.objs.size p 0->Q (.ref h2.objs.size) { s with heap:=h',toks:=tk2 })->wpAny ?B A (pyIter<|.ref p) Q E { s with heap:=h2,toks:=tk2 }:=λ{Q E A} k=>by
  cases b with
  | true=>let{_,_,pl,_}:=I2.list q1;exact PU pl.isList<|k _ (λb o e=>z_ _ e) {_,QV _ rfl,rfl,rfl}
  | false=>let{j_,_,pl,_}:=I2.tuple<|B_.of q1;exact pr (show h2.IsTuple p j_.toArray from pl)<|k _ (λb o e=>z_ _ e) {_,QV _ rfl,rfl,rfl}
 refine h_<|go λh3 k3 YO=>?_;let{f0,f1,f2,f3,f4,f5}:=I2.RJ (H':=upd H s.heap.objs.size ob) ?jm<|I2.k_.fresh ?jm;refine m_ {plainId_quiet kU _,?_};exact N7 (A:=A.in1) hh ?Z f1 f3 f4 f5 xs 0 _ _ _ _ H' (I2.kept (t':=tk2) k3) f0 YO (λH2 h2=>hq H2 λb n=>(h2 b n).trans<|aQ n) rfl P λs' J=>{rfl,h s' J}
end
def Ar(t:Bool):HO:=if t then .dT []else .dK []
def Ow(K:PySem.W.Frag)(b t:Bool)(te:TE):TE:=λZ H Q=>te Z H λx H1=>∃a xs,x=.ref a/\∀p,H1 p=none->(∀H2:Hp,(∀b,b≠p->H2 b=H1 b)->Sqb K b H2 a xs)/\∃H',RX K p (upd H1 p<|Ar t) xs H'/\Q (.ref p) H'
section
variable {te:TE} {p pos:Pos}
theorem HR(b t:Bool)(hc:X.calm=true)(hu:X.A.units+10<cLine)(hg:Gl X "dict")(hm:X.mg "dict"=none)(ha:PE X e te)(he:starEach [e] X.env=[?K]) :
  PE X (.Call (.Name "dict" p) [e] [] pos) (Ow X.K b t te):=by
 intro pins s Z H Q I h;refine nu<|gY I hg hm (show bootBuiltins "dict"=some (.type "dict") by decide +kernel) ?_ ?C ?C;refine ib (T := "dict") ?_ he rfl;rw[he];show wpAny _ _ (spliced<|?K::backTo pos []) _ _ s;refine Qj<|p_ ?jl λv s1 ⟨x,H1,I1,r1,q1⟩=>?_;let{a,xs,rfl,k}:=q1
 cases r1
 refine Qq ?_;let{hq,H',P,q}:=k s1.heap.objs.size ?jJ;exact AH (I1.ok.hd hc) hu I1 (ob:=Ar t) (by cases t;exact .inl rfl;exact .inr rfl) hq P λs' J=>{.ref s1.heap.objs.size,_,J,rfl,q}
end
def j4(t:Bool):Re ?N->Re D->SC (Re ?N)
 | es,[]=>some es
 | es,.tuple [k,d]::r=>(hV t es k d).bind λes1=>j4 t es1 r
 | _,_=>none
theorem Nq{t:Bool}{es es1:Re ?N}{kd d:D}{x:V}(hh:Ra K F H p (Y1 t es))(sm:c_ F H)(rk:Rep K F x kd)(rv:Rep K F v d)(hp:hV t es kd d=some es1) :
  ∃H1,RY H p x v H1/\Ra K F H1 p (Y1 t es1):=by
 unfold hV at hp;split at hp
 case isFalse=>cases hp
 rename_i hc
 cases hp
 rw[am,QS]at hc
 cases t with
 | true =>
  let{ks,rfl}:=eN hc.1;let{b,rfl,hb}:=fT rk;let{kvs,h1,h2,h3}:=(show Ra K F H p (.t es)from hh);let{p1,p2}:=qA mz ks rv h2 h3;have hlen:kvs.length=es.length:=by have:=congrArg List.length h2;simpa using this.symm
  exact{_,RY.t h1 (sm _ _ hb) ?A,{_,aN,p1,p2}}
 | false =>
  let{ks,rfl}:=jp hc.1;obtain rfl:=j1 rk;let{kvs,h1,h2,h3}:=(show Ra K F H p (.k es)from hh);let{p1,p2}:=qA Ae ks rv h2 h3;have hlen:kvs.length=es.length:=by have:=congrArg List.length h2;simpa using this.symm
  exact{_,RY.k h1 ?A,{_,aN,p1,p2}}
theorem HE{t:Bool}(fp:F p=none):∀{vs:Re V} {ds:Re D} {es W_:Re ?N} {H:Hp},i_ K F vs ds->Ra K F H p (Y1 t es)->c_ F H->j4 t es ds=some W_ ->
  ∃H',RX K p H vs H'/\Ra K F H' p (Y1 t W_)/\∀b,b≠p->H' b=H b:=by
 intro vs
 induction vs with
 | nil =>
  intro ds es W_ H r hh sm e
  cases r
  cases e
  exact{H,.nil,hh,λ_ _=>rfl}
 | cons x vs ih =>
  intro ds es W_ H r hh sm e
  cases r with
  | cons r1 r2 =>
  unfold j4 at e;split at e
  ·rename_i q;cases q
  ·rename_i k d r q
   cases q
   let{es1,e1,e2}:=Option.bind_eq_some_iff.mp e;let{a,ws,rfl,ha,SX}:=r1.QX
   cases SX with
   | cons rk SX =>
   cases SX with
   | cons rv SX =>
   cases SX
   let{H1,g,hh1}:=Nq hh sm rk rv e1;have nb:=(qH g).2;have sm1:c_ F H1:=λb o z=>by rw[nb b (λy=>by rw[y,fp]at z;cases z)];exact sm b o z
   let{H',P,hh2,n2}:=ih r2 hh1 sm1 e2;exact{H',.cons (B_.of<|sm _ _ ha) g P,hh2,λb n=>(n2 b n).trans<|nb b n}
  ·cases e
def zf(t:Bool):D->SC (Re ?N)
 | .list ds=>j4 t [] ds
 | _=>none
def As(t:Bool):D->SC (Re ?N)
 | .tuple ds=>j4 t [] ds
 | _=>none
def Pk(b t:Bool)(d:D):SC (Re ?N):=match b with
 | true=>zf t d
 | false=>As t d
def OE{S:Type}(b t:Bool)(i:Nat)(me:Ev S D):SM S:=λK ρ=>me K.x (λd ρ1=>match jO ρ1 i with
 | true=>(oM<|Pk b t d).on (λe=>K.x e ρ1) λes=>K.nx<|ρ1.set i<|some<|.ol<|Y1 t es
 | false=>.bad) ρ
theorem AN{S:Type}(b t:Bool){i:Nat}{x:Str}{me:Ev S D}{p pos pos' O_:Pos}(hc:X.calm=true)(hu:X.A.units+1100<cLine)(hg:Gl X "dict")(hm:X.mg "dict"=none)(hN:X.N.Nodup)(hi:X.N[i]? = some x)(hx:Loc X.env.scope x)(hk:AE X e me)(he:starEach [e] X.env=[?K])
  (hs:swapsWith (.Call (.Name "dict" p) [e] [] O_) (some<|.Name x pos') pos.line X.env=pure false) (hf:X.fn x=true\/X.env.scope.names.lookup x=some .local) :
  AS (S:=S) X (.Assign [.Name x pos'] (.Call (.Name "dict" p) [e] [] O_) pos) (OE b t i me):=λOK K G F Z H ρ E hO hX St ok eo =>
 jf (j6 hN hi hx (HR b t hc ?A hg hm aO he) hs hf) (hk OK K.x _ G F Z H ρ _ hO hX St ok λd v F1 H1 ρ1 s1 S1 r1 o1=>by
  split at o1
  case h_2=>exact(hO o1).elim
  rename_i hq;let{es,hd,o3}:=dC hO o1;let{hl,Ud}:=dZ hq;have q:∃a vs ds,v=.ref a/\Sqb X.K b F1 a vs/\i_ X.K F1 vs ds/\j4 t [] ds=some es:=by
   cases b with
   | true =>
    cases d<;>try (cases hd;done)
    let{a,vs,rfl,h1,h2}:=r1.lst_inv;exact{a,vs,_,rfl,h1,h2,hd}
   | false =>
    cases d<;>try (cases hd;done)
    let{a,vs,rfl,h1,h2}:=r1.QX;exact{a,vs,_,rfl,h1,h2,hd}
  let{a,vs,ds,rfl,h1,h2,hd}:=q;refine{a,vs,rfl,λp hp=>?_};have fp:=S1.fh.free hp;have op:=S1.oh.free hp;have smU:∀H2:Hp,(∀b,b≠p->H2 b=H1 b)->c_ F1 H2:=λH2 h b o z=>by rw[h b (λy=>by rw[y,fp]at z;cases z)];exact S1.fh b o z
  let{H',P,hh,n}:=HE (t:=t) (es:=[]) (H:=upd H1 p (Ar t)) fp h2 (by cases t<;>exact{[],aN,rfl,.nil}) (smU _ λb n=>aQ n) hd;refine{λH2 h=>(by cases b;exact smU H2 h _ _ h1;exact(smU H2 h).seq h1),H',P,?_};let{o,ho}:=hh.some;have eH:H'=upd H1 p o:=funext λb=>by
   by_cases z:b=p
   ·rw[z,ho,aN]
   ·rw[n b z,aQ z,aQ z]
  subst eH
  exact eo.nx F1 _ _ _ s1 ((S1.lay (o:=o) hp).store Ud hl<|.inr {Y1 t es,rfl,p,rfl,{fp,op,hh},S1.fresh_ne hp}) o3)
def Itk(a:Tk)(o:Obj)(ks:Re Tk):It :=
 {λi H=>(∃u,H a=some (.Q3 o u))/\i<ks.length,λi H x H'=>H'=H/\∃b,ks[i]? = some b/\x=.ref b,λi H=>(∃u,H a=some (.Q3 o u))/\ks.length<=i}
theorem wQ(I:Inv X pins Z H s)(h:∃u,H a=some (.Q3 o u)):s.heap.get? a=some o:=let ⟨u,e⟩:=h;((I.k_ a _ e)).1
theorem CK{P:Tl}{w:TD}{K:PySem.W.Frag}{it:Tk}{es:UF DictEntry}{ep:Nat}{ks:Re Tk}(c:o.ExactDict)(d:o.data=.dict es ep)(hk:es.toList.map (·.key)=ks.map Value.ref):Turn P w K tg (Itk a o ks) [it] it (λi h=>h.IsKeyIter it a i es.size ep) where
 mem:=by simp
 obj:=λi h st b hb=>by
  let{o,e,c,d}:=st
  grind
 keep:=λi h h' st k=>st.at λo e=>k it ?G o e
 item:=by
  intro X hP hw hK hc i pins s Z H E I hf st ⟨hu,hi⟩;let{f0,f1,f2,f3,f4,f5}:=hf it ?G;have hl:=by
   have:=congrArg List.length hk;simpa using this
  refine TS.Wy (n:=0) st {o,wQ I hu,c,d} (λXn h' o_ sb=>?_) λz=>by lia
  have I1:Inv X pins Z H { s with heap:=h' }:=I.turned  (λb o hb e=>(sb.2 b hb).trans e) f0 f1 f3 f4 f5;let{q,e,c',d'}:=id o_;have ek:es[i].key=.ref ks[i]:=by
   have h1:(es.toList.map (·.key))[i]? = (ks.map Value.ref)[i]?:=by rw[hk]
   grind
  exact{_,rfl,BU  e c' d' ?C {.ref ks[i],H,I1,ek,{rfl,_,ay hi,rfl},o_,λb hb=>(hf b hb).1}}
 done:=by
  intro X hP hw hK hc i pins s Z H E I hf st ⟨hu,hi⟩;let{f0,f1,f2,f3,f4,f5}:=hf it ?G;have hl:=by
   have:=congrArg List.length hk;simpa using this
  exact TS.Wy (n:=0) st {o,wQ I hu,c,d} (λXn=>by lia) λ_=>{I.ok.hd hc,λh' eb=>{rfl,I.turned  ?jZ f0 f1 f3 f4 f5}}
 self:=λ_ _ _ _ _ st h=>wpAny_pyIter_keyiter st h
def Ge(tl:TE):TI:=λZ H R=>tl Z H λx H1=>∃a o kvs,x=.ref a/\H1 a=some (.Q3 o<|.dT kvs)/\∀xs:Re ?jV,KT H1 kvs xs->R (Itk a o (xs.map (·.2.1))) H1
theorem uZ{kvs:Re ?qs}{R:It->Hp->Prop}(I:Inv X pins Z H s)(e:H a=some (.Q3 o<|.dT kvs))(q:∀xs:Re ?jV,KT H kvs xs->R (Itk a o (xs.map (·.2.1))) H) :
  wpAny ?B X.A (pyIter<|.ref a) (PIE X pins Z tg R) X.xe s:=by
 let{g0,z,y,xs,r,ob,es,ep,h1,h2,h3,h4,h5}:=((I.k_ a _ e));have eo:=Option.some.inj<|h1.symm.trans g0;subst eo;have hk:es.toList.map (·.key)=(xs.map (·.2.1)).map Value.ref:=by
  rw[h4,eT,eT];exact gi λq _=>rfl
 refine TS.Y_ y {ob,h1,h2,h3} ?_;refine{s.heap.objs.size,[s.heap.objs.size],_,_,H,rfl,I.kept  λb o e=>z_ _ e,CK h2 h3 hk,{_,QV _ rfl,rfl,rfl},λb hb=>?_,q xs r};have e:=by simpa using hb
 subst e;exact I.RJ ?jm ?j2
theorem CI{u:HO}{ks:Re Tk}{ds:Re D}(h:F a=some (.Q3 o u))(r:i_ K F (ks.map V.ref) ds):Walk K (Itk a o ks) ds F where
 go:=λi G F2 Z H2 ρ s S hi=>{{u,S.fh _ _<|s _ _ h},by have:=r.length;rw[v_]at this;lia}
 VB:=λi G F2 Z H2 ρ x H3 d s S hd ⟨e,b,eb,ex⟩=>by
  let{v,e1,e2}:=r.get hd
  grind
 stop:=λG F2 Z H2 ρ s S=>{{u,S.fh _ _<|s _ _ h},by have:=r.length;rw[v_]at this;lia}
def pP(es:Re ?N):SC ?Q:=match es with
 | (k,_)::_=>if dB k then some (es.map (·.1))else none
 | []=>none
def vO(d:D):SC ?Q:=match d with
 | .dict es=>pP es
 | d=>cH d
def OV(p:Pu D):Pu ?Q:=λρ=>bd (p ρ) λd=>oM<|vO d
theorem xX{es:Re ?N}{ds:Re D}(r:Rep K F v (.dict es))(h:pP es=some ds):ds=es.map (·.1)/\∃a o kvs,v=.ref a/\F a=some (.Q3 o<|.dT kvs)/\es.map (·.1)=kvs.map ?qn/\i_ K F (kvs.map (·.2)) (es.map (·.2)):=by
 unfold pP at h;split at h
 ·rename_i k z W_;split at h
  ·rename_i hk
   cases h
   refine{rfl,?_};let{ks,rfl}:=eN hk;generalize he:((dc ks,z)::W_)=el at r
   cases r with
   | UJ h1 h2 h3=>exact{_,_,_,rfl,h1,h2,h3}
   | @Yz _ kvs _ h1 h2 h3 =>
    subst he
    cases kvs with
    | nil=>simp at h2
    | cons q kvs =>
     let{q1,q2}:=q;simp![ap,List.cons.injEq]at h2;have:=h2.1
     cases q1<;>cases this
   | exc _ _ _ _ _=>cases he
   | fn _=>cases he
  ·cases h
 ·cases h
theorem jK{pp:Pu D}(h:AP X e pp):AI X tg e (OV pp):=λG F Z H ρ R S w=>by
 refine vP (t:=λZ H R=>gE X e Z H λx H1=>(∃a o kvs,x=.ref a/\H1 a=some (.Q3 o<|.dT kvs)/\∀xs ,KT H1 kvs xs->R (Itk a o (xs.map (·.2.1))) H1)\/((∃a,x=.ref a/\(∃xs,QO X.K H1 a xs)/\R (Itl X.K a) H1)\/∃a,x=.ref a/\(∃xs,B_ X.K H1 a xs)/\R (Itt X.K a) H1)) ?_<|h G F Z H ρ _ S<|w.bind.imp λd F1 H1 s1 S1 w1 v r1=>?_
 ·intro pins s Z H R I h;refine p_ (aO pins s Z H _ I h) λu s1 ⟨x,H1,I1,r1,q1⟩=>?_
  let{a,o,kvs,rfl,e,q}||q1:=q1
  ·cases r1
   exact uZ I1 e q
  ·let{a,e,{xs,hq},q}||{a,e,{xs,hq},q}:=q1
   ·subst e
    cases r1
    let{j_,rv,p,hz}:=I1.list hq;refine PU p.isList ?_;refine{s1.heap.objs.size,[s1.heap.objs.size],_,_,H1,rfl,I1.kept  λb o e=>z_ _ e,n4 a _,{_,QV _ rfl,rfl,rfl},λb hb=>?_,q};have e:=by simpa using hb
    subst e;exact I1.RJ ?jm ?jJ
   ·subst e
    cases r1
    let{j_,rv,p,hz}:=I1.tuple hq;refine pr ((p)) ?_;refine{s1.heap.objs.size,[s1.heap.objs.size],_,_,H1,rfl,I1.kept  λb o e=>z_ _ e,qR a _,{_,QV _ rfl,rfl,rfl},λb hb=>?_,q};have e:=by simpa using hb
    subst e;exact I1.RJ ?jm ?jJ
 ·let{ds,hd,k}:=w1.opt
  cases d with
  | dict es =>
   let{rfl,a,o,kvs,rfl,h1,h2,h3}:=xX r1 hd;refine .inl {a,o,kvs,rfl,S1.fh _ _ h1,λxs kt=>?_};let{F2,s2,S2,r2,_}:=EH kt S1;refine k F2 H1 s2 S2 _<|CI (s2 _ _ h1) ?_;rw[h2,eT];exact r2
  | _=>exact .inr<|q8 S1.fh r1 hd ?qN
end L4
namespace TS
open PySem
section
variable {prog:Tl}{w:TD}{A:UV}{E:w_}{s:SZ}{d it:Tk}{es:UF DictEntry}{ep i:Nat}
theorem X5{v:Tk}{Q:w_}(hv:s.heap.IsItemsView v d)(x:DR s.heap d es ep)
  (q:Q (.ref s.heap.objs.size) { s with heap:=s.heap.push { cls:=.type "dict_itemiterator",data:=.fields #[.none,.bool false,.ref d,.int 0 0,.int es.size 0,.int ep 0,.none,.none] } }):wpAny ?D A (pyIter<|.ref v) Q E s:=by
 let{o,e1,e2,e3}:=id x;let{ov,g1,g2,g3}:=id hv;have own:Builtin.Dict_items.ownsTuple "dict_itemiterator" = true:=by decide
 refine wpAny_pyIter_slot hv.typeIs F.slot_dict_items_iter<|im F.slot_dict_items_iter hv.typeIs F.entry_dict_items_iter ?_<|F.args_dict_items_iter_1 _;refine h_<|m_<|h_ ?_;refine h_<|fi g1 g3  rfl<|m_<|h_ ?_;refine h_<|PV e1 e3<|h_<|QG e1 e3 ?_;simp![own,yp];refine gu (m_ {_,rfl, "dict_itemiterator",_,{_,QV _ rfl,rfl},F.slot_dict_itemiterator_next.lookup,by simpa[rawInt,Builtin.Dict_items.ownedTupleFields]using q}) (by simp![sizeOk,Builtin.Dict_items.ownedTupleFields,f8,R4,eE,PN,sizeLine_eq];lia)
theorem U7{ok ov:SL}{Q:SC SL->SZ->Prop}(hit:IsItemIter s.heap it d i es.size ep ok ov)(x:DR s.heap d es ep)
  (q1:∀(hi:i<es.size) (h':Wp),IsItemIterOut h' it d ?qc es.size ep es[i].key es[i].val s.heap.objs.size->h'.get? s.heap.objs.size=some { cls:=.type "tuple",data:=.seq #[es[i].key,es[i].val] } ->
   (∀b o,b≠it->s.heap.get? b=some o->h'.get? b=some o)->Q (some<|.ref s.heap.objs.size) { s with heap:=h' })
  (q2:es.size<=i->A.handled=none/\∀h',Heap.ExtBut it s.heap h'->Q none { s with heap:=h' }):wpAny ?D A (pyNext<|.ref it) Q E s:=by
 let{hp,g,dr,tk,os}:=s;let{od,f1,f2,f3}:=id x;have T:Shared.TypeIs {hp,g,dr,tk,os} (.ref it) "dict_itemiterator":={_,hit,rfl};have own:Builtin.Dict_items.ownsTuple "dict_itemiterator" = true:=by decide
 have pos:¬ ((i:Int)<0):=by omega
 unfold pyNext;refine h_<|Db<|g7 (name:=Str.ofString "__next__") T F.slot_dict_itemiterator_next<|im F.slot_dict_itemiterator_next T F.entry_dict_itemiterator_next ?_<|F.args_dict_itemiterator_next_1 _;refine h_<|m_<|h_<|h_<|h_<|P3 T<|m_<|h_<|wpAny_fieldsOf hit rfl ?_;simp![own,yp];refine(show wpAny ?D _ (if(Value.ref d==Value.none)=true then _ else _) _ _ {hp,g,dr,tk,os}from ?_);rw[ax<|show ¬ ((Value.ref d==Value.none)=true)from λz=>Bool.noConfusion z];refine h_<|m_<|h_<|PV f1 f3 ?_;rw[ax ?G];refine h_<|m_<|h_<|QG f1 f3 ?_;rw[ax ?G];refine m_ ?_;by_cases hi:i<es.size
 ·simp![pos,Qv,xz,mo hi];refine h_<|h_<|P3 T<|m_<|h_<|Qy T ?_;refine(show wpAny ?D _ (setField (.ref it) 3 (rawInt<|(i:Int)+1) >>= _) _ _ {hp,g,dr,tk,os}from h_<|ng hit ?G λh1 r1 b1=>?_);replace b1:Heap.SameBut it hp h1:=b1;replace r1:IsItemIter h1 it d ?qc es.size ep ok ov:=by
   unfold IsItemIter;rw[show((i+1:Nat):Int)=(i:Int)+1 by omega];simpa[rawInt]using r1
  have T1:Shared.TypeIs {h1,g,dr,tk,os} (.ref it) "dict_itemiterator":={_,r1,rfl};refine h_<|oP<|h_<|Qy T1<|h_<|Qy T1 ?_;refine(show wpAny ?D _ (Builtin.Dict_items.pairFromOwner (.ref it) 6 es[i].key es[i].val) _ _ {h1,g,dr,tk,os}from ?_);unfold Builtin.Dict_items.pairFromOwner;refine h_<|wpAny_newTuple ?_;have z1:h1.objs.size=hp.objs.size:=b1.1;have r2:IsItemIter (h1.push { cls:=.type "tuple",data:=.seq #[es[i].key,es[i].val] }) it d ?qc es.size ep ok ov:=z_ _ r1;generalize hh2:h1.push { cls:=.type "tuple",data:=.seq #[es[i].key,es[i].val] }=h2 at r2;have lt:hp.objs.size≠it:=ny<|aw hit;have t2:h2.get? hp.objs.size=some { cls:=.type "tuple",data:=.seq #[es[i].key,es[i].val] }:=by rw[<-hh2,<-z1];exact QV _ rfl
  have k2:∀b o,b≠it->hp.get? b=some o->h2.get? b=some o:=λb o hb e=>by rw[<-hh2];exact z_ _<|b1.extBut b o hb e
  refine(show wpAny ?D _ (Builtin.Dict_items.ownedTupleIsFree (.ref it) >>= _) _ _ {h2,g,dr,tk,os}from ?_);rw[z1];refine h_ ?_;unfold Builtin.Dict_items.ownedTupleIsFree;refine h_<|fi r2 rfl (x:=.none) rfl<|m_ ?_;simp![yp];refine h_<|fi r2 rfl (x:=ok) rfl<|h_<|fi r2 rfl (x:=ov) rfl<|h_<|ng r2 ?G λh3 r3 b3=>?_;replace b3:Heap.SameBut it h2 h3:=b3;replace r3:IsItemIter h3 it d ?qc es.size ep es[i].key ov:=r3;refine h_<|ng r3 ?G λh4 r4 b4=>?_;replace b4:=b4;refine h_<|ng r4 ?G λh5 r5 b5=>?_;replace b5:=b5;refine h_<|ng r5 ?G λh6 r6 b6=>?_;replace b6:=b6;have k6:=λb o hb e=>b6.extBut b o hb<|b5.extBut b o hb<|b4.extBut b o hb<|b3.extBut b o hb e
  exact h_<|P9<|m_<|m_ {_,rfl,m_<|q1 hi h6 r6 (k6 _ _ lt t2) λb o hb e=>k6 b o hb<|k2 b o hb e}
 ·let{hh,q}:=q2 ?S;simp  [pos,Qv,xz,Array.getElem?_eq_none (show es.size<=i by omega)];refine h_<|h_<|P3 T<|m_ ?_;refine(show wpAny ?D _ (setField (.ref it) 2 .none >>= _) _ _ {hp,g,dr,tk,os}from h_<|wP hit rfl ?G ?_);refine((h_ ?_));refine h_ (gu ?_ (by size_fits));refine h_<|wpAny_of_eq  (rfl) ?_;refine gu ?_ (by size_fits);refine h_<|wpAny_handled ?_;rw[(hh)];refine h_<|m_<|wpAny_throw ?_;refine h_<|Ma   (({_,QV _ rfl,rfl})) Qh ?_;exact m_<|q _<|((Heap.SameBut.update ..).extBut.push _).push _
end
end TS
namespace L4
open PySem PySem.Spec PyProof.Rows L2 L3
variable {H F:Hp}{G:Gh}{X:Cx}{Z:L2.St}{K:Fg}{p a:Tk}{kx:Re Key}{D' E:Ends}{o:Obj}{y:V}{n:Nat}{kvs:Re ?qs}{S:Type}{ret:Re Uf}
theorem AC{prog:Tl}{w:TD}{A:UV}{E:w_}{s:SZ}{d:Tk}{Q:w_}(lo:(d==sysModules)=false)(T:s.TypeIs (.ref d) "dict")(q:Q (.ref s.heap.objs.size) { s with heap:=s.heap.push { cls:=.type "dict_items",data:=.fields #[.ref d] } }) :
  wpAny ?D A (call (.builtin "dict.items") [.ref d]) Q E s:=by
 refine im PySem.F.slot_dict_items T PySem.F.entry_dict_items ?_<|PySem.F.args_dict_items_1 _;refine h_ ?_;refine h_<|QL T<|(m_ ?_);unfold Builtin.Dict.showsAll;rw[ax (by rw[lo];decide)];exact h_<|m_<|h_<|gu<|m_ {_,rfl,q}
def Itm(a:Tk)(o:Obj)(ks:Re Tk)(vs:Re V):It :=
 {λi H=>(∃u,H a=some (.Q3 o u))/\i<ks.length,λi H x H'=>∃p k v,ks[i]? = some k/\vs[i]? = some v/\H p=none/\x=.ref p/\H'=upd H p (.tup [.ref k,v]),λi H=>(∃u,H a=some (.Q3 o u))/\ks.length<=i}
theorem zB{P:Tl}{w:TD}{K:PySem.W.Frag}{elts:Re TW}{x1}{pos:Pos}{it:Tk}{es:UF DictEntry}{ep:Nat}{ks:Re Tk}{vs:Re V}(c:o.ExactDict)(d:o.data=.dict es ep)(hk:es.toList.map (·.key)=ks.map Value.ref)(hv:Vals vs (es.toList.map (·.val))):Turn P w K (.Tuple elts x1 pos) (Itm a o ks vs) [it] it (λi h=>∃ok ov,IsItemIter h it a i es.size ep ok ov) where
 mem:=by simp
 obj:=λi h st b hb=>by
  have e:=by simpa using hb
  subst e;let{ok,ov,e}:=st;exact{_,e,λv z=>by cases z}
 keep:=λi h h' ⟨ok,ov,st⟩ k=>{ok,ov,k it ?G _ st}
 item:=by
  intro X hP hw hK hc i pins s Z H E I hf ⟨ok,ov,st⟩ ⟨hu,hi⟩;have hl:=by
   have:=congrArg List.length hk;simpa using this
  refine TS.U7 st {o,wQ I hu,c,d} (λXn h1 r1 t1 k1=>?_) λz=>by lia
  have ek:es[i].key=.ref ks[i]:=by
   have h1:(es.toList.map (·.key))[i]? = (ks.map Value.ref)[i]?:=by rw[hk]
   grind
  have hiv:i<vs.length:=by
   have hlv:=hv.length
   grind
  let{u,hu',ru}:=hv.get<|ay hiv;rw[je,ay<|((Xn))]at hu';have ev:=by simpa using hu'
  rw[ek,ev]at t1 r1;refine{_,rfl,wpAny_letOwnedTupleGo_items r1 λh2 r2 (b2)=>?_};have ne:=ny<|aw st;have QY:∀c o,c∉[it]->s.heap.get? c=some o->h2.get? c=some o:=λc o hc e=>by
   have hc:=by simpa using hc
   exact b2.extBut _ _ hc<|k1 c o hc e
  have I1:Inv X pins Z (upd H s.heap.objs.size<|.tup [.ref ks[i],vs[i]]) { s with heap:=h2,toks:=s.toks }:=rK I hf ((rfl)) ru QY<|b2.extBut _ _ ne t1;refine{.ref s.heap.objs.size,_,I1,rfl,{_,_,_,ay hi,ay hiv,I.fresh,rfl,rfl},{_,_,r2},λc hc=>?_};have e:=by simpa using hc
  rw[e,aQ<|Ne.symm ne];exact(hf it ?G).1
 done:=by
  intro X hP hw hK hc i pins s Z H E I hf ⟨ok,ov,st⟩ ⟨hu,hi⟩;let{f0,f1,f2,f3,f4,f5}:=hf it ?G;have hl:=by
   have:=congrArg List.length hk;simpa using this
  exact TS.U7 st {o,wQ I hu,c,d} (λXn=>by lia) λ_=>{I.ok.hd hc,λh' eb=>{rfl,I.turned  ?jZ f0 f1 f3 f4 f5}}
 self:=λ_ _ _ _ _ ⟨ok,ov,st⟩ h=>PySem.W.kcp_self st h
def Al(td:TE):TI:=λZ H R=>td Z H λx H1=>∃a o kvs,x=.ref a/\H1 a=some (.Q3 o<|.dT kvs)/\∀xs:Re ?jV,KT H1 kvs xs->R (Itm a o (xs.map (·.2.1)) (kvs.map (·.2))) H1
theorem Fa{o:TW}{td:TE}{elts:Re TW}{x1}{pos apos u_:Pos}(ho:PE X o td)(Rz:attributeBase o "items" X.env (eval o X.env)=eval o X.env)(Ry:?jQ=true) :
  PI X (.Tuple elts x1 pos) (.Call (.Attribute o "items" apos) [] [] u_) (Al td):=by
 intro pins s Z H R I h;refine wpAny_Call_method0_late Rz Ry<|p_ ?qm λu s1 ⟨x,H1,I1,rx,a,ob,kvs,ex,e,q⟩=>?_;subst ex;obtain rfl:u=Value.ref a:=rx;let{g0,z,y,xs,r,Y2,es,ep,h1,h2,h3,h4,h5}:=((I1.k_ a _ e));have eo:=Option.some.inj<|h1.symm.trans g0;subst eo;have T:s1.TypeIs (.ref a) "dict":={Y2,h1,h2.1};refine{"dict","dict.items",PySem.F.plainAttrs_dict,PySem.F.slot_dict_items,PySem.F.type_dict_items,T,λb q=>by cases q;exact{Y2,h1,h2.2.1},P0 rfl<|PySem.evalArgs_none<|AC y T ?_};have kp:∀b u,s1.heap.get? b=some u->(s1.heap.push { cls:=.type "dict_items",data:=.fields #[.ref a] }).get? b=some u:=λb u q=>z_ _ q
 have I2:=I1.kept (t':=s1.toks) kp;have hk:es.toList.map (·.key)=(xs.map (·.2.1)).map Value.ref:=by
  rw[h4,eT,eT];exact gi λq _=>rfl
 have hvs:∀{kvs:Re ?qs} {xs:Re ?jV},KT H1 kvs xs->Vals (kvs.map (·.2)) (xs.map (·.2.2)):=by
  intro kvs xs r
  induction r with
  | nil=>exact .nil
  | cons h t ih=>exact .cons h.2.2 ih
 have hv:Vals (kvs.map (·.2)) (es.toList.map (·.val)):=by
  rw[h4,eT];have:=hvs r
  rwa [(gi λq _=>rfl)]
 refine TS.X5  {_,QV _ rfl,rfl,rfl} {Y2,kp _ _ h1,h2,h3} ?_;refine{_,[_],_,_,H1,rfl,I2.kept  λb o e=>z_ _ e,zB h2 h3 hk hv,{.none,.none,QV _ rfl},λb hb=>?_,q xs r};rw[List.mem_singleton.mp hb];exact I2.RJ ?jm<|I2.k_.fresh ?jm
def h8(acc:SC (Re ?N))(k:D):SC (Re ?N):=match acc with
 | some acc=>match gk acc k with
  | none=>if decide (acc.length<1000)then some (acc++[(k,.list [])])else none
  | some _=>none
 | none=>none
def Cm(acc:Re ?N)(k x:D):SC (Re ?N):=match gk acc x with
 | some (.list l)=>if dB x&&decide (l.length<90000)then some (oz acc x<|.list<|l++[k])else none
 | _=>none
def gx(k:D)(acc:SC (Re ?N))(lead:D):SC (Re ?N):=match acc,lead with
 | some acc,.tuple (_::x::_)=>Cm acc k x
 | _,_=>none
def cJ(acc:SC (Re ?N))(e:D×D):SC (Re ?N):=match e.2 with
 | .list ls=>ls.foldl (gx e.1) acc
 | _=>none
def w9(es:Re ?N):SC (Re ?N):=es.foldl cJ ((es.map (·.1)).foldl h8<|some [])
theorem cB{α β:Type}{f:SC α->β->SC α}(h:∀b,f none b=none):∀l:Re β,l.foldl f none=none
 | []=>rfl
 | b::l=>by rw[io,h,cB h l]
theorem tP(k:D):h8 none k=none:=rfl
theorem p8(k x:D):gx k none x=none:=rfl
theorem df(e:D×D):cJ none e=none:=by
 unfold cJ;split
 ·exact cB (p8 _) _
 ·rfl
theorem we{α β:Type}{f:α->β}:∀{l:Re α} {a b:α},(l.map f).Nodup->a∈l->b∈l->f a=f b->a=b
 | [],_,_,_,h,_,_=>nomatch h
 | x::l,a,b,n,h1,h2,e=>by
  rw[ap,QJ]at n;let e1||h1:=List.mem_cons.mp h1
  ·grind
  ·let e2||h2:=List.mem_cons.mp h2
   ·grind
   ·exact we n.2 h1 h2 e
structure Cell where
 k:Re Key
 b:Tk
 vs:Re V
 ds:Re D
def cV(cs:Re Cell):Re ?N:=cs.map λc=>(dc c.k,.list c.ds)
def TY(cs:Re Cell):Re ?qs:=cs.map λc=>(c.k,.ref c.b)
structure Bk(K:Fg)(G:Gh)(F H:Hp)(p:Tk)(cs:Re Cell):Prop where
 hp:H p=some (.dT<|TY cs)
 fp:F p=none
 op:G.O p=none
 ce:∀c∈cs,H c.b=some (.lst c.vs)/\F c.b=none/\G.O c.b=none/\i_ K F c.vs c.ds
 nb:(cs.map (·.b)).Nodup
 nk:(cs.map (·.k)).Nodup
 sz:cs.length<=1000
theorem Bk.at{H':Hp}{cs:Re Cell}(h:Bk K G F H p cs)(e:∀b o,H b=some o->H' b=some o):Bk K G F H' p cs:={e _ _ h.hp,h.fp,h.op,λc hc=>{e _ _ (h.ce c hc).1,(h.ce c hc).2},h.nb,h.nk,h.sz}
theorem nK{kx:Re Key}:∀cs:Re Cell,gk (cV cs) (dc kx)=(cs.find? λc=>decide<|c.k=kx).map λc=>.list c.ds
 | []=>rfl
 | c::cs=>by
  have ih:=nK (kx:=kx) cs;unfold gk cV at ih ⊢;rw[ap,ou,mz]
  grind
theorem A4{kx:Re Key}:∀cs:Re Cell,lA (TY cs) kx=(cs.find? λc=>decide<|c.k=kx).map λc=>.ref c.b
 | []=>rfl
 | c::cs=>by
  have ih:=A4 (kx:=kx) cs;unfold lA TY at ih ⊢
  grind
theorem HF{v:V}{cs:Re Cell}(h:cs.find? ?qg=none):putK (TY cs) kx v=TY cs++[(kx,v)]:=by
 unfold putK TY
 grind
def VD(kx:Re Key)(y:V)(d:D)(c:Cell):Cell:=if c.k=kx then { c with vs:=c.vs++[y],ds:=c.ds++[d] }else c
theorem HH{d:D}{cs:Re Cell}{c:Cell}(nk:(cs.map (·.k)).Nodup)(hc:cs.find? ?qg=some c):oz (cV cs) (dc kx) (.list<|c.ds++[d])=cV (cs.map<|VD kx y d):=by
 have hm:=wT hc;have hk:c.k=kx:=by grind
 unfold oz cV;rw[ar]
 ·rw[eT,eT];refine gi λc' Sy=>?_
  show(if gH (dc c'.k) (dc kx)=true then(dc c'.k,PyData.list (c.ds++[d]))else(dc c'.k,PyData.list c'.ds))=(dc (VD kx y d c').k,PyData.list (VD kx y d c').ds);rw[mz];unfold VD;by_cases q:c'.k=kx
  ·have e:=we nk Sy hm<|q.trans hk.symm;simp[q,e,hk]
  ·simp[q]
 ·rw[List.any_map];exact List.any_eq_true.mpr {c,hm,by show gH (dc c.k) (dc kx)=true;rw[mz];simp[hk]}
theorem NP{d:D}(cs:Re Cell):TY (cs.map<|VD kx y d)=TY cs:=by
 unfold TY;rw[eT];refine gi λc _=>?_
 show((VD kx y d c).k,V.ref (VD kx y d c).b)=_;unfold VD;split<;>rfl
section
variable {cs:Re Cell}
theorem Bk.neP(B:Bk K G F H p cs){c:Cell}(hc:c∈cs):c.b≠p:=J6 (B.ce c hc).1 B.hp (by intro z;cases z)
theorem Bk.key(B:Bk K G F H p cs){q:Tk}(hq:H q=none)(hn:cs.find? ?qg=none)(hl:cs.length<1000)(fq:F q=none)(oq:G.O q=none):Bk K G F (upd (upd H q<|.lst []) p<|.dT<|TY cs++[(kx,.ref q)]) p (cs++[{kx,q,[],[]}]):=by
 have pq:=(bp B.hp hq).symm;refine{by rw[aN];simp[TY],B.fp,B.op,λc hc=>?_,?_,?_,by grind}
 ·let hc||hc:=List.mem_append.mp hc
  ·rw[aQ<|B.neP hc,aQ<|bp (B.ce c hc).1 hq];exact B.ce c hc
  ·rw[List.mem_singleton.mp hc];exact{by rw[aQ pq,aN],fq,oq,.nil}
 ·rw[eg];refine List.nodup_append.mpr {B.nb,by simp,λx hx y hy=>?_};let{c,hc,rfl}:=List.mem_map.mp hx;have hy:=by simpa using hy
  rw[hy];exact bp (B.ce c hc).1 hq
 ·rw[eg];refine List.nodup_append.mpr {B.nk,by simp,λx hx y hy z=>?_}
  grind
theorem Bk.add(B:Bk K G F H p cs){c:Cell}{d:D}(hc:cs.find? ?qg=some c)(r:Rep K F y d):Bk K G F (upd H c.b<|.lst<|c.vs++[y]) p (cs.map<|VD kx y d):=by
 have hm:=wT hc;have hk:c.k=kx:=by grind
 have ub:∀c' ,(VD kx y d c').b=c'.b:=λc'=>by unfold VD;split<;>rfl
 have uk:∀c' ,(VD kx y d c').k=c'.k:=λc'=>by unfold VD;split<;>rfl
 refine{by rw[aQ (B.neP hm).symm,NP];exact B.hp,B.fp,B.op,λc0 Uh=>?_,?_,?_,by rw[v_];exact B.sz}
 ·let{c',Sy,rfl}:=List.mem_map.mp Uh;let{h1,h2,h3,h4}:=B.ce c' Sy;by_cases q:c'.k=kx
  ·have e:=we B.nk Sy hm<|q.trans hk.symm;subst e;unfold VD;rw[ar q,aN];exact{rfl,h2,h3,h4.append<|.cons r .nil}
  ·have ne:=λz=>q (by rw[we B.nb Sy hm z];exact hk)
   unfold VD
   grind
 ·rw[eT];exact((gi λc' _=>ub c'))▸B.nb
 ·rw[eT];exact((gi λc' _=>uk c'))▸B.nk
end
abbrev r1(d:D)(n:Nat):En:=some (.fz d)::List.replicate n none
theorem iy{d:D}{i:Nat}{c:OC}(h:own (r1 d n) i c):False:=by
 grind
theorem Cz{σ':L2.St}{d:D}(S:b_ K G F Z H (r1 d n))(hl:σ'.length=Z.length)(h0:σ'[0]? = Z[0]?):b_ K G F σ' H (r1 d n):=by
 have np:∀i a,G.P i=some a->False:=λi a h=>by
  let{_,c,e}:=S.pp i a h;exact iy<|.inr e
 refine{S.fh,S.oh,S.fo,by rw[hl];exact S.ln,λi x h=>?_,λi c h=>(iy h).elim,λi j c e a h=>(iy h).elim,λi a h=>(np i a h).elim,λi c h=>(iy<|.inr h).elim,S.fb}
 grind
theorem BW{K:Fg}{G:Gh}{H:Hp}{Z:L2.St}{d:D}{n:Nat}:∀(cs:Re Cell) (F:Hp),b_ K G F Z H (r1 d n)->(∀c∈cs,H c.b=some (.lst c.vs)/\F c.b=none/\G.O c.b=none)->(cs.map (·.b)).Nodup ->
  ∃F',c_ F F'/\b_ K G F' Z H (r1 d n)/\(∀c∈cs,F' c.b=some (.lst c.vs))/\∀x,x∉cs.map (·.b)->F' x=F x
 | [],F,S,_,_=>{F,c_.refl _,S,(λ_ h=>nomatch h),λ_ _=>rfl}
 | c::cs,F,S,h,n=>by
  rw[ap,QJ]at n;let{h1,h2,h3}:=h c ?G;have S1:=S.freeze h1 h2 h3 λi e q=>(iy q).elim
  have ne:∀c'∈cs,c'.b≠c.b:=λc' Sy z=>n.1<|List.mem_map.mpr {c',Sy,z}
  let{F2,s2,S2,f2,k2}:=BW cs _ S1 (λc' Sy=>by let{g1,g2,g3}:=h c' (by simp[Sy]);exact{g1,by rw[aQ<|ne c' Sy];exact g2,g3}) n.2;refine{F2,(cx h2).trans s2,S2,λc' Sy=>?_,λx hx=>?_}
  ·let e||Sy:=List.mem_cons.mp Sy
   ·rw[e];exact s2 _ _ aN
   ·exact f2 c' Sy
  ·rw[ap,tu,not_or]at hx;rw[k2 x hx.2,aQ hx.1]
theorem Bk.settle{d:D}{cs:Re Cell}(B:Bk K G F H p cs)(S:b_ K G F Z H (r1 d n))(o:Obj):∃F',c_ F F'/\b_ K G F' Z (upd H p<|.Q3 o<|.dT<|TY cs) (r1 d n)/\Rep K F' (.ref p) (.dict<|cV cs):=by
 let{F1,s1,S1,f1,k1}:=BW cs F S (λc hc=>{(B.ce c hc).1,(B.ce c hc).2.1,(B.ce c hc).2.2.1}) B.nb;have pn:F1 p=none:=by
  rw[k1 p λh=>by let{c,hc,e}:=List.mem_map.mp h;exact B.neP hc e];exact B.fp
 have no:∀(i:Nat) (e:OC),own (r1 d n) i e->Z[i]? ≠ some (some<|V.ref p):=λi e q=>(iy q).elim
 have S2:=(S1.Ub (o:=.Q3 o (.dT<|TY cs)) pn B.op no).freeze (a:=p) aN pn B.op no;have sm:c_ F1 (upd F1 p<|.Q3 o<|.dT<|TY cs):=cx pn;refine{_,s1.trans sm,S2,.UJ aN ?_ ?_}
 ·unfold cV TY;rw[eT,eT];rfl
 ·have all:∀l:Re Cell,(∀c∈l,c∈cs)->i_ K (upd F1 p<|.Q3 o<|.dT<|TY cs) ((TY l).map (·.2)) ((cV l).map (·.2)):=by
   intro l
   induction l with
   | nil=>intro _;exact .nil
   | cons c l ih =>
    intro h;refine .cons (.lst (.inl<|.inl<|sm _ _<|f1 c<|h c ?G)<|(B.ce c<|h c ?G).2.2.2.mono<|s1.trans sm) (ih λc' Sy=>h c' (by simp[Sy]))
  exact all cs λ_ h=>h
theorem uI{ρ:En}:∀{kvs:Re ?qs} {xs:Re ?jV} {F:Hp},KT H kvs xs->b_ K G F Z H ρ ->
  ∃F',c_ F F'/\b_ K G F' Z H ρ/\i_ K F' (xs.map λq=>V.ref q.2.1) (kvs.map λp=>dc p.1)/\∀b o,F' b=some o->F b=some o\/∃vs,H b=some (.tup vs):=by
 intro kvs xs F r S
 induction r generalizing F with
 | nil=>exact{F,c_.refl _,S,.nil,λb o e=>.inl e}
 | @cons p q ps qs h t ih =>
  let{h1,h2,h3}:=h;obtain⟨F1,s1,S1,r1,k1⟩:∃F1,c_ F F1/\b_ K G F1 Z H ρ/\Rep K F1 (.ref q.2.1) (dc p.1)/\∀b o,F1 b=some o->F b=some o\/∃vs,H b=some (.tup vs):=by
   cases e:F q.2.1 with
   | some o =>
    have:=S.fh _ o e;rw[h2]at this
    cases this
    exact{F,c_.refl _,S,.tup e<|j0 p.1,λb o e=>.inl e}
   | none =>
    let{F1,s1,S1,r1}:=S.zay h2<|j0 p.1;have og:G.O q.2.1=none:=by
     cases g:G.O q.2.1 with
     | none=>rfl
     | some o =>
      have:=S.oh _ o g;rw[h2]at this
      cases this
      exact((S.fo _ _ g).2:False).elim
    refine{upd F q.2.1<|.tup<|p.1.map kV,cx e,S.freeze h2 e og λi c ho z=>?_,.tup aN<|j0 p.1,λb o eb=>?_}
    ·let{a,e1,oa}:=S.ow i c ho;rw[z]at e1;injection e1 with e1;injection e1 with e1;injection e1 with e1;subst e1;exact(oa.he.XH h2:False)
    ·by_cases hb:b=q.2.1
     ·exact .inr {_,by rw[hb];exact h2}
     ·rw[aQ hb]at eb;exact .inl eb
  let{F2,s2,S2,r2,k2}:=ih S1;exact{F2,s1.trans s2,S2,.cons ?qM r2,λb o e=>(k2 b o e).elim (k1 b o) .inr}
theorem Bk.seen{F':Hp}{cs:Re Cell}(B:Bk K G F H p cs)(s:c_ F F')(k:∀b o,F' b=some o->F b=some o\/∃vs,H b=some (.tup vs)):Bk K G F' H p cs:=by
 have nf:∀b u,H b=some u->(∀vs,u≠.tup vs)->F b=none->F' b=none:=λb u hb hu hf=>by
  cases e:F' b with
  | none=>rfl
  | some o =>
   grind
 exact{B.hp,nf _ _ B.hp (λvs z=>by cases z) B.fp,B.op,λc hc=>let ⟨g1,g2,g3,g4⟩:=B.ce c hc;{g1,nf _ _ g1 (λvs z=>by cases z) g2,g3,g4.mono s},B.nb,B.nk,B.sz}
theorem EF{Sx:Re Uf}(e:H a=some (.dT kvs))(k:∀o,i7 X Sx E Z<|upd H a<|.Q3 o<|.dT kvs):i7 X Sx E Z H:=by
 unfold i7 at *;exact λpins s I=>let ⟨o,I'⟩:=I.Q3 e;k o pins s I'
abbrev Ez:TS:=JD (lB 1) (lB 2)<|MP Hn
abbrev vI(K:Fg):TS:=Jw<|tBM K "list" Be (ZE KR (lB 1)<|ZE (KO K) (lB 4)<|tC<|.int 1)<|Ew (lB 2) Hn
abbrev Kt(X:Cx)(ret:Re Uf):TS:=Hl (Ho Et<|g9 1)<|Hl (xP (Ge<|lB 0) (g9 2) Ez)<|Hl (xP (Al<|lB 0) (LQ X.K 2<|yW (g9 2)<|yW (g9 3) LR)<|xP (BR X.K<|lB 3) (g9 4)<|vI X.K)<|i7 X ret
def w6(d:D):SC D:=match d with
 | .dict es=>match pP es with
  | some _=>(w9 es).map .dict
  | none=>none
 | _=>none
def EN{S:Type}:SM S:=λK ρ=>match ρ with
 | [some (.fz d),none,none,none,none]=>match w6 d with
  | some r=>K.rt r ?qw
  | none=>.bad
 | _=>.bad
section
variable {OK:M S->Prop} {K:KS S} {cs:Re Cell} {d:D}
theorem D1(hr:VQ X ret (Kr<|lB 1))(St:b_ X.K G F Z H ?qw)(s1:Z[1]? = some (some<|.ref p))(B:Bk X.K G F H p cs)(eo:EOk X OK K G F E)(ok:OK (K.rt (.dict<|cV cs) ?qw)):i7 X ret E Z H :=
 EF B.hp λo=>by
  let{F',s,S',r}:=B.settle St o;exact EG hr {.ref p,s1,eo.rt F' Z _ ?qw _ _ s S' r ok}
theorem Dn{k:V}{kd lead:D}{v:V}{RW:Re ?N}(St:b_ X.K G F Z H ?qw)(s1:Z[1]? = some (some<|.ref p))(s2:Z[2]? = some (some k))(rk:Rep X.K F k kd)(s4:Z[4]? = some (some v))(rl:Rep X.K F v lead)(B:Bk X.K G F H p cs)(e:gx kd (some<|cV cs) lead=some RW)
  (go:∀H' VN,RW=cV VN->b_ X.K G F Z H' ?qw->Bk X.K G F H' p VN->D'.nx Z H'):vI X.K D' Z H:=by
 unfold gx at e;split at e
 case h_2=>cases e
 rename_i acc n x rest ea
 cases ea
 unfold Cm at e;split at e
 case h_2=>cases e
 rename_i l hl;split at e
 case isFalse=>cases e
 rename_i hc
 cases e
 rw[am]at hc;let{kx,rfl}:=eN hc.1;let{a',Xw,rfl,h1,h2}:=rl.QX
 cases h2 with
 | @cons v1 _ vr _ q1 q2 =>
 cases q2 with
 | @cons v2 _ vr _ q2 q3 =>
 let{b,rfl,hb}:=fT q2;rw[nK]at hl
 cases ef:cs.find? ?qg with
 | none=>grind
 | some c =>
 rw[ef]at hl;have hl:=by simpa using hl
 have hm:=wT ef;let{g1,g2,g3,g4}:=B.ce c hm;have hv:=A4 (kx:=kx) cs;rw[ef]at hv;refine{.ref p,s1,.ref a',s4,a',_,1,.ref b,rfl,rfl,B_.of<|St.fh _ _ h1,by simp[VP,WA];rw[ar ?S];rfl,p,.ref c.b,rfl,.inr {TY cs,kx,b,.inl B.hp,rfl,St.fh _ _ hb,hv.symm},.inl {rfl,c.vs,.inl<|.inl g1},k,s2,c.b,c.vs,k,rfl,rfl,g1,?_,?_}
 ·have:=g4.length;exact bo ?Z<|show 90000<=sizeLine by decide
 ·refine go _ (cs.map<|VD kx k kd) ?_ (St.Ub g2 g3 λi e q=>(iy q).elim)<|B.add ef rk;rw[<-hl,HH B.nk ef]
theorem z9{k:V}{kd:D}{vs:Re V}{ls:Re D}{mid:Re ?N}(St:b_ X.K G F Z H ?qw)(s1:Z[1]? = some (some<|.ref p))(s2:Z[2]? = some (some k))(rk:Rep X.K F k kd)(s3:Z[3]? = some (some<|.ref a))(h1:QO X.K F a vs)(h2:i_ X.K F vs ls)(h5:Z.length=5)(B:Bk X.K G F H p cs)(e:ls.foldl (gx kd) (some<|cV cs)=some mid)
  (go:∀σ' H' VN,mid=cV VN->σ'.length=5->b_ X.K G F σ' H' ?qw->σ'[1]? = some (some<|.ref p)->Bk X.K G F H' p VN->D'.nx σ' H'):xP (BR X.K<|lB 3) (g9 4) (vI X.K) D' Z H:=by
 have hl:=h2.length;refine{.ref a,s3,a,rfl,{vs,St.fh.seq h1},λi m σ' H'=>m=ls.length - i/\i<=ls.length/\σ'.length=5/\b_ X.K G F σ' H' ?qw/\σ'[1]? = some (some<|.ref p)/\σ'[2]? = some (some k)/\∃cs,Bk X.K G F H' p cs/\(ls.drop i).foldl (gx kd) (some<|cV cs)=some mid,{_,rfl,ai _,h5,St,s1,s2,cs,B,e},?_};rintro i m σ' H' ⟨rfl,hi,l5,S',t1,t2,RW,B',e'⟩;by_cases x_:i<ls.length
 ·rw[re x_,io]at e';have hv:i<vs.length:=by rw[hl];exact x_
  let{v,e1,e2}:=h2.get<|ay x_;refine .inr {{vs,vs[i],S'.fh.seq h1,ay hv},λσ4 H4=>∃m',m'<ls.length - i/\m'=ls.length - ?qc/\i+1<=ls.length/\σ4.length=5/\b_ X.K G F σ4 H4 ?qw/\σ4[1]? = some (some<|.ref p)/\σ4[2]? = some (some k)/\∃cs,Bk X.K G F H4 p cs/\(ls.drop ?qc).foldl (gx kd) (some<|cV cs)=some mid,λσ4 H4 h=>h,?_};rintro x H2 ⟨rfl,hx⟩;have hx:=hx vs<|S'.fh.seq h1;rw[e1]at hx
  cases hx
  cases eb:gx kd (some<|cV RW) ls[i]with
  | none=>rw[eb,cB<|p8 kd]at e';cases e'
  | some zbP =>
  rw[eb]at e';have g0:(σ'.set 4<|some v)[0]? = σ'[0]?:=be ?C;have g1:(σ'.set 4<|some v)[1]? = σ'[1]?:=be ?C;have g2:(σ'.set 4<|some v)[2]? = σ'[2]?:=be ?C;have g4:(σ'.set 4<|some v)[4]? = some (some v):=di (by rw[l5];decide);have S4:=Cz  S' ?G g0;refine Dn S4 (g1.trans t1) (g2.trans t2) rk g4 e2 B' eb λH5 VN ec S5 B5=>?_
  exact{_,by omega,rfl,x_,by simpa using l5,S5,g1.trans t1,g2.trans t2,VN,B5,by rw[<-ec];exact e'}
 ·have ei:i=ls.length:=by omega
  subst ei;rw[Ba]at e';have ec:=Option.some.inj e';exact .inl {{vs,S'.fh.seq h1,by omega},go σ' H' RW ec.symm l5 S' t1 B'}
end
section
variable {OK:M S->Prop} {K:KS S} {cs:Re Cell} {d:D}
theorem Af{es:Re ?N}{fin:Re ?N}(St:b_ X.K G F Z H ?qw)(s0:Z[0]? = some (some<|.ref a))(s1:Z[1]? = some (some<|.ref p))(ha:F a=some (.Q3 o<|.dT kvs))(hk:es.map (·.1)=kvs.map ?qn)(hv:i_ X.K F (kvs.map (·.2)) (es.map (·.2)))(h5:Z.length=5)(B:Bk X.K G F H p cs)(e:es.foldl cJ (some<|cV cs)=some fin)
  (go:∀F' σ' H' VN,c_ F F'->fin=cV VN->b_ X.K G F' σ' H' ?qw->σ'[1]? = some (some<|.ref p)->Bk X.K G F' H' p VN->D'.nx σ' H'):xP (Al<|lB 0) (LQ X.K 2<|yW (g9 2)<|yW (g9 3) LR) (xP (BR X.K<|lB 3) (g9 4)<|vI X.K) D' Z H:=by
 refine{.ref a,s0,a,o,kvs,rfl,St.fh _ _ ha,λxs kt=>?_};let{F2,sF,S2,rk,kk}:=uI kt St;have B2:=B.seen sF kk;have ha2:=sF _ _ ha;have lx:(xs.map (·.2.1)).length=es.length:=by
  have h1:=rk.length;have h2:=congrArg List.length hk;simp![v_]at h1 h2 ⊢;omega
 have hv2:=hv.mono sF;refine{λi m σ' H'=>m=es.length - i/\i<=es.length/\σ'.length=5/\b_ X.K G F2 σ' H' ?qw/\σ'[1]? = some (some<|.ref p)/\∃cs,Bk X.K G F2 H' p cs/\(es.drop i).foldl cJ (some<|cV cs)=some fin,{_,rfl,ai _,h5,S2,s1,cs,B2,e},?_};rintro i m σ' H' ⟨rfl,hi,l5,S',t1,RW,B',e'⟩;by_cases x_:i<es.length
 ·rw[re x_,io]at e';refine .inr {{{_,S'.fh _ _ ha2},by rw[lx];exact x_},λσ4 H4=>∃m',m'<es.length - i/\m'=es.length - ?qc/\i+1<=es.length/\σ4.length=5/\b_ X.K G F2 σ4 H4 ?qw/\σ4[1]? = some (some<|.ref p)/\∃cs,Bk X.K G F2 H4 p cs/\(es.drop ?qc).foldl cJ (some<|cV cs)=some fin,λσ4 H4 h=>h,?_};rintro x H2 ⟨q,k,v,ek,ev,hq,rfl,rfl⟩;have ed:(es.map (·.1))[i]? = some es[i].1:=by rw[je,ay x_];rfl
  rw[hk]at ed;let{v1,f1,f2}:=rk.get ed;have f1:some (V.ref k)=some v1:=by
   rw[<-f1];rw[je]at ek ⊢
   cases hx:xs[i]? with
   | none=>rw[hx]at ek;cases ek
   | some z =>
    rw[hx]at ek
    cases ek
    rfl
  cases f1
  have ZP:(es.map (·.2))[i]? = some es[i].2:=by rw[je,ay x_];rfl
  let{v2,f3,f4}:=hv2.get ZP;rw[ev]at f3
  cases f3
  refine{q,[.ref k,v],rfl,B_.of aN,rfl,_,_,rfl,_,_,rfl,rfl,?_};have S3:=S'.lay (o:=.tup [.ref k,v]) hq;have B3:=B'.at (H':=upd H' q (.tup [.ref k,v])) λb u e=>by rw[aQ<|bp e hq];exact e
  cases el:es[i].2 with
  | list ls =>
   rw[el]at f4;let{a2,vs,rfl,h1,h2}:=f4.lst_inv;have g0:((σ'.set 2<|some<|.ref k).set 3<|some<|.ref a2)[0]? = σ'[0]?:=by rw[be ?C,be ?C]
   have g1:((σ'.set 2<|some<|.ref k).set 3<|some<|.ref a2)[1]? = σ'[1]?:=by rw[be ?C,be ?C]
   have g2:((σ'.set 2<|some<|.ref k).set 3<|some<|.ref a2)[2]? = some (some<|.ref k):=by rw[be ?C,di (by rw[l5];decide)]
   have g3:((σ'.set 2<|some<|.ref k).set 3<|some<|.ref a2)[3]? = some (some<|.ref a2):=by rw[di (by rw[List.length_set,l5];decide)]
   have S4:=Cz (σ':=(σ'.set 2<|some<|.ref k).set 3 (some<|.ref a2)) S3 ?G g0;have eb:cJ (some<|cV RW) es[i]=ls.foldl (gx es[i].1) (some<|cV RW):=by unfold cJ;rw[el]
   cases em:ls.foldl (gx es[i].1) (some<|cV RW)with
   | none=>rw[eb,em,cB df]at e';cases e'
   | some mid =>
   rw[eb,em]at e';refine z9 S4 (g1.trans t1) g2 f2 g3 h1 h2 (by simp[l5]) B3 em λσ5 H5 VN ec l5' S5 t5 B5=>?_
   exact{_,by omega,rfl,x_,l5',S5,t5,VN,B5,by rw[<-ec];exact e'}
  | none=>rw[show cJ (some<|cV RW) es[i]=none by unfold cJ;rw[el],cB df]at e';cases e'
  | bool _=>rw[show cJ (some<|cV RW) es[i]=none by unfold cJ;rw[el],cB df]at e';cases e'
  | int _=>rw[show cJ (some<|cV RW) es[i]=none by unfold cJ;rw[el],cB df]at e';cases e'
  | str _=>rw[show cJ (some<|cV RW) es[i]=none by unfold cJ;rw[el],cB df]at e';cases e'
  | tuple _=>rw[show cJ (some<|cV RW) es[i]=none by unfold cJ;rw[el],cB df]at e';cases e'
  | dict _=>rw[show cJ (some<|cV RW) es[i]=none by unfold cJ;rw[el],cB df]at e';cases e'
 ·have ei:i=es.length:=by omega
  subst ei;rw[Ba]at e';have ec:cV RW=fin:=Option.some.inj e';exact .inl {{{_,S'.fh _ _ ha2},by rw[lx];exact ac _},go F2 σ' H' RW sF ec.symm S' t1 B'}
theorem Dq{ks:Re D}{fin:Re ?N}(St:b_ X.K G F Z H ?qw)(s0:Z[0]? = some (some<|.ref a))(s1:Z[1]? = some (some<|.ref p))(ha:F a=some (.Q3 o<|.dT kvs))(hk:ks=kvs.map ?qn)(h5:Z.length=5)(B:Bk X.K G F H p cs)(e:ks.foldl h8 (some<|cV cs)=some fin)
  (go:∀F' σ' H' VN,c_ F F'->fin=cV VN->σ'.length=5->σ'[0]? = some (some<|.ref a)->b_ X.K G F' σ' H' ?qw->σ'[1]? = some (some<|.ref p)->Bk X.K G F' H' p VN->D'.nx σ' H'):xP (Ge<|lB 0) (g9 2) Ez D' Z H:=by
 refine{.ref a,s0,a,o,kvs,rfl,St.fh _ _ ha,λxs kt=>?_};let{F2,sF,S2,rk,kk}:=uI kt St;have B2:=B.seen sF kk;have ha2:=sF _ _ ha;have lx:(xs.map (·.2.1)).length=ks.length:=by
  have h1:=rk.length;rw[hk];simp![v_]at h1 ⊢;omega
 refine{λi m σ' H'=>m=ks.length - i/\i<=ks.length/\σ'.length=5/\σ'[0]? = some (some<|.ref a)/\b_ X.K G F2 σ' H' ?qw/\σ'[1]? = some (some<|.ref p)/\∃cs,Bk X.K G F2 H' p cs/\(ks.drop i).foldl h8 (some<|cV cs)=some fin,{_,rfl,ai _,h5,s0,S2,s1,cs,B2,e},?_};rintro i m σ' H' ⟨rfl,hi,l5,t0,S',t1,RW,B',e'⟩;by_cases x_:i<ks.length
 ·rw[re x_,io]at e';refine .inr {{{_,S'.fh _ _ ha2},by rw[lx];exact x_},λσ4 H4=>∃m',m'<ks.length - i/\m'=ks.length - ?qc/\i+1<=ks.length/\σ4.length=5/\σ4[0]? = some (some<|.ref a)/\b_ X.K G F2 σ4 H4 ?qw/\σ4[1]? = some (some<|.ref p)/\∃cs,Bk X.K G F2 H4 p cs/\(ks.drop ?qc).foldl h8 (some<|cV cs)=some fin,λσ4 H4 h=>h,?_};rintro x H2 ⟨rfl,k,ek,rfl⟩;have ed:ks[i]? = some ks[i]:=ay x_;have ZP:(kvs.map ?qn)[i]? = some ks[i]:=by rw[<-hk];exact ed
  let{v1,f1,f2}:=rk.get ZP;have f1:some (V.ref k)=some v1:=by
   rw[<-f1];rw[je]at ek ⊢
   cases hx:xs[i]? with
   | none=>rw[hx]at ek;cases ek
   | some z =>
    rw[hx]at ek
    cases ek
    rfl
  cases f1
  obtain⟨kx,ekx⟩:∃kx,ks[i]=dc kx:=by
   rw[je]at ZP
   cases hx:kvs[i]? with
   | none=>rw[hx]at ZP;cases ZP
   | some z=>rw[hx]at ZP;exact{z.1,(Option.some.inj ZP).symm}
  rw[ekx]at f2 e';let{b,eb,hb}:=fT f2
  cases eb
  cases ef:RW.find? ?qg with
  | some c =>
   have:h8 (some<|cV RW) (dc kx)=none:=by
    unfold h8;dsimp only;rw[nK,ef];rfl
   rw[this,cB tP]at e'
   cases e'
  | none =>
  by_cases hz:(cV RW).length<1000
  ·have hz':RW.length<1000:=by simpa[cV]using hz
   have ek2:h8 (some<|cV RW) (dc kx)=some (cV RW++[(dc kx,.list [])]):=by
    unfold h8;dsimp only;rw[nK,ef];dsimp only[Option.map];rw[ar<|ba hz]
   rw[ek2]at e';have g0:(σ'.set 2<|some<|.ref k)[0]? = σ'[0]?:=be ?C;have g1:(σ'.set 2<|some<|.ref k)[1]? = σ'[1]?:=be ?C;have g2:(σ'.set 2<|some<|.ref k)[2]? = some (some<|.ref k):=di (by rw[l5];decide);have S4:=Cz (σ':=σ'.set 2 (some<|.ref k)) S' ?G g0;refine{ai _,λq hq=>{.ref p,g1.trans t1,.ref k,g2,p,_,rfl,RY.t (kvs:=TY RW) (by rw[aQ<|bp B'.hp hq];exact B'.hp) (by rw[aQ<|bp (S'.fh _ _ hb) hq];exact S'.fh _ _ hb) (bo (by simpa[TY]using hz')<|mw<|ac 1000),?_}};have fq:=S'.fh.free hq;have oq:=S'.oh.free hq;have B5:=B'.key hq ef hz' fq oq;rw[HF ef];have S5:=(S4.lay (o:=.lst []) hq).Ub (p:=p) (o:=.dT (TY RW++[(kx,.ref q)])) B'.fp B'.op λi e q=>(iy q).elim
   refine{_,by omega,rfl,x_,by simpa using l5,g0.trans t0,S5,g1.trans t1,_,B5,?_};rw[show cV (RW++[{kx,q,[],[]}])=cV RW++[(dc kx,.list [])] by simp[cV]];exact e'
  ·have:h8 (some<|cV RW) (dc kx)=none:=by
    unfold h8;dsimp only;rw[nK,ef];dsimp only[Option.map];rw[ax (by simpa using hz)]
   rw[this,cB tP]at e'
   cases e'
 ·have ei:i=ks.length:=by omega
  subst ei;rw[Ba]at e';have ec:cV RW=fin:=Option.some.inj e';exact .inl {{{_,S'.fh _ _ ha2},by rw[lx];exact ac _},go F2 σ' H' RW sF ec.symm l5 t0 S' t1 B'}
end
theorem HN{tg l:TW}{tl:TE}(hl:PE X l tl):PI X tg l (Ge tl):=by
 intro pins s Z H R I h;refine p_ (hl pins s Z H _ I h) λu s1 ⟨x,H1,I1,r1,a,o,kvs,e,ea,q⟩=>?_
 subst e
 cases r1
 exact uZ I1 ea q
theorem D3{Sx:Re Uf}(h:VQ X Sx (Kt X ret))(hr:VQ X ret (Kr<|lB 1)):Uk (S:=S) X Sx EN:=λOK K G F Z H ρ E hO hX St ok eo=>by
 unfold EN at ok;split at ok
 case h_2=>exact(hO ok).elim
 split at ok
 case h_2=>exact(hO ok).elim
 rename_i r hb;unfold w6 at hb;split at hb
 case h_2=>cases hb
 rename_i es;split at hb
 case h_2=>cases hb
 rename_i ds hkd;let{fin,W3,er}:=Option.map_eq_some_iff.mp hb;subst er;have St:b_ X.K G F Z H (r1 (.dict es) 4):=St;have h5:Z.length=5:=St.ln;let{v,e0,r0}:=St.fz 0 (.dict es) rfl;let{_,a,o,kvs,rfl,ha,hk,hv}:=xX r0 hkd;unfold w9 at W3
 cases e1:(es.map (·.1)).foldl h8 (some [])with
 | none=>rw[e1,cB df]at W3;cases W3
 | some ini =>
 rw[e1]at W3;refine EG h λp hp=>?_
 have g0:(Z.set 1<|some<|.ref p)[0]? = Z[0]?:=be ?C;have g1:(Z.set 1<|some<|.ref p)[1]? = some (some<|.ref p):=di (by rw[h5];decide);have S1:=Cz  (St.lay (o:=.dT []) hp) ?G g0;have B1:Bk X.K G F (upd H p<|.dT []) p []:={aN,St.fh.free hp,St.oh.free hp,(λ_ h=>nomatch h),.nil,.nil,by decide};refine Dq S1 (g0.trans e0) g1 ha hk (by simpa using h5) B1 e1 λF2 σ2 H2 VN s2 ec l2 t0 S2 t1 B2=>?_
 rw[ec]at W3;refine Af S2 t0 t1 (s2 _ _ ha) hk (hv.mono s2) l2 B2 W3 λF3 σ3 H3 cs3 s3 ec3 S3 t3 B3=>?_
 rw[ec3]at ok;exact D1 hr S3 t3 B3 (eo.up<|s2.trans s3) ok
def isF(i:Nat)(f:Str)(ρ:En):Bool:=match ρ[i]? with
 | some (some<|.fz d)=>fnQ d f
 | _=>false
def pEl(b:En->Bool)(p q:Pu D):Pu D:=λρ=>match b ρ with
 | true=>p ρ
 | false=>q ρ
theorem Oe{e:TW}{p q:Pu D}{b:En->Bool}(h:AP X e p)(h':AP X e q):AP X e (pEl b p q):=λG F Z H ρ Q S w=>by
 unfold pEl at w
 cases hb:b ρ with
 | true=>rw[hb]at w;exact h G F Z H ρ Q S w
 | false=>rw[hb]at w;exact h' G F Z H ρ Q S w
def elF{S:Type}(d:D)(f:Str)(m n:M S):M S:=match fnQ d f with
 | true=>m
 | false=>n
end L4
set_option maxHeartbeats 8000000
namespace YC
open PySem PySem.Spec PyProof.Rows L2 L3 L4
noncomputable section
def top(i:Nat):Uf:=PySem.Challenge.pw_passersby_k36_err_papers_told.main.body.getD i<|.Pass {0,0,0,0}
abbrev BL:Re Str:=["range","len","tuple","list","max","min","sum","repr","enumerate","isinstance","all","any","int","bool","zip","sorted","dict","reversed","ValueError"]
theorem n_{X:Cx}{k:Nat}{a b:TW}{pos:Pos}{pa pb:Pu D}(hr:y_ k X.A)(ha:AO X a pa)(hb:AO X b pb)(hs:xG b:=by exact λ_ _=>rfl):AP X (.Subscript a b pos) (NE aF pa pb):=aL (aD ?O) aC ha hb hs
structure KX(K:Fg)(mg:Rm):Prop where
 r_:∃Cs,MgL mg ["NoCrowd","NoLine","NoMeeting","NoPaper","NoRule","NoText"] Cs/\SU K (Cs.map Value.ref) [("TooMany",false)]
 WZ:∃C,mg "TooMany"=some (.ref C)/\RT K (.ref C) [("TooMany",true)]
 Ut:RT K (.type "ValueError") [("TooMany",true)]
 h_PassError:∃hv,mg "PassError"=some hv/\TH K hv ["TooMany"]
 UA:∃a,mg "_law_ask_of"=some (.ref a)/\PySem.W.nsIn K mainGlobals "_law_ask_of"=some (some<|.ref a)
 UB:∃a,mg "_law_ask_at"=some (.ref a)/\PySem.W.nsIn K mainGlobals "_law_ask_at"=some (some<|.ref a)
structure BN(K:Fg)(mg:Rm):Prop where
 b:∀x∈BL,mg x=none
 k:KX K mg
 Xd:∀{P w base},CCl P w K mg base "TooMany" 1 []
 Zo:Fb K mg ("begun",top 10)
 Yk:Fb K mg ("can_be",top 11)
 Yh:Fb K mg ("led_to",top 12)
 Wg:Fb K mg ("pairs_of",top 13)
 Wh:Fb K mg ("leads_at",top 14)
 zap:Fb K mg ("said",top 15)
 Uz:Fb K mg ("leads_from",top 17)
 Yg:Fb K mg ("row_to",top 19)
 Yf:Fb K mg ("way_in",top 18)
 Wl:Fb K mg ("backs_of",top 20)
 Wj:Fb K mg ("far_from",top 21)
 Wi:Fb K mg ("hands_of",top 24)
 Zn:Fb K mg ("holds",top 23)
 Vo:Fb K mg ("astray_in",top 26)
 W9:Fb K mg ("lost_in",top 27)
 Yj:FbV K mg ("err_at",top 29) 1000
 UC:Fb K mg ("beginnings",top 31)
 Yi:FbV K mg ("err_of",top 30) 1000
 Vv:Fb K mg ("_law_feed",top 33)
 Vw:Fb K mg ("_law_draw",top 34)
 Vq:Fb K mg ("_law_rule",top 35)
 Ta:Fb K mg ("_law_question",top 36)
 UG:Fb K mg ("_law_holds",top 37)
 Vt:Fb K mg ("_law_made",top 38)
 Vs:Fb K mg ("_law_pair",top 39)
 UD:Fb K mg ("_law_steps",top 40)
 Wm:Fb K mg ("_law_all",top 41)
 T2:Fb K mg ("_law_counts",top 42)
 UI:Fb K mg ("_law_begun",top 43)
 Vp:Fb K mg ("_law_said",top 44)
 Vx:Fb K mg ("_law_back",top 45)
 Vu:Fb K mg ("_law_lost",top 46)
 SH:Fb K mg ("_law_is_number",top 47)
 Sl:Fb K mg ("_law_is_counted",top 48)
 S_:Fb K mg ("_law_rank_bad",top 49)
 Tx:Fb K mg ("_law_err_due",top 50)
 Sn:Fb K mg ("_law_beginnings",top 51)
 T4:Fb K mg ("_law_ask_at",top 53)
 T3:Fb K mg ("_law_ask_of",top 54)
 S9:Fb K mg ("_law_too_many",top 52)
 Vr:Fb K mg ("_law_rows",top 55)
 UH:Fb K mg ("_law_first",top 56)
 UE:Fb K mg ("_law_right",top 57)
 zaU:Fb K mg ("law",top 58)
theorem BN.i{K:Fg}{mg:Rm}(B:BN K mg){x:Str}(h:x∈BL:=by decide):mg x=none:=B.b x h
section
variable {P:Tl}{w:TD}{K:Fg}{mg:Rm}{base:Wp}
def IW(s:Uf):Re Uf:=match s with
 | .ClassDef _ _ _ b _ _ _ _ _ _ _=>b
 | _=>[]
abbrev gR:Uf:=(IW<|top 5).getD 0<|.Pass {0,0,0,0}
theorem qc:q_ ["self"] ["self"] (aP gR):={rfl,rfl,rfl,by decide +kernel,rfl,by decide +kernel,by decide +kernel}
theorem Aw{Cl D f:Tk}{fd:FuncData}(Fn:WN K "__init__" "TooMany.__init__" gR f fd)(c:XC K Cl D f)(hm:mg "TooMany"=some (.ref Cl))(hc:XQ K Cl "TooMany")(kp:PySem.W.keepIn K (.ref Cl)=true)(na:∀f∈([]:Re Str),tV K Cl f)(ex:PySem.W.exmOne K (.ref Cl) (.ref Cl)=some true):CCl P w K mg base "TooMany" 1 [] :=
 {Cl,D,f,fd,["self"],c,NS (k:=0) Fn qc rfl,(Po Fn λ_ _ _ _ _ _ _=>rfl),hm,hc,kp,na,ex}
theorem Wo{h:Wp}(X:K.In h)(G:h.Ns mainGlobals mg)(q:Xa K "TooMany" "TooMany.__init__" gR []){P:Tl}{w:TD}{base:Wp}:CCl P w K mg base "TooMany" 1 []:=by
 let{C,D,g,gd,b,G0,x,y,z,u,v}:=q;exact Aw G0 x (qu X G b) y z u v
def AK(WH:Re D):M D :=
 bd (oM<|cu [(PyData.list WH)]) λx5=>.ret x5
def tD(WH:Re D)(d_:D)(kn6:Re D×Unit->M D):M D :=
 To d_ λy7 y8=>bd (oM<|fJ (PyData.list WH) y7) λx9=>bd (oM<|lX x9 y8) λRU=>bd (oM<|putD WH y7 RU) λUN=>kn6 (UN,())
def qI(TK Vk:D):M D :=
 bd (bd (oM<|aF TK<|.int 0) λx1=>oM<|rN (PyData.list [(.int 0)]) x1) λl2=>bd (bd (oM<|aF TK<|.int 1) λx3=>oM<|DC [x3,Vk]) λl4=>cO (λs12 d13 kn=>tD s12.1 d13 kn) l4 (l2,()) λs12=>AK s12.1
def WV(f:D->M D):Re D->M D:=λl=>match l with
 | [a]=>f a
 | _=>.bad
def Rw(f:D->D->M D):Re D->M D:=λl=>match l with
 | [a,b]=>f a b
 | _=>.bad
def U8(f:D->D->D->M D):Re D->M D:=λl=>match l with
 | [a,b,c]=>f a b c
 | _=>.bad
def Y5(f:D->D->D->D->M D):Re D->M D:=λl=>match l with
 | [a,b,c,d]=>f a b c d
 | _=>.bad
def FJ:=Rw qI
theorem Fv(B:BN K mg):CF P w K mg base "begun" 1 (J_ K 2 FJ) :=
 RL ["rule","counts","numbers","start","many"] B.Zo λhr nd =>
  (af (aG (sh:=[.f,.f,.o,.z,.z])<|cU (i:=2) nd<|cK<|My (bX ?qC)<|ao ?J)
  <|af (br (sh:=[.z,.z,.o,.z,.z]) PassesOwn.leaving rfl (bI<|GY rfl B.i (aa ?J ?je) rfl rfl) (fw rfl (aX (aA (i:=3) ?X nd) (aX (aA (i:=4) ?X nd) dw rfl) rfl) rfl rfl)
  <|au<|xy (i:=2) rfl ?jf wM qF (aq ?jx) (aq<|av 4) λ_ _ _=>rfl)
  <|au<|aK<|aq<|bG bf cf B.i ?E<|aE (aY (i:=2)) aI)
def kD(Vj gaP:D):M D :=
 bd (bd (bd (oM (aF gaP (.int 0))) λx1=>bd (oM (aF gaP (.int 1))) λx2=>oM (bx x1 x2)) λb3=>if b3 then .ret (.int 2)else .ret (.int 1)) λx4=>bd (bd (bd (bd (bd (oM (aF gaP (.int 0))) λx5=>oM (aF Vj x5)) λx6=>oM (v0 x6 x4)) λb9=>if b9 then bd (bd (oM (aF gaP (.int 1))) λx7=>oM (aF Vj x7)) λx8=>oM (v0 x8 x4)else .ret false) λTz=>.ret (.bool Tz)) λQ8=>.ret Q8
def Di:=Rw kD
theorem C7(B:BN K mg):CF P w K mg base "can_be" 1 (J_ K 2 Di) :=
 RL ["crowd","meeting","wanted"] B.Yk λhr nd =>
  (af (aG (sh:=[.f,.f,.f])<|aM (i:=2) nd<|aq<|vy (aJ ?jI bv (ao ?jX)<|ao ?jX) ak ak)
  <|au<|aK<|aq<|fO<|kP (cA uR uT (ao<|n_ hr (g_ 0)<|ao ?jX) ?jL)<|kO<|cA uR uT (ao<|n_ hr (g_ 0)<|ao ?jX) ?jL)
def zn(WH:Re D):M D :=
 bd (oM<|cu [(PyData.list WH)]) λx8=>.ret x8
def ku(WH:Re D)(d_:D)(kn9:Re D×Unit->M D):M D :=
 bd (oM<|fJ (PyData.list WH) d_) λRU=>bd (oM<|lX RU<|.int 1) λQ8=>bd (oM<|putD WH d_ Q8) λTX=>kn9 (TX,())
def pY(gbB:D)(WH:Re D):M D :=
 bd (bd (bd ?qF λlo5=>oM<|kj gbB lo5 none) λx6=>oM<|cH x6) λl7=>cO (λH_ T5 kn=>ku H_.1 T5 kn) l7 (WH,()) λH_=>zn H_.1
def kz(gbB:D)(WH:Re D)(d_:D)(V6:D×Re D×Unit->M D):M D :=
 bd (oM<|fJ (PyData.list WH) d_) λU1=>bd (oM<|gT U1<|.int 1) λT9=>bd (oM<|putD WH d_ T9) λV4=>V6 (gbB,V4,())
def kA(Vj gaP:D):M D :=
 bd (oM<|pT [Vj]) λl1=>bd (bd (bd ?qF λhi2=>oM<|kj gaP none hi2) λx3=>oM<|cH x3) λl4=>cO (λU4 d20 kn=>kz U4.1 U4.2.1 d20 kn) l4 (gaP,l1,()) λU4=>pY U4.1 U4.2.1
def Dh:=Rw kA
theorem C6(B:BN K mg):CF P w K mg base "led_to" 1 (J_ K 2 Dh) :=
 RL ["crowd","meeting","numbers","room"] B.Yh λhr nd =>
  (af (aG (sh:=[.z,.f,.o,.z])<|cU (i:=2) nd<|cK<|pA jH v4 B.i ?E<|aE (g_ 0) aI)
  <|af (br (sh:=[.z,.f,.o,.z]) PassesOwn.leaving rfl (bI<|bZ<|ik ?qH ii<|ie ak) (aA (i:=3) ?X nd)
  <|au<|xy (i:=2) rfl ?jf LN IE (aq ?jx) ?qG λ_ _ _=>rfl)
  <|af (br (sh:=[.z,.z,.o,.z]) PassesOwn.leaving rfl (bI<|bZ<|ik ?qH (ie ak) ii) (aA (i:=3) ?X nd)
  <|au<|xy (i:=2) rfl ?jf wM qF (aq ?jx) ?qG λ_ _ _=>rfl)
  <|au<|aK<|aq<|bG bf cf B.i ?E<|aE (aY (i:=2)) aI)
def uu(TM:Re ?N):M D :=
 .ret<|PyData.dict TM
def lP(TM:Re ?N)(d_:D)(kn3:Re ?N×Unit->M D):M D :=
 To d_ λy4 y5=>bd (bd ?qF λhi6=>oM<|kj y5 none hi6) λx7=>bd (oM<|hV true TM x7 y4) λl8=>kn3 (l8,())
def jI(TK:D):M D :=
 bd (bd (oM<|aF TK<|.int 2) λx1=>oM<|lN [x1]) λl2=>cO (λs9 d10 kn=>lP s9.1 d10 kn) l2 ([],()) λs9=>uu s9.1
def yx:=WV jI
theorem yo(B:BN K mg):CF P w K mg base "pairs_of" 1 (J_ K 1 yx) :=
 RL ["rule","pairs","number","meeting"] B.Wg λhr nd =>
  (af (aG (sh:=[.f,.t,.z,.z])<|qM true (i:=1) nd rfl ?jy rfl<|.inl rfl)
  <|af (br (sh:=[.z,.t,.z,.z]) PassesOwn.leaving rfl (bI<|xB rfl B.i (aa ?J az) rfl) (fw rfl (aX (aA (i:=2) ?X nd) (aX (aA (i:=3) ?X nd) dw rfl) rfl) rfl rfl)
  <|au<|iM ?O (i:=1) rfl ?jf (aq<|ik ?qh ii<|ie ak) ?qe rfl)
  <|au<|fN (i:=1)<|aK<|aq<|av 1)
abbrev Sr:Re Str:=["rule","pairs","crowd","meets","rooms","leads","place","a","b","number","room","many"]
theorem jP:Sr.Nodup:=by decide +kernel
def uv(TM Zh:D)(Zg ZN:D)(R1:Re D):M D :=
 .ret<|PyData.list R1
def lR(SE:D×D×D×D×Re D×Unit->M D)(TM Zh:D)(Zg ZN:D)(R1:Re D)(v_a:D):M D :=
 SE (TM,Zh,Zg,ZN,R1,())
def iY(SE:D×D×D×D×Re D×Unit->M D)(TM Zh:D)(Zg ZN:D)(R1:Re D)(v_a d_:D)(X3:D×D×D×D×Re D×D×Unit->M D):M D :=
 bd (oM (zg TM (.tuple [v_a,d_]))) λT9=>bd (bd (oM (gU T9 .none)) λb20=>if b20 then bd (bd (oM (aF Zg T9)) λYG=>kD Zh YG) λR5=>oM (fF R5)else .ret false) λb21=>if b21 then
  bd (bd (bd (oM (aF Zg T9)) λU0=>kA Zh U0) λT8=>.ret (.tuple [T9,T8])) λXj=>bd (oM (mn R1 [Xj])) λYs=>X3 (TM,Zh,Zg,ZN,Ys,v_a,())
  else
  X3 (TM,Zh,Zg,ZN,R1,v_a,())
def lQ(TM Zh:D)(Zg ZN:D)(R1:Re D)(d_:D)(SE:D×D×D×D×Re D×Unit->M D):M D :=
 To d_ λy11 y12=>bd (bd (bd (Wr y11) λzag=>oM<|kj ZN zag none) λTn=>oM<|cH Tn) λl15=>cO (λUo d27 kn=>iY SE Uo.1 Uo.2.1 Uo.2.2.1 Uo.2.2.2.1 Uo.2.2.2.2.1 Uo.2.2.2.2.2.1 d27 kn) l15 (TM,Zh,Zg,ZN,R1,y12,()) λUo=>lR SE Uo.1 Uo.2.1 Uo.2.2.1 Uo.2.2.2.1 Uo.2.2.2.2.1 Uo.2.2.2.2.2.1
def jJ(TK gbL Vj:D):M D :=
 bd (oM<|aF TK<|.int 2) λx1=>bd (bd (bd (oM<|lN [Vj]) λl6=>bd (aZ (λd2=>To d2 λy3 y4=>bd (oM<|dX y4<|.int 0) λb5=>if b5 then .ret (some y3)else .ret none) l6) cq) λl7=>.ret<|PyData.list l7) λx8=>bd (oM<|sN [x8]) λl9=>cO (λR9 d29 kn=>lQ R9.1 R9.2.1 R9.2.2.1 R9.2.2.2.1 R9.2.2.2.2.1 d29 kn) l9 (gbL,Vj,x1,x8,[],()) λR9=>uv R9.1 R9.2.1 R9.2.2.1 R9.2.2.2.1 R9.2.2.2.2.1
def yy:=U8 jJ
theorem yq(B:BN K mg):CF P w K mg base "leads_at" 2 (J_ K 3 yy) :=
 RL ["rule","pairs","crowd","meets","rooms","leads","place","a","b","number"] B.Wh λhr nd =>
  (af (aG (sh:=[.z,.f,.f,.f,.z,.z,.z,.z,.z,.z])<|aM (i:=3) nd<|aq ?J)
  <|af (aG (sh:=[.z,.f,.f,.f,.f,.z,.z,.z,.z,.z])<|cE (i:=4) nd rfl ?jy (.inl rfl) (N':=Sr) (k:=2) rfl ?H (xB rfl B.i ?jO rfl) (λ_ _ _ _ _=>(fw rfl (aX (aA (i:=10) (show 10<=10 by decide) jP) (aX (aA (i:=11) (show 10<=11 by decide) jP) dw rfl) rfl) rfl rfl)) (λ_ _ _ _ _=>(dq<|aJ fU fV (g_ 11) ?P)) (λ_ _ _ _ _=>(av 10)) rfl ?R)
  <|af (aG (sh:=[.z,.f,.f,.f,.f,.o,.z,.z,.z,.z])<|cU (i:=5) nd ?qQ)
  <|af (br (sh:=[.z,.f,.f,.f,.f,.o,.z,.z,.z,.z]) PassesOwn.leaving rfl (bI<|GZ rfl B.i ?qa rfl) (fw rfl (aX (aA (i:=6) ?X nd) (aX (aA (i:=7) ?X nd) dw rfl) rfl) rfl rfl)
  <|au<|br (sh:=[.z,.f,.f,.f,.f,.o,.z,.f,.z,.z]) PassesOwn.leaving rfl (bI<|bZ<|ik ?qu (ie<|av 6) ii) (aA (i:=8) ?X nd)
  <|af (aG (sh:=[.z,.f,.f,.f,.f,.o,.z,.f,.z,.f])<|aM (i:=9) nd<|aq<|GX ?O ?qH (bC<|aa (av 7)<|aa (av 8) az) {rfl,rfl,rfl,rfl})
  <|au<|bF (aW<|fB<|kM (aJ rM bv (g_ 9)<|ao fm)<|iL<|fk (ao<|bh (C7 B) hr.m<|aa (av 2)<|aa (n_ hr ?qh<|g_ 9) az) ?R)
  (au<|gy (i:=5) rfl ?jf (aH (aq<|bC<|aa (av 9)<|aa (bh (C6 B) hr.m<|aa (av 2)<|aa (n_ hr ?qh<|g_ 9) az) az) aV) rfl rfl rfl rfl rfl rfl)
  aR)
  <|au<|fN (i:=5)<|aK<|aq<|av 5)
abbrev Vz:Re Str:=["rule","crowd","truths","truth","many"]
theorem pM:Vz.Nodup:=by decide +kernel
def o9(TK Vj:D):M D :=
 bd (bd (bd (bd (oM<|aF TK<|.int 3) λx1=>oM<|DC [x1,Vj]) λl6=>bd (aZ (λd2=>To d2 λy3 y4=>bd (oM<|dX y4<|.int 0) λb5=>if b5 then .ret (some y3)else .ret none) l6) cq) λl7=>.ret<|PyData.list l7) λx8=>bd (oM<|IP [x8]) λb9=>if b9 then
  .ret (.str "yes")
  else
  bd (bd (oM<|IN [x8]) λTz=>if Tz then .ret (.str "both")else .ret (.str "no")) λQ8=>.ret Q8
def Il:=Rw o9
theorem H9(B:BN K mg):CF P w K mg base "said" 1 (J_ K 2 Il) :=
 RL ["rule","crowd","truths"] B.zap λhr nd =>
  (af (aG (sh:=[.z,.z,.f])<|cE (i:=2) nd rfl ?jy (.inl rfl) (N':=Vz) (k:=2) rfl ?H (GY rfl B.i (aa ?J ?je) rfl rfl) (λ_ _ _ _ _=>(fw rfl (aX (aA (i:=3) (show 3<=3 by decide) pM) (aX (aA (i:=4) (show 3<=4 by decide) pM) dw rfl) rfl) rfl rfl)) (λ_ _ _ _ _=>(dq<|aJ fU fV ?qu ?P)) (λ_ _ _ _ _=>?jx) rfl ?R)
  <|af (bF (aW<|pj (zx (GL rfl) Lq rfl B.i ?E (aE ?jL aI) ?C ?C rfl rfl) ?R)
  (au<|aK<|aq bM)
  aR)
  <|au<|aK<|aq<|vy (pj (zx (GK rfl) Lp rfl B.i ?E (aE ?jL aI) ?C ?C rfl rfl) ?R) bM bM)
def jR(UT Vn TM:D)(R1:Re ?N)(Zf:Re ?N)(RI:Re D):M D :=
 .ret<|PyData.dict R1
def qm(Ru:D×D×D×Re ?N×Re ?N×Re D×Unit->M D)(UT Vn TM:D)(R1:Re ?N)(Zf:Re ?N)(RI:Re D):M D :=
 Ru (UT,Vn,TM,R1,Zf,RI,())
def gm(Ru:D×D×D×Re ?N×Re ?N×Re D×Unit->M D)(UT Vn TM:D)(R1:Re ?N)(Zf:Re ?N)(RI:Re D)(d_:D)(zaG:D×D×D×Re ?N×Re ?N×Re D×Unit->M D):M D :=
 bd (bd ?qp λTj=>oM<|bB Tj<|PyData.dict Zf) λUK=>if UK then
  bd ?qp λT9=>bd (oM<|hV true Zf T9<|.bool true) λV4=>bd ?qp λR5=>bd (oM<|mn RI [R5]) λl20=>zaG (UT,Vn,TM,R1,V4,l20,())
  else
  zaG (UT,Vn,TM,R1,Zf,RI,())
def bY(UT Vn TM:D)(R1:Re ?N)(Zf:Re ?N)(RI:Re D)(Ru:D×D×D×Re ?N×Re ?N×Re D×Unit->M D):M D :=
 bd (bd (oM<|nM [(PyData.dict R1)]) λx3=>bd (oM<|dE [?qk]) λx4=>oM<|dU x3 x4) λb5=>if b5 then
  bd (bd (oM<|dE [?qk]) λx6=>oM<|dX x6 Vn) λb7=>if b7 then
  .exc {"TooMany",[]}
  else
  bd (bd (oM<|nM [(PyData.dict R1)]) λx8=>oM<|aF ?qk x8) λx9=>bd (jJ UT TM x9) λRU=>bd (oM<|hV true R1 x9 RU) λUN=>bd (bd (oM<|aF (PyData.dict UN) x9) λSV=>oM<|cH SV) λWY=>cO (λR_ d22 kn=>gm Ru R_.1 R_.2.1 R_.2.2.1 R_.2.2.2.1 R_.2.2.2.2.1 R_.2.2.2.2.2.1 d22 kn) WY (UT,Vn,TM,UN,Zf,RI,()) λR_=>qm Ru R_.1 R_.2.1 R_.2.2.1 R_.2.2.2.1 R_.2.2.2.2.1 R_.2.2.2.2.2.1
  else jR UT Vn TM R1 Zf RI
def dR(TK Vj ga7:D):M D :=
 bd (jI TK) λx1=>jj Vj<|jX (λWT kn=>bY WT.1 WT.2.1 WT.2.2.1 WT.2.2.2.1 WT.2.2.2.2.1 WT.2.2.2.2.2.1 kn) 10000 (TK,ga7,x1,[],[(Vj,(.bool true))],[Vj],())
def uc:=U8 dR
theorem t4(B:BN K mg):CF P w K mg base "leads_from" 3 (J_ K 3 uc) :=
 RL ["rule","crowd","limit","pairs","leads","known","found","here","lead"] B.Uz λhr nd =>
  (af (aG (sh:=[.f,.f,.f,.f,.z,.z,.z,.z,.z])<|aM (i:=3) nd<|aq<|bh (yo B) hr.m<|aa ?qi az)
  <|af (aG (sh:=[.f,.f,.f,.f,.t,.z,.z,.z,.z])<|qM true (i:=4) nd rfl ?jy rfl<|.inl rfl)
  <|af (aG (sh:=[.f,.f,.f,.f,.t,.t,.z,.z,.z])<|Cp (i:=5) ?O nd rfl ?jy (av 1) dM rfl<|.inl rfl)
  <|af (aG (sh:=[.f,.z,.f,.f,.t,.t,.o,.z,.z])<|cU (i:=6) nd<|cK<|bX ?je)
  <|af (gP (sh:=[.f,.z,.f,.f,.t,.t,.o,.z,.z]) (fuel:=10000) PassesOwn.leaving (aW<|aJ (iT ?O) iV (ao<|aS gO kW B.i eh<|aE (aY (i:=4)) aI)<|ao<|aS bJ cX B.i eh<|aE (aY (i:=6)) aI)
  <|af (bF (aW<|aJ fU fV (ao<|aS bJ cX B.i eh<|aE (aY (i:=6)) aI) ?jL)
  (au<|D4 B.Xd hr.m rfl ?C)
  aR)
  <|af (aG (sh:=[.f,.z,.f,.f,.t,.t,.o,.f,.z])<|aM (i:=7) nd<|aq<|n_ hr (aY (i:=6))<|ao<|aS gO kW B.i eh<|aE (aY (i:=4)) aI)
  <|af (aG (sh:=[.f,.z,.f,.f,.t,.t,.o,.f,.z])<|iM ?O (i:=4) rfl ?jf (aq<|av 7) (aq<|bh (yq B) hr.m<|aa ?qi<|aa ?jx ?qb) rfl)
  <|au<|br (sh:=[.f,.z,.f,.f,.t,.t,.o,.z,.z]) PassesOwn.leaving rfl (bI<|bZ<|n_ hr (aY (i:=4)) ?qW) (aA (i:=8) ?X nd)
  <|au<|bF (aW<|aJ (bU ?O) cg (ao<|n_ hr (g_ 8) ?P)<|aY (i:=5))
  (af (aG (sh:=[.f,.z,.f,.f,.t,.t,.o,.z,.f])<|iM ?O (i:=5) rfl ?jf (aq<|n_ hr (g_ 8) ?P) (aq dM) rfl)
  <|au<|gy (i:=6) rfl ?jf (aH (aq<|n_ hr (g_ 8) ?P) aV) rfl rfl rfl rfl rfl rfl)
  aR)
  <|au<|fN (i:=4)<|aK<|aq<|av 4)
def pX(Wd:D)(gbT:Re D)(gbK:D):M D :=
 bd (bd (oM<|B9 [(PyData.list gbT)]) λl2=>.ret<|PyData.list l2) λx3=>.ret x3
def eQ(Wd:D)(gbT:Re D)(gbK:D)(kn4:D×Re D×D×Unit->M D):M D :=
 bd (oM<|gU gbK .none) λb5=>if b5 then
  bd (oM<|aF gbK<|.int 1) λx6=>bd (oM<|mn gbT [x6]) λl7=>bd (bd (oM<|aF gbK<|.int 0) λx8=>oM<|aF Wd x8) λx9=>kn4 (Wd,l7,x9,())
  else pX Wd gbT gbK
def nS(gbI gbP:D):M D :=
 bd (oM<|aF gbI gbP) λx1=>jX (λZ4 kn=>eQ Z4.1 Z4.2.1 Z4.2.2.1 kn) 10000 (gbI,[],x1,())
def Dg:=Rw nS
theorem C5(B:BN K mg):CF P w K mg base "row_to" 1 (J_ K 2 Dg) :=
 RL ["ahead","goal","row","step"] B.Yg λhr nd =>
  (af (aG (sh:=[.f,.f,.o,.z])<|cU (i:=2) nd ?qQ)
  <|af (aG (sh:=[.f,.z,.o,.f])<|aM (i:=3) nd<|aq<|n_ hr (g_ 0) ?qH)
  <|af (gP (sh:=[.f,.z,.o,.f]) (fuel:=10000) PassesOwn.leaving (aW<|aJ rM bv ?qh<|ao fm)
  <|af (aG (sh:=[.f,.z,.o,.f])<|gy (i:=2) rfl ?jf (aH (aq<|n_ hr ?qh ?P) aV) rfl rfl rfl rfl rfl rfl)
  <|au<|aM (i:=3) nd<|aq<|n_ hr (g_ 0)<|ao<|n_ hr ?qh ?P)
  <|au<|fN (i:=2)<|aK<|aq<|dY<|AQ rfl rfl B.i rfl B.i (aE ?jL aI) rfl rfl)
def pW(R1 W8:D)(Wd:Re ?N)(RI:Re D)(TL:D):M D :=
 bd (bd (oM<|aF ?qk TL) λx1=>nS (PyData.dict Wd) x1) λx2=>.ret x2
def zm(kn3:D×D×Re ?N×Re D×D×Unit->M D)(R1 W8:D)(Wd:Re ?N)(RI:Re D)(TL Ze:D):M D :=
 bd (oM<|lX TL<|.int 1) λx9=>kn3 (R1,W8,Wd,RI,x9,())
def kq(kn3:D×D×Re ?N×Re D×D×Unit->M D)(R1 W8:D)(Wd:Re ?N)(RI:Re D)(TL Ze d_:D)(SE:D×D×Re ?N×Re D×D×D×Unit->M D):M D :=
 bd (bd ?qp λQ8=>oM<|bB Q8<|PyData.dict Wd) λb12=>if b12 then
  bd ?qp λTR=>bd (oM<|hV true Wd TR<|.tuple [Ze,d_]) λXY=>bd ?qp λTj=>bd (oM<|mn RI [Tj]) λl16=>SE (R1,W8,XY,l16,TL,Ze,())
  else
  SE (R1,W8,Wd,RI,TL,Ze,())
def iB(R1 W8:D)(Wd:Re ?N)(RI:Re D)(TL:D)(kn3:D×D×Re ?N×Re D×D×Unit->M D):M D :=
 bd (bd (oM<|aF ?qk TL) λx4=>oM<|bB x4 W8) λb5=>if b5 then
  bd (oM<|aF ?qk TL) λx6=>bd (bd (oM<|aF R1 x6) λx7=>oM<|cH x7) λl8=>cO (λT_ d18 kn=>kq kn3 T_.1 T_.2.1 T_.2.2.1 T_.2.2.2.1 T_.2.2.2.2.1 T_.2.2.2.2.2.1 d18 kn) l8 (R1,W8,Wd,RI,TL,x6,()) λT_=>zm kn3 T_.1 T_.2.1 T_.2.2.1 T_.2.2.2.1 T_.2.2.2.2.1 T_.2.2.2.2.2.1
  else pW R1 W8 Wd RI TL
def nR(Yu Vj gbg:D):M D :=
 jj Vj<|jX (λU4 kn=>iB U4.1 U4.2.1 U4.2.2.1 U4.2.2.2.1 U4.2.2.2.2.1 kn) 10000 (Yu,gbg,[(Vj,.none)],[Vj],(.int 0),())
def Df:=U8 nR
theorem C4(B:BN K mg):CF P w K mg base "way_in" 2 (J_ K 3 Df) :=
 RL ["leads","crowd","goals","ahead","found","place","here","lead"] B.Yf λhr nd =>
  (af (aG (sh:=[.f,.f,.f,.t,.z,.z,.z,.z])<|Cp (i:=3) ?O nd rfl ?jy (av 1) fm rfl<|.inl rfl)
  <|af (aG (sh:=[.f,.z,.f,.t,.o,.z,.z,.z])<|cU (i:=4) nd<|cK<|bX ?je)
  <|af (aG (sh:=[.f,.z,.f,.t,.o,.f,.z,.z])<|aM (i:=5) nd ?qG)
  <|af (gP (sh:=[.f,.z,.f,.t,.o,.f,.z,.z]) (fuel:=10000) PassesOwn.leaving (aW<|aJ (bU ?O) cg (ao<|n_ hr (aY (i:=4))<|g_ 5) ?jL)
  <|af (aG (sh:=[.f,.z,.f,.t,.o,.f,.f,.z])<|aM (i:=6) nd<|aq<|n_ hr (aY (i:=4))<|g_ 5)
  <|af (br (sh:=[.f,.z,.f,.t,.o,.f,.f,.z]) PassesOwn.leaving rfl (bI<|bZ<|n_ hr (g_ 0)<|g_ 6) (aA (i:=7) ?X nd)
  <|au<|bF (aW<|aJ (bU ?O) cg (ao<|n_ hr ?qW ?P)<|aY (i:=3))
  (af (aG (sh:=[.f,.z,.f,.t,.o,.f,.f,.f])<|iM ?O (i:=3) rfl ?jf (aq<|n_ hr ?qW ?P) (aq<|bC<|aa (av 6) ?qb) rfl)
  <|au<|gy (i:=4) rfl ?jf (aH (aq<|n_ hr ?qW ?P) aV) rfl rfl rfl rfl rfl rfl)
  aR)
  <|au<|GU (i:=5) nd rfl ?jy wM qF ?qG<|.inl rfl)
  <|au<|fN (i:=3)<|aK<|aq<|bh (C5 B) hr.m<|aa ?jx<|aa (n_ hr (aY (i:=4))<|g_ 5) az)
def fM(Yu:D):M D :=
 oM<|w6 Yu
def yB:=WV fM
theorem pL(B:BN K mg):CF P w K mg base "backs_of" 1 (J_ K 1 yB) :=
 RL ["leads","backs","crowd","led","lead"] B.Wl λhr nd =>
  (D3 (j5 (j6 (i:=1) nd rfl ?jy yf)<|j5 (vX PassesOwn.leaving rfl (HN<|dh (i:=0) rfl ?jf) (mV (i:=2) nd rfl ?jy)<|mU<|Bo (ut (Nat.add_le_add_left (show 1<=1100 by decide) _) ?O) (dh (i:=1) rfl ?jf) (dh (i:=2) rfl ?jf) (zN iQ) rfl)
  <|j5 (vX PassesOwn.leaving rfl (Fa (dh (i:=0) rfl ?jf) rfl rfl) (Ff rfl<|rG (mV (i:=2) nd rfl ?jy)<|rG (mV (i:=3) nd rfl ?jy) Bs)<|mU<|vX PassesOwn.leaving rfl (HM<|dh (i:=3) rfl ?jf) (mV (i:=4) nd rfl ?jy)<|mU<|qB<|Fk PQ PySem.F.slot_list_append PySem.F.type_list_append uV (Bt (BM ?O) (dh (i:=1) rfl ?jf) (Bt X4 (dh (i:=4) rfl ?jf) Fi λ_ _=>rfl) λ_ _=>rfl)<|dO (dh (i:=2) rfl ?jf) iQ)
  fP)<|mU<|zK<|dh (i:=1) rfl ?jf)
def uw(W7:D)(V9:Re ?N)(RI:Re D)(TL:D):M D :=
 .ret<|PyData.dict V9
def lT(kn3:D×Re ?N×Re D×D×Unit->M D)(W7:D)(V9:Re ?N)(RI:Re D)(TL Ze:D):M D :=
 bd (oM<|lX TL<|.int 1) λx9=>kn3 (W7,V9,RI,x9,())
def iZ(kn3:D×Re ?N×Re D×D×Unit->M D)(W7:D)(V9:Re ?N)(RI:Re D)(TL Ze d_:D)(SE:D×Re ?N×Re D×D×D×Unit->M D):M D :=
 bd (oM<|bB d_<|PyData.dict V9) λXc=>if Xc then
  bd (bd (oM<|aF (PyData.dict V9) Ze) λSV=>oM<|bD SV<|.int 1) λTR=>bd (oM<|hV true V9 d_ TR) λXY=>bd (oM<|mn RI [d_]) λl15=>SE (W7,XY,l15,TL,Ze,())
  else
  SE (W7,V9,RI,TL,Ze,())
def dA(W7:D)(V9:Re ?N)(RI:Re D)(TL:D)(kn3:D×Re ?N×Re D×D×Unit->M D):M D :=
 bd (bd (oM<|dE [?qk]) λx4=>oM<|dU TL x4) λb5=>if b5 then
  bd (oM<|aF ?qk TL) λx6=>bd (bd (oM<|aF W7 x6) λx7=>oM<|cH x7) λl8=>cO (λU5 Ym kn=>iZ kn3 U5.1 U5.2.1 U5.2.2.1 U5.2.2.2.1 U5.2.2.2.2.1 Ym kn) l8 (W7,V9,RI,TL,x6,()) λU5=>lT kn3 U5.1 U5.2.1 U5.2.2.1 U5.2.2.2.1 U5.2.2.2.2.1
  else uw W7 V9 RI TL
def fR(W7 W8:D)(V9:Re ?N):M D :=
 bd (oM<|pT [W8]) λl2=>jX (λYY kn=>dA YY.1 YY.2.1 YY.2.2.1 YY.2.2.2.1 kn) 10000 (W7,V9,l2,(.int 0),())
def i3(W7 W8:D)(V9:Re ?N)(d_:D)(zbo:D×D×Re ?N×Unit->M D):M D :=
 bd (oM<|hV true V9 d_<|.int 0) λl20=>zbo (W7,W8,l20,())
def eI(gbM gbg:D):M D :=
 bd (oM<|cH gbg) λl1=>cO (λR_ d22 kn=>i3 R_.1 R_.2.1 R_.2.2.1 d22 kn) l1 (gbM,gbg,[],()) λR_=>fR R_.1 R_.2.1 R_.2.2.1
def yA:=Rw eI
theorem j9(B:BN K mg):CF P w K mg base "far_from" 1 (J_ K 2 yA) :=
 RL ["backs","goals","far","goal","found","place","here","crowd"] B.Wj λhr nd =>
  (af (aG (sh:=[.f,.f,.t,.z,.z,.z,.z,.z])<|qM true (i:=2) nd rfl ?jy rfl<|.inl rfl)
  <|af (br (sh:=[.f,.f,.t,.z,.z,.z,.z,.z]) PassesOwn.leaving rfl (bI<|bZ<|av 1) (aA (i:=3) ?X nd)
  <|au<|iM ?O (i:=2) rfl ?jf (aq ?jx) ?qG rfl)
  <|af (aG (sh:=[.f,.z,.t,.z,.o,.z,.z,.z])<|cU (i:=4) nd<|cK<|pA jH v4 B.i ?E<|aE ?qH aI)
  <|af (aG (sh:=[.f,.z,.t,.z,.o,.f,.z,.z])<|aM (i:=5) nd ?qG)
  <|af (gP (sh:=[.f,.z,.t,.z,.o,.f,.z,.z]) (fuel:=10000) PassesOwn.leaving (aW<|aJ (iT ?O) iV (g_ 5)<|ao<|aS bJ cX B.i eh<|aE (aY (i:=4)) aI)
  <|af (aG (sh:=[.f,.z,.t,.z,.o,.f,.f,.z])<|aM (i:=6) nd<|aq<|n_ hr (aY (i:=4))<|g_ 5)
  <|af (br (sh:=[.f,.z,.t,.z,.o,.f,.f,.z]) PassesOwn.leaving rfl (bI<|bZ<|n_ hr (g_ 0)<|g_ 6) (aA (i:=7) ?X nd)
  <|au<|bF (aW<|aJ (bU ?O) cg ?qW<|aY (i:=2))
  (af (aG (sh:=[.f,.z,.t,.z,.o,.f,.f,.f])<|iM ?O (i:=2) rfl ?jf (aq<|av 7) (aq<|aT bq bH (ao<|n_ hr (aY (i:=2))<|g_ 6) ?P) rfl)
  <|au<|gy (i:=4) rfl ?jf (aH (aq<|av 7) aV) rfl rfl rfl rfl rfl rfl)
  aR)
  <|au<|GU (i:=5) nd rfl ?jy wM qF ?qG<|.inl rfl)
  <|au<|fN (i:=2)<|aK ?qe)
abbrev Ss:Re Str:=["some","counts","sort"]
theorem qe:Ss.Nodup:=by decide +kernel
def fL(gbQ Vk:D):M D :=
 bd (bd (bd (bd (oM<|cH gbQ) λl3=>bd (aZ (λd1=>bd (oM<|aF Vk d1) λx2=>.ret<|some x2) l3) cq) λl4=>.ret<|PyData.list l4) λx5=>oM<|fA [x5]) λx6=>.ret x6
def yz:=Rw fL
theorem pK(B:BN K mg):CF P w K mg base "hands_of" 1 (J_ K 2 yz) :=
 RL ["some","counts"] B.Wi λhr nd =>
  (au<|aK<|aq<|aS (dQ rfl) gG B.i ?E<|aE (ao<|dY<|cG (N':=Ss) (k:=1) rfl ?H (bZ ?qi) (λ_ _ _ _ _=>(aA (i:=2) (show 2<=2 by decide) qe)) ?ji λ_ _ _ _ _=>(n_ hr ?qH ?jL)) aI)
def pc(self:D->D->M D)(Vl Vk:D):M D :=
 bd (oM<|aF Vl<|.int 0) λx1=>bd (oM<|bx x1<|.str "not") λb2=>if b2 then
  bd (bd (bd (bd (bd (oM<|aF Vl<|.int 1) λx3=>self x3 Vk) λx4=>oM<|fF x4) λb5=>.ret<|!b5) λb6=>.ret<|.bool b6) λx7=>.ret x7
  else
  bd (oM<|bx x1<|.str "both") λb8=>if b8 then
  bd (bd (bd (bd (bd (oM<|aF Vl<|.int 1) λx9=>self x9 Vk) λRU=>asB RU) λb13=>if b13 then bd (bd (oM<|aF Vl<|.int 2) λQ8=>self Q8 Vk) λSV=>asB SV else .ret false) λb14=>.ret<|.bool b14) λTj=>.ret Tj
  else
  bd (oM<|bx x1<|.str "either") λUK=>if UK then
  bd (bd (bd (bd (bd (oM<|aF Vl<|.int 1) λT9=>self T9 Vk) λYG=>asB YG) λb21=>if b21 then .ret true else bd (bd (oM<|aF Vl<|.int 2) λR5=>self R5 Vk) λTQ=>asB TQ) λb22=>.ret<|.bool b22) λT8=>.ret T8
  else
  bd (bd (oM<|aF Vl<|.int 1) λXj=>fL Xj Vk) λUZ=>bd (oM<|bx x1<|.str "least") λZv=>if Zv then
  bd (bd (bd (oM<|aF Vl<|.int 2) λXi=>oM<|v0 UZ Xi) λb28=>.ret<|.bool b28) λx29=>.ret x29
  else
  bd (oM<|bx x1<|.str "more") λb30=>if b30 then
  bd (bd (bd (bd (oM<|aF Vl<|.int 2) λx31=>fL x31 Vk) λx32=>oM<|dX UZ x32) λb33=>.ret<|.bool b33) λx34=>.ret x34
  else
  bd (bd (bd (bd (oM<|aF Vl<|.int 2) λZW=>oM<|iw UZ ZW) λx36=>bd (oM<|aF Vl<|.int 3) λx37=>oM<|bx x36 x37) λb38=>.ret<|.bool b38) λx39=>.ret x39
def nU:Nat->D->D->M D
 | 0=>λ_ _=>.bad
 | i+1=>pc<|nU i
def FI(i:Nat):Re D->M D:=λl=>match l with
 | [Vl,Vk]=>nU i Vl Vk
 | _=>.bad
theorem Fu(B:BN K mg):∀i:Nat,CF P w K mg base "holds" (2+i)<|J_ K 2<|FI i :=
 IX ["question","counts","word","many"] B.Zn λRE=>λhr nd =>
  (af (aG (sh:=[.f,.f,.f,.z])<|aM (i:=2) nd<|aq ?J)
  <|af (bF (aW<|aJ ?jI bv ?jL<|ao bM)
  (au<|aK<|aq<|fO<|xE<|ao ?jz)
  aR)
  <|af (bF (aW<|aJ ?jI bv ?jL<|ao bM)
  (au<|aK<|aq<|fO<|kP (Cy ?jz)<|kO<|Cy ?jz)
  aR)
  <|af (bF (aW<|aJ ?jI bv ?jL<|ao bM)
  (au<|aK<|aq<|fO<|Oj (Cy ?jz)<|kO<|Cy ?jz)
  aR)
  <|af (aG (sh:=[.f,.f,.f,.f])<|aM (i:=3) nd<|aq<|bh (pK B) ?qq<|aa ?J ?je)
  <|af (bF (aW<|aJ ?jI bv ?jL<|ao bM)
  (au<|aK<|aq<|fO<|cA uR uT ?qh<|ao ?J)
  aR)
  <|af (bF (aW<|aJ ?jI bv ?jL<|ao bM)
  (au<|aK<|aq<|fO<|cA fU fV ?qh<|ao<|bh (pK B) ?qq<|aa ?J ?je)
  aR)
  <|au<|aK<|aq<|fO<|cA ?jI bv (ao<|aT iS iU ?qh<|ao ?J)<|ao ?J)
abbrev RM:Re Str:=["rule","leads","truth","word","crowd"]
theorem oH:RM.Nodup:=by decide +kernel
def f6(TK Yu gbn:D):M D :=
 bd (bd (oM<|fF gbn) λb1=>if b1 then .ret (.str "yes")else .ret (.str "no")) λx2=>bd (bd (bd (oM<|vO Yu) λl6=>bd (aZ (λd3=>bd (bd (o9 TK d3) λx4=>oM<|cW x4 x2) λb5=>if b5 then .ret (some d3)else .ret none) l6) cq) λl7=>.ret<|PyData.list l7) λx8=>.ret x8
def wm:=U8 f6
theorem m9(B:BN K mg):CF P w K mg base "astray_in" 2 (J_ K 3 wm) :=
 RL ["rule","leads","truth","word"] B.Vo λhr nd =>
  (af (aG (sh:=[.f,.f,.z,.f])<|aM (i:=3) nd<|aq<|vy (fk ?jL ?R) bM bM)
  <|au<|aK<|aq<|dY<|cG (N':=RM) (k:=1) rfl ?H (jK<|av 1) (λ_ _ _ _ _=>(aA (i:=4) (show 4<=4 by decide) oH)) (λ_ _ _ _ _=>(dq<|aJ (dW ?O) bv (ao<|bh (H9 B) hr.m<|aa ?qi ?qa) ?qh)) λ_ _ _ _ _=>(av 4))
abbrev RB:Re Str:=["rule","leads","truth","backs","unsettled","hopeful","crowd"]
theorem kb:RB.Nodup:=by decide +kernel
def lw(TK Yu gbn:D):M D :=
 bd (fM Yu) λx1=>bd (bd (f6 TK Yu gbn) λx2=>eI x1 x2) λx3=>bd (bd (bd (bd (oM<|vO Yu) λl6=>bd (aZ (λd4=>bd (oM<|bB d4 x3) λb5=>if b5 then .ret (some d4)else .ret none) l6) cq) λl7=>.ret<|PyData.list l7) λx8=>eI x1 x8) λx9=>bd (bd (bd (oM<|vO Yu) λTX=>bd (aZ (λd10=>bd (oM<|bB d10 x9) λXc=>if Xc then .ret (some d10)else .ret none) TX) cq) λWY=>.ret<|PyData.list WY) λTn=>.ret Tn
def zS:=U8 lw
theorem zR(B:BN K mg):CF P w K mg base "lost_in" 3 (J_ K 3 zS) :=
 RL ["rule","leads","truth","backs","unsettled","hopeful"] B.W9 λhr nd =>
  (af (aG (sh:=[.f,.f,.f,.f,.z,.z])<|aM (i:=3) nd<|aq<|bh (pL B) hr.m ?je)
  <|af (aG (sh:=[.z,.f,.z,.f,.f,.z])<|aM (i:=4) nd<|aq<|bh (j9 B) hr.m<|aa ?jx<|aa (bh (m9 B) hr.m<|aa ?qi<|aa (av 1) ?jO) az)
  <|af (aG (sh:=[.z,.f,.z,.z,.z,.f])<|aM (i:=5) nd<|aq<|bh (j9 B) hr.m<|aa ?jx<|aa (dY<|cG (N':=RB) (k:=1) rfl ?H (jK<|av 1) (λ_ _ _ _ _=>(aA (i:=6) (show 6<=6 by decide) kb)) (λ_ _ _ _ _=>(dq<|aJ (bU ?O) cg (g_ 6) ?qu)) λ_ _ _ _ _=>(av 6)) az)
  <|au<|aK<|aq<|dY<|cG (N':=RB) (k:=1) rfl ?H (jK<|av 1) (λ_ _ _ _ _=>(aA (i:=6) (show 6<=6 by decide) kb)) (λ_ _ _ _ _=>(dq<|aJ (bU ?O) cg (g_ 6)<|g_ 5)) λ_ _ _ _ _=>(av 6))
abbrev TC:Re Str:=["rule","question","counts","limit","crowd","leads","truth","lost","numbers","far","ranks","lead"]
theorem t9:TC.Nodup:=by decide +kernel
abbrev TB:Re Str:=["rule","question","counts","limit","crowd","leads","truth","lost","numbers","far","ranks","here"]
theorem t7:TB.Nodup:=by decide +kernel
def dH(TK Vl:D)(Vk ga7:D):M D :=
 bd (qI TK Vk) λx1=>bd (dR TK x1 ga7) λx2=>bd (nU 8 Vl Vk) λx3=>bd (lw TK x2 x3) λx4=>bd (bd (oM<|dE [x4]) λx5=>oM<|bx x5<|.int 0) λb6=>if b6 then
  .ret .none
  else
  bd (bd (bd (bd (bd (bd (XI<|oM<|aF x4<|.int 0) λx7=>jj x7<|.ret<|.dict [(x7,(.bool true))]) λx8=>nR x2 x1 x8) λx9=>oM<|cH x9) λTX=>bd (aZ (λd10=>bd (oM<|aF d10<|.int 0) λQ8=>.ret<|some Q8) TX) cq) λWY=>.ret<|PyData.list WY) λTn=>bd (bd (fM x2) λTj=>bd (f6 TK x2 x3) λU1=>eI Tj U1) λT9=>bd (bd (bd (bd (bd (oM<|pS [x4]) λV4=>.ret<|PyData.list V4) λR5=>oM<|cH R5) λl23=>bd (aZ (λd20=>bd (bd (oM<|aF T9 d20) λVR=>.ret<|.tuple [d20,VR]) λU0=>.ret<|some U0) l23) cq) λl24=>.ret<|PyData.list l24) λUZ=>bd (bd (oM<|cu [Tn]) λx26=>bd (oM<|cu [UZ]) λXi=>.ret<|.tuple [Vk,x26,Xi]) λWO=>.ret WO
def uX:=Y5 dH
theorem kX(B:BN K mg):CF P w K mg base "err_at" 11 (J_ K 4 uX)/\CFd P w K mg base "err_at" 11 (J_ K 4 uX) 1000 :=
 N9 ["rule","question","counts","limit","crowd","leads","truth","lost","numbers","far","ranks"] B.Yj λhr nd =>
  (af (aG (sh:=[.f,.f,.f,.f,.f,.z,.z,.z,.z,.z,.z])<|aM (i:=4) nd<|aq<|bh (Fv B) hr.m<|aa ?qi ?jO)
  <|af (aG (sh:=[.f,.f,.f,.z,.f,.f,.z,.z,.z,.z,.z])<|aM (i:=5) nd<|aq<|bh (t4 B) hr.m<|aa ?qi<|aa (av 4)<|aa ?jx az)
  <|af (aG (sh:=[.f,.z,.f,.z,.f,.f,.f,.z,.z,.z,.z])<|aM (i:=6) nd<|aq<|bh (Fu B 8) hr.m<|aa (av 1) ?jO)
  <|af (aG (sh:=[.f,.z,.f,.z,.f,.f,.f,.f,.z,.z,.z])<|aM (i:=7) nd<|aq<|bh (zR B) hr.m<|aa ?qi<|aa (av 5)<|aa (av 6) az)
  <|af (bF (aW<|aJ ?jI bv (ao<|aS bJ cX B.i eh<|aE ?qW aI) ?P)
  (au<|aK<|aq fm)
  aR)
  <|af (aG (sh:=[.f,.z,.f,.z,.z,.f,.f,.f,.f,.z,.z])<|cE (i:=8) nd rfl ?jy (.inl rfl) (N':=TC) (k:=1) rfl ?H (bZ<|bh (C4 B) hr.m<|aa (av 5)<|aa (av 4)<|aa (Jh ?O (n_ hr ?qW ?P) dM) az) (λ_ _ _ _ _=>(aA (i:=11) (show 11<=11 by decide) t9)) ?ji (λ_ _ _ _ _=>(n_ hr (g_ 11) ?P)) rfl ?R)
  <|af (aG (sh:=[.z,.z,.f,.z,.z,.z,.z,.f,.f,.f,.z])<|aM (i:=9) nd<|aq<|bh (j9 B) hr.m<|aa (bh (pL B) hr.m<|aa (av 5) az)<|aa (bh (m9 B) hr.m<|aa ?qi<|aa (av 5)<|aa (av 6) az) az)
  <|af (aG (sh:=[.z,.z,.f,.z,.z,.z,.z,.z,.f,.z,.f])<|cE (i:=10) nd rfl ?jy (.inl rfl) (N':=TB) (k:=1) rfl ?H (bZ<|dY<|tR o8 v3 B.i ?E<|aE ?qW aI) (λ_ _ _ _ _=>(aA (i:=11) (show 11<=11 by decide) t7)) ?ji (λ_ _ _ _ _=>(bC<|aa (av 11)<|aa (n_ hr (g_ 9)<|g_ 11) az)) rfl ?R)
  <|au<|aK<|aq<|bC<|aa (av 2)<|aa (bG bf cf B.i ?E<|aE (g_ 8) aI)<|aa (bG bf cf B.i ?E<|aE (g_ 10) aI) az)
abbrev RC:Re Str:=["sorts","hands","told","many","others"]
theorem nz:RC.Nodup:=by decide +kernel
def qp(self:D->D->M D)(gbN gbO:D)(gbR:Re D):M D :=
 .ret<|PyData.list gbR
def jS(self:D->D->M D)(gbN gbO:D)(gbR:Re D)(d_:D)(kn4:D×D×Re D×Unit->M D):M D :=
 bd (bd (bd (bd (oM<|gT gbN<|.int 1) λx5=>bd (oM<|gT gbO d_) λx6=>self x5 x6) λx7=>oM<|cH x7) λY6=>bd (aZ (λd8=>bd (oM<|bD (.tuple [d_]) d8) λx9=>.ret<|some x9) Y6) cq) λUN=>bd (oM<|zX gbR UN) λTX=>kn4 (gbN,gbO,TX,())
def kF(self:D->D->M D)(gbJ gbC:D):M D :=
 bd (oM<|bx gbJ<|.int 1) λb1=>if b1 then
  .ret (PyData.list [(.tuple [gbC])])
  else
  bd (bd (oM<|bD gbC<|.int 1) λx2=>oM<|bw [x2]) λl3=>cO (λH_ T5 kn=>jS self H_.1 H_.2.1 H_.2.2.1 T5 kn) l3 (gbJ,gbC,[],()) λH_=>qp self H_.1 H_.2.1 H_.2.2.1
def eX:Nat->D->D->M D
 | 0=>λ_ _=>.bad
 | i+1=>kF<|eX i
def ud(i:Nat):Re D->M D:=λl=>match l with
 | [gbJ,gbC]=>eX i gbJ gbC
 | _=>.bad
theorem t6(B:BN K mg):∀i:Nat,CF P w K mg base "beginnings" (1+i)<|J_ K 2<|ud i :=
 IX ["sorts","hands","told","many"] B.UC λRE=>λhr nd =>
  (af (bF (aW<|aJ ?jI bv (g_ 0) ?P)
  (au<|aK<|aq<|dY<|bX<|aa (bC ?je) az)
  aR)
  <|af (aG (sh:=[.f,.f,.o,.z])<|cU (i:=2) nd ?qQ)
  <|af (br (sh:=[.f,.f,.o,.z]) PassesOwn.leaving rfl (bI<|bE rfl B.i (aa (aT bq bH ?qH ?P) az) rfl) (aA (i:=3) ?X nd)
  <|au<|qL (i:=2) rfl ?jf (cK<|cG (N':=RC) (k:=1) rfl ?H (bZ<|bh RE ?qq<|aa (aT oB oD (g_ 0) ?P)<|aa (aT oB oD ?qH ?qh) az) (λ_ _ _ _ _=>(aA (i:=4) (show 4<=4 by decide) nz)) ?ji λ_ _ _ _ _=>(aT bq bH (ao<|bC<|aa ?jx az) ?qu)) rfl rfl rfl rfl rfl rfl)
  <|au<|fN (i:=2)<|aK ?qe)
def kC(UT ga3 Vn:D):M D :=
 .ret .none
def kB(kn3:D×D×D×Unit->M D)(UT ga3 Vn:D):M D :=
 kn3 (UT,ga3,Vn,())
def iC(kn3:D×D×D×Unit->M D)(UT ga3:D)(Vn d_:D)(kn8:D×D×D×Unit->M D):M D :=
 bd (dH UT ga3 d_ Vn) λx9=>bd (oM<|gU x9 .none) λTz=>if Tz then
  .ret x9
  else
  kn8 (UT,ga3,Vn,())
def fZ(UT ga3:D)(Vn d_:D)(kn3:D×D×D×Unit->M D):M D :=
 bd (bd (bd (bd (oM<|aF UT<|.int 1) λx4=>oM<|dE [x4]) λx5=>eX 8 x5 d_) λx6=>oM<|cH x6) λl7=>cO (λTr d12 kn=>iC kn3 Tr.1 Tr.2.1 Tr.2.2.1 d12 kn) l7 (UT,ga3,Vn,()) λTr=>kB kn3 Tr.1 Tr.2.1 Tr.2.2.1
def hW(TK Vl:D)(gbS ga7:D):M D :=
 bd (bd (oM<|bD gbS<|.int 1) λx1=>oM<|eA [(.int 1),x1]) λl2=>cO (λH_ T5 kn=>fZ H_.1 H_.2.1 H_.2.2.1 T5 kn) l2 (TK,Vl,ga7,()) λH_=>kC H_.1 H_.2.1 H_.2.2.1
def uW:=Y5 hW
theorem oE(B:BN K mg):CF P w K mg base "err_of" 12 (J_ K 4 uW)/\CFd P w K mg base "err_of" 12 (J_ K 4 uW) 1000 :=
 N9 ["rule","question","most","limit","hands","counts","paper"] B.Yi λhr nd =>
  (af (br (sh:=[.f,.f,.z,.f,.z,.z,.z]) PassesOwn.leaving rfl (bI<|js rfl B.i (aa ak<|aa (aT bq bH ?jL ?P) az) rfl rfl) (aA (i:=4) ?X nd)
  <|au<|br (sh:=[.f,.f,.z,.f,.z,.z,.z]) PassesOwn.leaving rfl (bI<|bZ<|bh (t6 B 8) hr.m<|aa (aS bJ cX B.i eh<|aE (ao ?J) aI) ?qa) (aA (i:=5) ?X nd)
  <|af (aG (sh:=[.f,.f,.z,.f,.z,.z,.f])<|aM (i:=6) nd<|aq<|bh (kX B).1 hr.m<|aa ?qi<|aa (av 1)<|aa (av 5)<|aa ?jx az)
  <|au<|bF (aW<|aJ rM bv (g_ 6)<|ao fm)
  (au<|aK<|aq<|av 6)
  aR)
  <|au<|aK<|aq fm)
def e8(gbw:D):M ?Q :=
 bd (bd (bd (oM<|Cb [(.int 0),gbw]) λTn=>bd (bd (bd (bd (oM<|BA (.int 10)<|.int 18) λQ8=>oM<|v0 gbw Q8) λb12=>.ret<|.bool b12) λTR=>oM<|mE [TR]) λTj=>oM<|eS Tn Tj) λU1=>.ret [gbw,U1,(.int 0)]) λXX=>.ret XX
def iF(Zk gbv:D):M ?Q :=
 bd (oM<|eS (.int 31) gbv) λx1=>bd (bd (oM<|dE [Zk]) λx2=>oM<|dX x2<|.int 0) λb3=>if b3 then
  bd (bd (bd (bd (oM<|dE [Zk]) λx4=>oM<|iw gbv x4) λx5=>oM<|aF Zk x5) λx8=>bd (bd (bd (oM<|dE [Zk]) λx6=>oM<|rO gbv x6) λx7=>oM<|eS (.int 7919) x7) λx9=>oM<|bD x8 x9) λRU=>e8 RU
  else
  e8 x1
def wA:Re D->M ?Q:=λl=>match l with
 | [Zk,gbv]=>iF Zk gbv
 | _=>.bad
theorem wb(B:BN K mg):CF P w K mg base "_law_feed" 1 (spL K 2 wA) :=
 cfL ["_law_script","_law_at","_law_cell"] B.Vv λhr nd =>
  (af (aG (sh:=[.f,.f,.f])<|aM (i:=2) nd<|aq<|aT jw jx ?P ?qH)
  <|af (aG (sh:=[.z,.z,.f])<|bF (aW<|aJ fU fV (ao<|aS bJ cX B.i eh<|aE (g_ 0) aI) ?P)
  (au<|aM (i:=2) nd<|aq<|aT bq bH (ao<|n_ hr (g_ 0)<|ao<|aT iS iU ?qH<|ao<|aS bJ cX B.i eh<|aE (g_ 0) aI)<|ao<|aT jw jx ?P<|ao<|aT qC v5 ?qH<|ao<|aS bJ cX B.i eh<|aE (g_ 0) aI)
  aR)
  <|au<|Je<|cK<|bX<|aa (av 2)<|aa (aT jw jx (ao<|aS (DX rfl) Ie B.i ?E<|aE ?P<|aE ?jL aI)<|ao<|bG eP j8 B.i ?E<|aE (ao<|fO<|cA uR uT ?jL<|ao<|aT Lf Lm ?P ?P) aI) ?qC)
def aB(Uj:Re D)(gaT:D):M ?V :=
 bd (oM<|aF (PyData.list Uj)<|.int 2) λx1=>bd (oM<|bD x1<|.int 1) λx2=>bd (oM<|putD Uj (.int 2) x2) λl3=>bd (oM<|aF (PyData.list l3)<|.int 1) λx4=>bd (oM<|dX x4<|.int 0) λb5=>if b5 then
  bd (oM<|rO x4 gaT) λx6=>bd (oM<|putD l3 (.int 1) x6) λl7=>bd (oM<|iw x4 gaT) λx8=>.ret (x8,l7)
  else
  bd (bd (bd (bd (oM<|aF (PyData.list l3)<|.int 0) λx9=>oM<|iw x9<|.int 2147483647) λQ8=>bd (bd (oM<|eS (.int 31) x1) λRU=>oM<|eS RU x1) λSV=>oM<|bD Q8 SV) λTR=>oM<|bD TR<|.int 1) λTn=>bd (bd (bd (bd (oM<|eS (.int 40) x1) λTj=>oM<|bD (.int 48271) Tj) λU1=>oM<|eS Tn U1) λT9=>oM<|iw T9<|.int 2147483629) λYG=>bd (bd (bd (bd (bd (bd (oM<|rO YG<|.int 11) λR5=>oM<|eS R5<|.int 69621) λTQ=>oM<|bD TQ x1) λVR=>oM<|iw VR<|.int 998244353) λU0=>oM<|rO U0<|.int 7) λT8=>oM<|iw T8 gaT) λXj=>.ret (Xj,l3)
def wB:Re D->Re D->M ?V:=λUj l=>match l with
 | [gaT]=>aB Uj gaT
 | _=>.bad
theorem bc(B:BN K mg):CF P w K mg base "_law_draw" 1 (Xy K 2 wB) :=
 cf1 ["_law_feed_here","_law_many","_law_turn","_law_left","_law_here","_law_mixed"] B.Vw λhr nd =>
  (af (aG (sh:=[.p,.f,.f,.z,.z,.z])<|aM (i:=2) nd<|aq<|n_ hr (aY (i:=0)) ?P)
  <|af (aG (sh:=[.p,.f,.f,.z,.z,.z])<|px (i:=0) rfl ?jf ?qG (aq<|aT bq bH ?jL ?P) ?R rfl rfl rfl)
  <|af (aG (sh:=[.p,.f,.f,.f,.z,.z])<|aM (i:=3) nd<|aq<|n_ hr (aY (i:=0)) ?P)
  <|af (bF (aW<|aJ fU fV ?qh ?P)
  (af (aG (sh:=[.p,.f,.z,.f,.z,.z])<|px (i:=0) rfl ?jf ?qG (aq<|aT qC v5 ?qh ?qH) ?R rfl rfl rfl)
  <|au<|aK<|aq<|aT iS iU ?qh ?qH)
  aR)
  <|af (aG (sh:=[.p,.f,.f,.z,.f,.z])<|aM (i:=4) nd<|aq<|aT bq bH (ao<|aT bq bH (ao<|aT iS iU (ao<|n_ hr (aY (i:=0)) ?P) ?P)<|ao<|aT jw jx (ao<|aT jw jx ?P ?jL) ?jL) ?P)
  <|af (aG (sh:=[.p,.f,.f,.z,.z,.f])<|aM (i:=5) nd<|aq<|aT iS iU (ao<|aT jw jx ?qu<|ao<|aT bq bH ?P<|ao<|aT jw jx ?P ?jL) ?P)
  <|au<|aK<|aq<|aT iS iU (ao<|aT qC v5 (ao<|aT iS iU (ao<|aT bq bH (ao<|aT jw jx (ao<|aT qC v5 (g_ 5) ?P) ?P) ?jL) ?P) ?P) ?qH)
abbrev RP:Re Str:=["_law_feed_here","_law_most","_law_rooms","_law_sorts","_law_starts","_law_says","_law_often","_law_meets","_law_a","_law_b","_law_c","_law_d","_law_sort"]
theorem oK:RP.Nodup:=by decide +kernel
abbrev RO:Re Str:=["_law_feed_here","_law_most","_law_rooms","_law_sorts","_law_starts","_law_says","_law_often","_law_meets","_law_a","_law_b","_law_c","_law_d","_law_room"]
theorem oJ:RO.Nodup:=by decide +kernel
def tF(Uy:Re D)(Xr SG:D)(Zi Zj:D)(SF:Re D):M ?V :=
 bd (bd (oM<|cu [(PyData.list SF)]) λT8=>.ret<|.tuple [Xr,SG,T8,Zi]) λXj=>.ret (Xj,Uy)
def tE(X2:Re D×D×D×D×D×Re D×Unit->M ?V)(Uy:Re D)(Xr SG:D)(Zi Zj:D)(SF:Re D)(Sz:D):M ?V :=
 X2 (Uy,Xr,SG,Zi,Zj,SF,())
def kG(X2:Re D×D×D×D×D×Re D×Unit->M ?V)(Uy:Re D)(Xr SG:D)(Zi Zj:D)(SF:Re D)(Sz d_:D)(zaj:Re D×D×D×D×D×Re D×D×Unit->M ?V):M ?V :=
 bd (aB Uy Xr) λr28=>bd (aB r28.2 Xr) λYZ=>bd (aB YZ.2 Zj) λXl=>bd (oM<|bx Xl.1<|.int 0) λb31=>if b31 then bd (bd (bd (oM<|pS [(PyData.list [r28.1,YZ.1])]) λl32=>.ret<|PyData.list l32) λx33=>oM<|cW x33<|PyData.list [Sz,d_]) λb34=>if b34 then
  bd (oM<|mn SF [(.tuple [Sz,d_,r28.1,YZ.1])]) λl35=>zaj (Xl.2,Xr,SG,Zi,Zj,l35,Sz,())
  else
  zaj (Xl.2,Xr,SG,Zi,Zj,SF,Sz,())else zaj (Xl.2,Xr,SG,Zi,Zj,SF,Sz,())
def hZ(Uy:Re D)(Xr SG:D)(Zi Zj:D)(SF:Re D)(d_:D)(X2:Re D×D×D×D×D×Re D×Unit->M ?V):M ?V :=
 bd (oM<|eA [d_,Xr]) λl26=>cO (λVU d37 kn=>kG X2 VU.1 VU.2.1 VU.2.2.1 VU.2.2.2.1 VU.2.2.2.2.1 VU.2.2.2.2.2.1 VU.2.2.2.2.2.2.1 d37 kn) l26 (Uy,Xr,SG,Zi,Zj,SF,d_,()) λVU=>tE X2 VU.1 VU.2.1 VU.2.2.1 VU.2.2.2.1 VU.2.2.2.2.1 VU.2.2.2.2.2.1 VU.2.2.2.2.2.2.1
def f7(Uj:Re D)(Wa:D):M ?V :=
 bd (aB Uj Wa) λr1=>bd (oM<|bD (.int 1) r1.1) λx2=>bd (aB r1.2<|.int 5) λr3=>bd (oM<|aF (PyData.list [(.int 1),(.int 2),(.int 2),(.int 3),(.int 4)]) r3.1) λx4=>bd (oM<|bw [x4]) λl5=>bd (eW (λs6 d7=>bd (aB s6.1 s6.2.1) λr8=>.ret (some r8.1,(r8.2,s6.2.1,s6.2.2.1,()))) l5 (r3.2,x2,x4,())) λr9=>bd (cq r9.1) λY6=>bd (oM<|cu [(PyData.list Y6)]) λQ8=>bd (oM<|bw [r9.2.2.1]) λTX=>bd (eW (λH_ T5=>bd (aB H_.1<|.int 2) λZ9=>bd (oM<|bx Z9.1<|.int 1) λUK=>.ret (some (.bool UK),(Z9.2,H_.2.1,H_.2.2.1,()))) TX (r9.2.1,r9.2.2.1,Q8,())) λZ8=>bd (cq Z8.1) λV4=>bd (oM<|cu [(PyData.list V4)]) λR5=>bd (aB Z8.2.1<|.int 3) λZG=>bd (oM<|bD (.int 1) ZG.1) λVR=>bd (oM<|bw [Z8.2.2.1]) λXT=>cO (λWR d39 kn=>hZ WR.1 WR.2.1 WR.2.2.1 WR.2.2.2.1 WR.2.2.2.2.1 WR.2.2.2.2.2.1 d39 kn) XT (ZG.2,Z8.2.2.1,Z8.2.2.2.1,R5,VR,[],()) λWR=>tF WR.1 WR.2.1 WR.2.2.1 WR.2.2.2.1 WR.2.2.2.2.1 WR.2.2.2.2.2.1
def wv:Re D->Re D->M ?V:=λUj l=>match l with
 | [Wa]=>f7 Uj Wa
 | _=>.bad
theorem v6(B:BN K mg):CF P w K mg base "_law_rule" 2 (Xy K 2 wv) :=
 cf1 ["_law_feed_here","_law_most","_law_rooms","_law_sorts","_law_starts","_law_says","_law_often","_law_meets","_law_a","_law_b","_law_c","_law_d"] B.Vq λhr nd =>
  (af (aG (sh:=[.p,.z,.f,.z,.z,.z,.z,.z,.z,.z,.z,.z])<|aM (i:=2) nd<|mL bq bH ?qG<|cw (i:=0) (bc B) hr.m<|aH (aq<|av 1) aV)
  <|af (aG (sh:=[.p,.z,.f,.f,.z,.z,.z,.z,.z,.z,.z,.z])<|aM (i:=3) nd<|Og (aD ?O) aC (aq<|dY<|bX<|aa ak<|aa ak<|aa ak<|aa ak ?qC)<|cw (i:=0) (bc B) hr.m ?js)
  <|af (aG (sh:=[.p,.z,.f,.z,.f,.z,.z,.z,.z,.z,.z,.z])<|aM (i:=4) nd<|ly bf cf B.i ?E<|aH (Jn<|tS (sh:=[.p,.z,.f,.f,.z,.z,.z,.z,.z,.z,.z,.z]) (N':=RP) (k:=1) rfl ?H (bI<|bE rfl B.i (aa ?jx az) rfl) (λ_ _ _ _ _=>(aA (i:=12) (show 12<=12 by decide) oK)) (λ_ _ _ _ _=>(Cv cF)) λ_ _ _ _ _=>(cw (i:=0) (bc B) hr.m<|aH ?qe aV)) aV)
  <|af (aG (sh:=[.p,.z,.f,.z,.f,.f,.z,.z,.z,.z,.z,.z])<|aM (i:=5) nd<|ly bf cf B.i ?E<|aH (Jn<|tS (sh:=[.p,.z,.f,.z,.f,.z,.z,.z,.z,.z,.z,.z]) (N':=RO) (k:=1) rfl ?H (bI<|bE rfl B.i ?jO rfl) (λ_ _ _ _ _=>(aA (i:=12) (show 12<=12 by decide) oJ)) (λ_ _ _ _ _=>(Cv cF)) λ_ _ _ _ _=>(Pp<|Jm ?jI bv (cw (i:=0) (bc B) hr.m ?js) ?qG rfl)) aV)
  <|af (aG (sh:=[.p,.z,.f,.z,.f,.f,.f,.z,.z,.z,.z,.z])<|aM (i:=6) nd<|mL bq bH ?qG<|cw (i:=0) (bc B) hr.m ?js)
  <|af (aG (sh:=[.p,.z,.f,.z,.f,.f,.f,.o,.z,.z,.z,.z])<|cU (i:=7) nd ?qQ)
  <|af (br (sh:=[.p,.z,.f,.z,.f,.f,.f,.o,.z,.z,.z,.z]) PassesOwn.leaving rfl (bI<|bE rfl B.i ?jO rfl) (aA (i:=8) ?X nd)
  <|au<|br (sh:=[.p,.z,.f,.z,.f,.f,.f,.o,.f,.z,.z,.z]) PassesOwn.leaving rfl (bI<|js rfl B.i (aa (av 8) ?jO) rfl rfl) (aA (i:=9) ?X nd)
  <|af (aG (sh:=[.p,.z,.f,.z,.f,.f,.f,.o,.f,.f,.f,.z])<|aM (i:=10) nd<|cw (i:=0) (bc B) hr.m<|aH ?qe aV)
  <|af (aG (sh:=[.p,.z,.f,.z,.f,.f,.f,.o,.f,.f,.f,.f])<|aM (i:=11) nd<|cw (i:=0) (bc B) hr.m<|aH ?qe aV)
  <|au<|bF (G4<|Jj (xD ?jI bv (cw (i:=0) (bc B) hr.m<|aH (aq<|av 6) aV) ?qG)<|G1<|aW<|aJ (dW ?O) bv (ao<|dY<|tR o8 v3 B.i ?E<|aE (ao<|dY<|bX<|aa (av 10)<|aa (av 11) az) aI)<|ao<|dY<|bX<|aa (av 8)<|aa (av 9) az)
  (au<|gy (i:=7) rfl ?jf (aH (aq<|bC<|aa (av 8)<|aa (av 9)<|aa (av 10)<|aa (av 11) az) aV) rfl rfl rfl rfl rfl rfl)
  aR)
  <|au<|aK<|aq<|bC<|aa (av 2)<|aa (av 4)<|aa (bG bf cf B.i ?E<|aE (aY (i:=7)) aI)<|aa (av 5) az)
abbrev G_:Re Str:=["_law_feed_here","_law_sorts","_law_deep","_law_some","_law_way","_law_others","_law_m","_law_sort"]
theorem fX:G_.Nodup:=by decide +kernel
def eY(self:Re D->D->D->M ?V)(Uj:Re D)(WG gbx:D):M ?V :=
 bd (oM<|bw [WG]) λl1=>bd (eW (λs2 d3=>bd (aB s2.1<|.int 2) λr4=>bd (oM<|bx r4.1<|.int 0) λb5=>if b5 then .ret (some d3,(r4.2,s2.2.1,s2.2.2.1,()))else .ret (none,(r4.2,s2.2.1,s2.2.2.1,()))) l1 (Uj,WG,gbx,())) λr6=>bd (cq r6.1) λl7=>bd (oM<|cu [(PyData.list l7)]) λx8=>bd (oM<|cW x8<|.tuple []) λb9=>if b9 then bd (aB r6.2.1<|.int 4) λVX=>bd (bd (oM<|bx VX.1<|.int 3) λXc=>if Xc then oM (dX r6.2.2.2.1<|.int 0)else .ret false) λb12=>if b12 then
  bd (self VX.2 r6.2.2.1<|.int 0) λr13=>.ret ((.tuple [(.str "not"),r13.1]),r13.2)
  else
  bd (oM<|bx VX.1<|.int 1) λb14=>if b14 then
  bd (bd (bd (oM<|bw [r6.2.2.1]) λXX=>bd (aZ (λZr=>bd (oM<|bB Zr x8) λUK=>if UK then .ret (some Zr)else .ret none) XX) cq) λV4=>.ret<|PyData.list V4) λR5=>bd (aB VX.2<|.int 2) λZG=>bd (oM<|lj R5 ZG.1) λVR=>bd (oM<|cu [VR]) λU0=>.ret ((.tuple [(.str "more"),x8,U0]),ZG.2)
  else
  bd (oM<|bx VX.1<|.int 2) λb23=>if b23 then
  bd (aB VX.2<|.int 2) λr24=>bd (oM<|bD (.int 2) r24.1) λUZ=>bd (aB r24.2 UZ) λr26=>.ret ((.tuple [(.str "rest"),x8,UZ,r26.1]),r26.2)
  else
  bd (aB VX.2<|.int 3) λr27=>bd (oM<|bD (.int 1) r27.1) λWO=>.ret ((.tuple [(.str "least"),x8,WO]),r27.2)else bd (aB r6.2.1 r6.2.2.1) λYZ=>bd (aB YZ.2<|.int 4) λXl=>bd (bd (oM<|bx Xl.1<|.int 3) λb31=>if b31 then oM (dX r6.2.2.2.1<|.int 0)else .ret false) λb32=>if b32 then
  bd (self Xl.2 r6.2.2.1<|.int 0) λr33=>.ret ((.tuple [(.str "not"),r33.1]),r33.2)
  else
  bd (oM<|bx Xl.1<|.int 1) λb34=>if b34 then
  bd (bd (bd (oM<|bw [r6.2.2.1]) λl37=>bd (aZ (λd35=>bd (oM<|bB d35<|.tuple [YZ.1]) λb36=>if b36 then .ret (some d35)else .ret none) l37) cq) λl38=>.ret<|PyData.list l38) λx39=>bd (aB Xl.2<|.int 2) λr40=>bd (oM<|lj x39 r40.1) λx41=>bd (oM<|cu [x41]) λZA=>.ret ((.tuple [(.str "more"),(.tuple [YZ.1]),ZA]),r40.2)
  else
  bd (oM<|bx Xl.1<|.int 2) λb43=>if b43 then
  bd (aB Xl.2<|.int 2) λr44=>bd (oM<|bD (.int 2) r44.1) λx45=>bd (aB r44.2 x45) λr46=>.ret ((.tuple [(.str "rest"),(.tuple [YZ.1]),x45,r46.1]),r46.2)
  else
  bd (aB Xl.2<|.int 3) λr47=>bd (oM<|bD (.int 1) r47.1) λx48=>.ret ((.tuple [(.str "least"),(.tuple [YZ.1]),x48]),r47.2)
def eD:Nat->Re D->D->D->M ?V
 | 0=>λ_ _ _=>.bad
 | i+1=>eY<|eD i
def oU(i:Nat):Re D->Re D->M ?V:=λUj l=>match l with
 | [WG,gbx]=>eD i Uj WG gbx
 | _=>.bad
theorem oG(B:BN K mg):∀i:Nat,CF P w K mg base "_law_question" (2+i)<|Xy K 3<|oU i :=
 Oa ["_law_feed_here","_law_sorts","_law_deep","_law_some","_law_way","_law_others","_law_m"] B.Ta λRE=>λhr nd =>
  (af (aG (sh:=[.p,.f,.f,.f,.z,.z,.z])<|aM (i:=3) nd<|ly bf cf B.i ?E<|aH (Jn<|tS (sh:=[.p,.f,.f,.z,.z,.z,.z]) (N':=G_) (k:=1) rfl ?H (bI<|bE rfl B.i ?je rfl) (λ_ _ _ _ _=>(aA (i:=7) (show 7<=7 by decide) fX)) (λ_ _ _ _ _=>(G3<|xD ?jI bv (cw (i:=0) (bc B) ?qq ?js) ?qG)) λ_ _ _ _ _=>(aq<|av 7)) aV)
  <|af (aG (sh:=[.p,.f,.f,.f,.z,.z,.z])<|aM (i:=3) nd<|Oh (aW<|aJ (dW ?O) bv ?qh<|ao<|bC az) (aq ?jx)<|tT<|aH (cw (i:=0) (bc B) ?qq<|aH (aq<|av 1) aV) aV)
  <|af (aG (sh:=[.p,.f,.f,.f,.f,.z,.z])<|aM (i:=4) nd<|cw (i:=0) (bc B) ?qq ?js)
  <|af (bF (aW<|fB<|kM (aJ ?jI bv ?qu ?P)<|iL<|aJ fU fV ?jL ?P)
  (au<|aK<|tT<|aH (aq bM)<|aH (cw (i:=0) RE ?qq<|aH (aq<|av 1) ?js) aV)
  aR)
  <|af (bF (aW<|aJ ?jI bv ?qu ?P)
  (af (aG (sh:=[.p,.z,.z,.f,.z,.f,.z])<|cE (i:=5) nd rfl ?jy (.inl rfl) (N':=G_) (k:=1) rfl ?H (bE rfl B.i ?je rfl) (λ_ _ _ _ _=>(aA (i:=7) (show 7<=7 by decide) fX)) (λ_ _ _ _ _=>(dq<|aJ (bU ?O) cg ?qW ?qh)) (λ_ _ _ _ _=>(av 7)) rfl ?R)
  <|au<|aK<|tT<|aH (aq bM)<|aH (aq ?jx)<|aH (ly bf cf B.i ?E<|aH (D5 (aq<|av 5)<|cw (i:=0) (bc B) ?qq ?js) aV) aV)
  aR)
  <|af (bF (aW<|aJ ?jI bv ?qu ?P)
  (af (aG (sh:=[.p,.z,.z,.f,.z,.z,.f])<|aM (i:=6) nd<|mL bq bH ?qG<|cw (i:=0) (bc B) ?qq ?js)
  <|au<|aK<|tT<|aH (aq bM)<|aH (aq ?jx)<|aH (aq<|av 6)<|aH (cw (i:=0) (bc B) ?qq<|aH (aq<|av 6) aV) aV)
  aR)
  <|au<|aK<|tT<|aH (aq bM)<|aH (aq ?jx)<|aH (mL bq bH ?qG<|cw (i:=0) (bc B) ?qq ?js) aV)
abbrev QT:Re Str:=["_law_question_here","_law_counts_here","_law_many","_law_sort"]
theorem iz:QT.Nodup:=by decide +kernel
def h7(self:D->D->M D)(SR Wb:D):M D :=
 bd (bd (oM<|aF SR<|.int 0) λx1=>oM<|bx x1<|.str "not") λb2=>if b2 then
  bd (bd (bd (bd (bd (oM<|aF SR<|.int 1) λx3=>self x3 Wb) λx4=>oM<|fF x4) λb5=>.ret<|!b5) λb6=>.ret<|.bool b6) λx7=>.ret x7
  else
  bd (bd (bd (bd (bd (oM<|aF SR<|.int 1) λx8=>oM<|cH x8) λUN=>bd (aZ (λd9=>bd (oM<|aF Wb d9) λRU=>.ret<|some RU) UN) cq) λTX=>.ret<|PyData.list TX) λTR=>oM<|fA [TR]) λTn=>bd (bd (oM<|aF SR<|.int 0) λTj=>oM<|bx Tj<|.str "least") λUK=>if UK then
  bd (bd (bd (oM<|aF SR<|.int 2) λT9=>oM<|v0 Tn T9) λXb=>.ret<|.bool Xb) λR5=>.ret R5
  else
  bd (bd (oM<|aF SR<|.int 0) λTQ=>oM<|bx TQ<|.str "more") λb21=>if b21 then
  bd (bd (bd (bd (bd (bd (bd (oM<|aF SR<|.int 2) λU0=>oM<|cH U0) λYs=>bd (aZ (λd23=>bd (oM<|aF Wb d23) λXj=>.ret<|some Xj) Ys) cq) λl26=>.ret<|PyData.list l26) λXi=>oM<|fA [Xi]) λWO=>oM<|dX Tn WO) λb29=>.ret<|.bool b29) λx30=>.ret x30
  else
  bd (bd (bd (bd (oM<|aF SR<|.int 2) λx31=>oM<|iw Tn x31) λx32=>bd (oM<|aF SR<|.int 3) λx33=>oM<|bx x32 x33) λb34=>.ret<|.bool b34) λZW=>.ret ZW
def dn:Nat->D->D->M D
 | 0=>λ_ _=>.bad
 | i+1=>h7<|dn i
def ui(i:Nat):Re D->M D:=λl=>match l with
 | [SR,Wb]=>dn i SR Wb
 | _=>.bad
theorem lG(B:BN K mg):∀i:Nat,CF P w K mg base "_law_holds" (1+i)<|J_ K 2<|ui i :=
 IX ["_law_question_here","_law_counts_here","_law_many"] B.UG λRE=>λhr nd =>
  (af (bF (aW<|aJ ?jI bv (ao ?J)<|ao bM)
  (au<|aK<|aq<|fO<|xE<|ao ?jz)
  aR)
  <|af (aG (sh:=[.f,.f,.f])<|aM (i:=2) nd<|aq<|aS (dQ rfl) gG B.i ?E<|aE (ao<|dY<|cG (N':=QT) (k:=1) rfl ?H (bZ ?J) (λ_ _ _ _ _=>(aA (i:=3) (show 3<=3 by decide) iz)) ?ji λ_ _ _ _ _=>(n_ hr ?qH ?qh)) aI)
  <|af (bF (aW<|aJ ?jI bv (ao ?J)<|ao bM)
  (au<|aK<|aq<|fO<|cA uR uT ?jL<|ao ?J)
  aR)
  <|af (bF (aW<|aJ ?jI bv (ao ?J)<|ao bM)
  (au<|aK<|aq<|fO<|cA fU fV ?jL<|ao<|aS (dQ rfl) gG B.i ?E<|aE (ao<|dY<|cG (N':=QT) (k:=1) rfl ?H (bZ ?J) (λ_ _ _ _ _=>(aA (i:=3) (show 3<=3 by decide) iz)) ?ji λ_ _ _ _ _=>(n_ hr ?qH ?qh)) aI)
  aR)
  <|au<|aK<|aq<|fO<|cA ?jI bv (ao<|aT iS iU ?jL<|ao ?J)<|ao ?J)
abbrev Q5:Re Str:=["_law_sorts","_law_question_here","_law_some","_law_meets","_law_those","_law_sides","_law_starts","_law_n","_law_a","_law_b","_law_m","_law_r","_law_sort"]
theorem jm:Q5.Nodup:=by decide +kernel
abbrev Q4:Re Str:=["_law_sorts","_law_question_here","_law_some","_law_meets","_law_those","_law_sides","_law_starts","_law_n","_law_a","_law_b","_law_m","_law_r","_law_room"]
theorem jl:Q4.Nodup:=by decide +kernel
def tM(SF:Re D)(SG US:D):M D :=
 bd (bd (oM<|bD US<|.int 1) λx30=>bd (oM<|cu [(PyData.list SF)]) λx31=>bd (bd (bd (bd (bd (oM<|bD US<|.int 1) λx32=>oM<|bw [x32]) λl36=>bd (aZ (λd33=>bd (bd (oM<|bx d33 US) λb34=>.ret<|.bool b34) λZW=>.ret<|some ZW) l36) cq) λl37=>.ret<|PyData.list l37) λx38=>oM<|cu [x38]) λx39=>.ret<|.tuple [x30,SG,x31,x39]) λx40=>.ret x40
def tL(X0:Re D×D×D×Unit->M D)(SF:Re D)(SG US Sz:D):M D :=
 X0 (SF,SG,US,())
def tI(X0:Re D×D×D×Unit->M D)(SF:Re D)(SG US:D)(Sz d_:D)(zai:Re D×D×D×D×Unit->M D):M D :=
 bd (bd (oM (dX Sz (.int 0))) λb46=>if b46 then bd (oM (bD Sz d_)) λx45=>oM (dU x45 US)else .ret false) λb47=>if b47 then
  bd (bd (oM (bD Sz d_)) λx48=>.ret (.tuple [Sz,d_,(.int 0),x48])) λx49=>bd (oM (mn SF [x49])) λl50=>zai (l50,SG,US,Sz,())
  else
  bd (bd (bd (oM (dX Sz (.int 0))) λb51=>if b51 then oM (dU d_ US)else .ret false) λb53=>if b53 then .ret true else bd (oM (dU Sz US)) λb52=>if b52 then oM (bx d_ US)else .ret false) λb54=>if b54 then
  bd (oM (mn SF [(.tuple [Sz,d_,US,US])])) λl55=>zai (l55,SG,US,Sz,())
  else
  zai (SF,SG,US,Sz,())
def e6(SF:Re D)(SG US d_:D)(X0:Re D×D×D×Unit->M D):M D :=
 bd (bd (oM<|bD US<|.int 1) λZA=>oM<|eA [d_,ZA]) λl43=>cO (λYX d57 kn=>tI X0 YX.1 YX.2.1 YX.2.2.1 YX.2.2.2.1 d57 kn) l43 (SF,SG,US,d_,()) λYX=>tL X0 YX.1 YX.2.1 YX.2.2.1 YX.2.2.2.1
def tK(SF:Re D)(SG Wc Yw:D):M D :=
 bd (bd (oM<|bD Wc<|.int 2) λx65=>bd (oM<|cu [(PyData.list SF)]) λx66=>bd (bd (bd (bd (bd (oM<|bD Wc<|.int 2) λx67=>oM<|bw [x67]) λl73=>bd (aZ (λd68=>bd (bd (bd (bd (oM<|bD Wc<|.int 1) λx69=>.ret<|.tuple [Yw,x69]) λx70=>oM<|gz d68 x70) λb71=>.ret<|.bool b71) λx72=>.ret<|some x72) l73) cq) λl74=>.ret<|PyData.list l74) λx75=>oM<|cu [x75]) λx76=>.ret<|.tuple [x65,SG,x66,x76]) λx77=>.ret x77
def tJ(XZ:Re D×D×D×D×Unit->M D)(SF:Re D)(SG Sz:D)(Wc Yw:D):M D :=
 bd (bd (bd (bd (bd (oM<|cW Sz Yw) λb80=>.ret<|.bool b80) λx81=>oM<|mE [x81]) λx82=>oM<|bD Wc x82) λx83=>bd (bd (bd (bd (oM<|bx Sz Yw) λb84=>.ret<|.bool b84) λx85=>oM<|mE [x85]) λx86=>oM<|bD Wc x86) λx87=>.ret<|.tuple [Sz,x83,Sz,x87]) λx88=>bd (oM<|mn SF [x88]) λl89=>XZ (l89,SG,Wc,Yw,())
def tH(XZ:Re D×D×D×D×Unit->M D)(SF:Re D)(SG Sz:D)(Wc Yw d_:D)(zbi:Re D×D×D×D×D×Unit->M D):M D :=
 bd (bd (bd (oM<|bD Sz d_) λx91=>oM<|iw x91 Wc) λx92=>bd (bd (bd (bd (bd (bd (oM<|bD Sz d_) λx93=>oM<|iw x93 Wc) λx94=>oM<|bx x94 Yw) λb95=>.ret<|.bool b95) λx96=>oM<|mE [x96]) λx97=>oM<|bD Wc x97) λx98=>.ret<|.tuple [Sz,d_,x92,x98]) λx99=>bd (oM<|mn SF [x99]) λzbh=>zbi (zbh,SG,Sz,Wc,Yw,())
def cZ(SF:Re D)(SG Wc:D)(Yw d_:D)(XZ:Re D×D×D×D×Unit->M D):M D :=
 bd (oM<|eA [d_,Wc]) λl79=>cO (λTs zbF kn=>tH XZ Ts.1 Ts.2.1 Ts.2.2.1 Ts.2.2.2.1 Ts.2.2.2.2.1 zbF kn) l79 (SF,SG,d_,Wc,Yw,()) λTs=>tJ XZ Ts.1 Ts.2.1 Ts.2.2.1 Ts.2.2.2.1 Ts.2.2.2.2.1
def dJ(WG SR:D):M D :=
 bd (oM<|aF SR<|.int 1) λx1=>bd (bd (oM<|aF SR<|.int 0) λx2=>oM<|bx x2<|.str "more") λb3=>if b3 then
  bd (oM<|aF SR<|.int 2) λx4=>bd (bd (bd (oM<|bw [WG]) λTX=>bd (aZ (λd5=>bd (bd (oM<|gz d5 x1) λTz=>if Tz then .ret (.int 0)else bd (bd (bd (bd (oM<|bB d5 x4) λb6=>.ret<|.bool b6) λx7=>oM<|mE [x7]) λx8=>oM<|eS (.int 2) x8) λx9=>oM<|bD (.int 1) x9) λQ8=>.ret<|some Q8) TX) cq) λWY=>.ret<|PyData.list WY) λTn=>bd (bd (oM<|cu [Tn]) λTj=>.ret<|.tuple [(.int 4),Tj,(.tuple [(.tuple [(.int 0),(.int 1),(.int 2),(.int 3)]),(.tuple [(.int 0),(.int 3),(.int 0),(.int 2)]),(.tuple [(.int 1),(.int 2),(.int 1),(.int 3)]),(.tuple [(.int 2),(.int 3),(.int 3),(.int 3)])]),(.tuple [(.bool true),(.bool false),(.bool true),(.bool false)])]) λU1=>.ret U1
  else
  bd (bd (bd (bd (oM<|bw [WG]) λXU=>bd (aZ (λYm=>bd (bd (bd (oM<|gz Ym x1) λXb=>.ret<|.bool Xb) λR5=>oM<|mE [R5]) λTQ=>.ret<|some TQ) XU) cq) λXT=>.ret<|PyData.list XT) λT8=>oM<|cu [T8]) λXj=>bd (bd (oM<|aF SR<|.int 0) λUZ=>oM<|bx UZ<|.str "least") λZv=>if Zv then
  bd (oM<|aF SR<|.int 2) λXi=>bd (bd (oM<|bD Xi<|.int 1) λWO=>oM<|bw [WO]) λl29=>cO (λZ1 d59 kn=>e6 Z1.1 Z1.2.1 Z1.2.2.1 d59 kn) l29 ([],Xj,Xi,()) λZ1=>tM Z1.1 Z1.2.1 Z1.2.2.1
  else
  bd (bd ?qF λzbd=>oM<|kj SR zbd none) λx61=>To x61 λy62 y63=>bd (oM<|bw [y62]) λl64=>cO (λUp zbE kn=>cZ Up.1 Up.2.1 Up.2.2.1 Up.2.2.2.1 zbE kn) l64 ([],Xj,y62,y63,()) λUp=>tK Up.1 Up.2.1 Up.2.2.1 Up.2.2.2.1
def wy:=Rw dJ
theorem v9(B:BN K mg):CF P w K mg base "_law_made" 1 (J_ K 2 wy) :=
 RL ["_law_sorts","_law_question_here","_law_some","_law_meets","_law_those","_law_sides","_law_starts","_law_n","_law_a","_law_b","_law_m","_law_r"] B.Vt λhr nd =>
  (af (aG (sh:=[.f,.f,.f,.z,.z,.z,.z,.z,.z,.z,.z,.z])<|aM (i:=2) nd<|aq ?jX)
  <|af (aG (sh:=[.f,.f,.f,.o,.z,.z,.z,.z,.z,.z,.z,.z])<|cU (i:=3) nd ?qQ)
  <|af (bF (aW<|aJ ?jI bv (ao ?jX)<|ao bM)
  (af (aG (sh:=[.f,.z,.f,.z,.f,.z,.z,.z,.z,.z,.z,.z])<|aM (i:=4) nd<|aq ?jX)
  <|af (aG (sh:=[.z,.z,.z,.z,.z,.f,.z,.z,.z,.z,.z,.z])<|cE (i:=5) nd rfl ?jy (.inl rfl) (N':=Q5) (k:=1) rfl ?H (bE rfl B.i (aa ?qi az) rfl) (λ_ _ _ _ _=>(aA (i:=12) (show 12<=12 by decide) jm)) ?ji (λ_ _ _ _ _=>(vy (aJ (mZ ?O) rQ (g_ 12) ?jL) ak<|aT bq bH ?P<|ao<|aT jw jx ?P<|ao<|bG eP j8 B.i ?E<|aE (ao<|fO<|cA (bU ?O) cg (g_ 12) ?qu) aI)) rfl ?R)
  <|af (aG (sh:=[.z,.z,.z,.f,.z,.f,.z,.z,.z,.z,.z,.z])<|aM (i:=3) nd<|aq<|bC<|aa (bC<|aa ak<|aa ak<|aa ak ?qC)<|aa (bC<|aa ak<|aa ak<|aa ak ?qC)<|aa (bC<|aa ak<|aa ak<|aa ak ?qC)<|aa (bC<|aa ak<|aa ak<|aa ak ?qC) az)
  <|au<|aK<|aq<|bC<|aa ak<|aa (bG bf cf B.i ?E<|aE (g_ 5) aI)<|aa ?jx<|aa (bC<|aa dM<|aa dM<|aa dM<|aa dM az) az)
  aR)
  <|af (aG (sh:=[.z,.f,.z,.o,.z,.z,.f,.z,.z,.z,.z,.z])<|aM (i:=6) nd<|aq<|bG bf cf B.i ?E<|aE (ao<|dY<|cG (N':=Q5) (k:=1) rfl ?H (bE rfl B.i (aa ?qi az) rfl) (λ_ _ _ _ _=>(aA (i:=12) (show 12<=12 by decide) jm)) ?ji λ_ _ _ _ _=>(bG eP j8 B.i ?E<|aE (ao<|fO<|cA (mZ ?O) rQ (g_ 12) ?jL) aI)) aI)
  <|af (bF (aW<|aJ ?jI bv (ao ?jX)<|ao bM)
  (af (aG (sh:=[.z,.z,.z,.o,.z,.z,.f,.f,.z,.z,.z,.z])<|aM (i:=7) nd<|aq ?jX)
  <|af (br (sh:=[.z,.z,.z,.o,.z,.z,.f,.f,.z,.z,.z,.z]) PassesOwn.leaving rfl (bI<|bE rfl B.i (aa (aT bq bH ?qW ?P) az) rfl) (aA (i:=8) ?X nd)
  <|au<|br (sh:=[.z,.z,.z,.o,.z,.z,.f,.f,.f,.z,.z,.z]) PassesOwn.leaving rfl (bI<|js rfl B.i (aa (av 8)<|aa (aT bq bH ?qW ?P) az) rfl rfl) (aA (i:=9) ?X nd)
  <|au<|bF (aW<|fB<|kM (aJ fU fV (g_ 8) ?P)<|iL<|aJ (iT ?O) iV (ao<|aT bq bH (g_ 8)<|g_ 9) ?qW)
  (au<|gy (i:=3) rfl ?jf (aH (aq<|bC<|aa (av 8)<|aa (av 9)<|aa ak<|aa (aT bq bH (g_ 8)<|g_ 9) az) aV) rfl rfl rfl rfl rfl rfl)
  <|au<|bF (aW<|fB<|iK (fB<|kM (aJ fU fV (g_ 8) ?P)<|iL<|aJ (iT ?O) iV (g_ 9) ?qW)<|i6<|fB<|kM (aJ (iT ?O) iV (g_ 8) ?qW)<|iL<|aJ ?jI bv (g_ 9) ?qW)
  (au<|gy (i:=3) rfl ?jf (aH (aq<|bC<|aa (av 8)<|aa (av 9)<|aa (av 7) ?qb) aV) rfl rfl rfl rfl rfl rfl)
  aR)
  <|au<|aK<|aq<|bC<|aa (aT bq bH ?qW ?P)<|aa (av 6)<|aa (bG bf cf B.i ?E<|aE (aY (i:=3)) aI)<|aa (bG bf cf B.i ?E<|aE (ao<|dY<|cG (N':=Q4) (k:=1) rfl ?H (bE rfl B.i (aa (aT bq bH ?qW ?P) az) rfl) (λ_ _ _ _ _=>(aA (i:=12) (show 12<=12 by decide) jl)) ?ji λ_ _ _ _ _=>(fO<|cA ?jI bv (g_ 12) ?qW)) aI) az)
  aR)
  <|af (aG (sh:=[.z,.z,.z,.o,.z,.z,.f,.z,.z,.z,.f,.f])<|py (aq<|ik ?qH (ie ak) ii) (fw rfl (aX (aA (i:=10) ?X nd) (aX (aA (i:=11) ?X nd) dw rfl) rfl) rfl rfl) rfl rfl rfl)
  <|af (br (sh:=[.z,.z,.z,.o,.z,.z,.f,.z,.z,.z,.f,.f]) PassesOwn.leaving rfl (bI<|bE rfl B.i (aa (av 10) az) rfl) (aA (i:=8) ?X nd)
  <|af (br (sh:=[.z,.z,.z,.o,.z,.z,.f,.z,.f,.z,.f,.f]) PassesOwn.leaving rfl (bI<|js rfl B.i (aa (av 8)<|aa (av 10) az) rfl rfl) (aA (i:=9) ?X nd)
  <|au<|gy (i:=3) rfl ?jf (aH (aq<|bC<|aa (av 8)<|aa (av 9)<|aa (aT iS iU (ao<|aT bq bH (g_ 8)<|g_ 9)<|g_ 10)<|aa (aT bq bH (g_ 10)<|ao<|bG eP j8 B.i ?E<|aE (ao<|fO<|cA ?jI bv (ao<|aT iS iU (ao<|aT bq bH (g_ 8)<|g_ 9)<|g_ 10)<|g_ 11) aI) az) aV) rfl rfl rfl rfl rfl rfl)
  <|au<|gy (i:=3) rfl ?jf (aH (aq<|bC<|aa (av 8)<|aa (aT bq bH (g_ 10)<|ao<|bG eP j8 B.i ?E<|aE (ao<|fO<|cA (dW ?O) bv (g_ 8)<|g_ 11) aI)<|aa (av 8)<|aa (aT bq bH (g_ 10)<|ao<|bG eP j8 B.i ?E<|aE (ao<|fO<|cA ?jI bv (g_ 8)<|g_ 11) aI) az) aV) rfl rfl rfl rfl rfl rfl)
  <|au<|aK<|aq<|bC<|aa (aT bq bH (g_ 10) ?P)<|aa (av 6)<|aa (bG bf cf B.i ?E<|aE (aY (i:=3)) aI)<|aa (bG bf cf B.i ?E<|aE (ao<|dY<|cG (N':=Q4) (k:=1) rfl ?H (bE rfl B.i (aa (aT bq bH (g_ 10) ?P) az) rfl) (λ_ _ _ _ _=>(aA (i:=12) (show 12<=12 by decide) jl)) ?ji λ_ _ _ _ _=>(fO<|cA (mZ ?O) rQ (g_ 12)<|ao<|bC<|aa (av 11)<|aa (aT bq bH (g_ 10) ?P) az)) aI) az)
def iE(Uj:Re D)(Wa:D):M ?V :=
 bd (f7 Uj Wa) λr1=>bd (bd (oM<|aF r1.1<|.int 1) λx2=>oM<|dE [x2]) λx3=>bd (eD 8 r1.2 x3<|.int 1) λr4=>bd (bd (oM<|aF r4.1<|.int 0) λx5=>oM<|bx x5<|.str "not") λb6=>if b6 then .ret ((.tuple [r1.1,r4.1]),r4.2)else bd (aB r4.2<|.int 2) λr7=>bd (oM<|bx r7.1<|.int 0) λb8=>if b8 then
  .ret ((.tuple [r1.1,r4.1]),r7.2)
  else
  bd (bd (bd (bd (oM<|aF r1.1<|.int 1) λx9=>oM<|dE [x9]) λRU=>dJ RU r4.1) λQ8=>.ret<|.tuple [Q8,r4.1]) λSV=>.ret (SV,r7.2)
def wx:Re D->Re D->M ?V:=λUj l=>match l with
 | [Wa]=>iE Uj Wa
 | _=>.bad
theorem v8(B:BN K mg):CF P w K mg base "_law_pair" 11 (Xy K 2 wx) :=
 cf1 ["_law_feed_here","_law_most","_law_rule_here","_law_question_here"] B.Vs λhr nd =>
  (af (aG (sh:=[.p,.z,.f,.z])<|aM (i:=2) nd<|cw (i:=0) (v6 B) hr.m<|aH (aq<|av 1) aV)
  <|af (aG (sh:=[.p,.z,.f,.f])<|aM (i:=3) nd<|cw (i:=0) (oG B 8) hr.m<|aH (aq<|aS bJ cX B.i eh<|aE (ao<|n_ hr ?jL ?P) aI) ?js)
  <|af (bF (G4<|Mz (aW<|aJ ?jI bv (ao<|n_ hr ?qh ?P)<|ao bM)<|Ji<|xD ?jI bv (cw (i:=0) (bc B) hr.m ?js) ?qG)
  (au<|aK<|aq<|bC<|aa (av 2)<|aa ?jx az)
  aR)
  <|au<|aK<|aq<|bC<|aa (bh (v9 B) hr.m<|aa (aS bJ cX B.i eh<|aE (ao<|n_ hr ?jL ?P) aI)<|aa ?jx az)<|aa ?jx az)
def qq(Ui:D)(QU:Re D):M D :=
 .ret<|PyData.list QU
def jT(kn3:D×Re D×Unit->M D)(Ui:D)(QU:Re D)(gaR:D)(Yv:Re D):M D :=
 bd (bd (oM<|cu [(PyData.list Yv)]) λTj=>.ret<|.tuple [gaR,Tj]) λU1=>bd (oM<|mn QU [U1]) λXX=>kn3 (Ui,XX,())
def gn(kn3:D×Re D×Unit->M D)(Ui:D)(QU:Re D)(gaR:D)(Yv:Re D)(d_:D)(zbp:D×Re D×D×Re D×Unit->M D):M D :=
 bd (bd (oM<|aF (PyData.list Yv) d_) λR5=>oM<|bD R5<|.int 1) λTQ=>bd (oM<|putD Yv d_ TQ) λXU=>zbp (Ui,QU,gaR,XU,())
def gw(kn3:D×Re D×Unit->M D)(Ui:D)(QU:Re D)(gaR gbd:D)(Yv:Re D):M D :=
 bd (bd (oM<|Ca [(PyData.list Yv)]) λRU=>oM<|v0 RU<|.int 0) λXc=>if Xc then
  bd (bd (bd ?qF λzah=>oM<|kj gbd zah none) λTR=>oM<|cH TR) λXY=>cO (λTV d23 kn=>gn kn3 TV.1 TV.2.1 TV.2.2.1 TV.2.2.2.1 d23 kn) XY (Ui,QU,gaR,Yv,()) λTV=>jT kn3 TV.1 TV.2.1 TV.2.2.1 TV.2.2.2.1
  else
  kn3 (Ui,QU,())
def gp(kn3:D×Re D×Unit->M D)(Ui:D)(QU:Re D)(gaR gbd:D)(Yv:Re D)(d_:D)(zbn:D×Re D×D×D×Re D×Unit->M D):M D :=
 bd (bd (oM<|aF (PyData.list Yv) d_) λUZ=>oM<|gT UZ<|.int 1) λx26=>bd (oM<|putD Yv d_ x26) λl27=>zbn (Ui,QU,gaR,gbd,l27,())
def gq(Ui:D)(QU:Re D)(d_:D)(kn3:D×Re D×Unit->M D):M D :=
 To d_ λy4 y5=>bd (oM<|pT [Ui]) λl6=>bd (bd (bd ?qF λhi7=>oM<|kj y5 none hi7) λx8=>oM<|cH x8) λl9=>cO (λR9 d29 kn=>gp kn3 R9.1 R9.2.1 R9.2.2.1 R9.2.2.2.1 R9.2.2.2.2.1 d29 kn) l9 (Ui,QU,y4,y5,l6,()) λR9=>gw kn3 R9.1 R9.2.1 R9.2.2.1 R9.2.2.2.1 R9.2.2.2.2.1
def dS(Ti gaG:D):M D :=
 bd (bd (oM<|aF Ti<|.int 2) λx1=>oM<|lN [x1]) λl2=>cO (λs30 d31 kn=>gq s30.1 s30.2.1 d31 kn) l2 (gaG,[],()) λs30=>qq s30.1 s30.2.1
def uf:=Rw dS
theorem iW(B:BN K mg):CF P w K mg base "_law_steps" 1 (J_ K 2 uf) :=
 RL ["_law_rule_here","_law_crowd","_law_found","_law_number","_law_meeting","_law_left","_law_room"] B.UD λhr nd =>
  (af (aG (sh:=[.f,.f,.o,.z,.z,.z,.z])<|cU (i:=2) nd ?qQ)
  <|af (br (sh:=[.z,.f,.o,.z,.z,.z,.z]) PassesOwn.leaving rfl (bI<|xB rfl B.i (aa ?J az) rfl) (fw rfl (aX (aA (i:=3) ?X nd) (aX (aA (i:=4) ?X nd) dw rfl) rfl) rfl rfl)
  <|af (aG (sh:=[.z,.f,.o,.f,.f,.o,.z])<|cU (i:=5) nd<|cK<|pA jH v4 B.i ?E<|aE ?qH aI)
  <|af (br (sh:=[.z,.f,.o,.f,.f,.o,.z]) PassesOwn.leaving rfl (bI<|bZ<|ik ?qu ii<|ie ak) (aA (i:=6) ?X nd)
  <|au<|px (i:=5) rfl ?jf (aq<|av 6) (aq<|aT oB oD (ao<|n_ hr (aY (i:=5))<|g_ 6) ?P) ?R rfl rfl rfl)
  <|au<|bF (aW<|aJ uR uT (ao<|aS (DS rfl) Ia B.i ?E<|aE (aY (i:=5)) aI) ?P)
  (af (br (sh:=[.z,.f,.o,.f,.z,.o,.z]) PassesOwn.leaving rfl (bI<|bZ<|ik ?qu (ie ak) ii) (aA (i:=6) ?X nd)
  <|au<|px (i:=5) rfl ?jf (aq<|av 6) (aq<|aT bq bH (ao<|n_ hr (aY (i:=5))<|g_ 6) ?P) ?R rfl rfl rfl)
  <|au<|gy (i:=2) rfl ?jf (aH (aq<|bC<|aa ?jx<|aa (bG bf cf B.i ?E<|aE (aY (i:=5)) aI) az) aV) rfl rfl rfl rfl rfl rfl)
  aR)
  <|au<|fN (i:=2)<|aK ?qe)
abbrev Su:Re Str:=["_law_rule_here","_law_crowd","_law_found","_law_line","_law_here","_law_number","_law_later"]
theorem jQ:Su.Nodup:=by decide +kernel
def lU(I_:D)(QU:Re ?N)(ga5:Re D):M D :=
 .ret<|PyData.dict QU
def fS(I_:D)(QU:Re ?N)(ga5:Re D)(kn1:D×Re ?N×Re D×Unit->M D):M D :=
 bd (oM<|cW (PyData.list ga5) ?j5) λb2=>if b2 then
  Ft ga5 λx3=>bd (oM<|bB x3<|PyData.dict QU) λb4=>if b4 then
  bd (dS I_ x3) λx5=>bd (oM<|hV true QU x3 x5) λl6=>bd (bd (bd (oM<|aF (PyData.dict l6) x3) λx7=>oM<|cH x7) λUN=>bd (aZ (λd8=>To d8 λy9 y10=>.ret<|some y10) UN) cq) λTX=>bd (oM<|zX (List.dropLast ga5) TX) λWY=>kn1 (I_,l6,WY,())
  else
  kn1 (I_,QU,(List.dropLast ga5),())
  else lU I_ QU ga5
def eJ(Ti gaG:D):M D :=
 jX (λVW kn=>fS VW.1 VW.2.1 VW.2.2.1 kn) 10000 (Ti,[],[gaG],())
def yC:=Rw eJ
theorem ka(B:BN K mg):CF P w K mg base "_law_all" 2 (J_ K 2 yC) :=
 RL ["_law_rule_here","_law_crowd","_law_found","_law_line","_law_here"] B.Wm λhr nd =>
  (af (aG (sh:=[.f,.f,.t,.z,.z])<|qM true (i:=2) nd rfl ?jy rfl<|.inl rfl)
  <|af (aG (sh:=[.f,.z,.t,.o,.z])<|cU (i:=3) nd<|cK<|bX ?je)
  <|af (gP (sh:=[.f,.z,.t,.o,.z]) (fuel:=10000) PassesOwn.leaving (aW<|aJ (dW ?O) bv (aY (i:=3)) ?qD)
  <|af (aG (sh:=[.f,.z,.t,.o,.f])<|Jf (i:=3) (j:=4) rfl ?jf nd rfl ?jy ?C rfl rfl rfl<|.inl rfl)
  <|au<|bF (aW<|aJ (bU ?O) cg ?qu<|aY (i:=2))
  (af (aG (sh:=[.f,.z,.t,.o,.f])<|iM ?O (i:=2) rfl ?jf (aq<|av 4) (aq<|bh (iW B) hr.m<|aa ?qi ?qa) rfl)
  <|au<|qL (i:=3) rfl ?jf (cK<|cG (N':=Su) (k:=2) rfl ?H (bZ<|n_ hr (aY (i:=2)) ?qu) (λ_ _ _ _ _=>(fw rfl (aX (aA (i:=5) (show 5<=5 by decide) jQ) (aX (aA (i:=6) (show 5<=6 by decide) jQ) dw rfl) rfl) rfl rfl)) ?ji λ_ _ _ _ _=>(av 6)) rfl rfl rfl rfl rfl rfl)
  aR)
  <|au<|fN (i:=2)<|aK ?qe)
abbrev Rq:Re Str:=["_law_feed_here","_law_sorts","_law_most","_law_found","_law_hand","_law_sort ","_law_sort"]
theorem lZ:Rq.Nodup:=by decide +kernel
def pg(Uy:Re D)(gbo:D)(QU:Re D):M ?V :=
 bd (oM<|cu [(PyData.list QU)]) λx7=>.ret (x7,Uy)
def jr(Uy:Re D)(gbo:D)(QU:Re D)(d_:D)(kn8:Re D×D×Re D×Unit->M ?V):M ?V :=
 bd (aB Uy gbo) λr9=>bd (bd (oM<|aF (PyData.list QU) r9.1) λRU=>oM<|bD RU<|.int 1) λQ8=>bd (oM<|putD QU r9.1 Q8) λTX=>kn8 (r9.2,gbo,TX,())
def eu(Uj:Re D)(WG Wa:D):M ?V :=
 bd (bd (oM<|bw [WG]) λl2=>bd (aZ (λd1=>.ret<|some<|.int 0) l2) cq) λl3=>bd (aB Uj Wa) λr4=>bd (oM<|bD (.int 1) r4.1) λx5=>bd (oM<|bw [x5]) λl6=>cO (λH_ T5 kn=>jr H_.1 H_.2.1 H_.2.2.1 T5 kn) l6 (r4.2,WG,l3,()) λH_=>pg H_.1 H_.2.1 H_.2.2.1
def rX:Re D->Re D->M ?V:=λUj l=>match l with
 | [WG,Wa]=>eu Uj WG Wa
 | _=>.bad
theorem rR(B:BN K mg):CF P w K mg base "_law_counts" 2 (Xy K 3 rX) :=
 cf1 ["_law_feed_here","_law_sorts","_law_most","_law_found","_law_hand","_law_sort"] B.T2 λhr nd =>
  (af (aG (sh:=[.p,.f,.f,.o,.z,.z])<|p9 (i:=3) nd rfl ?jy (.inl rfl) (N':=Rq) (k:=1) rfl ?H (bE rfl B.i ?je rfl) (λ_ _ _ _ _=>(aA (i:=6) (show 6<=6 by decide) lZ)) ?ji (λ_ _ _ _ _=>ak) rfl ?R)
  <|af (br (sh:=[.p,.f,.z,.o,.z,.z]) PassesOwn.leaving rfl (AR rfl B.i (aH (mL bq bH ?qG<|cw (i:=0) (bc B) hr.m<|aH ?qe aV) aV) rfl) (aA (i:=4) ?X nd)
  <|af (aG (sh:=[.p,.f,.z,.o,.z,.f])<|aM (i:=5) nd<|cw (i:=0) (bc B) hr.m<|aH (aq<|av 1) aV)
  <|au<|px (i:=3) rfl ?jf (aq<|av 5) (aq<|aT bq bH (ao<|n_ hr (aY (i:=3))<|g_ 5) ?P) ?R rfl rfl rfl)
  <|au<|aK<|aq<|bG bf cf B.i ?E<|aE (aY (i:=3)) aI)
abbrev RD:Re Str:=["_law_rule_here","_law_counts_here","_law_found","_law_sort","_law_room ","_law_room"]
theorem nA:RD.Nodup:=by decide +kernel
def jW(I_ VM:D)(QU:Re D):M D :=
 bd (oM<|cu [(PyData.list QU)]) λx7=>.ret x7
def jV(I_ VM:D)(QU:Re D)(d_:D)(kn8:D×D×Re D×Unit->M D):M D :=
 bd (bd (oM<|aF I_<|.int 1) λx9=>oM<|aF x9 d_) λRU=>bd (bd (oM<|aF (PyData.list QU) RU) λQ8=>bd (oM<|aF VM d_) λSV=>oM<|bD Q8 SV) λTR=>bd (oM<|putD QU RU TR) λXY=>kn8 (I_,VM,XY,())
def cR(Ti Wb:D):M D :=
 bd (bd (bd (oM<|aF Ti<|.int 0) λx1=>oM<|bw [x1]) λl3=>bd (aZ (λd2=>.ret<|some<|.int 0) l3) cq) λl4=>bd (bd (oM<|dE [Wb]) λx5=>oM<|bw [x5]) λl6=>cO (λZ3 d16 kn=>jV Z3.1 Z3.2.1 Z3.2.2.1 d16 kn) l6 (Ti,Wb,l4,()) λZ3=>jW Z3.1 Z3.2.1 Z3.2.2.1
def uo:=Rw cR
theorem fQ(B:BN K mg):CF P w K mg base "_law_begun" 1 (J_ K 2 uo) :=
 RL ["_law_rule_here","_law_counts_here","_law_found","_law_sort","_law_room"] B.UI λhr nd =>
  (af (aG (sh:=[.f,.f,.o,.z,.z])<|p9 (i:=2) nd rfl ?jy (.inl rfl) (N':=RD) (k:=1) rfl ?H (bE rfl B.i (aa ?J az) rfl) (λ_ _ _ _ _=>(aA (i:=5) (show 5<=5 by decide) nA)) ?ji (λ_ _ _ _ _=>ak) rfl ?R)
  <|af (br (sh:=[.f,.f,.o,.z,.z]) PassesOwn.leaving rfl (bI<|bE rfl B.i (aa (aS bJ cX B.i eh<|aE ?qH aI) az) rfl) (aA (i:=3) ?X nd)
  <|af (aG (sh:=[.f,.f,.o,.f,.f])<|aM (i:=4) nd<|aq<|n_ hr (ao ?J) ?qh)
  <|au<|px (i:=2) rfl ?jf (aq<|av 4) (aq<|aT bq bH (ao<|n_ hr (aY (i:=2)) ?qu)<|ao<|n_ hr ?qH ?qh) ?R rfl rfl rfl)
  <|au<|aK<|aq<|bG bf cf B.i ?E<|aE (aY (i:=2)) aI)
abbrev RN:Re Str:=["_law_rule_here","_law_crowd","_law_words","_law_room"]
theorem oI:RN.Nodup:=by decide +kernel
def dI(Ti gaG:D):M D :=
 bd (bd (bd (bd (oM (aF Ti (.int 0))) λx1=>oM (bw [x1])) λl7=>bd (aZ (λd2=>bd (bd (oM (aF gaG d2)) λx3=>oM (dX x3 (.int 0))) λb6=>if b6 then bd (bd (oM (aF Ti (.int 3))) λx4=>oM (aF x4 d2)) λx5=>.ret (some x5)else .ret none) l7) cq) λl8=>.ret (PyData.list l8)) λx9=>bd (oM (bB (.bool false) x9)) λTz=>if Tz then
  .ret (.str "yes")
  else
  bd (bd (oM (gz (.bool true) x9)) λXc=>if Xc then .ret (.str "both")else .ret (.str "no")) λSV=>.ret SV
def wu:=Rw dI
theorem nh(B:BN K mg):CF P w K mg base "_law_said" 1 (J_ K 2 wu) :=
 RL ["_law_rule_here","_law_crowd","_law_words"] B.Vp λhr nd =>
  (af (aG (sh:=[.z,.z,.f])<|cE (i:=2) nd rfl ?jy (.inl rfl) (N':=RN) (k:=1) rfl ?H (bE rfl B.i (aa ?J az) rfl) (λ_ _ _ _ _=>(aA (i:=3) (show 3<=3 by decide) oI)) (λ_ _ _ _ _=>(dq<|aJ fU fV (ao<|n_ hr ?qH ?qh) ?P)) (λ_ _ _ _ _=>(n_ hr (ao ?J) ?qh)) rfl ?R)
  <|af (bF (aW<|aJ (bU ?O) cg (ao dM) ?jL)
  (au<|aK<|aq bM)
  aR)
  <|au<|aK<|aq<|vy (aJ (mZ ?O) rQ (ao dM) ?jL) bM bM)
abbrev RS:Re Str:=["_law_found","_law_goals","_law_seen","_law_many","_law_crowd","_law_steps_here","_law_goal"]
theorem oO:RS.Nodup:=by decide +kernel
abbrev RQ:Re Str:=["_law_found","_law_goals","_law_seen","_law_many","_law_crowd","_law_steps_here","_law_step"]
theorem oN:RQ.Nodup:=by decide +kernel
def tO(QU:D)(Xp:Re ?N)(W6:D):M D :=
 .ret<|PyData.dict Xp
def tN(Y8:D×Re ?N×D×Unit->M D)(QU:D)(Xp:Re ?N)(W6:D):M D :=
 Y8 (QU,Xp,W6,())
def fj(Y8:D×Re ?N×D×Unit->M D)(QU:D)(Xp:Re ?N)(W6 d_:D)(zaH:D×Re ?N×D×Unit->M D):M D :=
 bd (bd (bd (bd (oM<|aF QU d_) λTR=>oM<|cH TR) λXX=>bd (aZ (λT5=>bd (bd (oM<|aF T5<|.int 1) λTj=>oM<|gz Tj<|PyData.dict Xp) λUK=>if UK then .ret (some T5)else .ret none) XX) cq) λV4=>.ret<|PyData.list V4) λR5=>bd (oM<|cW R5 ?j5) λb20=>if b20 then
  bd (oM<|hV true Xp d_<|.bool true) λXU=>zaH (QU,XU,W6,())
  else
  zaH (QU,Xp,W6,())
def db(QU:D)(Xp:Re ?N)(W6:D)(Y8:D×Re ?N×D×Unit->M D):M D :=
 bd (bd (oM<|nM [(PyData.dict Xp)]) λx8=>oM<|dU W6 x8) λb9=>if b9 then
  bd (oM<|nM [(PyData.dict Xp)]) λRU=>bd (oM<|vO QU) λUN=>cO (λTV d23 kn=>fj Y8 TV.1 TV.2.1 TV.2.2.1 d23 kn) UN (QU,Xp,RU,()) λTV=>tN Y8 TV.1 TV.2.1 TV.2.2.1
  else tO QU Xp W6
def gf(gbp gbq:D):M D :=
 bd (bd (bd (oM<|cH gbq) λl2=>bd (aZ (λd1=>.ret<|some<|.tuple [d1,(.bool true)]) l2) cq) λl3=>.ret<|PyData.list l3) λx4=>bd (oM<|zf true x4) λl5=>bd (oM<|Fs<|.int 1) λx6=>jX (λZ2 kn=>db Z2.1 Z2.2.1 Z2.2.2.1 kn) 10000 (gbp,l5,x6,())
def wC:=Rw gf
theorem nr(B:BN K mg):CF P w K mg base "_law_back" 1 (J_ K 2 wC) :=
 RL ["_law_found","_law_goals","_law_seen","_law_many","_law_crowd","_law_steps_here"] B.Vx λhr nd =>
  (af (aG (sh:=[.f,.z,.t,.z,.z,.z])<|AN true true (i:=2) rfl ?O rfl B.i nd rfl ?jy (aq<|dY<|cG (N':=RS) (k:=1) rfl ?H (bZ<|av 1) (λ_ _ _ _ _=>(aA (i:=6) (show 6<=6 by decide) oO)) ?ji λ_ _ _ _ _=>(bC<|aa (av 6)<|aa dM az)) rfl rfl<|.inl rfl)
  <|af (aG (sh:=[.f,.z,.t,.f,.z,.z])<|aM (i:=3) nd<|aq<|Od Kn Ln ?P)
  <|af (gP (sh:=[.f,.z,.t,.f,.z,.z]) (fuel:=10000) PassesOwn.leaving (aW<|aJ (iT ?O) iV ?qh<|ao<|aS gO kW B.i eh<|aE (aY (i:=2)) aI)
  <|af (aG (sh:=[.f,.z,.t,.f,.z,.z])<|aM (i:=3) nd<|aq<|aS gO kW B.i eh<|aE (aY (i:=2)) aI)
  <|au<|br (sh:=[.f,.z,.t,.f,.z,.z]) PassesOwn.leaving rfl (bI<|jK ?qi) (aA (i:=4) ?X nd)
  <|af (aG (sh:=[.f,.z,.t,.f,.f,.f])<|cE (i:=5) nd rfl ?jy (.inl rfl) (N':=RQ) (k:=1) rfl ?H (bZ<|n_ hr (g_ 0) ?qu) (λ_ _ _ _ _=>(aA (i:=6) (show 6<=6 by decide) oN)) (λ_ _ _ _ _=>(dq<|aJ (mZ ?O) rQ (ao<|n_ hr (g_ 6) ?P)<|aY (i:=2))) (λ_ _ _ _ _=>(av 6)) rfl ?R)
  <|au<|bF (aW<|aJ (dW ?O) bv (g_ 5) ?qD)
  (au<|iM ?O (i:=2) rfl ?jf (aq<|av 4) (aq dM) rfl)
  aR)
  <|au<|fN (i:=2)<|aK ?qe)
abbrev N_:Re Str:=["_law_rule_here","_law_question_here","_law_counts_here","_law_found","_law_word","_law_erring","_law_wrong","_law_right_here","_law_crowd"]
theorem fK:N_.Nodup:=by decide +kernel
def f9(Ti SR Wb:D):M D :=
 bd (bd (cR Ti Wb) λx1=>eJ Ti x1) λx2=>bd (bd (bd (dn 8 SR Wb) λx3=>oM<|mE [x3]) λx4=>oM<|aF (PyData.list [(.str "no"),(.str "yes")]) x4) λx5=>bd (bd (bd (oM<|vO x2) λl9=>bd (aZ (λd6=>bd (bd (dI Ti d6) λx7=>oM<|cW x7 x5) λb8=>if b8 then .ret (some d6)else .ret none) l9) cq) λY6=>.ret<|PyData.list Y6) λQ8=>bd (gf x2 Q8) λSV=>bd (bd (bd (bd (oM<|vO x2) λl15=>bd (aZ (λd13=>bd (oM<|bB d13 SV) λb14=>if b14 then .ret (some d13)else .ret none) l15) cq) λl16=>.ret<|PyData.list l16) λT9=>gf x2 T9) λYG=>bd (bd (bd (oM<|vO x2) λXU=>bd (aZ (λd19=>bd (oM<|bB d19 YG) λb20=>if b20 then .ret (some d19)else .ret none) XU) cq) λXT=>.ret<|PyData.list XT) λT8=>.ret T8
def wz:=U8 f9
theorem nj(B:BN K mg):CF P w K mg base "_law_lost" 10 (J_ K 3 wz) :=
 RL ["_law_rule_here","_law_question_here","_law_counts_here","_law_found","_law_word","_law_erring","_law_wrong","_law_right_here"] B.Vu λhr nd =>
  (af (aG (sh:=[.f,.f,.f,.f,.z,.z,.z,.z])<|aM (i:=3) nd<|aq<|bh (ka B) hr.m<|aa ?qi<|aa (bh (fQ B) hr.m<|aa ?qi ?jO) az)
  <|af (aG (sh:=[.f,.z,.z,.f,.f,.z,.z,.z])<|aM (i:=4) nd<|aq<|n_ hr (ao<|dY<|bX<|aa bM<|aa bM az)<|ao<|bG eP j8 B.i ?E<|aE (ao<|bh (lG B 8) hr.m<|aa (av 1) ?jO) aI)
  <|af (aG (sh:=[.z,.z,.z,.f,.z,.f,.z,.z])<|cE (i:=5) nd rfl ?jy (.inl rfl) (N':=N_) (k:=1) rfl ?H (jK ?jx) (λ_ _ _ _ _=>(aA (i:=8) (show 8<=8 by decide) fK)) (λ_ _ _ _ _=>(dq<|aJ (dW ?O) bv (ao<|bh (nh B) hr.m<|aa ?qi<|aa (av 8) az) ?qu)) (λ_ _ _ _ _=>(av 8)) rfl ?R)
  <|af (aG (sh:=[.z,.z,.z,.f,.z,.z,.f,.z])<|aM (i:=6) nd<|aq<|bh (nr B) hr.m<|aa ?jx<|aa (av 5) az)
  <|af (aG (sh:=[.z,.z,.z,.f,.z,.z,.z,.f])<|aM (i:=7) nd<|aq<|bh (nr B) hr.m<|aa ?jx<|aa (dY<|cG (N':=N_) (k:=1) rfl ?H (jK ?jx) (λ_ _ _ _ _=>(aA (i:=8) (show 8<=8 by decide) fK)) (λ_ _ _ _ _=>(dq<|aJ (bU ?O) cg (g_ 8)<|g_ 6)) λ_ _ _ _ _=>(av 8)) az)
  <|au<|aK<|aq<|dY<|cG (N':=N_) (k:=1) rfl ?H (jK ?jx) (λ_ _ _ _ _=>(aA (i:=8) (show 8<=8 by decide) fK)) (λ_ _ _ _ _=>(dq<|aJ (bU ?O) cg (g_ 8) ?qW)) λ_ _ _ _ _=>(av 8))
def cC(Xo:D):M D :=
 bd (bd (bd (oM (qh "int" Xo)) λb2=>if b2 then bd (oM (qh "bool" Xo)) λb1=>.ret (!b1)else .ret false) λb3=>.ret (.bool b3)) λx4=>.ret x4
def nC:=WV cC
theorem eU(B:BN K mg):CF P w K mg base "_law_is_number" 1 (J_ K 1 nC) :=
 RL ["_law_thing"] B.SH λhr nd =>
  (au<|aK<|aq<|fO<|kP (tU (T := "int") ?C rfl B.i rfl B.i ?E (g_ 0) rfl rfl rfl)<|kO<|G5<|tU (T := "bool") ?C rfl B.i rfl B.i ?E (g_ 0) rfl rfl rfl)
abbrev QP:Re Str:=["_law_thing","_law_many","_law_one"]
theorem jA:QP.Nodup:=by decide +kernel
def cQ(Xo gaT:D):M D :=
 bd (bd (bd (oM<|qh "tuple" Xo) λb1=>.ret<|!b1) λb3=>if b3 then .ret true else bd (oM<|dE [Xo]) λx2=>oM<|cW x2 gaT) λb4=>if b4 then
  .ret (.bool false)
  else
  bd (bd (bd (bd (oM<|cH Xo) λY6=>bd (aZ (λd5=>bd (bd (bd (bd (cC d5) λx6=>oM<|fF x6) λb7=>.ret<|!b7) λb8=>if b8 then .ret true else oM (dU d5<|.int 0)) λb9=>if b9 then .ret (some d5)else .ret none) Y6) cq) λUN=>.ret<|PyData.list UN) λSV=>oM<|cW SV ?j5) λb13=>if b13 then
  .ret (.bool false)
  else
  bd (bd (bd (oM<|fA [Xo]) λTn=>oM<|dX Tn<|.int 0) λb15=>.ret<|.bool b15) λU1=>.ret U1
def md:=Rw cQ
theorem gV(B:BN K mg):CF P w K mg base "_law_is_counted" 2 (J_ K 2 md) :=
 RL ["_law_thing","_law_many"] B.Sl λhr nd =>
  (af (bF (aW<|fB<|iK (eK<|pj (tU (T := "tuple") ?C rfl B.i rfl B.i ?E (g_ 0) rfl rfl rfl) ?R)<|i6<|aJ (dW ?O) bv (ao<|aS bJ cX B.i eh<|aE (g_ 0) aI) ?qH)
  ?jB
  aR)
  <|af (bF (aW<|aJ (dW ?O) bv (ao<|dY<|cG (N':=QP) (k:=1) rfl ?H (bZ ?qi) (λ_ _ _ _ _=>(aA (i:=2) (show 2<=2 by decide) jA)) (λ_ _ _ _ _=>(dq<|fB<|iK (eK<|fk (ao<|bh (eU B) hr.m ?jO) ?R)<|i6<|aJ (iT ?O) iV ?jL ?P)) λ_ _ _ _ _=>(av 2)) ?qD)
  ?jB
  aR)
  <|au<|aK<|aq<|fO<|cA fU fV (ao<|aS (dQ rfl) gG B.i ?E<|aE (g_ 0) aI) ?P)
def eC(Ti gbe:D)(gbD gbr:D):M D :=
 bd (oM (aF gbe gbD)) λx1=>bd (bd (bd (oM (qh "tuple" x1)) λb2=>.ret (!b2)) λb9=>if b9 then .ret true else bd (bd (oM (dE [x1])) λx3=>oM (cW x3 (.int 2))) λb8=>if b8 then .ret true else bd (bd (bd (oM (aF x1 (.int 0))) λx4=>bd (oM (aF Ti (.int 0))) λx5=>cQ x4 x5) λx6=>oM (fF x6)) λb7=>.ret (!b7)) λTz=>if Tz then
  .ret (.bool true)
  else
  bd (bd (bd (bd (oM (aF x1 (.int 0))) λQ8=>oM (fA [Q8])) λSV=>oM (cW SV gbr)) λXb=>if Xb then .ret true else bd (bd (bd (bd (oM (aF x1 (.int 1))) λTR=>cC TR) λTn=>oM (fF Tn)) λb15=>.ret (!b15)) λb17=>if b17 then .ret true else bd (oM (aF x1 (.int 1))) λU1=>oM (dU U1 (.int 0))) λb19=>if b19 then
  .ret (.bool true)
  else
  bd (bd (bd (oM (dX gbD (.int 0))) λb25=>if b25 then bd (bd (bd (bd (oM (gT gbD (.int 1))) λTQ=>oM (aF gbe TQ)) λVR=>oM (aF VR (.int 0))) λU0=>bd (oM (aF x1 (.int 0))) λT8=>oM (dU U0 T8)) λb24=>.ret (!b24)else .ret false) λZv=>.ret (.bool Zv)) λXi=>.ret Xi
def oS:=Y5 eC
theorem oF(B:BN K mg):CF P w K mg base "_law_rank_bad" 3 (J_ K 4 oS) :=
 RL ["_law_rule_here","_law_ranks","_law_k","_law_hands","_law_one"] B.S_ λhr nd =>
  (af (aG (sh:=[.f,.f,.f,.f,.f])<|aM (i:=4) nd<|aq<|n_ hr ?qH ?jL)
  <|af (bF (aW<|fB<|iK (eK<|pj (tU (T := "tuple") ?C rfl B.i rfl B.i ?E ?qu rfl rfl rfl) ?R)<|iK (aJ (dW ?O) bv (ao<|aS bJ cX B.i eh<|aE ?qu aI) ?P)<|i6<|eK<|fk (ao<|bh (gV B) hr.m<|aa (n_ hr ?qu ?P)<|aa ?J az) ?R)
  ?jB
  aR)
  <|af (bF (aW<|fB<|iK (aJ (dW ?O) bv (ao<|aS (dQ rfl) gG B.i ?E<|aE (ao<|n_ hr ?qu ?P) aI) ?qh)<|iK (eK<|fk (ao<|bh (eU B) hr.m<|aa (n_ hr ?qu ?P) az) ?R)<|i6<|aJ (iT ?O) iV (ao<|n_ hr ?qu ?P) ?P)
  ?jB
  aR)
  <|au<|aK<|aq<|fO<|kP (cA fU fV ?jL ?P)<|kO<|G5<|cA (iT ?O) iV (ao<|n_ hr (ao<|n_ hr ?qH<|ao<|aT oB oD ?jL ?P) ?P)<|ao<|n_ hr ?qu ?P)
abbrev Q_:Re Str:=["_law_rule_here","_law_question_here","_law_thing","_law_counts_here","_law_numbers","_law_ranks","_law_crowd","_law_k","_law_steps_here","_law_told","_law_word","_law_here","_law_rank","_law_behind","_law_lesser","_law_number","_law_later"]
theorem gB:Q_.Nodup:=by decide +kernel
abbrev L_:Re Str:=["_law_rule_here","_law_question_here","_law_thing","_law_counts_here","_law_numbers","_law_ranks","_law_crowd","_law_k","_law_steps_here","_law_told","_law_word","_law_here","_law_rank","_law_behind","_law_lesser","_law_later"]
theorem gA:L_.Nodup:=by decide +kernel
def nV(I_ V_:D)(gbl:Re ?N)(gby:D):M D :=
 .ret .none
def e9(I_ V_:D)(gbl:Re ?N)(gby d_:D)(zbm:D×D×Re ?N×D×Unit->M D):M D :=
 bd (oM (aF V_ d_)) λx33=>To x33 λy34 y35=>bd (bd (bd (bd (dS I_ y34) λx36=>oM (cH x36)) λl40=>bd (aZ (λd37=>To d37 λy38 y39=>.ret (some y39)) l40) cq) λl41=>.ret (PyData.list l41)) λZA=>bd (bd (bd (bd (oM (cH ZA)) λl45=>bd (aZ (λd43=>bd (oM (bB d43 (PyData.dict gbl))) λb44=>if b44 then .ret (some d43)else .ret none) l45) cq) λl46=>.ret (PyData.list l46)) λx47=>oM (cW x47 ?j5)) λb48=>if b48 then
  .ret (.tuple [(.str "closed"),d_])
  else
  bd (bd (bd (oM (cH ZA)) λl52=>bd (aZ (λd49=>bd (bd (oM (aF (PyData.dict gbl) d49)) λx50=>oM (dU x50 y35)) λb51=>if b51 then .ret (some d49)else .ret none) l52) cq) λl53=>.ret (PyData.list l53)) λx54=>bd (bd (bd (oM (bx y35 (.int 0))) λb56=>if b56 then bd (dI I_ y34) λx55=>oM (bx x55 gby)else .ret false) λb58=>if b58 then .ret true else bd (oM (dX y35 (.int 0))) λb57=>if b57 then oM (bx x54 ?j5)else .ret false) λb59=>if b59 then
  .ret (.tuple [(.str "falls"),d_])
  else
  zbm (I_,V_,gbl,gby,())
def iI(I_ RA:D)(VM V_ Ui:D):M D :=
 bd (oM<|As true V_) λYs=>bd (oM<|bB Ui<|PyData.dict Ys) λZv=>if Zv then
  .ret (.tuple [(.str "from"),(.int 0)])
  else
  bd (bd (bd (dn 8 RA VM) λXi=>oM<|mE [Xi]) λWO=>oM<|aF (PyData.list [(.str "no"),(.str "yes")]) WO) λx29=>bd (bd (oM<|dE [V_]) λx30=>oM<|bw [x30]) λl31=>cO (λYW d61 kn=>e9 YW.1 YW.2.1 YW.2.2.1 YW.2.2.2.1 d61 kn) l31 (I_,V_,Ys,x29,()) λYW=>nV YW.1 YW.2.1 YW.2.2.1 YW.2.2.2.1
def iG(I_ RA:D)(VM V_:D)(Ui d_:D)(zbk:D×D×D×D×D×Unit->M D):M D :=
 bd (bd (bd (oM<|fA [VM]) λx63=>eC I_ V_ d_ x63) λx64=>oM<|fF x64) λb65=>if b65 then
  .ret (.tuple [(.str "rank"),d_])
  else
  zbk (I_,RA,VM,V_,Ui,())
def iJ(I_ RA:D)(VM gaY:D)(V_ Ui:D):M D :=
 bd (bd (oM<|dE [V_]) λT8=>oM<|bw [T8]) λl24=>cO (λXA d67 kn=>iG XA.1 XA.2.1 XA.2.2.1 XA.2.2.2.1 XA.2.2.2.2.1 d67 kn) l24 (I_,RA,VM,V_,Ui,()) λXA=>iI XA.1 XA.2.1 XA.2.2.1 XA.2.2.2.1 XA.2.2.2.2.1
def iH(I_ RA:D)(VM gaY:D)(V_ Ui d_:D)(zbj:D×D×D×D×D×D×Unit->M D):M D :=
 bd (dS I_ Ui) λx69=>bd (oM<|zf false x69) λl70=>bd (bd (bd (bd (bd (oM<|aF gaY d_) λx71=>cC x71) λx72=>oM<|fF x72) λb73=>.ret<|!b73) λb75=>if b75 then .ret true else bd (oM<|aF gaY d_) λx74=>oM<|bB x74<|PyData.dict l70) λb76=>if b76 then
  .ret (.tuple [(.str "way"),d_])
  else
  bd (bd (oM<|aF gaY d_) λx77=>oM<|aF (PyData.dict l70) x77) λx78=>zbj (I_,RA,VM,gaY,V_,x78,())
def fg(Ti SR Xo:D):M D :=
 bd (bd (bd (oM<|qh "tuple" Xo) λb1=>.ret<|!b1) λb9=>if b9 then .ret true else bd (bd (oM<|dE [Xo]) λx2=>oM<|cW x2<|.int 3) λb8=>if b8 then .ret true else bd (bd (bd (oM<|aF Xo<|.int 0) λx3=>bd (bd (oM<|aF Ti<|.int 1) λx4=>oM<|dE [x4]) λx5=>cQ x3 x5) λx6=>oM<|fF x6) λb7=>.ret<|!b7) λTz=>if Tz then
  .ret (.tuple [(.str "shape"),(.int 0)])
  else
  un3 Xo λy11 y12 y13=>bd (bd (bd (oM<|fA [y11]) λTn=>oM<|dX Tn<|.int 60) λXb=>if Xb then .ret true else bd (bd (oM<|qh "tuple" y12) λb15=>.ret<|!b15) λb17=>if b17 then .ret true else bd (oM<|qh "tuple" y13) λUK=>.ret<|!UK) λb19=>if b19 then
  .ret (.tuple [(.str "shape"),(.int 0)])
  else
  bd (cR Ti y11) λTQ=>bd (bd (oM<|dE [y12]) λVR=>oM<|bw [VR]) λXT=>cO (λWQ d80 kn=>iH WQ.1 WQ.2.1 WQ.2.2.1 WQ.2.2.2.1 WQ.2.2.2.2.1 WQ.2.2.2.2.2.1 d80 kn) XT (Ti,SR,y11,y12,y13,TQ,()) λWQ=>iJ WQ.1 WQ.2.1 WQ.2.2.1 WQ.2.2.2.1 WQ.2.2.2.2.1 WQ.2.2.2.2.2.1
def qf:=U8 fg
theorem qd(B:BN K mg):CF P w K mg base "_law_err_due" 10 (J_ K 3 qf) :=
 RL ["_law_rule_here","_law_question_here","_law_thing","_law_counts_here","_law_numbers","_law_ranks","_law_crowd","_law_k","_law_steps_here","_law_told","_law_word","_law_here","_law_rank","_law_behind","_law_lesser"] B.Tx λhr nd =>
  (af (bF (aW<|fB<|iK (eK<|pj (tU (T := "tuple") ?C rfl B.i rfl B.i ?E ?jL rfl rfl rfl) ?R)<|iK (aJ (dW ?O) bv (ao<|aS bJ cX B.i eh<|aE ?jL aI) ?P)<|i6<|eK<|fk (ao<|bh (gV B) hr.m<|aa (n_ hr ?jL ?P)<|aa (aS bJ cX B.i eh<|aE (ao ?J) aI) az) ?R)
  (au<|aK<|aq<|bC<|aa bM ?qC)
  aR)
  <|af (aG (sh:=[.f,.f,.z,.f,.f,.f,.z,.z,.z,.z,.z,.z,.z,.z,.z])<|py ?qe (Ct rfl (aX (aA (i:=3) ?X nd) (aX (aA (i:=4) ?X nd) (aX (aA (i:=5) ?X nd) dw rfl) rfl) rfl) rfl rfl) rfl rfl rfl)
  <|af (bF (aW<|fB<|iK (aJ fU fV (ao<|aS (dQ rfl) gG B.i ?E<|aE ?qh aI) ?P)<|iK (eK<|pj (tU (T := "tuple") ?C rfl B.i rfl B.i ?E ?qu rfl rfl rfl) ?R)<|i6<|eK<|pj (tU (T := "tuple") ?C rfl B.i rfl B.i ?E (g_ 5) rfl rfl rfl) ?R)
  (au<|aK<|aq<|bC<|aa bM ?qC)
  aR)
  <|af (aG (sh:=[.f,.f,.z,.f,.f,.f,.f,.z,.z,.z,.z,.z,.z,.z,.z])<|aM (i:=6) nd<|aq<|bh (fQ B) hr.m<|aa ?qi<|aa ?jx az)
  <|af (br (sh:=[.f,.f,.z,.f,.f,.f,.f,.z,.z,.z,.z,.z,.z,.z,.z]) PassesOwn.leaving rfl (bI<|bE rfl B.i (aa (aS bJ cX B.i eh<|aE ?qu aI) az) rfl) (aA (i:=7) ?X nd)
  <|af (aG (sh:=[.f,.f,.z,.f,.f,.f,.z,.f,.k,.z,.z,.z,.z,.z,.z])<|AN true false (i:=8) rfl ?O rfl B.i nd rfl ?jy (aq<|bh (iW B) hr.m<|aa ?qi<|aa (av 6) az) rfl rfl<|.inl rfl)
  <|af (bF (aW<|fB<|iK (eK<|fk (ao<|bh (eU B) hr.m<|aa (n_ hr ?qu ?qW) az) ?R)<|i6<|aJ (bU ?O) cg (ao<|n_ hr ?qu ?qW)<|aY (i:=8))
  (au<|aK<|aq<|bC<|aa bM ?qb)
  aR)
  <|au<|aM (i:=6) nd<|aq<|n_ hr (aY (i:=8))<|ao<|n_ hr ?qu ?qW)
  <|af (br (sh:=[.f,.f,.z,.f,.z,.f,.f,.z,.z,.z,.z,.z,.z,.z,.z]) PassesOwn.leaving rfl (bI<|bE rfl B.i (aa (aS bJ cX B.i eh<|aE (g_ 5) aI) az) rfl) (aA (i:=7) ?X nd)
  <|au<|bF (aW<|fk (ao<|bh (oF B) hr.m<|aa ?qi<|aa (av 5)<|aa (av 7)<|aa (aS (dQ rfl) gG B.i ?E<|aE ?qh aI) az) ?R)
  (au<|aK<|aq<|bC<|aa bM ?qb)
  aR)
  <|af (aG (sh:=[.f,.f,.z,.f,.z,.f,.f,.z,.z,.t,.z,.z,.z,.z,.z])<|AN false true (i:=9) rfl ?O rfl B.i nd rfl ?jy (aq<|av 5) rfl rfl<|.inl rfl)
  <|af (bF (aW<|aJ (bU ?O) cg (g_ 6)<|aY (i:=9))
  (au<|aK<|aq<|bC<|aa bM ?qC)
  aR)
  <|af (aG (sh:=[.f,.z,.z,.z,.z,.f,.z,.z,.z,.t,.f,.z,.z,.z,.z])<|aM (i:=10) nd<|aq<|n_ hr (ao<|dY<|bX<|aa bM<|aa bM az)<|ao<|bG eP j8 B.i ?E<|aE (ao<|bh (lG B 8) hr.m<|aa (av 1)<|aa ?jx az) aI)
  <|af (br (sh:=[.f,.z,.z,.z,.z,.f,.z,.z,.z,.t,.f,.z,.z,.z,.z]) PassesOwn.leaving rfl (bI<|bE rfl B.i (aa (aS bJ cX B.i eh<|aE (g_ 5) aI) az) rfl) (aA (i:=7) ?X nd)
  <|af (aG (sh:=[.f,.z,.z,.z,.z,.f,.z,.f,.z,.t,.f,.f,.f,.z,.z])<|py (aq<|n_ hr (g_ 5) ?qW) (fw rfl (aX (aA (i:=11) ?X nd) (aX (aA (i:=12) ?X nd) dw rfl) rfl) rfl rfl) rfl rfl rfl)
  <|af (aG (sh:=[.f,.z,.z,.z,.z,.f,.z,.f,.z,.t,.f,.f,.f,.f,.z])<|cE (i:=13) nd rfl ?jy (.inl rfl) (N':=Q_) (k:=2) rfl ?H (bZ<|bh (iW B) hr.m<|aa ?qi<|aa (av 11) az) (λ_ _ _ _ _=>(fw rfl (aX (aA (i:=15) (show 15<=15 by decide) gB) (aX (aA (i:=16) (show 15<=16 by decide) gB) dw rfl) rfl) rfl rfl)) ?ji (λ_ _ _ _ _=>(av 16)) rfl ?R)
  <|af (bF (aW<|aJ (dW ?O) bv (ao<|dY<|cG (N':=L_) (k:=1) rfl ?H (bZ<|av 13) (λ_ _ _ _ _=>(aA (i:=15) (show 15<=15 by decide) gA)) (λ_ _ _ _ _=>(dq<|aJ (bU ?O) cg (g_ 15)<|aY (i:=9))) λ_ _ _ _ _=>(av 15)) ?qD)
  (au<|aK<|aq<|bC<|aa bM ?qb)
  aR)
  <|af (aG (sh:=[.f,.z,.z,.z,.z,.f,.z,.f,.z,.t,.f,.f,.f,.z,.f])<|cE (i:=14) nd rfl ?jy (.inl rfl) (N':=L_) (k:=1) rfl ?H (bZ<|av 13) (λ_ _ _ _ _=>(aA (i:=15) (show 15<=15 by decide) gA)) (λ_ _ _ _ _=>(dq<|aJ (iT ?O) iV (ao<|n_ hr (aY (i:=9))<|g_ 15)<|g_ 12)) (λ_ _ _ _ _=>(av 15)) rfl ?R)
  <|au<|bF (aW<|fB<|iK (fB<|kM (aJ ?jI bv (g_ 12) ?P)<|iL<|aJ ?jI bv (ao<|bh (nh B) hr.m<|aa ?qi<|aa (av 11) az)<|g_ 10)<|i6<|fB<|kM (aJ fU fV (g_ 12) ?P)<|iL<|aJ ?jI bv (g_ 14) ?qD)
  (au<|aK<|aq<|bC<|aa bM ?qb)
  aR)
  <|au<|aK<|aq fm)
abbrev QR:Re Str:=["_law_sorts","_law_most","_law_rows_here","_law_sort","_law_longer","_law_row ","_law_found","_law_hands","_law_row"]
theorem jC:QR.Nodup:=by decide +kernel
abbrev QQ:Re Str:=["_law_sorts","_law_most","_law_rows_here","_law_sort","_law_longer","_law_row","_law_found","_law_hands","_law_many"]
theorem jB:QQ.Nodup:=by decide +kernel
def kL(Vm:D)(QU:Re D):M D :=
 .ret<|PyData.list QU
def gb(Vm:D)(QU:Re D)(d_:D)(kn4:D×Re D×Unit->M D):M D :=
 bd (bd (bd (bd (oM<|cH Vm) λl8=>bd (aZ (λd5=>bd (bd (oM<|fA [d5]) λx6=>oM<|bx x6 d_) λb7=>if b7 then .ret (some d5)else .ret none) l8) cq) λl9=>.ret<|PyData.list l9) λRU=>oM<|pS [RU]) λUN=>bd (oM<|zX QU UN) λTX=>kn4 (Vm,TX,())
def dL(We Vm:D):M D :=
 bd (bd (oM<|bD We<|.int 1) λx2=>oM<|eA [(.int 1),x2]) λl3=>cO (λH_ T5 kn=>gb H_.1 H_.2.1 T5 kn) l3 (Vm,[],()) λH_=>kL H_.1 H_.2.1
def kJ(V6:D×D×Unit->M D)(We:D)(gbh:Re D):M D :=
 V6 (We,(PyData.list gbh),())
def kI(V6:D×D×Unit->M D)(We:D)(gbh:Re D)(d_:D)(zbq:D×Re D×Unit->M D):M D :=
 bd (bd (bd (bd (bd (oM<|fA [d_]) λYG=>oM<|gT We YG) λR5=>oM<|bD R5<|.int 1) λTQ=>oM<|bw [TQ]) λl23=>bd (aZ (λd21=>bd (oM<|bD d_<|.tuple [d21]) λU0=>.ret<|some U0) l23) cq) λl24=>bd (oM<|zX gbh l24) λYs=>zbq (We,Ys,())
def gc(We Vm d_:D)(V6:D×D×Unit->M D):M D :=
 bd (oM<|cH Vm) λl16=>cO (λUo d27 kn=>kI V6 Uo.1 Uo.2.1 d27 kn) l16 (We,[],()) λUo=>kJ V6 Uo.1 Uo.2.1
def cS(WG Wa:D):M D :=
 bd (oM<|bw [WG]) λl1=>cO (λR9 d29 kn=>gc R9.1 R9.2.1 d29 kn) l1 (Wa,(PyData.list [(.tuple [])]),()) λR9=>dL R9.1 R9.2.1
def mm:=Rw cS
theorem lY(B:BN K mg):CF P w K mg base "_law_beginnings" 1 (J_ K 2 mm) :=
 RL ["_law_sorts","_law_most","_law_rows_here","_law_sort","_law_longer","_law_row","_law_found","_law_hands"] B.Sn λhr nd =>
  (af (aG (sh:=[.f,.f,.f,.z,.z,.z,.z,.z])<|aM (i:=2) nd<|aq<|dY<|bX<|aa (bC az) az)
  <|af (br (sh:=[.z,.f,.f,.z,.z,.z,.z,.z]) PassesOwn.leaving rfl (bI<|bE rfl B.i (aa ?qi az) rfl) (aA (i:=3) ?X nd)
  <|af (aG (sh:=[.z,.f,.f,.z,.o,.z,.z,.z])<|cU (i:=4) nd ?qQ)
  <|af (br (sh:=[.z,.f,.z,.z,.o,.z,.z,.z]) PassesOwn.leaving rfl (bI<|bZ<|av 2) (aA (i:=5) ?X nd)
  <|au<|qL (i:=4) rfl ?jf (cK<|cG (N':=QQ) (k:=1) rfl ?H (bE rfl B.i (aa (aT bq bH (ao<|aT oB oD ?qH<|ao<|aS (dQ rfl) gG B.i ?E<|aE (g_ 5) aI) ?P) az) rfl) (λ_ _ _ _ _=>(aA (i:=8) (show 8<=8 by decide) jB)) ?ji λ_ _ _ _ _=>(aT bq bH (g_ 5)<|ao<|bC<|aa (av 8) az)) rfl rfl rfl rfl rfl rfl)
  <|au<|fN (i:=4)<|aM (i:=2) nd<|aq<|av 4)
  <|af (aG (sh:=[.z,.f,.f,.z,.z,.z,.o,.z])<|cU (i:=6) nd ?qQ)
  <|af (br (sh:=[.z,.z,.f,.z,.z,.z,.o,.z]) PassesOwn.leaving rfl (bI<|js rfl B.i (aa ak<|aa (aT bq bH ?qH ?P) az) rfl rfl) (aA (i:=7) ?X nd)
  <|au<|qL (i:=6) rfl ?jf (cK<|tR o8 v3 B.i ?E<|aE (ao<|dY<|cG (N':=QR) (k:=1) rfl ?H (bZ<|av 2) (λ_ _ _ _ _=>(aA (i:=8) (show 8<=8 by decide) jC)) (λ_ _ _ _ _=>(dq<|aJ ?jI bv (ao<|aS (dQ rfl) gG B.i ?E<|aE (g_ 8) aI) ?qW)) λ_ _ _ _ _=>(av 8)) aI) rfl rfl rfl rfl rfl rfl)
  <|au<|fN (i:=6)<|aK<|aq<|av 6)
def i5(gaz:D):M D :=
 un4 gaz λy1 y2 y3 y4=>bd (dH y1 y2 y3 y4) λx5=>.ret x5
def rZ:=WV i5
theorem rT(B:BN K mg):CF P w K mg base "_law_ask_at" 12 (J_ K 1 rZ) :=
 RL ["_law_things","_law_rule_here","_law_question_here","_law_counts_here","_law_limit"] B.T4 λhr nd =>
  (af (aG (sh:=[.z,.f,.f,.f,.f])<|py (aq ?qi) (Cq rfl (aX (aA (i:=1) ?X nd) (aX (aA (i:=2) ?X nd) (aX (aA (i:=3) ?X nd) (aX (aA (i:=4) ?X nd) dw rfl) rfl) rfl) rfl) rfl rfl) rfl rfl rfl)
  <|au<|aK<|aq<|bh (kX B).1 hr.m<|aa (av 1)<|aa (av 2)<|aa ?jx ?qa)
def i4(gaz:D):M D :=
 un4 gaz λy1 y2 y3 y4=>bd (hW y1 y2 y3 y4) λx5=>.ret x5
def rY:=WV i4
theorem rS(B:BN K mg):CF P w K mg base "_law_ask_of" 13 (J_ K 1 rY) :=
 RL ["_law_things","_law_rule_here","_law_question_here","_law_most","_law_limit"] B.T3 λhr nd =>
  (af (aG (sh:=[.z,.f,.f,.f,.f])<|py (aq ?qi) (Cq rfl (aX (aA (i:=1) ?X nd) (aX (aA (i:=2) ?X nd) (aX (aA (i:=3) ?X nd) (aX (aA (i:=4) ?X nd) dw rfl) rfl) rfl) rfl) rfl rfl) rfl rfl rfl)
  <|au<|aK<|aq<|bh (oE B).1 hr.m<|aa (av 1)<|aa (av 2)<|aa ?jx ?qa)
def dm(QU:D):M D :=
 .ret QU
def cL(gbi gaz:D):M D :=
 Hi (A:=D×Unit) (B:=Unit) (onX (λe_=>.ret (.inr (e_,(())))) (elF gbi "_law_ask_at" (NI gbi "_law_ask_at" (i5 gaz)) (NI gbi "_law_ask_of" (i4 gaz))) λx1=>.ret (.inl ((.bool false),()))) (λs4=>dm s4.1) (λe2 s3=>uS ["TooMany"] e2.cls (onX (λ_=>.bad) (bd (oM (g6 [("TooMany",false)] (nO e2))) λb5=>.ret (.bool b5)) λx6=>onX (λ_=>.bad) (bd (bd (oM (g6 [("TooMany",true)] (nO e2))) λb9=>if b9 then bd (oM (g6 [("TooMany",true)] (nO e2))) λb8=>if b8 then bd (oM (fF x6)) λb7=>.ret (!b7)else .ret false else .ret false) λTz=>.ret (.bool Tz)) λQ8=>dm Q8))
def oQ:=Rw cL
theorem jk(B:BN K mg):CF P w K mg base "_law_too_many" 14 (J_ K 2 oQ) :=
 RL ["_law_ask","_law_things","_law_found","e","_law_strange"] B.S9 λhr nd =>
  (af (aG (sh:=[.f,.f,.f,.z,.z])<|aM (i:=2) nd<|aq dM)
  <|af (aG (sh:=[.z,.z,.f,.z,.z])<|Jd (j:=3) (sh:=[.z,.z,.f,.z,.z]) (shx:=[.z,.z,.z,.z,.z]) B.k.h_PassError rfl (λ_ _=>(au<|Jg (aq<|Oe (b:=isF 0 "_law_ask_at") (GW (i:=0) (f := "_law_ask_at") (rT B) hr.m rfl ?jf ?je rfl rfl rfl)<|GW (i:=0) (f := "_law_ask_of") (rS B) hr.m rfl ?jf ?je rfl rfl rfl) rfl)) (λ_=>(af (aG (sh:=[.z,.z,.z,.f,.f])<|aM (i:=4) nd<|aq<|fO<|D6 B.k.r_ (.cons rfl ?C (gF rfl)<|.cons rfl ?C (gF rfl)<|.cons rfl ?C (gF rfl)<|.cons rfl ?C (gF rfl)<|.cons rfl ?C (gF rfl)<|.cons rfl ?C (gF rfl) .nil) ?C B.i rfl ?jx rfl rfl rfl)
  <|au<|aM (i:=2) nd<|aq<|fO<|kP (G8 B.k.WZ rfl B.i rfl ?jx rfl rfl rfl ?C)<|kP (G6 B.k.Ut rfl B.i ?E B.i rfl ?jx rfl rfl rfl ?C ?C)<|kO<|xE ?qu)) ?C nd rfl rfl rfl rfl ?C)
  <|au<|aK ?qe)
def tG(I_ RA:D)(Vm:Re D):M D :=
 .ret<|PyData.list Vm
def kH(I_ RA:D)(Vm:Re D)(d_:D)(kn5:D×D×Re D×Unit->M D):M D :=
 bd (bd (bd (cR I_ d_) λx6=>eJ I_ x6) λx7=>oM<|nM [x7]) λx8=>bd (bd (bd (bd (f9 I_ RA d_) λx9=>oM<|cW x9 ?j5) λTz=>.ret<|.bool Tz) λQ8=>.ret<|.tuple [d_,x8,Q8]) λSV=>bd (oM<|mn Vm [SV]) λWY=>kn5 (I_,RA,WY,())
def iD(Ti SR Wa:D):M D :=
 bd (bd (bd (bd (oM<|aF Ti<|.int 1) λx1=>oM<|dE [x1]) λx2=>cS x2 Wa) λx3=>oM<|cH x3) λl4=>cO (λVW Zr kn=>kH VW.1 VW.2.1 VW.2.2.1 Zr kn) l4 (Ti,SR,[],()) λVW=>tG VW.1 VW.2.1 VW.2.2.1
def ww:=U8 iD
theorem v7(B:BN K mg):CF P w K mg base "_law_rows" 11 (J_ K 3 ww) :=
 RL ["_law_rule_here","_law_question_here","_law_most","_law_rows_here","_law_counts_here","_law_many"] B.Vr λhr nd =>
  (af (aG (sh:=[.f,.f,.f,.o,.z,.z])<|cU (i:=3) nd ?qQ)
  <|af (br (sh:=[.f,.f,.z,.o,.z,.z]) PassesOwn.leaving rfl (bI<|bZ<|bh (lY B) hr.m<|aa (aS bJ cX B.i eh<|aE (ao ?J) aI) ?jO) (aA (i:=4) ?X nd)
  <|af (aG (sh:=[.f,.f,.z,.o,.f,.f])<|aM (i:=5) nd<|aq<|aS gO kW B.i eh<|aE (ao<|bh (ka B) hr.m<|aa ?qi<|aa (bh (fQ B) hr.m<|aa ?qi ?qa) az) aI)
  <|au<|gy (i:=3) rfl ?jf (aH (aq<|bC<|aa (av 4)<|aa (av 5)<|aa (fO<|cA (dW ?O) bv (ao<|bh (nj B) hr.m<|aa ?qi<|aa (av 1) ?qa) ?qD) az) aV) rfl rfl rfl rfl rfl rfl)
  <|au<|fN (i:=3)<|aK<|aq ?jx)
def qr(gbs:D):M D :=
 .ret .none
def jU(gbs d_:D)(Ru:D×Unit->M D):M D :=
 un3 d_ λy3 y4 y5=>bd (oM<|dX y4 gbs) λb6=>if b6 then
  .ret (.str "many")
  else
  bd (oM<|fF y5) λb7=>if b7 then
  .ret y3
  else
  Ru (gbs,())
def e7(ga8 gbt:D):M D :=
 bd (oM<|cH ga8) λl1=>cO (λs8 d9 kn=>jU s8.1 d9 kn) l1 (gbt,()) λs8=>qr s8.1
def uj:=Rw e7
theorem lH(B:BN K mg):CF P w K mg base "_law_first" 1 (J_ K 2 uj) :=
 RL ["_law_rows_here","_law_limit","_law_counts_here","_law_many","_law_errs"] B.UH λhr nd =>
  (af (br (sh:=[.z,.f,.z,.z,.z]) PassesOwn.leaving rfl (bI<|bZ ?qi) (Ct rfl (aX (aA (i:=2) ?X nd) (aX (aA (i:=3) ?X nd) (aX (aA (i:=4) ?X nd) dw rfl) rfl) rfl) rfl rfl)
  <|af (bF (aW<|aJ fU fV ?qh ?qH)
  (au<|aK<|aq bM)
  aR)
  <|au<|bF (aW<|fk ?qu ?R)
  (au<|aK ?qe)
  aR)
  <|au<|aK<|aq fm)
def cz(Ti SR:D)(ga6 Wb:D):M D :=
 bd (bd (oM (lF Wb .none)) λb1=>if b1 then .ret true else oM (lF ga6 .none)) λb2=>if b2 then
  bd (bd (bd (oM (lF Wb .none)) λb3=>if b3 then oM (lF ga6 .none)else .ret false) λb4=>.ret (.bool b4)) λx5=>.ret x5
  else
  bd (bd (bd (bd (fg Ti SR ga6) λx6=>oM (lF x6 .none)) λTz=>if Tz then bd (bd (oM (aF ga6 (.int 0))) λx7=>oM (ki [x7])) λx8=>bd (oM (ki [Wb])) λx9=>oM (bx x8 x9)else .ret false) λXc=>.ret (.bool Xc)) λSV=>.ret SV
def uh:=Y5 cz
theorem iX(B:BN K mg):CF P w K mg base "_law_right" 11 (J_ K 4 uh) :=
 RL ["_law_rule_here","_law_question_here","_law_told","_law_counts_here"] B.UE λhr nd =>
  (af (bF (aW<|fB<|iK (aJ mY bv ?qh<|ao fm)<|i6<|aJ mY bv ?jL<|ao fm)
  (au<|aK<|aq<|fO<|kP (cA mY bv ?qh<|ao fm)<|kO<|cA mY bv ?jL<|ao fm)
  aR)
  <|au<|aK<|aq<|fO<|kP (cA mY bv (ao<|bh (qd B) hr.m<|aa ?qi<|aa (av 1) ?jO)<|ao fm)<|kO<|cA ?jI bv (ao<|aS (lq ?O hr.gd) qD B.i ?E<|aE (ao<|n_ hr ?jL ?P) aI)<|ao<|aS (lq ?O hr.gd) qD B.i ?E<|aE ?qh aI)
abbrev Om:Re Str:=["_law_script","_law_k","_law_feed_here","_law_rule_here","_law_question_here","_law_wrote","_law_turn","_law_counts_here","_law_due","_law_many","_law_told","_law_things","_law_most","_law_rows_here","_law_limit"]
theorem A_:q_ Om ["_law_script"] (aP<|top 58):={rfl,rfl,rfl,by decide +kernel,rfl,by decide +kernel,by decide +kernel}
def GM(gap:D):M D :=
 .ret<|.bool true
def zp(Ru:D×Unit->M D)(gap I_:D)(RA Xq:D)(We Vm:D):M D :=
 bd (e7 Vm<|.int 1000) λTj=>bd (bd (bd (bd (hW I_ RA We<|.int 1000) λU1=>cz I_ RA U1 Tj) λT9=>oM<|fF T9) λXb=>.ret<|!Xb) λb19=>if b19 then
  .ret (.bool false)
  else
  bd (bd (oM<|ki [(.tuple [I_,RA])]) λTQ=>oM<|cW TQ Xq) λb21=>if b21 then
  .ret (.bool false)
  else
  Ru (gap,())
def tj(Ru:D×Unit->M D)(gap I_:D)(RA Xq:D)(We Vm d_:D)(zaF:D×D×D×D×D×D×Unit->M D):M D :=
 bd (e7 Vm d_) λT8=>bd (oM<|bx T8<|.str "many") λb24=>if b24 then
  bd (bd (bd (cL (ZO "_law_ask_of")<|.tuple [I_,RA,We,d_]) λUZ=>oM<|fF UZ) λZv=>.ret<|!Zv) λb27=>if b27 then
  .ret (.bool false)
  else
  zaF (gap,I_,RA,Xq,We,Vm,())
  else
  bd (bd (bd (bd (hW I_ RA We d_) λWO=>cz I_ RA WO T8) λx29=>oM<|fF x29) λb30=>.ret<|!b30) λb31=>if b31 then
  .ret (.bool false)
  else
  zaF (gap,I_,RA,Xq,We,Vm,())
def tB(Ru:D×Unit->M D)(gap:D)(Uy:Re D)(I_ RA Xq:D):M D :=
 bd (aB Uy<|.int 3) λr9=>bd (oM<|bD (.int 1) r9.1) λRU=>bd (iD I_ RA RU) λQ8=>bd (aB r9.2<|.int 12) λr12=>bd (oM<|bD (.int 1) r12.1) λTR=>bd (oM<|cH<|.list [(.int 1000),TR]) λXY=>cO (λWS d33 kn=>tj Ru WS.1 WS.2.1 WS.2.2.1 WS.2.2.2.1 WS.2.2.2.2.1 WS.2.2.2.2.2.1 d33 kn) XY (gap,I_,RA,Xq,RU,Q8,()) λWS=>zp Ru WS.1 WS.2.1 WS.2.2.1 WS.2.2.2.1 WS.2.2.2.2.1 WS.2.2.2.2.2.1
def zo(Ru:D×Unit->M D)(V5:D×Re D×D×D×D×Unit->M D)(gap:D)(Uy:Re D)(I_ RA:D)(Xq VM:D)(gbE W6:D):M D :=
 bd (bd (oM (gT W6 (.int 1))) λx49=>.ret (.tuple [I_,RA,VM,x49])) λx50=>bd (bd (oM (dX W6 (.int 1))) λb53=>if b53 then bd (bd (cL (ZO "_law_ask_at") x50) λx51=>oM (fF x51)) λb52=>.ret (!b52)else .ret false) λb54=>if b54 then
  .ret (.bool false)
  else
  V5 (gap,Uy,I_,RA,Xq,())
def tf(Ru:D×Unit->M D)(V5:D×Re D×D×D×D×Unit->M D)(gap:D)(Uy:Re D)(I_ RA:D)(Xq VM:D)(gbE W6 d_:D)(zbl:D×Re D×D×D×D×D×D×D×Unit->M D):M D :=
 bd (bd (bd (cz I_ RA d_ gbE) λx56=>oM<|fF x56) λb57=>.ret<|!b57) λb58=>if b58 then
  .ret (.bool false)
  else
  zbl (gap,Uy,I_,RA,Xq,VM,gbE,W6,())
def tm(Ru:D×Unit->M D)(gap:D)(Uy:Re D)(I_ RA:D)(Xq d_:D)(V5:D×Re D×D×D×D×Unit->M D):M D :=
 bd (bd (oM<|aF I_<|.int 1) λZW=>oM<|dE [ZW]) λx36=>bd (eu Uy x36<|.int 4) λZ7=>bd (bd (bd (f9 I_ RA Z7.1) λx38=>oM<|cW x38 ?j5) λb39=>if b39 then .ret Z7.1 else .ret .none) λx40=>bd (bd (bd (cR I_ Z7.1) λx41=>eJ I_ x41) λZA=>oM<|nM [ZA]) λx43=>bd (bd (bd (bd (dH I_ RA Z7.1<|.int 1000) λx44=>bd (dH I_ RA Z7.1 x43) λx45=>.ret [x44,x45]) λl46=>.ret<|PyData.list l46) λx47=>oM<|cH x47) λl48=>cO (λU3 d60 kn=>tf Ru V5 U3.1 U3.2.1 U3.2.2.1 U3.2.2.2.1 U3.2.2.2.2.1 U3.2.2.2.2.2.1 U3.2.2.2.2.2.2.1 U3.2.2.2.2.2.2.2.1 d60 kn) l48 (gap,Z7.2,I_,RA,Xq,Z7.1,x40,x43,()) λU3=>zo Ru V5 U3.1 U3.2.1 U3.2.2.1 U3.2.2.2.1 U3.2.2.2.2.1 U3.2.2.2.2.2.1 U3.2.2.2.2.2.2.1 U3.2.2.2.2.2.2.2.1
def tw(gap d_:D)(Ru:D×Unit->M D):M D :=
 bd (iF gap d_) λl3=>bd (iE l3<|.int 4) λr4=>To r4.1 λy5 y6=>bd (oM<|ki [(.tuple [y5,y6])]) λx7=>bd (oM<|bw [(.int 3)]) λl8=>cO (λXB d62 kn=>tm Ru XB.1 XB.2.1 XB.2.2.1 XB.2.2.2.1 XB.2.2.2.2.1 d62 kn) l8 (gap,r4.2,y5,y6,x7,()) λXB=>tB Ru XB.1 XB.2.1 XB.2.2.1 XB.2.2.2.1 XB.2.2.2.2.1
def Ck(Zk:D):M D :=
 bd (oM<|bw [(.int 3)]) λl1=>cO (λs63 d64 kn=>tw s63.1 d64 kn) l1 (Zk,()) λs63=>GM s63.1
def wj:=WV Ck
theorem LU(B:BN K mg){f:Tk}{fd:FuncData}(Fn:WN K "law" "law" (top 58) f fd):Q6 P w K mg base ?qK 15 f fd ["_law_script"] (J_ K 1 wj) :=
 An (k:=14) Fn A_ (λt_ A outer s H E hr =>
  (af (br (sh:=[.f,.z,.z,.z,.z,.z,.z,.z,.z,.z,.z,.z,.z,.z,.z]) PassesOwn.leaving rfl (bI<|bE rfl B.i ?qC rfl) (aA (i:=1) ?X A_.nd)
  <|af (aG (sh:=[.f,.z,.o,.z,.z,.z,.z,.z,.z,.z,.z,.z,.z,.z,.z])<|cU (i:=2) A_.nd<|cK<|Of (wb B) hr.m<|aa ?qi ?je)
  <|af (aG (sh:=[.f,.z,.o,.f,.f,.z,.z,.z,.z,.z,.z,.z,.z,.z,.z])<|py (cw (i:=2) (v8 B) hr.m ?js) (fw rfl (aX (aA (i:=3) ?X A_.nd) (aX (aA (i:=4) ?X A_.nd) dw rfl) rfl) rfl rfl) rfl rfl rfl)
  <|af (aG (sh:=[.f,.z,.o,.f,.f,.f,.z,.z,.z,.z,.z,.z,.z,.z,.z])<|aM (i:=5) A_.nd<|aq<|aS (lq ?O hr.gd) qD B.i ?E<|aE (ao<|bC<|aa ?jx ?qa) aI)
  <|af (br (sh:=[.f,.z,.o,.f,.f,.f,.z,.z,.z,.z,.z,.z,.z,.z,.z]) PassesOwn.leaving rfl (bI<|bE rfl B.i ?qC rfl) (aA (i:=6) ?X A_.nd)
  <|af (aG (sh:=[.f,.z,.o,.f,.f,.f,.z,.f,.z,.z,.z,.z,.z,.z,.z])<|aM (i:=7) A_.nd<|cw (i:=2) (rR B) hr.m<|aH (aq<|aS bJ cX B.i eh<|aE (ao<|n_ hr ?qh ?P) aI) ?js)
  <|af (aG (sh:=[.f,.z,.o,.f,.f,.f,.z,.f,.f,.z,.z,.z,.z,.z,.z])<|aM (i:=8) A_.nd<|aq<|vy (aJ (dW ?O) bv (ao<|bh (nj B) hr.m<|aa ?jx<|aa (av 4) ?qb) ?qD) (av 7) fm)
  <|af (aG (sh:=[.f,.z,.o,.f,.f,.f,.z,.f,.f,.f,.z,.z,.z,.z,.z])<|aM (i:=9) A_.nd<|aq<|aS gO kW B.i eh<|aE (ao<|bh (ka B) hr.m<|aa ?jx<|aa (bh (fQ B) hr.m<|aa ?jx ?qb) az) aI)
  <|af (br (sh:=[.f,.z,.o,.f,.f,.f,.z,.f,.f,.f,.z,.z,.z,.z,.z]) PassesOwn.leaving rfl (bI<|bZ<|dY<|bX<|aa (GV (kX B).2 hr.m<|aa ?jx<|aa (av 4) ?qb)<|aa (bh (kX B).1 hr.m<|aa ?jx<|aa (av 4)<|aa (av 7)<|aa (av 9) az) az) (aA (i:=10) ?X A_.nd)
  <|au<|bF (aW<|eK<|fk (ao<|bh (iX B) hr.m<|aa ?jx<|aa (av 4)<|aa (av 10)<|aa (av 8) az) ?R)
  ?jB
  aR)
  <|af (aG (sh:=[.f,.z,.o,.f,.f,.f,.z,.z,.z,.f,.z,.f,.z,.z,.z])<|aM (i:=11) A_.nd<|aq<|bC<|aa ?jx<|aa (av 4)<|aa (av 7)<|aa (aT oB oD (g_ 9) ?P) az)
  <|au<|bF (aW<|fB<|kM (aJ fU fV (g_ 9) ?P)<|iL<|eK<|fk (ao<|bh (jk B) hr.m<|aa (zu B.k.UB rfl ?C)<|aa (av 11) az) ?R)
  ?jB
  aR)
  <|af (aG (sh:=[.f,.z,.o,.f,.f,.f,.z,.z,.z,.z,.z,.z,.f,.z,.z])<|aM (i:=12) A_.nd<|mL bq bH ?qG<|cw (i:=2) (bc B) hr.m ?js)
  <|af (aG (sh:=[.f,.z,.o,.f,.f,.f,.z,.z,.z,.z,.z,.z,.f,.f,.z])<|aM (i:=13) A_.nd<|aq<|bh (v7 B) hr.m<|aa ?jx<|aa (av 4)<|aa (av 12) az)
  <|af (br (sh:=[.f,.z,.z,.f,.f,.f,.z,.z,.z,.z,.z,.z,.f,.f,.z]) PassesOwn.leaving rfl (Jl<|Jn<|Jk<|aH ?qG<|aH (mL bq bH ?qG<|cw (i:=2) (bc B) hr.m ?js) aV) (aA (i:=14) ?X A_.nd)
  <|af (aG (sh:=[.f,.z,.z,.f,.f,.f,.z,.z,.f,.z,.z,.z,.f,.f,.f])<|aM (i:=8) A_.nd<|aq<|bh (lH B) hr.m<|aa (av 13)<|aa (av 14) az)
  <|au<|bF (aW<|aJ ?jI bv (g_ 8)<|ao bM)
  (au<|bF (aW<|eK<|fk (ao<|bh (jk B) hr.m<|aa (zu B.k.UA rfl ?C)<|aa (bC<|aa ?jx<|aa (av 4)<|aa (av 12)<|aa (av 14) az) az) ?R)
  ?jB
  aR)
  <|au<|bF (aW<|eK<|fk (ao<|bh (iX B) hr.m<|aa ?jx<|aa (av 4)<|aa (bh (oE B).1 hr.m<|aa ?jx<|aa (av 4)<|aa (av 12)<|aa (av 14) az)<|aa (av 8) az) ?R)
  ?jB
  aR)
  <|af (aG (sh:=[.f,.z,.z,.f,.f,.f,.z,.z,.f,.z,.z,.z,.f,.z,.z])<|aM (i:=8) A_.nd<|aq<|bh (lH B) hr.m<|aa (av 13) ?qC)
  <|af (bF (aW<|eK<|fk (ao<|bh (iX B) hr.m<|aa ?jx<|aa (av 4)<|aa (GV (oE B).2 hr.m<|aa ?jx<|aa (av 4)<|aa (av 12) az)<|aa (av 8) az) ?R)
  ?jB
  aR)
  <|au<|bF (aW<|aJ (dW ?O) bv (ao<|aS (lq ?O hr.gd) qD B.i ?E<|aE (ao<|bC<|aa ?jx ?qa) aI)<|g_ 5)
  ?jB
  aR)
  ?jB))
 (λds hl=>(by let{Zk,rfl}:=WW hl;kernel_rfl))
end
end
end YC
namespace L4
open PySem PySem.Spec PyProof.Rows L2 L3
variable {n a b:Nat}{S T ι:Type}{f:Nat->Nat}{l:Re Nat}
theorem a_(s:S)(k:S->M T):bd (.ret s) k=k s:=id rfl
theorem f_(s:S):oM (some s)=.ret s:=id rfl
theorem BY{S T:Type}{step:T->D->(T->M S)->M S}{R:M S}{P:Nat->T->Prop}:∀(ds:Re D) (i:Nat) (s:T) (k:T->M S),
  (∀(j:Nat) (s:T) (d:D),d∈ds->i<=j->j<i+ds.length->P j s->∀kn:T->M S,(∀s',P (j+1) s'->kn s'=R)->step s d kn=R) ->
  P i s->(∀s',P (i+ds.length) s'->k s'=R)->cP step ds s k=R
 | [],i,s,k,_,hp,hk=>hk s hp
 | d::r,i,s,k,h,hp,hk=>by
  refine h i s d cr ?jm ?G hp _ λs' W0=>?_
  refine BY r ?qc s' k (λj s d hd hj hl=>h j s d (Sw _ hd) ?A ?Y) W0 λs' hs=>hk s' ?_
  grind
theorem BX{step:T->D->(T->M S)->M S}{R:M S}{P:Nat->T->Prop}(ds:Re D)(i:Nat)(s:T)(k:T->M S)
  (h:∀(j:Nat) (s:T) (d:D),d∈ds->i<=j->j<i+ds.length->P j s->∀kn:T->M S,(∀s',P (j+1) s'->kn s'=R)->step s d kn=R)
  (hp:P i s) (hk:∀s',P (i+ds.length) s'->k s'=R):cO step ds s k=R:=by
 rw[bS];exact BY ds i s k h hp hk
theorem GI{step:D->M (SC D)}{g:D->D}:∀(ds:Re D),(∀d∈ds,step d=.ret (some<|g d))->aZ step ds=.ret (ds.map g)
 | [],_=>rfl
 | d::r,h=>by
  rw[aZ,h d cr,GI r λd hd=>h d<|Sw _ hd];rfl
theorem cb{ds:Re S}(h:ds.length<=1000):cq ds=.ret ds:=ar<|mw h
theorem qJ{α:Type}(xs:Re α)(i:Nat)(h:i<xs.length):VP xs (i:Int)=some (xs[i]'h):=by
 unfold VP WA;rw[ar<|Int.natCast_nonneg _,ar ?A];simp[h]
theorem Mq{α:Type}(xs:Re α)(i:Int)(h0:0<=i)(h:i<xs.length):∃x∈xs,VP xs i=some x:=by
 let{n,rfl}:=Int.eq_ofNat_of_zero_le h0;exact{_,gh _,qJ xs n ?A}
def Q1(s:Str):Bool:=PyData.strOk s&&decide ((reprText s).length<=24)&&PyData.strOk (reprText s)
def Ok(k:Nat):Nat->D->Prop
 | 0,_=>False
 | _+1,.none=>True
 | _+1,.bool _=>True
 | _+1,.int i=>i.natAbs<10^(16+k)
 | _+1,.str s=>Q1 s=true
 | n+1,.list ds=>ds.length<=6+k/\∀d∈ds,Ok k n d
 | n+1,.tuple ds=>ds.length<=6+k/\∀d∈ds,Ok k n d
 | _+1,.dict _=>False
theorem nG:∀{ds:Re D},(∀d∈ds,d.canLay0=true)->PyData.canLayAll0 ds=true
 | [],_=>rfl
 | d::r,h=>by
  simp  [PyData.canLayAll0,am];exact{h d cr,nG λe he=>h e<|Sw _ he}
theorem km{n:Nat}:∀{ds:Re D},(∀d∈ds,d.depth<=n)->PyData.depthAll ds<=n
 | [],_=>by simp[PyData.depthAll]
 | d::r,h=>by
  exact Nat.max_le.mpr {h d cr,km λe he=>h e<|Sw _ he}
theorem Lw{m:Nat}(h:m<10^36):m.log2<1920:=by
 by_cases h0:m=0
 ·subst h0;decide
 ·exact(Nat.log2_lt h0).mpr<|bo h ?E
theorem RH{s:Str}:PyData.strOk s=true↔∀c∈s.cps.toList,c<1114112:=by
 unfold PyData.strOk;rw[<-Array.all_toList,ir];simp
theorem dN(s:String):PyData.strOk (Str.ofString s)=true:=by
 rw[RH,signs_ofString];intro c hc;let{ch,_,rfl}:=List.mem_map.mp hc;have e:ch.toNat=ch.val.toNat:=rfl
 grind
theorem kR{a b:Str}(ha:PyData.strOk a=true)(hb:PyData.strOk b=true):PyData.strOk (a++b)=true:=by
 rw[RH]at *;intro c hc;let h||h:=mem_cps_append.mp hc
 ·exact ha c h
 ·exact hb c h
theorem qV{sep:Str}{ts:Re Str}(hs:PyData.strOk sep=true)(h:∀t∈ts,PyData.strOk t=true):PyData.strOk (Str.join sep ts)=true:=by
 rw[RH]at *;intro c hc;rcases(mem_join sep c ts).mp hc with ⟨t,ht,hc⟩|⟨_,hc⟩
 ·exact RH.mp (h t ht) c hc
 ·exact hs c hc
theorem BK{ts:Re Str}:(Str.join ", " ts).length<=piled ts:=by
 by_cases h:ts=[]
 ·subst h;exact ai _
 ·have:=join_length_add ts h;lia
def lim:Nat->Nat
 | 0=>24
 | n+1=>4+9*(lim n+2)
theorem eqI(a b:Int):bx (.int a) (.int b)=some (a==b):=rfl
theorem neI(a b:Int):cW (.int a) (.int b)=some (!(a==b)):=rfl
theorem ltI(a b:Int):zQ (.int a) (.int b)=some (decide<|a<b):=id rfl
theorem ZM(a b:Int):dX (.int a) (.int b)=some (decide<|b<a):=id rfl
theorem geI(a b:Int):v0 (.int a) (.int b)=some (decide<|b<=a):=id rfl
theorem Wt(a b:Int):bD (.int a) (.int b)=some (.int<|a+b):=id rfl
theorem PH(a b:Int):gT (.int a) (.int b)=some (.int<|a - b):=id rfl
theorem V0(i j:Int)(h:0<j):iw (.int i) (.int j)=some (.int<|i % j):=ar h
theorem Zq(i j:Int)(h:0<j)(h2:j<1073741824):rO (.int i) (.int j)=some (.int<|i / j):=ar (by simp[h,h2])
theorem mulL(i j:Int)(h : -(2^64)<i)(h2:i<2^64):eS (.int i) (.int j)=some (.int<|i*j):=ar (by simp![BD,gs,am,QS];exact .inl {h,h2})
theorem mulR(i j:Int)(h : -(2^64)<j)(h2:j<2^64):eS (.int i) (.int j)=some (.int<|i*j):=ar (by simp![BD,gs,am,QS];exact .inr {h,h2})
theorem PD(b:Bool):asB (.bool b)=.ret b:=id rfl
theorem Oc(i:Int):Wr (.int i)=.ret (some i):=id rfl
theorem Pw(b:Bool):fF (.bool b)=some b:=id rfl
theorem wH(ds:Re D):dE [.tuple ds]=some (.int ds.length):=id rfl
theorem V3(ds:Re D):dE [.list ds]=some (.int ds.length):=id rfl
theorem Hs(ds:Re D):cH (.tuple ds)=some ds:=id rfl
theorem mR(ds:Re D):cH (.list ds)=some ds:=id rfl
theorem tY(ds:Re D):cu [.list ds]=some (.tuple ds):=id rfl
theorem PF(ds:Re D):cu [.tuple ds]=some (.tuple ds):=id rfl
theorem Pm(ds:Re D)(lo hi:SC Int):kj (.tuple ds) lo hi=some (.tuple<|L4.cutD ds lo hi):=id rfl
theorem PB(ds:Re D)(lo hi:SC Int):kj (.list ds) lo hi=some (.list<|L4.cutD ds lo hi):=id rfl
theorem IB(ds:Re D)(n:Nat)(h:n<ds.length):fJ (.tuple ds) (.int n)=some ds[n]:=qJ ds n h
theorem gI(a:D)(r:Re D):fJ (.tuple<|a::r) (.int 0)=some a:=IB (a::r) 0 ?G
theorem jo(a b:D)(r:Re D):fJ (.tuple<|a::b::r) (.int 1)=some b:=IB (a::b::r) 1 ?G
theorem sD(a b c:D)(r:Re D):fJ (.tuple<|a::b::c::r) (.int 2)=some c:=IB (a::b::c::r) 2 ?G
theorem IC(a b c d:D)(r:Re D):fJ (.tuple<|a::b::c::d::r) (.int 3)=some d:=IB (a::b::c::d::r) 3 ?G
theorem zaK(a b c:D):fJ (.list [a,b,c]) (.int 0)=some a:=id rfl
theorem zaJ(a b c:D):fJ (.list [a,b,c]) (.int 1)=some b:=id rfl
theorem zaI(a b c:D):fJ (.list [a,b,c]) (.int 2)=some c:=id rfl
theorem OQ(a b c d:D):putD [a,b,c] (.int 0) d=some [d,b,c]:=id rfl
theorem Z_(a b c d:D):putD [a,b,c] (.int 2) d=some [a,b,d]:=id rfl
theorem Mi(ds:Re D)(n:Nat):L4.cutD ds (some n) none=ds.drop n:=by
 unfold L4.cutD;rw[HT.YV,HT.Xz];by_cases h:n<=ds.length
 ·rw[Nat.min_eq_left h,Cn ?Z]
 ·rw[Nat.min_eq_right ?A,List.drop_of_length_le ?jm,List.drop_of_length_le ?A];simp
theorem O7(a b:Bool):(if a=true then(M.ret b)else .ret false)=.ret (a&&b):=by cases a<;>rfl
theorem Ja(n m:Nat):((n:Int)==(m:Int))=decide (n=m):=by
 grind
def sW(lo hi:Int):D->Bool
 | .int i=>decide (lo<=i)&&decide (i<=hi)
 | _=>false
def sS(w:Str):D->Bool
 | .str s=>s==w
 | _=>false
def Ey(d:D):Prop:=d.canLay0=true/\d.depth<=1000
theorem yY{S T ι:Type}{step:T->D->(T->M S)->M S}{e:ι->D}{F:Re ι->T}{k:T->M S}:∀(is pre:Re ι),
  (∀p i q,is=p++i::q->∀kn:T->M S,step (F<|pre++p) (e i) kn=kn (F<|pre++p++[i]))->cP step (is.map e) (F pre) k=k (F<|pre++is)
 | [],pre,_=>by simp[cP]
 | i::r,pre,h=>by
  show step (F pre) (e i) _=_;have h0:=h [] i r rfl λs'=>cP step (r.map e) s' k;rw[ic]at h0;rw[h0];have:=yY    (k:=k) r (pre++[i]) λp j q hq kn=>by
   have:=h (i::p) j q (by rw[hq];rfl) kn;simpa using this
  rw[this];simp
theorem dD{step:T->D->(T->M S)->M S}{e:ι->D}{F:Re ι->T}{k:T->M S}(is:Re ι)
  (h:∀p i q,is=p++i::q->∀kn:T->M S,step (F p) (e i) kn=kn (F<|p++[i])):cO step (is.map e) (F []) k=k (F is):=by
 rw[bS];have:=yY    (k:=k) is []<|(h);exact this
theorem BZ{S T:Type}{step:T->D->(T->M S)->M S}{R:M S->Prop}{P:Nat->T->Prop}{k:T->M S}:∀(ds:Re D) (i:Nat) (s:T),
  (∀(j:Nat) (s:T) (d:D),ds[j]? = some d->P (i+j) s->∀kn:T->M S,(∀s',P (i+j+1) s'->R (kn s'))->R (step s d kn)) ->
  P i s->(∀s',P (i+ds.length) s'->R (k s'))->R (cP step ds s k)
 | [],i,s,_,hp,hk=>hk s hp
 | d::r,i,s,h,hp,hk=>by
  refine h 0 s d rfl hp _ λs' W0=>?_
  refine BZ r ?qc s' (λj s d hd hp kn UP=>h (j+1) s d ((hd)) ?Z kn λs' q=>UP s' (by rw[show i+1+j+1=i+(j+1)+1 by lia];exact q)) W0 λs' hs=>hk s' ?_
  grind
theorem lh{step:T->D->(T->M S)->M S}{R:M S->Prop}{P:Nat->T->Prop}{k:T->M S}(ds:Re D)(s:T)
  (h:∀(j:Nat) (s:T) (d:D),ds[j]? = some d->P j s->∀kn:T->M S,(∀s',P (j+1) s'->R (kn s'))->R (step s d kn))
  (hp:P 0 s) (hk:∀s',P ds.length s'->R (k s')):R (cO step ds s k):=by
 rw[bS];exact BZ ds 0 s ?jh hp (by simpa using hk)
theorem dz{ι:Type}{step:D->M (SC D)}{e g:ι->D}:∀(is:Re ι),(∀i∈is,step (e i)=.ret (some<|g i))->aZ step (is.map e)=.ret (is.map g)
 | [],_=>rfl
 | i::r,h=>by
  rw[ap,aZ,h i cr,dz r λd hd=>h d<|Sw _ hd];rfl
theorem dF{ι:Type}{step:D->M (SC D)}{e:ι->D}{g:ι->SC D}:∀(is:Re ι),(∀i∈is,step (e i)=.ret (g i))->aZ step (is.map e)=.ret (is.filterMap g)
 | [],_=>rfl
 | i::r,h=>by
  rw[ap,aZ,h i cr,dF r λd hd=>h d<|Sw _ hd]
  cases q:g i<;>simp[nv,a_,si,q]
theorem vg{T ι:Type}{step:T->D->M (SC D×T)}{P:Nat->T->Prop}{e:ι->D}{R:ι->Prop}:∀(ds:Re D) (i:Nat) (s:T),
  (∀(j:Nat) (s:T) (d:D),ds[j]? = some d->P (i+j) s->∃x s',step s d=.ret (some (e x),s')/\P (i+j+1) s'/\R x)->P i s ->
  ∃xs s',eW step ds s=.ret (List.map e xs,s')/\P (i+ds.length) s'/\xs.length=ds.length/\∀x∈xs,R x
 | [],i,s,_,hp=>{[],s,rfl,hp,rfl,λ_ h=>by cases h}
 | d::r,i,s,h,hp=>by
  let{x,s1,e1,p1,r1}:=h 0 s d rfl hp
  let{xs,s2,e2,p2,l2,r2}:=vg r ?qc s1 (λj s d hd hp=>by
   have:=h (j+1) s d ((hd)) ?Z;rw[show i+(j+1)+1=i+1+j+1 by lia]at this
   exact this) p1
  refine{x::xs,s2,?_,?_,by simp[l2],?_}
  ·rw[eW,e1];simp  [nv,w4];rw[e2];rfl
  ·grind
  grind
theorem zj{step:T->D->M (SC D×T)}{P:Nat->T->Prop}{e:ι->D}{R:ι->Prop}(ds:Re D)(s:T)
  (h:∀(j:Nat) (s:T) (d:D),ds[j]? = some d->P j s->∃x s',step s d=.ret (some (e x),s')/\P (j+1) s'/\R x) (hp:P 0 s) :
  ∃xs s',eW step ds s=.ret (List.map e xs,s')/\P ds.length s'/\xs.length=ds.length/\∀x∈xs,R x:=by
 have:=vg     ds 0 s ?jh hp;simpa using this
abbrev iN(n:Nat):D:=.int (n:Int)
def Yo(lo hi:Nat):Re Nat:=(List.range<|hi - lo).map (lo + ·)
theorem rf(lo hi:Nat):(Yo lo hi).length=hi - lo:=by simp[Yo]
theorem rm(lo n:Nat):j2 (lo:Int) n=((List.range n).map (lo + ·)).map iN:=by
 rw[eT];apply gi
 grind
theorem n6(h:n<=100000):jv (n:Int)=true:=by
 unfold jv
 grind
theorem cM(n:Nat)(h:n<=100000):bw [.int (n:Int)]=some ((List.range n).map iN):=by
 unfold bw;simp![n6 h,yp];have:=rm 0 n;simp  [xz];rw[show(0:Int)=((0:Nat))from rfl,this];simp
theorem HC(lo hi:Nat)(h:lo<=100000)(h2:hi<=100000):eA [.int (lo:Int),.int (hi:Int)]=some ((Yo lo hi).map iN):=by
 unfold eA;simp![n6 h,n6 h2,Bool.and_self,yp];rw[show((hi:Int) - (lo)).toNat=hi - lo by lia,rm];rfl
mutual
def sz:D->Nat
 | .list ds=>1+VF ds
 | .tuple ds=>1+VF ds
 | .none=>1
 | .bool _=>1
 | .int _=>1
 | .str _=>1
 | .dict _=>1
def VF:Re D->Nat
 | []=>0
 | d::r=>sz d+VF r
end
mutual
def Sm:D->Prop
 | .list ds=>Tb ds
 | .tuple ds=>Tb ds
 | .none=>True
 | .bool _=>True
 | .int i=>i.natAbs<10^19
 | .str s=>Q1 s=true
 | .dict _=>False
def Tb:Re D->Prop
 | []=>True
 | d::r=>Sm d/\Tb r
end
theorem xF:∀{ds:Re D},(∀d∈ds,Sm d)->Tb ds
 | [],_=>by simp[Tb]
 | e::r,h=>by
  exact{h e cr,xF λd hd=>h d<|Sw _ hd}
mutual
theorem Sm.lay:∀{d:D},Sm d->d.canLay0=true
 | .none,h=>by simp[PyData.canLay0]
 | .bool _,h=>by simp[PyData.canLay0]
 | .int _,h=>by simp[PyData.canLay0]
 | .str s,h=>by
  have h':Q1 s=true:=by simpa[Sm]using h
  unfold Q1 at h';simp![am]at h';simp[PyData.canLay0,h'.1.1]
 | .list ds,h=>by simp![PyData.canLay0];exact Tb.lay ?qr
 | .tuple ds,h=>by simp![PyData.canLay0];exact Tb.lay ?qr
 | .dict _,h=>by simp[Sm]at h
theorem Tb.lay:∀{ds:Re D},Tb ds->PyData.canLayAll0 ds=true
 | [],_=>by simp[PyData.canLayAll0]
 | d::r,h=>by
  simp![Tb]at h;simp![PyData.canLayAll0,am];exact{Sm.lay h.1,Tb.lay h.2}
end
mutual
theorem Sm.show:∀{d:D},Sm d->d.showable=true
 | .none,h=>by simp[PyData.showable]
 | .bool _,h=>by simp[PyData.showable]
 | .int i,h=>by
  have h':i.natAbs<10^19:=by simpa[Sm]using h
  simp![PyData.showable,QS];exact Lw<|bo h'<|Nat.pow_le_pow_right ?C ?C
 | .str s,h=>by simp[PyData.showable]
 | .list ds,h=>by simp![PyData.showable];exact Tb.show ?qr
 | .tuple ds,h=>by simp![PyData.showable];exact Tb.show ?qr
 | .dict _,h=>by simp[Sm]at h
theorem Tb.show:∀{ds:Re D},Tb ds->PyData.showableAll ds=true
 | [],_=>by simp[PyData.showableAll]
 | d::r,h=>by
  simp![Tb]at h;simp![PyData.showableAll,am];exact{Sm.show h.1,Tb.show h.2}
end
mutual
theorem Sm.text:∀{d:D},Sm d->d.shown.length+2<=30*sz d/\PyData.strOk d.shown=true
 | .none,h=>by refine{?_,by simp![PyData.shown];exact dN _};simp![PyData.shown,sz];decide
 | .bool b,h=>by
  refine{?_,by cases b<;>simp![PyData.shown]<;>exact dN _}
  cases b<;>simp![PyData.shown,sz]<;>decide
 | .int i,h=>by
  have h':i.natAbs<10^19:=by simpa[Sm]using h
  refine{?_,by simp![PyData.shown];exact dN _};simp![PyData.shown,sz];have h1:=int_text_length_le10 (a:=i) (k:=19) ?C h';have h2:(Str.ofString<|toString i).length=(toString i).length:=by
   show(Str.ofString<|toString i).cps.size=_;rw[<-y9,signs_ofString,v_,String.length_toList]
  lia
 | .str s,h=>by
  have h':Q1 s=true:=by simpa[Sm]using h
  unfold Q1 at h';simp![am,QS]at h';simp![PyData.shown,sz];exact{by lia,h'.2}
 | .list ds,h=>by
  let{h1,h2}:=Tb.text (ds:=ds) ?qr;have h5:(Str.join ", " ?j7).length<=piled ?j7:=BK;have h6:PyData.strOk (Str.join ", " ?j7)=true:=qV (dN _) h2;simp![PyData.shown,listText_eq_join,sz];refine{?_,kR (kR (dN _) h6)<|dN _};rw[strLen_append,strLen_append];have e1:((("[" : String):Str)).length=1:=rfl;have e2:((("]" : String):Str)).length=1:=rfl;rw[e1,e2];lia
 | .tuple ds,h=>by
  let{h1,h2}:=Tb.text (ds:=ds) ?qr;have h5:(Str.join ", " ?j7).length<=piled ?j7:=BK;have h6:PyData.strOk (Str.join ", " ?j7)=true:=qV (dN _) h2;simp![PyData.shown,tupleText,sz];refine{?_,kR (kR (dN _) h6)<|dN _};rw[strLen_append,strLen_append];have e1:((("(" : String):Str)).length=1:=rfl;have e3:(((if(PyData.shownAll ds).length==1 then ",)" else ")" : String):Str)).length<=2:=by split<;>decide
  rw[e1];lia
 | .dict _,h=>by simp[Sm]at h
theorem Tb.text:∀{ds:Re D},Tb ds->piled ?j7<=30*VF ds/\∀t∈PyData.shownAll ds,PyData.strOk t=true
 | [],_=>by simp[PyData.shownAll,piled,VF]
 | d::r,h=>by
  simp![Tb]at h;let{h1,h2}:=Sm.text h.1;let{h3,h4}:=Tb.text h.2;simp![PyData.shownAll,VF];refine{?_,λt ht=>?_}
  ·rw[piled_cons];lia
  ·let rfl||ht:=List.mem_cons.mp ht
   ·exact h2
   ·exact h4 t ht
end
theorem JI{d:D}(h:Sm d)(hs:sz d<=30000)(hd:d.depth<=60):ki [d]=some (.str d.shown):=by
 let{t1,t2}:=h.text;show(if n9 d then some (PyData.str d.shown)else none)=_;unfold n9;rw[ar];simp  [am,QS];exact{{{h.show,h.lay},by lia},bj (show d.shown.length<=1000000 by lia) ?C}
theorem FD{d:D}(h:Sm d):cW (.str d.shown) (.str d.shown)=some false:=by
 let{t1,t2}:=h.text;unfold cW qk;rw[ar]
 ·simp[PyData.eqv]
 ·simp[PyData.canLay0,t2,PyData.depth]
theorem lL(ds:Re D)(k:D):aF (.list ds) k=fJ (.list ds) k:=id rfl
theorem bt(ds:Re D)(k:D):aF (.tuple ds) k=fJ (.tuple ds) k:=id rfl
theorem ltA(a b:Int):dU (.int a) (.int b)=some (decide<|a<b):=id rfl
theorem NV(d:D)(ds:Re D):gz d (.list ds)=yn d (.list ds):=id rfl
theorem NU(d:D)(ds:Re D):gz d (.tuple ds)=yn d (.tuple ds):=id rfl
theorem FA(d:D)(ds:Re D):bB d (.list ds)=iu d (.list ds):=id rfl
theorem Fz(d:D)(ds:Re D):bB d (.tuple ds)=iu d (.tuple ds):=id rfl
theorem sG(e:ι->D)(is:Re ι)(n:Nat)(h:n<is.length):fJ (.list<|is.map e) (.int (n:Int))=some (e is[n]):=by
 have:=qJ (is.map e) n ?jh;rw[Op]at this;exact this
theorem pR(e:ι->D)(is:Re ι)(n:Nat)(h:n<is.length):fJ (.tuple<|is.map e) (.int (n:Int))=some (e is[n]):=by
 have:=qJ (is.map e) n ?jh;rw[Op]at this;exact this
theorem kN(ds:Re D)(d:D)(h:ds.length<=100000):mn ds [d]=some (ds++[d]):=ar<|ut h ?C
theorem Gn{ds:Re S}(h:ds.length<=100000):cq ds=.ret ds:=ar<|bj h ?C
abbrev pD(p:Nat×Nat):D:=.tuple [iN p.1,iN p.2]
theorem BC(a b:Nat):((a:Int)==(b:Int))=decide (a=b):=Ja a b
theorem Gz(p q:Nat×Nat):PyData.eqv (pD p) (pD q)=decide (p=q):=by
 simp  [pD,iN,PyData.eqv,PyData.eqvAll,BC,Bool.and_true]
 grind
theorem Yl(a b:Nat):bx (iN a) (iN b)=some (decide<|a=b):=by
 rw[eqI,BC]
theorem Jp(a b:Nat):bD (iN a) (iN b)=some (iN<|a+b):=rfl
theorem NM(a b:Nat)(h:0<b):iw (iN a) (iN b)=some (iN<|a % b):=by
 rw[V0 _ _ ?A];rfl
abbrev Mt:=Nat×Nat×Nat×Nat
abbrev mD(m:Mt):D:=.tuple [iN m.1,iN m.2.1,iN m.2.2.1,iN m.2.2.2]
structure Rl where
 n:Nat
 st:Re Nat
 ms:Re Mt
 sy:Re Bool
abbrev Rl.d(r:Rl):D:=.tuple [iN r.n,.tuple (r.st.map iN),.tuple ?qU,.tuple (r.sy.map PyData.bool)]
def plt(p q:Nat×Nat):Prop:=p.1<q.1\/p.1=q.1/\p.2<q.2
structure TF(n:Nat)(m:Mt):Prop where
 ab:m.1<=m.2.1
 b:m.2.1<n
 c:m.2.2.1<n
 d:m.2.2.2<n
 ne:m.2.2≠(m.1,m.2.1)
 ne':m.2.2≠(m.2.1,m.1)
structure Wf(r:Rl):Prop where
 n1:1<=r.n
 st:∀s∈r.st,s<r.n
 sy:r.sy.length=r.n
 ms:∀m∈r.ms,TF r.n m
 so:r.ms.Pairwise λm m'=>plt (m.1,m.2.1) (m'.1,m'.2.1)
def look(ms:Re Mt)(p:Nat×Nat):SC (Nat×Nat):=(ms.find? λm=>decide (m.1=p.1)&&decide (m.2.1=p.2)).map (·.2.2)
def turn(ms:Re Mt)(i j:Nat):Nat×Nat:=if i<=j then(look ms (i,j)).getD (i,j)else let t:=(look ms (j,i)).getD (j,i);(t.2,t.1)
theorem EC(h:n<=1000000000):Sm (iN n):=by
 simp  [iN,Sm,Int.natAbs_natCast]
 grind
theorem vK(h:∀s∈l,s<=1000000000):Sm (.tuple ?jt):=by
 refine xF λd hd=>?_
 let{s,hs,rfl}:=List.mem_map.mp hd;exact EC<|h s hs
theorem ED(l:Re Bool):Sm (.tuple<|l.map PyData.bool):=by
 refine xF λd hd=>?_
 let{s,hs,rfl}:=List.mem_map.mp hd;simp[Sm]
theorem MW{m:Mt}(h:m.1<=1000000000/\m.2.1<=1000000000/\m.2.2.1<=1000000000/\m.2.2.2<=1000000000):Sm (mD m):=by
 simp  [mD,Sm,Tb]
 grind
theorem kQ{ι:Type}{e:ι->D}{B:Nat}(h:∀i,sz (e i)=B):∀l:Re ι,VF (l.map e)=l.length*B
 | []=>by simp[VF]
 | i::r=>by rw[ap,VF,kQ h r,h i,eE];lia
theorem cn{ds:Re D}(h:∀d∈ds,d.depth<=n):(PyData.tuple ds).depth<=n+1:=by
 have:=km h;simp  [PyData.depth];lia
theorem Na{r:Rl}(w:Wf r)(hn:r.n<=100000):Sm r.d:=by
 refine{by simpa[Sm]using EC  ?A,?_,?_,?_,trivial}
 ·simpa[Sm]using vK λs hs=>by have:=w.st s hs;lia
 ·refine xF λd hd=>?_
  let{m,hm,rfl}:=List.mem_map.mp hd;have o:=w.ms m hm;have:=o.ab;have:=o.b;have:=o.c;have:=o.d;exact MW {by lia,by lia,by lia,by lia}
 ·simpa[Sm]using ED r.sy
theorem M9(r:Rl):sz r.d=5+r.st.length+5*r.ms.length+r.sy.length:=by
 simp  [Rl.d,sz,VF];rw[kQ (B:=1) λi=>rfl,kQ (B:=5) λi=>rfl,kQ (B:=1) λi=>rfl];lia
abbrev kvM(m:Mt):D×D:=(pD (m.1,m.2.1),pD m.2.2)
theorem BJ(p q:Nat×Nat):gH (pD p) (pD q)=decide (p=q):=by
 show(decide ((p.1:Int)=q.1)&&(decide ((p.2:Int)=q.2)&&true))=_
 grind
theorem sI(p:Nat×Nat):dB (pD p)=true:=id rfl
theorem MF(p:Nat×Nat):gj (pD p)=false:=id rfl
theorem rB{es:Re ?N}{k d:D}(h:∀p∈es,gH p.1 k=false):oz es k d=es++[(k,d)]:=by
 unfold oz
 grind
theorem hG{α β:Type}{g:α->Re β}{B:Nat}(h:∀a,(g a).length<=B):∀l:Re α,(l.flatMap g).length<=l.length*B
 | []=>by simp
 | a::r=>by
  rw[xv,R4,eE];have:=hG h r;have:=h a;lia
theorem vA(a:Nat):bD (.int 1) (iN a)=some (iN<|a+1):=by
 show some (PyData.int<|1+(a))=some (PyData.int<|(a+1))
 grind
theorem KI{lo hi j:Nat}{d:D}(h:((Yo lo hi).map iN)[j]? = some d):d=iN (lo+j)/\lo+j<hi:=by
 rw[je]at h;let{x,hx,rfl}:=Option.map_eq_some_iff.mp h;have hl:=(List.getElem?_eq_some_iff.mp hx).1;rw[rf]at hl;unfold Yo at hx;rw[je,List.getElem?_range hl]at hx
 cases hx
 exact{rfl,by lia}
theorem jg{j:Nat}{d:D}(h:((List.range n).map iN)[j]? = some d):d=iN j/\j<n:=by
 grind
theorem NQ(e:ι->D)(is:Re ι)(n:Nat)(z:ι)(h:n<is.length):fJ (.tuple<|is.map e) (.int (n:Int))=some (e<|is.getD n z):=by
 rw[pR e is n h,fu,ay h];rfl
theorem Eb:∀(as bs:Re Nat),tW (as.map iN) (bs.map iN)=(as.zip bs).map pD:=by
 intro as
 induction as with
 | nil=>intro bs;rfl
 | cons a as ih =>
  intro bs
  cases bs with
  | nil=>rfl
  | cons b bs =>
   unfold tW at ih ⊢;simp[ih]
structure Xh(n a b:Nat)(ms:Re Mt):Prop where
 ok:∀m∈ms,TF n m
 so:ms.Pairwise λm m'=>plt (m.1,m.2.1) (m'.1,m'.2.1)
 ah:∀m∈ms,plt (m.1,m.2.1) (a,b)
 le:ms.length<=a*n+b
theorem Xh.next{ms:Re Mt}(h:Xh n a b ms):Xh n a (b+1) ms :=
 {h.ok,h.so,λm hm=>by let q||{q,q2}:=h.ah m hm<;>simp  [plt]at * <;> lia,by have:=h.le;lia}
theorem Xh.add{ms:Re Mt}{c d:Nat}(h:Xh n a b ms)(hm:TF n (a,b,c,d)):Xh n a (b+1) (ms++[(a,b,c,d)]):=by
 refine{λm Zb=>?_,?_,λm Zb=>?_,by have:=h.le;simp;lia}
 ·let q||q:=List.mem_append.mp Zb
  ·exact h.ok m q
  grind
 ·rw[List.pairwise_append];refine{h.so,List.pairwise_singleton _ _,λm hm x hx=>?_};rw[List.mem_singleton.mp hx];exact h.ah m hm
 ·let q||q:=List.mem_append.mp Zb
  ·let q||{q,q2}:=h.ah m q<;>simp  [plt]at * <;> lia
  ·rw[List.mem_singleton.mp q];exact .inr {rfl,Nat.lt_succ_self _}
theorem Xh.row{ms:Re Mt}(h:Xh n a b ms)(hb:b<=n):Xh n (a+1) (a+1) ms :=
 {h.ok,h.so,λm hm=>by let q||{q,q2}:=h.ah m hm<;>simp  [plt]at * <;> lia,by have:=h.le;grind}
theorem Ko(p:Nat×Nat)(k:D->D->M S):To (pD p) k=k (iN p.1) (iN p.2):=id rfl
theorem B8(as bs:Re D):DC [.tuple as,.tuple bs]=some (tW as bs):=id rfl
def tab(n:Nat)(f:Nat->Nat):Re Nat:=(List.range n).map f
abbrev fG(n:Nat)(f:Nat->Nat):Re D:=(tab n f).map iN
def up(f:Nat->Nat)(i v:Nat):Nat->Nat:=λr=>if r=i then v else f r
theorem dg(n:Nat)(f:Nat->Nat):(tab n f).length=n:=by simp[tab]
theorem vH{i:Nat}(h:i<n):(tab n f)[i]? = some (f i):=by
 unfold tab;rw[je,List.getElem?_range h];rfl
theorem Hk(n:Nat)(f:Nat->Nat)(i v:Nat):(tab n f).set i v=tab n (up f i v):=by
 apply List.ext_getElem?;intro r;by_cases hr:r<n
 ·rw[vH hr];by_cases h:i=r
  ·subst h;rw[di (by rw[dg];exact hr)];simp[up]
  ·rw[be h,vH hr];unfold up
   grind
 ·rw[List.getElem?_eq_none_iff.mpr (by rw[List.length_set,dg];lia),List.getElem?_eq_none_iff.mpr (by rw[dg];lia)]
theorem mN{i:Nat}(h:i<n):fJ (.list<|fG n f) (.int (i:Int))=some (iN<|f i):=by
 have h':i<(tab n f).length:=by rw[dg];exact h
 have:=sG iN (tab n f) i h';have e:(tab n f)[i]'h' = f i:=by
  have:=vH (f:=f) h
  grind
 rw[this,e]
theorem vF{i:Nat}(h:i<n):fJ (.tuple<|fG n f) (.int (i:Int))=some (iN<|f i):=mN  h
theorem wJ{i:Nat}(h:i<n):L2.WA n (i:Int)=some i:=by
 unfold L2.WA;rw[ar ?A,ar ?A];rfl
theorem qw{i:Nat}(v:Nat)(h:i<n):putD (fG n f) (.int (i:Int)) (iN v)=some (fG n<|up f i v):=by
 show(L2.WA _<|i).map _=_;rw[v_,dg,wJ h];show some ((fG n f).set i<|iN v)=_;rw[<-List.map_set,Hk]
theorem FE{i:Nat}(v:Nat)(h:i<l.length):putD ?jt (.int (i:Int)) (iN v)=some ((l.set i v).map iN):=by
 show(L2.WA _<|i).map _=_;rw[v_,wJ h];show some ((l.map iN).set i<|iN v)=_;rw[<-List.map_set]
theorem Kj(a:Nat):lX (iN a) (.int 1)=some (iN<|a+1):=rfl
theorem Oi(a b:Nat):lX (iN a) (iN b)=some (iN<|a+b):=rfl
theorem MU(a:Nat)(h:1<=a):gT (iN a) (.int 1)=some (iN<|a - 1):=by
 show some (PyData.int<|(a) - 1)=some (PyData.int<|(a - 1:Nat));lia
theorem MT(a b:Nat)(h:b<=a):gT (iN a) (iN b)=some (iN<|a - b):=by
 show some (PyData.int<|(a) - b)=some (PyData.int<|(a - b:Nat));lia
def cnt(hs:Re Nat)(r:Nat):Nat:=hs.count r
theorem Ci(hs:Re Nat)(h k:Nat):cnt (hs++List.replicate k h)=up (cnt hs) h (cnt hs h+k):=by
 unfold cnt up
 grind
theorem FG(d:D)(k:Nat)(h:k<=100000):rN (.list [d]) ?qj=some (List.replicate k d):=by
 have e:(List.replicate k [d]).flatten=List.replicate k d:=by
  induction k with
  | zero=>rfl
  | succ k ih=>grind
 have hs:(100000)<=sizeLine:=by decide
 have e2:rN (.list [d]) ?qj=if(decide (-(2^63)<=(k:Int))&&decide ((k:Int)<2^63)&&decide ([d].length*(k:Int).toNat<=sizeLine))=true then some (List.replicate (k:Int).toNat [d]).flatten else none:=id rfl
 grind
theorem CG(n:Nat):List.replicate n (PyData.int 0)=fG n (cnt []):=by
 unfold fG tab;apply At
 ·simp
 ·simp[cnt]
def gL(f:Nat->Nat)(m:Mt):Bool:=let w:=if m.1=m.2.1 then 2 else 1;decide (w<=f m.1)&&decide (w<=f m.2.1)
def U_(f:Nat->Nat)(m:Mt):Nat->Nat :=
 let f1:=up f m.1<|f m.1 - 1
 let f2:=up f1 m.2.1<|f1 m.2.1 - 1
 let f3:=up f2 m.2.2.1<|f2 m.2.2.1+1
 up f3 m.2.2.2<|f3 m.2.2.2+1
theorem sY{m:Mt}(h:gL f m=true):1<=f m.1/\1<=up f m.1 (f m.1 - 1) m.2.1:=by
 unfold gL at h;unfold up
 grind
theorem L5{d:D}(h:Sm d):bx (.str d.shown) (.str d.shown)=some true:=by
 let{t1,t2}:=h.text;unfold bx qk;rw[ar]
 ·simp[PyData.eqv]
 ·simp[PyData.canLay0,t2,PyData.depth]
theorem Da(h:∀s∈l,s<=1000000000)(hl:l.length<=10000):ki [.tuple ?jt]=some (.str (PyData.tuple ?jt).shown)/\cW (.str (PyData.tuple ?jt).shown) (.str (PyData.tuple ?jt).shown)=some false /\
  bx (.str (PyData.tuple ?jt).shown) (.str (PyData.tuple ?jt).shown)=some true:=by
 have hs:=vK h;refine{JI hs ?_ ?_,FD hs,L5 hs}
 ·simp  [sz];rw[kQ (B:=1) λi=>rfl];lia
 ·refine bj (cn (n:=1) λd hd=>?_) ?C;let{s,_,rfl}:=List.mem_map.mp hd;simp[iN,PyData.depth]
theorem allB(bs:Re Bool):IP [.list ?jn]=some (bs.all id):=by
 show(boolsOf _).map _=_;rw[p7];rfl
theorem anyB(bs:Re Bool):IN [.list ?jn]=some (bs.any id):=by
 show(boolsOf _).map _=_;rw[p7];rfl
def uK(bs:Re Bool):D:=if bs.all id then .str "yes" else if bs.any id then .str "both" else .str "no"
theorem lM{α β:Type}(p:α->Bool)(g:α->β):∀l:Re α,(l.filterMap λk=>if p k=true then some (g k)else none)=(l.filter p).map g
 | []=>rfl
 | a::r=>by
  rw[si,zi,lM p g r]
  cases p a<;>rfl
theorem Iv{m:Mt}(h:gL f m=true)(r:Nat):U_ f m r+(if m.1=r then 1 else 0)+(if m.2.1=r then 1 else 0)=f r+(if m.2.2.1=r then 1 else 0)+(if m.2.2.2=r then 1 else 0):=by
 let{p1,p2}:=sY h;have u:∀(g:Nat->Nat) (i v:Nat),up g i v r=if i=r then v else g r:=λg i v=>by
  unfold up;by_cases e:r=i
  ·subst e;simp
  ·rw[ax e,ax λz=>e z.symm]
 have s1:∀g:Nat->Nat,∀i,1<=g i->up g i (g i - 1) r+(if i=r then 1 else 0)=g r:=λg i hg=>by
  rw[u];by_cases e:i=r
  ·subst e;rw[ar rfl,ar rfl];lia
  ·rw[ax e,ax e];rfl
 have s2:∀g:Nat->Nat,∀i,up g i (g i+1) r=g r+(if i=r then 1 else 0):=λg i=>by
  rw[u];by_cases e:i=r
  ·subst e;rw[ar rfl,ar rfl]
  ·rw[ax e,ax e];rfl
 unfold U_;rw[s2,s2];have h1:=s1 f m.1 p1;have h2:=s1 (up f m.1<|f m.1 - 1) m.2.1 p2;lia
def iO(l:Re (Nat×Nat)):Re Nat:=l.flatMap λp=>List.replicate p.2 p.1
theorem uJ(p:Re (Nat×Nat))(x:Nat×Nat):iO (p++[x])=iO p++List.replicate x.2 x.1:=by
 unfold iO
 grind
def PC(f:Nat->Nat)(ms:Re Mt):Re Nat:=(ms.zipIdx.filter λp=>gL f p.1).map (·.2)
theorem Gx(as bs:Re D)(h:as.length+bs.length<=100000):zX as bs=some (as++bs):=ar<|ba<|bj h ?C
def Pz(r:Rl)(hs:Re Nat)(i j:Nat):Re Nat:=(hs.set i (turn r.ms (hs.getD i 0)<|hs.getD j 0).1).set j (turn r.ms (hs.getD i 0)<|hs.getD j 0).2
def IY(r q:Rl)(i j:Nat):Nat×Nat:=((turn r.ms (i / q.n)<|j / q.n).1*q.n+(turn q.ms (i % q.n)<|j % q.n).1,(turn r.ms (i / q.n)<|j / q.n).2*q.n+(turn q.ms (i % q.n)<|j % q.n).2)
def cell(r q:Rl)(i j:Nat):Re Mt:=if IY r q i j=(i,j)then[]else[(i,j,IY r q i j)]
def M8(r q:Rl)(i:Nat):Re Mt:=(Yo i<|r.n*q.n).flatMap<|cell r q i
def Kw(r q:Rl):Re Mt:=(List.range<|r.n*q.n).flatMap<|M8 r q
structure Two(r q:Rl):Prop where
 wr:Wf r
 wq:Wf q
 rn:r.n<=40
 qn:q.n<=40
 R:r.n*q.n<=40
 st:r.st.length=q.st.length
 s4:q.st.length<=4
def MY(both a b:Bool):Bool:=if both then a&&b else a||b
def Kx(r q:Rl)(both:Bool)(p:Nat):Bool:=MY both (r.sy.getD (p / q.n) false)<|q.sy.getD (p % q.n) false
def xS(r q:Rl):Re Nat:=(List.range r.st.length).map λk=>r.st.getD k 0*q.n+q.st.getD k 0
def PJ(r q:Rl)(both:Bool):Rl:={r.n*q.n,xS r q,Kw r q,(List.range<|r.n*q.n).map<|Kx r q both}
def Pv(both:Bool):D:=if both then .str "both" else .str "either"
abbrev cT(l:Re Nat):D:=.tuple ?jt
theorem sQ:∀l l':Re Nat,PyData.eqvAll ?jt (l'.map iN)=decide (l=l')
 | [],[]=>rfl
 | [],_::_=>rfl
 | _::_,[]=>rfl
 | a::l,b::l'=>by
  simp![ap,PyData.eqvAll,PyData.eqv,BC,sQ l l']
  grind
theorem LZ(l l':Re Nat):PyData.eqv (cT l) (cT l')=decide (l=l'):=by
 rw[<-sQ];rfl
theorem sw(l:Re Nat):PyData.canLayAll0 ?jt=true:=nG λd hd=>by
 let{x,_,rfl}:=List.mem_map.mp hd;simp[iN,PyData.canLay0]
theorem Ab(l:Re Nat):(cT l).canLay0=true/\(cT l).depth<=1000:=by
 refine{(sw l),?_};have hd:PyData.depthAll ?jt<=1:=km λd hd=>by
  let{x,_,rfl}:=List.mem_map.mp hd;simp[iN,PyData.depth]
 simp  [PyData.depth];lia
theorem neT(l l':Re Nat):cW (cT l) (cT l')=some (!decide (l=l')):=by
 unfold cW qk;rw[ar (by simp[Ab]),LZ]
theorem Py:cW (.list []) (.list [])=some false:=rfl
def Px(n:Nat)(g f:Nat->Nat):Nat->Nat:=cnt<|iO<|(List.range n).map λp=>(g p,f p)
structure Sd(r q:Rl)(g:Nat->Nat)(R:Rl):Prop where
 wf:Wf R
 lt:∀{a},a<r.n*q.n->g a<R.n
 tn:∀{a b},a<r.n*q.n->b<r.n*q.n->(g (IY r q a b).1,g (IY r q a b).2)=turn R.ms (g a) (g b)
 st:(xS r q).map g=R.st
end L4
namespace YC
open PySem PySem.Spec PyProof.Rows L2 L3 L4
variable {r:Rl}{c l c0 cs s c' ks:Re Nat}{F A Gs L:Re ?L}{n T most x a h:Nat}{f:Nat->Nat}{g:Nat->Int}{ps:Re ?jv}{v:Re Nat->Nat}
def Fd(T:Nat)(f:Re D):Prop:=∃a b t:Int,f=[.int a,.int b,.int t]/\0<=t/\t<=T
theorem Fd.le{T':Nat}{f:Re D}(h:Fd T f)(hl:T<=T'):Fd T' f:=by
 let{a,b,t,e,h0,h1}:=h;exact{a,b,t,e,h0,by lia}
theorem GF{f:Re D}{m:Int}(h:Fd T f)(hT:T<=1000000)(hm:0<m)(hm2:m<1073741824) :
  ∃(r:Int) (f':Re D),aB f (.int m)=.ret (.int r,f')/\0<=r/\r<m/\Fd (T+1) f':=by
 let{a,b,t,rfl,h0,h1}:=h;unfold aB;simp  [lL];rw[L4.zaI,f_,a_,L4.Wt,f_,a_,L4.Z_,f_,a_,L4.zaJ,f_,a_,L4.ZM,f_,a_];by_cases ha:0<b
 ·simp  [ha,decide_true,yp];have p1:putD [PyData.int a,.int b,.int (t+1)] (.int 1) (.int<|b / m)=some [.int a,.int (b / m),.int (t+1)]:=id rfl;rw[L4.Zq _ _ hm hm2,f_,a_,p1,f_,L4.V0 _ _ hm,f_];exact{_,_,rfl,Int.emod_nonneg _ ?A,Int.emod_lt_of_pos _ hm,_,_,_,rfl,by lia,by lia}
 ·simp![ha,Qg];rw[ax ?C];rw[L4.zaK,f_,a_,L4.V0 _ _ ?C,f_,a_,L4.mulL _ _ ?C ?C,f_,a_,L4.mulR _ t ?A ?A,f_,a_,L4.Wt,f_,a_,L4.Wt,f_,a_];rw[L4.mulL _ _ ?C ?C,f_,a_,L4.Wt,f_,a_,L4.mulR _ (48271+40*t) ?A ?A,f_,a_,L4.V0 _ _ ?C,f_,a_];rw[L4.Zq _ _ ?C ?C,f_,a_,L4.mulR _ _ ?C ?C,f_,a_,L4.Wt,f_,a_,L4.V0 _ _ ?C,f_,a_,L4.Zq _ _ ?C ?C,f_,a_,L4.V0 _ _ hm,f_];exact{_,_,rfl,Int.emod_nonneg _ ?A,Int.emod_lt_of_pos _ hm,_,_,_,rfl,by lia,by lia}
theorem cp{f:Re D}{m:Nat}(h:Fd T f)(hT:T<=1000000)(hm:0<m)(hm2:m<=1000000000) :
  ∃(r:Nat) (f':Re D),aB f (.int (m:Int))=.ret (iN r,f')/\r<m/\Fd (T+1) f':=by
 let{r,f',e,h1,h2,h3}:=GF h hT (m:=(m)) ?A ?A;let{n,rfl}:=Int.eq_ofNat_of_zero_le h1;exact{n,f',e,by lia,h3}
theorem B4(c:Int):∃f,e8 (.int c)=.ret f/\Fd 0 f:=by
 unfold e8;have m1:Cb [.int 0,.int c]=some (.int<|if c>0 then c else 0):=id rfl;have p18:BA (.int 10) (.int 18)=some (.int 1000000000000000000):=id rfl;rw[m1,f_,a_,p18,f_,a_,L4.geI,f_,a_,a_];generalize decide ((1000000000000000000)<=c)=B;have e:mE [.bool B]=some (.int<|if B then 1 else 0):=rfl;rw[e,f_,a_,L4.mulR _ _ (by split<;>lia) (by split<;>lia),f_,a_];exact{_,rfl,_,_,_,rfl,Ch _,Ch _}
theorem IL(ns:Re Int)(k:Nat)(hk:k<=1000)(hn:ns.length<=63):∃f,iF (.list ?jb) (.int (k:Int))=.ret f/\Fd 0 f:=by
 unfold iF;simp  [lL];have e1:dE [.list ?jb]=some (.int ns.length):=by rw[L4.V3,v_]
 rw[L4.mulL _ _ ?C ?C,f_,a_,e1,f_,a_,L4.ZM,f_,a_];by_cases h:0<(ns.length:Int)
 ·simp![h,decide_true,yp];rw[a_,L4.V0 _ _ h,f_,a_];have m1:=Int.emod_nonneg (k) (b:=(ns.length)) ?A;have m2:=Int.emod_lt_of_pos (k) h;let{x,hx,e}:=Mq ?jb (k % ns.length) m1 (by rw[v_];exact m2);let{i,hi,rfl}:=List.mem_map.mp hx;have e2:fJ (.list ?jb) (.int<|k % ns.length)=some (.int i):=e;rw[e2,f_,a_,a_,L4.Zq _ _ h ?A,f_,a_,L4.mulL _ _ ?C ?C,f_,a_,L4.Wt,f_];exact B4 _
 ·simp![h,Qg];exact B4 _
theorem Lx(a b:Int):HT.lexLt [a] [b]=decide (a<b):=by
 rw[HT.F_];by_cases h:a=b
 ·rw[h];simp[HT.lexLt]
 ·rw[ax h]
theorem Kv(a b:Nat):pS [.list [iN a,iN b]]=some [iN (min a b),iN (max a b)]:=by
 have ok:eF [iN a,iN b]=true:=rfl;show(if eF [iN a,iN b]then some (mQ [iN a,iN b])else none)=_;rw[ar ok];congr 1;refine(xT ok ?_ ?_).symm
 ·by_cases h:a<=b
  ·rw[Nat.min_eq_left h,Nat.max_eq_right h]
  ·rw[Nat.min_eq_right ?A,Nat.max_eq_left ?A];exact List.Perm.swap _ _ _
 ·rw[List.pairwise_cons];refine{λx hx=>?_,List.pairwise_singleton _ _};have:=by simpa using hx
  subst this;show(!HT.lexLt [((max a b:Nat))] [((min a b:Nat))])=true;rw[Lx,bi ?A];rfl
theorem O0(p q:Nat×Nat):cW (.list [iN p.1,iN p.2]) (.list [iN q.1,iN q.2])=some (!decide (p=q)):=by
 have h1:(PyData.list [iN p.1,iN p.2]).canLay0=true:=rfl;have h2:(PyData.list [iN q.1,iN q.2]).canLay0=true:=rfl;have h3:(PyData.list [iN p.1,iN p.2]).depth<=1000:=by simp[PyData.depth,PyData.depthAll]
 unfold cW qk;rw[ar (by simp[h1,h2,h3])];have e:PyData.eqv (.list [iN p.1,iN p.2]) (.list [iN q.1,iN q.2])=PyData.eqv (pD p) (pD q):=rfl;rw[e,Gz]
def Jr(T most:Nat)(m:M ?V):Prop:=∃(r:Rl) (f':Re D),m=.ret (r.d,f')/\Wf r/\r.n<=most/\(1<=r.st.length/\r.st.length<=4)/\r.ms.length<=r.n*r.n+r.n/\Fd (T+7000) f'
theorem Hx{R:M ?V->Prop}{SQ:Nat}{f:Re D}{ms:Re Mt}{st sy:D}{kn:Re D×D×D×D×D×Re D×Unit->M ?V}(hf:Fd T f)(hT:T<=990000)(hn:n<=40)(ha:a<n)(ho:1<=SQ)(Tw:SQ<=3)(hA:Xh n a a ms)
  (k:∀f' XJ,Fd (T+4*n) f'->Xh n (a+1) (a+1) XJ->R (kn (f',iN n,st,sy,iN SQ,XJ.map mD,()))):R (hZ f (iN n) st sy (iN SQ) (ms.map mD) (iN a) kn):=by
 unfold hZ;rw[HC a n ?A ?A,f_,a_];refine lh (P:=λi s=>∃f ms,s=(f,iN n,st,sy,iN SQ,List.map mD ms,iN a,())/\Fd (T+4*i) f/\Xh n a (a+i) ms) _ _ ?_ {f,ms,rfl,hf,hA} ?_
 ·rintro i s d hd ⟨f,ms,rfl,hf,hA⟩ kn UP;let{rfl,hi}:=KI hd;unfold kG;dsimp only;let{c,f1,e1,hc,Ue}:=cp (m:=n) hf ?A ?A ?A;let{e,f2,e2,he,Vh}:=cp (m:=n) Ue ?A ?A ?A;let{x',f4,e4,_,hf4}:=cp (m:=SQ) Vh ?A ?A ?A;rw[e1,a_];dsimp only;rw[e2,a_];dsimp only;rw[e4,a_];dsimp only;rw[eqI,f_,a_];have skip:R (kn (f4,iN n,st,sy,iN SQ,List.map mD ms,iN a,())):=UP _ {f4,ms,rfl,hf4.le ?A,hA.next};split
  ·rw[Kv,f_,a_,a_,O0 (min c e,max c e) (a,a+i),f_,a_];split
   ·rename_i VH;have hle:=hA.le;have hlen:(ms.map mD).length<=100000:=by
     rw[v_];have:a*n<=40*40:=Nat.mul_le_mul ?A hn;lia
    rw[kN _ _ hlen,f_];have Ve:=by
     rw[ye,lu]at VH;exact VH
    have:=UP (f4,iN n,st,sy,iN SQ,List.map mD (ms++[(a,a+i,c,e)]),iN a,()) {f4,_,rfl,hf4.le ?A,hA.add {by simp,hi,hc,he,λz=>Ve (by
     have z1:c=a:=congrArg Prod.fst z;have z2:e=a+i:=congrArg Prod.snd z
     rw[z1,z2,Nat.min_eq_left ?A,Nat.max_eq_right ?A]),λz=>Ve (by
     have z1:c=a+i:=congrArg Prod.fst z;have z2:e=a:=congrArg Prod.snd z
     rw[z1,z2,Nat.min_eq_right ?A,Nat.max_eq_left ?A])}}
    rw[eg]at this;exact this
   ·exact skip
  ·exact skip
 ·rintro s ⟨f,ms,rfl,hf,hA⟩;rw[v_,rf]at hf hA;exact k f ms (hf.le ?A)<|hA.row ?A
theorem Hw{f:Re D}(h:Fd T f)(hT:T<=900000)(hm:1<=most)(hm2:most<=40):Jr T most (f7 f<|iN most):=by
 unfold f7;let{n0,f1,e1,h1,Ue}:=cp (m:=most) h ?A ?A ?A;let{s0,f2,e2,h2,Vh}:=cp (m:=5) Ue ?A ?A ?A;have e2':aB f1 (.int 5)=.ret (iN s0,f2):=e2;have es:∃sorts,(1<=sorts/\sorts<=4)/\aF (.list [.int 1,.int 2,.int 2,.int 3,.int 4]) (iN s0)=some (iN sorts):=by
  rcases(by lia:s0=0\/s0=1\/s0=2\/s0=3\/s0=4)with rfl|rfl|rfl|rfl|rfl
  ·exact{1,by lia,rfl}
  ·exact{2,by lia,rfl}
  ·exact{2,by lia,rfl}
  ·exact{3,by lia,rfl}
  ·exact{4,by lia,rfl}
 let{sorts,hs4,es}:=es;rw[e1,a_];dsimp only;rw[vA,f_,a_,e2',a_];dsimp only;rw[es,f_,a_,cM _ ?A,f_,a_];generalize hn:n0+1=n;have zaM:n<=40:=by lia
 let{st,s1,c1,{f3,hs1,hf3},l1,r1}:=zj (P:=λj (s:Re D×D×D×Unit)=>∃f,s=(f,iN n,iN sorts,())/\Fd (T+2+j) f) (e:=iN) (R:=λx=>x<n)
   (step:=λs6 d7=>bd (aB s6.1 s6.2.1) λr8=>.ret (some r8.1,(r8.2,s6.2.1,s6.2.2.1,()))) ((List.range sorts).map iN) (f2,iN n,iN sorts,())
   (by
    rintro j s d hd ⟨f,rfl,hf⟩;let{rfl,hj}:=jg hd;let{x,f',e,hx,hf'}:=cp (m:=n) hf ?A ?A ?A;dsimp only;rw[e,a_]
    exact{x,_,rfl,{f',rfl,hf'},hx}) {f2,rfl,Vh.le ?A}
 subst hs1;rw[v_,ue]at hf3 l1;rw[c1,a_];dsimp only;rw[cb ?jU,a_,tY,f_,a_,cM n ?A,f_,a_];let{sy,s2,c2,{f4,Tu,hf4},l2,_}:=zj (P:=λj (s:Re D×D×D×Unit)=>∃f,s=(f,iN n,.tuple (st.map iN),())/\Fd (T+2+sorts+j) f) (e:=PyData.bool) (R:=λ_=>True)
   (step:=λH_ T5=>bd (aB H_.1<|.int 2) λZ9=>bd (oM<|bx Z9.1<|.int 1) λUK=>.ret (some (.bool UK),(Z9.2,H_.2.1,H_.2.2.1,()))) ((List.range n).map iN) (f3,iN n,.tuple (st.map iN),())
   (by
    rintro j s d hd ⟨f,rfl,hf⟩;let{rfl,hj}:=jg hd;let{x,f',e,hx,hf'}:=cp (m:=2) hf ?A ?A ?A;have e':aB f (.int 2)=.ret (iN x,f'):=e;dsimp only;rw[e',a_];dsimp only;rw[eqI,f_,a_]
    exact{_,_,rfl,{f',rfl,hf'},trivial}) {f3,rfl,hf3}
 subst Tu;rw[v_,ue]at hf4 l2;rw[c2,a_];dsimp only;rw[cb ?jU,a_,tY,f_,a_];let{o0,f5,e5,h5,hf5}:=cp (m:=3) hf4 ?A ?A ?A;have e5':aB f4 (.int 3)=.ret (iN o0,f5):=e5;rw[e5',a_];rw[vA,f_,cM n ?A,f_];have hb:∀j,j<=n->4*n*j<=6400:=λj hj=>by
  have:n*j<=40*40:=Nat.mul_le_mul zaM ?A;lia
 refine lh (P:=λj s=>∃f ms,s=(f,iN n,.tuple (st.map iN),.tuple (sy.map PyData.bool),iN (o0+1),List.map mD ms,())/\Fd (T+100+4*n*j) f/\Xh n j j ms) _ _ ?_ {f5,[],rfl,hf5.le ?A,{λ_ h=>(nomatch h),.nil,λ_ h=>(nomatch h),ai _}} ?_
 ·rintro j s d hd ⟨f,ms,rfl,hf,hA⟩ kn UP;let{rfl,hj}:=jg hd;refine Hx hf (by have:=hb j ?A;lia) zaM hj ?A ?A hA λf' XJ hf' hA'=>UP _ {f',XJ,rfl,hf'.le ?_,hA'}
  lia
 ·rintro s ⟨f,ms,rfl,hf,hA⟩;rw[v_,ue]at hf hA;have hfb:=hb n ?jm;exact{⟨n,st,ms,sy⟩,f,rfl,{(?A),r1,l2,hA.ok,hA.so},(?A),(?A),hA.le,hf.le ?A}
theorem GJ{m:Mt}(h:TF n m):kD (.tuple<|fG n f) (mD m)=.ret (.bool<|gL f m):=by
 have hb:=h.b;have ZK:=h.ab;unfold kD;have e1:(if decide (m.1=m.2.1)=true then(M.ret<|PyData.int 2)else .ret (.int 1))=.ret (iN<|if m.1=m.2.1 then 2 else 1):=by
  by_cases e:m.1=m.2.1
  ·rw[ar<|ba e,ar e];rfl
  ·rw[ax (by simpa using e),ax e];rfl
 rw[bt,gI,f_,a_,bt,jo,f_,a_,Yl,f_,a_,e1,a_,a_,bt,vF<|?S,f_,a_,geI,f_,a_,a_,bt,vF hb];simp![f_,a_,geI,O7,gL];congr 3<;>(rw[PP,QS,QS];omega)
theorem FR(d:D)(hx:x<n)(h:1<=f x)(kn:D×Re D×Unit->M D):kz d (fG n f) (iN x) kn=kn (d,fG n (up f x<|f x - 1),()):=by
 unfold kz;rw[mN hx,f_,a_,MU _ h,f_,a_,qw _ hx,f_,a_]
theorem FQ(hx:x<n)(kn:Re D×Unit->M D):ku (fG n f) (iN x) kn=kn (fG n (up f x<|f x+1),()):=by
 unfold ku;rw[mN hx,f_,a_,Kj,f_,a_,qw _ hx,f_,a_]
theorem FS{m:Mt}(h:TF n m)(hc:gL f m=true):kA (.tuple<|fG n f) (mD m)=.ret (.tuple<|fG n<|U_ f m):=by
 have hb:=h.b;have ZK:=h.ab;have VL:=h.c;have hd:=h.d;let{p1,p2}:=sY hc;have e1:kj (mD m) (some 2) none=some (.tuple [iN m.2.2.1,iN m.2.2.2]):=rfl;have e2:kj (mD m) none (some 2)=some (.tuple [iN m.1,iN m.2.1]):=rfl;have a2:Wr (.int 2)=.ret (some 2):=id rfl;have l1:pT [.tuple (fG n f)]=some (fG n f):=id rfl;unfold kA;rw[l1,f_,a_,a2,a_,e2,f_,a_,Hs,f_,a_,bS,cP];refine(FR (mD m) (?S) p1 _).trans ?_;rw[cP];refine(FR (mD m) hb p2 _).trans ?_;rw[cP];unfold pY;rw[a2,a_,e1,f_,a_,Hs,f_,a_,bS,cP];refine(FQ VL _).trans ?_;rw[cP];refine(FQ hd _).trans ?_;rfl
def fl(l:Re Nat):Nat->Nat:=λi=>l.getD i 0
theorem Eo(h:l.length=n):tab n (fl l)=l:=by
 subst h;unfold tab fl;apply At
 ·simp
 ·intro i h1 h2;simp[fu,ay h2]
theorem wY(h:l.length=n):cT l=.tuple (fG n<|fl l):=by
 show cT l=cT (tab n<|fl l);rw[Eo h]
def led(n:Nat)(l:Re Nat)(m:Mt):Re Nat:=tab n<|U_ (fl l) m
theorem zY(n:Nat)(l:Re Nat)(m:Mt):(led n l m).length=n:=dg n _
def Goes(r:Rl)(l:Re Nat)(k:Nat)(l':Re Nat):Prop:=∃m,r.ms[k]? = some m/\gL (fl l) m=true/\l'=led r.n l m
theorem Mm{m:Mt}(hl:l.length=r.n)(h:TF r.n m):kD (cT l) (mD m)=.ret (.bool<|gL (fl l) m):=by
 rw[wY hl];exact GJ h
theorem Ly{m:Mt}(hl:l.length=r.n)(h:TF r.n m)(hc:gL (fl l) m=true):kA (cT l) (mD m)=.ret (cT<|led r.n l m):=by
 rw[wY hl];exact FS h hc
def UO(p:Mt×Nat):D×D:=(pD (p.1.1,p.1.2.1),iN p.2)
def idx(ms:Re Mt)(p:Nat×Nat):SC Nat:=(ms.zipIdx.find? λq=>decide<|(q.1.1,q.1.2.1)=p).map (·.2)
theorem yV(p:Nat×Nat):∀l:Re (Mt×Nat),gk (l.map UO) (pD p)=((l.find? λq=>decide<|(q.1.1,q.1.2.1)=p).map (·.2)).map iN
 | []=>rfl
 | q::r=>by
  unfold gk;rw[ap,ou,ou];rw[show gH (UO q).1 (pD p)=decide ((q.1.1,q.1.2.1)=p)from BJ _ _]
  cases h:decide ((q.1.1,q.1.2.1)=p)with
  | true=>rfl
  | false=>exact yV p r
theorem Dr(l:Re (Mt×Nat))(p:Nat×Nat):keyOk (l.map UO) (pD p)=true:=by
 unfold keyOk;rw[gs];left;rw[am,ir];refine{sI p,λx hx=>?_};let{q,_,rfl}:=List.mem_map.mp hx;exact sI _
theorem GH(ms:Re Mt)(a b:Nat):zg (.dict<|ms.zipIdx.map UO) (.tuple [iN a,iN b])=some (((idx ms (a,b)).map iN).getD .none):=by
 show(if keyOk (ms.zipIdx.map UO) (pD (a,b))then some ((gk (ms.zipIdx.map UO)<|pD (a,b)).getD .none)else none)=_;rw[ar<|Dr _ _,yV];rfl
theorem Gd{ms:Re Mt}{p:Nat×Nat}{k:Nat}(h:idx ms p=some k):∃m,ms[k]? = some m/\(m.1,m.2.1)=p:=by
 let{q,hq,rfl}:=Option.map_eq_some_iff.mp h;have h1:=wT hq;have h2:=List.find?_some hq;exact{q.1,List.mem_zipIdx_iff_getElem?.mp h1,by simpa using h2}
theorem Ak(w:Wf r){k:Nat}{m:Mt}(h:r.ms[k]? = some m):idx r.ms (m.1,m.2.1)=some k:=by
 have hm:(m,k)∈r.ms.zipIdx:=List.mem_zipIdx_iff_getElem?.mpr h;unfold idx
 cases e:r.ms.zipIdx.find? λq=>decide<|(q.1.1,q.1.2.1)=(m.1,m.2.1)with
 | none =>
  have:=List.find?_eq_none.mp e (m,k) hm;simp at this
 | some q =>
  have h1:=List.mem_zipIdx_iff_getElem?.mp<|wT e;have h2:(q.1.1,q.1.2.1)=(m.1,m.2.1):=by simpa using List.find?_some e
  show some q.2=some k;congr 1;let lt||eq||gt:=Nat.lt_trichotomy q.2 k
  ·let{g1,e1}:=List.getElem?_eq_some_iff.mp h1;let{g2,e2}:=List.getElem?_eq_some_iff.mp h;have:=List.pairwise_iff_getElem.mp w.so q.2 k g1 g2 lt;rw[e1,e2,h2]at this;let z||{_,z}:=this<;>exact absurd z<|lf _
  ·exact eq
  ·let{g1,e1}:=List.getElem?_eq_some_iff.mp h1;let{g2,e2}:=List.getElem?_eq_some_iff.mp h;have:=List.pairwise_iff_getElem.mp w.so k q.2 g2 g1 gt;rw[e1,e2,h2]at this;let z||{_,z}:=this<;>exact absurd z<|lf _
theorem lm{ι:Type}(e:ι->D)(is:Re ι):hJ (is.map e)=is.zipIdx.map λp=>.tuple [iN p.2,e p.1]:=by
 apply At
 ·simp[hJ]
 ·simp[hJ]
theorem Fm(w:Wf r)(hl:r.ms.length<=90000):jI r.d=.ret (.dict ?j8):=by
 unfold jI;have e1:lN [.tuple ?qU]=some (r.ms.zipIdx.map λp=>.tuple [iN p.2,mD p.1]):=by
  show some (hJ _)=_;rw[lm]
 rw[bt,sD,f_,a_,e1,f_];refine(dD  (F:=λl=>(l.map UO,())) r.ms.zipIdx ?_).trans rfl;intro p x t Uv kn;unfold lP;have c1:(bd ?qF λhi6=>oM (kj (mD x.1) none hi6))=.ret (pD (x.1.1,x.1.2.1)):=rfl;have np:∀q∈p.map UO,gH q.1 (pD (x.1.1,x.1.2.1))=false:=λq hq=>by
  let{y,hy,rfl}:=List.mem_map.mp hq;rw[show gH (UO y).1 _=_ from BJ _ _,lu];intro z;have Rx:=List.mem_zipIdx_iff_getElem?.mp (show x∈r.ms.zipIdx by rw[Uv];simp);have Vb:=List.mem_zipIdx_iff_getElem?.mp (show y∈r.ms.zipIdx by rw[Uv];simp[hy]);have i1:=Ak w Rx;have i2:=Ak w Vb;rw[z,i1]at i2;have hk:=by injection i2
  have nd:(r.ms.zipIdx.map (·.2)).Nodup:=by
   rw[List.zipIdx_map_snd];exact List.nodup_range'
  rw[Uv,eg]at nd;rw[PZ]at nd;exact nd.2.2 y.2 (List.mem_map.mpr {y,hy,rfl}) x.2 ?G hk.symm
 unfold To;dsimp only;have hlen:p.length<r.ms.zipIdx.length:=by rw[Uv];simp
 rw[ua]at hlen;have dp:hV true (p.map UO) (pD (x.1.1,x.1.2.1)) (iN x.2)=some ((p++[x]).map UO):=by
  unfold hV;rw[ar,rB np,eg]
  ·rfl
  ·rw[am,QS,v_];exact{sI (x.1.1,x.1.2.1),bo hlen (bj hl ?C)}
 rw[c1,a_,dp,f_,a_]
abbrev ld(p:Nat×Re Nat):D:=.tuple [iN p.1,cT p.2]
def rooms(l:Re Nat):Re Nat:=(List.range l.length).filter λi=>decide<|0<fl l i
def cell(r:Rl)(l:Re Nat)(a b:Nat):Re ?jv:=match idx r.ms (a,b)with
 | some k=>match r.ms[k]? with
  | some m=>if gL (fl l) m then[(k,led r.n l m)]else[]
  | none=>[]
 | none=>[]
def bW(r:Rl)(l:Re Nat):Re ?jv:=(rooms l).zipIdx.flatMap λp=>((rooms l).drop p.2).flatMap<|cell r l p.1
theorem nQ(r:Rl)(l:Re Nat)(a b:Nat):(cell r l a b).length<=1:=by
 unfold cell;split
 ·split
  ·split<;>simp
  ·simp
 ·simp
theorem FK{b:Nat}{p:Nat×Re Nat}(h:p∈cell r l a b):Goes r l p.1 p.2:=by
 unfold cell at h
 cases e:idx r.ms (a,b)with
 | none=>rw[e]at h;cases h
 | some k =>
  rw[e]at h;dsimp only at h
  cases e2:r.ms[k]? with
  | none=>rw[e2]at h;cases h
  | some m =>
   rw[e2]at h;dsimp only at h;split at h
   ·rename_i hc;have:=by simpa using h
    subst this;exact{m,e2,hc,rfl}
   ·cases h
theorem eM(w:Wf r)(hl:l.length=r.n){k:Nat}:(k,c)∈bW r l↔Goes r l k c:=by
 constructor
 ·intro h;let{p,_,h}:=List.mem_flatMap.mp h;let{b,_,h}:=List.mem_flatMap.mp h;exact FK h
 ·rintro⟨m,hm,hc,rfl⟩;have ok:=w.ms m<|pI hm;have ZK:=ok.ab;have hb:=ok.b;have pos:1<=fl l m.1/\1<=fl l m.2.1:=by
   unfold gL at hc;split at hc<;>lia
  have ra:m.1∈rooms l:=List.mem_filter.mpr {List.mem_range.mpr ?A,((?A))};have rb:m.2.1∈rooms l:=List.mem_filter.mpr {List.mem_range.mpr ?A,((?A))};let{i,hi,ei}:=oR ra;let{j,hj,ej}:=oR rb;have so:(rooms l).Pairwise (· < ·):=List.pairwise_lt_range.filter _;have VJ:i<=j:=by
   let lt||ge:=Nat.lt_or_ge j i
   ·have:=List.pairwise_iff_getElem.mp so j i hj hi lt;lia
   ·exact ge
  refine List.mem_flatMap.mpr {(m.1,i),List.mem_zipIdx_iff_getElem?.mpr (by rw[ay hi,ei]),List.mem_flatMap.mpr {m.2.1,?_,?_}}
  ·refine List.mem_iff_getElem?.mpr {j - i,?_};rw[List.getElem?_drop,show i+(j - i)=j by lia,ay hj,ej]
  ·unfold cell;rw[Ak w hm];dsimp only;rw[hm];dsimp only;rw[ar hc];exact List.mem_singleton.mpr rfl
theorem Aq(l:Re Nat):lN [cT l]=some ((List.range l.length).map λi=>.tuple [iN i,iN (fl l i)]):=by
 show some (hJ ?jt)=_;congr 1;rw[lm];apply At
 ·simp
 ·intro i h1 h2;simp[fl,fu,ay ((by simpa using h1))]
theorem ES(l:Re Nat)(hl:l.length<=1000):(bd (bd (oM<|lN [cT l]) λl6=>bd (aZ (λd2=>To d2 λy3 y4=>bd (oM<|dX y4<|.int 0) λb5=>if b5 then .ret (some y3)else .ret none) l6) cq) λl7=>M.ret<|PyData.list l7)=.ret (.list ?qL):=by
 rw[Aq,f_,a_,dF  (g:=λi=>if decide (0<fl l i)=true then some (iN i)else none) (List.range l.length) (λi _=>by
  show(bd (oM<|dX (iN<|fl l i)<|.int 0) λb5=>if b5=true then M.ret (some<|iN i)else .ret none)=_;rw[L4.ZM,f_,a_];have e:decide ((0:Int)<(fl l i))=decide (0<fl l i):=decide_eq_decide.mpr ?A;rw[e]
  split<;>rfl),a_,lM,cb]
 ·rfl
 ·rw[v_];exact bj (pi _ _) (by simpa using hl)
theorem n8(l:Re Nat):(rooms l).length<=l.length:=by
 have:=pi (λi=>decide<|0<fl l i)<|List.range l.length;rw[ue]at this;exact this
section
variable (w:Wf r) (hl:l.length=r.n) (hn:r.n<=40)
include w hl hn
theorem M6{b:Nat}{acc:Re ?jv}(ha:acc.length<=90000)(R:D)(SE:D×D×D×D×Re D×Unit->M D)(X3:D×D×D×D×Re D×D×Unit->M D) :
  iY SE (.dict ?j8) (cT l) (.tuple ?qU) R (acc.map ld) (iN a) (iN b) X3=X3 (.dict ?j8,cT l,.tuple ?qU,R,(acc++cell r l a b).map ld,iN a,()):=by
 unfold iY;rw[GH,f_,a_];unfold cell
 cases e:idx r.ms (a,b)with
 | none =>
  show bd (bd (oM<|gU .none .none) _) _=_;rw[show gU .none .none=some false from rfl,f_,a_,ax ?C,a_,ax ?C,ic]
 | some k =>
  let{m,hm,_}:=Gd e;have hk:=(List.getElem?_eq_some_iff.mp hm).1;have em:=(List.getElem?_eq_some_iff.mp hm).2;have ok:=w.ms m<|pI hm;have e2:aF (.tuple ?qU) ?qj=some (mD m):=by
   rw[bt,(pR mD r.ms k hk),em]
  show bd (bd (oM<|gU ?qj .none) _) _=_;dsimp only;rw[hm];dsimp only;rw[show gU ?qj .none=some true from rfl,f_,a_,ar rfl,show(((some k).map iN).getD PyData.none)=iN k from rfl,e2,f_,a_,Mm hl ok,a_,show fF (.bool<|gL (fl l) m)=some (gL (fl l) m)from rfl,f_,a_];by_cases hc:gL (fl l) m=true
  ·rw[ar hc,a_,Ly hl ok hc,a_,a_,kN _ _ ?jU,f_,ar hc,eg];rfl
  ·rw[ax hc,ax hc,ic]
theorem Aa(hm:r.ms.length<=90000):jJ r.d (.dict ?j8) (cT l)=.ret (.list ((bW r l).map ld)):=by
 unfold jJ;have rl:=n8 l;have e1:sN [.list ?qL]=some ((rooms l).zipIdx.map λp=>.tuple [iN p.2,iN p.1]):=by
  show some (hJ _)=_;rw[lm]
 rw[bt,sD,f_,a_,ES l ?A,a_,e1,f_,a_];refine(dD (e:=λp:Nat×Nat=>.tuple [iN p.2,iN p.1]) (F:=λps=>(PyData.dict ?j8,cT l,PyData.tuple ?qU,PyData.list ?qL,(ps.flatMap λp=>((rooms l).drop p.2).flatMap (cell r l p.1)).map ld,())) (rooms l).zipIdx ?_).trans rfl;intro p x t Uv kn;dsimp only;unfold lQ;show To (.tuple [iN x.2,iN x.1]) _=_;unfold To;dsimp only;have cut:(bd (bd (Wr (iN x.2)) λzag=>oM (kj (.list ?qL) zag none)) λTn=>oM (cH Tn))=.ret (((rooms l).drop x.2).map iN):=by
  have hx:x.2<(rooms l).length:=by
   have:=List.mem_zipIdx_iff_getElem?.mp (show x∈(rooms l).zipIdx by rw[Uv];simp);exact(List.getElem?_eq_some_iff.mp this).1
  rw[show Wr (iN x.2)=.ret (some (x.2:Int))from rfl,a_];have:kj (.list ?qL) (some (x.2:Int)) none=some (.list (((rooms l).drop x.2).map iN)):=by
   show some (PyData.list (L4.cutD _ _ _))=_;unfold L4.cutD;have s1:HT.E_ ((rooms l).map iN).length 0 (some (x.2:Int))=x.2:=by
    unfold HT.E_;simp![v_];have h0:¬ ((x.2:Int)<0):=by lia
    simp[h0];lia
   have s2:HT.E_ ((rooms l).map iN).length ((rooms l).map iN).length none=((rooms l).map iN).length:=rfl;rw[s1,s2,<-List.map_drop,Cn ?G]
  rw[this,f_,a_];rfl
 rw[cut,a_];have pl:p.length<=40:=by
  have:p.length<(rooms l).zipIdx.length:=by rw[Uv];simp
  rw[ua]at this;lia
 have zbO:(p.flatMap λq=>((rooms l).drop q.2).flatMap (cell r l q.1)).length<=40*40:=by
  have h1:=hG (g:=λq:Nat×Nat=>((rooms l).drop q.2).flatMap (cell r l q.1)) (B:=40) (λq=>by
   have h2:=hG (g:=cell r l q.1) (B:=1) (nQ r l q.1) ((rooms l).drop q.2);rw[No]at h2
   lia) p
  exact bj h1 (Nat.mul_le_mul_right _ pl)
 rw[show(p.flatMap λq=>((rooms l).drop q.2).flatMap (cell r l q.1)).map ld=((p.flatMap λq=>((rooms l).drop q.2).flatMap (cell r l q.1))++([]:Re Nat).flatMap (cell r l x.1)).map ld from by simp];refine(dD (e:=iN) (F:=λds=>(PyData.dict ?j8,cT l,PyData.tuple ?qU,PyData.list ?qL,((p.flatMap λq=>((rooms l).drop q.2).flatMap (cell r l q.1))++ds.flatMap (cell r l x.1)).map ld,iN x.1,())) ((rooms l).drop x.2) ?_).trans ?_
 ·intro p2 b t2 zbw Ru;refine(M6 w hl hn ?_ _ kn Ru).trans ?_
  ·rw[R4];have h2:=hG   (nQ r l x.1) p2;have h3:p2.length<((rooms l).drop x.2).length:=by rw[zbw];simp
   rw[No]at h3;lia
  ·simp
 ·unfold lR;simp
end
abbrev jY(n:Nat)(g:Nat->Int):Re D:=(List.range n).map λi=>.int<|g i
def VC(g:Nat->Int)(i:Nat)(v:Int):Nat->Int:=λx=>if x=i then v else g x
theorem xO(n:Nat)(f:Nat->Nat):jY n (λi=>(f i:Int))=fG n f:=by
 unfold jY fG tab;rw[eT];rfl
theorem A5{i:Nat}(h:i<n):fJ (.list<|jY n g) (iN i)=some (.int<|g i):=by
 have e:=sG (λi=>PyData.int<|g i) (List.range n) i ?jh;rw[List.getElem_range]at e;exact e
theorem Ep(n:Nat)(g:Nat->Int)(i:Nat)(v:Int):(jY n g).set i (.int v)=jY n (VC g i v):=by
 apply At
 ·simp
 ·intro j h1 h2;rw[List.getElem_set];simp  [Op,List.getElem_range];unfold VC;by_cases e:i=j
  ·rw[ar e,ar e.symm]
  ·rw[ax e,ax λz=>e z.symm]
theorem xN{i:Nat}(v:Int)(h:i<n):putD (jY n g) (iN i) (.int v)=some (jY n<|VC g i v):=by
 show(L2.WA _<|i).map _=_;rw[v_,ue,wJ h];show some ((jY n g).set i<|.int v)=_;rw[Ep]
theorem xR(hx:x<n)(kn3:D×Re D×Unit->M D)(c:D)(fs:Re D)(k m:D)(kn:D×Re D×D×D×Re D×Unit->M D) :
  gp kn3 c fs k m (jY n g) (iN x) kn=kn (c,fs,k,m,jY n (VC g x<|g x - 1),()):=by
 unfold gp;rw[lL,A5 hx,f_,a_,show gT (.int<|g x) (.int 1)=some (.int<|g x - 1)from rfl,f_,a_,xN _ hx,f_,a_]
theorem xQ(hx:x<n)(kn3:D×Re D×Unit->M D)(c:D)(fs:Re D)(k:D)(kn:D×Re D×D×Re D×Unit->M D) :
  gn kn3 c fs k (jY n g) (iN x) kn=kn (c,fs,k,jY n (VC g x<|g x+1),()):=by
 unfold gn;rw[lL,A5 hx,f_,a_,L4.Wt,f_,a_,xN _ hx,f_,a_]
theorem Dw(n:Nat)(g:Nat->Int):intsOf (jY n g)=some ((List.range n).map g):=by
 have:∀l:Re Nat,intsOf (l.map λi=>PyData.int<|g i)=some (l.map g):=by
  intro l
  induction l with
  | nil=>rfl
  | cons a l ih=>rw[ap,intsOf,ih];rfl
 exact this _
theorem FH(h:0<n):∃i,Ca [.list (jY n g)]=some (.int i)/\(0<=i↔∀x,x<n->0<=g x):=by
 have e:∃i,Am ((List.range n).map g)=some i:=by
  cases n with
  | zero=>lia
  | succ n=>rw[QF];exact{_,rfl}
 let{i,e}:=e;let{s1,s2}:=va e;refine{i,?_,λhi x hx=>Int.le_trans hi<|s1 _<|List.mem_map.mpr {x,List.mem_range.mpr hx,rfl},λhx=>?_}
 ·show(match intsOf (jY n g)with|some ns=>(Am ns).map PyData.int|none=>none)=_;rw[Dw];show(Am _).map PyData.int=_;rw[e];rfl
 ·let{x,Rx,rfl}:=List.mem_map.mp s2;exact hx x<|List.mem_range.mp Rx
def outI(f:Nat->Nat)(m:Mt):Nat->Int:=let g1:=VC (λi=>(f i:Int)) m.1<|(f m.1:Int) - 1;VC g1 m.2.1<|g1 m.2.1 - 1
theorem Bz{m:Mt}(h:TF n m):(∀x,x<n->0<=outI f m x)↔gL f m=true:=by
 have ZK:=h.ab;have hb:=h.b;unfold gL;simp  [am,QS];constructor
 ·intro q;have q1:=q m.1 ?A;have q2:=q m.2.1 hb;unfold outI VC at q1 q2;by_cases e:m.1=m.2.1
  ·rw[ar e]at q1;lia
  ·lia
 ·unfold outI VC;by_cases e:m.1=m.2.1
  ·split
   ·lia
   ·split<;>lia
  ·split
   ·lia
   ·split<;>lia
theorem HV{m:Mt}(hc:gL f m=true):(λi=>((U_ f m i:Nat):Int))=VC (VC (outI f m) m.2.2.1<|outI f m m.2.2.1+1) m.2.2.2 (VC (outI f m) m.2.2.1 (outI f m m.2.2.1+1) m.2.2.2+1):=by
 let{p1,p2}:=sY hc;have g1:(λi=>((up f m.1 (f m.1 - 1) i):Int))=VC (λi=>(f i)) m.1 ((f m.1) - 1):=by
  funext i;unfold up VC;split
  ·lia
  ·rfl
 have g2:(λi=>((up (up f m.1<|f m.1 - 1) m.2.1 (up f m.1 (f m.1 - 1) m.2.1 - 1) i):Int))=outI f m:=by
  unfold outI;rw[<-g1];funext i;unfold VC;show((if i=m.2.1 then _ else _:Nat):Int)=_;split
  ·lia
  ·rfl
 rw[<-g2];funext i;unfold U_;unfold up VC;by_cases e1:i=m.2.2.2
 ·by_cases e2:m.2.2.2=m.2.2.1
  ·lia
  ·lia
 ·simp  [ax e1];by_cases e2:i=m.2.2.1
  ·lia
  ·simp  [ax e2]
def bP(r:Rl)(l:Re Nat)(ps:Re (Mt×Nat)):Re ?jv:=ps.flatMap λp=>if gL (fl l) p.1 then[(p.2,led r.n l p.1)]else[]
theorem K_{k:Nat}:(k,c)∈bP r l r.ms.zipIdx↔Goes r l k c:=by
 unfold bP;rw[List.mem_flatMap];constructor
 ·rintro⟨p,hp,h⟩;split at h
  ·rename_i hc;have:(k,c)=(p.2,led r.n l p.1):=by simpa using h
   injection this with h1 h2;subst h1 h2;exact{p.1,List.mem_zipIdx_iff_getElem?.mp hp,hc,rfl}
  ·cases h
 ·rintro⟨m,hm,hc,rfl⟩;exact{(m,k),List.mem_zipIdx_iff_getElem?.mpr hm,by rw[ar hc];exact List.mem_singleton.mpr rfl}
theorem jb(r:Rl)(l:Re Nat)(ps:Re (Mt×Nat)):(bP r l ps).length<=ps.length:=by
 have:=hG (g:=λp=>if gL (fl l) p.1 then[(p.2,led r.n l p.1)]else[]) (B:=1) (λp=>by split<;>simp) ps;unfold bP;lia
theorem EB(w:Wf r)(hl:l.length=r.n){acc:Re ?jv}(ha:acc.length<=90000){p:Mt×Nat}(ok:TF r.n p.1)(kn3:D×Re D×Unit->M D) :
  gq (cT l) (acc.map ld) (.tuple [iN p.2,mD p.1]) kn3=kn3 (cT l,(acc++if gL (fl l) p.1 then[(p.2,led r.n l p.1)]else[]).map ld,()):=by
 let{m,k}:=p;have ZK:=ok.ab;have hb:=ok.b;have VL:=ok.c;have hd:=ok.d;unfold gq;unfold To;dsimp only;have l1:pT [cT l]=some (jY r.n λi=>(fl l i)):=by
  rw[xO,wY hl];rfl
 have c1:(bd (bd ?qF λhi7=>oM (kj (mD m) none hi7)) λx8=>oM (cH x8))=.ret [iN m.1,iN m.2.1]:=rfl;have c2:(bd (bd ?qF λzah=>oM (kj (mD m) zah none)) λTR=>oM (cH TR))=.ret [iN m.2.2.1,iN m.2.2.2]:=rfl;rw[l1,f_,a_,c1,a_,bS,cP];refine(xR (?A) kn3 _ _ _ _ _).trans ?_;rw[cP];refine(xR hb kn3 _ _ _ _ _).trans ?_;show gw kn3 (cT l) (acc.map ld) ?qj (mD m) (jY r.n (outI (fl l) m))=_;unfold gw;let{i,e1,e2}:=FH  (show 0<r.n by lia);rw[e1,f_,a_,L4.geI,f_,a_];by_cases hc:gL (fl l) m=true
 ·have hi:=e2.mpr ((Bz ok).mpr hc);rw[ar (by simpa using hi),ar hc,c2,a_,bS,cP];refine(xQ VL kn3 _ _ _ _).trans ?_;rw[cP];refine(xQ hd kn3 _ _ _ _).trans ?_;rw[cP];rw[<-HV hc,xO];unfold jT;rw[tY,f_,a_,a_,kN _ _ ?jU,f_,eg];rfl
 ·have hi:=λz=>hc ((Bz ok).mp (e2.mp z))
  rw[ax (by simpa using hi),ax hc,ic]
theorem qW(w:Wf r)(hl:l.length=r.n)(hm:r.ms.length<=90000):dS r.d (cT l)=.ret (.list ((bP r l r.ms.zipIdx).map ld)):=by
 unfold dS;have e1:lN [.tuple ?qU]=some (r.ms.zipIdx.map λp=>.tuple [iN p.2,mD p.1]):=by
  show some (hJ _)=_;rw[lm]
 rw[bt,sD,f_,a_,e1,f_];refine(dD  (F:=λps=>(cT l,(bP r l ps).map ld,())) r.ms.zipIdx ?_).trans rfl;intro p x t Uv kn;have hx:=List.mem_zipIdx_iff_getElem?.mp (show x∈r.ms.zipIdx by rw[Uv];simp);have hlen:p.length<r.ms.zipIdx.length:=by rw[Uv];simp
 rw[ua]at hlen;have:=jb r l p;refine(EB w hl ?A (w.ms x.1 (pI hx)) kn).trans ?_;unfold bP;simp
inductive So(r:Rl)(s:Re Nat):Re Nat->Prop
 | refl:So r s s
 | step {c:Re Nat} {k:Nat} {c':Re Nat}:So r s c->Goes r c k c'->So r s c'
def sumF(n:Nat)(f:Nat->Nat):Nat:=((List.range n).map f).sum
theorem i8(n:Nat)(f:Nat->Nat):sumF (n+1) f=sumF n f+f n:=by
 unfold sumF;rw[List.range_succ,eg];simp
theorem ja(f g:Nat->Nat):∀n,sumF n (λi=>f i+g i)=sumF n f+sumF n g
 | 0=>rfl
 | n+1=>by rw[i8,i8,i8,ja f g n];lia
theorem i9(x:Nat):∀n,sumF n (λi=>if x=i then 1 else 0)=if x<n then 1 else 0
 | 0=>rfl
 | n+1=>by
  rw[i8,i9 x n];by_cases h:x<n
  ·rw[ar h,ax ?A,ar ?A]
  ·by_cases e:x=n
   ·rw[ax h,ar e,ar ?A]
   ·rw[ax h,ax e,ax ?A]
theorem vE(n:Nat)(f:Nat->Nat):(tab n f).sum=sumF n f:=rfl
theorem Iu{m:Mt}(hl:l.length=n)(ok:TF n m)(hc:gL (fl l) m=true):(led n l m).sum=l.sum:=by
 have ZK:=ok.ab;have hb:=ok.b;have VL:=ok.c;have hd:=ok.d;have e:l.sum=sumF n (fl l):=by rw[<-vE,Eo hl]
 unfold led;rw[vE];have k:=congrArg (sumF n)<|funext λi=>Iv hc i;rw[ja λi=>U_ (fl l) m i+if m.1=i then 1 else 0,ja<|U_ (fl l) m,ja λi=>fl l i+if m.2.2.1=i then 1 else 0,ja<|fl l,i9,i9,i9,i9,ar hb]at k;lia
theorem Goes.fit(w:Wf r){k:Nat}(g:Goes r c k c')(hl:c.length=r.n):c'.length=r.n/\c'.sum=c.sum:=by
 let{m,hm,hc,rfl}:=g;exact{zY _ _ _,Iu hl (w.ms m<|pI hm) hc}
theorem So.fit(w:Wf r)(hl:s.length=r.n)(h:So r s c):c.length=r.n/\c.sum=s.sum:=by
 induction h with
 | refl=>exact{hl,rfl}
 | step _ g ih =>
  let{h1,h2}:=g.fit w ih.1;exact{h1,h2.trans ih.2}
def comps:Nat->Nat->Re ?L
 | 0,h=>if h=0 then[[]]else[]
 | n+1,h=>(List.range<|h+1).flatMap λa=>(comps n<|h - a).map (a :: ·)
theorem jn:∀(n h:Nat) (l:Re Nat),l.length=n->l.sum=h->l∈comps n h
 | 0,h,[],_,e=>by
  have:=(e.symm);subst this;exact List.mem_singleton.mpr rfl
 | n+1,h,a::l,e1,e2=>by
  have e2:a+l.sum=h:=(e2);refine List.mem_flatMap.mpr {a,List.mem_range.mpr ?A,List.mem_map.mpr {l,jn n (h - a) l (by simpa using e1) ?A,rfl}}
theorem Mj:∀n,n<6->∀h,h<6->(comps n h).length<=126:=by decide +kernel
theorem cy{α:Type}[DecidableEq α]:∀{l m:Re α},l.Nodup->(∀x∈l,x∈m)->l.length<=m.length
 | [],m,_,_=>ai _
 | a::l,m,hn,hs=>by
  rw[QJ]at hn;have ha:=hs a cr;have h:=cy  hn.2 λx hx=>by
   have:x≠a:=λz=>hn.1<|z▸hx
   exact(List.mem_erase_of_ne this).mpr<|hs x<|Sw _ hx
  rw[List.length_erase_of_mem ha]at h;have:=List.length_pos_of_mem ha;rw[eE];lia
def bA(F cs:Re ?L):Re ?L:=cs.foldl (λacc c=>if c∈acc then acc else acc++[c]) F
theorem gg(F cs:Re ?L)(c:Re Nat):bA F (c::cs)=bA (if c∈F then F else F++[c]) cs:=rfl
theorem jL:∀(cs F:Re ?L),∃E,bA F cs=F++E
 | [],F=>{[],(ic _).symm}
 | c::cs,F=>by
  rw[gg];let{E,e}:=jL cs<|if c∈F then F else F++[c];rw[e];split
  ·exact{E,rfl}
  ·exact{c::E,by simp}
theorem gM:∀(cs F:Re ?L),F.Nodup->(bA F cs).Nodup
 | [],F,h=>h
 | c::cs,F,h=>by
  rw[gg];refine gM cs _ ?_;split
  ·exact h
  ·rename_i hc;rw[PZ];exact{h,by simp,λa ha b hb=>by rw[List.mem_singleton.mp hb];exact λz=>hc<|z▸ha}
theorem dk:∀(cs F:Re ?L) (x:Re Nat),x∈bA F cs↔x∈F\/x∈cs
 | [],F,x=>by simp[bA]
 | c::cs,F,x=>by
  rw[gg,dk cs];split
  ·rename_i hc;rw[tu];constructor
   ·rintro(h|h)
    ·exact .inl h
    ·exact .inr<|.inr h
   ·rintro(h|h|h)
    ·exact .inl h
    ·exact .inl<|h▸hc
    ·exact .inr h
  ·rw[List.mem_append,List.mem_singleton,tu];constructor
   ·rintro((h|h)|h)
    ·exact .inl h
    ·exact .inr<|.inl h
    ·exact .inr<|.inr h
   ·rintro(h|h|h)
    ·exact .inl<|.inl h
    ·exact .inl<|.inr h
    ·exact .inr h
def kyT(l:Re Nat):Re Key:=l.map λn:Nat=>.inl (n:Int)
theorem AM(l:Re Nat):cT l=dc (kyT l):=by
 unfold dc kyT;rw[eT];rfl
theorem BG:∀{l l':Re Nat},kyT l=kyT l'↔l=l'
 | [],[]=>by simp
 | [],_::_=>by simp[kyT]
 | _::_,[]=>by simp[kyT]
 | a::l,b::l'=>by
  have ih:=BG (l:=l) (l':=l');unfold kyT at ih ⊢;rw[ap,ap,List.cons.injEq,List.cons.injEq,ih];constructor
  ·rintro⟨h,h2⟩;exact{by lia,h2}
  ·rintro⟨rfl,h2⟩;exact{rfl,h2}
theorem nI(l l':Re Nat):gH (cT l) (cT l')=decide (l=l'):=by
 rw[AM,AM,mz];exact decide_eq_decide.mpr BG
theorem d0(l:Re Nat):dB (cT l)=true:=by rw[AM];exact F9 _
abbrev kE(v:Re Nat->D)(c:Re Nat):D×D:=(cT c,v c)
section
variable (v:Re Nat->D)
theorem sC(F:Re ?L)(c:Re Nat):keyOk ?jg ?jG=true:=by
 unfold keyOk;rw[gs];left;rw[am,ir];refine{d0 c,λx hx=>?_};let{q,_,rfl}:=List.mem_map.mp hx;exact d0 _
theorem lg(c:Re Nat):∀F:Re ?L,gk ?jg ?jG=if c∈F then some (v c)else none
 | []=>rfl
 | q::F=>by
  have ih:=lg c F;unfold gk at ih ⊢;rw[ap,ou,(nI q c)];by_cases e:q=c
  ·subst e;rw[ba rfl,ar cr];rfl
  ·rw[bi e];rw[ih];by_cases h:c∈F
   ·rw[ar h,ar<|Sw _ h]
   ·rw[ax h,ax (λz=>by let z||z:=List.mem_cons.mp z;exact e z.symm;exact h z)]
theorem gW(F:Re ?L)(c:Re Nat):bB ?jG (.dict ?jg)=some (!decide (c∈F)):=by
 show(if keyOk ?jg ?jG then some (!(gk ?jg ?jG).isSome)else none)=_;rw[ar<|sC v F c,lg];by_cases h:c∈F
 ·rw[ar h,ba h];rfl
 ·rw[ax h,bi h];rfl
theorem j3(h:c∉F)(hl:F.length<=90000):hV true ?jg ?jG (v c)=some ((F++[c]).map<|kE v):=by
 unfold hV;rw[ar,rB,eg]
 ·rfl
 ·intro p hp;let{q,hq,rfl}:=List.mem_map.mp hp;rw[(nI q c),lu];exact λz=>h<|z▸hq
 ·rw[am,QS,v_];exact{d0 c,ut hl ?C}
theorem lK(h:c∈F):aF (.dict ?jg) ?jG=some (v c):=by
 show(if keyOk ?jg ?jG then gk ?jg ?jG else none)=_;rw[ar<|sC v F c,lg,ar h]
theorem ID(F:Re ?L):mB ?jg=false:=by cases F<;>rfl
theorem wI(F:Re ?L):(F.map<|kE v).map (·.1)=F.map cT:=by rw[eT];rfl
theorem jE(F:Re ?L):nM [.dict ?jg]=some ?j9:=by
 show(if mB ?jg then none else some (PyData.int<|(F.map<|kE v).length))=_;rw[ID,ax ?C,v_]
end
abbrev jt:Ex:={"TooMany",[]}
abbrev vT:Re Nat->D:=λ_=>.bool true
abbrev vL(r:Rl):Re Nat->D:=λc=>.list<|(bW r c).map ld
abbrev Yp(r:Rl):D:=.dict ?j8
theorem ld1(p:Nat×Re Nat):aF (ld p) (.int 1)=some (cT p.2):=rfl
theorem IH(hl:F.length<=90000)(R lim P:D)(L:Re ?N)(p:Nat×Re Nat)(Ru kn:D×D×D×Re ?N×Re ?N×Re D×Unit->M D) :
  gm Ru R lim P L (F.map ?jW) ?qd (ld p) kn=kn (R,lim,P,L,(bA F [p.2]).map ?jW,(bA F [p.2]).map cT,()):=by
 unfold gm;rw[ld1,f_,a_,gW,f_,a_];have e:bA F [p.2]=if p.2∈F then F else F++[p.2]:=rfl;by_cases h:p.2∈F
 ·rw[ba h,ax ?C,e,ar h]
 ·rw[bi h,a_,j3 vT h hl,f_,a_,a_,kN _ _ ?jU,f_,e,ax h,eg,eg];rfl
noncomputable abbrev uE(r:Rl):D×D×D×Re ?N×Re ?N×Re D×Unit->(D×D×D×Re ?N×Re ?N×Re D×Unit->M D)->M D:=λWT kn=>bY WT.1 WT.2.1 WT.2.2.1 WT.2.2.2.1 WT.2.2.2.2.1 WT.2.2.2.2.2.1 kn
section
variable (w:Wf r) (hn:r.n<=40) (hm:r.ms.length<=2000)
include w hn hm
theorem Hh{i limit:Nat}(hi:i<F.length)(hF:F.length<=1000)(Zc:F.length<=limit)(nd:F.Nodup)(fit:∀c∈F,c.length=r.n)(kn:D×D×D×Re ?N×Re ?N×Re D×Unit->M D) :
  bY r.d (iN limit) (Yp r) ((F.take i).map ?jw) (F.map ?jW) ?qd kn=kn (r.d,iN limit,Yp r,(F.take ?qc).map ?jw,(bA F ((bW r F[i]).map (·.2))).map ?jW,(bA F ((bW r F[i]).map (·.2))).map cT,()):=by
 have hc:=fit F[i]<|gh hi;have t1:(F.take i).length=i:=by rw[P5];lia
 have nin:F[i]∉F.take i:=λz=>by
  let{j,hj,e}:=oR z;rw[List.getElem_take]at e;have Xm:j<i:=by rw[t1]at hj;exact hj
  exact absurd (List.pairwise_iff_getElem.mp nd j i ?A hi Xm) (by rw[e];exact λz=>z rfl)
 have tk:F.take i++[F[i]]=F.take ?qc:=List.take_append_getElem hi;have ll:dE [.list ?qd]=some ?j9:=by rw[L4.V3,v_]
 have g1:dU (iN (F.take i).length) ?j9=some true:=by
  show zQ (.int _) (.int _)=_;rw[L4.ltI,ba (by rw[t1];lia)]
 have g2:dX ?j9 (iN limit)=some false:=by rw[L4.ZM,bi ?A]
 have ix:aF (.list ?qd) (iN (F.take i).length)=some (cT F[i]):=by
  rw[t1,lL,show fJ (.list ?qd) (iN i)=_ from sG cT F i hi]
 unfold bY;rw[jE,ll,f_,f_,a_,a_,g1,f_,a_,ar rfl,a_,g2,f_,a_,a_,ix,f_,a_,Aa w hc hn ?A,a_,j3 (vL r) nin ?A,f_,a_,tk,lK (vL r)<|tk▸du _ (List.mem_singleton.mpr rfl),f_,a_,show cH (vL r F[i])=some ((bW r F[i]).map ld)from rfl,f_];refine(dD  (F:=λps=>(r.d,iN limit,Yp r,(F.take ?qc).map ?jw,(bA F (ps.map (·.2))).map ?jW,(bA F (ps.map (·.2))).map cT,())) (bW r F[i]) ?_).trans rfl;intro p x t Uv kn';have hlen:(bA F (p.map (·.2))).length<=90000:=by
  have h1:∀(cs G:Re ?L),(bA G cs).length<=G.length+cs.length:=by
   intro cs
   induction cs with
   | nil=>simp[bA]
   | cons c cs ih =>
    intro G;rw[gg];refine bj (ih _) ?_;split<;>simp<;>lia
  have h2:=h1 (p.map (·.2)) F;have h3:p.length<=(bW r F[i]).length:=by rw[Uv];simp
  have h4:(bW r F[i]).length<=40*40:=by
   have rl:=n8 F[i];refine bj (hG   (λq=>?_) _) (Nat.mul_le_mul_right _ (by rw[ua];lia));have h5:=hG   (nQ r F[i] q.1)<|(rooms F[i]).drop q.2;rw[No]at h5;lia
  rw[v_]at h2;lia
 refine(IH hlen _ _ _ _ x _ _).trans ?_;rw[eg,show bA F (p.map (·.2)++[x].map (·.2))=bA (bA F (p.map (·.2))) [x.2]from by unfold bA;rw[List.foldl_append];rfl]
theorem EI{c0:Re Nat}{R:Re ?L}(Uh:c0.length=r.n)(hR:R.Nodup)(mem:∀c,c∈R↔So r c0 c)(hB:R.length<=900)(limit:Nat) :
  ∀(fuel i:Nat) (F:Re ?L),F.Nodup->(∀c∈F,c∈R)->c0∈F->i<=F.length->(∀(j:Nat) (h:j<F.length),j<i->∀k c,Goes r F[j] k c->c∈F)->(F.length<=limit\/i<F.length)->R.length<fuel+i ->
   (R.length<=limit/\∃F':Re ?L,F'.Perm R/\bO (uE r) fuel (r.d,iN limit,Yp r,(F.take i).map ?jw,F.map ?jW,F.map cT,())=.ret (.dict<|F'.map ?jw)) \/
   (limit<R.length/\bO (uE r) fuel (r.d,iN limit,Yp r,(F.take i).map ?jw,F.map ?jW,F.map cT,())=.exc jt)
 | 0,i,F,nd,sub,_,hi,_,_,hf=>by
  have:=cy nd sub;lia
 | fuel+1,i,F,nd,sub,h0,hi,cl,hj,hf=>by
  have hle:=cy nd sub;have fit:∀c∈F,c.length=r.n:=λc hc=>(((mem c).mp<|sub c hc).fit w Uh).1
  rw[bO];by_cases x_:i<F.length
  ·by_cases Zc:F.length<=limit
   ·have st:uE r (r.d,iN limit,Yp r,(F.take i).map ?jw,F.map ?jW,F.map cT,()) (λs'=>bO (uE r) fuel s')=bO (uE r) fuel (r.d,iN limit,Yp r,((bA F ((bW r F[i]).map (·.2))).take ?qc).map ?jw,(bA F ((bW r F[i]).map (·.2))).map ?jW,(bA F ((bW r F[i]).map (·.2))).map cT,()):=by
     refine(Hh w hn hm x_ ?A Zc nd fit _).trans ?_;let{E,e}:=jL ((bW r F[i]).map (·.2)) F;have:(bA F ((bW r F[i]).map (·.2))).take ?qc=F.take ?qc:=by rw[e,List.take_append_of_le_length ?A]
     rw[this]
    rw[st];have rF:∀c∈F,So r c0 c:=λc hc=>(mem c).mp<|sub c hc
    have Um:∀c∈bA F ((bW r F[i]).map (·.2)),c∈R:=λc hc=>by
     rcases(dk _ _ _).mp hc with h|h
     ·exact sub c h
     ·let{p,hp,rfl}:=List.mem_map.mp h;exact(mem _).mpr<|.step (rF F[i]<|gh x_)<|(eM w<|fit _<|gh x_).mp hp
    let{E,e}:=jL ((bW r F[i]).map (·.2)) F;have zbI:F.length<=(bA F ((bW r F[i]).map (·.2))).length:=by rw[e,R4];lia
    have at':∀(j:Nat) (h:j<F.length) (h':j<(bA F ((bW r F[i]).map (·.2))).length),(bA F ((bW r F[i]).map (·.2)))[j]=F[j]:=λj h h'=>by
     simp![e];exact List.getElem_append_left h
    refine EI Uh hR mem hB limit fuel ?qc _ (gM _ _ nd) Um ((dk _ _ _).mpr<|.inl h0) ?A (λj h hji k c g=>?_) ?_ ?A
    ·rw[at' j ?A h]at g;let lt||ge:=Nat.lt_or_ge j i
     ·exact(dk _ _ _).mpr<|.inl<|cl j ?A lt k c g
     ·have:j=i:=by lia
      subst this;exact(dk _ _ _).mpr<|.inr<|List.mem_map.mpr {(k,c),(eM w<|fit _<|gh x_).mpr g,rfl}
    ·by_cases z:(bA F ((bW r F[i]).map (·.2))).length<=limit
     ·exact .inl z
     ·exact .inr ?A
   ·right;have ll:dE [.list ?qd]=some ?j9:=by rw[L4.V3,v_]
    have g1:dU (iN (F.take i).length) ?j9=some true:=by
     show zQ (.int _) (.int _)=_;rw[L4.ltI,ba (by rw[P5];lia)]
    have g2:dX ?j9 (iN limit)=some true:=by rw[L4.ZM,ba ?A]
    refine{by lia,?_};show bY r.d (iN limit) (Yp r) ((F.take i).map ?jw) (F.map ?jW) ?qd _=_;unfold bY;rw[jE,ll,f_,f_,a_,a_,g1,f_,a_,ar rfl,a_,g2,f_,a_,ar rfl]
  ·left;have hiF:i=F.length:=by lia
   have all:∀c,So r c0 c->c∈F:=λc hc=>by
    induction hc with
    | refl=>exact h0
    | step _ g ih =>
     let{j,hj,e}:=oR ih;exact cl j hj ?A _ _<|e▸g
   have pm:=(List.perm_ext_iff_of_nodup nd hR).mpr λc=>{sub c,λh=>all c<|(mem c).mp h}
   have ll:dE [.list ?qd]=some ?j9:=by rw[L4.V3,v_]
   have g1:dU (iN (F.take i).length) ?j9=some false:=by
    show zQ (.int _) (.int _)=_;rw[L4.ltI,bi (by rw[P5];lia)]
   refine{by have:=pm.length_eq;lia,F,pm,?_};show bY r.d (iN limit) (Yp r) ((F.take i).map ?jw) (F.map ?jW) ?qd _=_;unfold bY;rw[jE,ll,f_,f_,a_,a_,g1,f_,a_,ax ?C];unfold jR;rw[hiF,List.take_length]
theorem II{R:Re ?L}(Uh:c0.length=r.n)(hR:R.Nodup)(mem:∀c,c∈R↔So r c0 c)(hB:R.length<=900)(limit:Nat) :
  (R.length<=limit/\∃F:Re ?L,F.Perm R/\dR r.d (cT c0) (iN limit)=.ret (.dict<|F.map ?jw))\/(limit<R.length/\dR r.d (cT c0) (iN limit)=.exc jt):=by
 have e:dR r.d (cT c0) (iN limit)=bO (uE r) 10000 (r.d,iN limit,Yp r,(([c0]).take 0).map ?jw,([c0]).map ?jW,([c0]).map cT,()):=by
  unfold dR;rw[Fm w ?A];unfold jj;rw[d0];rw[fD];rfl
 rw[e];refine EI w hn hm Uh hR mem hB limit 10000 0 [c0] ?G (λc hc=>?_) (List.mem_singleton.mpr rfl) ?X (λj h z=>absurd z<|Nat.not_lt_zero _) (.inr ?G) ?A;rw[List.mem_singleton.mp hc];exact(mem _).mpr .refl
end
abbrev vS(r:Rl):Re Nat->D:=λc=>.list<|(bP r c r.ms.zipIdx).map ld
noncomputable abbrev Jy:D×Re ?N×Re D×Unit->(D×Re ?N×Re D×Unit->M D)->M D:=λVW kn=>fS VW.1 VW.2.1 VW.2.2.1 kn
theorem wg(L:Re ?L):cW (.list ?j1) (.list [])=some (!L.isEmpty):=by
 have hd:(PyData.list ?j1).depth<=1000:=by
  have:∀l:Re ?L,PyData.depthAll (l.map cT)<=10:=by
   intro l
   induction l with
   | nil=>simp[PyData.depthAll]
   | cons a l ih =>
    have h1:(cT a).depth<=10:=by
     have:∀l:Re Nat,PyData.depthAll ?jt<=1:=by
      intro l
      induction l with
      | nil=>simp[PyData.depthAll]
      | cons a l ih=>simp  [ap,PyData.depthAll,PyData.depth];lia
     have h2:=this a;simp  [PyData.depth];lia
    simp  [ap,PyData.depthAll];lia
  have h:=this L;simp  [PyData.depth];lia
 have lay:(PyData.list ?j1).canLay0=true:=by
  exact nG λd hd=>by
   let{l,_,rfl}:=List.mem_map.mp hd;exact(Ab l).1
 unfold cW qk;rw[ar (by rw[lay,ba hd];rfl)]
 cases L with
 | nil=>rfl
 | cons a L=>rfl
theorem Fo(ps:Re ?jv):aZ (λd8=>To d8 λy9 y10=>M.ret<|some y10) ?qR=.ret ((ps.map (·.2)).map cT):=by
 rw[dz   ps λp _=>rfl,eT];rfl
section
variable (w:Wf r) (hm:r.ms.length<=30)
include w hm
theorem vQ{c0:Re Nat}(Uh:c0.length=r.n)(B:Nat)(hB:B<=200)(bound:∀F:Re ?L,F.Nodup->(∀c∈F,c.length=r.n/\c.sum=c0.sum)->F.length<=B) :
  ∀(fuel:Nat) (F L:Re ?L),F.Nodup->(∀c∈F,So r c0 c)->(∀c∈L,So r c0 c)->(c0∈F\/c0∈L)->(∀c∈F,∀k c',Goes r c k c'->c'∈F\/c'∈L)->L.length+31*(B - F.length)<fuel->fuel<=10000 ->
   ∃F':Re ?L,F'.Nodup/\(∀c,c∈F'↔So r c0 c)/\bO Jy fuel (r.d,F.map (kE<|vS r),L.map cT,())=.ret (.dict<|F'.map<|kE<|vS r)
 | 0,F,L,_,_,_,_,_,hf,_=>by lia
 | fuel+1,F,L,nd,rF,rL,h0,cl,hf,hfu=>by
  rw[bO];show ∃F':Re ?L,_/\_/\fS r.d ?jj ?j1 (λs'=>bO Jy fuel s')=_;unfold fS;rw[wg,f_,a_];let rfl||{L',x,rfl}:=List.eq_nil_or_concat L
  ·rw[ax ?C];unfold lU;refine{F,nd,λc=>{rF c,λh=>?_},rfl}
   induction h with
   | refl=>exact h0.resolve_right ?G
   | step _ g ih=>exact(cl _ ih _ _ g).resolve_right ?G
  ·rw[List.concat_eq_append]at *;rw[ar<|show(!(L'++[x]).isEmpty)=true by simp];have gl:(List.map cT<|L'++[x]).getLast? = some (cT x):=by simp
   have dl:List.dropLast (List.map cT<|L'++[x])=L'.map cT:=by rw[eg];simp
   unfold Ft;rw[gl,dl];dsimp only;have zaT:∀c∈F,c.length=r.n/\c.sum=c0.sum:=λc hc=>(rF c hc).fit w Uh
   have hFB:=bound F nd zaT;have hx:So r c0 x:=rL x ?G;rw[R4,sk]at hf;rw[gW,f_,a_];by_cases VI:x∈F
   ·rw[ba VI,ax ?C];refine vQ Uh B hB bound fuel F L' nd rF (λc hc=>rL c (by simp[hc])) ?_ (λc hc k c' g=>?_) ?A ?A
    ·let h||h:=h0
     ·exact .inl h
     ·let h||h:=List.mem_append.mp h
      ·exact .inr h
      ·rw[List.mem_singleton.mp h];exact .inl VI
    ·let h||h:=cl c hc k c' g
     ·exact .inl h
     ·let h||h:=List.mem_append.mp h
      ·exact .inr h
      ·rw[List.mem_singleton.mp h];exact .inl VI
   ·have hxf:=hx.fit w Uh;have nd':(F++[x]).Nodup:=by
     rw[PZ];exact{nd,by simp,λa ha b hb=>by rw[List.mem_singleton.mp hb];exact λz=>VI<|z▸ha}
    have zbD:=bound (F++[x]) nd' (λc hc=>by
     let h||h:=List.mem_append.mp hc
     ·exact zaT c h
     ·rw[List.mem_singleton.mp h];exact hxf)
    rw[R4,sk]at zbD;have sl:=jb r x r.ms.zipIdx;rw[ua]at sl;rw[bi VI,qW w hxf.1 ?A,a_,j3 (vS r) VI ?A,f_,a_,lK (vS r)<|du _<|List.mem_singleton.mpr rfl,f_,a_,show cH (vS r x)=some ((bP r x r.ms.zipIdx).map ld)from rfl,f_,a_,Fo,a_,Gn (by rw[v_,v_];lia),a_,Gx _ _ (by rw[v_,v_,v_];lia),f_,<-eg];refine vQ Uh B hB bound fuel (F++[x]) (L'++(bP r x r.ms.zipIdx).map (·.2)) nd' (λc hc=>?_) (λc hc=>?_) ?_ (λc hc k c' g=>?_) ?_ ?_
    ·let h||h:=List.mem_append.mp hc
     ·exact rF c h
     ·rw[List.mem_singleton.mp h];exact hx
    ·let h||h:=List.mem_append.mp hc
     ·exact rL c (by simp[h])
     ·let{p,hp,rfl}:=List.mem_map.mp h;exact .step hx<|K_.mp hp
    ·let h||h:=h0
     ·exact .inl<|UY _ h
     ·let h||h:=List.mem_append.mp h
      ·exact .inr<|UY _ h
      ·exact .inl<|du _ h
    ·let h||h:=List.mem_append.mp hc
     ·let h||h:=cl c h k c' g
      ·exact .inl<|UY _ h
      ·let h||h:=List.mem_append.mp h
       ·exact .inr<|UY _ h
       ·exact .inl<|du _ h
     ·rw[List.mem_singleton.mp h]at g;exact .inr<|du _<|List.mem_map.mpr {(k,c'),K_.mpr g,rfl}
    ·rw[R4,R4,v_,sk];lia
    ·lia
theorem Mx(Uh:c0.length=r.n)(B:Nat)(hB:B<=200)(bound:∀F:Re ?L,F.Nodup->(∀c∈F,c.length=r.n/\c.sum=c0.sum)->F.length<=B) :
  ∃F:Re ?L,F.Nodup/\(∀c,c∈F↔So r c0 c)/\F.length<=B/\eJ r.d (cT c0)=.ret (.dict ?jj):=by
 let{F,h1,h2,h3}:=vQ w hm Uh B hB bound 10000 [] [c0] PY (λc hc=>(nomatch hc)) (λc hc=>by rw[List.mem_singleton.mp hc];exact .refl) (.inr<|List.mem_singleton.mpr rfl) (λc hc=>(nomatch hc)) ?Y ?jm;refine{F,h1,h2,bound F h1 λc hc=>((h2 c).mp hc).fit w Uh,?_};unfold eJ;rw[fD];exact h3
end
inductive Qs where
 | least (s:Re Nat) (n:Nat)
 | more (a b:Re Nat)
 | rest (s:Re Nat) (m r:Nat)
 | neg (q:Qs)
def Qs.d:Qs->D
 | .least s n=>.tuple [.str "least",.tuple ?jC,iN n]
 | .more a b=>.tuple [.str "more",.tuple (a.map iN),.tuple (b.map iN)]
 | .rest s m r=>.tuple [.str "rest",.tuple ?jC,iN m,iN r]
 | .neg q=>.tuple [.str "not",q.d]
def Xf(k:Nat)(s:Re Nat):Prop:=s.length<=4/\∀x∈s,x<k
def Qs.ok(k:Nat):Nat->Qs->Prop
 | _,.least s n=>Xf k s/\1<=n/\n<=3
 | _,.more a b=>Xf k a/\Xf k b/\∀x∈a,x∉b
 | _,.rest s m r=>Xf k s/\2<=m/\m<=3/\r<m
 | i+1,.neg q=>q.ok k i
 | 0,_=>False
theorem Qs.ok.up{k:Nat}:∀{i:Nat} {q:Qs},q.ok k i->q.ok k ?qc
 | i,.least _ _,h=>by cases i<;>exact h
 | i,.more _ _,h=>by cases i<;>exact h
 | i,.rest _ _ _,h=>by cases i<;>exact h
 | i+1,.neg q,h=>Qs.ok.up (i:=i)  h
 | 0,.neg _,h=>h.elim
theorem BQ(x:Nat)(l:Re Nat):gz (iN x) (.tuple ?jt)=some (decide<|x∈l)/\bB (iN x) (.tuple ?jt)=some (!decide (x∈l)):=by
 have hi:lC (iN x) ?jt=true:=by
  unfold lC;rw[sw l];rfl
 have e:((l.map iN).any λy=>PyData.eqv y<|iN x)=decide (x∈l):=by
  rw[PP,List.any_eq_true,QS];constructor
  ·rintro⟨d,hd,h⟩;let{y,hy,rfl}:=List.mem_map.mp hd;have:((y:Int)==(x))=true:=h;rw[BC,QS]at this;exact this▸hy
  ·intro h;refine{iN x,List.mem_map.mpr {x,h,rfl},?_};show((x:Int)==(x))=true;simp
 constructor
 ·rw[NU,show yn (iN x) (.tuple ?jt)=if lC (iN x) ?jt then some ((l.map iN).any λy=>PyData.eqv y<|iN x)else none from rfl,ar hi,e]
 ·rw[Fz,show iu (iN x) (.tuple ?jt)=if lC (iN x) ?jt then some (!((l.map iN).any λy=>PyData.eqv y<|iN x))else none from rfl,ar hi,e]
theorem nxR{S:Type}(s:S):XI (M.ret s)=.ret s:=id rfl
theorem gtN(a b:Nat):dX (iN a) (iN b)=some (decide<|b<a):=(L4.ZM _ _).trans<|congrArg some<|decide_eq_decide.mpr ?A
def Em(self:Re D->D->D->M ?V)(f:Re D)(k deep S:D):M ?V :=
 bd (aB f<|.int 4) λVX=>bd (bd (oM<|bx VX.1<|.int 3) λXc=>if Xc then oM (dX deep<|.int 0)else .ret false) λb12=>if b12 then
  bd (self VX.2 k<|.int 0) λr13=>.ret ((.tuple [(.str "not"),r13.1]),r13.2)
  else
  bd (oM<|bx VX.1<|.int 1) λb14=>if b14 then
  bd (bd (bd (oM<|bw [k]) λXX=>bd (aZ (λZr=>bd (oM<|bB Zr S) λUK=>if UK then .ret (some Zr)else .ret none) XX) cq) λV4=>.ret<|PyData.list V4) λR5=>bd (aB VX.2<|.int 2) λZG=>bd (oM<|lj R5 ZG.1) λVR=>bd (oM<|cu [VR]) λU0=>.ret ((.tuple [(.str "more"),S,U0]),ZG.2)
  else
  bd (oM<|bx VX.1<|.int 2) λb23=>if b23 then
  bd (aB VX.2<|.int 2) λr24=>bd (oM<|bD (.int 2) r24.1) λUZ=>bd (aB r24.2 UZ) λr26=>.ret ((.tuple [(.str "rest"),S,UZ,r26.1]),r26.2)
  else
  bd (aB VX.2<|.int 3) λr27=>bd (oM<|bD (.int 1) r27.1) λWO=>.ret ((.tuple [(.str "least"),S,WO]),r27.2)
def D7(T k i:Nat)(m:M ?V):Prop:=∃(q:Qs) (f':Re D),m=.ret (q.d,f')/\q.ok k i/\Fd T f'
theorem Hj{B k i:Nat}{f:Re D}{self:Re D->D->D->M ?V}(hf:Fd T f)(hT:T<=890000)(hB:T+20<=B)(hk:1<=k)(hk4:k<=4)(hs:Xf k s)(hi:i<=1)(hq:∀f,i=1->Fd (T+1) f->D7 B k 0 (self f ?qj<|.int 0)):D7 B k i (Em self f ?qj (iN i)<|.tuple ?jC):=by
 let{x,f1,e1,hx,Ue}:=cp (m:=4) hf ?A ?A ?A;have up:∀{q:Qs},q.ok k 0->q.ok k i:=λ{q} h=>by
  rcases(by lia:i=0\/i=1)with rfl|rfl
  ·exact h
  ·exact h.up
 unfold Em;rw[show aB f (.int 4)=_ from e1,a_];dsimp only;rw[show bx (iN x) (.int 3)=_ from Yl x 3,f_,a_,show dX (iN i) (.int 0)=_ from gtN i 0,f_];by_cases h3:x=3/\i=1
 ·let{q,f2,e2,h1,h2}:=hq f1 h3.2 Ue;rw[ba h3.1,ar rfl,a_,ba ?A,ar rfl,e2,a_];exact{.neg q,f2,rfl,by rw[h3.2];exact h1,h2}
 ·rw[show(if decide (x=3)=true then M.ret (decide<|0<i)else M.ret false)=M.ret false by
   by_cases h:x=3
   ·rw[ba h,ar rfl,bi ?A]
   ·rw[bi h,ax ?C],a_,ax ?C,show bx (iN x) (.int 1)=_ from Yl x 1,f_,a_]
  by_cases h1:x=1
  ·let{n,f2,e2,hn,Vh}:=cp (m:=2) Ue ?A ?A ?A;have cm:aZ (λd18=>bd (oM<|bB d18<|.tuple ?jC) λb19=>if b19 then M.ret (some d18)else .ret none) ((List.range k).map iN)=.ret (((List.range k).filter λy=>!decide (y∈s)).map iN):=by
    rw[dF (e:=iN) (g:=λy=>if(!decide (y∈s))=true then some (iN y)else none) (List.range k) λy _=>by
     rw[(BQ y s).2,f_,a_]
     cases (!decide (y∈s))<;>rfl]
    refine congrArg M.ret ?_
    induction (List.range k)with
    | nil=>rfl
    | cons a l ih =>
     rw[si,zi,ih]
     cases (!decide (a∈s))<;>rfl
   rw[ba h1,ar rfl,cM k ?A,f_,a_,cm,a_];generalize ho:(List.range k).filter (λy=>!decide (y∈s))=o;have ol:o.length<=k:=by rw[<-ho];exact bj (pi _ _) ?G
   have om:∀y∈o,y<k/\y∉s:=λy hy=>by
    rw[<-ho,Qd,List.mem_range]at hy;exact{hy.1,by simpa using hy.2}
   rw[cb ?jU,a_,a_,show aB f1 (.int 2)=_ from e2,a_];rw[show lj (.list<|o.map iN) (iN n)=some (.list<|L4.cutD (o.map iN) (some<|n) none)from rfl,f_,a_,Mi,<-List.map_drop,tY,f_];refine{.more s<|o.drop n,f2,rfl,up {hs,{by rw[No];lia,λy hy=>(om y<|List.mem_of_mem_drop hy).1},λy hy h=>(om y<|List.mem_of_mem_drop h).2 hy},Vh.le ?A}
  ·rw[bi h1,show bx (iN x) (.int 2)=_ from Yl x 2,f_,a_];by_cases h2:x=2
   ·let{n,f2,e2,hn,Vh}:=cp (m:=2) Ue ?A ?A ?A;let{y,f3,e3,hy,hf3}:=cp (m:=2+n) Vh ?A ?A ?A;rw[ba h2,show aB f1 (.int 2)=_ from e2,a_];rw[show bD (.int 2) (iN n)=_ from Jp 2 n,f_,a_,(e3)];exact{.rest s (2+n) y,f3,rfl,up {hs,by lia,by lia,hy},hf3.le ?A}
   ·let{n,f2,e2,hn,Vh}:=cp (m:=3) Ue ?A ?A ?A;rw[bi h2,show aB f1 (.int 3)=_ from e2,a_];rw[vA,f_];exact{.least s<|n+1,f2,rfl,up {hs,by lia,by lia},Vh.le ?A}
theorem Bf{B k i:Nat}{f:Re D}{self:Re D->D->D->M ?V}(hf:Fd T f)(hT:T<=880000)(hB:T+30<=B)(hk:1<=k)(hk4:k<=4)(hi:i<=1)(hq:∀f,i=1->Fd (T+11) f->D7 B k 0 (self f ?qj<|.int 0)):D7 B k i (eY self f ?qj<|iN i):=by
 unfold eY;rw[cM k ?A,f_,a_];have step:∀(l:Re Nat) (j:Nat) (f:Re D),(∀x∈l,x<k)->l.length+j<=4->Fd (T+j) f->∃(s:Re Nat) (f':Re D),eW (λ(s2:Re D×D×D×Unit) d3=>bd (aB s2.1<|.int 2) λr4=>bd (oM<|bx r4.1<|.int 0) λb5=>if b5 then M.ret (some d3,(r4.2,s2.2.1,s2.2.2.1,()))else .ret (none,(r4.2,s2.2.1,s2.2.2.1,()))) ?jt (f,iN k,iN i,())=.ret (s.map iN,(f',iN k,iN i,()))/\s.length<=l.length/\(∀x∈s,x∈l)/\Fd (T+4) f':=by
  intro l
  induction l with
  | nil=>exact λj f _ h hf=>{[],f,rfl,ac _,λ_ h=>h,hf.le (by simp at h;lia)}
  | cons a l ih =>
   intro j f hl h hf;rw[eE]at h;let{x,f1,e1,hx,Ue}:=cp (m:=2) hf ?A ?A ?A;have e1':aB f (.int 2)=.ret (iN x,f1):=e1;let{s,f',e2,h1,h2,h3}:=ih (j+1) f1 (λx hx=>hl x<|Sw _ hx) ?A Ue;rw[ap,eW];dsimp only;rw[e1',a_];dsimp only;rw[show bx (iN x) (.int 0)=some (decide<|x=0)from Yl x 0,f_,a_];by_cases hx0:x=0
   ·rw[ba hx0,ar rfl,nxR,a_];dsimp only;rw[e2,a_];exact{a::s,f',rfl,by simp;lia,λy hy=>(List.mem_cons.mp hy).elim (λe=>e▸cr) λq=>Sw _<|h2 y q,h3}
   ·rw[bi hx0,ax ?C,nxR,a_];dsimp only;rw[e2];exact{s,f',rfl,by simp;lia,λy hy=>Sw _<|h2 y hy,h3}
 let{s,f1,e,h1,h2,h3}:=step (List.range k) 0 f (λx hx=>List.mem_range.mp hx) ?Y hf;rw[ue]at h1;rw[e,a_];rw[cb ?jU,a_,tY,f_,a_,show cW (.tuple ?jC) (.tuple [])=_ from neT s [],f_,a_];have go:∀(f:Re D) (s:Re Nat),Fd (T+10) f->Xf k s->D7 B k i (Em self f ?qj (iN i)<|.tuple ?jC):=λf s hf hs=>by
  exact Hj  hf ?A ?A hk hk4 hs hi λf a b=>hq f a b
 by_cases hs:s=[]
 ·subst hs;let{x,f2,e2,hx,Vh}:=cp (m:=k) h3 ?A ?A ?A;rw[(e2)];exact go f2 [x] (Vh.le ?A) {by simp,λy hy=>by simp at hy;lia}
 ·rw[ar (by simp[hs])];exact go f1 s (h3.le ?A) {by lia,λx hx=>List.mem_range.mp<|h2 x hx}
theorem x0{k:Nat}{f:Re D}(hf:Fd T f)(hT:T<=870000)(hk:1<=k)(hk4:k<=4):D7 (T+60) k 1 (eD 8 f ?qj<|.int 1) :=
 Bf   hf ?A ?A hk hk4 ?A λf1 _ h =>
  Bf    h ?A ?A hk hk4 ?A λ_ z=>by lia
theorem uG(s:Re Nat)(k:Nat)(hk:k<=4):(bd (bd (bd (oM<|bw [iN k]) λXU=>bd (aZ (λYm=>bd (bd (bd (oM<|gz Ym<|.tuple ?jC) λXb=>.ret<|.bool Xb) λR5=>oM<|mE [R5]) λTQ=>M.ret<|some TQ) XU) cq) λXT=>M.ret<|PyData.list XT) λT8=>oM<|cu [T8])=.ret (.tuple<|((List.range k).map λx=>if x∈s then 1 else 0).map iN):=by
 have cm:aZ (λYm=>bd (bd (bd (oM<|gz Ym<|.tuple ?jC) λXb=>.ret<|.bool Xb) λR5=>oM<|mE [R5]) λTQ=>M.ret<|some TQ) ((List.range k).map iN)=.ret (((List.range k).map λx=>if x∈s then 1 else 0).map iN):=by
  rw[dz  (g:=λx=>iN<|if x∈s then 1 else 0) (List.range k) λy _=>by
   rw[(BQ y s).1,f_,a_];by_cases h:y∈s
   ·rw[ba h,ar h];rfl
   ·rw[bi h,ax h];rfl,eT]
  rfl
 rw[cM k ?A,f_,a_,cm,a_,cb ?Y,a_,a_,tY,f_]
def eV:Qs->Re Mt
 | .least _ 1=>[(0,1,1,1)]
 | .least _ 2=>[(0,2,2,2),(1,1,2,2),(1,2,2,2)]
 | .least _ 3=>[(0,3,3,3),(1,1,0,2),(1,2,3,3),(1,3,3,3),(2,2,3,3),(2,3,3,3)]
 | .rest _ 2 0=>[(0,0,0,3),(0,1,1,2),(0,2,0,3),(1,1,0,3),(1,3,1,2)]
 | .rest _ 2 1=>[(0,0,0,2),(0,1,1,3),(0,3,0,2),(1,1,0,2),(1,2,1,3)]
 | .rest _ 3 0=>[(0,0,0,4),(0,1,1,3),(0,2,2,3),(0,3,0,4),(1,1,2,3),(1,2,0,4),(1,4,1,3),(2,2,1,3),(2,4,2,3)]
 | .rest _ 3 1=>[(0,0,0,3),(0,1,1,4),(0,2,2,3),(0,4,0,3),(1,1,2,3),(1,2,0,3),(1,3,1,4),(2,2,1,4),(2,4,2,3)]
 | .rest _ 3 _=>[(0,0,0,3),(0,1,1,3),(0,2,2,4),(0,4,0,3),(1,1,2,4),(1,2,0,3),(1,4,1,3),(2,2,1,3),(2,3,2,4)]
 | _=>[(0,1,2,3),(0,3,0,2),(1,2,1,3),(2,3,3,3)]
def made(q:Qs)(k:Nat):Rl:=match q with
 | .least s n=>{n+1,(List.range k).map λx=>if x∈s then 1 else 0,eV q,(List.range<|n+1).map λx=>decide<|x=n}
 | .rest s m r=>{m+2,(List.range k).map λx=>if x∈s then 1 else 0,eV q,(List.range<|m+2).map λx=>decide (x=r)||decide (x=m+1)}
 | .more a b=>{4,(List.range k).map λx=>if x∈a then 0 else if x∈b then 1 else 3,eV q,[true,false,true,false]}
 | _=>{1,[],[],[true]}
set_option maxHeartbeats 4000000 in
theorem Io{k:Nat}(hk:k<=4){q:Qs}(h:q.ok k 0):dJ ?qj q.d=.ret (made q k).d:=by
 cases q with
 | neg q=>exact h.elim
 | more a b =>
  have cm:aZ (λd5=>bd (bd (oM<|gz d5<|.tuple<|a.map iN) λTz=>if Tz then .ret (.int 0)else bd (bd (bd (bd (oM<|bB d5<|.tuple<|b.map iN) λb6=>.ret<|.bool b6) λx7=>oM<|mE [x7]) λx8=>oM<|eS (.int 2) x8) λx9=>oM<|bD (.int 1) x9) λQ8=>M.ret<|some Q8) ((List.range k).map iN)=.ret (((List.range k).map λx=>if x∈a then 0 else if x∈b then 1 else 3).map iN):=by
   rw[dz (e:=iN) (g:=λx=>iN<|if x∈a then 0 else if x∈b then 1 else 3) (List.range k) λy _=>by
    rw[(BQ y a).1,(BQ y b).2,f_,a_];by_cases h:y∈a
    ·rw[ba h,ar h];rfl
    ·rw[bi h,ax h];by_cases h':y∈b
     ·rw[ba h',ar h'];rfl
     ·rw[bi h',ax h'];rfl,eT]
   rfl
  unfold dJ Qs.d;rw[bt,jo,f_,a_,bt,gI,f_,a_,show bx (.str "more") (.str "more")=some true from by decide +kernel,f_,a_,ar rfl,bt,sD,f_,a_,cM k ?A,f_,a_,cm,a_,cb ?Y,a_,a_,tY,f_,a_,a_];rfl
 | least s n =>
  unfold dJ Qs.d;rw[bt,jo,f_,a_,bt,gI,f_,a_,show bx (.str "least") (.str "more")=some false from by decide +kernel,f_,a_,ax ?C,uG s k hk,a_,a_,show bx (.str "least") (.str "least")=some true from by decide +kernel,f_,a_,ar rfl,bt,sD,f_,a_];simp![made];generalize (PyData.tuple<|((List.range k).map λx=>if x∈s then 1 else 0).map iN)=S;rcases(by have:=h.2;lia:n=1\/n=2\/n=3)with rfl|rfl|rfl
  ·simp![e6,bS];kernel_rfl
  ·simp![e6,bS];kernel_rfl
  ·simp![e6,bS];kernel_rfl
 | rest s m r =>
  unfold dJ Qs.d;rw[bt,jo,f_,a_,bt,gI,f_,a_,show bx (.str "rest") (.str "more")=some false from by decide +kernel,f_,a_,ax ?C,uG s k hk,a_,a_,show bx (.str "rest") (.str "least")=some false from by decide +kernel,f_,a_,ax ?C,Oc,a_,Pm,f_,a_];simp![made];generalize (PyData.tuple<|((List.range k).map λx=>if x∈s then 1 else 0).map iN)=S;generalize (PyData.tuple ?jC)=S';rcases(by have:=h.2;lia:m=2/\r=0\/m=2/\r=1\/m=3/\r=0\/m=3/\r=1\/m=3/\r=2)with ⟨rfl,rfl⟩|⟨rfl,rfl⟩|⟨rfl,rfl⟩|⟨rfl,rfl⟩|⟨rfl,rfl⟩
  ·simp![cZ,bS];kernel_rfl
  ·simp![cZ,bS];kernel_rfl
  ·simp![cZ,bS];kernel_rfl
  ·simp![cZ,bS];kernel_rfl
  ·simp![cZ,bS];kernel_rfl
def mtB(n:Nat)(m:Mt):Bool:=decide (m.1<=m.2.1)&&decide (m.2.1<n)&&decide (m.2.2.1<n)&&decide (m.2.2.2<n)&&decide (m.2.2≠(m.1,m.2.1))&&decide (m.2.2≠(m.2.1,m.1))
def Nt(m m':Mt):Bool:=decide (m.1<m'.1)||decide (m.1=m'.1)&&decide (m.2.1<m'.2.1)
def msB(n:Nat):Re Mt->Bool
 | []=>true
 | m::l=>mtB n m&&l.all (Nt m)&&msB n l
theorem lI{n:Nat}:∀{l:Re Mt},msB n l=true->(∀m∈l,TF n m)/\l.Pairwise λm m'=>plt (m.1,m.2.1) (m'.1,m'.2.1)
 | [],_=>{λ_ h=>(nomatch h),.nil}
 | m::l,h=>by
  rw[msB,am,am,ir]at h;let{h1,h2}:=lI h.2;refine{λx hx=>?_,.cons (λx hx=>?_) h2}
  ·let rfl||hx:=List.mem_cons.mp hx
   ·have:=h.1.1;simp  [mtB,am,QS]at this;exact{this.1.1.1.1.1,this.1.1.1.1.2,this.1.1.1.2,this.1.1.2,this.1.2,this.2}
   ·exact h1 x hx
  ·have:=h.1.2 x hx;simp  [Nt,gs,am,QS]at this;exact this
theorem Im{k:Nat}{q:Qs}(h:q.ok k 0):Wf (made q k)/\(made q k).n<=5/\(made q k).st.length=k/\(made q k).ms.length<=9:=by
 cases q with
 | neg q=>exact h.elim
 | more a b =>
  let{m1,m2}:=lI (n:=4) (l:=eV (.more a b))<|rfl;refine{{(by decide:1<=4),λs hs=>?_,rfl,m1,m2},(by decide:4<=5),by simp[made],(by decide:4<=9)};let{x,_,rfl}:=List.mem_map.mp hs;show _<4;split
  ·lia
  ·split<;>lia
 | least s n =>
  have st:∀x∈(made (.least s n) k).st,x<(made (.least s n) k).n:=λx hx=>by
   let{y,_,rfl}:=List.mem_map.mp hx;have:=h.2.1;show _<n+1;split<;>lia
  have sl:(made (.least s n) k).st.length=k:=by simp[made]
  have sy:(made (.least s n) k).sy.length=(made (.least s n) k).n:=by simp[made]
  rcases(by have:=h.2;lia:n=1\/n=2\/n=3)with rfl|rfl|rfl
  ·let{m1,m2}:=lI (n:=2) (l:=eV (.least s 1))<|rfl;exact{{(by decide:1<=2),st,sy,m1,m2},(by decide:2<=5),sl,(by decide:1<=9)}
  ·let{m1,m2}:=lI (n:=3) (l:=eV (.least s 2))<|rfl;exact{{(by decide:1<=3),st,sy,m1,m2},(by decide:3<=5),sl,(by decide:3<=9)}
  ·let{m1,m2}:=lI (n:=4) (l:=eV (.least s 3))<|rfl;exact{{(by decide:1<=4),st,sy,m1,m2},(by decide:4<=5),sl,(by decide:6<=9)}
 | rest s m r =>
  have st:∀x∈(made (.rest s m r) k).st,x<(made (.rest s m r) k).n:=λx hx=>by
   let{y,_,rfl}:=List.mem_map.mp hx;show _<m+2;split<;>lia
  have sl:(made (.rest s m r) k).st.length=k:=by simp[made]
  have sy:(made (.rest s m r) k).sy.length=(made (.rest s m r) k).n:=by simp[made]
  rcases(by have:=h.2;lia:m=2/\r=0\/m=2/\r=1\/m=3/\r=0\/m=3/\r=1\/m=3/\r=2)with ⟨rfl,rfl⟩|⟨rfl,rfl⟩|⟨rfl,rfl⟩|⟨rfl,rfl⟩|⟨rfl,rfl⟩
  ·let{m1,m2}:=lI (n:=4) (l:=eV (.rest s 2 0))<|rfl;exact{{(by decide:1<=4),st,sy,m1,m2},(by decide:4<=5),sl,(by decide:5<=9)}
  ·let{m1,m2}:=lI (n:=4) (l:=eV (.rest s 2 1))<|rfl;exact{{(by decide:1<=4),st,sy,m1,m2},(by decide:4<=5),sl,(by decide:5<=9)}
  ·let{m1,m2}:=lI (n:=5) (l:=eV (.rest s 3 0))<|rfl;exact{{(by decide:1<=5),st,sy,m1,m2},(by decide:5<=5),sl,(by decide:9<=9)}
  ·let{m1,m2}:=lI (n:=5) (l:=eV (.rest s 3 1))<|rfl;exact{{(by decide:1<=5),st,sy,m1,m2},(by decide:5<=5),sl,(by decide:9<=9)}
  ·let{m1,m2}:=lI (n:=5) (l:=eV (.rest s 3 2))<|rfl;exact{{(by decide:1<=5),st,sy,m1,m2},(by decide:5<=5),sl,(by decide:9<=9)}
def Sml(r:Rl):Prop:=r.n<=4\/∃y,y<3/\r.n=5/\r.ms=eV (.rest [] 3 y)
def CA(T:Nat)(m:M ?V):Prop:=∃(r:Rl) (q:Qs) (f':Re D),m=.ret (.tuple [r.d,q.d],f')/\Wf r/\Sml r/\(1<=r.st.length/\r.st.length<=4)/\r.ms.length<=30/\q.ok r.st.length 1/\Fd T f'
theorem FM{k:Nat}{q:Qs}(h:q.ok k 0):Sml (made q k):=by
 cases q with
 | neg q=>exact h.elim
 | more a b=>exact .inl (by decide:4<=4)
 | least s n=>exact .inl (by have:=h.2;show n+1<=4;lia)
 | rest s m r =>
  let{_,h1,h2,h3}:=h;rcases(by lia:m=2\/m=3)with rfl|rfl
  ·exact .inl (by decide:4<=4)
  ·refine .inr {r,h3,rfl,?_};rcases(by lia:r=0\/r=1\/r=2)with rfl|rfl|rfl<;>rfl
theorem HS{f:Re D}(hf:Fd T f)(hT:T<=800000):CA (T+8000) (iE f<|.int 4):=by
 let{r,f1,e1,w,hn,hs,hm,Ue}:=Hw (most:=4) hf ?A ?A ?A;have zaN:r.ms.length<=30:=by
  have h5:=Nat.mul_le_mul hn hn;lia
 unfold iE;rw[show f7 f (.int 4)=_ from e1,a_];rw[bt,jo,f_,a_,wH,v_,f_,a_];let{q,f2,e2,hq,Vh}:=x0  Ue ?A hs.1 hs.2;rw[(e2),a_];let{x,f3,e3,hx,hf3}:=cp (m:=2) Vh ?A ?A ?A
 have fin:q.ok r.st.length 0->CA (T+8000) (bd (aB f2<|.int 2) λr7=>bd (oM<|bx r7.1<|.int 0) λb8=>if b8 then .ret ((.tuple [r.d,q.d]),r7.2)
   else bd (bd (bd (M.ret<|iN r.st.length) λRU=>dJ RU q.d) λQ8=>.ret<|.tuple [Q8,q.d]) λSV=>.ret (SV,r7.2)):=λh=>by
  rw[show aB f2 (.int 2)=_ from e3,a_];rw[show bx (iN x) (.int 0)=_ from Yl x 0,f_,a_];by_cases h0:x=0
  ·rw[ba h0];exact{r,q,f3,rfl,w,.inl hn,hs,zaN,hq,hf3.le ?A}
  ·let{w',n',s',m'}:=Im h;rw[bi h0,a_,Io hs.2 h,a_];exact{made q r.st.length,q,f3,rfl,w',FM h,by lia,by lia,by rw[s'];exact hq,hf3.le ?A}
 cases q with
 | neg q =>
  unfold Qs.d;rw[bt,gI,f_,a_,show bx (.str "not") (.str "not")=some true from by decide +kernel,f_];exact{r,.neg q,f2,rfl,w,.inl hn,hs,zaN,hq,Vh.le ?A}
 | least s n =>
  unfold Qs.d;rw[bt,gI,f_,a_,show bx (.str "least") (.str "not")=some false from by decide +kernel,f_];exact fin hq
 | more a b =>
  unfold Qs.d;rw[bt,gI,f_,a_,show bx (.str "more") (.str "not")=some false from by decide +kernel,f_];exact fin hq
 | rest s m y =>
  unfold Qs.d;rw[bt,gI,f_,a_,show bx (.str "rest") (.str "not")=some false from by decide +kernel,f_];exact fin hq
def wt(c:Re Nat):Nat:=(fl c 1+2*fl c 2) % 3
theorem Hc:∀y,y<3->∀h,h<5->∀c∈comps 5 h,∀m∈eV (.rest [] 3 y),gL (fl c) m=true->wt (led 5 c m)=wt c:=by decide +kernel
theorem Kl:∀h,h<5->∀v,v<3->((comps 5 h).filter λc=>decide<|wt c=v).length<=63:=by decide +kernel
theorem Mk:∀n,n<5->∀h,h<5->(comps n h).length<=63:=by decide +kernel
theorem Ao(w:Wf r)(s:Sml r)(hc:c0.length=r.n)(h4:c0.sum<=4)(nd:F.Nodup)(mem:∀c∈F,So r c0 c):F.length<=63:=by
 let h||{y,hy,hn,hm}:=s
 ·refine bj (cy nd λc Sy=>?_)<|Mk r.n ?A c0.sum ?A;let{a,b}:=(mem c Sy).fit w hc;exact jn _ _ _ a b
 ·have inv:∀c,So r c0 c->wt c=wt c0:=λc h=>by
   induction h with
   | refl=>rfl
   | step h g ih =>
    let{m,e1,e2,rfl}:=g;let{a,b}:=h.fit w hc;rw[<-ih,hn];exact Hc y hy c0.sum ?A _ (jn 5 _ _ (a.trans hn) b) m (hm▸pI e1) e2
  refine bj (cy nd λc Sy=>?_)<|Kl c0.sum ?A (wt c0)<|Nat.mod_lt _ ?C;let{a,b}:=(mem c Sy).fit w hc;exact List.mem_filter.mpr {jn 5 _ _ (a.trans hn) b,by simpa using inv c (mem c Sy)}
def sd(r:Rl)(c:Re Nat):D:=uK<|((List.range r.n).filter λi=>decide<|0<fl c i).map λi=>r.sy.getD i false
theorem EJ(r:Rl)(c:Re Nat):sd r c=.str "yes" \/ sd r c=.str "both" \/ sd r c=.str "no":=by
 unfold sd uK;split
 ·exact .inl rfl
 ·split
  ·exact .inr<|.inl rfl
  ·exact .inr<|.inr rfl
theorem Ht(w:Wf r)(f:Nat->Nat)(hn:r.n<=1000):o9 r.d (.tuple<|fG r.n f)=.ret (uK<|((List.range r.n).filter λi=>decide<|0<f i).map λi=>r.sy.getD i false):=by
 unfold o9;have ez:tW (r.sy.map PyData.bool) (fG r.n f)=(List.range r.n).map λi=>.tuple [.bool ?qf,iN (f i)]:=by
  unfold tW;apply At
  ·simp[dg,w.sy]
  ·intro i h1 h2;have hi:=by simpa using h2
   have Xn:i<r.sy.length:=by rw[w.sy];exact hi
   have ht:=by
    have:=vH (f:=f) hi;rw[ay (by rw[dg];exact hi)]at this;exact Option.some.inj this
   rw[List.getElem_zipWith,Op,Op,Op,List.getElem_range,ht,fu,ay Xn];rfl
 rw[bt,IC,f_,a_,B8,f_,a_,ez,dF (g:=λi=>if decide (0<f i)then some (.bool ?qf)else none) (List.range r.n) (by
  intro i hi;have u2:∀(k:D->D->M (SC D)),To (.tuple [.bool ?qf,iN (f i)]) k=k (.bool ?qf) (iN<|f i):=λk=>id rfl
  rw[u2,ZM,f_,a_];by_cases h:0<f i
  ·rw[ar ?jh,ar ?jh]
  ·rw[ax ?jh,ax ?jh]),a_]
 have e2:((List.range r.n).filterMap λi=>if decide (0<f i)=true then some (PyData.bool ?qf)else none)=(((List.range r.n).filter λi=>decide<|0<f i).map λi=>r.sy.getD i false).map PyData.bool:=by
  induction List.range r.n with
  | nil=>rfl
  | cons p l ih =>
   by_cases h:0<f p
   ·simp[h];simpa using ih
   ·simp[h];simpa using ih
 rw[e2,cb (by
  rw[v_,v_]
  exact bj (pi _ _) (by simpa using hn)),a_,a_,L4.allB,f_]
 unfold uK
 cases (List.all _ id)
 ·rw[ax ?C,L4.anyB,f_]
  cases (List.any _ id)<;>rfl
 ·rfl
theorem inB(bs:Re Bool):bB (.bool false) (.list ?jn)=some (bs.all id)/\gz (.bool true) (.list ?jn)=some (bs.any id):=by
 have lay:∀b,lC (.bool b) ?jn=true:=λb=>by
  unfold lC;rw[nG λd hd=>by let{c,_,rfl}:=List.mem_map.mp hd;rfl];rfl
 constructor
 ·rw[FA,show iu (.bool false) (.list ?jn)=if lC (.bool false) ?jn then some (!((bs.map PyData.bool).any λy=>PyData.eqv y<|.bool false))else none from rfl,ar<|lay _];congr 1;clear lay
  induction bs with
  | nil=>rfl
  | cons b bs ih =>
   rw[ap,PM,<-ih]
   cases b<;>rfl
 ·rw[NV,show yn (.bool true) (.list ?jn)=if lC (.bool true) ?jn then some ((bs.map PyData.bool).any λy=>PyData.eqv y<|.bool true)else none from rfl,ar<|lay _];congr 1;clear lay
  induction bs with
  | nil=>rfl
  | cons b bs ih =>
   rw[ap,PL,ih]
   cases b<;>rfl
theorem Ac(w:Wf r)(f:Nat->Nat)(hn:r.n<=1000):dI r.d (.tuple<|fG r.n f)=.ret (uK<|((List.range r.n).filter λi=>decide<|0<f i).map λi=>r.sy.getD i false):=by
 unfold dI
 rw[bt,gI,f_,a_,cM _ ?A,f_,a_,dF  (g:=λi=>if decide (0<f i)then some (.bool ?qf)else none) (List.range r.n) (by
  intro i hi;have hi:=List.mem_range.mp hi;rw[bt,vF hi,f_,a_,L4.ZM,f_,a_];by_cases h:0<f i
  ·rw[ar ?A,ar ?jh,bt,IC,f_,a_,bt,NQ PyData.bool r.sy i false (by rw[w.sy];exact hi),f_,a_]
  ·rw[ax ?A,ax ?jh]),a_]
 have e2:((List.range r.n).filterMap λi=>if decide (0<f i)=true then some (PyData.bool ?qf)else none)=(((List.range r.n).filter λi=>decide<|0<f i).map λi=>r.sy.getD i false).map PyData.bool:=by
  induction List.range r.n with
  | nil=>rfl
  | cons p l ih =>
   by_cases h:0<f p
   ·simp[h];simpa using ih
   ·simp[h];simpa using ih
 rw[e2,cb (by
  rw[v_,v_]
  exact bj (pi _ _) (by simpa using hn)),a_,a_,(inB _).1,f_]
 unfold uK
 cases (List.all _ id)
 ·rw[ax ?C,(inB _).2,f_]
  cases (List.any _ id)<;>rfl
 ·rfl
theorem EK(w:Wf r)(hc:c.length=r.n)(hn:r.n<=1000):o9 r.d ?jG=.ret (sd r c)/\dI r.d ?jG=.ret (sd r c):=by
 rw[wY hc];exact{Ht w (fl c) hn,Ac w (fl c) hn}
theorem DL{f:Re D}{k:Nat}(hf:Fd T f)(hT:T<=900000)(k1:1<=k)(k4:k<=4)(h1:1<=most)(h2:most<=60):∃(c:Re Nat) (f':Re D),eu f ?qj (iN most)=.ret (cT c,f')/\c.length=k/\(1<=c.sum/\c.sum<=most)/\Fd (T+100) f':=by
 unfold eu;have z0:aZ (λd2=>M.ret<|some<|.int 0) ((List.range k).map iN)=.ret ((List.replicate k 0).map iN):=by
  rw[dz   (List.range k) λ_ _=>rfl];congr 1;apply At
  ·simp
  ·simp
 rw[cM _ ?A,f_,a_,z0,a_,cb ?Y,a_];let{h0,f1,e1,hh,Ue}:=cp (m:=most) hf ?A ?A ?A;rw[e1,a_];rw[vA,f_,a_,cM _ ?A,f_]
 let R:M ?V->Prop:=λm=>∃(c:Re Nat) (f':Re D),m=.ret (cT c,f')/\c.length=k/\(1<=c.sum/\c.sum<=most)/\Fd (T+100) f'
 refine lh (R:=R) (P:=λi s=>∃(c:Re Nat) (f:Re D),s=(f,iN k,c.map iN,())/\c.length=k/\c.sum=i/\Fd (T+1+i) f) _ _ ?_ {List.replicate k 0,f1,rfl,by simp,by simp,Ue} ?_
 ·rintro i s d hd ⟨c,f,rfl,hc,hs,hf⟩ kn UP;let{rfl,hi}:=jg hd;unfold jr;let{x,f2,e2,hx,Vh}:=cp (m:=k) hf ?A ?A ?A;have hxl:x<c.length:=by lia
  have ix:aF (.list<|c.map iN) (iN x)=some (iN c[x]):=by rw[lL,(sG iN c x hxl)]
  have ad:bD (iN c[x]) (.int 1)=some (iN<|c[x]+1):=Jp c[x] 1;rw[e2,a_];rw[ix,f_,a_,ad,f_,a_,(FE (c[x]+1) hxl),f_];refine UP _ {c.set x<|c[x]+1,f2,rfl,by simp[hc],?_,Vh.le ?A};have:∀(c:Re Nat) (x:Nat) (h:x<c.length),(c.set x<|c[x]+1).sum=c.sum+1:=by
   intro c
   induction c with
   | nil=>intro x h;simp at h
   | cons a c ih =>
    intro x h
    cases x with
    | zero=>simp;lia
    | succ x =>
     have:=ih x ?jh;simp  [List.set_cons_succ,List.getElem_cons_succ,P7];lia
  rw[this c x hxl];lia
 ·rintro s ⟨c,f,rfl,hc,hs,hf⟩;rw[v_,ue]at hs hf;exact{c,f,rfl,hc,by lia,hf.le ?A}
def bg(r:Rl)(cs:Re Nat):Re Nat:=tab r.n<|cnt<|iO<|r.st.zip cs
theorem GO(w:Wf r)(cs:Re Nat)(hn:r.n<=1000):qI r.d (cT cs)=.ret (cT ?qI):=by
 unfold qI;rw[bt,gI,f_,a_,FG _ _ ?A,f_,a_,CG,bt,jo,f_,a_,B8,f_,Eb];refine(dD  (F:=λpre=>(fG r.n (cnt<|iO pre),())) (r.st.zip cs) ?_).trans ?_
 ·intro p x t Uv kn;have hx:=w.st _ (Qc<|show x∈r.st.zip cs by rw[Uv];simp).1;unfold tD;rw[Ko,mN hx,f_,a_,Oi,f_,a_,qw _ hx,f_,a_,uJ,Ci]
 ·rfl
theorem yK(w:Wf r)(cs:Re Nat)(hl:cs.length=r.st.length)(h4:cs.length<=4)(hn:r.n<=1000):cR r.d (cT cs)=.ret (cT ?qI):=by
 unfold cR;have z0:aZ (λd2=>M.ret<|some<|.int 0) ((List.range r.n).map iN)=.ret (fG r.n<|cnt<|iO []):=by
  rw[dz   (List.range r.n) λ_ _=>rfl];congr 1;unfold fG tab;rw[eT];exact gi λi _=>rfl
 have ln:dE [cT cs]=some (iN cs.length):=by
  show some (PyData.int<|(cs.map iN).length)=_;rw[v_]
 rw[bt,gI,f_,a_,cM _ ?A,f_,a_,z0,a_,cb (by simp[fG,tab];lia),a_,ln,f_,a_,cM _ ?A,f_];refine lh (R:=λm=>m=M.ret (cT ?qI)) (P:=λj s=>s=(r.d,cT cs,fG r.n (cnt<|iO<|(r.st.zip cs).take j),())) _ _ ?_ (rfl) ?_
 ·rintro j s d hd rfl kn hk;let{rfl,hj}:=jg hd;have hs:j<r.st.length:=by lia
  have hz:j<(r.st.zip cs).length:=by rw[List.length_zip];lia
  unfold jV;have i1:aF (.tuple<|r.st.map iN) (iN j)=some (iN r.st[j]):=by rw[bt,(pR iN r.st j hs)]
  have i2:aF (cT cs) (iN j)=some (iN cs[j]):=by rw[bt,(pR iN cs j hj)]
  have hx:=w.st _<|gh hs;rw[bt,jo,f_,a_,i1,f_,a_,lL,mN hx,f_,a_,i2,f_,a_,Jp,f_,a_,qw _ hx,f_];refine hk _ ?_;rw[List.take_succ_eq_append_getElem hz,uJ,Ci,List.getElem_zip]
 ·rintro s rfl;unfold jW;rw[tY,f_,v_,ue,Cn (by rw[List.length_zip];lia)];rfl
theorem Cg(n:Nat):∀l:Re Nat,(∀x∈l,x<n)->sumF n (cnt l)=l.length
 | [],_=>by
  have:∀n,sumF n (cnt [])=0:=λn=>by
   induction n with
   | zero=>rfl
   | succ n ih=>rw[i8,ih];rfl
  exact this n
 | x::l,h=>by
  have e:cnt (x::l)=λi=>cnt l i+if x=i then 1 else 0:=by
   funext i;show(x::l).count i=l.count i+_;rw[List.count_cons];by_cases q:x=i<;>simp
  rw[e,ja,i9,Cg n l λy hy=>h y (by simp[hy]),ar<|h x ?G];rfl
theorem xV:∀l:Re (Nat×Nat),(iO l).length=(l.map (·.2)).sum
 | []=>rfl
 | p::l=>by
  have ih:=xV l;unfold iO at ih ⊢;rw[xv,R4,List.length_replicate,ih];rfl
theorem A0:∀(a b:Re Nat),b.length=a.length->((a.zip b).map (·.2)).sum=b.sum
 | [],[],_=>rfl
 | a::as,b::bs,h=>by
  have:=A0 as bs ?jh;simp  [List.zip_cons_cons,ap,P7];lia
theorem mJ(r:Rl)(cs:Re Nat):(bg r cs).length=r.n:=dg _ _
theorem GN(w:Wf r)(cs:Re Nat)(hl:cs.length=r.st.length):(bg r cs).sum=cs.sum:=by
 unfold bg;rw[vE,Cg,xV]
 ·exact A0 _ _ hl
 ·intro x hx;let{p,hp,hx}:=List.mem_flatMap.mp hx;rw[List.eq_of_mem_replicate hx];exact w.st _ (Qc hp).1
def hs(c s:Re Nat):Nat:=(s.map<|fl c).sum
def Qs.tr(c:Re Nat):Qs->Bool
 | .least s n=>decide<|n<=hs c s
 | .more a b=>decide<|hs c b<hs c a
 | .rest s m r=>decide<|hs c s % m=r
 | .neg q=>!q.tr c
theorem Bb(ns:Re Nat)(h:∀c∈ns,c<=1000)(hl:ns.length<=10):fA [.list (ns.map iN)]=some (iN ns.sum):=by
 have e1:intsOf (ns.map iN)=some (ns.map λ(n:Nat)=>(n:Int)):=by
  have:=mC<|ns.map λ(n:Nat)=>(n);rw[eT]at this;exact this
 have e3:∀l:Re Nat,(l.map λ(n:Nat)=>(n:Int)).sum=((l.sum)):=by
  intro l
  induction l with
  | nil=>rfl
  | cons a l ih=>rw[ap,P7,P7,ih,Int.natCast_add]
 have e2:qU (ns.map λ(n:Nat)=>(n))=true:=by
  unfold qU;rw[am,ir,QS];refine{λx hx=>?_,by rw[v_];exact bj hl ?C};let{c,hc,rfl}:=List.mem_map.mp hx;have:=h c hc;rw[QS];exact bj this ?C
 unfold fA;unfold IM;dsimp only;rw[e1];dsimp only;rw[ar e2,e3]
theorem yT(hb:∀x,fl c x<=1000)(h:∀x∈s,x<c.length)(hl:s.length<=4):(bd (bd (bd (oM<|cH<|.tuple ?jC) λl3=>bd (aZ (λd1=>bd (oM<|aF ?jG d1) λx2=>.ret<|some x2) l3) cq) λl4=>.ret<|PyData.list l4) λx5=>oM<|fA [x5])=.ret (iN<|hs c s):=by
 have hc:aZ (λd1=>bd (oM<|aF ?jG d1) λx2=>.ret<|some x2) ?jC=.ret ((s.map<|fl c).map iN):=by
  rw[dz   s λx hx=>by
   have hx:=h x hx;rw[bt,(pR iN c x hx),f_];show M.ret (some<|iN c[x])=.ret (some<|iN<|c.getD x 0);rw[fu,ay hx]
   rfl,eT]
  rfl
 rw[Hs,f_,a_,hc,a_,cb ?Y,a_,a_,Bb _ (λy hy=>by let{x,_,rfl}:=List.mem_map.mp hy;exact hb x) ?Y];rfl
theorem Gi(hb:∀x,fl c x<=1000)(h:∀x∈s,x<c.length)(hl:s.length<=4):fL (.tuple ?jC) ?jG=.ret (iN<|hs c s):=by
 unfold fL;rw[yT hb h hl,a_]
theorem N0(a b:Nat):v0 (iN a) (iN b)=some (decide<|b<=a):=by
 show some (decide<|(b:Int)<=(a))=_;congr 1;rw[PP,QS,QS];omega
theorem yU(a b:Nat):dX (iN a) (iN b)=some (decide<|b<a):=by
 show some (decide<|(b:Int)<(a))=_;congr 1;rw[PP,QS,QS];omega
theorem vD:bx (.str "least") (.str "not")=some false/\bx (.str "least") (.str "both")=some false/\bx (.str "least") (.str "either")=some false/\bx (.str "least") (.str "least")=some true:=by decide +kernel
theorem vC:bx (.str "more") (.str "not")=some false/\bx (.str "more") (.str "both")=some false/\bx (.str "more") (.str "either")=some false/\bx (.str "more") (.str "least")=some false/\bx (.str "more") (.str "more")=some true:=by decide +kernel
theorem vB:bx (.str "rest") (.str "not")=some false/\bx (.str "rest") (.str "both")=some false/\bx (.str "rest") (.str "either")=some false/\bx (.str "rest") (.str "least")=some false/\bx (.str "rest") (.str "more")=some false:=by decide +kernel
theorem w_not:bx (.str "not") (.str "not")=some true:=by decide +kernel
theorem qa(b:Bool):fF (.bool b)=some b:=id rfl
theorem PK(b:Bool):asB (.bool b)=.ret b:=id rfl
theorem Zm{α:Type}(a b:α):(if false=true then a else b)=b:=rfl
theorem yR{k:Nat}{c:Re Nat}(hc:c.length=k)(hb:∀x,fl c x<=1000):∀(i j:Nat) (q:Qs),q.ok k j->j<i->nU i q.d ?jG=.ret (.bool<|q.tr c)
 | 0,j,q,_,h=>by omega
 | i+1,j,q,h,hj=>by
  show pc (nU i) q.d ?jG=_;unfold pc;have sx:∀{s:Re Nat},Xf k s->fL (.tuple ?jC) ?jG=.ret (iN<|hs c s):=λh=>Gi hb (λx hx=>by rw[hc];exact h.2 x hx) h.1
  cases q with
  | least s n =>
   have h:=by cases j<;>exact h
   rw[show(Qs.least s n).d=.tuple [.str "least",.tuple ?jC,iN n]from rfl];simp  [bt,gI,jo,sD,f_,a_,vD,Zm,yp,sx h.1,N0];rfl
  | more a b =>
   have h:=by cases j<;>exact h
   rw[show(Qs.more a b).d=.tuple [.str "more",.tuple (a.map iN),.tuple (b.map iN)]from rfl];simp  [bt,gI,jo,sD,f_,a_,vC,Zm,yp,sx h.1,sx h.2.1,yU];rfl
  | rest s m r =>
   have h:Xf k s/\2<=m/\m<=3/\r<m:=by cases j<;>exact h
   rw[show(Qs.rest s m r).d=.tuple [.str "rest",.tuple ?jC,iN m,iN r]from rfl];simp  [bt,gI,jo,sD,IC,f_,a_,vB,Zm,sx h.1,NM _ m ?S,Yl];rfl
  | neg q =>
   cases j with
   | zero=>exact h.elim
   | succ j =>
    have ih:=yR hc hb i j q h ?S;rw[show q.neg.d=.tuple [.str "not",q.d]from rfl];simp![bt,gI,jo,f_,a_,w_not,yp,ih,qa];rfl
theorem pO{k:Nat}{c:Re Nat}(hc:c.length=k)(hb:∀x,fl c x<=1000):∀(i j:Nat) (q:Qs),q.ok k j->j<i->dn i q.d ?jG=.ret (.bool<|q.tr c)
 | 0,j,q,_,h=>by omega
 | i+1,j,q,h,hj=>by
  show h7 (dn i) q.d ?jG=_;unfold h7;have sx:∀{s:Re Nat},Xf k s->(bd (bd (bd (oM<|cH<|.tuple ?jC) λl3=>bd (aZ (λd1=>bd (oM<|aF ?jG d1) λx2=>.ret<|some x2) l3) cq) λl4=>.ret<|PyData.list l4) λx5=>oM<|fA [x5])=.ret (iN<|hs c s):=λh=>yT hb (λx hx=>by rw[hc];exact h.2 x hx) h.1
  cases q with
  | least s n =>
   have h:=by cases j<;>exact h
   rw[show(Qs.least s n).d=.tuple [.str "least",.tuple ?jC,iN n]from rfl];rw[bt,gI,f_,a_,vD.1,f_,a_,Zm,bt,jo,f_,a_,sx h.1,a_,a_,vD.2.2.2,f_,a_,bt,sD,f_,a_,N0,f_,a_];rfl
  | more a b =>
   have h:=by cases j<;>exact h
   rw[show(Qs.more a b).d=.tuple [.str "more",.tuple (a.map iN),.tuple (b.map iN)]from rfl];rw[bt,gI,f_,a_,vC.1,f_,a_,Zm,bt,jo,f_,a_,sx h.1,a_,a_,vC.2.2.2.1,f_,a_,Zm,a_,vC.2.2.2.2,f_,a_,bt,sD,f_,a_,sx h.2.1,a_,yU,f_,a_];rfl
  | rest s m r =>
   have h:Xf k s/\2<=m/\m<=3/\r<m:=by cases j<;>exact h
   rw[show(Qs.rest s m r).d=.tuple [.str "rest",.tuple ?jC,iN m,iN r]from rfl];rw[bt,gI,f_,a_,vB.1,f_,a_,Zm,bt,jo,f_,a_,sx h.1,a_,a_,vB.2.2.2.1,f_,a_,Zm,a_,vB.2.2.2.2,f_,a_,Zm,bt,sD,f_,a_,NM _ m ?S,f_,a_,bt,IC,f_,a_,Yl,f_,a_];rfl
  | neg q =>
   cases j with
   | zero=>exact h.elim
   | succ j =>
    have ih:=pO hc hb i j q h ?S;rw[show q.neg.d=.tuple [.str "not",q.d]from rfl];simp![bt,gI,jo,f_,a_,w_not,yp,ih,qa];rfl
abbrev vG(g:Re Nat->Re ?L):Re Nat->D:=λx=>.list<|(g x).map cT
def jq(c:Re Nat)(g:Re Nat->Re ?L)(x:Re Nat):Re Nat->Re ?L:=λy=>if y=x then g y++[c]else g y
def nL(r:Rl)(g:Re Nat->Re ?L)(c:Re Nat):Re Nat->Re ?L:=((bW r c).map (·.2)).foldl (jq c) g
def fy(r:Rl)(F:Re ?L):Re Nat->Re ?L:=F.foldl (nL r) λ_=>[]
theorem u3(v:Re Nat->D)(hv:∀c,v c=.list []):∀(F2 F1:Re ?L),(F1++F2).Nodup->(F1++F2).length<=1000->(F2.map cT).foldl h8 (some<|F1.map<|kE v)=some ((F1++F2).map<|kE v)
 | [],F1,_,_=>by rw[ic];rfl
 | c::F2,F1,nd,hl=>by
  have hc:=λh=>by
   have:=(List.nodup_append.mp nd).2.2 c h c ?G;exact this rfl
  have e:h8 (some<|F1.map<|kE v) ?jG=some ((F1++[c]).map<|kE v):=by
   unfold h8;dsimp only;rw[lg,ax hc];rw[ar (ba (by rw[v_];rw[R4,eE]at hl;lia)),eg];show some (F1.map (kE v)++[(cT c,PyData.list [])])=some (F1.map (kE v)++[(cT c,v c)]);rw[hv]
  rw[ap,io,e];have:=u3 v hv F2 (F1++[c]) (by simpa using nd) (by simpa using hl);rw[this];simp
theorem Jo{g:Re Nat->Re ?L}{x:Re Nat}(hx:x∈F)(hl:(g x).length<90000):Cm (F.map<|kE<|vG g) ?jG (cT x)=some (F.map<|kE<|vG<|jq c g x):=by
 unfold Cm;rw[lg,ar hx];dsimp only;rw[ar (by rw[d0,Bool.true_and,QS,v_];exact hl)];congr 1;unfold oz;rw[ar]
 ·rw[eT];refine gi λy hy=>?_
  show(if gH (cT y) (cT x)=true then(cT y,PyData.list ((g x).map cT++[cT c]))else(cT y,vG g y))=(cT y,vG (jq c g x) y);rw[nI];by_cases e:y=x
  ·subst e;rw[ar ?G];show _=(cT y,PyData.list ((if y=y then g y++[c]else g y).map cT));rw[ar rfl,eg];rfl
  ·rw[ax (by simpa using e)];show _=(cT y,PyData.list ((if y=x then g y++[c]else g y).map cT));rw[ax e]
 ·rw[List.any_map];exact List.any_eq_true.mpr {x,hx,by show gH (cT x) (cT x)=true;rw[nI];simp}
theorem yI(c:Re Nat)(g:Re Nat->Re ?L)(x y:Re Nat):(jq c g x y).length<=(g y).length+1:=by
 unfold jq;split
 ·simp
 ·lia
theorem sv{F:Re ?L}{c:Re Nat}:∀(ls:Re ?jv) (g:Re Nat->Re ?L) (N:Nat),(∀p∈ls,p.2∈F)->(∀y,(g y).length<=N)->N+ls.length<90000 ->
  (ls.map ld).foldl (gx ?jG) (some<|F.map<|kE<|vG g)=some (F.map (kE (vG ((ls.map (·.2)).foldl (jq c) g))))/\∀y,((ls.map (·.2)).foldl (jq c) g y).length<=N+ls.length
 | [],g,N,_,hN,_=>{rfl,hN}
 | p::ls,g,N,hp,hN,hl=>by
  rw[eE]at hl;have e:gx ?jG (some<|F.map<|kE<|vG g) (ld p)=some (F.map<|kE<|vG<|jq c g p.2):=Jo (hp p ?G) (by have:=hN p.2;lia);let{h1,h2}:=sv ls (jq c g p.2) (N+1) (λq hq=>hp q (by simp[hq])) (λy=>by have:=yI c g p.2 y;have:=hN y;lia) ?A;rw[ap,io,e,ap,io,eE];exact{h1,λy=>by have:=h2 y;lia}
theorem rH{r:Rl}{F:Re ?L}(cl:∀c∈F,∀p∈bW r c,p.2∈F)(hL:∀c∈F,(bW r c).length<=60):∀(F2:Re ?L) (g:Re Nat->Re ?L) (N:Nat),(∀c∈F2,c∈F)->(∀y,(g y).length<=N)->N+60*F2.length<90000 ->
  (F2.map ?jw).foldl cJ (some<|F.map<|kE<|vG g)=some (F.map<|kE<|vG<|F2.foldl (nL r) g)
 | [],g,N,_,_,_=>rfl
 | c::F2,g,N,hc,hN,hl=>by
  rw[eE]at hl;have h60:=hL c<|hc c ?G;let{h1,h2}:=sv   (bW r c) g N (cl c<|hc c ?G) hN ?A;have e:cJ (some<|F.map<|kE<|vG g) (kE (vL r) c)=some (F.map<|kE<|vG<|nL r g c):=h1;rw[ap,io,e];exact rH cl hL F2 _ (N+60) (λc' h=>hc c' (by simp[h])) (λy=>by have:=h2 y;unfold nL;lia) ?A
theorem GP(ne:F≠[])(nd:F.Nodup)(hl:F.length<=900)(cl:∀c∈F,∀p∈bW r c,p.2∈F)(hL:∀c∈F,(bW r c).length<=60):fM (.dict<|F.map ?jw)=.ret (.dict ?W):=by
 have k0:pP (F.map ?jw)=some ?qd:=by
  cases F with
  | nil=>exact absurd rfl ne
  | cons c F =>
   unfold pP;rw[ap];dsimp only;rw[ar<|d0 c,<-ap,wI]
 have e1:=u3 (λ_=>.list []) ?R F [] ((nd)) ?Y;have e2:=rH cl hL F (λ_=>[]) 0 (λ_ h=>h) (λ_=>ac _) ?A;have e3:w9 (F.map ?jw)=some ?W:=by
  unfold w9;rw[wI,show(some [])=some (([]).map<|kE λ_=>.list [])from rfl,e1];exact e2
 unfold fM w6;dsimp only;rw[k0];rw[e3];rfl
theorem yF{c:Re Nat}{g:Re Nat->Re ?L}{c' y:Re Nat}:∀(xs:Re ?L) (g:Re Nat->Re ?L),c'∈xs.foldl (jq c) g y↔c'∈g y\/(c'=c/\y∈xs)
 | [],g=>by simp
 | x::xs,g=>by
  rw[io,yF (g:=g) xs];unfold jq;by_cases e:y=x
  ·rw[ar e];constructor
   ·rintro(h|⟨h1,h2⟩)
    ·let h||h:=List.mem_append.mp h
     ·exact .inl h
     ·exact .inr {List.mem_singleton.mp h,by simp[e]}
    ·exact .inr {h1,by simp[h2]}
   ·rintro(h|⟨h1,_⟩)
    ·exact .inl<|UY _ h
    ·exact .inl (du _ (by simp[h1]))
  ·simp[e]
theorem yE{r:Rl}{c' y:Re Nat}:∀(F:Re ?L) (g:Re Nat->Re ?L),c'∈F.foldl (nL r) g y↔c'∈g y\/(c'∈F/\∃k,(k,y)∈bW r c')
 | [],g=>by simp
 | c::F,g=>by
  rw[io,yE F];unfold nL;rw[yF (g:=g)];constructor
  ·rintro((h|⟨rfl,h⟩)|⟨h1,h2⟩)
   ·exact .inl h
   ·let{p,hp,rfl}:=List.mem_map.mp h;exact .inr {by simp,p.1,hp}
   ·exact .inr {by simp[h1],h2}
  ·rintro(h|⟨h1,k,h2⟩)
   ·exact .inl<|.inl h
   ·let rfl||h1:=List.mem_cons.mp h1
    ·exact .inl<|.inr {rfl,List.mem_map.mpr {_,h2,rfl}}
    ·exact .inr {h1,k,h2}
theorem Sa{y:Re Nat}:c∈fy r F y↔c∈F/\∃k,(k,y)∈bW r c:=by
 unfold fy;rw[yE];simp
theorem Dm(r:Rl)(l:Re Nat):(bW r l).length<=l.length*l.length:=by
 have h1:∀(a:Nat) (bs:Re Nat),(bs.flatMap<|cell r l a).length<=bs.length:=by
  intro a bs
  induction bs with
  | nil=>simp
  | cons b bs ih =>
   rw[xv,R4,eE];have:=nQ r l a b;lia
 have hr:=n8 l;have h2:∀ps:Re (Nat×Nat),(ps.flatMap λp=>((rooms l).drop p.2).flatMap<|cell r l p.1).length<=ps.length*l.length:=by
  intro ps
  induction ps with
  | nil=>simp
  | cons p ps ih =>
   rw[xv,R4,eE];have:=h1 p.1<|(rooms l).drop p.2;rw[No]at this;lia
 have:=h2 (rooms l).zipIdx;rw[ua]at this;exact bj this<|Nat.mul_le_mul_right _ hr
inductive UM(r:Rl)(Gs:Re ?L):Re Nat->Prop
 | goal {c:Re Nat}:c∈Gs->UM r Gs c
 | step {c c':Re Nat} {k:Nat}:Goes r c k c'->UM r Gs c'->UM r Gs c
abbrev vN(v:Re Nat->Nat):Re Nat->D:=λc=>iN<|v c
theorem Ip(a b:Nat):dU (iN a) (iN b)=some (decide<|a<b):=by
 show zQ (.int _) (.int _)=_;rw[L4.ltI];congr 1;rw[PP,QS,QS];omega
theorem E2(h:c∉A)(hl:A.length<=90000)(n:Nat):hV true (A.map ?jY) ?jG (iN n)=some ((A++[c]).map<|kE<|vN λy=>if y=c then n else v y):=by
 have e:=gi λy hy=>by
  show(cT y,iN (v y))=(cT y,iN (if y=c then n else v y));have ne:¬ y=c:=λz=>h<|z▸hy
  rw[ax ne]
 rw[e];have:=j3 (vN λy=>if y=c then n else v y) h hl;rw[show vN (λy=>if y=c then n else v y) c=iN n from by show iN (if c=c then n else v c)=_;rw[ar rfl]]at this;exact this
def Rk(r:Rl)(Gs A:Re ?L)(v:Re Nat->Nat):Prop:=(∀c∈Gs,v c=0)/\∀c∈A,c∈Gs\/∃k c',Goes r c k c'/\c'∈A/\v c=v c'+1
theorem Ap{kn3:D×Re ?N×Re D×D×Unit->M D}{B pl:D}{here:Re Nat}{k:D×Re ?N×Re D×D×D×Unit->M D}:∀(L A:Re ?L) (v:Re Nat->Nat),here∈A->A.length+L.length<=90000 ->
  ∃v',cP (λ(U5:D×Re ?N×Re D×D×D×Unit) Ym kn=>iZ kn3 U5.1 U5.2.1 U5.2.2.1 U5.2.2.2.1 U5.2.2.2.2.1 Ym kn) ?j1 (B,A.map ?jY,A.map cT,pl,cT here,()) k=k (B,(bA A L).map (kE<|vN v'),(bA A L).map cT,pl,cT here,())/\(∀y∈A,v' y=v y)/\∀y∈bA A L,y∈A\/v' y=v here+1
 | [],A,v,_,_=>{v,rfl,λ_ _=>rfl,λ_ h=>.inl h}
 | c::L,A,v,hh,hl=>by
  rw[eE]at hl;rw[ap,cP];unfold iZ;rw[gW,f_,a_,gg];by_cases h:c∈A
  ·rw[ba h,ar h];exact Ap (kn3:=kn3) L A v hh ?A
  ·rw[bi h,ax h];let{v',e,g1,g2}:=Ap (kn3:=kn3)   (k:=k) L (A++[c]) (λy=>if y=c then v here+1 else v y) (UY _ hh) ?Y;have hn:∀y∈A,y≠c:=λy hy z=>h<|z▸hy
   refine{v',?_,λy hy=>(g1 y<|UY _ hy).trans<|ax<|hn y hy,λy hy=>?_}
   rotate_left
   ·rw[ax<|hn here hh]at g2;let q||q:=g2 y hy
    ·let q||q:=List.mem_append.mp q
     ·exact .inl q
     ·have:=by simpa using q
      subst this;exact .inr<|(g1 y ?G).trans<|ar rfl
    ·exact .inr q
   rw[<-e];rw[lK _ hh,f_,a_,show bD (vN v here) (.int 1)=some (iN<|v here+1)from Jp (v here) 1,f_,a_,E2 h ?A,f_,kN _ _ ?jU,f_,eg (f:=cT)];rfl
noncomputable abbrev uF:D×Re ?N×Re D×D×Unit->(D×Re ?N×Re D×D×Unit->M D)->M D:=λYY kn=>dA YY.1 YY.2.1 YY.2.2.1 YY.2.2.2.1 kn
theorem Gq{i:Nat}(v:Re Nat->Nat)(x_:i<A.length)(hF:A[i]∈F)(hl:A.length+(fy r F A[i]).length<=90000)(kn:D×Re ?N×Re D×D×Unit->M D) :
  ∃v',dA (.dict ?W) (A.map ?jY) (A.map cT) (iN i) kn=kn (.dict ?W,(bA A ?qV).map (kE<|vN v'),(bA A ?qV).map cT,iN ?qc,())/\(∀y∈A,v' y=v y)/\∀y∈bA A ?qV,y∈A\/v' y=v A[i]+1:=by
 unfold dA;have ll:dE [.list (A.map cT)]=some (iN A.length):=by rw[L4.V3,v_]
 have ix:aF (.list<|A.map cT) (iN i)=some (cT A[i]):=by rw[lL,(sG cT A i x_)]
 rw[ll,f_,a_,Ip,f_,a_,ba x_,ix,f_,a_,lK _ hF,f_,a_,mR,f_,bS];let{v',e,g}:=Ap     ?qV A v (gh x_) hl;refine{v',e.trans ?_,g};unfold lT;rw[Kj,f_,a_]
section
variable (w:Wf r) (fit:∀c∈F,c.length=r.n) (hF:F.length<=900) (hg:∀y∈F,(fy r F y).length<=60000) (UU:∀c∈F,∀k c',Goes r c k c'->c'∈F)
include w fit hF hg UU
theorem za:∀(fuel i:Nat) (A:Re ?L) (v:Re Nat->Nat),A.Nodup->(∀c∈A,c∈F)->(∀c∈Gs,c∈A)->(∀c∈A,UM r Gs c)->Rk r Gs A v->i<=A.length->(∀(j:Nat) (h:j<A.length),j<i->∀c∈F,∀k,Goes r c k A[j]->c∈A)->F.length<fuel+i ->
  ∃(A':Re ?L) (v':Re Nat->Nat),bO uF fuel (.dict ?W,A.map ?jY,A.map cT,iN i,())=.ret (.dict<|A'.map<|kE<|vN v')/\(∀c,c∈A'↔c∈F/\UM r Gs c)/\Rk r Gs A' v'
 | 0,i,A,v,nd,sub,_,_,_,hi,_,hf=>by
  have:=cy nd sub;lia
 | fuel+1,i,A,v,nd,sub,g0,bk,rk,hi,cl,hf=>by
  have hle:=cy nd sub;rw[bO];by_cases x_:i<A.length
  ·have hm:=gh x_;have hF':=sub _ hm;have hgl:=hg _ hF';let{v',e,k1,k2}:=Gq (r:=r) v x_ hF' ?A λs'=>bO uF fuel s';have e':uF (.dict ?W,A.map ?jY,A.map cT,iN i,()) (λs'=>bO uF fuel s')=_:=e;rw[e'];let{E,ee}:=jL ?qV A;have mem:∀x,x∈bA A ?qV↔x∈A\/x∈fy r F A[i]:=λx=>dk _ _ x
   refine za fuel ?qc (bA A ?qV) v' (gM _ _ nd) (λc hc=>?_) (λc hc=>(mem c).mpr<|.inl<|g0 c hc) (λc hc=>?_) {λc hc=>(k1 c<|g0 c hc).trans<|rk.1 c hc,λc hc=>?_} (by rw[ee,R4];lia) (λj h hj c hc k g=>?_) ?A
   ·rcases(mem c).mp hc with h|h
    ·exact sub c h
    ·exact(Sa.mp h).1
   ·rcases(mem c).mp hc with h|h
    ·exact bk c h
    ·let{h1,k,h2}:=Sa.mp h;exact .step ((eM w<|fit c h1).mp h2)<|bk _ hm
   ·by_cases hA:c∈A
    ·let q||{k,c',q1,q2,q3}:=rk.2 c hA
     ·exact .inl q
     ·exact .inr {k,c',q1,(mem c').mpr<|.inl q2,by rw[k1 c hA,k1 c' q2,q3]}
    ·let{h1,k,h2}:=Sa.mp<|((mem c).mp hc).resolve_left hA;exact .inr {k,A[i],(eM w<|fit c h1).mp h2,(mem _).mpr<|.inl hm,by rw[(k2 c hc).resolve_left hA,k1 _ hm]}
   ·have Xm:j<A.length:=by lia
    have ej:=by
     have:(bA A ?qV)[j]? = A[j]?:=by rw[ee,ul Xm]
     rw[ay h,ay Xm]at this;exact Option.some.inj this
    rw[ej]at g;by_cases e:j=i
    ·subst e;exact(mem c).mpr<|.inr<|Sa.mpr {hc,k,(eM w<|fit c hc).mpr g}
    ·exact(mem c).mpr<|.inl<|cl j Xm ?A c hc k g
  ·have ll:dE [.list (A.map cT)]=some (iN A.length):=by rw[L4.V3,v_]
   have e':uF (.dict ?W,A.map ?jY,A.map cT,iN i,()) (λs'=>bO uF fuel s')=.ret (.dict<|A.map ?jY):=by
    show dA _ _ _ _ _=_;unfold dA;rw[ll,f_,a_,Ip,f_,bi x_];rfl
   rw[e'];refine{A,v,rfl,λc=>{λhc=>{sub c hc,bk c hc},λ⟨h1,h2⟩=>?_},rk};have go:∀c,UM r Gs c->c∈F->c∈A:=by
    intro c h
    induction h with
    | goal h=>intro _;exact g0 _ h
    | @step c c' k g b ih =>
     intro hc;have Sy:=ih<|UU c hc k c' g;let{j,hj,e}:=oR Sy;exact cl j hj ?A c hc k (by rw[e];exact g)
   exact go c h2 h1
theorem Gr(sub:∀c∈Gs,c∈F)(nd:Gs.Nodup):∃(A:Re ?L) (v:Re Nat->Nat),eI (.dict ?W) (.list<|Gs.map cT)=.ret (.dict<|A.map ?jY)/\(∀c,c∈A↔c∈F/\UM r Gs c)/\Rk r Gs A v:=by
 have hl:=cy nd sub;unfold eI;rw[mR,f_,a_];have h0:cO (λ(R_) d22 kn=>i3 R_.1 R_.2.1 R_.2.2.1 d22 kn) (Gs.map cT) (.dict ?W,.list (Gs.map cT),[],()) (λR_=>fR R_.1 R_.2.1 R_.2.2.1)=fR (.dict ?W) (.list<|Gs.map cT) (Gs.map<|kE<|vN λ_=>0):=by
  refine(dD  (F:=λpre=>(PyData.dict ?W,PyData.list (Gs.map cT),pre.map (kE<|vN λ_=>0),())) Gs ?_).trans rfl;intro p x t Uv kn;unfold i3;have hx:=λz=>by
   rw[Uv]at nd;exact(List.nodup_append.mp nd).2.2 x z x ?G rfl
  have hp:p.length<=90000:=by rw[Uv,R4]at hl;lia
  rw[show(.int 0)=vN (λ_=>0) x from rfl,j3 _ hx hp,f_,a_]
 rw[h0];unfold fR;rw[show pT [.list (Gs.map cT)]=some (Gs.map cT)from rfl,f_,fD];exact za w fit hF hg UU 10000 0 Gs (λ_=>0) nd sub (λ_ h=>h) (λc h=>.goal h) {λ_ _=>rfl,λ_ h=>.inl h} ?X (λj h z=>absurd z<|Nat.not_lt_zero _) ?A
end
theorem NT(v:Re Nat->D)(F:Re ?L)(c:Re Nat):gz ?jG (.dict ?jg)=some (decide<|c∈F):=by
 show(if keyOk ?jg ?jG then some (gk ?jg ?jG).isSome else none)=_;rw[ar<|sC v F c,lg];by_cases h:c∈F
 ·rw[ar h,ba h];rfl
 ·rw[ax h,bi h];rfl
theorem HG(hl:A.length<=90000):hV true (A.map ?jW) ?jG (.bool true)=some ((bA A [c]).map ?jW):=by
 have e:bA A [c]=if c∈A then A else A++[c]:=rfl;rw[e];by_cases h:c∈A
 ·rw[ar h];unfold hV;rw[ar (by rw[am,QS,v_];exact{d0 c,ut hl ?C})];congr 1;unfold oz;rw[ar (by rw[List.any_map];exact List.any_eq_true.mpr {c,h,by show gH ?jG ?jG=true;rw[nI];simp}),eT];refine gi λy _=>?_
  show(if gH (cT y) ?jG=true then(cT y,PyData.bool true)else(cT y,PyData.bool true))=_;split<;>rfl
 ·rw[ax h];exact j3 vT h hl
def into(r:Rl)(A:Re ?L)(c:Re Nat):Bool:=(bP r c r.ms.zipIdx).any λp=>decide<|p.2∈A
def turn(r:Rl)(A:Re ?L)(c:Re Nat):Re ?L:=if into r A c then bA A [c]else A
theorem Va:into r A c=true↔∃k c',Goes r c k c'/\c'∈A:=by
 unfold into;rw[List.any_eq_true];constructor
 ·rintro⟨⟨k,c'⟩,h1,h2⟩;exact{k,c',K_.mp h1,by simpa using h2}
 ·rintro⟨k,c',h1,h2⟩;exact{(k,c'),K_.mpr h1,by simpa using h2}
theorem Ih(ps:Re ?jv):cW (.list ?qR) (.list [])=some (!ps.isEmpty):=by
 have hl:PyData.canLayAll0 ?qR=true:=nG λd hd=>by
  let{p,_,rfl}:=List.mem_map.mp hd;show(PyData.canLay0 (iN p.1)&&(PyData.canLay0 (cT p.2)&&true))=true;rw[show PyData.canLay0 (cT p.2)=PyData.canLayAll0 (p.2.map iN)from rfl,sw];rfl
 have hd:PyData.depthAll ?qR<=2:=km λd hd=>by
  let{p,_,rfl}:=List.mem_map.mp hd;have:PyData.depthAll (p.2.map iN)<=0:=km λd hd=>by
   let{x,_,rfl}:=List.mem_map.mp hd;exact ac _
  simp  [PyData.depthAll,cT,PyData.depth];omega
 have h2:(PyData.list ?qR).depth<=1000:=by simp  [PyData.depth];omega
 unfold cW qk;rw[ar (by simp[PyData.canLay0,hl,h2,PyData.canLayAll0])]
 cases ps<;>simp[PyData.eqv,PyData.eqvAll]
theorem Jb{m:D}{Y8 kn:D×Re ?N×D×Unit->M D}(hc:c∈F)(hs:(bP r c r.ms.zipIdx).length<=1000)(hl:A.length<=90000):fj Y8 (.dict ?jj) (A.map ?jW) m ?jG kn=kn (.dict ?jj,(turn r A c).map ?jW,m,()):=by
 unfold fj;have e1:aZ (λT5=>bd (bd (oM<|aF T5<|.int 1) λTj=>oM<|gz Tj<|.dict<|A.map ?jW) λUK=>if UK then .ret (some T5)else .ret none) ((bP r c r.ms.zipIdx).map ld)=.ret (((bP r c r.ms.zipIdx).filter λp=>decide<|p.2∈A).map ld):=by
  rw[dF  (g:=λp=>if decide (p.2∈A)then some (ld p)else none) (bP r c r.ms.zipIdx) λp _=>by
   rw[ld1,f_,a_,NT,f_,a_]
   split<;>rfl]
  congr 1
  induction bP r c r.ms.zipIdx with
  | nil=>rfl
  | cons p l ih =>
   rw[si,zi];by_cases h:p.2∈A
   ·simp![h,decide_true,yp,ap];rw[ih]
   ·simp![h,Qg];exact ih
 rw[lK _ hc,f_,a_,mR,f_,a_,e1,a_,cb (by rw[v_];exact bj (pi _ _) hs),a_,a_,Ih,f_,a_];have ee:(!((bP r c r.ms.zipIdx).filter λp=>decide<|p.2∈A).isEmpty)=into r A c:=by
  unfold into
  induction bP r c r.ms.zipIdx with
  | nil=>rfl
  | cons p l ih =>
   rw[zi,PL];by_cases h:p.2∈A
   ·simp[h]
   ·simp![h,Qg,Bool.false_or];exact ih
 rw[ee];unfold turn;split
 ·rw[HG hl,f_,a_]
 ·rfl
theorem xM:A.length<=(turn r A c).length/\(turn r A c).length<=A.length+1:=by
 unfold turn;have e:bA A [c]=if c∈A then A else A++[c]:=rfl;rw[e];split
 ·split
  ·lia
  ·simp
 ·lia
def pass(r:Rl)(F A:Re ?L):Re ?L:=F.foldl (turn r) A
theorem zq{r:Rl}{F:Re ?L}{m:D}{Y8:D×Re ?N×D×Unit->M D}{k:D×Re ?N×D×Unit->M D}(hs:∀c∈F,(bP r c r.ms.zipIdx).length<=1000):∀(l A:Re ?L),(∀c∈l,c∈F)->A.length+l.length<=90000 ->
  cP (λ(TV:D×Re ?N×D×Unit) d23 kn=>fj Y8 TV.1 TV.2.1 TV.2.2.1 d23 kn) (l.map cT) (.dict ?jj,A.map ?jW,m,()) k=k (.dict ?jj,(pass r l A).map ?jW,m,())
 | [],A,_,_=>rfl
 | c::l,A,hc,hl=>by
  rw[eE]at hl;rw[ap,cP];refine(Jb (hc c ?G) (hs c<|hc c ?G) ?A).trans ?_;exact zq hs l (turn r A c) (λx hx=>hc x (by simp[hx])) (by have:=xM (r:=r) (A:=A) (c:=c);lia)
section
theorem yD{x:Re Nat}(h:x∈turn r A c):x∈A\/(x=c/\into r A c=true):=by
 unfold turn at h;split at h
 ·rename_i hi;rcases(dk _ _ _).mp h with h|h
  ·exact .inl h
  ·exact .inr {List.mem_singleton.mp h,hi}
 ·exact .inl h
theorem EA{x:Re Nat}(h:x∈A):x∈turn r A c:=by
 unfold turn;split
 ·exact(dk _ _ _).mpr<|.inl h
 ·exact h
theorem By:∀(l A:Re ?L),(∀c∈l,c∈F)->A.Nodup->(∀c∈A,c∈F)->(∀c∈A,UM r Gs c)->(pass r l A).Nodup/\(∀c∈A,c∈pass r l A)/\(∀c∈pass r l A,c∈F)/\(∀c∈pass r l A,UM r Gs c)/\A.length<=(pass r l A).length/\((pass r l A).length=A.length->pass r l A=A/\∀c∈l,into r A c=true->c∈A)
 | [],A,_,nd,sub,bk=>{nd,λ_ h=>h,sub,bk,ac _,λ_=>{rfl,λ_ h=>nomatch h}}
 | c::l,A,hc,nd,sub,bk=>by
  have nd1:(turn r A c).Nodup:=by
   unfold turn;split
   ·exact gM _ _ nd
   ·exact nd
  let{h1,h2,h3,h4,h5,h6}:=By l (turn r A c) (λx hx=>hc x (by simp[hx])) nd1 (λx hx=>by
   let h||{rfl,_}:=yD hx
   ·exact sub x h
   ·exact hc x ?G) (λx hx=>by
   let h||{rfl,h}:=yD hx
   ·exact bk x h
   ·let{k,c',g,Sy}:=Va.mp h
    exact .step g<|bk c' Sy)
  have ht:=xM (r:=r) (A:=A) (c:=c);refine{h1,λx hx=>h2 x<|EA hx,h3,h4,by show A.length<=(pass r l<|turn r A c).length;lia,λe=>?_};have e:(pass r l<|turn r A c).length=A.length:=e;have e1:turn r A c=A:=by
   have hlen:(turn r A c).length=A.length:=by lia
   unfold turn at hlen ⊢;split
   ·rename_i hi;rw[ar hi]at hlen;have e:bA A [c]=if c∈A then A else A++[c]:=rfl;rw[e]at hlen ⊢;split
    ·rfl
    ·rename_i hn;rw[ax hn]at hlen;simp at hlen
   ·rfl
  let{g1,g2}:=h6<|e.trans (congrArg List.length e1).symm;refine{by show pass r l (turn r A c)=A;rw[g1,e1],λx hx hi=>?_};rw[e1]at g2;let rfl||hx:=List.mem_cons.mp hx
  ·have:x∈turn r A x:=by
    unfold turn;rw[ar hi];exact(dk _ _ _).mpr<|.inr ?G
   rw[e1]at this;exact this
  ·exact g2 x hx hi
theorem NO(m:Int)(n:Nat):dU (.int m) (iN n)=some (decide<|m<(n:Int)):=rfl
end
noncomputable abbrev uD:D×Re ?N×D×Unit->(D×Re ?N×D×Unit->M D)->M D:=λZ2 kn=>db Z2.1 Z2.2.1 Z2.2.2.1 kn
theorem qz(v:Re Nat->D)(ne:F≠[]):vO (.dict ?jg)=some ?qd:=by
 show pP ?jg=_
 cases F with
 | nil=>exact absurd rfl ne
 | cons c F =>
  unfold pP;rw[ap];dsimp only;rw[ar<|d0 c,<-ap,wI]
theorem vW(v:Re Nat->D):∀(Gs A:Re ?L),(A++Gs).Nodup->(A++Gs).length<=90000->j4 true (A.map<|kE v) (Gs.map λc=>.tuple [cT c,v c])=some ((A++Gs).map<|kE v)
 | [],A,_,_=>by rw[ic];rfl
 | c::Gs,A,nd,hl=>by
  have hc:=λh=>(List.nodup_append.mp nd).2.2 c h c ?G rfl
  have hp:=j3 v hc (by rw[R4]at hl;lia);rw[ap,j4,hp];show j4 true ((A++[c]).map<|kE v) _=_;rw[vW v Gs (A++[c]) (by simpa using nd) (by simpa using hl)];simp
theorem D2(ne:F≠[])(hs:∀c∈F,(bP r c r.ms.zipIdx).length<=1000){m:Int}(x_:m<(A.length:Int))(hl:A.length+F.length<=90000)(kn:D×Re ?N×D×Unit->M D) :
  db (.dict ?jj) (A.map ?jW) (.int m) kn=kn (.dict ?jj,(pass r F A).map ?jW,.int (A.length:Int),()):=by
 unfold db;rw[jE,f_,a_,NO,f_,ba x_,qz _ ne,f_,bS];exact zq hs F A (λ_ h=>h) hl
section
variable (ne:F≠[]) (hF:F.length<=900) (hs:∀c∈F,(bP r c r.ms.zipIdx).length<=1000) (UU:∀c∈F,∀k c',Goes r c k c'->c'∈F)
include ne hF hs UU
theorem vw:∀(fuel:Nat) (A:Re ?L) (m:Int),A.Nodup->(∀c∈A,c∈F)->(∀c∈Gs,c∈A)->(∀c∈A,UM r Gs c)->m<=(A.length:Int)->(m=(A.length:Int)->∀c∈F,into r A c=true->c∈A)->F.length+(if m<(A.length:Int)then 1 else 0)<fuel+A.length ->
  ∃A':Re ?L,bO uD fuel (.dict ?jj,A.map ?jW,.int m,())=.ret (.dict<|A'.map ?jW)/\∀c,c∈A'↔c∈F/\UM r Gs c
 | 0,A,m,nd,sub,_,_,_,_,hf=>by
  have:=cy nd sub;lia
 | fuel+1,A,m,nd,sub,g0,bk,hm,cl,hf=>by
  have hle:=cy nd sub;rw[bO];by_cases x_:m<(A.length)
  ·have e':uD (.dict ?jj,A.map ?jW,.int m,()) (λs'=>bO uD fuel s')=bO uD fuel (.dict ?jj,(pass r F A).map ?jW,.int (A.length),()):=D2 ne hs x_ ?A _;rw[e'];let{p1,p2,p3,p4,p5,p6}:=By    F A (λ_ h=>h) nd sub bk;refine vw fuel (pass r F A) (A.length) p1 p3 (λc h=>p2 c<|g0 c h) p4 ?A (λe=>?_) ?_
   ·let{q1,q2}:=p6 ?A;rw[q1];exact q2
   ·split
    ·lia
    ·lia
  ·have e':uD (.dict ?jj,A.map ?jW,.int m,()) (λs'=>bO uD fuel s')=.ret (.dict<|A.map ?jW):=by
    show db _ _ _ _=_;unfold db;rw[jE,f_,a_,NO,f_,bi x_];rfl
   rw[e'];have cl:=cl ?S;refine{A,rfl,λc=>{λhc=>{sub c hc,bk c hc},λ⟨h1,h2⟩=>?_}};have go:∀c,UM r Gs c->c∈F->c∈A:=by
    intro c h
    induction h with
    | goal h=>intro _;exact g0 _ h
    | @step c c' k g b ih =>
     intro hc;exact cl c hc<|Va.mpr {k,c',g,ih<|UU c hc k c' g}
   exact go c h2 h1
theorem Co(sub:∀c∈Gs,c∈F)(nd:Gs.Nodup):∃A:Re ?L,gf (.dict ?jj) (.list<|Gs.map cT)=.ret (.dict<|A.map ?jW)/\∀c,c∈A↔c∈F/\UM r Gs c:=by
 have hl:=cy nd sub;unfold gf;have e1:aZ (λd1=>M.ret<|some<|.tuple [d1,(.bool true)]) (Gs.map cT)=.ret (Gs.map λc=>.tuple [cT c,.bool true]):=dz   Gs λ_ _=>rfl
 have e2:zf true (.list<|Gs.map λc=>.tuple [cT c,.bool true])=some (Gs.map ?jW):=vW vT Gs [] ((nd)) ?Y;rw[mR,f_,a_,e1,a_,cb ?Y,a_,a_,e2,f_,show Fs (.int 1)=some (.int<|-1)from rfl,f_,fD];exact vw ne hF hs UU 10000 Gs (-1) nd sub (λ_ h=>h) (λc h=>.goal h) ?A (λe=>by lia) (by split<;>lia)
end
inductive UL(r:Rl)(P:Re Nat->Prop):Re Nat->Prop
 | goal {c:Re Nat}:P c->UL r P c
 | step {c c':Re Nat} {k:Nat}:Goes r c k c'->UL r P c'->UL r P c
theorem w5{P:Re Nat->Prop}(h:∀c,c∈Gs↔P c)(c:Re Nat):UM r Gs c↔UL r P c:=by
 constructor
 ·intro b
  induction b with
  | goal q=>exact .goal<|(h _).mp q
  | step g _ ih=>exact .step g ih
 ·intro b
  induction b with
  | goal q=>exact .goal<|(h _).mpr q
  | step g _ ih=>exact .step g ih
def nq(r:Rl)(W:D)(c:Re Nat):Bool:=(cW (sd r c) W).getD false
abbrev wd(t:Bool):D:=.str<|if t then "yes" else "no"
theorem J5(r:Rl)(t:Bool)(c:Re Nat):cW (sd r c) (wd t)=some (nq r (wd t) c):=by
 unfold nq;have h:=EJ r c;generalize sd r c=x at h ⊢;let rfl||rfl||rfl:=h<;>cases t<;>decide +kernel
def Lst(r:Rl)(U:Re Nat->Prop)(W:D)(c:Re Nat):Prop:=U c/\¬ UL r (λc'=>U c'/\¬ UL r (λx=>U x/\nq r W x=true) c') c
theorem B0{f:D->M D}{W:D}{h:Re Nat->Bool}(hl:F.length<=900)(e:∀c∈F,(bd (f ?jG) λx4=>oM<|cW x4 W)=.ret (h c)):(bd (aZ (λd3=>bd (bd (f d3) λx4=>oM<|cW x4 W) λb5=>if b5 then .ret (some d3)else .ret none) ?qd) cq)=.ret ((F.filter h).map cT):=by
 rw[dF  (g:=λc=>if h c then some ?jG else none) F λc hc=>by
  rw[e c hc,a_]
  split<;>rfl,a_]
 have e2:(F.filterMap λc=>if h c=true then some ?jG else none)=(F.filter h).map cT:=by
  clear e hl
  induction F with
  | nil=>rfl
  | cons c F ih =>
   by_cases q:h c=true
   ·simp  [q,yp,ap];rw[ih]
   ·simp  [q];exact ih
 rw[e2,cb (by rw[v_];exact bj (pi _ _) ?A)]
theorem nE{v:Re Nat->D}(hl:F.length<=900):(bd (aZ (λd4=>bd (oM<|bB d4<|.dict<|A.map<|kE v) λb5=>if b5 then .ret (some d4)else .ret none) ?qd) cq)=.ret ((F.filter λc=>!decide (c∈A)).map cT):=by
 rw[dF  (g:=λc=>if(!decide (c∈A))then some ?jG else none) F λc hc=>by
  rw[gW,f_,a_]
  split<;>rfl,a_]
 have e2:(F.filterMap λc=>if(!decide (c∈A))=true then some ?jG else none)=(F.filter λc=>!decide (c∈A)).map cT:=by
  clear hl
  induction F with
  | nil=>rfl
  | cons c F ih =>
   rw[si,zi];by_cases q:(!decide (c∈A))=true
   ·simp![q,yp,ap];rw[ih]
   ·simp![q];exact ih
 rw[e2,cb (by rw[v_];exact bj (pi _ _) ?A)]
theorem yH{A1 A2:Re ?L}{W:D}{U:Re Nat->Prop}(hU:∀c,c∈F↔U c)(h1:∀c,c∈A1↔c∈F/\UM r (F.filter<|nq r W) c)(h2:∀c,c∈A2↔c∈F/\UM r (F.filter λc=>!decide (c∈A1)) c)(c:Re Nat):c∈(F.filter λc=>!decide (c∈A2))↔Lst r U W c:=by
 have b1:∀c,UM r (F.filter<|nq r W) c↔UL r (λx=>U x/\nq r W x=true) c:=λc=>w5 (λx=>by rw[Qd,hU]) c
 have b2:∀c,UM r (F.filter λc=>!decide (c∈A1)) c↔UL r (λc'=>U c'/\¬ UL r (λx=>U x/\nq r W x=true) c') c:=λc=>w5 (λx=>by
  rw[Qd,ye,lu,h1,hU,b1];constructor
  ·rintro⟨p,q⟩;exact{p,λz=>q {p,z}}
  ·rintro⟨p,q⟩
   exact{p,λz=>q z.2}) c
 rw[Qd,ye,lu,h2,hU,b2];constructor
 ·rintro⟨p,q⟩;exact{p,λz=>q {p,z}}
 ·rintro⟨p,q⟩;exact{p,λz=>q z.2}
theorem yZ(c:Re Nat):∀(xs:Re ?L) (g:Re Nat->Re ?L) (y:Re Nat),(xs.foldl (jq c) g y).length<=(g y).length+xs.length
 | [],g,y=>by simp
 | x::xs,g,y=>by
  rw[io,eE];have h1:=yZ c xs (jq c g x) y;have h2:=yI c g x y;lia
theorem yX{r:Rl}{N:Nat}:∀(F:Re ?L) (g:Re Nat->Re ?L) (y:Re Nat),(∀c∈F,(bW r c).length<=N)->(F.foldl (nL r) g y).length<=(g y).length+N*F.length
 | [],g,y,_=>by simp
 | c::F,g,y,h=>by
  rw[io,eE];have h1:=yX F (nL r g c) y λx hx=>h x (by simp[hx])
  have h2:=yZ c ((bW r c).map (·.2)) g y;have h3:=h c ?G;rw[v_]at h2;unfold nL at h1 ⊢;lia
section
variable (w:Wf r) (hn:r.n<=5) (hm:r.ms.length<=90) (ne:F≠[]) (nd:F.Nodup) (hF:F.length<=900) (fit:∀c∈F,c.length=r.n) (UU:∀c∈F,∀k c',Goes r c k c'->c'∈F) {U:Re Nat->Prop} (hU:∀c,c∈F↔U c)
include w hn hm ne nd hF fit UU hU
theorem sj:(∀c∈F,(bW r c).length<=60)/\∀y∈F,(fy r F y).length<=60000:=by
 have h25:∀c∈F,(bW r c).length<=60:=λc hc=>by
  have:=Dm r c;rw[fit c hc]at this;have h5:=Nat.mul_le_mul hn hn;lia
 refine{h25,λy _=>?_};have:=yX   F (λ_=>[]) y h25;unfold fy;simp  [PN]at this;lia
theorem vx(t:Bool):f6 r.d (.dict<|F.map ?jw) (.bool t)=.ret (.list<|(F.filter<|nq r<|wd t).map cT):=by
 unfold f6;have f0:=B0  (f:=λd=>o9 r.d d) (W:=wd t)  hF λc hc=>by
  rw[(EK w (fit c hc) ?A).1,a_,J5,f_]
 have hw:(bd (oM<|fF<|.bool t) λb1=>if b1 then(.ret<|.str "yes")else .ret (.str "no"))=.ret (wd t):=by cases t<;>rfl
 rw[hw,a_,qz _ ne,f_,a_,f0,a_,a_]
theorem zr:fM (.dict<|F.map ?jw)=.ret (.dict ?W) :=
 GP ne nd hF (λc hc p hp=>UU c hc p.1 p.2<|(eM w<|fit c hc).mp hp) (sj w hn hm ne nd hF fit UU hU).1
theorem sM(t:Bool):∃(A:Re ?L) (v:Re Nat->Nat),eI (.dict ?W) (.list<|(F.filter<|nq r<|wd t).map cT)=.ret (.dict<|A.map ?jY)/\(∀c,c∈A↔c∈F/\UM r (F.filter<|nq r<|wd t) c)/\Rk r (F.filter<|nq r<|wd t) A v :=
 Gr w fit hF (sj w hn hm ne nd hF fit UU hU).2 UU  (λc hc=>(List.mem_filter.mp hc).1)<|(List.filter_sublist).nodup nd
theorem Iq(t:Bool):∃L:Re ?L,lw r.d (.dict<|F.map ?jw) (.bool t)=.ret (.list ?j1)/\L.Nodup/\∀c,c∈L↔Lst r U (wd t) c:=by
 let{A1,v1,e1,m1,_}:=sM w hn hm ne nd hF fit UU hU t;have ndf:∀p ,(F.filter p).Nodup:=λp=>(List.filter_sublist).nodup nd
 let{A2,v2,e2,m2,_}:=Gr w fit hF (sj w hn hm ne nd hF fit UU hU).2 UU  (λc hc=>(List.mem_filter.mp hc).1)<|ndf _;refine{F.filter λc=>!decide (c∈A2),?_,ndf _,yH hU m1 m2};unfold lw;rw[zr w hn hm ne nd hF fit UU hU,a_,vx w hn hm ne nd hF fit UU hU,a_,e1,a_,qz _ ne,f_,a_,nE hF,a_,a_,e2,a_];rw[a_,nE hF,a_,a_]
end
inductive YB(r:Rl):Re Nat->Re Nat->Re Nat->Prop
 | nil (c:Re Nat):YB r c [] c
 | cons {c c1 c':Re Nat} {k:Nat} {ks:Re Nat}:Goes r c k c1->YB r c1 ks c'->YB r c (k::ks) c'
theorem YB.snoc{c1:Re Nat}{k:Nat}(h:YB r c ks c1)(g:Goes r c1 k c'):YB r c (ks++[k]) c':=by
 induction h with
 | nil c=>exact .cons g<|.nil _
 | cons a _ ih=>exact .cons a<|ih g
inductive Bk(r:Rl)(v:Re Nat->D)(c0:Re Nat)(F:Re ?L):Re Nat->Re ?jv->Prop
 | nil:v c0=.none->Bk r v c0 F c0 []
 | snoc {h c:Re Nat} {k:Nat} {ps:Re (Nat×Re Nat)}:Bk r v c0 F h ps->h∈F->Goes r h k c->v c=.tuple [cT h,ld (k,c)]->Bk r v c0 F c (ps++[(k,c)])
theorem Bk.mono{v v':Re Nat->D}{F':Re ?L}(hv:∀x∈F,v' x=v x)(hF:∀x∈F,x∈F')(b:Bk r v c0 F c ps):c∈F->Bk r v' c0 F' c ps:=by
 induction b with
 | nil e=>exact λhc=>.nil<|(hv _ hc).trans e
 | snoc b hh g e ih=>exact λhc=>.snoc (ih hh) (hF _ hh) g<|(hv _ hc).trans e
theorem Bk.pth{v:Re Nat->D}(b:Bk r v c0 F c ps):YB r c0 (ps.map (·.1)) c:=by
 induction b with
 | nil e=>exact .nil _
 | snoc b hh g e ih=>rw[eg];exact ih.snoc g
noncomputable abbrev MV:D×Re D×D×Unit->(D×Re D×D×Unit->M D)->M D:=λZ4 kn=>eQ Z4.1 Z4.2.1 Z4.2.2.1 kn
theorem KG{v:Re Nat->D}(b:Bk r v c0 F c ps):∀(acc:Re ?jv) (fuel:Nat),ps.length<fuel->acc.length+ps.length<=90000 ->
  bO MV fuel (.dict ?jg,acc.map ld,v c,())=.ret (.list<|ps.map ld++acc.reverse.map ld):=by
 induction b with
 | nil e =>
  intro acc fuel hf hl;obtain⟨fuel,rfl⟩:∃n,fuel=n+1:={fuel - 1,by lia};rw[e];show eQ _ (acc.map ld) .none _=_;unfold eQ;unfold pX;rw[show B9 [.list (acc.map ld)]=some (acc.map ld).reverse from rfl,f_,a_,<-List.map_reverse];rfl
 | @snoc h c k ps b hh g e ih =>
  intro acc fuel hf hl;rw[R4,sk]at hf hl;obtain⟨fuel,rfl⟩:∃n,fuel=n+1:={fuel - 1,by lia};have:=ih (acc++[(k,c)]) fuel ?A (by rw[R4,sk];lia);rw[e];show eQ (.dict ?jg) (acc.map ld) (.tuple [cT h,ld (k,c)]) _=_;unfold eQ;have i1:aF (.tuple [cT h,ld (k,c)]) (.int 1)=some (ld (k,c)):=rfl;have i0:aF (.tuple [cT h,ld (k,c)]) (.int 0)=some (cT h):=rfl;rw[show gU (.tuple [cT h,ld (k,c)]) .none=some true from rfl,f_,a_,i1,f_,a_,kN _ _ ?jU,f_,a_,i0,f_,a_,lK v hh,f_];rw[eg]at this;refine Eq.trans this ?_;simp
theorem ER{v:Re Nat->D}(b:Bk r v c0 F c ps)(hc:c∈F)(hl:ps.length<=900):nS (.dict ?jg) ?jG=.ret (.list ?qR):=by
 unfold nS;rw[lK v hc,f_,a_,fD];have:=KG b [] 10000 ?A ?Y;simpa using this
def Good(r:Rl)(c0:Re Nat)(F:Re ?L)(v:Re Nat->D):Prop:=F.Nodup/\c0∈F/\∀c∈F,∃ps,Bk r v c0 F c ps/\ps.length<F.length
theorem Good.add{v:Re Nat->D}{h:Re Nat}{k:Nat}(q:Good r c0 F v)(hh:h∈F)(g:Goes r h k c)(hc:c∉F):Good r c0 (F++[c]) (λx=>if x=c then .tuple [cT h,ld (k,c)]else v x)/\F.map (kE v)=F.map (kE λx=>if x=c then .tuple [cT h,ld (k,c)]else v x):=by
 let{nd,h0,al}:=q;have ag:∀x∈F,(if x=c then PyData.tuple [cT h,ld (k,c)]else v x)=v x:=λx hx=>ax λ(z:x=c)=>hc<|z▸hx
 have mono:∀x∈F,∀ps,Bk r v c0 F x ps->Bk r (λx=>if x=c then .tuple [cT h,ld (k,c)]else v x) c0 (F++[c]) x ps:=λx hx ps b=>b.mono ag (λy hy=>UY _ hy) hx
 refine{{?_,UY _ h0,λx hx=>?_},?_}
 ·rw[PZ];exact{nd,by simp,λa ha b hb=>by rw[List.mem_singleton.mp hb];exact λz=>hc<|z▸ha}
 ·rw[R4,sk];let hx||hx:=List.mem_append.mp hx
  ·let{ps,b,l}:=al x hx;exact{ps,mono x hx ps b,by lia}
  ·rw[List.mem_singleton.mp hx];let{ps,b,l}:=al h hh;exact{ps++[(k,c)],.snoc (mono h hh ps b) (UY _ hh) g<|ar rfl,by rw[R4,sk];lia}
 ·refine gi λx hx=>?_
  show(cT x,v x)=(cT x,if x=c then _ else v x);rw[ag x hx]
section
variable (w:Wf r) (Uh:c0.length=r.n) {Rs:Re ?L} (mem:∀c,c∈Rs↔So r c0 c) (hB:Rs.length<=900)
include w Uh mem hB
theorem He{R:M D->Prop}{v:Re Nat->D}{h:Re Nat}(q:Good r c0 F v)(sub:∀c∈F,c∈Rs)(hh:h∈F)(L G i:D)(kn3:D×D×Re ?N×Re D×D×Unit->M D)(k:D×D×Re ?N×Re D×D×D×Unit->M D)
  (hk:∀F' v',Good r c0 F' v'->(∃E,F'=F++E)->(∀c∈F',c∈Rs)->(∀p∈bW r h,p.2∈F')->R (k (L,G,F'.map (kE v'),F'.map cT,i,cT h,()))) :
  R (cO (λT_ d18 kn=>kq kn3 T_.1 T_.2.1 T_.2.2.1 T_.2.2.2.1 T_.2.2.2.2.1 T_.2.2.2.2.2.1 d18 kn) ((bW r h).map ld) (L,G,F.map (kE v),F.map cT,i,cT h,()) k):=by
 have hhl:=(((mem h).mp<|sub h hh).fit w Uh).1;refine lh  (P:=λj s=>∃F' v',s=(L,G,F'.map (kE v'),F'.map cT,i,cT h,())/\Good r c0 F' v'/\(∃E,F'=F++E)/\(∀c∈F',c∈Rs)/\(∀p∈(bW r h).take j,p.2∈F')) _ _ ?_ {F,v,rfl,q,{[],(ic _).symm},sub,λp hp=>by simp at hp} ?_
 ·rintro j s d hd ⟨F',v',rfl,q',⟨E,hE⟩,Um,Ws⟩ kn UP;rw[je]at hd;let{p,hp,rfl}:=Option.map_eq_some_iff.mp hd;have pm:=pI hp;have g:=(eM w hhl).mp pm;have tk:(bW r h).take (j+1)=(bW r h).take j++[p]:=by
   rw[List.take_add_one,hp];rfl
  have hle:=cy q'.1 Um;unfold kq;rw[ld1,f_,a_,gW,f_,a_];by_cases VI:p.2∈F'
  ·rw[ba VI];refine UP _ {F',v',rfl,q',{E,hE},Um,λx hx=>?_};rw[tk]at hx;let hx||hx:=List.mem_append.mp hx
   ·exact Ws x hx
   ·rw[List.mem_singleton.mp hx];exact VI
  ·let{q2,e2}:=q'.add    (by rw[hE];exact UY _ hh) g VI;have pt:=j3 (λx=>if x=p.2 then .tuple [cT h,ld p]else v' x) VI ?A;rw[ar rfl]at pt;rw[bi VI,a_,e2,pt,f_,a_,a_,kN _ _ ?jU,f_];have:=UP (L,G,(F'++[p.2]).map (kE λx=>if x=p.2 then .tuple [cT h,ld p]else v' x),(F'++[p.2]).map cT,i,cT h,()) {F'++[p.2],_,rfl,q2,{E++[p.2],by rw[hE,List.append_assoc]},λx hx=>?_,λx hx=>?_}
   ·rw[eg (f:=cT)]at this;exact this
   ·let hx||hx:=List.mem_append.mp hx
    ·exact Um x hx
    ·rw[List.mem_singleton.mp hx];exact(mem _).mpr<|.step ((mem h).mp<|sub h hh) g
   ·rw[tk]at hx;let hx||hx:=List.mem_append.mp hx
    ·exact UY _<|Ws x hx
    ·rw[List.mem_singleton.mp hx];simp
 ·rintro s ⟨F',v',rfl,q',hE,Um,Ws⟩;rw[v_,List.take_length]at Ws;exact hk F' v' q' hE Um Ws
def AX(r:Rl)(c0 goal:Re Nat)(m:M D):Prop:=∃ps:Re ?jv,m=.ret (.list ?qR)/\YB r c0 (ps.map (·.1)) goal/\ps.length<=900
noncomputable abbrev Jx:D×D×Re ?N×Re D×D×Unit->(D×D×Re ?N×Re D×D×Unit->M D)->M D:=λU4 kn=>iB U4.1 U4.2.1 U4.2.2.1 U4.2.2.2.1 U4.2.2.2.2.1 kn
theorem Ed{F0:Re ?L}(h0:∀c,c∈F0↔c∈Rs){goal:Re Nat}(hg:So r c0 goal):∀(fuel i:Nat) (F:Re ?L) (v:Re Nat->D),Good r c0 F v->(∀c∈F,c∈Rs)->i<=F.length ->
  (∀(j:Nat) (h:j<F.length),j<i->F[j]≠goal/\∀k c,Goes r F[j] k c->c∈F)->Rs.length<fuel+i ->
  AX r c0 goal (bO Jx fuel (.dict (F0.map ?jw),.dict ([goal].map ?jW),F.map (kE v),F.map cT,iN i,()))
 | 0,i,F,v,q,sub,hi,_,hf=>by
  have:=cy q.1 sub;lia
 | fuel+1,i,F,v,q,sub,hi,cl,hf=>by
  have hle:=cy q.1 sub;have x_:i<F.length:=by
   let h||h:=Nat.lt_or_ge i F.length
   ·exact h
   ·have all:∀c,So r c0 c->c∈F:=λc hc=>by
     induction hc with
     | refl=>exact q.2.1
     | step _ g ih =>
      let{j,hj,e}:=oR ih;exact(cl j hj ?A).2 _ _<|e▸g
    let{j,hj,e}:=oR<|all goal hg;exact absurd e (cl j hj ?A).1
  have ix:aF (.list ?qd) (iN i)=some (cT F[i]):=by
   rw[lL,(sG cT F i x_)]
  show AX r c0 goal<|iB _ _ ?jg ?qd (iN i) λs'=>bO Jx fuel s';unfold iB;rw[ix,f_,a_,gW vT,f_,a_];by_cases hgo:F[i]=goal
  ·rw[ba (by rw[hgo];exact List.mem_singleton.mpr rfl),ax ?C];unfold pW;let{ps,b,l}:=q.2.2 F[i]<|gh x_;rw[ix,f_,a_,ER b (gh x_) ?A];exact{ps,rfl,hgo▸b.pth,by lia}
  ·have VI:=(h0 _).mpr<|sub _<|gh x_;rw[bi λz=>hgo<|List.mem_singleton.mp z,a_,lK (vL r) VI,f_,a_,show cH (vL r F[i])=some ((bW r F[i]).map ld)from rfl,f_];refine He w Uh mem hB q sub (gh x_) _ _ _ _ _ λF' v' q' hE Um Ws=>?_
   let{E,hE}:=hE;have hfl:=(((mem _).mp<|sub _<|gh x_).fit w Uh).1;refine Ed h0 hg fuel ?qc F' v' q' Um (by rw[hE,R4];lia) (λj h hji=>?_) ?A;have at':∀(h':j<F.length),F'[j]=F[j]:=λh'=>by
    simp  [hE];exact List.getElem_append_left h'
   let lt||ge:=Nat.lt_or_ge j i
   ·rw[at' ?A];refine{(cl j ?A lt).1,λk c g=>?_};rw[hE];exact UY _<|(cl j ?A lt).2 k c g
   ·have:j=i:=by lia
    subst this;rw[at' x_];exact{hgo,λk c g=>Ws (k,c)<|(eM w hfl).mpr g}
theorem Ee{F0:Re ?L}(h0:∀c,c∈F0↔c∈Rs){goal:Re Nat}(hg:So r c0 goal):AX r c0 goal (nR (.dict<|F0.map ?jw) (cT c0)<|.dict [(cT goal,.bool true)]):=by
 unfold nR jj;rw[d0];rw[fD];refine Ed w Uh mem hB h0 hg 10000 0 [c0] (λ_=>.none) {by simp,List.mem_singleton.mpr rfl,λc hc=>?_} (λc hc=>?_) ?X (λj h z=>absurd z<|Nat.not_lt_zero _) ?A
 ·rw[List.mem_singleton.mp hc];exact{[],.nil rfl,by simp}
 ·rw[List.mem_singleton.mp hc];exact(mem _).mpr .refl
end
structure Gv(r:Rl)(cs:Re Nat):Prop where
 w:Wf r
 sm:Sml r
 Yq:r.ms.length<=30
 s1:1<=r.st.length
 s4:r.st.length<=4
 len:cs.length=r.st.length
 pos:1<=cs.sum
 Yx:cs.sum<=4
structure Rc(r:Rl)(cs:Re Nat)(F:Re ?L):Prop where
 nd:F.Nodup
 mem:∀c,c∈F↔So r ?qI c
 len:F.length<=63
 all:eJ r.d (cT ?qI)=.ret (.dict ?jj)
theorem Sml.n5(h:Sml r):r.n<=5:=by
 let h||{y,_,h,_}:=h<;>lia
theorem Gv.reach(V:Gv r cs):∃F,Rc r cs F:=by
 have w:=V.w;have n5:=V.sm.n5;have hs:=GN w cs V.len;have h4:=V.Yx;have bound:∀F:Re ?L,F.Nodup->(∀x∈F,x.length=r.n/\x.sum=(bg r cs).sum)->F.length<=126:=λF nd hF =>
  bj (cy nd  λx hx=>jn _ _ x (hF x hx).1 (hF x hx).2)<|Mj r.n ?A _ ?A
 let{F,nd,mem,hl,e2}:=Mx w (by have:=V.Yq;lia) (mJ r cs) 126 ?A bound;exact{F,nd,mem,Ao w V.sm (mJ r cs) ?A nd λc hc=>(mem c).mp hc,e2}
theorem mr{x:Nat}:∀{c:Re Nat},x∈c->x<=c.sum
 | a::c,h=>by
  rw[P7];let rfl||h:=List.mem_cons.mp h
  ·lia
  ·have:=mr h;lia
theorem Kf(c:Re Nat)(x:Nat):fl c x<=c.sum:=by
 unfold fl;rw[fu]
 cases e:c[x]? with
 | none=>exact ai _
 | some y=>exact mr<|pI e
structure Fc(r:Rl)(c0:Re Nat)(F:Re ?L):Prop where
 ne:F≠[]
 nd:F.Nodup
 len:F.length<=63
 fit:∀c∈F,c.length=r.n
 cl:∀c∈F,∀k c',Goes r c k c'->c'∈F
 mem:∀c,c∈F↔So r c0 c
theorem Gv.fc(V:Gv r cs)(nd:F.Nodup)(len:F.length<=63)(mem:∀c,c∈F↔So r ?qI c):Fc r ?qI F where
 ne:=λz=>by
  have:=(mem ?qI).mpr .refl;rw[z]at this
  cases this
 nd:=nd
 len:=len
 fit:=λc hc=>(((mem c).mp hc).fit V.w<|mJ r cs).1
 cl:=λc hc k c' g=>(mem c').mpr<|.step ((mem c).mp hc) g
 mem:=mem
abbrev xH(r:Rl)(q:Qs)(cs c:Re Nat):Prop:=Lst r (So r ?qI) (wd<|q.tr cs) c
theorem A3(t:Bool):(bd (bd (M.ret<|.bool t) λx3=>oM<|mE [x3]) λx4=>oM<|aF (PyData.list [(.str "no"),(.str "yes")]) x4)=.ret (wd t):=by cases t<;>rfl
section
variable (V:Gv r cs) {q:Qs} (hq:q.ok r.st.length 1)
include V
theorem nH:cR r.d (cT cs)=.ret (cT ?qI):=yK V.w cs V.len (by have:=V.s4;have:=V.len;lia) (by have:=V.sm.n5;lia)
include hq
theorem yJ:dn 8 q.d (cT cs)=.ret (.bool<|q.tr cs):=pO V.len (λx=>by have:=Kf cs x;have:=V.Yx;lia) 8 1 q hq ?C
variable (C:Rc r cs F)
include C
theorem sA:∃L:Re ?L,f9 r.d q.d (cT cs)=.ret (.list ?j1)/\∀c,c∈L↔xH r q cs c:=by
 have w:=V.w;have n5:=V.sm.n5;have hl:=C.len;have K:=V.fc C.nd C.len C.mem;have hs:∀c∈F,(bP r c r.ms.zipIdx).length<=1000:=λc _=>by
  have:=jb r c r.ms.zipIdx;rw[ua]at this;have:=V.Yq;lia
 have ndf:∀p ,(F.filter p).Nodup:=λp=>(List.filter_sublist).nodup C.nd
 let{A1,e1,m1}:=Co K.ne ?A hs K.cl  (λc hc=>(List.mem_filter.mp hc).1)<|ndf _;let{A2,e2,m2}:=Co K.ne ?A hs K.cl  (λc hc=>(List.mem_filter.mp hc).1)<|ndf _;refine{F.filter λc=>!decide (c∈A2),?_,yH C.mem m1 m2};have f0:=B0 (F:=F) (f:=λd=>dI r.d d) (W:=wd (q.tr cs))  ?A λc hc=>by
  rw[(EK w (K.fit c hc) ?A).2,a_,J5,f_]
 unfold f9;rw[nH V,a_,C.all,a_,yJ V hq,A3,a_,qz _ K.ne,f_,a_,f0,a_,a_,e1,a_];rw[a_,nE ?A,a_,a_,e2,a_,a_,nE ?A,a_,a_]
end
abbrev ky(l:Re Nat):Re Int:=l.map λx:Nat=>(x:Int)
theorem nJ:∀p:Re Nat,intsOf (p.map iN)=some (ky p)
 | []=>rfl
 | a::p=>by
  show(match intsOf (p.map iN)with|some l=>some<|(a:Int)::l|none=>none)=_;rw[nJ p];rfl
theorem F7(c:Re Nat):L4.s_ ?jG=ky c:=by
 show(intsOf<|c.map iN).getD []=_;rw[nJ];rfl
theorem FV{a b:Re Nat}(h:ky a=ky b):a=b:=(List.map_inj_right λx y (h)=>by lia).mp h
theorem qy(ne:∀c∈L,c≠[])(hl:L.length<=63)(nd:L.Nodup):∃S:Re ?L,pS [.list ?j1]=some (S.map cT)/\S.Perm L/\S.Pairwise λa b=>HT.lexLt (ky a) (ky b)=true:=by
 have ok:eF ?j1=true:=by
  unfold eF;rw[am,v_,gs];refine{by lia,.inr<|List.all_eq_true.mpr λd hd=>?_};let{c,hc,rfl}:=List.mem_map.mp hd;show(match intsOf (c.map iN)with|some (_::_)=>true|_=>false)=true;rw[nJ]
  cases c with
  | nil=>exact absurd rfl<|ne _ hc
  | cons a c=>rfl
 let{S,p,e}:=yb<|ju ?j1;refine{S,?_,p,?_}
 ·show(if eF ?j1 then some (mQ ?j1)else none)=_;rw[ar ok,e]
 ·have hs:=mP ?j1;rw[<-e,Qp]at hs;refine(hs.and<|p.nodup_iff.mpr nd).imp λ{a b} ⟨h1,h2⟩=>?_
  unfold WX at h1;rw[ye,F7,F7]at h1
  cases h:HT.lexLt (ky a) (ky b)with
  | true=>rfl
  | false=>exact absurd (FV<|oW h h1) h2
abbrev Ua(v:Re Nat->Nat)(c:Re Nat):D:=.tuple [cT c,iN (v c)]
abbrev pap(cs ks:Re Nat)(L:Re ?L)(v:Re Nat->Nat):D:=.tuple [cT cs,cT ks,.tuple ?jP]
structure Pap(r:Rl)(q:Qs)(cs ks:Re Nat)(L:Re ?L)(v:Re Nat->Nat):Prop where
 go:∃c∈L,YB r ?qI ks c
 kl:ks.length<=900
 ll:L.length<=63
 so:L.Pairwise λa b=>HT.lexLt (ky a) (ky b)=true
 rc:∀c∈L,So r ?qI c
 cl:∀c∈L,∀k c',Goes r c k c'->c'∈L
 n0:∀c∈L,v c=0->nq r (wd<|q.tr cs) c=true
 s:∀c∈L,0<v c->∃k c',Goes r c k c'/\v c'<v c
theorem Pe(ps:Re ?jv):aZ (λd5=>bd (oM<|aF d5<|.int 0) λx6=>M.ret<|some x6) ?qR=.ret ((ps.map (·.1)).map iN):=by
 rw[dz   ps λp _=>rfl,eT];rfl
theorem Lst.next{W:D}{k:Nat}(h:Lst r (So r c0) W c)(g:Goes r c k c'):Lst r (So r c0) W c':={.step h.1 g,λz=>h.2<|.step g z}
def AY(r:Rl)(q:Qs)(cs:Re Nat)(m:M D):Prop:=((∀c,¬ xH r q cs c)/\m=.ret .none)\/((∃c,xH r q cs c)/\∃ks L v,m=.ret (pap cs ks L v)/\Pap r q cs ks L v)
section
variable (V:Gv r cs) (C:Rc r cs F) {q:Qs} (hq:q.ok r.st.length 1)
include V C hq
theorem sP(limit:Nat):(limit<F.length/\dH r.d q.d (cT cs) (iN limit)=.exc jt)\/(F.length<=limit/\AY r q cs (dH r.d q.d (cT cs)<|iN limit)):=by
 have w:=V.w;have n1:=w.n1;have n5:=V.sm.n5;have Yq:=V.Yq;have hl:=C.len;unfold dH;rw[GO w cs ?A,a_];let{h1,F',pm,e}||{h1,e}:=II w ?A ?A (mJ r cs) C.nd C.mem ?A limit
 ·refine .inr {h1,?_};have Ur:∀c,c∈F'↔So r ?qI c:=λc=>by rw[pm.mem_iff,C.mem]
  have K:=V.fc (pm.symm.nodup C.nd) (by rw[pm.length_eq];lia) Ur;have hF:=K.len;let{L',e2,nd2,m2}:=Iq w n5 ?A K.ne K.nd ?A K.fit K.cl Ur<|q.tr cs;rw[e,a_,yR V.len (λx=>by have:=Kf cs x;have:=V.Yx;lia) 8 1 q hq ?C,a_,e2,a_];rw[show dE [.list (L'.map cT)]=some (iN L'.length)from by rw[L4.V3,v_],f_,a_,show bx (iN L'.length) (.int 0)=_ from Yl L'.length 0,f_,a_]
  cases L' with
  | nil=>exact .inl {λc hc=>(by have:=(m2 c).mpr hc;cases this),by rw[ar ?G]}
  | cons c1 L1 =>
   have sub:∀c∈c1::L1,c∈F':=λc hc=>(Ur c).mpr ((m2 c).mp hc).1
   have hL:(c1::L1).length<=63:=bj (cy nd2 sub) hF;let{ps,e3,pth,pl}:=Ee w (mJ r cs) Ur ?A (F0:=F') (λ_=>Iff.rfl) ((m2 c1).mp ?G).1;let{A,v,e4,mA,rk}:=sM w n5 ?A K.ne K.nd ?A K.fit K.cl Ur<|q.tr cs;let{S,e5,p5,so}:=qy (L:=c1::L1) (λc hc z=>by have:=K.fit c<|sub c hc;rw[z]at this;simp at this;lia) hL nd2;have mS:∀c,c∈S↔xH r q cs c:=λc=>by rw[p5.mem_iff,m2]
   have inA:∀c∈S,c∈A:=λc hc=>(mA c).mpr {(Ur c).mpr ((mS c).mp hc).1,(w5 (λx=>by rw[Qd,Ur]) c).mpr<|Classical.byContradiction λz=>((mS c).mp hc).2<|.goal {((mS c).mp hc).1,z}}
   have lS:S.length<=63:=by rw[p5.length_eq];exact hL
   refine .inr {{c1,(m2 c1).mp ?G},ps.map (·.1),S,v,?_,{c1,p5.mem_iff.mpr ?G,pth},by simpa using pl,lS,so,λc hc=>((mS c).mp hc).1,λc hc k c' g=>(mS c').mpr<|((mS c).mp hc).next g,λc hc z=>?_,λc hc z=>?_}
   ·have ix:aF (.list<|(c1::L1).map cT) (.int 0)=some (cT c1):=by rw[lL,show fJ (.list<|(c1::L1).map cT) (.int 0)=_ from sG cT (c1::L1) 0 ?G];rfl
    have ok:jj (cT c1) (M.ret<|PyData.dict [(cT c1,.bool true)])=.ret (.dict [(cT c1,.bool true)]):=by unfold jj;rw[d0]
    have cm:aZ (λd20=>bd (bd (oM<|aF (.dict<|A.map ?jY) d20) λVR=>.ret<|.tuple [d20,VR]) λU0=>.ret<|some U0) (S.map cT)=.ret (S.map<|Ua v):=dz   S λc hc=>by rw[lK _<|inA c hc,f_,a_,a_]
    rw[ax ?G,ix,f_,nxR,a_,ok,a_,e3,a_,mR,f_,a_,Pe,a_,cb ?Y,a_,a_];rw[zr w n5 ?A K.ne K.nd ?A K.fit K.cl Ur,a_,vx w n5 ?A K.ne K.nd ?A K.fit K.cl Ur,a_,e4,a_,e5,f_,a_,a_,mR,f_,a_,cm,a_,cb ?Y,a_,a_,tY,f_,a_,tY,f_,a_,a_]
   ·rcases rk.2 c (inA c hc)with g|⟨k,c',_,_,g⟩
    ·exact(List.mem_filter.mp g).2
    ·lia
   ·rcases rk.2 c (inA c hc)with g|⟨k,c',g1,_,g⟩
    ·have:=rk.1 c g;lia
    ·exact{k,c',g1,by lia}
 ·exact .inl {h1,by rw[e];rfl}
end
abbrev sE(p:Nat×Re Nat):D×D:=(iN p.1,cT p.2)
theorem F8(a b:Nat):gH (iN a) (iN b)=decide (a=b):=by
 exact decide_eq_decide.mpr ?A
theorem Bh:∀(ps qs:Re ?jv),((qs++ps).map (·.1)).Nodup->(qs++ps).length<=90000->j4 false (qs.map sE) ?qR=some ((qs++ps).map sE)
 | [],qs,_,_=>by rw[ic];rfl
 | p::ps,qs,nd,hl=>by
  have e:qs++p::ps=(qs++[p])++ps:=by simp
  have h1:hV false (qs.map sE) (iN p.1) (cT p.2)=some ((qs++[p]).map sE):=by
   unfold hV;rw[ar,rB,eg]
   ·rfl
   ·intro x hx;let{q,hq,rfl}:=List.mem_map.mp hx;rw[(F8 q.1 p.1),lu];rw[eg,PZ]at nd;exact nd.2.2 q.1 (List.mem_map.mpr {q,hq,rfl}) p.1 ?G
   ·rw[R4]at hl;rw[am,QS,v_];exact{rfl,ut (show qs.length<=90000 by lia) ?C}
  show(hV false (qs.map sE) (iN p.1)<|cT p.2).bind (λes1=>j4 false es1 ?qR)=_;rw[h1,e];exact Bh ps (qs++[p]) (e▸nd)<|e▸hl
theorem qX(r:Rl)(l:Re Nat):∀ps:Re (Mt×Nat),List.Sublist ((bP r l ps).map (·.1)) (ps.map (·.2))
 | []=>.slnil
 | p::ps=>by
  have ih:=qX r l ps;unfold bP at ih ⊢;rw[xv];split
  ·exact .cons_cons _ ih
  ·exact .cons _ ih
theorem pG(r:Rl)(l:Re Nat):((bP r l r.ms.zipIdx).map (·.1)).Nodup:=by
 refine(qX r l _).nodup ?_;rw[(List.zipIdx_map_snd 0 r.ms)];exact List.nodup_range'
theorem Md(r:Rl)(l:Re Nat)(hm:r.ms.length<=90000):zf false (vS r l)=some ((bP r l r.ms.zipIdx).map sE):=by
 have h:=jb r l r.ms.zipIdx;rw[ua]at h;exact Bh (bP r l r.ms.zipIdx) [] (pG r l) (by rw[List.nil_append];lia)
theorem yP(ps:Re ?jv)(k:Nat):keyOk (ps.map sE) ?qj=true:=by
 unfold keyOk;rw[gs];right;rw[am,ir];refine{rfl,λx hx=>?_};let{q,_,rfl}:=List.mem_map.mp hx;rfl
theorem BV{k:Nat}{c:Re Nat}:∀(ps:Re ?jv),(ps.map (·.1)).Nodup->(k,c)∈ps->gk (ps.map sE) ?qj=some ?jG
 | [],_,h=>(nomatch h)
 | q::ps,nd,h=>by
  rw[ap,QJ]at nd;unfold gk;rw[ap,ou,(F8 q.1 k)];let rfl||h:=List.mem_cons.mp h
  ·rw[ba rfl];rfl
  ·rw[bi λ(z:q.1=k)=>nd.1<|z▸List.mem_map.mpr {(k,c),h,rfl}];exact BV ps nd.2 h
theorem L7(L:Re ?L):bx (.list ?j1) (.list [])=some L.isEmpty:=by
 have h:=wg L;unfold cW at h;unfold bx;split at h
 ·rename_i hc;rw[ar hc];have t:=congrArg (λb=>!b)<|Option.some.inj h;simp  [Bool.not_not]at t;rw[t]
 ·cases h
theorem qx(ns:Re Nat)(h:∀c∈ns,c<=1000)(hl:ns.length<=10):fA [cT ns]=some (iN ns.sum):=by
 have:=Bb ns h hl;exact this
theorem Fy(n:Nat):cC (iN n)=.ret (.bool true):=id rfl
theorem O1(n:Nat):dU (iN n) (.int 0)=some false:=(Ip n 0).trans ?G
theorem sU(hc:c.length=n)(hn:n<=10)(h1:1<=c.sum)(h2:c.sum<=1000):cQ ?jG (iN n)=.ret (.bool true):=by
 have hb:∀x∈c,x<=1000:=λx hx=>bj (mr hx) h2
 have cm:aZ (λd5=>bd (bd (bd (bd (cC d5) λx6=>oM<|fF x6) λb7=>.ret<|!b7) λb8=>if b8 then .ret true else oM (dU d5<|.int 0)) λb9=>if b9 then .ret (some d5)else .ret none) (c.map iN)=.ret []:=by
  rw[dF   c λx _=>rfl];simp
 unfold cQ;rw[show qh "tuple" ?jG=some true from rfl,f_,a_,a_,ax ?C,wH,v_,hc,f_,a_,L4.neI,f_,a_];rw[ax ?G,Hs,f_,a_,cm,a_,cb ?G,a_,a_,show cW ?j5 ?j5=some false from rfl,f_,a_,ax ?C,qx c hb ?A,f_,a_,show dX (iN c.sum) (.int 0)=_ from yU c.sum 0,f_,a_,a_,ba ?A]
theorem Lv(a b:Re Nat):dU (cT a) (cT b)=some (HT.lexLt (ky a)<|ky b):=by
 show(match intsOf (a.map iN),intsOf (b.map iN)with|some m,some n=>some<|HT.lexLt m n|_,_=>none)=_;rw[nJ,nJ]
section
variable (V:Gv r cs) {q:Qs} (hq:q.ok r.st.length 1) (P:Pap r q cs ks L v)
include V hq P
theorem Pap.fit(hc:c∈L):c.length=r.n/\c.sum=cs.sum:=by
 let{a,b}:=(P.rc c hc).fit V.w<|mJ r cs;exact{a,b.trans<|GN V.w cs V.len}
theorem HB{k:Nat}(hk:k<L.length):eC r.d (.tuple ?jP) ?qj (iN cs.sum)=.ret (.bool false):=by
 let{f1,f2}:=P.fit V hq<|gh hk;have n5:=V.sm.n5;have p1:=V.pos;have p4:=V.Yx;have ix:∀(j:Nat) (h:j<L.length),aF (.tuple ?jP) (iN j)=some (Ua v L[j]):=λj h=>by rw[bt,(pR (Ua v) L j h)]
 unfold eC;rw[ix k hk,f_,a_,show qh "tuple" (Ua v L[k])=some true from rfl,f_,a_,a_,ax ?C,show dE [Ua v L[k]]=some (.int 2)from rfl,f_,a_,show cW (.int 2) (.int 2)=some false from rfl,f_,a_,ax ?C,bt,gI,f_,a_,bt,gI,f_,a_];rw[sU f1 ?A ?A ?A,a_,qa,f_,a_,a_,ax ?C,a_,qx _ (λx hx=>bj (mr hx) ?A) ?A,f_,a_,f2,(L4.neI _ _),f_,a_];rw[ax ?G,bt,jo,f_,a_,Fy,a_,qa,f_,a_,a_,ax ?C,a_,O1,f_,a_,ax ?C,show dX ?qj (.int 0)=_ from yU k 0,f_,a_];by_cases h0:0<k
 ·have hk1:k - 1<L.length:=by lia
  have so:=List.pairwise_iff_getElem.mp P.so (k - 1) k hk1 hk ?A;rw[ba h0,show gT ?qj (.int 1)=_ from MT k 1 ?A,f_,a_,ix (k - 1) hk1,f_,a_,bt,gI,f_,a_,a_,Lv,so,f_,a_];rfl
 ·rw[bi h0,ax ?C,a_,a_]
theorem Mc{k:Nat}(hk:k<L.length)(kn:D×D×Re ?N×D×Unit->M D):e9 r.d (.tuple ?jP) (L.map ?jY) (wd (q.tr cs)) ?qj kn=kn (r.d,.tuple ?jP,L.map ?jY,wd (q.tr cs),()):=by
 have hm:=gh hk;let{f1,f2}:=P.fit V hq hm;have n5:=V.sm.n5;have Yq:=V.Yq;have sl:=jb r L[k] r.ms.zipIdx;rw[ua]at sl;generalize hc:L[k]=c at *;have ix:aF (.tuple ?jP) ?qj=some (Ua v c):=by rw[bt,show fJ (.tuple ?jP) ?qj=_ from pR (Ua v) L k hk,hc]
 unfold e9;rw[ix,f_,a_,show(To (Ua v c):(D->D->M D)->M D)=λf=>f ?jG (iN (v c))from id rfl];dsimp only;rw[qW V.w f1 ?A,a_,mR,f_,a_,Fo,a_,cb ?Y,a_,a_];generalize hB:(bP r c r.ms.zipIdx).map (·.2)=B;have bl:B.length<=30:=by rw[<-hB,v_];lia
 have bm:∀c',c'∈B↔∃j,Goes r c j c':=λc'=>by
  rw[<-hB,List.mem_map];constructor
  ·rintro⟨⟨j,x⟩,h,rfl⟩;exact{j,K_.mp h}
  ·rintro⟨j,h⟩;exact{(j,c'),K_.mpr h,rfl}
 have inL:∀c'∈B,c'∈L:=λc' h=>by
  let{j,g}:=(bm c').mp h;exact P.cl c hm j c' g
 have e0:(B.filter λc'=>!decide (c'∈L))=[]:=List.filter_eq_nil_iff.mpr λc' h=>by simp[inL c' h]
 have e1:aZ (λd49=>bd (bd (oM (aF (PyData.dict (L.map ?jY)) d49)) λx50=>oM (dU x50 (iN (v c)))) λb51=>if b51 then .ret (some d49)else .ret none) (B.map cT)=.ret ((B.filter λc'=>decide (v c'<v c)).map cT):=by
  rw[dF  (g:=λc'=>if decide (v c'<v c)then some (cT c')else none) B λc' h=>by
   rw[lK _ (inL c' h),f_,a_,(Ip _ _),f_,a_]
   split<;>rfl]
  refine congrArg M.ret ?_;clear e0 inL bm bl hB
  induction B with
  | nil=>rfl
  | cons a B ih =>
   rw[si,zi,ih]
   cases decide (v a<v c)<;>rfl
 rw[mR,f_,a_,nE ?A,a_,a_,e0,show cW (PyData.list (([]).map cT)) (.list [])=some false from rfl,f_,a_,ax ?C,a_,e1,a_,cb (by rw[v_];exact bj (pi _ _) ?A),a_,a_];rw[show bx (iN (v c)) (.int 0)=_ from Yl _ 0,f_,a_,show dX (iN (v c)) (.int 0)=_ from yU _ 0,f_,a_,L7,f_];by_cases h0:v c=0
 ·have hz:=P.n0 c hm h0;have eq:bx (sd r c) (wd (q.tr cs))=some false:=by
   have h:=EJ r c;unfold nq at hz;generalize sd r c=x at h hz ⊢;revert hz;let rfl||rfl||rfl:=h<;>cases q.tr cs<;>decide +kernel
  rw[ba h0,ar rfl,(EK V.w f1 ?A).2,a_,eq,f_,a_,ax ?C,bi ?A,ax ?C,a_,ax ?C]
 ·let{j,c',g,lt}:=P.s c hm ?A;have ne:(B.filter λc'=>decide (v c'<v c)).isEmpty=false:=by
   rw[Bool.eq_false_iff];intro z;rw[List.isEmpty_iff,List.filter_eq_nil_iff]at z;exact z c' ((bm c').mpr {j,g}) (by simpa using lt)
  rw[bi h0,ax ?C,a_,ax ?C,ba ?A,ar rfl,ne,a_,ax ?C]
end
section
variable (V:Gv r cs) {q:Qs} (hq:q.ok r.st.length 1) (P:Pap r q cs ks L v)
include V hq P
theorem DD:fg r.d q.d (pap cs ks L v)=.ret .none:=by
 have w:=V.w;have n5:=V.sm.n5;have Yq:=V.Yq;have p1:=V.pos;have p4:=V.Yx;have ll:=P.ll;have kl:=P.kl;have sl:=V.len;have s4:=V.s4;have tt:∀l:Re D,qh "tuple" (.tuple l)=some true:=λl=>id rfl
 have ss:fA [cT cs]=some (iN cs.sum):=qx cs (λx hx=>bj (mr hx) ?A) ?A;let{c1,hc1,pth}:=P.go;have nd:L.Nodup:=P.so.imp λh z=>by rw[z,sg]at h;cases h
 unfold fg;rw[tt,f_,a_,a_,ax ?C,show dE [pap cs ks L v]=some (.int 3)from rfl,f_,a_,show cW (.int 3) (.int 3)=some false from by decide +kernel,f_,a_,ax ?C,bt,gI,f_,a_,bt,jo,f_,a_,wH,v_,f_,a_,sU sl ?A ?A ?A,a_,qa,f_,a_,a_,ax ?C,show(un3 (pap cs ks L v):(D->D->D->M D)->M D)=λf=>f (cT cs) (cT ks) (.tuple ?jP)from id rfl];dsimp only;rw[ss,f_,a_,show dX (iN cs.sum) (.int 60)=_ from yU cs.sum 60,f_,a_,bi ?A,ax ?C,tt,f_,a_,a_,ax ?C,tt,f_,a_,a_,nH V,a_,wH,v_,f_,a_,cM _ ?A,f_];refine lh (R:=λm=>m=M.ret PyData.none) (P:=λj s=>∃c,s=(r.d,q.d,cT cs,cT ks,.tuple ?jP,cT c,())/\So r ?qI c/\YB r c (ks.drop j) c1) _ _ ?_ {_,rfl,.refl,pth} ?_
 ·rintro j s d hd ⟨c,rfl,hr,hp⟩ kn UP;let{rfl,hj}:=jg hd;rw[re hj]at hp;have ixk:aF (cT ks) (iN j)=some (iN ks[j]):=by rw[bt,(pR iN ks j hj)]
  generalize ks[j]=k at hp ixk
  cases hp with
  | @cons _ c' _ _ _ g hp =>
  have ge:=BV _ (pG r c) (K_.mpr g);have ni:bB ?qj (.dict ?jH)=some false:=by
   show(if keyOk ?jH ?qj then some (!(gk ?jH ?qj).isSome)else none)=_;rw[ar (yP _ k),ge];rfl
  have ix:aF (.dict ?jH) ?qj=some (cT c'):=by
   show(if keyOk ?jH ?qj then gk ?jH ?qj else none)=_;rw[ar (yP _ k),ge]
  unfold iH;rw[qW w (hr.fit w (mJ r cs)).1 ?A,a_,Md r c ?A,f_,a_,ixk,f_,a_,Fy,a_,qa,f_,a_,a_,ax ?C,a_,ni,f_,a_,a_,ix,f_];exact UP _ {c',rfl,.step hr g,hp}
 ·rintro s ⟨c,rfl,hr,hp⟩;rw[v_,ue,Ba]at hp
  cases hp
  unfold iJ;rw[wH,v_,f_,a_,cM _ ?A,f_];refine(dD  (F:=λ_=>(r.d,q.d,cT cs,PyData.tuple ?jP,cT c1,())) (List.range L.length) λp i t hp kn=>?_).trans ?_
  ·have hi:i<L.length:=List.mem_range.mp (by rw[hp];simp);unfold iG;rw[ss,f_,a_,HB V hq P hi,a_,qa,f_,a_,ax ?C]
  ·unfold iI;rw[show As true (.tuple ?jP)=some (L.map ?jY)from vW (vN v) L [] ((nd)) ?Y,f_,a_,gW,ba hc1,f_,a_,yJ V hq,A3,a_,wH,v_,f_,a_,cM _ ?A,f_];refine(dD  (F:=λ_=>(r.d,PyData.tuple ?jP,L.map ?jY,wd (q.tr cs),())) (List.range L.length) λp i t hp kn=>?_).trans rfl;exact Mc V hq P (List.mem_range.mp (by rw[hp];simp)) kn
end
theorem FF(l:Re Nat):(PyData.tuple ?jt).depth<=2:=cn  λd hd=>by let{i,_,rfl}:=List.mem_map.mp hd;simp[PyData.depth]
theorem Ii(l:Re Nat):L4.sz (.tuple ?jt)=l.length+1:=by
 show 1+VF ?jt=_;rw[kQ (B:=1) λi=>rfl];lia
theorem I9(h:c.length<=4)(hb:c.sum<=4):ki [cT c]=some (.str (cT c).shown)/\bx (.str (cT c).shown) (.str (cT c).shown)=some true:=by
 have:=Da (l:=c) (λx hx=>by have:=mr hx;lia) ?A;exact{this.1,this.2.2}
def due(r:Rl)(q:Qs)(cs:Re Nat)(d:D):Prop:=((∀c,¬ xH r q cs c)/\d=.none)\/((∃c,xH r q cs c)/\d=cT cs)
theorem xW(V:Gv r cs){q:Qs}(hq:q.ok r.st.length 1){m:M D}(he:AY r q cs m){d:D}(hd:due r q cs d):∃told,m=.ret told/\cz r.d q.d told d=.ret (.bool true):=by
 let{h1,e}||{{c,h1},ks,L,v,e,P}:=he
 ·let{_,rfl}||{{c,h2},_}:=hd
  ·refine{_,e,?_};rfl
  ·exact absurd h2<|h1 c
 ·let{h2,_}||{_,rfl}:=hd
  ·exact absurd h1<|h2 c
  ·refine{_,e,?_};let{r1,r2}:=I9  (by have:=V.len;have:=V.s4;lia) V.Yx;unfold cz;rw[show lF (cT cs) .none=some false from rfl,f_,a_,ax ?C,show lF (pap cs ks L v) .none=some false from rfl,f_,a_,ax ?C,DD V hq P,a_,show lF .none .none=some true from rfl,f_,a_,ar rfl,bt,gI,f_,a_,r1,f_,a_,a_,r2,f_,a_,a_]
def mK:Nat->Nat->Re ?L
 | 0,_=>[]
 | 1,h=>[[h]]
 | k+2,h=>(List.range<|h+1).flatMap λm=>(mK (k+1)<|h - m).map (m :: ·)
theorem Mp{k:Nat}(k1:1<=k)(k4:k<=4)(h1:1<=h)(h3:h<=3):eX 8 ?qj (iN h)=.ret (.list<|(mK k h).map cT):=by
 rcases(by lia:k=1\/k=2\/k=3\/k=4)with rfl|rfl|rfl|rfl<;>rcases(by lia:h=1\/h=2\/h=3)with rfl|rfl|rfl<;>(simp  [eX,kF,jS,bS];kernel_rfl)
def jZ(most:Nat):Nat->Re ?L
 | 0=>[[]]
 | k+1=>(jZ most k).flatMap λr=>(List.range<|most - r.sum+1).map λm=>r++[m]
def allB(k most:Nat):Re ?L:=(List.range most).flatMap λh=>mK k<|h+1
theorem CT:∀k,k<5->∀most,most<4->∀h,h<3->(!decide (h<most) || !decide (1<=k)||((jZ most k).filter (λc=>decide<|c.sum=h+1)==mK k (h+1)&&decide ((jZ most k).length<=900)&&(jZ most k).all λc=>decide (c.length<=10)&&decide (c.sum<=3)))=true:=by decide +kernel
theorem EQ{k:Nat}(hk:k<5)(hm:most<4)(h3:h<3)(hh:h<most)(k1:1<=k):(jZ most k).filter (λc=>decide<|c.sum=h+1)=mK k (h+1)/\(jZ most k).length<=900/\∀c∈jZ most k,c.length<=10/\c.sum<=3:=by
 have:=CT k hk most hm h h3;rw[ba hh,ba k1]at this;simpa[and_assoc]using this
theorem nW:∀k,k<5->∀h,h<3->1<=k->(∀c∈mK k (h+1),c.length=k/\c.sum=h+1)/\(mK k<|h+1).length<=63/\(mK k<|h+1).Pairwise λa b=>HT.lexLt (ky a) (ky b)=true:=by decide +kernel
theorem CM(ne:∀c∈L,c≠[])(hl:L.length<=63)(so:L.Pairwise λa b=>HT.lexLt (ky a) (ky b)=true):pS [.list ?j1]=some ?j1:=by
 let{S,e,p,so'}:=qy ne hl (so.imp λh z=>by rw[z,sg]at h;cases h);rw[e,(p.eq_of_pairwise  (λa b _ _ h1 h2=>FV<|oW h2 h1) (so'.imp λh=>FN h)<|so.imp λh=>FN h)]
theorem Dp{k:Nat}(k1:1<=k)(k4:k<=4)(h1:1<=most)(h3:most<=3):cS ?qj (iN most)=.ret (.list<|(allB k most).map cT):=by
 have e:cS ?qj (iN most)=dL (iN most) (.list<|(jZ most k).map cT):=by
  rcases(by lia:k=1\/k=2\/k=3\/k=4)with rfl|rfl|rfl|rfl<;>rcases(by lia:most=1\/most=2\/most=3)with rfl|rfl|rfl<;>(simp![cS,gc,bS];kernel_rfl)
 rw[e];unfold dL;have rg:(bd (oM<|bD (iN most)<|.int 1) λx2=>oM<|eA [.int 1,x2])=.ret ((List.range most).map λh=>iN<|h+1):=by
  rcases(by lia:most=1\/most=2\/most=3)with rfl|rfl|rfl<;>kernel_rfl
 rw[rg,a_];refine(dD (e:=λh=>iN<|h+1) (F:=λpre=>(PyData.list ((jZ most k).map cT),(pre.flatMap λh=>mK k<|h+1).map cT,())) (List.range most) λp h t hp kn=>?_).trans rfl;have hh:h<most:=List.mem_range.mp (by rw[hp];simp);let{a1,a6,a7}:=EQ (k:=k) ?A ?A ?A hh k1;let{a2,a5,a4}:=nW k ?A h ?A k1;dsimp only;unfold gb;have cm:aZ (λd5=>bd (bd (oM<|fA [d5]) λx6=>oM<|bx x6<|iN<|h+1) λb7=>if b7 then .ret (some d5)else .ret none) ((jZ most k).map cT)=.ret ((mK k<|h+1).map cT):=by
  rw[<-a1,dF (e:=cT) (g:=λc=>if decide (c.sum=h+1)then some ?jG else none) _ λc hc=>by
   rw[qx c (λx hx=>bj (mr hx) (by have:=(a7 c hc).2;lia)) (a7 c hc).1,f_,a_,show bx (iN c.sum) (iN<|h+1)=_ from Yl _ _,f_,a_]
   split<;>rfl]
  refine congrArg M.ret ?_;generalize jZ most k=R
  induction R with
  | nil=>rfl
  | cons a R ih =>
   rw[si,zi,ih]
   cases decide (a.sum=h+1)<;>rfl
 rw[mR,f_,a_,cm,a_,cb ?Y,a_,a_,CM (λc hc z=>by have:=(a2 c hc).2;rw[z]at this;simp at this) a5 a4,f_,a_];have hs:∀p:Re Nat,(∀x∈p,x<3)->(p.flatMap λh=>mK k<|h+1).length<=63*p.length:=λp hx=>by
  induction p with
  | nil=>simp
  | cons a p ih =>
   have h1:=(nW k ?A a (hx a ?G) k1).2.1;have h2:=ih λx hy=>hx x (by simp[hy])
   rw[xv,R4,eE];lia
 have hl:p.length<=3:=by
  have:=congrArg List.length hp;simp at this;lia
 have:=hs p λx hx=>by
  have:x<most:=List.mem_range.mp (by rw[hp];simp[hx]);lia
 rw[Gx _ _ (by simp![v_];lia),f_];simp
structure Rg(r:Rl):Prop where
 w:Wf r
 sm:Sml r
 Yq:r.ms.length<=30
 s1:1<=r.st.length
 s4:r.st.length<=4
theorem Rg.gv(G:Rg r)(len:cs.length=r.st.length)(pos:1<=cs.sum)(Yx:cs.sum<=4):Gv r cs:={G.w,G.sm,G.Yq,G.s1,G.s4,len,pos,Yx}
noncomputable def oV(r:Rl)(cs:Re Nat):Nat:=Classical.epsilon λn=>∃F,Rc r cs F/\F.length=n
theorem wF(V:Gv r cs):∃F,Rc r cs F/\F.length=oV r cs:=by
 let{F,C}:=V.reach;exact Classical.epsilon_spec (p:=λn=>∃F,Rc r cs F/\F.length=n) {F.length,F,C,rfl}
open Classical in
noncomputable def nN(r:Rl)(q:Qs)(cs:Re Nat):Bool:=decide<|∃c,xH r q cs c
theorem sO(r:Rl)(q:Qs)(cs:Re Nat):nN r q cs=true↔∃c,xH r q cs c:=by
 unfold nN;simp
noncomputable def firstOf(r:Rl)(q:Qs)(l:Nat):Re ?L->SC (SC ?L)
 | []=>some none
 | cs::B=>if l<oV r cs then none else if nN r q cs then some (some cs)else firstOf r q l B
theorem vb(r:Rl)(q:Qs)(l:Nat)(b:Re ?L):∀a:Re ?L,firstOf r q l (a++b)=match firstOf r q l a with
  | some none=>firstOf r q l b
  | x=>x
 | []=>rfl
 | cs::a=>by
  rw[List.cons_append,firstOf,firstOf,vb r q l b a];by_cases h:l<oV r cs
  ·rw[ar h,ar h]
  ·rw[ax h,ax h]
   cases nN r q cs<;>rfl
noncomputable abbrev CU(r:Rl)(q:Qs)(cs:Re Nat):D:=.tuple [cT cs,iN (oV r cs),.bool (nN r q cs)]
def L8:SC (SC ?L)->D
 | none=>.str "many"
 | some none=>.none
 | some (some cs)=>cT cs
theorem y0(r:Rl)(q:Qs)(l:Nat)(B:Re ?L):e7 (.list (B.map (CU r q))) (iN l)=.ret (L8 (firstOf r q l B)):=by
 unfold e7;rw[mR,f_,a_,bS]
 induction B with
 | nil=>rfl
 | cons cs B ih =>
  rw[ap,cP];unfold jU;rw[show(un3 (CU r q cs))=λf=>f (cT cs) (iN (oV r cs)) (.bool (nN r q cs))from id rfl];dsimp only;rw[yU,f_,firstOf];by_cases h:l<oV r cs
  ·rw[ba h,ar h];rfl
  ·rw[bi h,ax h,qa,f_]
   cases nN r q cs with
   | true=>rfl
   | false=>exact ih
def OfR(r:Rl)(q:Qs)(f:SC (SC ?L))(K m:M D):Prop:=match f with
 | none=>m=.exc jt
 | some none=>m=K
 | some (some cs)=>(∃c,xH r q cs c)/\AY r q cs m
theorem nY{k:Nat}(k1:1<=k)(k4:k<=4)(h3:most<=3)(h:cs∈allB k most):cs.length=k/\1<=cs.sum/\cs.sum<=3:=by
 let{x,hx,hc}:=List.mem_flatMap.mp h;have hx:=List.mem_range.mp hx;have:=(nW k ?A x ?A k1).1 cs hc;lia
section
variable (G:Rg r) {q:Qs} (hq:q.ok r.st.length 1)
include G hq
theorem Hy(h1:1<=most)(h3:most<=3):iD r.d q.d (iN most)=.ret (.list<|(allB r.st.length most).map<|CU r q):=by
 unfold iD;rw[bt,jo,f_,a_,wH,v_,f_,a_,Dp G.s1 G.s4 h1 h3,a_,mR,f_];have hl:(allB r.st.length most).length<=900:=by
  have:∀k,k<5->∀m,m<4->(allB k m).length<=900:=by decide +kernel
  exact this _ (by have:=G.s4;lia) _ ?A
 refine(dD  (F:=λpre=>(r.d,q.d,pre.map (CU r q),())) (allB r.st.length most) λp cs t hp kn=>?_).trans rfl;let{a,b,c}:=nY G.s1 G.s4 h3 (cs:=cs) (by rw[hp];simp);have V:=G.gv a b ?A;let{F,C,hF}:=wF V;let{L,e,m}:=sA V hq C;have hb:(!L.isEmpty)=nN r q cs:=by
  rw[PP,sO];constructor
  ·intro h
   cases L with
   | nil=>cases h
   | cons x L=>exact{x,(m x).mp ?G}
  ·rintro⟨x,hx⟩
   cases L with
   | nil=>have:=(m x).mpr hx;cases this
   | cons y L=>rfl
 have W0:p.length<=900:=by rw[hp,R4]at hl;lia
 unfold kH;rw[nH V,a_,C.all,a_,jE,f_,a_,hF,e,a_,wg,hb,f_,a_,a_,a_,kN _ _ ?jU,f_,eg];rfl
theorem J4{l:Nat}(kn3:D×D×D×Unit->M D):∀bs:Re ?L,(∀cs∈bs,Gv r cs)->OfR r q (firstOf r q l bs) (kn3 (r.d,q.d,iN l,())) (cP (λ(Tr:D×D×D×Unit) d12 kn=>iC kn3 Tr.1 Tr.2.1 Tr.2.2.1 d12 kn) (bs.map cT) (r.d,q.d,iN l,()) λTr=>kB kn3 Tr.1 Tr.2.1 Tr.2.2.1)
 | [],_=>rfl
 | cs::bs,h=>by
  have ih:=J4 (l:=l) kn3 bs λx hx=>h x (by simp[hx])
  have V:=h cs ?G;let{F,C,hF}:=wF V;rw[ap,cP];unfold iC;rw[firstOf];let{h1,e}||{h1,e}:=sP V C hq l
  ·rw[ar ?A,e];rfl
  ·rw[ax ?A];let{h2,e}||{h2,ks,L,v,e,P}:=e
   ·rw[show nN r q cs=false from Bool.eq_false_iff.mpr λz=>by let{c,hc}:=(sO r q cs).mp z;exact h2 c hc,e];exact ih
   ·rw[(sO r q cs).mpr h2,e,a_,show gU (pap cs ks L v) .none=some true from rfl,f_];exact{h2,.inr {h2,ks,L,v,rfl,P}}
theorem M7{l:Nat}(h3:h<3)(kn:D×D×D×Unit->M D):fZ r.d q.d (iN l) (iN<|h+1) kn=cP (λ(Tr:D×D×D×Unit) d12 kn'=>iC kn Tr.1 Tr.2.1 Tr.2.2.1 d12 kn') ((mK r.st.length<|h+1).map cT) (r.d,q.d,iN l,()) (λTr=>kB kn Tr.1 Tr.2.1 Tr.2.2.1):=by
 unfold fZ;rw[bt,jo,f_,a_,wH,v_,f_,a_,Mp G.s1 G.s4 ?A ?A,a_,mR,f_,a_,bS]
theorem Fw{l:Nat}:∀hs:Re Nat,(∀h∈hs,h<3)->OfR r q (firstOf r q l<|hs.flatMap λh=>mK r.st.length<|h+1) (.ret .none) (cP (λ(H_:D×D×D×Unit) T5 kn=>fZ H_.1 H_.2.1 H_.2.2.1 T5 kn) (hs.map λh=>iN<|h+1) (r.d,q.d,iN l,()) λH_=>kC H_.1 H_.2.1 H_.2.2.1)
 | [],_=>rfl
 | h::hs,hh=>by
  have ih:=Fw (l:=l) hs λx hx=>hh x (by simp[hx])
  have h3:=hh h ?G;rw[ap,cP,xv,vb];rw[M7 G hq h3];have:=J4 G hq (l:=l) (λs'=>cP (λ(H_) T5 kn=>fZ H_.1 H_.2.1 H_.2.2.1 T5 kn) (hs.map λh=>iN<|h+1) s' λH_=>kC H_.1 H_.2.1 H_.2.2.1) (mK r.st.length<|h+1) λcs hc=>by
   have:=(nW _ (by have:=G.s4;lia) h h3 G.s1).1 cs hc;exact G.gv this.1 ?A ?A
  cases hf:firstOf r q l (mK r.st.length<|h+1)with
  | none=>rw[hf]at this;exact this
  | some x =>
   rw[hf]at this
   cases x with
   | none=>rw[this];exact ih
   | some cs=>exact this
theorem zb(h1:1<=most)(h3:most<=3)(l:Nat):OfR r q (firstOf r q l<|allB r.st.length most) (.ret .none) (hW r.d q.d (iN most)<|iN l):=by
 unfold hW;have rg:(bd (oM<|bD (iN most)<|.int 1) λx2=>oM<|eA [.int 1,x2])=.ret ((List.range most).map λh=>iN<|h+1):=by
  rcases(by lia:most=1\/most=2\/most=3)with rfl|rfl|rfl<;>kernel_rfl
 rw[rg,bS];exact Fw G hq (List.range most) λh hh=>by have:=List.mem_range.mp hh;lia
end
theorem Ei{S:Type}(a b c d:D)(k:D->D->D->D->M S):un4 (.tuple [a,b,c,d]) k=k a b c d:=id rfl
theorem FL(m:M D)(h:m=.exc jt):(Hi (A:=D×Unit) (B:=Unit) (onX (λe_=>.ret (.inr (e_,(())))) m λx1=>.ret (.inl ((.bool false),()))) (λs4=>dm s4.1) (λe2 s3=>uS ["TooMany"] e2.cls (onX (λ_=>.bad) (bd (oM (g6 [("TooMany",false)] (nO e2))) λb5=>.ret (.bool b5)) λx6=>onX (λ_=>.bad) (bd (bd (oM (g6 [("TooMany",true)] (nO e2))) λb9=>if b9 then bd (oM (g6 [("TooMany",true)] (nO e2))) λb8=>if b8 then bd (oM (fF x6)) λb7=>.ret (!b7)else .ret false else .ret false) λTz=>.ret (.bool Tz)) λQ8=>dm Q8)))=(.ret (.bool true):M D):=by
 subst h;kernel_rfl
theorem Dk{r q c n:D}(h:dH r q c n=.exc jt):cL (ZO "_law_ask_at") (.tuple [r,q,c,n])=.ret (.bool true):=by
 exact FL _ (by unfold i5;rw[Ei,h];rfl)
theorem Dj{r q c n:D}(h:hW r q c n=.exc jt):cL (ZO "_law_ask_of") (.tuple [r,q,c,n])=.ret (.bool true):=by
 exact FL _ (by unfold i4;rw[Ei,h];rfl)
theorem Oq:L4.Q1 "not" = true:=by decide +kernel
theorem Km:L4.Q1 "least" = true:=by decide +kernel
theorem MJ:L4.Q1 "more" = true:=by decide +kernel
theorem MI:L4.Q1 "rest" = true:=by decide +kernel
def bz:Nat->Nat
 | 0=>20
 | i+1=>2*bz i+5
theorem OP{k:Nat}(hk:k<=4):∀(i:Nat) (q:Qs),q.ok k i->L4.Sm q.d/\L4.sz q.d<=bz i/\q.d.depth<=i+4:=by
 have sn:∀{s:Re Nat},Xf k s->L4.Sm (.tuple ?jC)/\L4.sz (.tuple ?jC)<=5/\(PyData.tuple ?jC).depth<=2:=λh=>{vK λx hx=>by have:=h.2 x hx;lia,by rw[Ii];have:=h.1;lia,FF _}
 have i1:∀n:Nat,n<=100->L4.Sm (iN n):=λn h=>by simp![L4.Sm];omega
 have b0:∀i,20<=bz i:=λi=>by
  induction i with
  | zero=>decide
  | succ i ih=>show 20<=2*bz i+5;lia
 intro i q
 induction q generalizing i with
 | least s n =>
  intro h;have h:Xf k s/\1<=n/\n<=3:=by cases i<;>exact h
  let{a1,a2,a3}:=sn h.1;have:=b0 i;refine{by simp![Qs.d,L4.Sm,L4.Tb];exact{Km,by simpa only[L4.Sm]using a1,by simpa only[L4.Sm]using i1 n ?A,trivial},by simp![Qs.d,L4.sz,L4.VF]at a2 ⊢;lia,cn (n:=i+3) λd hd=>?_};simp![tu,wE,Qa]at hd;let rfl||rfl||rfl:=hd
  ·simp[PyData.depth]
  ·lia
  ·simp[PyData.depth]
 | more a b =>
  intro h;have h:=by cases i<;>exact h
  let{a1,a2,a3}:=sn h.1;let{c1,c2,c3}:=sn h.2.1;have:=b0 i;refine{({MJ,by simpa only[L4.Sm]using a1,by simpa only[L4.Sm]using c1,trivial}),by simp  [Qs.d,L4.sz,L4.VF]at a2 c2 ⊢;lia,cn  λd hd=>?_};simp  [tu,wE,Qa]at hd;let rfl||rfl||rfl:=hd
  ·simp[PyData.depth]
  ·lia
  ·lia
 | rest s m r =>
  intro h;have h:Xf k s/\2<=m/\m<=3/\r<m:=by cases i<;>exact h
  let{a1,a2,a3}:=sn h.1;have:=b0 i;refine{({MI,by simpa only[L4.Sm]using a1,by simpa only[L4.Sm]using i1 m ?A,by simpa only[L4.Sm]using i1 r ?A,trivial}),by simp  [Qs.d,L4.sz,L4.VF]at a2 ⊢;lia,cn  λd hd=>?_};simp  [tu,wE,Qa]at hd;let rfl||rfl||rfl||rfl:=hd
  ·simp[PyData.depth]
  ·lia
  ·simp[PyData.depth]
  ·simp[PyData.depth]
 | neg q ih =>
  intro h
  cases i with
  | zero=>exact h.elim
  | succ i =>
   let{a1,a2,a3}:=ih i h;refine{({Oq,a1,trivial}),by simp  [Qs.d,L4.sz,L4.VF,bz]at a2 ⊢;lia,bj (cn (n:=i+4) λd hd=>?_) ?A};simp  [tu,wE,Qa]at hd;let rfl||rfl:=hd
   ·simp[PyData.depth]
   ·lia
theorem KJ(r:Rl):r.d.depth<=20:=by
 refine cn  λd hd=>?_
 simp  [tu,List.mem_nil_iff,Qa]at hd;let rfl||rfl||rfl||rfl:=hd
 ·simp[PyData.depth]
 ·exact bj (cn (n:=1) λd hd=>by let{i,_,rfl}:=List.mem_map.mp hd;simp[PyData.depth]) ?A
 ·exact bj (cn (n:=5) λd hd=>by let{i,_,rfl}:=List.mem_map.mp hd;simp[PyData.depth,PyData.depthAll]) ?A
 ·exact bj (cn (n:=1) λd hd=>by let{i,_,rfl}:=List.mem_map.mp hd;simp[PyData.depth]) ?A
theorem D0(w:Wf r)(hn:r.n<=5)(hs:r.st.length<=4)(hm:r.ms.length<=30){q:Qs}(hq:q.ok r.st.length 1) :
  ∃x,ki [.tuple [r.d,q.d]]=some x/\cW x x=some false:=by
 let{a1,a2,a3}:=OP hs 1 q hq;have sm:L4.Sm (.tuple [r.d,q.d]):=by
  exact{Na w ?A,a1,trivial}
 refine{_,JI sm ?_ ?_,FD sm}
 ·have h1:=M9 r;have h3:=w.sy;simp  [bz]at a2;simp  [L4.sz,L4.VF]at *;lia
 ·have h1:=KJ r;have:=cn (ds:=[r.d,q.d]) (n:=20) λd hd=>by
   simp  [tu,List.mem_nil_iff,Qa]at hd;let rfl||rfl:=hd<;>lia
  lia
section
variable (G:Rg r) {q:Qs} (hq:q.ok r.st.length 1)
include G hq
theorem JG{Ru:D×Unit->M D}{V5:D×Re D×D×D×D×Unit->M D}{s W:D}{f:Re D}{c d n x:D}{kn:D×Re D×D×D×D×D×D×D×Unit->M D}(h:cz r.d q.d x d=.ret (.bool true)):tf Ru V5 s f r.d q.d W c d n x kn=kn (s,f,r.d,q.d,W,c,d,n,()):=by
 unfold tf;rw[h,a_,qa,f_,a_,a_,ax ?C]
theorem LA{f:Re D}(hf:Fd T f)(hT:T<=800000){Ru:D×Unit->M D}{s W d:D}{R:M D}{kn:D×Re D×D×D×D×Unit->M D}(hk:∀f',Fd (T+100) f'->kn (s,f',r.d,q.d,W,())=R):tm Ru s f r.d q.d W d kn=R:=by
 let{cs,f1,e1,hl,{p1,p4},Ue}:=DL  (most:=4) hf ?A G.s1 G.s4 ?A ?A;have V:=G.gv hl p1 p4;let{F,C}:=V.reach;have hF:=C.len;have F1:=List.length_pos_iff.mpr (V.fc C.nd C.len C.mem).ne;let{L,e2,m2}:=sA V hq C;have due:∃d,(bd (M.ret (!L.isEmpty)) λb39=>if b39 then M.ret (cT cs)else .ret .none)=.ret d/\due r q cs d:=by
  cases L with
  | nil=>exact{.none,rfl,.inl {λc hc=>(by have:=(m2 c).mpr hc;cases this),rfl}}
  | cons c L=>exact{cT cs,rfl,.inr {{c,(m2 c).mp ?G},rfl}}
 let{dd,ed,hd}:=due;have at':∀l,F.length<=l->∃told,dH r.d q.d (cT cs) (iN l)=.ret told/\cz r.d q.d told dd=.ret (.bool true):=λl h=>by
  let{z,_}||{_,z}:=sP V C hq l
  ·lia
  ·exact xW V hq z hd
 let{t1,a1,b1}:=at' 1000 ?A;let{t2,a2,b2}:=at' F.length ?jm;unfold tm;rw[bt,jo,f_,a_,wH,v_,f_,a_,show eu f (.int (r.st.length)) (.int 4)=_ from e1,a_];rw[e2,a_,wg,f_,ed,a_,nH V,a_,C.all,a_,jE,f_,a_,show dH r.d q.d (cT cs) (.int 1000)=_ from a1,a_,a2,a_,a_,a_,mR,f_,a_,bS,cP];rw[JG G hq b1,cP];rw[JG G hq b2,cP];unfold zo;rw[show gT ?j9 (.int 1)=_ from MT F.length 1 F1,f_,a_,a_,show dX ?j9 (.int 1)=_ from yU _ 1,f_,a_];have fin:(if decide (1<F.length)=true then bd (bd (cL (ZO "_law_ask_at") (.tuple [r.d,q.d,cT cs,iN (F.length - 1)])) λx51=>oM (fF x51)) λb52=>M.ret (!b52)else .ret false)=.ret false:=by
  by_cases h:1<F.length
  ·rcases sP V C hq (F.length - 1)with ⟨_,z⟩|⟨z,_⟩
   ·rw[ba h,Dk z];rfl
   ·lia
  ·rw[bi h,ax ?C]
 rw[fin];exact hk f1 Ue
theorem L6(f:SC (SC ?L)):bx (L8 f) (.str "many")=some f.isNone:=by
 cases f with
 | none=>decide +kernel
 | some x =>
  cases x with
  | none=>decide +kernel
  | some cs =>
   let{a,b}:=Ab cs;show(if qk (cT cs) (.str "many")then some (PyData.eqv (cT cs)<|.str "many")else none)=some false;rw[ar (by unfold qk;rw[a,ba b];decide +kernel)];rfl
theorem Fx{B:Re ?L}(hB:∀cs∈B,Gv r cs){l:Nat}{m:M D}(h:OfR r q (firstOf r q l B) (.ret .none) m)(hn:firstOf r q l B≠none):∃told,m=.ret told/\cz r.d q.d told (L8<|firstOf r q l B)=.ret (.bool true):=by
 have mem:∀(B:Re ?L) cs,firstOf r q l B=some (some cs)->cs∈B:=λB=>by
  induction B with
  | nil=>intro cs h;cases h
  | cons c B ih =>
   intro cs h;rw[firstOf]at h;split at h
   ·cases h
   ·split at h
    ·cases h;simp
    ·simp[ih cs h]
 cases hf:firstOf r q l B with
 | none=>exact absurd hf hn
 | some x =>
  rw[hf]at h
  cases x with
  | none=>exact{.none,h,rfl}
  | some cs=>exact xW (hB cs<|mem B cs hf) hq h.2<|.inr {h.1,rfl}
theorem JH{l:Nat}(h1:1<=most)(h3:most<=3){Ru:D×Unit->M D}{s W:D}{kn:D×D×D×D×D×D×Unit->M D}:tj Ru s r.d q.d W (iN most) (.list<|(allB r.st.length most).map<|CU r q) (iN l) kn=kn (s,r.d,q.d,W,iN most,.list ((allB r.st.length most).map<|CU r q),()):=by
 have of':=zb G hq h1 h3 l;unfold tj;rw[y0,a_,L6 G hq,f_,a_];by_cases hn:firstOf r q l (allB r.st.length most)=none
 ·rw[hn]at of' ⊢;rw[show(none).isNone=true from rfl,ar rfl,Dj of',a_,qa,f_,a_,a_,ax ?C]
 ·let{t,a,b}:=Fx G hq (λcs hc=>by let{x,y,z}:=nY G.s1 G.s4 h3 hc;exact G.gv x y ?A) of' hn;rw[ax (by simpa using hn),a,a_,b,a_,qa,f_,a_,a_,ax ?C]
theorem Np{f:Re D}(hf:Fd T f)(hT:T<=800000){Ru:D×Unit->M D}{s x:D}(hx:ki [.tuple [r.d,q.d]]=some x)(hx2:cW x x=some false):tB Ru s f r.d q.d x=Ru (s,()):=by
 let{y,f1,e1,hy,Ue}:=cp (m:=3) hf ?A ?A ?A;let{z,f2,e2,hz,Vh}:=cp (m:=12) Ue ?A ?A ?A;have m1:1<=y+1:=by lia
 have m3:y+1<=3:=by lia
 unfold tB;rw[show aB f (.int 3)=_ from e1,a_];rw[vA,f_,a_,Hy G hq m1 m3,a_,show aB f1 (.int 12)=_ from e2,a_];rw[vA,f_,a_,mR,f_,a_,bS,cP];rw[show(.int 1000)=iN 1000 from rfl,JH G hq m1 m3,cP];rw[JH G hq m1 m3,cP];unfold zp;have of':=zb G hq m1 m3 1000;have hn:=by
  have:∀B ,(∀cs∈B,Gv r cs)->firstOf r q 1000 B≠none:=λB=>by
   induction B with
   | nil=>intro _ h;cases h
   | cons c B ih =>
    intro hB;let{F,C,e}:=wF<|hB c ?G;have:=C.len;rw[firstOf,ax ?A];split
    ·simp
    ·exact ih λx hx=>hB x (by simp[hx])
  exact this _ λcs hc=>by let{a,b,c}:=nY G.s1 G.s4 m3 hc;exact G.gv a b ?A
 let{t,a,b}:=Fx G hq (λcs hc=>by let{x,y,z}:=nY G.s1 G.s4 m3 hc;exact G.gv x y ?A) of' hn;rw[show(.int 1000)=iN 1000 from rfl,y0,a_,a,a_,b,a_,qa,f_,a_,a_,ax ?C,hx,f_,a_,hx2,f_,a_,ax ?C]
end
theorem LC(ns:Re Int)(hn:ns.length<=63)(k:Nat)(hk:k<3)(Ru:D×Unit->M D)(kk:Ru (.list ?jb,())=.ret (.bool true)):tw (.list ?jb) ?qj Ru=.ret (.bool true):=by
 let{f0,e0,hf0}:=IL ns k ?A hn;let{r,q,f1,e1,w,sm,hs,hm,hq,Ue}:=HS hf0 ?A;have G:Rg r:={w,sm,hm,hs.1,hs.2};let{x,hx,hx2}:=D0 w sm.n5 hs.2 hm hq;unfold tw;rw[e0,a_,e1,a_,show ∀g ,To (.tuple [r.d,q.d]) g=g r.d q.d from λg=>id rfl,hx,f_,show bw [.int 3]=some ((List.range 3).map iN)from cM 3 ?A,f_];refine BX (P:=λi s=>∃f,s=(PyData.list ?jb,f,r.d,q.d,x,())/\Fd (8000+100*i) f) _ 0 _ _ ?_ {f1,rfl,Ue.le ?A} ?_
 ·rintro j s d _ _ hj ⟨f,rfl,hf⟩ kn UP;exact LA G hq hf (by simp at hj;lia) λf' hf'=>UP _ {f',rfl,hf'.le ?A}
 ·rintro s ⟨f,rfl,hf⟩;exact(Np G hq hf ?G hx hx2).trans kk
theorem main:∀ns:Re Int,ns.length<=63->Ck (.list ?jb)=.ret (.bool true):=by
 intro ns hn;unfold Ck;rw[show bw [.int 3]=some ((List.range 3).map iN)from cM 3 ?A,f_];refine BX (P:=λi s=>s=(PyData.list ?jb,())) _ 0 _ _ ?_ rfl ?_
 ·rintro j s d hd _ hj rfl kn UP;let{k,hk,rfl}:=List.mem_map.mp hd;exact LC ns hn k (List.mem_range.mp hk) kn<|UP _ rfl
 ·rintro s rfl;rfl
end YC
namespace PySem.W.Fast
def tw2777932096476062266:=()
def tw954671294737149057:=()
def tw13541408248657203323:=()
def tw17303966185271624188:=()
def tw10257403306352136736:=()
def tw2225165594361704644:=()
def tw15075078869227462254:=()
def tw9744873543239209613:=()
def tw18398774874039668032:=()
def tw4556865131649554366:=()
def tw15659480622685446693:=()
def tw9346023763796541973:=()
def tw8313048570545800638:=()
def tw10615773217507789784:=()
def tw16153173309407184236:=()
def tw2953198660910805832:=()
def tw17417199879394587664:=()
def tw11327735558037371901:=()
def tw14514115275827868051:=()
def tw12791037326747809402:=()
def tw16470099657681138977:=()
def tw12007755288653697406:=()
def tw10363350424027979028:=()
def tw17364782013622612828:=()
def tw17124298996863477933:=()
def tw9706759536210767714:=()
def tw2801575595754885742:=()
def tw6451155769594489101:=()
def tw4764662160129004687:=()
def tw1407943941858342327:=()
def tw5697636405096859551:=()
def tw14218449363738089413:=()
def tw17735595860747489189:=()
def tw9331584347486160907:=()
def tw4704692780486437482:=()
def tw1235848638552107871:=()
def tw8233162932597083043:=()
def tw4857325882963631551:=()
def tw11748645608810453758:=()
def tw6804160586669808703:=()
def tw12430679826942653601:=()
def tw14252520212303856027:=()
def tw13088239973600799139:=()
def tw17643251400794138879:=()
def tw15509196968196214461:=()
def tw1461403136880814555:=()
def tw2445076750821535106:=()
def tw10281809004551188633:=()
def tw13390409693393019459:=()
def tw3722501769734277331:=()
def tw17847681712228698185:=()
def tw11354842562181372409:=()
def tw4289593765354249410:=()
def tw13670204812011054132:=()
def tw18437269057375963020:=()
def tw3982643840364171094:=()
def tw14970669525173193506:=()
def tw14497908519818425635:=()
def tw6913671807158757130:=()
def tw6787299236599768138:=()
def tw15346731073027824744:=()
def tw1357056682122817841:=()
def tw15853619540758038794:=()
def tw15392389765440310369:=()
def tw13815568541163436923:=()
def tw7591712458719816952:=()
def tw11390480952826490225:=()
def tw12305980799947754215:=()
def tw3479926727648675568:=()
def tw11432962396836952312:=()
def tw1804300962631034101:=()
def tw4684701027451656108:=()
def tw16921736533596420969:=()
def tw9727714722093606616:=()
def tw11221461103518157997:=()
def tw6731573355368989912:=()
def tw3714670135611895892:=()
def tw3705166194821469341:=()
def tw9199021170420505164:=()
def tw17821497041773578746:=()
def tw14944529855241047554:=()
def tw2723868420880505491:=()
def tw16644627542715117133:=()
def tw11851637353071891846:=()
def tw7299743265377758700:=()
def tw12166049108903698814:=()
def tw2570423877008595800:=()
def tw3449774142217052489:=()
def tw6114885262722723390:=()
def tw7731306827823474165:=()
def tw11978097819256609301:=()
def tw16608049889424995340:=()
def tw9316003402576962322:=()
def tw14951448223941262774:=()
def tw12364837589544854732:=()
def tw9620755839124456604:=()
def tw2139200879117788730:=()
def tw7292040342541763917:=()
def tw15959295224804193261:=()
def tw15111195736870695276:=()
def tw11219561246375945586:=()
def tw10492111575024216295:=()
def tw11500197571320927836:=()
def tw12209626668727093921:=()
def tw12391915512330118370:=()
def tw15962711002977680654:=()
def tw4012189030305297202:=()
def tw4210368449551659620:=()
def tw16762821808199915663:=()
def tw7284317655343696727:=()
end PySem.W.Fast
namespace YC
open PySem PySem.Spec PyProof.Rows L2 L3 L4
theorem zaE{K:Fg}{h:Wp}{mg:Rm}{M_ R0 SN Rj RZ SK SJ Sv g37 g38:Tk}(X:K.In h)(G:h.Ns mainGlobals mg)(ga4:PySem.W.nsIn K mainGlobals "TooMany"=some (some<|.ref M_))(gbz:PySem.W.nsIn K mainGlobals "NoCrowd"=some (some<|.ref R0))(gbF:PySem.W.nsIn K mainGlobals "NoLine"=some (some<|.ref SN))(gbj:PySem.W.nsIn K mainGlobals "NoMeeting"=some (some<|.ref Rj))(gbA:PySem.W.nsIn K mainGlobals "NoPaper"=some (some<|.ref RZ))(gbG:PySem.W.nsIn K mainGlobals "NoRule"=some (some<|.ref SK))(gbH:PySem.W.nsIn K mainGlobals "NoText"=some (some<|.ref SJ))(gbk:PySem.W.nsIn K mainGlobals "PassError"=some (some<|.ref Sv))(gam:PySem.W.kitAny K (.ref M_) [.ref R0,.ref SN,.ref Rj,.ref RZ,.ref SK,.ref SJ]=some false)(gaZ:PySem.W.kitOne K (.ref M_) (.ref M_)=some true)(gaS:PySem.W.kitOne K (.ref M_) (.type "ValueError")=some true)(gaV:PySem.W.exmOne K (.ref M_) (.ref Sv)=some true)(a37:PySem.W.nsIn K mainGlobals "_law_ask_at"=some (some<|.ref g37))(a38:PySem.W.nsIn K mainGlobals "_law_ask_of"=some (some<|.ref g38)):KX K mg :=
 {{[R0,SN,Rj,RZ,SK,SJ],{qu X G gbz,qu X G gbF,qu X G gbj,qu X G gbA,qu X G gbG,qu X G gbH,trivial},{{_,ga4,gam},trivial}},{_,qu X G ga4,{{_,ga4,gaZ},trivial}},{{_,ga4,gaS},trivial},{_,qu X G gbk,{{_,ga4,gaV},trivial}},{_,qu X G a38,a38},{_,qu X G a37,a37}}
theorem all_mk{l:PySem.W.OpenLaw}{w:TD}{K:Fg}{h:Wp}{mg:Rm}{fa:Tk}(X:K.In h)(G:h.Ns mainGlobals mg)(hfa:mg "law"=some (.ref fa))(B:BN K mg) :
  ∃fd:FuncData,(∀(s:SZ) (v:SL),BindsTo s fd {[v],[]} [("_law_script",v)])/\∀base:Wp,K.In base->base.Ns mainGlobals mg->Q6 l.prog w K mg base (R3 l.prog w) 15 fa fd ["_law_script"] (J_ K 1 wj):=by
 let{f,fd,a,F}:=B.zaU
 cases hfa.symm.trans a
 refine{fd,λs v=>?_,λbase _ _=>LU B F};let{_,_,_,_,_,_,_,_,_,rfl,_}:=F.ex;exact .of_eq rfl
theorem walk{l:PySem.W.OpenLaw}{q:Tl}{loose:Re Str}{XP:(Str->SC SL)->Wp->Prop}{YP:TD->Wp->Prop}{d:DefRec}{K:Params->Fg}(main:∀ns:Re Int,ns.length<=63->Ck (.list ?jb)=.ret (.bool true))(hn:l.most=some 63)(hdf:d.params.defaults=[])
  (hY:∀(w:TD) (h:Wp),YP w h->(K w.params).In h)
  (F:∀(w:TD) (mg:Rm) (fa:Tk) (h:Wp),(K w.params).In h->h.Ns mainGlobals mg->mg d.name=some (.ref fa) ->
   ∃fd:FuncData,(∀(s:SZ) (u:SL),BindsTo s fd {[u],[]} [("_law_script",u)])/\∀base:Wp,(K w.params).In base->base.Ns mainGlobals mg->Q6 l.prog w (K w.params) mg base (R3 l.prog w) 15 fa fd ["_law_script"] (J_ (K w.params) 1 wj)) :
  PySem.W.WalkO q loose XP YP l.row.toRowW d [] (λf vs=>PySem.call f vs) :=
 L2.YH (n:=63) (k:=15) (x := "_law_script") (CX:=λw=>R3 l.prog w) (sp:=λw=>J_ (K w.params) 1 wj) hn ?C hdf {rfl,by decide,by decide,rfl} hY F (λw H a ns hl _ hS=>Do hS<|main ns hl) λ_ _ _ _ _ ⟨_,_,_,_,_,_,_,_,_,_,z⟩=>z
end YC
open PySem PySem.W PyProof.Rows L4
set_option maxRecDepth 100000 in
set_option maxHeartbeats 0 in
theorem PySem.Challenge.cw_passersby_k36_err_papers_told_holds : PySem.Challenge.rw_passersby_k36_err_papers_told.Holds := by
 w_on;o_law;k_head;(case hw=>w_witness2)
 k_fill
 refine YC.walk (l:=PySem.Challenge.rw_passersby_k36_err_papers_told) YC.main rfl rfl (λw h Y=>PySem.W.kIn_of Y) ?F
 case F =>
  intro w mg fa h KX G hmg;refine' YC.all_mk KX G hmg {(Ob KX G ?bz),(YC.zaE KX G ?ga4 ?gbz ?gbF ?gbj ?gbA ?gbG ?gbH ?gbk ?gam ?gaZ ?gaS ?gaV ?zba ?zaZ),(YC.Wo KX G<|MH ?xa0 ?xb0 ?xc0 ?xd0 ?xe0 ?xf0 ?xg0 ?xh0 ?xi0 ?xj0 ?xk0 ?xl0 ?xm0 ?xp0 ?xq0 ?xr0 ?xo0 na0),(bT KX G ?a0 ?l0 ?c0 ?k0),(bT KX G ?a1 ?l1 ?c1 ?k1),(bT KX G ?a2 ?l2 ?c2 ?k2),(bT KX G ?a3 ?l3 ?c3 ?k3),(bT KX G ?a4 ?l4 ?c4 ?k4),(bT KX G ?a5 ?l5 ?c5 ?k5),(bT KX G ?a6 ?l6 ?c6 ?k6),(bT KX G ?a7 ?l7 ?c7 ?k7),(bT KX G ?a8 ?l8 ?c8 ?k8),(bT KX G ?a9 ?l9 ?c9 ?k9),(bT KX G ?a10 ?Y6 ?c10 ?k10),(bT KX G ?a11 ?UN ?c11 ?k11),(bT KX G ?a12 ?TX ?c12 ?k12),(bT KX G ?a13 ?WY ?c13 ?k13),(bT KX G ?a14 ?XY ?c14 ?k14),(Gp KX G ?a15 ?l15 ?c15 ?k15 ?Zr ?e15 ?Z9),(bT KX G ?a16 ?l16 ?c16 ?k16),(Gp KX G ?a17 ?XX ?c17 ?k17 ?Ym ?e17 ?Z8),(bT KX G ?a18 ?V4 ?c18 ?k18),(bT KX G ?a19 ?l19 ?c19 ?k19),(bT KX G ?a20 ?l20 ?c20 ?k20),(bT KX G ?a21 ?XU ?c21 ?k21),(bT KX G ?a22 ?XT ?c22 ?k22),(bT KX G ?a23 ?l23 ?c23 ?k23),(bT KX G ?a24 ?l24 ?c24 ?k24),(bT KX G ?a25 ?Ys ?c25 ?k25),(bT KX G ?a26 ?l26 ?c26 ?k26),(bT KX G ?a27 ?l27 ?c27 ?k27),(bT KX G ?a28 ?l28 ?c28 ?k28),(bT KX G ?a29 ?l29 ?c29 ?k29),(bT KX G ?a30 ?l30 ?c30 ?k30),(bT KX G ?a31 ?l31 ?c31 ?k31),(bT KX G ?a32 ?l32 ?c32 ?k32),(bT KX G ?a33 ?l33 ?c33 ?k33),(bT KX G ?a34 ?l34 ?c34 ?k34),(bT KX G ?a35 ?l35 ?c35 ?k35),(bT KX G ?a36 ?l36 ?c36 ?k36),(bT KX G ?a37 ?l37 ?c37 ?k37),(bT KX G ?a38 ?l38 ?c38 ?k38),(bT KX G ?a39 ?l39 ?c39 ?k39),(bT KX G ?a40 ?l40 ?c40 ?k40),(bT KX G ?a41 ?l41 ?c41 ?k41),(bT KX G ?a42 ?l42 ?c42 ?k42),(bT KX G ?a43 ?l43 ?c43 ?k43)}
  (case a0|l0|c0|k0|a1|l1|c1|k1|a2|l2|c2|k2|a3|l3|c3|k3|a4|l4|c4|k4|a5|l5|c5|k5|a6|l6|c6|k6|a7|l7|c7|k7|a8|l8|c8|k8|a9|l9|c9|k9|a10|Y6|c10|k10|a11|UN|c11|k11|a12|TX|c12|k12|a13|WY|c13|k13|a14|XY|c14|k14|a15|l15|c15|k15|Zr=>k_is)
  (case e15=>rfl)
  (case Z9=>exact{_,rfl})
  (case a16|l16|c16|k16|a17|XX|c17|k17|Ym=>k_is)
  (case e17=>rfl)
  (case Z8=>exact{_,rfl})
  (case a18|V4|c18|k18|a19|l19|c19|k19|a20|l20|c20|k20|a21|XU|c21|k21|a22|XT|c22|k22|a23|l23|c23|k23|a24|l24|c24|k24|a25|Ys|c25|k25|a26|l26|c26|k26|a27|l27|c27|k27|a28|l28|c28|k28|a29|l29|c29|k29|a30|l30|c30|k30|a31|l31|c31|k31|a32|l32|c32|k32|a33|l33|c33|k33|a34|l34|c34|k34|a35|l35|c35|k35|a36|l36|c36|k36|zba|a37|l37|c37|k37|zaZ|a38|l38|c38|k38|a39|l39|c39|k39|a40|l40|c40|k40|a41|l41|c41|k41|a42|l42|c42|k42|a43|l43|c43|k43|xa0|xb0|xc0|xd0|xe0|xf0|xg0=>k_is)
  (case xh0=>kernel_rfl)
  (case xi0|xj0|xk0|xl0=>k_is)
  (case xm0=>kernel_rfl)
  (case xp0|xq0|xr0=>k_is)
  (case xo0=>kernel_rfl)
  (case ga4|gbz|gbF|gbj|gbA|gbG|gbH|gbk=>k_is)
  (case gam|gaZ|gaS|gaV|bz=>kernel_rfl)
