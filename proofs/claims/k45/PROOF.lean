import PyProof.Rows.All
import Wide.All
import OpenK.AllK
import Wide.FinOn
import Lean
import PyProof.EqAt
import PyProof.EqKinds
import PyProof.TupleCall
import PySem.Challenge.RW_passersby_k45_none_answers
set_option bootstrap.genMatcherCode false
local macro_rules(kind:=Lean.Parser.Command.declaration)|s=>do
 let d:=s[1]
 let b:=d.isOfKind ``Lean.Parser.Command.definition
 if !s[0][4].isNone||!b&& !d.isOfKind ``Lean.Parser.Command.abbrev then Lean.Macro.throwUnsupported
 if b&&d[1][0].getId.getString!.front.isUpper then return s.setArg 1 (Lean.mkNode ``Lean.Parser.Command.theorem #[Lean.mkAtom "theorem",d[1],Lean.mkNode ``Lean.Parser.Command.declSig #[d[2][0],d[2][1][0]],d[3]])
 return s.setArg 0 (s[0].setArg 4 (Lean.mkNullNode #[Lean.mkNode ``Lean.Parser.Command.noncomputable #[Lean.mkAtom "noncomputable"]]))
local macro_rules|`(tactic|grind)=>`(tactic|first|grind -order -linarith -ring -ac -abstractProof[-getElem?_pos,-getElem?_neg]|grind -abstractProof|grind[])
noncomputable section
set_option Elab.async false
set_option linter.all false
set_option maxRecDepth 100000
local macro_rules(kind:=«term{_}»)|s=>`(⟨$(⟨s[1].getArgs⟩),*⟩)
set_option hygiene false
local macro_rules|`(tactic|let $p:term:=$t)=>do
  let k s:=`Lean.Parser.Tactic++s
  let w a:=(Lean.mkNode (k `rcasesPatLo) #[Lean.mkNode (k `rcasesPatMed) #[Lean.mkNullNode a],Lean.mkNullNode]).raw
  let r:=Id.run<|p.raw.rewriteBottomUpM λs=>
    if s.isIdent then w #[Lean.mkNode (k `rcasesPat.one) #[s]] else
    if s.isOfKind `choice then (s.getArgs.find? (·.isOfKind<|k `rcasesPatLo)).getD s else
    if s.isOfKind `Lean.Parser.Term.hole then w #[Lean.mkNode (k `rcasesPat.ignore) #[s[0]]] else
    if s.isOfKind `«term{_}» then w #[Lean.mkNode (k `rcasesPat.tuple) #[Lean.mkAtom "⟨",s[1],Lean.mkAtom "⟩"]] else
    if s.isOfKind `«term_||_» then w (s[0][0][0].getArgs++#[Lean.mkAtom "|"]++s[2][0][0].getArgs) else s
  `(tactic|obtain $(⟨r[0]⟩):rcasesPatMed:=$t)
local macro_rules(kind:=Lean.Parser.Tactic.simpAutoUnfold)
 |`(tactic|simp![$a,*]$[$l]?)=>`(tactic|simp only[$a,*]$[$l]?)
local macro_rules(kind:=Lean.Parser.Term.syntheticHole)|s=>do
 let n:=s[1].getId.toString
 if let some p:=("B=model X.prog X.w|D=model prog w|I=m_ hr (SS 0) (G7 My)|J=c_.refl _|K=bB X N' scope cl s H fp C|L=Re Nat|O=NY hr|P=G7 My|Q=arrOf st|R=Re D|U=ac _|V=mQ (qL P w) P w K mg base N qual (aN st) f p_ A outer s H E|W=starEach es X.env|X=F.map (kE (vG (fD r F)))|Y=arrOf st'|Z=Mp (av 1) Oj|ja=A.deeper (envOfC qual (aN st) s.heap.objs.size f p_)|je=F.map (kE v)|jf=ns.map PyData.int|jg=F.map (kE (vS r))|jh=Lz rfl|ji=ai _|jj=ha pins s Z H _ I h|jm=bs.map PyData.bool|jo=s1.trans s2|jp=vs.map some|jq=uN X pins Z Q|jr=Yv (O3 (JE Oh))|ju=kE (vL r)|jw=lo rfl|jC=cT c|jF=SS 2|jG=ns.map V.int|jH=L.map (T6 v)|jL=O0 (JE My) KQ|jM=l.map iN|jN=s.map iN|jP=kE vT|jS=kE (vN v)|jU=ha pos pins s Z H _ I h|jW=aN st|jY=L.map cT|jZ=Er hN hv hd RB|j1=wr sh s|j2=PyData.shownAll ds|j3=r.ms.zipIdx.map yU|j4=SS 1|j5=iN k|j6=F.map cT|j7=r.sy.getD i false|qa=av 3|qb=Mp My Oj|qc=PyData.list RZ|qe=he pins s Z H _ I h|qf=ho pins s Z H _ I h|qi=SS 3|qj=av 0|qn=Mp (av 2) Oj|qo=SS 4|qp=y_ items.size 0 lo|qq=r1 d 4|qr=rM X pins Z Q|qs=ci X.prog X.w|qt=I.tok _|qu=h cl _ _ fp C|qw=JC (Oq Oj)|qx=cj st|qz=iN F.length|qB=V.ref a|qC=PyData.list l7|qD=bg r cs|qH=r1.mono s2|qN=ps.map ld|qO=pap cs ks L v|qQ=arrOf H_|qR=N.take m|qT=G7 (Ol (Oq Oj))|qU=r.ms.map mD".splitOn "|").find? (·.startsWith<|n++"=") then
  let m(a:Array Lean.Term):Lean.Term:=Lean.Syntax.mkApp a[0]!<|a.extract 1 a.size
  let r:=((((p.drop<|n.length+1).toString.replace "(" " ( ").replace ")" " ) ").splitOn.filter (·!="")).foldl (λl t=>if t=="(" then #[]::l else match l with
   | a::b::l=>if t==")" then b.push (m a)::l else a.push (match t.toNat? with | some k=>Lean.quote k | _=>if t=="_" then {Lean.mkNode ``Lean.Parser.Term.hole #[Lean.mkAtom t]} else Lean.mkIdent t.toName)::b::l
   | l=>l) [#[],#[]]
  return m r[0]!
 let l<-`([(by lia),(by decide),(by simp),(by decide +kernel),JW (by kernel_rfl) rfl rfl,D×D,(false,eval e X.env),(by omega),(λ_=>rfl),y_ items.size items.size hi - y_ items.size 0 lo,(by grind),(by simp;lia),(λ_ _ _ _ _=>ZT),(by simpa using h),(λz=>nomatch z),(λs'=>K.nx<|wr sh s'),Nat×Re Nat,hr.mono ?S,i+1,s.heap.objs.size+1,N.length - ps.length,I.j_.fresh ?ji,(bH r c r.ms.zipIdx).map sE,(false,eval e2 X.env),seqObj "list" #[] 0,apos.endLine==q_.line,ρ++List.replicate k none,D×Re D,Re Key×Tl×SZ,I1.j_.fresh ?ji,XD ?O,(λb o hb e=>eb b o hb e),a==sysModules,Nat×Nat×Nat,(false,eval a X.env),(λc=>decide<|c.k=kx),AI RS ?jv (Mp ?I ?Z),PyData.list [],(λp=>cY p.1),ps.toArray.size - 1,oM (aD d_<|.int 1),(by simpa[Sm]using h),Re Key×V,(by rw[u_];lia),SL D×aM sh,(by simp[hx]),(λ_ _=>False),Nk r ρ s' e,(rooms l).map iN,j+1,(none,()),a[i]'(by lia),b[j]'(by lia),(by kernel_rfl),(λ_ _ q=>v_ _ q),mF (.int 2),fD r F A[i],κ×V,OH ?O])
 let some i:="A C E G H M N S T jb jc jd jk jl jn js jt jv jx jy jz jA jB jD jE jI jJ jK jO jQ jR jT jV jX j0 j8 j9 qd qg qh qk ql qm qv qy qA qE qF qG qI qJ qK qL qM qP qS qV qW qX".splitOn.idxOf? n|Lean.Macro.throwUnsupported
 return l.raw[1][2*i]
abbrev Re:=@List
abbrev SL:=@Option
abbrev SZ:=PySem.Value
abbrev Tk:=PySem.Shared
abbrev Tl:=PySem.Addr
abbrev TD:=PySem.Program
abbrev TW:=PySem.World
abbrev Uf:=PySem.Expr
abbrev UF:=@Array
abbrev UV:=PySem.Around
abbrev Wp:=PySem.Heap
def f_:=@PySem.wpAny_bind
def l_:=@PySem.wpAny_pure
def v_:=@PySem.Heap.get?_push_of_some
def u_:=@List.length_map
def cN:=@PySem.Heap.get?_push_size
def xP:=@List.length_append
def xO:=@List.mem_cons_of_mem
def aR:=@List.mem_append_left
def aQ:=@decide_eq_true_eq
abbrev t_:=PySem.Value->PySem.Shared->Prop
abbrev w_:=Re<|PySem.Addr×PySem.Obj
abbrev R1:=PySem.Str->SL PySem.Value
section
open PySem PySem.Spec PyProof.Rows
def ac:=@Nat.zero_le
def ai:=@Nat.le_refl
def am:=@Bool.and_eq_true
def ap:=@if_pos
def aw:=@List.map_cons
def ax:=@List.getElem?_eq_getElem
def ay:=@Array.getElem?_eq_getElem
def ba:=@if_neg
def be:=@decide_eq_true
def bi:=@decide_eq_false
def bj:=@Heap.lt_size
def cr:=@wpS_bind
def da:=@List.mem_cons_self
def di:=@Nat.le_trans
def du:=@wpS_pure
def eg:=@Nat.lt_of_lt_of_le
def eh:=@Nat.ne_of_lt
def eE:=@List.mem_append_right
def eT:=@List.getElem?_set_ne
def fu:=@List.getD_eq_getElem?_getD
def f8:=@List.length_cons
def gh:=@PySem.boot_len
def gi:=@List.map_append
def gs:=@List.getElem?_set_self
def gu:=@Array.length_toList
def ib:=@List.getElem_mem
def ic:=@List.map_map
def ig:=@List.size_toArray
def im:=@List.map_congr_left
def io:=@wpAny_newObj_type
def ir:=@List.find?_cons
def je:=@List.append_nil
def kw:=@wpAny_field
def li:=@List.drop_eq_getElem_cons
def mo:=@wpAny_callSpecial?_slot
def ng:=@List.foldl_cons
def nu:=@Nat.lt_irrefl
def ny:=@PyProof.Rows.callWith_type1
def ou:=@List.getElem_of_mem
def pd:=@wpAny_call_entry
def pi:=@Array.toList_extract
def pr:=@List.getElem?_append_left
def pI:=@List.extract_eq_take_drop
def qu:=@wpAny_setField_rec
def re:=@wpAny_pyIter_tuple
def r9:=@Obj.data_mapFields
def se:=@List.take_of_length_le
def si:=@Bool.or_eq_true
def su:=@List.all_eq_true
def tu:=@List.length_filter_le
def ua:=@wpS_forRange
def ue:=@List.getElem?_map
def ug:=@decide_eq_false_iff_not
def ul:=@List.mem_of_getElem?
def um:=@wpAny_holding
def ur:=@List.mem_of_find?_eq_some
def ut:=@PySem.mem_of_lookup
def u8:=@List.filterMap_cons
def wa:=@List.append_assoc
def wn:=@List.length_singleton
def wo:=@Heap.size_push
def wE:=@Nat.ne_of_gt
def wP:=@List.length_zipIdx
def wS:=@Array.size_extract
def wT:=@List.length_take
def xt:=@List.mem_cons
def xv:=@Heap.get?_update_self
def xz:=@wpAny_Call_Name_kw
def ye:=@tupleKind_room_in1
def yi:=@Nat.lt_of_le_of_lt
def yp:=@Heap.size_update
def y9:=@wpAny_seqItems
def zi:=@Heap.get?_push_ne
def aZ:=@Heap.get?_update_other
def xM:=@List.not_mem_nil
def uD:=@List.take_append_drop
def rq:=@PySem.W.kia_one
def n_:=@Nat.lt_succ_of_lt
def dD:=@List.flatMap_cons
def i7:=@Int.toNat_natCast
def xA:=@Int.le_refl
def nv:=@Bool.not_eq_true'
def nr:=@wpAny_rule
def vU:=@PyProof.Rows.slot_tuple_getitem
def zd:=@if_true
def nz:=@wpAny_setField
def rV:=@List.length_drop
def kj:=@List.filter_cons
def wv:=@List.drop_length
def oS:=@wpAny_mono
def q9:=@wpAny_passesOwn
def yT:=@List.length_nil
def xp:=@PySem.F.slot_dict_get
def jH:=@Obj.isFreed_of_fields
def vR:=@Array.getElem?_toList
def mr:=@wpAny_truthy_bool
def jz:=@wpAny_pyIter_list
def jA:=@List.length_range
def i4:=@wpS_mono
def wC:=@F.slot_tuple_iterator_next
def iD:=@wpAny_typeOf
def uO:=@List.getElem_map
def vV:=@List.ext_getElem
def zM:=@wpAny_attempt
def sO:=@List.any_cons
def ku:=@Bool.eq_iff_iff
def xx:=@PySem.F.plainAttrs_list
def zg:=@PySem.F.args_dict_get_2
def lB:=@wpAny_dictEntries
def km:=@PySem.F.entry_dict_get
def gO:=@Nat.le_of_lt
def vc:=@List.pairwise_map
def vf:=@List.nodup_nil
def vd:=@List.nodup_append
def vg:=@Calls.callWith_builtin
def tm:=@wpAny_typeNameOfWhole_itemiter
def nA:=@wpAny_isInstance
def jm:=@List.all_cons
def ud:=@wpAny_typeNameOfWhole_keyiter
def sC:=@wpAny_letGo
def sD:=@List.of_mem_zip
def tO:=@List.mem_filter
def ze:=@Heap.get?_update_ne
def rD:=@Array.toList_append
def jk:=@decide_false
def xy:=@or_false
def qc:=@call_meets
def qV:=@List.map_inj_right
def zx:=@List.getElem?_append_right
def vI:=@List.drop_drop
def tP:=@Calls.spliced_cons
def wI:=@wpS_get
def wH:=@sizeLine_eq
def e8:=@Obj.cls_mapFields
def bP:=@List.reverse_cons
def xL:=@List.ext_getElem?
def uR:=@Calls.spliced_nil
def qp:=@Array.toList_push
def uz:=@listUpdate_at
def kG:=@PySem.F.args_tuple_add_2
def hV:=@List.sum_cons
def mR:=@List.getElem?_take_of_lt
def tj:=@List.Pairwise.imp_of_mem
def lw:=@if_false
def pJ:=@PySem.F.entry_tuple_add
def mJ:=@wpS_modify
def u9:=@wpAny_isOneOf_itemiter
def rR:=@size_push'
def qZ:=@listItems_at
def q8:=@call_meetsIn
def w9:=@PySem.F.slot_tuple_add
def gc:=@Nat.lt_trans
def lO:=@List.range_succ_eq_map
def u3:=@wpAny_execs_nil
def qb:=@wpAny_dictEpoch
def hZ:=@get?_update_seq
def lV:=@codeAny_builtin
def oB:=@List.nodup_cons
def yC:=@F.slot_zip_next
def yB:=@wpAny_notOrdered_dict
def sZ:=@List.getElem?_eq_none
end
namespace L2
open PySem PySem.Spec PyProof.Rows
variable {s:Tk}{pos p:Pos}{pins:w_}{x:Str}{u:SZ}{h h':Wp}{P:TD}{w:TW}{A:UV}{e tg c:Uf}{t':Nat}{E:t_}{o:Obj}{us:Re SZ}{es:Re Uf}{f:SZ->SZ->Sem SZ}{ch fp:Re Tl}{Q:Unit->Tk->Prop}{op:Operator}{body:Re Stmt}
abbrev Key:=Sum Int Str
def uX:Key->SZ->Bool
 | .inl k,v=>Value.isInt k v
 | .inr x,v=>Value.isStrOf x v
def xB(w:TW):Key->Int
 | .inl k=>hashInt k
 | .inr x=>hashStr w x
def Rb:∀{k:Key} {v:SZ},uX k v=true->(∃i t,k=Sum.inl i/\v=Value.int i t)\/(∃x t,k=Sum.inr x/\v=Value.str x t)
 | .inl i,v,h=>by
  let{t,e}:=Value.isInt_shape   h
  grind
 | .inr x,v,h=>by
  let{t,e}:=Value.isStrOf_shape   h
  grind
def Dd(i:Int)(t:Tok):uX (.inl i) (.int i t)=true:=by simp[uX,Value.isInt]
def Dc(x:Str)(t:Tok):uX (.inr x) (.str x t)=true:=by simp[uX,Value.isStrOf]
def Lr(a b:Int):decide ((Sum.inl a:Key)=Sum.inl b)=(a==b):=by
 grind
def Lm(a b:Str):decide ((Sum.inr a:Key)=Sum.inr b)=decide (a=b):=by
 grind
def Lo(a:Int)(b:Str):decide ((Sum.inl a:Key)=Sum.inr b)=false:=bi λq=>nomatch q
def Ln(a:Str)(b:Int):decide ((Sum.inr a:Key)=Sum.inl b)=false:=bi λq=>nomatch q
def ci(prog:TD)(w:TW):PySem.KeyKind prog w Key where
 is:=uX
 hash:=xB w
 inj:=λv a b ha hb=>by
  let{i,t,rfl,rfl}||{x,t,rfl,rfl}:=Rb ha
  ·let{j,u,rfl,e}||{y,u,rfl,e}:=Rb hb
   ·grind
   ·exact nomatch e
  ·let{j,u,rfl,e}||{y,u,rfl,e}:=Rb hb
   ·exact nomatch e
   grind
 byValue:=λk v h=>by
  let{i,t,rfl,rfl}||{x,t,rfl,rfl}:=Rb h<;>rfl
 pyHash:=λhv h=>by
  let{i,t,rfl,rfl}||{x,t,rfl,rfl}:=Rb hv
  ·exact wpAny_pyHash_int h
  ·exact wpAny_pyHash_str h
 eqBool:=λhu hv h=>by
  let{i,t,rfl,rfl}||{x,t,rfl,rfl}:=Rb hu
  ·let{j,u,rfl,rfl}||{y,u,rfl,rfl}:=Rb hv
   ·rw[Lr]at h;exact wpAny_eqBool_int h
   ·rw[Lo]at h;exact SeqAt.EqAt.int_str i t y u _ _ _ _ h
  ·let{j,u,rfl,rfl}||{y,u,rfl,rfl}:=Rb hv
   ·rw[Ln]at h;exact SeqAt.EqAt.str_int x t j u _ _ _ _ h
   ·rw[Lm]at h;exact wpAny_eqBool_str h
 «strs»:=λk x t v h=>by
  let{i,u,rfl,e}||{y,u,rfl,e}:=Rb h
  ·exact nomatch e
  ·injection e with e1 _;subst e1
   cases v<;>rfl
def Sk(prog:TD)(w:TW)(i:Int)(t:Tok):(ci prog w).is (.inl i) (.int i t)=true:=Dd i t
def RW(prog:TD)(w:TW)(x:Str)(t:Tok):(ci prog w).is (.inr x) (.str x t)=true:=Dc x t
inductive V where
 | Rq|bl (b:Bool)|int (i:Int)|str (x:Str)|byt (b:UF UInt8)|flt (b:UInt64)|ref (a:Tl)|ty (n:String)
 deriving DecidableEq
noncomputable def RelV:V->SZ->Prop
 | .Rq,u=>u=Value.none
 | .bl b,u=>u=Value.bool b
 | .int i,u=>∃t,u=Value.int i t
 | .str x,u=>∃t,u=Value.str x t
 | .byt b,u=>∃t,u=Value.bytes b t
 | .flt b,u=>∃t,u=Value.float b t
 | .ref a,u=>u=Value.ref a
 | .ty n,u=>u=Value.type n
abbrev Vals:Re V->Re SZ->Prop:=Paired RelV
theorem Vals.length{xs:Re V}(r:Vals xs us):xs.length=us.length:=Paired.length r
theorem Vals.get:∀{xs:Re V} {us:Re SZ} {i:Nat} {x:V},Vals xs us->xs[i]? = some x->∃u,us[i]? = some u/\RelV x u
 | _,_,_,_,.nil,e=>by simp at e
 | _,_,0,_,.cons r _,e=>by grind
 | _,_,i+1,x,.cons _ t,e=>by
  let{u,h1,h2}:=Vals.get   t<|(e)
  grind
theorem Vals.set{x:V}(r:RelV x u):∀{xs:Re V} {us:Re SZ} (i:Nat),Vals xs us->Vals (xs.set i x) (us.set i u)
 | _,_,_,.nil=>.nil
 | _,_,0,.cons _ t=>.cons r t
 | _,_,i+1,.cons q t=>.cons q<|Vals.set r i t
theorem Vals.append:∀{xs ys:Re V} {us ws:Re SZ},Vals xs us->Vals ys ws->Vals (xs++ys) (us++ws):=by
 intro xs ys us ws h s
 induction h with
 | nil=>exact s
 | cons r _ ih=>exact .cons r ih
theorem Vals.take:∀{xs:Re V} {us:Re SZ} (n:Nat),Vals xs us->Vals (xs.take n) (us.take n)
 | _,_,0,_=>.nil
 | _,_,_+1,.nil=>.nil
 | _,_,n+1,.cons r t=>.cons r<|Vals.take n t
theorem Vals.drop:∀{xs:Re V} {us:Re SZ} (n:Nat),Vals xs us->Vals (xs.drop n) (us.drop n)
 | _,_,0,r=>r
 | _,_,_+1,.nil=>.nil
 | _,_,n+1,.cons _ t=>Vals.drop n t
noncomputable def SU:SL V->SL SZ->Prop
 | some v,some u=>RelV v u
 | none,none=>True
 | _,_=>False
noncomputable def KV{κ:Type}:Re ?qW->Re (κ×SZ)->Prop:=Paired λ(p:κ×V) (q:κ×SZ)=>p.1=q.1/\RelV p.2 q.2
def kV:Key->V
 | .inl i=>.int i
 | .inr x=>.str x
inductive HO where
 | lst (xs:Re V)
 | tup (xs:Re V)
 | dK (kvs:Re (Key×V))|dT (kvs:Re (Re Key×V))
 | set (S:Int->Bool) (n:Nat)
 | ins (C dx:Tl) (fs:Re (Str×V))
 | own (x:Tl)
 | xd (fs:Re (Str×V))
 | met (f x:Tl)
 | YH (lo hi:Int)
 | Rm (o:Obj) (u:HO)
 | ZU (ps:UF SZ)
 | obj (o:Obj)
 | ext (φ:Wp->Prop)
abbrev Hp:=Tl->SL HO
@[grind] def upd(H:Hp)(a:Tl)(o:HO):Hp:=λb=>if b=a then some o else H b
def UQ{H:Hp}{a:Tl}{o:HO}:upd H a o a=some o:=by grind
def G_{H:Hp}{a b:Tl}{o:HO}(h:b≠a):upd H a o b=H b:=by grind
def GX{H:Hp}{a:Tl}{o u:HO}:upd (upd H a o) a u=upd H a u:=by
 grind
def JI{H:Hp}{a b:Tl}{o u:HO}(h:H a=some o)(h':H b=some u)(d:o≠u):a≠b:=by
 grind
def At{H:Hp}{a b:Tl}{o:HO}(h:H a=some o)(h':H b=none):a≠b:=by
 grind
section
variable (P:TD) (w:TW)
noncomputable def _root_.L2.W6(h:Wp)(a:Tl):Prop:=∃o,h.get? a=some o/\o.dict=none
theorem _root_.L2.W6.new(h:Wp)(items:UF SZ):W6 (h.push { cls:=.type "tuple",data:=.seq items }) h.objs.size:={_,cN _ rfl,rfl}
def x_(H:Hp)(h:Wp)(a:Tl):HO->Prop
 | .lst xs=>xs.length<=sizeLine/\∃(i_:Re SZ) (n:Nat),Vals xs i_/\h.get? a=some { cls:=.type "list",data:=.seq i_.toArray n }
 | .tup xs=>xs.length<=sizeLine/\∃i_:Re SZ,Vals xs i_/\IsTup h a i_.toArray/\W6 h a
 | .dK kvs=>kvs.length<=sizeLine/\?jV=false/\∃vs,KV kvs vs/\h.DictOf (ci P w) a vs
 | .dT kvs=>kvs.length<=sizeLine/\?jV=false/\∃xs:Re ?jO,
   Paired (λ(p:Re Key×V) (q:Re Key×Tl×SZ)=>p.1=q.1/\H q.2.1=some (.tup<|p.1.map kV)/\RelV p.2 q.2.2) kvs xs /\
   ∃o es ep,h.get? a=some o/\o.ExactDict/\o.data=.dict es ep/\es.toList=xs.map (entryOfKey<|tupleKind<|ci P w)/\(xs.map (·.1)).Nodup
 | .set S n=>h.SetOf (intKind P w) a S n
 | .ins C dx fs=>H dx=some (.own a)/\fs.length<=1000/\dx≠a/\h.get? a=some (PySem.W.instObj C dx) /\
   ∃mA,h.Ns1 dx mA/\(∀f,SU (fs.lookup f)<|mA f)/\PySem.Within mA (fs.map (·.1))
 | .own _=>∃o,h.get? a=some o
 | .xd fs=>∃mA,h.Ns1 a mA/\∀f,SU (fs.lookup f)<|mA f
 | .YH lo hi=>∃t u v,h.get? a=some { cls:=.type "range",data:=.fields #[.int lo t,.int hi u,.int 1 v] }
 | .Rm o u=>h.get? a=some o/\x_ H h a u
 | .ZU ps=>h.get? a=some { cls:=.none,data:=.fields ps }
 | .obj o=>h.get? a=some o
 | .met f x=>h.get? a=some (PySem.W.methodObj (.ref f)<|.ref x)
 | .ext φ=>φ h/\(∃o,h.get? a=some o)/\∀h1 h2:Wp,φ h1->(∀o,h1.get? a=some o->h2.get? a=some o)->φ h2
noncomputable def RA(H:Hp)(h:Wp):Prop:=∀a o,H a=some o->x_ P w H h a o
end
section
variable {H H':Hp} {a:Tl} {o:HO}
theorem x_.lt(x:x_ P w H h a o):a<h.objs.size:=by
 cases o with
 | lst xs=>let{_,_,_,_,e}:=x;exact bj e
 | tup xs=>let{_,_,_,p}:=x;exact p.1.lt
 | dK kvs=>let{_,_,_,_,o,_,_,e,_}:=x;exact bj e
 | dT kvs=>let{_,_,_,_,o,_,_,e,_}:=x;exact bj e
 | set S n=>let{o,_,_,_,e,_}:=x;exact bj e
 | ins C dx fs=>let{_,_,_,e,_}:=x;exact bj e
 | own y=>let{_,e}:=x;exact bj e
 | xd fs=>let{_,{_,_,_,e,_},_}:=x;exact bj e
 | YH lo hi=>let{_,_,_,e}:=x;exact bj e
 | Rm ob u=>let{e,_}:=x;exact bj e
 | ZU ps=>exact bj<|(x)
 | obj ob=>exact bj<|(x)
 | met f y=>exact bj<|(x)
 | ext φ=>let{_,{_,e},_}:=x;exact bj e
def Paired.Z7{α β:Type}{F G:α->β->Prop}:∀{l₁:Re α} {l₂:Re β},Paired F l₁ l₂->(∀a b,F a b->G a b)->Paired G l₁ l₂:=by
 intro l₁ l₂ h f
 induction h with
 | nil=>exact .nil
 | cons r _ ih=>exact .cons (f _ _ r) ih
def x_.TU(x:x_ P w H h a o)(k:∀b u,(b=a\/H b=some (.own a))->h.get? b=some u->h'.get? b=some u)
  (ho:∀b,H b=some (.own a)->H' b=some (.own a)) (ht:∀b xs,H b=some (.tup xs)->H' b=some (.tup xs)):x_ P w H' h' a o:=by
 induction o with
 | lst xs=>let{z,i_,n,r,e}:=x;exact{z,i_,n,r,k _ _ (.inl rfl) e}
 | tup xs=>let{z,i_,r,{ob,e,c},ob2,e2,c2}:=x;exact{z,i_,r,{ob,k _ _ (.inl rfl) e,c},ob2,k _ _ (.inl rfl) e2,c2}
 | dK kvs=>let{z,y,vs,r,ob,es,ep,e,c}:=x;exact{z,y,vs,r,ob,es,ep,k _ _ (.inl rfl) e,c}
 | dT kvs =>
  let{z,y,xs,r,ob,es,ep,e,c}:=x;exact{z,y,xs,Paired.Z7 r λp q z=>{z.1,ht _ _ z.2.1,z.2.2},ob,es,ep,k _ _ (.inl rfl) e,c}
 | set S n=>let{ob,es,ep,t,e,c}:=x;exact{ob,es,ep,t,k _ _ (.inl rfl) e,c}
 | ins C dx fs =>
  let{d,z,ne,e,mA,{od,es,ep,e2,c},r}:=x;exact{ho _ d,z,ne,k _ _ (.inl rfl) e,mA,{od,es,ep,k _ _ (.inr d) e2,c},r}
 | own y=>let{ob,e}:=x;exact{ob,k _ _ (.inl rfl) e}
 | xd fs=>let{mA,{od,es,ep,e,c},r}:=x;exact{mA,{od,es,ep,k _ _ (.inl rfl) e,c},r}
 | YH lo hi=>let{t,u,v,e}:=x;exact{t,u,v,k _ _ (.inl rfl) e}
 | Rm ob u ih=>let{e,q}:=x;exact{k _ _ (.inl rfl) e,ih q}
 | ZU ps =>
  have e:h.get? a=some { cls:=.none,data:=.fields ps }:=x;show h'.get? a=some { cls:=.none,data:=.fields ps }
  grind
 | met f y =>
  have e:h.get? a=some (PySem.W.methodObj (.ref f)<|.ref y):=x;show h'.get? a=some (PySem.W.methodObj (.ref f)<|.ref y)
  grind
 | obj ob=>exact k a _ (.inl rfl)<|(x)
 | ext φ=>let{p,{o,e},st}:=x;exact{st _ _ p λo q=>k _ _ (.inl rfl) q,{o,k _ _ (.inl rfl) e},st}
theorem RA.lt(x:RA P w H h)(e:H a=some o):a<h.objs.size:=(x a o e).lt
theorem RA.fresh(x:RA P w H h)(e:h.objs.size<=a):H a=none:=by
 cases q:H a with
 | none=>rfl
 | some u=>exact absurd (eg (x.lt q) e)<|nu _
theorem RA.kept(x:RA P w H h)(k:∀b u,h.get? b=some u->h'.get? b=some u):RA P w H h':=λa o e =>
 (x a o e).TU (λb u _ q=>k b u q) (λ_ q=>q) λ_ _ q=>q
theorem RA.laid(x:RA P w H h)(k:∀b u,h.get? b=some u->h'.get? b=some u)(hp:h.objs.size<=a)(new:x_ P w (upd H a o) h' a o):RA P w (upd H a o) h':=λb u e=>by
 have hn:=x.fresh hp;by_cases hb:b=a
 ·grind
 ·rw[G_ hb]at e;exact(x b u e).TU (λc v _ q=>k c v q) (λc q=>by rw[G_<|At q hn];exact q) λc xs q=>by rw[G_<|At q hn];exact q
end
noncomputable def Rd(H:Hp)(a:Tl)(u:HO):Prop:=H a=some u\/∃o,H a=some (.Rm o u)
theorem Rd.ok{H:Hp}{a:Tl}{u:HO}(r:Rd H a u)(x:RA P w H h):x_ P w H h a u:=by
 let r||{o,r}:=r
 ·exact x a u r
 ·let{_,q}:=x a _ r;exact q
noncomputable def Mut:SL HO->Prop
 | some (.lst _)=>True
 | some (.dK _)=>True
 | some (.dT _)=>True
 | some (.set _ _)=>True
 | some (.obj _)=>True
 | some (.ins _ _ _)=>True
 | some (.ext _)=>True
 | _=>False
section
variable {H:Hp} {x e:Tl} {o':HO}
theorem RA.write(ok:RA P w H h)(mu:Mut (H x))(he:e=x\/H e=some (.own x))(k:∀b u,b≠e->h.get? b=some u->h'.get? b=some u)(heo:∃u,h'.get? e=some u)
  (new:x_ P w (upd H x o') h' x o'):RA P w (upd H x o') h':=λb u q=>by
 have zaK:∀c y,H c=some (.own y)->c≠x:=λc y r z=>by subst z;rw[r]at mu;exact mu
 have zaJ:∀c xs,H c=some (.tup xs)->c≠x:=λc xs r z=>by subst z;rw[r]at mu;exact mu
 by_cases hb:b=x
 ·grind
 ·rw[G_ hb]at q;by_cases hbe:b=e
  ·have q':H b=some (.own x):=by
    grind
   rw[q]at q';cases q';let{v,hv}:=heo;exact{v,by rw[hbe];exact hv}
  ·refine(ok b u q).TU (λc v hc r=>k c v ?_ r) (λc r=>by rw[G_<|zaK c b r];exact r) λc xs r=>by rw[G_<|zaJ c xs r];exact r
   grind
end
structure Un(fs ex:Re Tl)(H H':Hp)(h h':Wp):Prop where
 keep:∀b o,h.get? b=some o->H b=none->b∉fs->b∉ex->h'.get? b=some o
 slot:∀b o,h.get? b=some o->H b=none->b∈fs->b∉ex->∃sl,h'.get? b=some { o with slots:=sl }
 free:∀b o,h.get? b=some o->H b=none->b∉ex->H' b=none
 there:∀b o,h.get? b=some o->b∉ex->∃o',h'.get? b=some o'
 Tq:∀b xs,H b=some (.tup xs)->H' b=some (.tup xs)
 Tb:∀b o u,H b=some (.Rm o u)->H' b=some (.Rm o u)
 TR:∀b ps,H b=some (.ZU ps)->∃more,H' b=some (.ZU<|ps++more)
section
variable {fs fs' ex ex':Re Tl} {H H1 H2:Hp} {h1 h2:Wp} {a x e:Tl} {o:HO}
theorem Un.any(u:Un fs ex H H1 h h1){b:Tl}{ob:Obj}(q:h.get? b=some ob)(n:H b=none)(hx:b∉ex):∃sl,h1.get? b=some { ob with slots:=sl }:=by
 by_cases hb:b∈fs
 ·exact u.slot b ob q n hb hx
 ·exact{ob.slots,u.keep b ob q n hb hx}
theorem Un.kept(k:∀b u,h.get? b=some u->h'.get? b=some u):Un fs ex H H h h' :=
 {λb ob q _ _ _=>k b ob q,λb ob q _ _ _=>{ob.slots,k b ob q},λ_ _ _ n _=>n,λb ob q _=>{ob,k b ob q},λ_ _ q=>q,λ_ _ _ q=>q,λ_ ps q=>{#[],by rw[q];simp}}
theorem Un.refl:Un fs ex H H h h:=Un.kept λ_ _ q=>q
theorem Un.laid(k:∀b u,h.get? b=some u->h'.get? b=some u)(hp:h.objs.size<=a)(hn:H a=none):Un fs ex H (upd H a o) h h' where
 keep:=λb u q _ _ _=>k b u q
 slot:=λb u q _ _ _=>{u.slots,k b u q}
 free:=λb u q n _=>by rw[G_<|eh<|eg (bj q) hp];exact n
 there:=λb u q _=>{u,k b u q}
 Tq:=λb xs q=>by rw[G_<|At q hn];exact q
 Tb:=λb u xs q=>by rw[G_<|At q hn];exact q
 TR:=λb ps q=>{#[],by rw[G_<|At q hn,q];simp}
theorem Un.write(mu:Mut (H x))(he:e=x\/H e=some (.own x))(k:∀b u,b≠e->h.get? b=some u->h'.get? b=some u)(heo:∃u,h'.get? e=some u):Un fs ex H (upd H x o) h h':=by
 have hx:∀b,H b=none->b≠x:=λb n z=>by subst z;rw[n]at mu;exact mu
 have hb:∀b,H b=none->b≠e:=λb n z=>by
  subst z;let r||r:=he
  ·exact hx b n r
  ·rw[n]at r;cases r
 have hm:∀b u,H b=some u->¬ Mut (some u)->b≠x:=λb u q nm z=>by subst z;rw[q]at mu;exact nm mu
 refine{λb u q n _ _=>k b u (hb b n) q,λb u q n _ _=>{u.slots,k b u (hb b n) q},λb u q n _=>by rw[G_<|hx b n];exact n,λb u q _=>?_,
  λb xs q=>by rw[G_<|hm b _ q λz=>z];exact q,λb u xs q=>by rw[G_<|hm b _ q λz=>z];exact q,λb ps q=>{#[],by rw[G_<|hm b _ q λz=>z,q];simp}}
 grind
end
noncomputable def Ye(h:Wp)(H:Hp):Re Tl:=(List.range h.objs.size).filter λa=>(H a).isSome
def yt(h:Wp)(H:Hp):Wp:=PySem.W.hideAll h<|Ye h H
def Di(h:Wp)(H:Hp):(yt h H).objs.size=h.objs.size:=PySem.W.hideAll_size _ _
def FS{H:Hp}{b:Tl}(e:h.get? b=some o)(n:H b=none):(yt h H).get? b=some o :=
 PySem.W.hideAll_get _ e λhm=>by
  have q:=(List.mem_filter.mp hm).2;rw[n]at q;simp at q
def HN{H:Hp}{b:Tl}(e:(yt h H).get? b=some o):h.get? b=some o/\H b=none:=by
 have e':=PySem.W.of_hideAll (Ye h H) e;refine{e',?_}
 cases q:H b with
 | none=>rfl
 | some x =>
  have hm:b∈Ye h H:=List.mem_filter.mpr {List.mem_range.mpr<|bj e',by simp[q]};have z:(yt h H).get? b=none:=PySem.W.hideAll_none (Ye h H) hm;rw[z]at e;cases e
structure Mod(K:PySem.W.Frag)(mg:R1)(base:Wp):Prop where
 XG:K.In base
 glob:base.Ns mainGlobals mg
 blt:∃mb,base.Ns builtinsNs mb/\∀x:Str,x ≠ "__name__" -> mb x=bootBuiltins x
 nolimit:base.NoLimit
structure Cx where
 prog:TD
 w:TW
 K:PySem.W.Frag
 mg:Str->SL SZ
 base:Wp
 A:UV
 N:Re Str
 s₀:Tk
 H₀:Hp
 env:Env
 outer:Re Env
 stack:Re Env
 ex:Re Tl
 fn:Str->Bool
 calm:Bool
 pn:Re (Tl×Obj)
 xe:SZ->Tk->Prop
def cU(l:Re Env):Re Tl:=l.filterMap (·.frame)
abbrev Cx.fs(X:Cx):Re Tl:=cU X.outer
noncomputable def Vx(sc:Scope)(x:Str):Prop:=sc.names.lookup x=some .local\/sc.names.lookup x=some .cell\/sc.names.lookup x=some .free
noncomputable def Loc(sc:Scope)(x:Str):Prop:=sc.names.lookup x=some .local\/sc.names.lookup x=some .cell
noncomputable def Look(env:Env)(h:Wp)(m:R1)(x:Str)(u:SZ):Prop :=
 (env.kindOf x=some .local/\m x=some u)\/((env.kindOf x=some .cell\/env.kindOf x=some .free)/\∃c,env.cells.lookup x=some c/\h.IsCell c (some u))
structure Cx.Ok(X:Cx):Prop where
 mod:Mod X.K X.mg X.base
 kind:X.env.scope.kind=.function
 glob:X.env.globals=mainGlobals
 blt:X.env.builtins=builtinsNs
 above:X.s₀.heap.objs.size<=X.env.locals
 inj:∀x y c,X.env.cells.lookup x=some c->X.env.cells.lookup y=some c->x=y
 has:∀x,(X.env.kindOf x=some .cell\/X.env.kindOf x=some .free)->∃c,X.env.cells.lookup x=some c
 cab:∀x c,X.fn x=true->X.env.cells.lookup x=some c->X.s₀.heap.objs.size<=c
 hd:X.calm=true->X.A.handled=none
 frames:X.A.frames=some X.stack
 stk:X.stack=X.outer\/(X.stack=X.env::X.outer/\X.env.frame=some X.env.locals)
 exf:∀b∈X.ex,b≠X.env.locals/\∀x c,X.env.cells.lookup x=some c->c≠b
 bs:∀b o,X.base.get? b=some o->X.s₀.heap.get? b=some o/\X.H₀ b=none
 bsz:X.base.objs.size<=X.s₀.heap.objs.size
 Z6:∀b o,X.base.get? b=some o->b∉X.ex
 zag:∀b∈X.ex,b∉X.fs
 UD:X.s₀.heap.FunFrames X.base X.outer
 frf:∀b∈X.fs,X.H₀ b=none
structure Inv(X:Cx)(pins:w_)(Z:Re (SL V))(H:Hp)(s:Tk):Prop where
 ok:X.Ok
 os:s.os=X.s₀.os
 bare:AllBare s.gens
 base:Un X.fs X.ex X.H₀ H X.s₀.heap s.heap
 loc:∃m,s.heap.Ns X.env.locals m/\∀(i:Nat) (x:Str) (v:V),X.N[i]? = some x->Z[i]? = some (some v)->Vx X.env.scope x->∃u,RelV v u/\Look X.env s.heap m x u
 cell:∀x c,X.env.cells.lookup x=some c->∃v,s.heap.IsCell c v
 free:H X.env.locals=none
 Sx:∀x c,X.env.cells.lookup x=some c->H c=none
 pin:∀p∈X.pn++pins,s.heap.get? p.1=some p.2/\H p.1=none/\p.1≠X.env.locals/\p.1∉X.fs/\∀v,p.2.data≠.cell v
 j_:RA X.prog X.w H s.heap
 len:Z.length=X.N.length
section
variable {X:Cx} {Z:Re (SL V)} {H H':Hp}
def Cx.Ok.YM(ok:X.Ok){b:Tl}(e:X.base.get? b=some o):b∉X.fs:=λhb=>by
 have:=(ok.UD.mem hb).1
 grind
theorem Inv.bs(I:Inv X pins Z H s):∀b o,X.base.get? b=some o->s.heap.get? b=some o/\H b=none:=λb o e =>
 {I.base.keep b o (I.ok.bs b o e).1 (I.ok.bs b o e).2 (I.ok.YM e)<|I.ok.Z6 b o e,I.base.free b o (I.ok.bs b o e).1 (I.ok.bs b o e).2<|I.ok.Z6 b o e}
theorem Inv.bk(I:Inv X pins Z H s):∀b o,X.base.get? b=some o->s.heap.get? b=some o:=λb o e=>(I.bs b o e).1
theorem Inv.mod(I:Inv X pins Z H s):Mod X.K X.mg X.base:=I.ok.mod
def Inv.Vb(I:Inv X pins Z H s):X.K.In s.heap:=I.ok.mod.XG.keeps I.bk
theorem Inv.lt(I:Inv X pins Z H s):X.env.locals<s.heap.objs.size:=let ⟨_,hn,_⟩:=I.loc;hn.lt
theorem Inv.sz(I:Inv X pins Z H s):X.s₀.heap.objs.size<=s.heap.objs.size:=di I.ok.above<|gO I.lt
theorem Inv.zar(I:Inv X pins Z H s){a:Tl}(h:s.heap.objs.size<=a):a∉X.fs:=λhb=>by
 let{_,o,ho,_}:=I.ok.UD.mem hb;exact absurd (eg (bj ho)<|di I.sz h)<|nu _
theorem Inv.cne(I:Inv X pins Z H s):∀x c,X.env.cells.lookup x=some c->c≠X.env.locals:=λx c e z=>by
 let{v,o,ho,hd}:=I.cell x c e;let{m,{o',es,ep,Ve,hd',_},_}:=I.loc
 grind
def Inv.UD(I:Inv X pins Z H s):s.heap.FunFrames X.base X.outer:=by
 have all:∀(l:Re Env),(∀b∈cU l,b∈X.fs)->X.s₀.heap.FunFrames X.base l->s.heap.FunFrames X.base l:=by
  intro l
  induction l with
  | nil=>intro _ _;trivial
  | cons env r ih =>
   intro hs hl;let{hk,{L,o,hf,hn,ho,hd},hr}:=hl;have hL:=hs L (by unfold cU;grind);let{sl,e}:=I.base.slot L o ho (I.ok.frf L hL) hL λz=>I.ok.zag L z hL
   exact{hk,{L,_,hf,hn,e,hd},ih (λb hb=>hs b (by unfold cU;rw[u8,hf];exact xO _ hb)) hr}
 exact all X.outer (λ_ hb=>hb) I.ok.UD
theorem Inv.stack(I:Inv X pins Z H s):s.heap.FunFrames X.base X.stack:=by
 let e||{e,hf}:=I.ok.stk
 ·rw[e];exact I.UD
 ·rw[e];let{m,hn,_}:=I.loc;refine .cons (by rw[I.ok.kind];decide) hf hn ?_ I.UD;exact Heap.get?_none_of_le<|di I.ok.bsz I.ok.above
def Inv.Tr(I:Inv X pins Z H s):∀b∈cU X.stack,b∈X.env.locals::X.fs:=λb hb=>by
 let e||{e,hf}:=I.ok.stk
 ·grind
 ·rw[e]at hb;unfold cU at hb;rw[u8,hf]at hb;exact hb
def Inv.Uo(I:Inv X pins Z H s):∀b∈cU X.stack,H b=none:=λb hb=>by
 rcases List.mem_cons.mp (I.Tr b hb)with e|hb
 ·rw[e];exact I.free
 ·let{_,o,ho,_}:=I.ok.UD.mem hb;exact I.base.free b o ho (I.ok.frf b hb) λz=>I.ok.zag b z hb
theorem Inv.step{g':UF GenState}{d':Drawn}(I:Inv X pins Z H s)
  (UU:∀b∈ch,(b∈X.ex\/X.s₀.heap.objs.size<=b)/\b≠X.env.locals/\(∀x c,X.env.cells.lookup x=some c->c≠b)/\∀p∈X.pn++pins,p.1≠b)
  (keep:∀b o,b≠X.env.locals->b∉X.fs->b∉ch->s.heap.get? b=some o->H b=none->h'.get? b=some o)
  (slot:∀b o,b≠X.env.locals->b∈X.fs->b∉ch->s.heap.get? b=some o->H b=none->∃sl,h'.get? b=some { o with slots:=sl }) (free:∀b o,b∉ch->s.heap.get? b=some o->H b=none->H' b=none)
  (there:∀b o,b∉ch->s.heap.get? b=some o->∃o',h'.get? b=some o')
  (Tq:∀b xs,H b=some (.tup xs)->H' b=some (.tup xs)) (Tb:∀b o u,H b=some (.Rm o u)->H' b=some (.Rm o u)) (TR:∀b ps,H b=some (.ZU ps)->∃more,H' b=some (.ZU<|ps++more))
  (ns:∀m,s.heap.Ns X.env.locals m->h'.Ns X.env.locals m) (j_:RA X.prog X.w H' h') (hg:AllBare g') :
  Inv X pins Z H' { s with heap:=h',gens:=g',drawn:=d',toks:=t' }:=by
 have neL:∀b o,X.s₀.heap.get? b=some o->b≠X.env.locals:=λb o e=>eh<|eg (bj e) I.ok.above
 have neC:∀b o,X.s₀.heap.get? b=some o->b∉X.ex->b∉ch:=λb o e hx hb=>by
  rcases(UU b hb).1 with z|z
  ·exact hx z
  ·exact absurd (eg (bj e) z)<|nu _
 have cellK:∀x c,X.env.cells.lookup x=some c->∀v,s.heap.IsCell c v->h'.IsCell c v:=λx c e v ⟨o,ho,hd⟩=>by
  have nch:=λz=>(UU c z).2.2.1 x c e rfl
  by_cases hc:c∈X.fs
  ·let{sl,q}:=slot c o (I.cne x c e) hc nch ho<|I.Sx x c e;exact{_,q,hd}
  ·exact{o,keep c o (I.cne x c e) hc nch ho<|I.Sx x c e,hd}
 refine{I.ok,I.os,hg,{λb o e n hb hx=>?_,λb o e n hb hx=>?_,λb o e n hx=>?_,λb o e hx=>?_,λb xs e=>Tq b xs<|I.base.Tq b xs e,λb o xs e=>Tb b o xs<|I.base.Tb b o xs e,λb ps e=>?_},?_,λx c e=>?_,?_,λx c e=>?_,λp hp=>?_,j_,I.len}
 ·exact keep b o (neL b o e) hb (neC b o e hx) (I.base.keep b o e n hb hx)<|I.base.free b o e n hx
 ·let{sl,e1}:=I.base.slot b o e n hb hx;let{sl',e2}:=slot b _ (neL b o e) hb (neC b o e hx) e1<|I.base.free b o e n hx;exact{sl',e2}
 ·let{o',e1}:=I.base.there b o e hx;exact free b o' (neC b o e hx) e1<|I.base.free b o e n hx
 ·let{o',e1}:=I.base.there b o e hx
  grind
 ·let{m1,e1}:=I.base.TR b ps e
  grind
 ·let{m,hn,hl}:=I.loc;refine{m,ns m hn,λi x v e1 e2 e3=>?_};let{u,r,l}:=hl i x v e1 e2 e3;refine{u,r,?_};let l||{k,c,e,z}:=l
  ·exact .inl l
  ·exact .inr {k,c,e,cellK x c e _ z}
 ·let{v,z}:=I.cell x c e
  grind
 ·let{m,{o,_,_,ho,_},_}:=I.loc;exact free _ o (λz=>(UU _ z).2.1 rfl) ho I.free
 ·let{v,o,ho,hd}:=I.cell x c e;exact free c o (λz=>(UU c z).2.2.1 x c e rfl) ho<|I.Sx x c e
 ·let{e,n,ne,nf,d}:=I.pin p hp
  grind
theorem Inv.un(I:Inv X pins Z H s)(u:Un X.fs [] H H' s.heap h')(j_:RA X.prog X.w H' h'):Inv X pins Z H' { s with heap:=h',toks:=t' }:=by
 let{m,{o,es,ep,ho,r},_}:=id I.loc;let{sl,hL}:=u.any ho I.free ?E
 exact I.step   (ch:=[]) (λ_ z=>nomatch z) (λb o _ hb _ e n=>u.keep b o e n hb ?E) (λb o _ hb _ e n=>u.slot b o e n hb ?E) (λb o _ e n=>u.free b o e n ?E) (λb o _ e=>u.there b o e ?E) u.Tq u.Tb u.TR (λm' hm=>by
  let{o',W4,ep',Ve,r'}:=hm;rw[ho]at Ve;cases Ve
  exact{_,W4,ep',hL,r'}) j_ I.bare
theorem Inv.call{g':UF GenState}{d':Drawn}(I:Inv X pins Z H s)(u:Un (cU X.stack) ch H H' s.heap h')(j_:RA X.prog X.w H' h')(hg:AllBare g')
  (UU:∀b∈ch,(b∈X.ex\/X.s₀.heap.objs.size<=b)/\b≠X.env.locals/\(∀x c,X.env.cells.lookup x=some c->c≠b)/\∀p∈X.pn++pins,p.1≠b) :
  Inv X pins Z H' { s with heap:=h',gens:=g',drawn:=d',toks:=t' }:=by
 let{m,{o,es,ep,ho,r},_}:=id I.loc;let{sl,hL}:=u.any ho I.free λz=>(UU _ z).2.1 rfl
 exact I.step  UU (λb o hL hb hc e n=>u.keep b o e n (λz=>(List.mem_cons.mp<|I.Tr b z).elim hL hb) hc) (λb o _ _ hc e n=>u.any e n hc) (λb o hc e n=>u.free b o e n hc) (λb o hc e=>u.there b o e hc) u.Tq u.Tb u.TR (λm' hm=>by
  let{o',W4,ep',Ve,r'}:=hm;rw[ho]at Ve;cases Ve
  exact{_,W4,ep',hL,r'}) j_ hg
theorem Inv.turned{it:Tl}(I:Inv X pins Z H s)(k:∀b o,b≠it->s.heap.get? b=some o->h'.get? b=some o)(hn:H it=none)(hL:it≠X.env.locals)
  (h1:it∈X.ex\/X.s₀.heap.objs.size<=it) (h2:∀x c,X.env.cells.lookup x=some c->c≠it) (h3:∀p∈X.pn++pins,p.1≠it):Inv X pins Z H { s with heap:=h',toks:=t' }:=by
 refine I.step   (ch:=[it]) (λb hb=>?_) (λb o _ _ hc e _=>k b o (λz=>hc (by simp[z])) e) (λb o _ _ hc e _=>{o.slots,k b o (λz=>hc (by simp[z])) e}) (λ_ _ _ _ n=>n)
  (λb o hc e=>{o,k b o (λz=>hc (by simp[z])) e}) (λ_ _ e=>e) (λ_ _ _ e=>e) (λb ps e=>{#[],by rw[e];simp}) (λm hm=>?_) (λb u e=>?_) I.bare
 ·grind
 ·let{o,es,ep,ho,r}:=hm;exact{o,es,ep,k _ o (Ne.symm hL) ho,r}
 ·refine(I.j_ b u e).TU (λc v hc q=>k c v ?_ q) (λ_ q=>q) λ_ _ q=>q
  grind
theorem Inv.tok(I:Inv X pins Z H s)(t:Nat):Inv X pins Z H { s with toks:=t }:=I.un   Un.refl I.j_
theorem Inv.kept(I:Inv X pins Z H s)(k:∀b u,s.heap.get? b=some u->h'.get? b=some u):Inv X pins Z H { s with heap:=h',toks:=t' }:=I.un (Un.kept k)<|I.j_.kept k
theorem Inv.laid{a:Tl}{o:HO}(I:Inv X pins Z H s)(k:∀b u,s.heap.get? b=some u->h'.get? b=some u)(hp:s.heap.objs.size<=a)(new:x_ X.prog X.w (upd H a o) h' a o) :
  Inv X pins Z (upd H a o) { s with heap:=h',toks:=t' }:=I.un (Un.laid k hp<|I.j_.fresh hp)<|I.j_.laid k hp new
theorem Inv.write{x e:Tl}{o:HO}(I:Inv X pins Z H s)(mu:Mut (H x))(he:e=x\/H e=some (.own x))(k:∀b u,b≠e->s.heap.get? b=some u->h'.get? b=some u)(heo:∃u,h'.get? e=some u)
  (new:x_ X.prog X.w (upd H x o) h' x o):Inv X pins Z (upd H x o) { s with heap:=h',toks:=t' }:=I.un (Un.write mu he k heo)<|I.j_.write mu he k heo new
def Inv.Te{Zp:w_}(I:Inv X pins Z H s)(h:∀p∈Zp,s.heap.get? p.1=some p.2/\H p.1=none/\p.1≠X.env.locals/\p.1∉X.fs/\∀v,p.2.data≠.cell v):Inv X Zp Z H s :=
 {I.ok,I.os,I.bare,I.base,I.loc,I.cell,I.free,I.Sx,λp hp=>(List.mem_append.mp hp).elim (λz=>I.pin p<|aR _ z)<|h p,I.j_,I.len}
def Ba{N:Re Str}(hN:N.Nodup){i j:Nat}(a:N[i]? = some x)(b:N[j]? = some x):i=j:=by
 let{h1,e1}:=List.getElem?_eq_some_iff.mp a;let{h2,e2}:=List.getElem?_eq_some_iff.mp b;exact(List.getElem_inj hN).mp<|e1.trans e2.symm
def Ch{M:Model}{i:Nat}{v:V}(I:Inv X pins Z H s)(hN:X.N.Nodup)(hi:X.N[i]? = some x)(hx:Loc X.env.scope x)(r:RelV v u)
  (h:∀s',Inv X pins (Z.set i<|some v) H s'->(∃a,Heap.SameBut a s.heap s'.heap/\(a=X.env.locals\/X.env.cells.lookup x=some a))->Q () s') (hf:X.fn x=true\/X.env.scope.names.lookup x=some .local:=by first|exact .inl rfl|exact .inr rfl|assumption):wpAny M A (storeName X.env x u) Q E s:=by
 let{m,hn,hl}:=id I.loc;have zbj:(X.env.scope.kind==.class||(X.env.scope.kind==.module&&X.env.locals != X.env.globals))=false:=by rw[I.ok.kind];rfl
 have hiσ:i<Z.length:=by rw[I.len];grind
 have cne:=I.cne;have tracked:∀{a:Tl} {h':Wp},(∃o,s.heap.get? a=some o/\H a=none)->Heap.SameBut a s.heap h'->RA X.prog X.w H h':=λ{a h'} ha hs b ob e=>by
  refine(I.j_ b ob e).TU (λc w' hc q=>(hs.2 c ?_).trans q) (λ_ q=>q) λ_ _ q=>q
  grind
 let hk||hk:=hx
 ·refine wpAny_storeName_local hk hn (λh' hn' hs=>?_) zbj;let{oL,_,_,hoL,_}:=id hn;refine h _ {I.ok,I.os,I.bare,{λb o e n hb hx=>?_,λb o e n hb hx=>?_,I.base.free,λb o e hx=>?_,I.base.Tq,I.base.Tb,I.base.TR},{_,hn',λj y v' e1 e2 e3=>?_},λy c e=>?_,I.free,I.Sx,λp hp=>?_,tracked {oL,hoL,I.free} hs,by simpa using I.len} {_,hs,.inl rfl}
  ·exact(hs.2 b<|eh<|eg (bj e) I.ok.above).trans<|I.base.keep b o e n hb hx
  ·let{sl,e1}:=I.base.slot b o e n hb hx;exact{sl,(hs.2 b<|eh<|eg (bj e) I.ok.above).trans e1}
  ·let{o',e1}:=I.base.there b o e hx;exact{o',(hs.2 b<|eh<|eg (bj e) I.ok.above).trans e1}
  ·by_cases hj:j=i
   ·subst hj;rw[hi]at e1;cases e1;rw[gs hiσ]at e2
    cases e2
    exact{u,r,.inl {hk,by simp}}
   ·rw[eT<|Ne.symm hj]at e2;let{u',r',q}:=hl j y v' e1 e2 e3;refine{u',r',?_};let{k,e}||{k,c,e,z}:=q
    ·refine .inl {k,?_};have:y≠x:=λe=>hj<|Ba hN e1<|e▸hi
     simp[this,e]
    ·exact .inr {k,c,e,z.sameBut hs<|cne y c e}
  ·let{w',z}:=I.cell y c e;exact{w',z.sameBut hs<|cne y c e}
  ·let{e,n,ne,nf,d}:=I.pin p hp;exact{(hs.2 p.1 ne).trans e,n,ne,nf,d}
 ·have XZ:X.fn x=true:=by
   grind
  let{c,hc}:=I.ok.has x<|.inl hk;let{w',z}:=I.cell x c hc;refine wpAny_storeName_cell I.ok.kind hk hc z λh' Ta hs=>?_;let{oc,hoc,zbt}:=id z;refine h { s with heap:=h' } {I.ok,I.os,I.bare,{λb o e n hb hx=>?_,λb o e n hb hx=>?_,I.base.free,λb o e hx=>?_,I.base.Tq,I.base.Tb,I.base.TR},{m,hn.sameBut hs<|Ne.symm<|cne x c hc,λj y v' e1 e2 e3=>?_},λy c' e=>?_,I.free,I.Sx,λp hp=>?_,tracked {oc,hoc,I.Sx x c hc} hs,by simpa using I.len} {c,hs,.inr hc}
  ·exact(hs.2 b<|eh<|eg (bj e)<|I.ok.cab x c XZ hc).trans<|I.base.keep b o e n hb hx
  ·let{sl,e1}:=I.base.slot b o e n hb hx;exact{sl,(hs.2 b<|eh<|eg (bj e)<|I.ok.cab x c XZ hc).trans e1}
  ·let{o',e1}:=I.base.there b o e hx;exact{o',(hs.2 b<|eh<|eg (bj e)<|I.ok.cab x c XZ hc).trans e1}
  ·by_cases hj:j=i
   ·subst hj;rw[hi]at e1;cases e1;rw[gs hiσ]at e2
    cases e2
    exact{u,r,.inr {.inl hk,c,hc,Ta}}
   ·rw[eT<|Ne.symm hj]at e2;let{u',r',q}:=hl j y v' e1 e2 e3;refine{u',r',?_};let q||{k,c',e,z'}:=q
    ·exact .inl q
    ·refine .inr {k,c',e,z'.sameBut hs ?_};rintro rfl;exact hj<|Ba hN e1<|I.ok.inj _ _ _ e hc▸hi
  ·by_cases VE:c'=c
   ·grind
   ·let{w2,z2}:=I.cell y c' e;exact{w2,z2.sameBut hs VE}
  ·let{e,n,ne,nf,d}:=I.pin p hp;refine{(hs.2 p.1 ?_).trans e,n,ne,nf,d}
   grind
def Cn{M:Model}{i:Nat}{v:V}(I:Inv X pins Z H s)(hN:X.N.Nodup)(hi:X.N[i]? = some x)(hx:Loc X.env.scope x)(r:RelV v u)
  (h:∀s',Inv X pins (Z.set i<|some v) H s'->Q () s') (hf:X.fn x=true\/X.env.scope.names.lookup x=some .local:=by first|exact .inl rfl|exact .inr rfl|assumption):wpAny M A (storeName X.env x u) Q E s :=
 Ch I hN hi hx r (λs' I' _=>h s' I') hf
def Inv.ZK{s':Tk}(I:Inv X pins Z H s)(ho:s'.os=s.os)(u:Un (cU X.stack) ch H H' s.heap s'.heap)(j_:RA X.prog X.w H' s'.heap)(hg:AllBare s'.gens)
  (UU:∀b∈ch,(b∈X.ex\/X.s₀.heap.objs.size<=b)/\b≠X.env.locals/\(∀x c,X.env.cells.lookup x=some c->c≠b)/\∀p∈X.pn++pins,p.1≠b):Inv X pins Z H' s':=by
 let{h',g',d',t',o'}:=s';have e:=ho;subst e;exact I.call    u j_ hg UU
end
abbrev XK:=SZ->SL Tl->Hp->Prop
abbrev St:=Re<|SL V
abbrev VK:=V->Hp->Prop
abbrev TE:=St->Hp->VK->Prop
abbrev TT:=St->Hp->(Bool->Hp->Prop)->Prop
abbrev TA:=St->Hp->(Re V->Hp->Prop)->Prop
structure Ends where
 nx:St->Hp->Prop
 rt:VK
 bk:St->Hp->Prop:=λ_ _=>False
 ct:St->Hp->Prop:=λ_ _=>False
abbrev TS:=Ends->St->Hp->Prop
def uN(X:Cx)(pins:w_)(Z:St)(Q:VK)(u:SZ)(s':Tk):Prop:=∃v H',Inv X pins Z H' s'/\RelV v u/\Q v H'
def rM(X:Cx)(pins:w_)(Z:St)(Q:Bool->Hp->Prop)(b:Bool)(s':Tk):Prop:=∃H',Inv X pins Z H' s'/\Q b H'
def lj(X:Cx)(pins:w_)(Z:St)(Q:Re V->Hp->Prop)(us:Re SZ)(s':Tk):Prop:=∃vs H',Inv X pins Z H' s'/\Vals vs us/\Q vs H'
def cB(X:Cx)(pins:w_)(D:Ends)(f:Flow)(s':Tk):Prop :=
 match f with
 | .next=>∃σ' H',Inv X pins σ' H' s'/\D.nx σ' H'
 | .brk=>∃σ' H',Inv X pins σ' H' s'/\D.bk σ' H'
 | .cont=>∃σ' H',Inv X pins σ' H' s'/\D.ct σ' H'
 | .ret u=>∃v σ' H',Inv X pins σ' H' s'/\RelV v u/\D.rt v H'
def cM(X:Cx)(e:Uf)(t:TE):Prop :=
 ∀(pins:w_) (s:Tk) (Z:St) (H:Hp) (Q:VK),Inv X pins Z H s->t Z H Q->wpAny ?B X.A (eval e X.env) ?jq X.xe s
def gT(X:Cx)(e:Uf)(t:TT):Prop :=
 ∀(pins:w_) (s:Tk) (Z:St) (H:Hp) (Q:Bool->Hp->Prop),Inv X pins Z H s->t Z H Q->wpAny ?B X.A (isTrue e X.env<|eval e X.env) ?qr X.xe s
def qq(X:Cx)(e:Uf)(t:TT):Prop :=
 ∀(whole:Sem SZ) (pins:w_) (s:Tk) (Z:St) (H:Hp) (Q:Bool->Hp->Prop),Inv X pins Z H s->t Z H Q->wpAny ?B X.A (isTrue e X.env whole) ?qr X.xe s
def sY(X:Cx)(es:Re Uf)(t:TA):Prop :=
 ∀(pos:Pos) (pins:w_) (s:Tk) (Z:St) (H:Hp) (Q:Re V->Hp->Prop),Inv X pins Z H s->t Z H Q->wpAny ?B X.A (spliced<|backTo pos ?W) (lj X pins Z Q) X.xe s
def sP(X:Cx)(st:Stmt)(t:TS):Prop :=
 ∀(pins:w_) (s:Tk) (Z:St) (H:Hp) (D:Ends),Inv X pins Z H s->t D Z H->wpAny ?B X.A (exec st X.env) (cB X pins D) X.xe s
def zA(X:Cx)(st:Re Stmt)(t:TS):Prop :=
 ∀(pins:w_) (s:Tk) (Z:St) (H:Hp) (D:Ends),Inv X pins Z H s->t D Z H->wpAny ?B X.A (execs st X.env) (cB X pins D) X.xe s
def Db{α:Type}{t:Sem α}{Q Q':α->Tk->Prop}{M:Model}(h:wpAny M A t Q E s)(hQ:∀a s,Q a s->Q' a s):wpAny M A t Q' E s:=oS h hQ λ_ _ x=>x
section
variable {X:Cx}
def lF(i:Nat):TE:=λZ H Q=>∃v,Z[i]? = some (some v)/\Q v H
def tC(v:V):TE:=λ_ H Q=>Q v H
def Er{i:Nat}(hN:X.N[i]? = some x)(hv:Vx X.env.scope x)(hd:(x==("__debug__" : Str))=false:=by decide)(RB:(x==("__classdict__" : Str))=false:=by decide):cM X (.Name x pos) (lF i):=by
 intro pins s Z H Q I h;let{v,e,h}:=h;let{m,hn,hl}:=I.loc;let{u,r,l}:=hl i x v hN e hv;have fin:uN X pins Z Q u s:={v,H,I,r,h};let{hk,hm}||{hk,c,hc,Ua}:=l
 ·exact wpAny_Name (wpAny_loadName_local I.ok.kind hk hn hm fin) hd
 ·let hk||hk:=hk
  ·exact wpAny_Name (wpAny_loadName_cell I.ok.kind hk hc Ua fin) hd
  ·exact wpAny_Name (wpAny_loadName_free I.ok.kind hk hc Ua fin RB) hd
def ET{i j pos}:cM X (.Constant (.int i) j pos) (tC<|.int i):=λ_ _ _ H _ I h=>wpAny_Constant_int {.int i,H,I.tok _,{_,rfl},h}
def Nd{b j pos}:cM X (.Constant (.bool b) j pos) (tC<|.bl b):=λ_ _ _ H _ I h=>Constant_bool {.bl b,H,I,rfl,h}
def KI{j pos}:cM X (.Constant .none j pos) (tC .Rq):=λ_ _ _ H _ I h=>Constant_none {.Rq,H,I,rfl,h}
def KG{x j pos}:cM X (.Constant (.str x) j pos) (tC<|.str x):=λ_ _ _ H _ I h=>Calls.Constant_str {.str x,H,I.tok _,{_,rfl},h}
def uf(X:Cx)(x:Str):Prop:=X.env.kindOf x=some .globalImplicit
def Bq{Z:St}{H:Hp}{Q:t_}(I:Inv X pins Z H s)(hg:uf X x)(hm:X.mg x=some u)(h:Q u s)
  (hd:(x==("__debug__" : Str))=false:=by decide):wpAny ?B X.A (eval (.Name x pos) X.env) Q E s :=
 Calls.Name_function_global I.ok.kind hg (Calls.loadGlobal_global (by rw[I.ok.glob];exact I.mod.glob.keeps I.bk) hm h) hd
def Go{Z:St}{H:Hp}{Q:t_}(I:Inv X pins Z H s)(hg:uf X x)(hm:X.mg x=none)(hv:bootBuiltins x=some u)(h:Q u s)
  (hn:x ≠ "__name__":=by decide) (hd:(x==("__debug__" : Str))=false:=by decide):wpAny ?B X.A (eval (.Name x pos) X.env) Q E s:=by
 let{mb,h1,h2}:=I.mod.blt;exact Calls.Name_function_global I.ok.kind hg (Calls.loadGlobal_builtin (by rw[I.ok.glob];exact I.mod.glob.keeps I.bk) hm (by rw[I.ok.blt];exact h1.keeps I.bk) ((h2 x hn).trans hv) h) hd
def Hz{v:V}(hg:uf X x)(hm:X.mg x=none)(hv:bootBuiltins x=some u)(r:RelV v u)(hn:x ≠ "__name__":=by decide)(hd:(x==("__debug__" : Str))=false:=by decide):cM X (.Name x pos) (tC v) :=
 λ_ _ _ H _ I h=>Go I hg hm hv {v,H,I,r,h} hn hd
variable {a b:Uf} {ta tb:TE}
variable {tA tB':TT} {rest:Re Uf}
def zH(t u:TT):TT:=λZ H Q=>t Z H λc H1=>if c=true then u Z H1 Q else Q false H1
def tOr(t u:TT):TT:=λZ H Q=>t Z H λc H1=>if c=true then Q true H1 else u Z H1 Q
def zL(t:TT):TT:=λZ H Q=>t Z H λc H1=>Q (!c) H1
def AR(ha:gT X a tA):qq X (.BoolOp .And [a] pos) tA:=by
 intro wh pins s Z H Q I h;refine isTrue_and<|Db (ha pins s Z H Q I h) λc s1 e=>?_
 cases c with
 | true=>exact isTrue_and_nil e
 | false=>exact e
def Ky(ha:gT X a tA):qq X (.BoolOp .Or [a] pos) tA:=by
 intro wh pins s Z H Q I h;refine isTrue_or<|Db (ha pins s Z H Q I h) λc s1 e=>?_
 cases c with
 | false=>exact isTrue_or_nil e
 | true=>exact e
def ED(ha:gT X a tA)(hb:qq X (.BoolOp .And (b::rest) pos) tB'):qq X (.BoolOp .And (a::b::rest) pos) (zH tA tB'):=by
 intro wh pins s Z H Q I h;refine isTrue_and<|Db ?jj λc s1 ⟨H1,I1,q1⟩=>?_
 cases c with
 | true=>exact hb wh pins s1 Z H1 Q I1 q1
 | false=>exact{H1,I1,q1}
def M6(ha:gT X a tA)(hb:qq X (.BoolOp .Or (b::rest) pos) tB'):qq X (.BoolOp .Or (a::b::rest) pos) (tOr tA tB'):=by
 intro wh pins s Z H Q I h;refine isTrue_or<|Db ?jj λc s1 ⟨H1,I1,q1⟩=>?_
 cases c with
 | true=>exact{H1,I1,q1}
 | false=>exact hb wh pins s1 Z H1 Q I1 q1
def Kz(ha:gT X a tA):gT X (.UnaryOp .Not a pos) (zL tA):=by
 intro pins s Z H Q I h;exact isTrue_not<|ha pins s Z H (λc H1=>Q (!c) H1) I h
def aL(ta tb:TE):TE:=λZ H Q=>ta Z H λx H1=>∃c,x=.bl c/\if c=true then tb Z H1 Q else Q (.bl false) H1
def fL(ta tb:TE):TE:=λZ H Q=>ta Z H λx H1=>∃c,x=.bl c/\if c=true then Q (.bl true) H1 else tb Z H1 Q
def rP(ta:TE):TE:=λZ H Q=>ta Z H λx H1=>∃c,x=.bl c/\Q (.bl<|!c) H1
def ER{op}{t:TE}(h:cM X a t):cM X (.BoolOp op [a] pos) t:=λpins s Z H Q I hw=>BoolOp_one<|h pins s Z H Q I hw
def EW(ha:cM X a ta)(hb:cM X (.BoolOp .And (b::rest) pos) tb):cM X (.BoolOp .And (a::b::rest) pos) (aL ta tb):=by
 intro pins s Z H Q I h;refine BoolOp_and<|Db ?jj λv s1 ⟨x,H1,I1,r1,q1⟩=>?_;let{c,rfl,q1}:=q1
 cases r1
 refine mr ?_
 cases c with
 | true=>exact hb pins s1 Z H1 Q I1 q1
 | false=>exact{.bl false,H1,I1,rfl,q1}
def Nb(ha:cM X a ta)(hb:cM X (.BoolOp .Or (b::rest) pos) tb):cM X (.BoolOp .Or (a::b::rest) pos) (fL ta tb):=by
 intro pins s Z H Q I h;refine BoolOp_or<|Db ?jj λv s1 ⟨x,H1,I1,r1,q1⟩=>?_;let{c,rfl,q1}:=q1
 cases r1
 refine mr ?_
 cases c with
 | false=>exact hb pins s1 Z H1 Q I1 q1
 | true=>exact{.bl true,H1,I1,rfl,q1}
def KH(ha:cM X a ta):cM X (.UnaryOp .Not a pos) (rP ta):=by
 intro pins s Z H Q I h;refine UnaryOp_<|Db ?jj λv s1 ⟨x,H1,I1,r1,q1⟩=>?_;let{c,rfl,q1}:=q1
 cases r1
 exact not_of<|mr {.bl<|!c,H1,I1,rfl,q1}
def tIf(t:TT)(ta tb:TE):TE:=λZ H Q=>t Z H λc H1=>if c=true then ta Z H1 Q else tb Z H1 Q
def Ix(hc:gT X c tA)(ha:cM X a ta)(hb:cM X b tb):cM X (.IfExp c a b pos) (tIf tA ta tb):=by
 intro pins s Z H Q I h;refine wpAny_IfExp<|Db (hc pins s Z H _ I h) λd s1 ⟨H1,I1,q1⟩=>?_
 cases d with
 | true=>exact ha pins s1 Z H1 Q I1 q1
 | false=>exact hb pins s1 Z H1 Q I1 q1
end
noncomputable def Ro(K:PySem.W.Frag)(H:Hp)(a:Tl)(xs:Re V):Prop :=
 Rd H a (.lst xs) \/
  ∃(o:Obj) (i_:UF SZ) (n:Nat),K.lookup a=some o/\o.cls=.type "list" /\ o.dict=none/\o.data=.seq i_ n/\i_.size<=sizeLine/\Vals xs i_.toList
noncomputable def A_(K:PySem.W.Frag)(H:Hp)(a:Tl)(xs:Re V):Prop :=
 Rd H a (.tup xs) \/
  ∃(o:Obj) (i_:UF SZ) (n:Nat),K.lookup a=some o/\o.cls=.type "tuple" /\ o.data=.seq i_ n/\i_.size<=sizeLine/\Vals xs i_.toList
def cV:SZ->SL V
 | .none=>some .Rq
 | .bool b=>some<|.bl b
 | .int i _=>some<|.int i
 | .str x _=>some<|.str x
 | .bytes b _=>some<|.byt b
 | .float b _=>some<|.flt b
 | .ref a=>some<|.ref a
 | .type n=>some<|.ty n
 | _=>none
theorem RelV.abs{x:V}(r:RelV x u):cV u=some x:=by
 cases x with
 | Rq=>cases r;rfl
 | bl _=>cases r;rfl
 | int _=>let{t,rfl}:=r;rfl
 | str _=>let{t,rfl}:=r;rfl
 | byt _=>let{t,rfl}:=r;rfl
 | flt _=>let{t,rfl}:=r;rfl
 | ref _=>cases r;rfl
 | ty _=>cases r;rfl
theorem RelV.inj{x y:V}(r:RelV x u)(q:RelV y u):x=y:=Option.some.inj<|r.abs.symm.trans q.abs
theorem Vals.inj:∀{xs ys:Re V} {us:Re SZ},Vals xs us->Vals ys us->xs=ys:=by
 intro xs ys us h
 induction h generalizing ys with
 | nil=>intro h2;cases h2;rfl
 | cons r _ ih =>
  intro h2
  cases h2 with
  | cons r' t'=>rw[r.inj r',ih t']
section
variable {X:Cx} {Z:St} {H:Hp} {a:Tl} {xs ys:Re V}
theorem Ro.of{K:PySem.W.Frag}(h:H a=some (.lst xs)):Ro K H a xs:=.inl<|.inl h
theorem A_.of{K:PySem.W.Frag}(h:H a=some (.tup xs)):A_ K H a xs:=.inl<|.inl h
theorem Inv.list(I:Inv X pins Z H s)(h:Ro X.K H a xs):∃i_:Re SZ,Vals xs i_/\PlainL s.heap a i_.toArray/\xs.length<=sizeLine:=by
 let h||{o,i_,n,hk,hc,hd,hs,hz,r}:=h
 ·let{z,i_,n,r,e}:=h.ok I.j_;exact{i_,r,{_,n,e,rfl,rfl,rfl},z}
 ·refine{i_.toList,r,{o,n,I.Vb a o hk,hc,hd,(hs)},?_};have e:=r.length
  grind
theorem Inv.tuple(I:Inv X pins Z H s)(h:A_ X.K H a xs):∃i_:Re SZ,Vals xs i_/\IsTup s.heap a i_.toArray/\xs.length<=sizeLine:=by
 let h||{o,i_,n,hk,hc,hs,hz,r}:=h
 ·let{z,i_,r,p}:=h.ok I.j_
  grind
 ·refine{i_.toList,r,{o,I.Vb a o hk,hc,n,(hs)},?_};have e:=r.length
  grind
def Inv.U8(I:Inv X pins Z H s)(h:Ro X.K H a xs)(h':Ro X.K H a ys):xs=ys:=by
 let{i_,r,{o,n,e,_,_,d},_}:=I.list h;let{S_,r',{o',n',e',_,_,d'},_}:=I.list h';have:i_=S_:=by grind
 subst this;exact r.inj r'
def Inv.SN(I:Inv X pins Z H s)(h:A_ X.K H a xs)(h':A_ X.K H a ys):xs=ys:=by
 let{i_,r,{o,e,_,n,d},_}:=I.tuple h;let{S_,r',{o',e',_,n',d'},_}:=I.tuple h';have:i_=S_:=by grind
 subst this;exact r.inj r'
end
section
variable {X:Cx} {st:Stmt} {rest:Re Stmt} {t u:TS} {te:TE}
def yZ:TS:=λD Z H=>D.nx Z H
def y0(t u:TS):TS:=λD Z H=>t { D with nx:=u D } Z H
def Hr:zA X [] yZ:=λ_ _ Z H _ I h=>u3 {Z,H,I,h}
def No(h1:sP X st t)(h2:zA X rest u):zA X (st::rest) (y0 t u):=by
 intro pins s Z H D I h;refine wpAny_execs_cons<|Db (h1 pins s Z H { D with nx:=u D } I h) λf s1 q=>?_
 cases f with
 | next =>
  let{σ',H',I',q}:=q;exact h2 pins s1 σ' H' D I' q
 | ret v=>exact q
 | brk=>exact q
 | cont=>exact q
def Op(h1:sP X st t):zA X [st] t:=by
 intro pins s Z H D I h;refine wpAny_execs_cons<|Db (h1 pins s Z H D I h) λf s1 q=>?_
 cases f with
 | next=>exact u3 q
 | ret v=>exact q
 | brk=>exact q
 | cont=>exact q
theorem Inv.quiet{Z:St}{H:Hp}(I:Inv X pins Z H s):interactive X.env=false:=by simp[interactive,I.ok.kind]
def nC(te:TE):TS:=λD Z H=>te Z H λ_ H1=>D.nx Z H1
def PM(he:cM X e te)(hs:swapsWith e none pos.line X.env=pure false:=by rfl):sP X (.Expr e pos) (nC te):=by
 intro pins s Z H D I h;exact wpAny_Expr_any (Db ?qe λv s1 ⟨x,H1,I1,r1,q1⟩=>{Z,H1,I1,q1}) I.quiet hs
def jI(te:TE):TS:=λD Z H=>te Z H D.rt
def PN(he:cM X e te):sP X (.Return (some e) pos) (jI te):=by
 intro pins s Z H D I h;exact wpAny_Return_some<|Db ?qe λv s1 ⟨x,H1,I1,r1,q1⟩=>{x,Z,H1,I1,r1,q1}
def bD(c:TT)(t u:TS):TS:=λD Z H=>c Z H λb H1=>if b=true then t D Z H1 else u D Z H1
def M8{a b:Re Stmt}{tc:TT}(hc:gT X c tc)(ha:zA X a t)(hb:zA X b u):sP X (.If c a b pos) (bD tc t u):=by
 intro pins s Z H D I h;refine wpAny_If<|Db (hc pins s Z H _ I h) λd s1 ⟨H1,I1,q1⟩=>?_
 cases d with
 | true=>exact ha pins s1 Z H1 D I1 q1
 | false=>exact hb pins s1 Z H1 D I1 q1
end
abbrev TG:=V->St->Hp->(St->Hp->Prop)->Prop
abbrev Ze:=Re V->St->Hp->(St->Hp->Prop)->Prop
def cg(X:Cx)(target:Uf)(t:TG):Prop :=
 ∀(pins:w_) (s:Tk) (Z:St) (H:Hp) (v:V) (u:SZ) (Q:St->Hp->Prop),Inv X pins Z H s->RelV v u->t v Z H Q ->
  wpAny ?B X.A (assign target X.env u) (λ_ s'=>∃σ' H',Inv X pins σ' H' s'/\Q σ' H') X.xe s
noncomputable def PGs(X:Cx)(ts:Re Uf)(t:Ze):Prop :=
 ∀(pins:w_) (s:Tk) (Z:St) (H:Hp) (vs:Re V) (us:Re SZ) (Q:St->Hp->Prop),Inv X pins Z H s->Vals vs us->t vs Z H Q ->
  wpAny ?B X.A (assignInOrder ((assignEach ts X.env).map (·.2)) us) (λ_ s'=>∃σ' H',Inv X pins σ' H' s'/\Q σ' H') X.xe s
abbrev GR:=V->V->V->Hp->(Hp->Prop)->Prop
def sH(X:Cx)(t:GR):Prop :=
 ∀(pins:w_) (s:Tk) (Z:St) (H:Hp) (o i v:V) (ov iv u:SZ) (Q:Hp->Prop),Inv X pins Z H s->RelV o ov->RelV i iv->RelV v u->t o i v H Q ->
  wpAny ?B X.A (setItem ov iv u) (λ_ s'=>∃H',Inv X pins Z H' s'/\Q H') X.xe s
abbrev Zd:=V->V->Hp->VK->Prop
noncomputable def PIp(X:Cx)(op:Operator)(t:Zd):Prop :=
 ∀(pins:w_) (s:Tk) (Z:St) (H:Hp) (x y:V) (v u:SZ) (Q:VK),Inv X pins Z H s->RelV x v->RelV y u->t x y H Q ->
  wpAny ?B X.A (inplaceOp op v u) ?jq X.xe s
section
variable {X:Cx}
def h8(i:Nat):TG:=λv Z H Q=>Q (Z.set i<|some v) H
def PP{i:Nat}(hN:X.N.Nodup)(hi:X.N[i]? = some x)(hx:Loc X.env.scope x)(hf:X.fn x=true\/X.env.scope.names.lookup x=some .local:=by first|exact .inl rfl|exact .inr rfl|assumption):cg X (.Name x pos) (h8 i):=by
 intro pins s Z H v u Q I r h;exact wpAny_assign_Name<|Cn I hN hi hx r (λs' I'=>{_,H,I',h}) hf
def vE:Ze:=λvs Z H Q=>vs=[]/\Q Z H
def yw(t:TG)(u:Ze):Ze:=λvs Z H Q=>∃v r,vs=v::r/\t v Z H λσ' H'=>u r σ' H' Q
def A6:PGs X [] vE:=by
 intro pins s Z H vs us Q I r h;let{e,h}:=h;subst e;exact assignInOrder_nil {Z,H,I,h}
def PQ{t:TG}{u:Ze}(h1:cg X e t)(h2:PGs X es u)
  (hs:(assignEach (e::es) X.env).map (·.2)=assign e X.env::(assignEach es X.env).map (·.2):=by rfl):PGs X (e::es) (yw t u):=by
 intro pins s Z H vs us Q I r h;let{v,vr,e1,h}:=h;subst e1
 cases r with
 | cons r rr =>
  rw[hs];refine assignInOrder_cons<|Db (h1 pins s Z H _ _ _ I r h) λ_ s1 ⟨σ1,H1,I1,q1⟩=>?_;exact h2 pins s1 σ1 H1 _ _ Q I1 rr q1
def vi(K:PySem.W.Frag)(n:Nat)(t:Ze):TG:=λv Z H Q=>∃a xs,v=.ref a/\A_ K H a xs/\xs.length=n/\t xs Z H Q
def EN{k:Nat}{t:Ze}{n:Nat}(hc:X.calm=true)(h:PGs X es t)
  (hn:(assignEach es X.env).length=n:=by rfl) (V5:(assignEach es X.env).findIdx? (·.1)=none:=by rfl):cg X (.Tuple es k pos) (vi X.K n t):=by
 intro pins s Z H v u Q I r hw;let{a,xs,e1,hq,hl,hw}:=hw;subst e1
 cases r
 let{i_,rv,ht,hz}:=I.tuple hq;refine assign_Tuple_tuple (I.ok.hd hc) ht (by simp[hn,<-hl,rv.length]) V5 λh' hx=>?_
 have I1:Inv X pins Z H { s with heap:=h' }:=I.kept  λb o e=>hx b o (eh<|bj e) e
 exact h pins _ Z H xs _ Q I1 ((rv)) hw
def aX(to ti:TE)(t:GR):TG:=λv Z H Q=>to Z H λo H1=>ti Z H1 λi H2=>t o i v H2 λH3=>Q Z H3
def KF{o i:Uf}{to ti:TE}{t:GR}(ho:cM X o to)(hi:cM X i ti)(hs:sH X t)
  (ha:∀v,assign (.Subscript o i pos) X.env v=(do
   let ov <-holding [v] (eval o X.env)
   let iv <-holding [v,ov] (eval i X.env)
   standAt pos
   holding [v,ov,iv] (setItem ov iv v)
   release [v,ov,iv] []):=by intro _;rfl):cg X (.Subscript o i pos) (aX to ti t):=by
 intro pins s Z H v u Q I r h;refine f_<|um<|Db ?qf λov s1 ⟨x,H1,I1,r1,q1⟩=>?_;refine f_<|um<|Db (hi pins s1 Z H1 _ I1 q1) λiv s2 ⟨y,H2,I2,r2,q2⟩=>?_;refine f_<|wpAny_standAt<|f_<|um<|Db (hs pins s2 Z H2 x y v ov iv u _ I2 r1 r2 r q2) λ_ s3 ⟨H3,I3,q3⟩=>?_;exact wpAny_release {Z,H3,I3,q3}
def ao(te:TE)(g:TG):TS:=λD Z H=>te Z H λx H1=>g x Z H1 D.nx
def EI{te:TE}{g:TG}(he:cM X e te)(hg:cg X tg g)(hs:swapsWithSole [tg] e pos.line X.env=pure false:=by rfl)(hw:swappedStores [tg] e X.env=pure none:=by rfl)
  (h1:(assignEach [tg] X.env).map (·.2)=[assign tg X.env]:=by rfl):sP X (.Assign [tg] e pos) (ao te g):=by
 intro pins s Z H D I h;refine wpAny_Assign_stores (Db ?qe λv s1 ⟨x,H1,I1,r1,q1⟩=>?_) hs hw;rw[h1];exact Db (hg pins s1 Z H1 x v _ I1 r1 q1) λ_ s2 q=>q
def PR{i:Nat}{te:TE}{pos':Pos}(hN:X.N.Nodup)(hi:X.N[i]? = some x)(hx:Loc X.env.scope x)(he:cM X e te)(hs:swapsWith e (some<|.Name x pos') pos.line X.env=pure false:=by rfl)(hf:X.fn x=true\/X.env.scope.names.lookup x=some .local:=by first|exact .inl rfl|exact .inr rfl|assumption) :
  sP X (.Assign [.Name x pos'] e pos) (ao te<|h8 i):=by
 intro pins s Z H D I h;refine wpAny_Assign_Name (Db ?qe λv s1 ⟨y,H1,I1,r1,q1⟩=>?_) hs;exact Cn I1 hN hi hx r1 (λs2 I2=>{_,H1,I2,q1}) hf
def wV(i:Nat)(te:TE)(ti:Zd):TS:=λD Z H=>∃x,Z[i]? = some (some x)/\te Z H λy H1=>ti x y H1 λz H2=>D.nx (Z.set i<|some z) H2
def KA{i:Nat}{te:TE}{ti:Zd}{pos':Pos}(hN:X.N.Nodup)(hi:X.N[i]? = some x)(hx:Loc X.env.scope x)(he:cM X e te)(ho:PIp X op ti)(hf:X.fn x=true\/X.env.scope.names.lookup x=some .local:=by first|exact .inl rfl|exact .inr rfl|assumption) :
  sP X (.AugAssign (.Name x pos') op e pos) (wV i te ti):=by
 intro pins s Z H D I h;let{v,e1,h}:=h;let{m,hn,hl}:=I.loc;have vis:Vx X.env.scope x:=by let k||k:=hx;exact .inl k;exact .inr<|.inl k
 let{u,r,l}:=hl i x v hi e1 vis;refine wpAny_AugAssign_Name ?_;have go:wpAny ?B X.A (eval e X.env) (λw s₂=>wpAny ?B X.A (inplaceOp op u w) (λr s₃=>wpAny ?B X.A (storeName X.env x r) (λ_=>cB X pins D .next) X.xe s₃) X.xe s₂) X.xe s:=by
  refine Db ?qe λw s1 ⟨y,H1,I1,r1,q1⟩=>?_
  refine Db (ho pins s1 Z H1 v y u w _ I1 r r1 q1) λz s2 ⟨zv,H2,I2,r2,q2⟩=>?_
  exact Cn I2 hN hi hx r2 (λs3 I3=>{_,H2,I3,q2}) hf
 let{hk,hm}||{hk,c,hc,Ua}:=l
 ·exact wpAny_loadName_local I.ok.kind hk hn hm go
 ·let hk||hk:=hk
  ·exact wpAny_loadName_cell I.ok.kind hk hc Ua go
  ·let k||k:=hx
   ·have:X.env.scope.names.lookup x=some .free:=hk
    grind
   ·have:X.env.scope.names.lookup x=some .free:=hk
    grind
def ak(to ti te:TE)(Yz:V->V->Hp->VK->Prop)(tip:Zd)(Yx:GR):TS:=λD Z H=>to Z H λo H1=>ti Z H1 λi H2=>Yz o i H2 λx H3=>te Z H3 λy H4=>tip x y H4 λz H5=>Yx o i z H5 λH6=>D.nx Z H6
def dW(X:Cx)(t:V->V->Hp->VK->Prop):Prop :=
 ∀(pins:w_) (s:Tk) (Z:St) (H:Hp) (o i:V) (ov iv:SZ) (Q:VK),Inv X pins Z H s->RelV o ov->RelV i iv->t o i H Q ->
  wpAny ?B X.A (getItem ov iv) ?jq X.xe s
def Hs{o i:Uf}{to ti te:TE}{Yz:V->V->Hp->VK->Prop}{tip:Zd}{Yx:GR}{L_:Pos}(ho:cM X o to)(hi:cM X i ti)(hg:dW X Yz)(he:cM X e te)(hp:PIp X op tip)(hs:sH X Yx)
  (ha:∀ov iv new,augStore i ov iv new=(do holding [new,ov,iv] (setItem ov iv new);release [new,ov,iv] [];pure .next):=by intros;rfl):sP X (.AugAssign (.Subscript o i L_) op e pos) (ak to ti te Yz tip Yx):=by
 intro pins s Z H D I h;refine wpAny_AugAssign_SubscriptAny (Db ?qf λov s1 ⟨x1,H1,I1,r1,q1⟩=>?_) ha;refine Db (hi pins s1 Z H1 _ I1 q1) λiv s2 ⟨x2,H2,I2,r2,q2⟩=>?_
 refine Db (hg pins s2 Z H2 x1 x2 ov iv _ I2 r1 r2 q2) λold s3 ⟨x3,H3,I3,r3,q3⟩=>?_
 refine Db (he pins s3 Z H3 _ I3 q3) λv s4 ⟨x4,H4,I4,r4,q4⟩=>?_
 refine Db (hp pins s4 Z H4 x3 x4 old v _ I4 r3 r4 q4) λnew s5 ⟨x5,H5,I5,r5,q5⟩=>?_
 exact Db (hs pins s5 Z H5 x1 x2 x5 ov iv new _ I5 r1 r2 r5 q5) λ_ s6 ⟨H6,I6,q6⟩=>{Z,H6,I6,q6}
def ipI(f:Int->Int->Int):Zd:=λx y H Q=>∃i j,x=.int i/\y=.int j/\Q (.int<|f i j) H
def PU:PIp X .Add (ipI λi j=>i+j):=by
 intro pins s Z H x y v u Q I r1 r2 h;let{i,j,e1,e2,q}:=h;subst e1;subst e2;let{t,rfl}:=r1;let{t',rfl}:=r2;exact iadd_int {.int _,H,I.tok _,{_,rfl},q}
def Lx:PIp X .Sub (ipI λi j=>i - j):=by
 intro pins s Z H x y v u Q I r1 r2 h;let{i,j,e1,e2,q}:=h;subst e1;subst e2;let{t,rfl}:=r1;let{t',rfl}:=r2;exact isub_int {.int _,H,I.tok _,{_,rfl},q}
end
section
variable {X:Cx}
def bC(c:TT)(tb:TS):TS:=λD Z H=>∃W:Nat->St->Hp->Prop,(∃m,W m Z H)/\∀m Z H,W m Z H ->
 c Z H λb H1=>if b=true then ∃N:St->Hp->Prop,(∀σ' H',N σ' H'->∃m',m'<m/\W m' σ' H')/\tb { D with nx:=N,ct:=N,bk:=D.nx } Z H1 else D.nx Z H1
def EG{tc:TT}{tb:TS}(hp:PassesOwn ?B X.A X.env X.xe)(hc:gT X c tc)(hb:zA X body tb):sP X (.While c body [] pos) (bC tc tb):=by
 intro pins s Z H D I h;let{W,{m0,w0},turn}:=h;refine wpAny_While<|codeAny_whileLoop (λn s'=>∃σ' H',Inv X pins σ' H' s'/\W n σ' H') ?_ m0 {Z,H,I,w0};rintro n s1 ⟨σ1,H1,I1,w1⟩;refine q9 hp<|Db (hc pins s1 σ1 H1 _ I1<|turn n σ1 H1 w1) λb s2 ⟨H2,I2,q2⟩=>?_
 cases b with
 | true =>
  let{N,hN,q2}:=q2;refine q9 hp<|Db (hb pins s2 σ1 H2 _ I2 q2) λf s3 q3=>?_
  cases f with
  | next =>
   let{σ3,H3,I3,n3}:=q3
   grind
  | cont =>
   let{σ3,H3,I3,n3}:=q3
   grind
  | brk=>exact q3
  | ret v=>exact q3
 | false =>
  exact u3 {σ1,H2,I2,q2}
end
structure It where
 go:Nat->Hp->Prop
 VM:Nat->Hp->V->Hp->Prop
 stop:Nat->Hp->Prop
def mZ(X:Cx)(pins:w_)(H:Hp)(b:Tl):Prop :=
 H b=none/\b≠X.env.locals/\b∉X.fs/\(b∈X.ex\/X.s₀.heap.objs.size<=b)/\(∀x c,X.env.cells.lookup x=some c->c≠b)/\∀p∈X.pn++pins,p.1≠b
def Inv.Sy{X:Cx}{Z:St}{H H':Hp}{b:Tl}(I:Inv X pins Z H s)(hb:s.heap.objs.size<=b)(hn:H' b=none):mZ X pins H' b:=by
 refine{hn,wE<|eg I.lt hb,I.zar hb,.inr<|di I.sz hb,λx c e z=>?_,λp hp z=>?_}
 ·let{v,q}:=I.cell x c e;exact absurd (eg q.lt (by rw[z];exact hb))<|nu _
 ·exact absurd (eg (bj (I.pin p hp).1) (by rw[z];exact hb))<|nu _
structure Turn(P:TD)(w:TW)(K:PySem.W.Frag)(tg:Uf)(J:It)(fp:Re Tl)(it:Tl)(tn:Nat->Wp->Prop):Prop where
 mem:it∈fp
 obj:∀i h,tn i h->∀b∈fp,∃o,h.get? b=some o/\∀v,o.data≠.cell v
 keep:∀i h h',tn i h->(∀b∈fp,∀o,h.get? b=some o->h'.get? b=some o)->tn i h'
 item:∀(X:Cx),X.prog=P->X.w=w->X.K=K->X.calm=true->∀(i:Nat) (pins:w_) (s:Tk) (Z:St) (H:Hp) (E:t_),Inv X pins Z H s->(∀b∈fp,mZ X pins H b)->tn i s.heap->J.go i H ->
  wpAny (model P w) X.A (pyNext<|.ref it) (λr s1=>∃u,r=some u /\
   wpAny (model P w) X.A (letOwnedTupleGo tg (.ref it) u) (λ_ s2=>∃x H',Inv X pins Z H' s2/\RelV x u/\J.VM i H x H'/\tn ?jx s2.heap/\∀b∈fp,H' b=none) E s1) E s
 done:∀(X:Cx),X.prog=P->X.w=w->X.K=K->X.calm=true->∀(i:Nat) (pins:w_) (s:Tk) (Z:St) (H:Hp) (E:t_),Inv X pins Z H s->(∀b∈fp,mZ X pins H b)->tn i s.heap->J.stop i H ->
  wpAny (model P w) X.A (pyNext<|.ref it) (λr s1=>r=none/\Inv X pins Z H s1) E s
 self:∀(A:UV) (i:Nat) (s:Tk) (Q:t_) (E:t_),tn i s.heap->Q (.ref it) s->wpAny (model P w) A (pyIter<|.ref it) Q E s
abbrev TI:=St->Hp->(It->Hp->Prop)->Prop
noncomputable def PIE(X:Cx)(pins:w_)(Z:St)(tg:Uf)(R:It->Hp->Prop)(itv:SZ)(s2:Tk):Prop :=
 ∃(it:Tl) (fp:Re Tl) (tn:Nat->Wp->Prop) (J:It) (H':Hp),itv=.ref it/\Inv X pins Z H' s2/\Turn X.prog X.w X.K tg J fp it tn/\tn 0 s2.heap/\(∀b∈fp,mZ X pins H' b)/\R J H'
def jQ(X:Cx)(tg iter:Uf)(wi:TI):Prop :=
 ∀(pins:w_) (s:Tk) (Z:St) (H:Hp) (R:It->Hp->Prop),Inv X pins Z H s->wi Z H R ->
  wpAny ?B X.A (eval iter X.env) (λv s1=>wpAny ?B X.A (pyIter v) (PIE X pins Z tg R) X.xe s1) X.xe s
def BB{M:Model}{it:Tl}{n:String}{vs:UF SZ}(ho:s.heap.get? it=some o)(hc:o.cls=.type n)(hd:o.data=.fields vs)
  (hn:["enumerate","zip","dict_itemiterator","dict_reverseitemiterator","odict_iterator","itertools.zip_longest","itertools.pairwise"].contains n=false) (hQ:Q () s):wpAny M A (letOwnedTupleGo tg (.ref it) u) Q E s:=by
 cases tg<;>first
  | exact l_ hQ
  | (cases u<;>first
     | exact l_ hQ
     | (refine f_<|wpAny_load ho ?_
        rw[hc,hd];show wpAny M A (if(["enumerate","zip","dict_itemiterator","dict_reverseitemiterator","odict_iterator","itertools.zip_longest","itertools.pairwise"].contains n&&vs[0]? == some (rawInt _))=true then _ else _) Q E s;rw[ba (by intro h;rw[hn]at h;cases h)]
        exact l_ hQ))
noncomputable def Itl(K:PySem.W.Frag)(a:Tl):It :=
 {λi H=>∃xs x,Ro K H a xs/\xs[i]? = some x,λi H x H'=>H'=H/\∀xs,Ro K H a xs->xs[i]? = some x,λi H=>∃xs,Ro K H a xs/\xs.length<=i}
noncomputable def Itt(K:PySem.W.Frag)(a:Tl):It :=
 {λi H=>∃xs x,A_ K H a xs/\xs[i]? = some x,λi H x H'=>H'=H/\∀xs,A_ K H a xs->xs[i]? = some x,λi H=>∃xs,A_ K H a xs/\xs.length<=i}
noncomputable def Itr(lo:Int)(n:Nat):It:={λi _=>i<n,λi H x H'=>H'=H/\x=.int (lo+i),λi _=>n<=i}
def PV{K:PySem.W.Frag}(a it:Tl):Turn P w K tg (Itl K a) [it] it (λi h=>h.IsListIter it a i) where
 mem:=by simp
 obj:=λi h st b hb=>by
  let{o,e,c,d}:=st
  grind
 keep:=λi h h' st k=>st.at λo e=>k it ?E o e
 item:=by
  intro X hP hw hK hc i pins s Z H E I hf st hg;subst hP hw hK;let{xs,x,hq,hx}:=hg;let{i_,rv,p,hz}:=I.list hq;let{u,hu,ru}:=rv.get hx;let{f0,f1,f2,f3,f4,f5}:=hf it ?E;refine wpAny_pyNext_list_item st p.isList  (by simpa using hu) λh' st' sb=>?_
  have I1:Inv X pins Z H { s with heap:=h' }:=I.turned  (λb o hb e=>(sb.2 b hb).trans e) f0 f1 f3 f4 f5;let{o,e,c,d}:=id st';exact{u,rfl,BB  e c d ?C {x,H,I1,ru,{rfl,λys hy=>by rw[I.U8 hy hq];exact hx},st',λb hb=>(hf b hb).1}}
 done:=by
  intro X hP hw hK hc i pins s Z H E I hf st hg;subst hP hw hK;let{xs,hq,hx}:=hg;let{i_,rv,p,hz}:=I.list hq;let{f0,f1,f2,f3,f4,f5}:=hf it ?E;have hl:=rv.length;exact wpAny_pyNext_list_end (I.ok.hd hc) st p.isList ?jd λh' eb=>{rfl,I.turned  ?jT f0 f1 f3 f4 f5}
 self:=λ_ _ _ _ _ st h=>wpAny_pyIter_listiter st h
def PX{K:PySem.W.Frag}(a it:Tl):Turn P w K tg (Itt K a) [it] it (λi h=>h.IsTupleIter it a i) where
 mem:=by simp
 obj:=λi h st b hb=>by
  let{o,e,c,d}:=st
  grind
 keep:=λi h h' st k=>st.at λo e=>k it ?E o e
 item:=by
  intro X hP hw hK hc i pins s Z H E I hf st hg;subst hP hw hK;let{xs,x,hq,hx}:=hg;let{i_,rv,p,hz}:=I.tuple hq;let{u,hu,ru}:=rv.get hx;let{f0,f1,f2,f3,f4,f5}:=hf it ?E;refine wpAny_pyNext_tuple_item st ((p))  (by simpa using hu) λh' st' sb=>?_
  have I1:Inv X pins Z H { s with heap:=h' }:=I.turned  (λb o hb e=>(sb.2 b hb).trans e) f0 f1 f3 f4 f5;let{o,e,c,d}:=id st';exact{u,rfl,BB  e c d ?C {x,H,I1,ru,{rfl,λys hy=>by rw[I.SN hy hq];exact hx},st',λb hb=>(hf b hb).1}}
 done:=by
  intro X hP hw hK hc i pins s Z H E I hf st hg;subst hP hw hK;let{xs,hq,hx}:=hg;let{i_,rv,p,hz}:=I.tuple hq;let{f0,f1,f2,f3,f4,f5}:=hf it ?E;have hl:=rv.length;exact wpAny_pyNext_tuple_end (I.ok.hd hc) st ((p)) ?jd λh' eb=>{rfl,I.turned  ?jT f0 f1 f3 f4 f5}
 self:=λ_ _ _ _ _ st h=>wpAny_pyIter_tupleiter st h
def PY{K:PySem.W.Frag}(it:Tl)(lo:Int)(n:Nat):Turn P w K tg (Itr lo n) [it] it (λi h=>IsRangeIter h it (lo+(i:Nat)*1) ((n:Int) - (i:Nat)) 1) where
 mem:=by simp
 obj:=λi h st b hb=>by
  have e:=by simpa using hb
  subst e
  exact{_,st,λv z=>by
   have z':=z
   cases z'}
 keep:=λi h h' st k=>k it ?E _ st
 item:=by
  intro X hP hw hK hc i pins s Z H E I hf st hg;subst hP hw hK;let{f0,f1,f2,f3,f4,f5}:=hf it ?E;have W:=Walks.range (prog:=X.prog) (w:=X.w) (I.ok.hd hc) it lo 1 n;refine W.item i s _ _ hg st λv h' tk hv st' kk=>?_
  let{t,rfl}:=hv;have I1:Inv X pins Z H { s with heap:=h',toks:=tk }:=I.turned (λb o hb e=>kk b o (by simpa using hb) e) f0 f1 f3 f4 f5;refine{_,rfl,BB   st' rfl rfl ?C {.int<|lo+i,H,I1,{t,?_},{rfl,rfl},st',λb hb=>(hf b hb).1}};rw[Int.mul_one]
 done:=by
  intro X hP hw hK hc i pins s Z H E I hf st hg;let{f0,f1,f2,f3,f4,f5}:=hf it ?E;exact wpAny_pyNext_range_end (I.ok.hd hc) st (by have:n<=i:=hg;lia) λh' eb=>{rfl,I.turned  ?jT f0 f1 f3 f4 f5}
 self:=λ_ _ _ _ _ st h=>wpAny_pyIter_rangeiter st h
section
variable {X:Cx}
def wK(K:PySem.W.Frag)(tl:TE):TI:=λZ H R=>tl Z H λx H1=>∃a,x=.ref a/\(∃xs,Ro K H1 a xs)/\R (Itl K a) H1
def Hu{l:Uf}{tl:TE}(hl:cM X l tl):jQ X tg l (wK X.K tl):=by
 intro pins s Z H R I h;refine Db (hl pins s Z H _ I h) λv s1 ⟨x,H1,I1,r1,q1⟩=>?_
 let{a,e,{xs,hq},q}:=q1;subst e
 cases r1
 let{i_,rv,p,hz}:=I1.list hq;refine jz p.isList ?_;refine{s1.heap.objs.size,[s1.heap.objs.size],_,_,H1,rfl,I1.kept  λb o e=>v_ _ e,PV a _,{_,cN _ rfl,rfl,rfl},λb hb=>?_,q};have e:=by simpa using hb
 subst e;exact I1.Sy ?ji ?jQ
def PZ{Z:St}{H:Hp}{R:It->Hp->Prop}{lo hi:Int}{t u v:Tok}{tk:Nat}(I:Inv X pins Z H s)(h1 : -(2^62)<=lo)(h2:lo<2^62)(h3 : -(2^62)<=hi)(h4:hi<2^62)
  (q:R (Itr lo (hi - lo).toNat) H):wpAny ?B X.A (pyIter<|.ref s.heap.objs.size) (PIE X pins Z tg R) E { s with heap:=s.heap.push { cls:=.type "range",data:=.fields #[.int lo t,.int hi u,.int 1 v] },toks:=tk }:=by
 refine wpAny_pyIter_range (IsRange.new ..) (small_one h1 h2 h3 h4) ?_;have I1:Inv X pins Z H { s with heap:=s.heap.push { cls:=.type "range",data:=.fields #[.int lo t,.int hi u,.int 1 v] },toks:=tk }:=I.kept λb o e=>v_ _ e
 refine{(s.heap.push { cls:=.type "range",data:=.fields #[.int lo t,.int hi u,.int 1 v] }).objs.size,[(s.heap.push { cls:=.type "range",data:=.fields #[.int lo t,.int hi u,.int 1 v] }).objs.size],_,_,H,rfl,
  I1.kept  λb o e=>v_ _ e,PY _ lo (hi - lo).toNat,?_,λb hb=>?_,q}
 ·have e1:lo+((0:Nat))*1=lo:=by simp
  have e2:(((hi - lo).toNat)) - ((0:Nat))=Builtin.Range.rangeSize lo hi 1:=by rw[rangeSize_one];split<;>lia
  rw[e1,e2];exact cN _ rfl
 ·have e:b=(s.heap.push { cls:=.type "range",data:=.fields #[.int lo t,.int hi u,.int 1 v] }).objs.size:=by simpa using hb
  subst e;exact I1.Sy ?ji ?jQ
def aU(ta:TA):TI:=λZ H R=>ta Z H λvs H1=>∃j:Int,vs=[.int j] /\ -(2^62)<=j/\j<2^62/\R (Itr 0 j.toNat) H1
def aH(ta:TA):TI:=λZ H R=>ta Z H λvs H1=>∃i j:Int,vs=[.int i,.int j]/\(-(2^62)<=i/\i<2^62 /\ -(2^62)<=j/\j<2^62)/\R (Itr i (j - i).toNat) H1
def CL{a:Uf}{ta:TA}(hg:uf X "range")(hm:X.mg "range"=none)(ha:sY X [a] ta)(hs:starEach [a] X.env=[?j0]:=by rfl):jQ X tg (.Call (.Name "range" p) [a] [] pos) (aU ta):=by
 intro pins s Z H R I h;refine Call_<|Go I hg hm boot_range<|ny (Db ?jU λus s1 ⟨vs,H1,I1,r1,q1⟩=>?_) hs rfl;let{j,e,q1,q2,q}:=q1;subst e
 cases r1 with
 | cons r rr =>
  cases rr
  let{t,rfl}:=r;exact call_range_1 (PZ I1 ?A ?A q1 q2 (by simpa using q))
def CK{a b:Uf}{ta:TA}(hg:uf X "range")(hm:X.mg "range"=none)(ha:sY X [a,b] ta)(hs:starEach [a,b] X.env=[?j0,(false,eval b X.env)]:=by rfl)(Vd:starEach [b] X.env=[(false,eval b X.env)]:=by rfl) :
  jQ X tg (.Call (.Name "range" p) [a,b] [] pos) (aH ta):=by
 intro pins s Z H R I h;refine Call_ (Go I hg hm boot_range (ny (Db ?jU λus s1 ⟨vs,H1,I1,r1,q1⟩=>?_) (by rw[hs,Vd]) (by rw[Vd];rfl)));let{i,j,e,{q1,q2,q3,q4},q}:=q1;subst e
 cases r1 with
 | cons r rr =>
  cases rr with
  | cons r' rr =>
   cases rr
   let{t,rfl}:=r;let{t',rfl}:=r';exact call_range_2<|PZ I1 q1 q2 q3 q4 q
def xh(wi:TI)(g:TG)(tb:TS):TS:=λD Z H=>wi Z H λJ H1=>∃W:Nat->Nat->St->Hp->Prop,(∃m,W 0 m Z H1)/\∀i m Z H,W i m Z H ->
 (J.stop i H/\D.nx Z H)\/(J.go i H/\∃N:St->Hp->Prop,(∀σ' H',N σ' H'->∃m',m'<m/\W ?jx m' σ' H')/\∀x H',J.VM i H x H'->g x Z H' λσ2 H2=>tb { D with nx:=N,ct:=N,bk:=D.nx } σ2 H2)
def rS(fp:Re Tl)(h:Wp):Re (Tl×Obj):=fp.filterMap λb=>(h.get? b).map λo=>(b,o)
def P0{b:Tl}(hb:b∈fp)(e:h.get? b=some o):(b,o)∈rS fp h:=List.mem_filterMap.mpr {b,hb,by rw[e];rfl}
def CV{p:Tl×Obj}(hp:p∈rS fp h):p.1∈fp/\h.get? p.1=some p.2:=by
 let{b,hb,e}:=List.mem_filterMap.mp hp
 cases q:h.get? b with
 | none=>rw[q]at e;cases e
 | some o =>
  grind
theorem Inv.pinned{Z:St}{H:Hp}(I:Inv X pins Z H s)(hf:∀b∈fp,mZ X pins H b)(ho:∀b∈fp,∃o,s.heap.get? b=some o/\∀v,o.data≠.cell v):Inv X (pins++rS fp s.heap) Z H s :=
 I.Te λp hp=>(List.mem_append.mp hp).elim (λz=>I.pin p<|eE _ z) λz=>by
  let{hb,e}:=CV z;let{f0,f1,f2,_}:=hf p.1 hb
  grind
def Inv.Sn{pl:w_}{Z:St}{H:Hp}(I:Inv X (pins++pl) Z H s):Inv X pins Z H s:=I.Te λp hp=>I.pin p<|eE _<|aR _ hp
def P2{iter:Uf}{wi:TI}{g:TG}{tb:TS}(hp:PassesOwn ?B X.A X.env X.xe)(hc:X.calm=true)(hi:jQ X tg iter wi)(hg:cg X tg g)(hb:zA X body tb)
  (hs:∀x,foldedSetIterable iter X.env x=pure x:=by intro _;rfl):sP X (.For tg iter body [] pos) (xh wi g tb):=by
 intro pins s Z H D I h;refine wpAny_For (Db (hi pins s Z H _ I h) λv s1 h1=>Db h1 λitv s2 h2=>?_) hs;let{it,fp,tn,J,H2,e,I2,T,H_,f2,W,{m0,w0},turn}:=h2;subst e;have VT:∀{H':Hp},(∀b∈fp,H' b=none)->∀b∈fp,mZ X pins H' b:=λhn b hb=>{hn b hb,(f2 b hb).2}
 refine codeAny_forLoop_any (λn s'=>∃i σ' H',Inv X pins σ' H' s'/\tn i s'.heap/\(∀b∈fp,H' b=none)/\W i n σ' H') ?_ m0 {0,Z,H2,I2,H_,λb hb=>(f2 b hb).1,w0};rintro n s3 ⟨i,σ3,H3,I3,W9,fr3,w3⟩;let{stop,qn}||{go,N,hN,step}:=turn i n σ3 H3 w3
 ·refine q9 hp<|Db (T.done X rfl rfl rfl hc i pins s3 σ3 H3 X.xe I3 (VT fr3) W9 stop) λr s4 ⟨hr,I4⟩=>?_;subst hr;exact u3 {σ3,H3,I4,qn}
 ·refine q9 hp<|Db (T.item X rfl rfl rfl hc i pins s3 σ3 H3 X.xe I3 (VT fr3) W9 go) λr s4 ⟨u,hr,h4⟩=>?_;subst hr;refine q9 hp<|Db h4 λ_ s5 ⟨x,H5,I5,r5,y5,ZV,fr5⟩=>?_;have I5':=I5.pinned (VT fr5)<|T.obj _ _ ZV;refine q9 hp<|Db (hg _ s5 σ3 H5 x u _ I5' r5<|step x H5 y5) λ_ s6 ⟨σ6,H6,I6,q6⟩=>?_;refine q9 hp<|Db (hb _ s6 σ6 H6 _ I6 q6) λf s7 q7=>?_;have again:∀{σ7:St} {H7:Hp},Inv X (pins++rS fp s5.heap) σ7 H7 s7->N σ7 H7->∃m,m<n/\∃i σ' H',Inv X pins σ' H' s7/\tn i s7.heap/\(∀b∈fp,H' b=none)/\W i m σ' H':=λ{σ7 H7} I7 n7=>by
   let{m',hm,w7}:=hN σ7 H7 n7;refine{m',hm,i+1,σ7,H7,I7.Sn,T.keep _ _ _ ZV λb hb o e=>(I7.pin (b,o)<|eE _<|eE _<|P0 hb e).1,λb hb=>?_,w7};let{o,e,d}:=T.obj _ _ ZV b hb;exact(I7.pin (b,o)<|eE _<|eE _<|P0 hb e).2.1
  cases f with
  | next=>let{σ7,H7,I7,n7}:=q7;exact again I7 n7
  | cont=>let{σ7,H7,I7,n7}:=q7;exact again I7 n7
  | brk=>let{σ7,H7,I7,q7}:=q7;exact{σ7,H7,I7.Sn,q7}
  | ret v=>let{x7,σ7,H7,I7,r7,q7}:=q7;exact{x7,σ7,H7,I7.Sn,r7,q7}
end
abbrev R2:=V->V->Hp->VK->Prop
noncomputable def K_(X:Cx)(f:SZ->SZ->Sem SZ)(r:R2):Prop :=
 ∀(pins:w_) (s:Tk) (Z:St) (H:Hp) (x y:V) (v u:SZ) (Q:VK),Inv X pins Z H s->RelV x v->RelV y u->r x y H Q ->
  wpAny ?B X.A (f v u) ?jq X.xe s
noncomputable def UnR(X:Cx)(f:SZ->Sem SZ)(r:V->Hp->VK->Prop):Prop :=
 ∀(pins:w_) (s:Tk) (Z:St) (H:Hp) (x:V) (v:SZ) (Q:VK),Inv X pins Z H s->RelV x v->r x H Q ->
  wpAny ?B X.A (f v) ?jq X.xe s
def k_(X:Cx)(f:SZ)(r:Re V->Hp->VK->Prop):Prop :=
 ∀(pins:w_) (s:Tk) (Z:St) (H:Hp) (xs:Re V) (us:Re SZ) (Q:VK),Inv X pins Z H s->Vals xs us->r xs H Q ->
  wpAny ?B X.A (call f us) ?jq X.xe s
def eM(X:Cx)(r:V->Hp->(Bool->Hp->Prop)->Prop):Prop :=
 ∀(pins:w_) (s:Tk) (Z:St) (H:Hp) (x:V) (v:SZ) (Q:Bool->Hp->Prop),Inv X pins Z H s->RelV x v->r x H Q ->
  wpAny ?B X.A (truthy v) ?qr X.xe s
def aJ(r:R2)(ta tb:TE):TE:=λZ H Q=>ta Z H λx H1=>tb Z H1 λy H2=>r x y H2 Q
def tUn(r:V->Hp->VK->Prop)(ta:TE):TE:=λZ H Q=>ta Z H λx H1=>r x H1 Q
def rI(C:Int->Int->Prop)(g:Int->Int->V):R2:=λx y H Q=>∃i j,x=.int i/\y=.int j/\C i j/\Q (g i j) H
def lf(g:Int->Int->V):R2:=λx y H Q=>∃i j,x=.int i/\y=.int j/\Q (g i j) H
def rU(g:Int->V):V->Hp->VK->Prop:=λx H Q=>∃i,x=.int i/\Q (g i) H
section
variable {X:Cx} {a b:Uf} {ta tb tc:TE}
def LY(ha:cM X a ta)(hb:cM X b tb){Z:St}{H:Hp}{R:V->V->Hp->Prop}(I:Inv X pins Z H s)
  (h:ta Z H λx H1=>tb Z H1 λy H2=>R x y H2) {Q:t_} {f:SZ->SZ->Sem SZ}
  (hf:∀v u s2 x y H2,Inv X pins Z H2 s2->RelV x v->RelV y u->R x y H2->wpAny ?B X.A (f v u) Q X.xe s2) :
  wpAny ?B X.A (eval a X.env) (λv s₁=>wpAny ?B X.A (eval b X.env) (λu s₂=>wpAny ?B X.A (f v u) Q X.xe s₂) X.xe s₁) X.xe s:=by
 refine Db ?jj λv s1 ⟨x,H1,I1,r1,q1⟩=>?_
 refine Db (hb pins s1 Z H1 _ I1 q1) λu s2 ⟨y,H2,I2,r2,q2⟩=>?_
 grind
def EQ{r:R2}(ho:K_ X (binaryOp op) r)(ha:cM X a ta)(hb:cM X b tb):cM X (.BinOp a op b pos) (aJ r ta tb):=by
 intro pins s Z H Q I h;exact wpAny_BinOp<|LY ha hb I h λv u s2 x y H2 I2 rx ry q=>ho pins s2 Z H2 x y v u Q I2 rx ry q
def Na{op:UnaryOp}{r:V->Hp->VK->Prop}(ho:UnR X (unaryOp op) r)(ha:cM X a ta):cM X (.UnaryOp op a pos) (tUn r ta):=by
 intro pins s Z H Q I h;exact UnaryOp_<|Db ?jj λv s1 ⟨x,H1,I1,r1,q1⟩=>ho pins s1 Z H1 x v Q I1 r1 q1
theorem opI{C:Int->Int->Prop}{g:Int->Int->Int}
  (rule:∀(i j:Int) (t u:Tok) (s:Tk) (Q:t_) (E:t_),C i j->Q (.int (g i j) s.toks) { s with toks:=s.toks+1 }->wpAny ?B X.A (f (.int i t)<|.int j u) Q E s) :
  K_ X f (rI C λi j=>.int<|g i j):=by
 intro pins s Z H x y v u Q I rx ry h;let{i,j,rfl,rfl,hc,q}:=h;let{t,rfl}:=rx;let{t',rfl}:=ry;exact rule i j t t' s _ _ hc {.int<|g i j,H,I.tok _,{_,rfl},q}
def Np{g:Int->Int->Int}
  (rule:∀(i j:Int) (t u:Tok) (s:Tk) (Q:t_) (E:t_),Q (.int (g i j) s.toks) { s with toks:=s.toks+1 }->wpAny ?B X.A (f (.int i t)<|.int j u) Q E s) :
  K_ X f (lf λi j=>.int<|g i j):=by
 intro pins s Z H x y v u Q I rx ry h;let{i,j,rfl,rfl,q}:=h;let{t,rfl}:=rx;let{t',rfl}:=ry;exact rule i j t t' s _ _ {.int<|g i j,H,I.tok _,{_,rfl},q}
def HH{g:Int->Int->Bool}
  (rule:∀(i j:Int) (t u:Tok) (s:Tk) (Q:t_) (E:t_),Q (.bool<|g i j) s->wpAny ?B X.A (f (.int i t)<|.int j u) Q E s) :
  K_ X f (lf λi j=>.bl<|g i j):=by
 intro pins s Z H x y v u Q I rx ry h;let{i,j,rfl,rfl,q}:=h;let{t,rfl}:=rx;let{t',rfl}:=ry;exact rule i j t t' s _ _ {.bl<|g i j,H,I,rfl,q}
def dh(i j:Int):Prop:=0<j/\j<1073741824
def az(i j:Int):Prop:=0<=j/\j<=1000000/\i.natAbs<2^64
noncomputable def Zg(i j:Int):Prop:=(-(2^64)<i/\i<2^64)\/(-(2^64)<j/\j<2^64)
theorem Zg.ok{i j:Int}(h:Zg i j):IntMulOk i j:=by
 let{h1,h2}||{h1,h2}:=h
 ·exact .of_left<|intBits_le_64 h1 h2
 ·exact .of_right<|intBits_le_64 h1 h2
def Z4:K_ X (binaryOp .Add) (lf λi j=>.int<|i+j):=Np λ_ _ _ _ _ _ _ q=>add_int q
def P3:K_ X (binaryOp .Sub) (lf λi j=>.int<|i - j):=Np λ_ _ _ _ _ _ _ q=>sub_int q
def P4:K_ X (binaryOp .Mult) (rI Zg λi j=>.int<|i*j):=opI λ_ _ _ _ _ _ _ hc q=>mul_int q hc.ok
def P5:K_ X (binaryOp .FloorDiv) (rI dh λi j=>.int<|i / j):=opI λi j _ _ _ _ _ hc q=>by
 have h1:=hc.1;have h2:=hc.2;exact floordiv_int ?A ?jc<|.inl<|PyProof.noPylong_small ?A
def P6:K_ X (binaryOp .Mod) (rI (λ_ j=>0<j) λi j=>.int<|i % j):=opI λi j _ _ _ _ _ hc q=>by
 exact mod_int' ?A ?jc
def KW:K_ X (binaryOp .Pow) (rI az λi j=>.int<|i^j.toNat):=opI λ_ _ _ _ _ _ _ hc q=>pow_int_small hc.1 hc.2.1 hc.2.2 q
theorem unI{f:SZ->Sem SZ}{g:Int->Int}
  (rule:∀(i:Int) (t:Tok) (s:Tk) (Q:t_) (E:t_),Q (.int (g i) s.toks) { s with toks:=s.toks+1 }->wpAny ?B X.A (f<|.int i t) Q E s) :
  UnR X f (rU λi=>.int<|g i):=by
 intro pins s Z H x v Q I rx h;let{i,rfl,q}:=h;let{t,rfl}:=rx;exact rule i t s _ _ {.int<|g i,H,I.tok _,{_,rfl},q}
def J5:UnR X (unaryOp .USub) (rU λi=>.int<|-i):=unI λ_ _ _ _ _ q=>neg_int q
end
section
variable {X:Cx} {a b:Uf} {ta tb tc:TE}
def P7{Z:St}{H:Hp}{Q:VK}{k k':Bool}(I:Inv X pins Z H s)(q:Q (.bl k) H)(e:k=k'):uN X pins Z Q (.bool k') s:=by
 subst e;exact{.bl k,H,I,rfl,q}
def Nm:K_ X (compareOp .Lt) (lf λi j=>.bl<|decide<|i<j):=HH λ_ _ _ _ _ _ _ q=>lt_int q
def Nn:K_ X (compareOp .LtE) (lf λi j=>.bl<|decide<|i<=j):=HH λ_ _ _ _ _ _ _ q=>le_int q
def P8:K_ X (compareOp .Gt) (lf λi j=>.bl<|decide<|j<i):=HH λ_ _ _ _ _ _ _ q=>gt_int q
def P9:K_ X (compareOp .GtE) (lf λi j=>.bl<|decide<|j<=i):=HH λ_ _ _ _ _ _ _ q=>ge_int q
def CN:K_ X (compareOp .In) (λx y H Q=>∃i j,x=.str i/\y=.str j/\Q (.bl<|!(Builtin.Str.occurrences j i 0 j.length 1).isEmpty) H):=by
 intro pins s Z H x y v u Q I rx ry h;let{i,j,rfl,rfl,q}:=h;let{t,rfl}:=rx;let{t',rfl}:=ry;exact in_str<|P7 I q rfl
def KZ:K_ X (compareOp .Is) (λx y H Q=>y=.Rq/\Q (.bl<|decide<|x=.Rq) H):=by
 intro pins s Z H x y v u Q I rx ry h;let{rfl,q}:=h
 cases ry
 refine is_none_gen<|P7 I q ?_
 cases x<;>first
  | (rfl)
  | (let{t,rfl}:=rx;rfl)
def HE:K_ X (compareOp .IsNot) (λx y H Q=>y=.Rq/\Q (.bl<|!decide (x=.Rq)) H):=by
 intro pins s Z H x y v u Q I rx ry h;let{rfl,q}:=h
 cases ry
 refine isnot_none_gen<|P7 I q ?_
 cases x<;>first
  | (rfl)
  | (let{t,rfl}:=rx;rfl)
def Qa:K_ X (compareOp .NotIn) (λx y H Q=>∃i j,x=.str i/\y=.str j/\Q (.bl<|!(!(Builtin.Str.occurrences j i 0 j.length 1).isEmpty)) H):=by
 intro pins s Z H x y v u Q I rx ry h;let{i,j,rfl,rfl,q}:=h;let{t,rfl}:=rx;let{t',rfl}:=ry;exact notIn_str<|P7 I q rfl
theorem K_.or{r r':R2}(h:K_ X f r)(h':K_ X f r'):K_ X f (λx y H Q=>r x y H Q\/r' x y H Q):=by
 intro pins s Z H x y v u Q I rx ry q;let q||q:=q
 ·exact h pins s Z H x y v u Q I rx ry q
 ·exact h' pins s Z H x y v u Q I rx ry q
def Bb{op:CmpOp}{r:R2}(ho:K_ X (compareOp op) r)(ha:cM X a ta)(hb:cM X b tb)(hm:behindInMarks op b=false):cM X (.Compare a [op] [b] pos) (aJ r ta tb):=by
 intro pins s Z H Q I h;exact wpAny_Compare1 (LY ha hb I h λv u s2 x y H2 I2 rx ry q=>ho pins s2 Z H2 x y v u Q I2 rx ry q) hm
def aa(t:TE):TT:=λZ H Q=>t Z H λx H'=>∃k,x=.bl k/\Q k H'
def AZ{op:CmpOp}{r:R2}(ho:K_ X (compareOp op) r)(ha:cM X a ta)(hb:cM X b tb)(hm:behindInMarks op b=false):gT X (.Compare a [op] [b] pos) (aa<|aJ r ta tb):=by
 intro pins s Z H Q I h
 refine wpAny_isTrue_Compare1 (Db ?jj λv s1 ⟨x,H1,I1,r1,q1⟩=>Db (hb pins s1 Z H1 _ I1 q1) λu s2 ⟨y,H2,I2,r2,q2⟩ =>
  Db (ho pins s2 Z H2 x y v u _ I2 r1 r2 q2) λc s3 ⟨z,H3,I3,r3,k,e,q3⟩=>?_) hm
 subst e
 cases r3
 exact mr {H3,I3,q3}
def aI(K:PySem.W.Frag)(x:V)(H:Hp)(k:Bool):Prop :=
 match x with
 | .Rq=>k=false
 | .bl b=>k=b
 | .int i=>k=(i != 0)
 | .str y=>y.length<=sizeLine/\k=((y.length:Int) != 0)
 | .byt y=>y.size<=sizeLine/\k=((y.size:Int) != 0)
 | .ref p=>(∃xs,Ro K H p xs/\k = !xs.isEmpty)\/(∃xs,A_ K H p xs/\k = !xs.isEmpty)\/∃kvs,H p=some (.dK kvs)/\k = !kvs.isEmpty
 | _=>False
def Qb{κ:Type}{kvs:Re ?qW}{vs:Re (κ×SZ)}(r:KV kvs vs):(!vs.isEmpty) = !kvs.isEmpty:=by
 cases r<;>rfl
def Qc{xs:Re V}{i_:Re SZ}(r:Vals xs i_):(!i_.toArray.isEmpty) = !xs.isEmpty:=by
 cases r<;>simp
def Qd:(sizeLine:Nat)<2^63:=by decide
def D0:eM X (λx H Q=>∃k,aI X.K x H k/\Q k H):=by
 intro pins s Z H x v Q I rx h;let{k,e,q}:=h;have hl:=Qd;have hs:sizeLine=16777216:=wH
 cases x with
 | Rq =>
  cases rx
  have e':k=false:=e;subst e';exact truthy_none {H,I,q}
 | bl b =>
  cases rx
  have e':k=b:=e;subst e';exact mr {H,I,q}
 | int i =>
  let{t,rfl}:=rx;have e':=e;subst e';exact PySem.P.truthy_int {H,I,q}
 | str y =>
  let{t,rfl}:=rx;obtain⟨hy,e'⟩:y.length<=sizeLine/\k=((y.length:Int) != 0):=e;subst e';exact PySem.P.truthy_str ?A {H,I.tok _,q}
 | byt y =>
  let{t,rfl}:=rx;obtain⟨hy,e'⟩:y.size<=sizeLine/\k=((y.size:Int) != 0):=e;subst e';exact PySem.W.truthy_bytes ?A {H,I.tok _,q}
 | ref p =>
  cases rx
  have e':=e;let{xs,hx,e'}||{xs,hx,e'}||{kvs,hx,e'}:=e'
  ·subst e';let{i_,r,pl,hz}:=I.list hx;have hlen:=r.length;exact wpAny_truthy_list pl.isList ?jc {H,I.tok _,by rw[Qc r];exact q}
  ·subst e';let{i_,r,pl,hz}:=I.tuple hx;have hlen:=r.length;exact truthy_tuple pl ?jc {H,I.tok _,by rw[Qc r];exact q}
  ·subst e';obtain⟨hz,hS,vs,r,m⟩:kvs.length<=sizeLine/\(p==sysModules)=false/\∃vs,KV kvs vs/\s.heap.DictOf ?qs p vs:=I.j_ p _ hx;have hlen:=Paired.length r;exact wpAny_truthy_dict hS m ?A {H,I.tok _,by rw[Qb r];exact q}
 | _=>exact((e)).elim
def Qe(ha:cM X a ta)(he:∀whole,isTrue a X.env whole=(do let v <-whole;standAt a.pos;holding [v] (truthy v))) :
  gT X a (λZ H Q=>ta Z H λx H'=>∃k,aI X.K x H' k/\Q k H'):=by
 intro pins s Z H Q I h;exact isTrue_plain (Db ?jj λv s1 ⟨x,H1,I1,r1,q1⟩=>D0 pins s1 Z H1 x v Q I1 r1 q1)<|he _
def Qf:K_ X (binaryOp .Add) (λx y H Q=>∃i j,x=.str i/\y=.str j/\i.length+j.length<=sizeLine/\Q (.str<|i++j) H):=by
 intro pins s Z H x y v u Q I rx ry h;let{i,j,rfl,rfl,hz,q}:=h;let{t,rfl}:=rx;let{t',rfl}:=ry;exact add_str (λt' tk=>{.str<|i++j,H,I.tok _,{_,rfl},q}) hz
theorem vals1{x:V}(r:Vals [x] us):∃u,us=[u]/\RelV x u:=by
 cases r with
 | cons r1 r2=>cases r2;exact{_,rfl,r1}
theorem vals2{x y:V}(r:Vals [x,y] us):∃u w',us=[u,w']/\RelV x u/\RelV y w':=by
 cases r with
 | cons r1 r2 =>
  cases r2 with
  | cons r3 r4=>cases r4;grind
def DE(hc:X.calm=true):k_ X (.builtin "max") (λxs H Q=>∃i j,xs=[.int i,.int j]/\Q (.int<|if j>i then j else i) H):=by
 intro pins s Z H xs us Q I r h;let{i,j,rfl,q}:=h;let{u,w',rfl,{t,rfl},{t',rfl}}:=vals2 r;refine max_two_ints (I.ok.hd hc) λh' tk k=>{_,H,I.kept k,?_,q}
 by_cases hj:j>i
 ·rw[ap hj,ap hj];exact{_,rfl}
 ·rw[ba hj,ba hj];exact{_,rfl}
def DA(hc:X.calm=true):k_ X (.builtin "min") (λxs H Q=>∃i j,xs=[.int i,.int j]/\Q (.int<|if j<i then j else i) H):=by
 intro pins s Z H xs us Q I r h;let{i,j,rfl,q}:=h;let{u,w',rfl,{t,rfl},{t',rfl}}:=vals2 r;refine min_two_ints (I.ok.hd hc) λh' tk k=>{_,H,I.kept k,?_,q}
 by_cases hj:j<i
 ·rw[ap hj,ap hj];exact{_,rfl}
 ·rw[ba hj,ba hj];exact{_,rfl}
def Qg:k_ X (.type "int") (λxs H Q=>(∃i,xs=[.int i]/\Q (.int i) H)\/∃k,xs=[.bl k]/\Q (.int<|if k then 1 else 0) H):=by
 intro pins s Z H xs us Q I r h;let{i,rfl,q}||{k,rfl,q}:=h
 ·let{u,rfl,t,rfl}:=vals1 r;exact call_int_int {.int i,H,I,{_,rfl},q}
 ·let{u,rfl,r1}:=vals1 r
  cases r1
  exact call_int_bool {.int<|if k then 1 else 0,H,I.tok _,{_,rfl},q}
end
def C3{dx:Tl}{mA:R1}(n:h.Ns1 dx mA):∃od,h.get? dx=some od/\∀name,PySem.W.lookIn name od=some (mA name):=by
 let{o,es,ep,ho,hd,hk,_,hm}:=n;refine{o,ho,λname=>?_};have e:=hm name;unfold nsFind findBy at e;unfold PySem.W.lookIn;rw[hd];dsimp only;split
 ·grind
 ·have a:es.toList.any (·.refKey)=false:=by
   rw[List.any_eq_false];intro y hy;let{z,t,zbi}:=hk y<|Array.mem_toList_iff.mp hy;simp[DictEntry.refKey,zbi]
  grind
theorem SU.some_of{v:V}{o:SL SZ}(r:SU (some v) o):∃u,o=some u/\RelV v u:=by
 cases o with
 | none=>exact((r)).elim
 | some u=>exact{u,rfl,r}
structure z_(k:Nat)(A:UV):Prop where
 hd:A.handled=none
 dp:A.depth+3*k+5<recursionLimit
 un:A.units+16*k+1200<cLine
 gd:A.guards=some []
theorem z_.mono{j k:Nat}(r:z_ k A)(h:j<=k):z_ j A:={r.hd,by have:=r.dp;lia,by have:=r.un;lia,r.gd}
theorem z_.deeper{k:Nat}(r:z_ (k+1) A)(env:Env):z_ k (A.deeper env) :=
 {r.hd,by have:=r.dp;show A.depth+1+3*k+5<_;lia,by have:=r.un;show A.units+3+16*k+1200<_;lia,r.gd}
theorem z_.depth{k:Nat}(r:z_ k A):A.depth<recursionLimit:=by have:=r.dp;lia
def aE:TA:=λ_ H Q=>Q [] H
def bL(ta:TE)(tr:TA):TA:=λZ H Q=>ta Z H λx H1=>tr Z H1 λxs H2=>Q (x::xs) H2
section
variable {X:Cx} {te:TE} {t:TA}
def Qh:sY X [] aE:=λ_ _ _ _ H Q I h=>uR {[],H,I,.nil,h}
def Qi(ha:cM X e te)(hr:sY X es t)(hs:starEach (e::es) X.env=?N::starEach es X.env:=by rfl):sY X (e::es) (bL te t):=by
 intro pos pins s Z H Q I h;rw[hs];refine tP<|Db ?jj λu s1 ⟨x,H1,I1,r1,q1⟩=>?_;exact Db (hr pos pins s1 Z H1 _ I1 q1) λus s2 ⟨xs,H2,I2,r2,q2⟩=>{x::xs,H2,I2,.cons r1 r2,q2}
def bN(t:TA):TE:=λZ H Q=>t Z H λxs H1=>xs.length<=sizeLine/\∀p,H1 p=none->Q (.ref p) (upd H1 p<|.tup xs)
def lC(t:TA):TE:=λZ H Q=>t Z H λxs H1=>xs.length<=sizeLine/\∀p,H1 p=none->Q (.ref p) (upd H1 p<|.lst xs)
def EO{x1}(h:sY X es t):cM X (.Tuple es x1 pos) (bN t):=by
 intro pins s Z H Q I hq;refine wpAny_Tuple_spliced (Db (h pos pins s Z H _ I hq) λus s1 ⟨xs,H1,I1,r,z,q⟩=>{by rw[<-r.length];exact z,?_});have hf:=I1.j_.fresh ?ji;refine{.ref s1.heap.objs.size,upd H1 s1.heap.objs.size<|.tup xs,I1.laid  (λb u e=>v_ _ e) ?ji ?_,rfl,q _ hf};exact{z,us,r,{_,cN _ rfl,rfl,_,rfl},{_,cN _ rfl,rfl}}
def ES(h:sY X es t):cM X (.List es pos) (lC t):=by
 intro pins s Z H Q I hq;refine wpAny_List_spliced (Db (h pos pins s Z H _ I hq) λus s1 ⟨xs,H1,I1,r,z,q⟩=>{by rw[<-r.length];exact z,?_});have hf:=I1.j_.fresh ?ji;refine{.ref s1.heap.objs.size,upd H1 s1.heap.objs.size<|.lst xs,I1.laid  (λb u e=>v_ _ e) ?ji ?_,rfl,q _ hf};exact{z,us,0,r,cN _ rfl}
end
abbrev Sp:=Re V->Hp->VK->XK->Prop
abbrev ZN:=Re Env->Hp->Tk->XK->SZ->Tk->Prop
structure Zf(P:TD)(w:TW)(K:PySem.W.Frag)(mg:R1)(base:Wp)(A:UV)(outer:Re Env)(s:Tk)(H:Hp):Prop where
 frames:A.frames=some outer
 mod:Mod K mg base
 bs:∀b o,base.get? b=some o->s.heap.get? b=some o/\H b=none
 bsz:base.objs.size<=s.heap.objs.size
 UD:s.heap.FunFrames base outer
 frf:∀b∈cU outer,H b=none
 j_:RA P w H s.heap
 bare:AllBare s.gens
def aP(outer:Re Env)(P:TD)(w:TW)(H:Hp)(s:Tk)(Q:VK)(u:SZ)(s':Tk):Prop :=
 ∃v H',s'.os=s.os/\AllBare s'.gens/\Un (cU outer) [] H H' s.heap s'.heap/\RA P w H' s'.heap/\RelV v u/\Q v H'
def oP(CX:ZN)(outer:Re Env)(P:TD)(w:TW)(H:Hp)(s:Tk)(Q:VK)(E:XK)(r:Result)(s':Tk):Prop :=
 match r with
 | .ok (.ret u)=>aP outer P w H s Q u s'
 | .ok _=>False
 | .error e=>CX outer H s E e s'
structure RC(P:TD)(w:TW)(K:PySem.W.Frag)(mg:R1)(base:Wp)(CX:ZN)(k:Nat)(f:Tl)(fd:FuncData)(ps:Re Str)(sp:Sp):Prop where
 len:∀vs H Q E,sp vs H Q E->vs.length=ps.length
 run:∀(A:UV) (outer:Re Env) (s:Tk) (H:Hp) (args:Args) (us:Re SZ) (vs:Re V) (Q:VK) (E:XK),z_ k A->Zf P w K mg base A outer s H->BindsTo s fd args (ps.zip us)->Vals vs us->sp vs H Q E ->
  codeAny (model P w) A (.call (.ref f) args) (oP CX outer P w H s Q E) s
section
variable {X:Cx} {Z:St} {H:Hp} {s':Tk}
theorem Inv.zaF(I:Inv X pins Z H s):Zf X.prog X.w X.K X.mg X.base X.A X.stack s H :=
 {I.ok.frames,I.ok.mod,I.bs,di I.ok.bsz I.sz,I.stack,I.Uo,I.j_,I.bare}
theorem Inv.after{Q:VK}(I:Inv X pins Z H s)(h:aP X.stack X.prog X.w H s Q u s'):uN X pins Z Q u s':=by
 let{v,H',os,bare,un,j_,r,q}:=h;let{hh,g,d,t,os'}:=s';obtain rfl:os'=s.os:=os;exact{v,H',I.call      un j_ bare λb z=>absurd z ?E,r,q}
end
noncomputable def Binds(K:PySem.W.Frag)(fd:FuncData)(ps:Re Str)(ds:Re SZ):Prop :=
 ∀(s:Tk) (us:Re SZ),K.In s.heap->(us++ds).length=ps.length->BindsTo s fd {us,[]} (ps.zip<|us++ds)
theorem Binds.all{K:PySem.W.Frag}{fd:FuncData}{ps:Re Str}(h:∀us:Re SZ,us.length=ps.length->bindArgs fd {us,[]}=pure (ps.zip us)):Binds K fd ps []:=λs us _ hl=>by
 rw[je]at hl ⊢;exact .of_eq<|h us hl
structure o_(N P:Re Str)(sc:Scope):Prop where
 kind:sc.kind=.function
 co:sc.isCoroutine=false
 gen:sc.isGenerator=false
 nd:N.Nodup
 pre:N.take P.length=P
 par:∀x∈P,sc.names.lookup x=some .local\/sc.names.lookup x=some .cell
 Z5:∀y∈sc.names,y.2≠.free
def Qj{kindOf:Str->SL NameKind}{x:Str}:∀{binds:Re (Str×SZ)} {m:R1},(∀v,(x,v)∉binds)->bindL kindOf binds m x=m x
 | [],_,_=>rfl
 | (n,v)::r,m,h=>by
  unfold bindL;rw[Qj λw hw=>h w<|xO _ hw];split
  ·grind
  ·rfl
def Qk{kindOf:Str->SL NameKind}{x:Str}:∀{binds:Re (Str×SZ)} {m:R1},(∀v,(x,v)∉binds)->bindC kindOf binds m x=m x
 | [],_,_=>rfl
 | (n,v)::r,m,h=>by
  unfold bindC;rw[Qk λw hw=>h w<|xO _ hw];split
  ·rfl
  grind
def Ql{kindOf:Str->SL NameKind}{x:Str}{v:SZ}:∀{P:Re Str} {vs:Re SZ} {i:Nat} {m:R1},P.Nodup->P[i]? = some x->vs[i]? = some v->kindOf x=some .local ->
  bindL kindOf (P.zip vs) m x=some v
 | [],_,_,_,_,h,_,_=>by simp at h
 | _::_,[],_,_,_,_,h,_=>by simp at h
 | p::P,w::vs,0,m,nd,h1,h2,hk=>by
  simp at h1 h2;subst h1;subst h2;show bindL kindOf ((p,w)::P.zip vs) m p=_;unfold bindL;rw[Qj λv hv=>(List.nodup_cons.mp nd).1 (sD hv).1,ap hk];simp
 | p::P,w::vs,i+1,m,nd,h1,h2,hk=>by
  show bindL kindOf ((p,w)::P.zip vs) m x=_;exact Ql  (List.nodup_cons.mp nd).2 ((h1)) ((h2)) hk
def Qm{kindOf:Str->SL NameKind}{x:Str}{v:SZ}:∀{P:Re Str} {vs:Re SZ} {i:Nat} {m:R1},P.Nodup->P[i]? = some x->vs[i]? = some v->kindOf x≠some .local ->
  bindC kindOf (P.zip vs) m x=some v
 | [],_,_,_,_,h,_,_=>by simp at h
 | _::_,[],_,_,_,_,h,_=>by simp at h
 | p::P,w::vs,0,m,nd,h1,h2,hk=>by
  simp at h1 h2;subst h1;subst h2;show bindC kindOf ((p,w)::P.zip vs) m p=_;unfold bindC;rw[Qk λv hv=>(List.nodup_cons.mp nd).1 (sD hv).1,ba hk];simp
 | p::P,w::vs,i+1,m,nd,h1,h2,hk=>by
  show bindC kindOf ((p,w)::P.zip vs) m x=_;exact Qm  (List.nodup_cons.mp nd).2 ((h1)) ((h2)) hk
def start(N:Re Str)(vs:Re V):St:=vs.map some++List.replicate (N.length - vs.length) none
def mQ(CX:ZN)(P:TD)(w:TW)(K:PySem.W.Frag)(mg:R1)(base:Wp)(N:Re Str)(qual:Str)(scope:Scope)(f:Tl)(cd:SZ)(A:UV)(outer:Re Env)(s:Tk)(H:Hp)(E:XK):Cx where
 prog:=P
 w:=w
 K:=K
 mg:=mg
 base:=base
 A:=A.deeper (envOfC qual scope s.heap.objs.size f cd)
 N:=N
 s₀:=s
 H₀:=H
 env:=envOfC qual scope s.heap.objs.size f cd
 outer:=outer
 stack:=envOfC qual scope s.heap.objs.size f cd::outer
 ex:=[]
 calm:=true
 fn:=λ_=>true
 pn:=[]
 xe:=λe s'=>wpAny (model P w) (A.deeper<|envOfC qual scope s.heap.objs.size f cd) (leaving (envOfC qual scope s.heap.objs.size f cd) e) (λ_ s''=>CX outer H s E e s'') (λe' s''=>CX outer H s E e' s'') s'
def Qn{sc:Scope}{n:Nat}(h:sc.names.lookup x=some .cell):∃c,(cellsFrom n sc.names []).lookup x=some c:=by
 have q:=PySem.W.cellsFrom_some sc.names n []<|.inl h;exact Option.isSome_iff_exists.mp q
def Dg{CX:ZN}{K:PySem.W.Frag}{mg:R1}{base:Wp}{N ps:Re Str}{qual:Str}{scope:Scope}{f:Tl}{cd:SZ}{outer:Re Env}{s1:Tk}{H:Hp}{E:XK}{vs:Re V}
  (S:o_ N ps scope) (hd:A.handled=none) (e0:Zf P w K mg base A outer s H) (hl:vs.length=ps.length) (r:Vals vs us)
  (x:InCallC s s.heap.objs.size (bindL (envOfC qual scope s.heap.objs.size f cd).kindOf (ps.zip us) λ_=>none) (cellsFrom ?jy scope.names []) (bindC (envOfC qual scope s.heap.objs.size f cd).kindOf (ps.zip us) λ_=>none) s1) :
  Inv (mQ CX P w K mg base N qual scope f cd A outer s H E) [] (start N vs) H s1:=by
 have Sg:ps.length<=N.length:=by have:=congrArg List.length S.pre;grind
 let{h1,tk,rfl,hk}:=x.done;have noA:∀b ,b∉(mQ CX P w K mg base N qual scope f cd A outer s H E).ex:=λb z=>absurd (show b∈([])from z) ?E
 refine{{e0.mod,S.kind,rfl,rfl,ai _,λy z c h1 h2=>?_,λy hy=>?_,λy c _ h=>?_,λ_=>hd,Around.frames_deeper e0.frames,.inr {rfl,rfl},λb z=>absurd z<|noA b,e0.bs,e0.bsz,λb _ _=>noA b,λb z=>absurd z<|noA b,e0.UD,e0.frf},
  rfl,e0.bare,Un.kept hk,{_,x.toInCall.ns,λi y v h1 h2 h3=>?_},λy c h=>{_,x.cell y c h},e0.j_.fresh ?ji,λy c h=>?_,λp hp=>absurd (show p∈([])from hp) ?E,e0.j_.kept hk,?_}
 ·exact name_of_addr x.apart (ut h1)<|ut h2
 ·let hy||hy:=hy
  ·exact Qn hy
  ·exact absurd rfl<|S.Z5 _<|ut hy
 ·exact gO<|x.above y c<|ut h
 ·have hi:i<vs.length:=by
   unfold start at h2
   grind
  have ha:vs[i]? = some v:=by
   unfold start at h2
   grind
  let{u,hu,rv}:=r.get ha;have hp:ps[i]? = some y:=by
   rw[<-S.pre,mR ?A];exact h1
  have ndP:ps.Nodup:=by rw[<-S.pre];exact S.nd.sublist<|List.take_sublist _ _
  refine{u,rv,?_};rcases S.par y (ul hp)with k|k
  ·exact .inl {k,Ql ndP hp hu k}
  ·let{c,e}:=Qn  k;refine .inr {.inl k,c,e,?_};have q:=x.cell y c e;rw[Qm ndP hp hu (by show scope.names.lookup y≠_;rw[k];decide)]at q;exact q
 ·exact e0.j_.fresh<|gO<|x.above y c<|ut h
 ·unfold start;show _=N.length
  grind
def JT{CX:ZN}{K:PySem.W.Frag}{mg:R1}{base:Wp}{k:Nat}{f:Tl}{name qual:Str}{params:Arguments}{scope:Scope}{dV kV doc pm p_ ct oc:SZ}{an od:SL Tl}
  {Us:UF (SL SZ)} {N ps:Re Str} {sp:Sp} (lk:K.lookup f=some {oc,od,.func<|PySem.W.fnOf name qual params body scope dV kV doc pm an p_ ct,Us}) (RB:PySem.W.codeIn K p_ qual=true) (S:o_ N ps scope)
  (len:∀vs H Q E,sp vs H Q E->vs.length=ps.length)
  (Vi:∀(A:UV) (outer:Re Env) (s:Tk) (H:Hp) (vs:Re V) (Q:VK) (E:XK),z_ k (A.deeper<|envOfC qual scope s.heap.objs.size f p_)->sp vs H Q E ->
   ∃t,zA (mQ CX P w K mg base N qual scope f p_ A outer s H E) body t/\t { nx:=λ_ H'=>Q .Rq H',rt:=Q } (start N vs) H) :
  RC P w K mg base CX (k+1) f (PySem.W.fnOf name qual params body scope dV kV doc pm an p_ ct) ps sp:=by
 refine{len,λA outer s H args us vs Q E hr e0 hb r Uy=>?_};have hl:=len _ _ _ _ Uy;have KX:=e0.mod.XG.keeps λb o e=>(e0.bs b o e).1
 have lim:=e0.mod.nolimit.keeps λb o e=>(e0.bs b o e).1
 have zay:∀y∈ps.zip us,scope.names.lookup y.1=some .local\/(scope.names.lookup y.1=some .cell/\((cellsFrom ?jy scope.names []).lookup y.1).isSome=true):=λ⟨n,v⟩ hy=>by
  let q||q:=S.par n (sD hy).1
  ·exact .inl q
  ·exact .inr {q,PySem.W.cellsFrom_some _ _ _<|.inl q}
 refine codeAny_call_function hr.depth (KX _ _ lk) rfl S.co S.gen rfl (PySem.W.codeRec_of KX RB)<|hb _ _ _ _ ?_;refine wpAny_newFunctionEnv_cells S.kind zay λenv he s1 x=>?_
 subst he;refine{lim.keeps x.toInCall.keep,codeAny_func ?_};let{t,ht,hq}:=Vi A outer s H vs Q E (hr.deeper _) Uy;have I:Inv (mQ CX P w K mg base N qual scope f p_ A outer s H E) [] (start N vs) H s1:=Dg S hr.hd e0 hl r x;refine oS (ht [] s1 (start N vs) H _ I hq) (λfl s' hs=>?_) λe s' hs=>hs
 have fin:∀{σ':St} {H':Hp} {v:V} {u:SZ},Inv (mQ CX P w K mg base N qual scope f p_ A outer s H E) [] σ' H' s'->RelV v u->Q v H'->aP outer P w H s Q u s' :=
  λ{σ' H' v u} J rv q=>{v,H',J.os,J.bare,J.base,J.j_,rv,q}
 cases fl with
 | ret u =>
  let{v,σ',H',J,rv,q}:=hs;exact fin J rv q
 | next =>
  let{σ',H',J,q}:=hs;exact fin (v:=V.Rq)  J rfl q
 | brk =>
  let{_,_,_,q}:=hs;exact False.elim q
 | cont =>
  let{_,_,_,q}:=hs;exact False.elim q
section
variable {X:Cx} {t:TA} {id T:String} {r:Re V->Hp->VK->Prop}
def tCB(r:Re V->Hp->VK->Prop)(t:TA):TE:=λZ H Q=>t Z H λvs H1=>r vs H1 Q
def Qo(hc:k_ X (.builtin id) r)(hg:uf X x)(hm:X.mg x=none)(hv:bootBuiltins x=some (.builtin id))(ha:sY X (e::es) t)(hn:x ≠ "__name__":=by decide)(SQ:(x==("__debug__" : Str))=false:=by decide)
  (he:starEach (e::es) X.env=?N::starEach es X.env:=by rfl) (Sg:(backTo pos ?W).any (·.1)=false:=by rfl):cM X (.Call (.Name x p) (e::es) [] pos) (tCB r t):=by
 intro pins s Z H Q I h;refine xz<|Go I hg hm hv ?_ hn SQ;exact PyProof.Rows.callWith_builtin1 (Db ?jU λus s1 ⟨vs,H1,I1,r1,q1⟩=>hc pins s1 Z H1 vs us Q I1 r1 q1) he Sg
def Qp(hc:k_ X (.type T) r)(hg:uf X x)(hm:X.mg x=none)(hv:bootBuiltins x=some (.type T))(ha:sY X (e::es) t)(hn:x ≠ "__name__":=by decide)(SQ:(x==("__debug__" : Str))=false:=by decide)
  (he:starEach (e::es) X.env=?N::starEach es X.env:=by rfl) (Sg:(backTo pos ?W).any (·.1)=false:=by rfl):cM X (.Call (.Name x p) (e::es) [] pos) (tCB r t):=by
 intro pins s Z H Q I h;refine xz<|Go I hg hm hv ?_ hn SQ;exact ny (Db ?jU λus s1 ⟨vs,H1,I1,r1,q1⟩=>hc pins s1 Z H1 vs us Q I1 r1 q1) he Sg
end
end L2
namespace HT
open PySem PyProof.Rows
variable {Q:t_}
def lexLt:Re Int->Re Int->Bool
 | [],[]=>false
 | [],_::_=>true
 | _::_,[]=>false
 | x::xs,y::ys=>if x=y then lexLt xs ys else decide (x<y)
def Q_(x y:Int)(xs ys:Re Int):lexLt (x::xs) (y::ys)=if x=y then lexLt xs ys else decide (x<y):=rfl
def Qq:lexLt [] []=false:=rfl
def Qr(y:Int)(ys:Re Int):lexLt [] (y::ys)=true:=rfl
def Qt(x:Int)(xs:Re Int):lexLt (x::xs) []=false:=rfl
def Gg(A:UV)(s:Tk)(a:Int)(t:Tok)(c:Int)(u:Tok):∃e,SeqAt.EqAt A s (.int a t) (.int c u) e/\(e=true↔a=c) :=
 {(a==c),SeqAt.EqAt.int_int a t c u,by simp}
def U5(A:UV)(s:Tk)(a:Int)(t:Tok)(c:Int)(u:Tok)(prog:TD)(w:TW)(E:t_)(Q:t_)(h:Q (.bool<|decide<|a<c) s) :
  wpAny ?D A (richCompare .Lt (.int a t)<|.int c u) Q E s :=
 (PyProof.Rows.lt_int h)
section
open PySem.SeqAt
open PySem.AutoSeq1 (wpAny_loadPart')
open PySem.MeetsSeq PySem.MeetsSeq2 PySem.MeetsSeq3
def Qu(l b:Tl)(items B_:UF SZ)(n n2:Nat)(dd WB:SL Tl)(sl Wr:UF (SL SZ))(ns ms:Re Int)(hi:IntsAre items.toList ns)(hj:IntsAre B_.toList ms) :
  Meets (Builtin.«tuple.__lt__» {[.ref l,.ref b],[]})
   (λ_ R s=>s.heap.get? l=some { cls:=.type "tuple",dict:=dd,data:=.seq items n,slots:=sl }/\s.heap.get? b=some { cls:=.type "tuple",dict:=WB,data:=.seq B_ n2,slots:=Wr } /\
    R (.ok<|.ret<|.bool<|lexLt ns ms) s) :=
 .of_wp λprog w A R s h=>by
  let{hp,g,d,tk,os}:=s;let{hl,hb,h}:=h;have f2:=AutoSeq1.sub_tuple_tuple;have z1:items.size=ns.length:=by rw[<-hi.length];simp
  have z2:B_.size=ms.length:=by rw[<-hj.length];simp
  wp_walk using wpAny_loadPart' hl,wpAny_loadPart' hb,wpAny_forIn_list _ (λrest b s'=>b.1=none/\s'={hp,g,d,tk,os}/\∃(vs ws:Re SZ) (ns' ms':Re Int),rest=vs.zip ws /\
   IntsAre vs ns'/\IntsAre ws ms'/\ns'.length+B_.size=ms'.length+items.size/\R (.ok<|.ret<|.bool<|lexLt ns' ms') {hp,g,d,tk,os}) _
  case turn =>
   rintro⟨y,x⟩ rest b s' ⟨hb',rfl,vs,ws,ns',ms',hz,hvi,hwi,hlen,hR⟩
   cases hvi with
   | nil=>simp_all
   | cons a t zbs =>
    cases hwi with
    | nil=>simp_all
    | cons c u zbr =>
     rw[List.zip_cons_cons]at hz;injection hz with hyx zbp;injection hyx with hy hx;subst hy hx;rw[Q_]at hR;simp![f8]at hlen;let{e,he,zaz}:=Gg A.in1 {hp,g,d,tk,os} a t c u;refine f_<|he prog w _ _ ?_
     cases e with
     | true =>
      rw[ap<|zaz.mp rfl]at hR
      wp_walk
      grind
     | false =>
      rw[ba λq=>absurd (zaz.mpr q) Bool.false_ne_true]at hR;have hri:=U5 A.in1 {hp,g,d,tk,os} a t c u prog w
      wp_walk using hri
      grind
  case fin =>
   rintro⟨b1,b2⟩ s' ⟨hb',rfl,vs,ws,ns',ms',hz,hvi,hwi,hlen,hR⟩;simp only at hb';subst hb';have hv:lexLt ns' ms'=decide (items.size<B_.size):=by
    cases hvi with
    | nil =>
     cases hwi with
     | nil =>
      simp![yT]at hlen;rw[Qq]
      grind
     | cons c u hw =>
      simp![yT,f8]at hlen;rw[Qr]
      grind
    | cons a t hv =>
     cases hwi with
     | nil =>
      simp![yT,f8]at hlen;rw[Qt]
      grind
     | cons c u hw =>
      simp_all
   rw[hv]at hR
   wp_walk
   exact{_,rfl,by simpa[Builtin.Tuple.tupleCompareSizes]using hR}
  grind
end
section
variable {prog:TD} {w:TW} {A:UV} {E:t_} {s:Tk}
def V3{l b:Tl}{items B_:UF SZ}{ns ms:Re Int}(hl:IsTup s.heap l items)(hb:IsTup s.heap b B_)(hi:IntsAre items.toList ns)(hj:IntsAre B_.toList ms)
  (hu:A.units<cLine) (h:Q (.bool<|lexLt ns ms) s):wpAny ?D A (compareOp .Lt (.ref l)<|.ref b) Q E s:=by
 let{{cls,dd,data,sl},ho,hc,n,hd}:=id hl;let{{Y8,WB,data2,Wr},TF,hc2,n2,hd2}:=id hb;subst hc hd hc2 hd2;exact richCompare_meets_room (op:=.Lt) {_,ho,rfl} {_,TF,rfl} PySem.F.slot_tuple_lt PySem.F.entry_tuple_lt (PySem.F.args_tuple_lt_2 _ _) (Qu l b items B_ n n2 dd WB sl Wr ns ms hi hj)
  {ho,TF,({(λx=>nomatch x),h})} hu
def Y9{t b:Tl}{vs ws:Re SZ}(ht:IsTup s.heap t vs.toArray)(hb:IsTup s.heap b ws.toArray)(hv:vs≠[])
  (h1:ws=[]->Q (.ref t) s) (h2:ws≠[]->Q (.ref s.heap.objs.size) { s with heap:=s.heap.push { cls:=.type "tuple",data:=.seq (vs++ws).toArray } })
  (hsz:vs.length+ws.length<=sizeLine):wpAny ?D A (binaryOp .Add (.ref t)<|.ref b) Q E s:=by
 let{{cls,dd,data,sl},ho,hc,n,hd}:=id ht;let{{Y8,WB,data2,Wr},TF,hc2,n2,hd2}:=id hb;subst hc hd hc2 hd2;have e:vs.toArray++ws.toArray=(vs++ws).toArray:=by simp
 by_cases hw:ws=[]
 ·exact concat_meets {_,ho,rfl} {_,TF,rfl} noFill_tuple_add seq_tuple_add w9 pJ (kG _ _)
   (tuple_addW1 t b vs.toArray ws.toArray n n2 dd WB sl Wr (by simpa using hv) (by simp[hw])) {ho,TF,h1 hw}
 ·refine concat_meets {_,ho,rfl} {_,TF,rfl} noFill_tuple_add seq_tuple_add w9 pJ (kG _ _)
   (tuple_addW2 t b vs.toArray ws.toArray n n2 dd WB sl Wr (by simpa using hv) (by simpa using hw)<|(hsz)) {ho,TF,?_}
  rw[e];exact h2 hw
def y_(n d:Nat):SL Int->Nat
 | none=>d
 | some v=>if v<0 then(v+(n:Int)).toNat else min v.toNat n
def Xn(n d:Nat):y_ n d none=d:=rfl
def YE(n d k:Nat):y_ n d (some (k:Int))=min k n:=rfl
def BZ(v:Int)(n d:Nat):(if v<0 then max (v+(n:Int)) 0 else min v (n:Int))=((y_ n d (some v):Nat):Int):=by
 show(if v<0 then max (v+(n)) 0 else min v (n))=(((if v<0 then(v+(n)).toNat else min v.toNat n)))
 grind
def Aq(lo hi:SL Int)(n:Nat):Builtin.Slice.sliceAdjust lo hi 1 (n:Int)=(((y_ n 0 lo:Nat):Int),((y_ n n hi:Nat):Int)):=by
 have h1:¬ ((1)<0):=by lia
 refine Prod.ext ?_ ?_
 ·cases lo with
  | none=>rfl
  | some v=>exact BZ v n 0
 ·cases hi with
  | none=>rfl
  | some v=>exact BZ v n n
def Qv(i j:Nat):Builtin.Slice.slicePlaces (i:Int) (j:Int) 1=j - i:=by
 unfold Builtin.Slice.slicePlaces
 grind
def Qw{v:SZ}{o:SL Int}{Q:SL Int->Tk->Prop}(p:IsPart v o)(h:Q o s):wpAny ?D A (Builtin.Slice.slicePartIndex v) Q E s:=by
 cases p with
 | none=>exact slicePart_none h
 | int i t=>exact slicePart_int h
def Qx{sl:Tl}{vl vu:SZ}{lo hi:SL Int}{n:Nat}{Q:Int×Int×Nat->Tk->Prop}(hs:s.heap.IsSliceOf sl vl vu .none)(pl:IsPart vl lo)(pu:IsPart vu hi)
  (h:Q (((y_ n 0 lo:Nat):Int),1,y_ n n hi - y_ n 0 lo) s):wpAny ?D A (Builtin.Slice.sliceApplied (.ref sl)<|pure (n:Int)) Q E s:=by
 let{os,hos,hcs,UT}:=id hs;refine f_<|f_<|kw hos UT  rfl<|f_<|kw hos UT  rfl<|f_<|kw hos UT  rfl<|l_ ?_;refine f_<|slicePart_none ?_;refine f_<|Qw pl<|f_<|Qw pu<|f_<|l_ ?_;show wpAny _ _ (match Builtin.Slice.sliceAdjust lo hi 1 (n)with|(lo,hi)=>pure (lo,(1:Int),Builtin.Slice.slicePlaces lo hi 1)) _ _ s;rw[Aq lo hi n];show wpAny _ _ (pure (((y_ n 0 lo):Int),(1),Builtin.Slice.slicePlaces ((y_ n 0 lo)) ((y_ n n hi)) 1)) _ _ s;rw[Qv];exact l_ h
def EL(xs:UF SZ)(i k:Nat):((List.range k).filterMap λ(m:Nat)=>xs[((i:Int)+(m:Int)*1).toNat]?).toArray=((xs.toList.drop i).take k).toArray:=by
 have e:(λ(m:Nat)=>xs[((i:Int)+(m)*1).toNat]?)=λm=>xs[i+m]?:=by
  grind
 have:=pick_run xs i k;have e2:((λx=>xs[x]?)∘λx=>i+x)=λm=>xs[i+m]?:=rfl
 grind
def Su{t sl:Tl}{items:UF SZ}{vl vu:SZ}{lo hi:SL Int}(ht:IsTup s.heap t items)(hs:s.heap.IsSliceOf sl vl vu .none)(pl:IsPart vl lo)(pu:IsPart vu hi)
  (hw:¬ (y_ items.size 0 lo=0/\y_ items.size items.size hi=items.size))
  (h:Q (.ref s.heap.objs.size) { s with heap:=s.heap.push { cls:=.type "tuple",data:=.seq ((items.toList.drop ?qp).take ?jb).toArray } })
  (hsz:items.size<=sizeLine):wpAny ?D A (getItem (.ref t)<|.ref sl) Q E s:=by
 have Ww:=by
  show((items.toList.drop ?qp).take ?jb).toArray.size<=sizeLine
  grind
 let{os,hos,hcs,UT}:=id hs;have hTs:s.TypeIs (.ref sl) "slice":={os,hos,hcs};unfold getItem
 try with_reducible refine um ?_
 refine f_<|wpAny_sequenceKey ht.typeIs ?C ?_
 refine f_<|mo  ht.typeIs vU
  <|pd vU ht.typeIs entry_tuple_getitem ?_<|args_tuple_getitem _ _
 show wpAny _ _ (Builtin.Tuple.tupleItemsOf (.ref t) >>= _) _ _ s;refine f_<|tupleItemsOf_ ht ?_;refine f_<|iD hTs ?_;refine f_<|Qx hs pl pu ?_;have hno:¬ (((?qp:Int)==0&&(1:Int)==1&&?jb==items.size)=true):=by
  grind
 show wpAny _ _ (if((?qp:Int)==0&&(1)==1&&?jb==items.size)=true then _ else _) _ _ s;rw[ba hno,EL]
 first
  | exact f_<|io (l_ {_,rfl,l_ h}) Ww
  | exact f_<|io (f_<|l_<|l_ {_,rfl,l_ h}) Ww
  | exact f_<|f_<|io (l_<|l_ {_,rfl,l_ h}) Ww
  | exact f_<|f_<|io (l_ {_,rfl,l_ h}) Ww
end
end HT
namespace L2
open PySem PySem.Spec PyProof.Rows
variable {xs:Re V}{X:Cx}{n:Nat}{pins:w_}{Z:St}{H:Hp}{s:Tk}{us i_:Re SZ}
abbrev TO:=St->Hp->(SL Int->Hp->Prop)->Prop
def yR(X:Cx)(e:SL Uf)(t:TO):Prop :=
 ∀(pins:w_) (s:Tk) (Z:St) (H:Hp) (Q:SL Int->Hp->Prop),Inv X pins Z H s->t Z H Q ->
  wpAny ?B X.A (evalPart e X.env) (λu s'=>∃o H',Inv X pins Z H' s'/\IsPart u o/\Q o H') X.xe s
def cL:TO:=λ_ H Q=>Q none H
def jw(t:TE):TO:=λZ H Q=>t Z H λx H1=>∃i,x=.int i/\Q (some i) H1
theorem intsAre_of{ns:Re Int}:∀{us:Re SZ},Vals ?jG us->IntsAre us ns:=by
 induction ns with
 | nil=>intro us r;cases r;exact .nil
 | cons n ns ih =>
  intro us r
  cases r with
  | cons r1 r2 =>
   let{t,e}:=r1;subst e;exact .cons n t<|ih r2
section
variable {e:Uf} {te:TE} {lo hi:SL Uf} {tl th:TO} {pos p2:Pos}
def A4:yR X none cL:=by
 intro pins s Z H Q I h;exact l_ {none,H,I,.none,h}
def A3(h:cM X e te):yR X (some e) (jw te):=by
 intro pins s Z H Q I hw;refine Db (h pins s Z H _ I hw) λu s1 ⟨x,H1,I1,r1,q1⟩=>?_
 let{i,rfl,q}:=q1;let{t,rfl}:=r1;exact{some i,H1,I1,.int i t,q}
noncomputable def ZL(X:Cx)(r:V->SL Int->SL Int->Hp->VK->Prop):Prop :=
 ∀(pins:w_) (s:Tk) (Z:St) (H:Hp) (x:V) (v vl vu:SZ) (lo hi:SL Int) (sl:Tl) (Q:VK),Inv X pins Z H s->RelV x v->s.heap.IsSliceOf sl vl vu .none->IsPart vl lo->IsPart vu hi->r x lo hi H Q ->
  ∃T id,typeLookup (.type T) "__getitem__" = pure (some<|.builtin id)/\s.TypeIs v T/\wpAny ?B X.A (getItem v<|.ref sl) ?jq X.xe s
theorem ZL.or{r r':V->SL Int->SL Int->Hp->VK->Prop}(h:ZL X r)(h':ZL X r'):ZL X (λx lo hi H Q=>r x lo hi H Q\/r' x lo hi H Q):=by
 intro pins s Z H x v vl vu lo hi sl Q I rx hs pl pu q;let q||q:=q
 ·exact h pins s Z H x v vl vu lo hi sl Q I rx hs pl pu q
 ·exact h' pins s Z H x v vl vu lo hi sl Q I rx hs pl pu q
def tSl(r:V->SL Int->SL Int->Hp->VK->Prop)(te:TE)(tl th:TO):TE:=λZ H Q=>te Z H λx H1=>tl Z H1 λl H2=>th Z H2 λu H3=>r x l u H3 Q
def Qy{r:V->SL Int->SL Int->Hp->VK->Prop}(hr:ZL X r)(he:cM X e te)(hl:yR X lo tl)(hu:yR X hi th):cM X (.Subscript e (.Slice lo hi none p2) pos) (tSl r te tl th):=by
 intro pins s Z H Q I h;refine Subscript_<|Db ?qe λv s1 ⟨x,H1,I1,r1,q1⟩=>?_;refine wpAny_Slice<|Db (hl pins s1 Z H1 _ I1 q1) λvl s2 ⟨l,H2,I2,pl,q2⟩=>Db (hu pins s2 Z H2 _ I2 q2) λvu s3 ⟨u,H3,I3,pu,q3⟩=>?_;refine l_ ?_;have I4:Inv X pins Z H3 { s3 with heap:=s3.heap.push { cls:=.type "slice",data:=.fields #[vl,vu,.none] } }:=I3.kept  λb ob q=>v_ _ q
 let{T,id,hT,ht,hg}:=hr pins { s3 with heap:=s3.heap.push { cls:=.type "slice",data:=.fields #[vl,vu,.none] } } Z H3 x v vl vu l u s3.heap.objs.size Q I4 r1 (Heap.IsSliceOf.new ..) pl pu q3;exact tail_any  ht hT hg<|rfl
def gQ(xs:Re V)(lo hi:SL Int):Re V:=(xs.drop<|HT.y_ xs.length 0 lo).take<|HT.y_ xs.length xs.length hi - HT.y_ xs.length 0 lo
def Qz(xs:Re V)(lo hi:SL Int):(gQ xs lo hi).length<=xs.length:=by
 unfold gQ;rw[wT,rV];lia
def jd(K:PySem.W.Frag):V->SL Int->SL Int->Hp->VK->Prop:=λx lo hi H Q=>∃a xs,x=.ref a/\A_ K H a xs /\
 ¬ (HT.y_ xs.length 0 lo=0/\HT.y_ xs.length xs.length hi=xs.length)/\∀p,H p=none->Q (.ref p) (upd H p<|.tup<|gQ xs lo hi)
def ZW:ZL X (jd X.K):=by
 intro pins s Z H x v vl vu lo hi sl Q I rx hs pl pu h;let{a,xs,rfl,hx,hw,q}:=h
 cases rx
 let{i_,r,ht,hz}:=I.tuple hx;have hlen:i_.toArray.size=xs.length:=(r.length.symm);refine{"tuple",_,PyProof.Rows.slot_tuple_getitem.lookup,ht.typeIs,?_};refine HT.Su ht hs pl pu (by rw[hlen];exact hw) ?_ (by rw[hlen];exact hz);rw[hlen];refine{.ref s.heap.objs.size,_,I.laid   (λb ob q=>v_ _ q) ?ji ?_,rfl,q _ ?jA};exact{di (Qz xs lo hi) hz,_,(r.drop<|HT.y_ xs.length 0 lo).take<|HT.y_ xs.length xs.length hi - HT.y_ xs.length 0 lo,IsTup.new _ _,W6.new _ _}
def mX(K:PySem.W.Frag):R2:=λx y H Q=>∃a b ns ms,x=.ref a/\y=.ref b/\A_ K H a ?jG/\A_ K H b (ms.map V.int)/\Q (.bl<|HT.lexLt ns ms) H
def KY(hu:X.A.units<cLine):K_ X (compareOp .Lt) (mX X.K):=by
 intro pins s Z H x y v u Q I rx ry h;let{a,b,ns,ms,rfl,rfl,ha,hb,q}:=h
 cases rx
 cases ry
 let{i_,r1,p1,_}:=I.tuple ha;let{Tu,r2,p2,_}:=I.tuple hb;have i1:=intsAre_of r1;have i2:=intsAre_of r2;exact HT.V3 p1 p2 i1 i2 hu {.bl<|HT.lexLt ns ms,H,I,rfl,q}
def qU(K:PySem.W.Frag):R2:=λx y H Q=>∃a b xs ys,x=.ref a/\y=.ref b/\A_ K H a xs/\A_ K H b ys/\xs≠[]/\xs.length+ys.length<=sizeLine /\
 (ys=[]->Q (.ref a) H)/\(ys≠[]->∀p,H p=none->Q (.ref p) (upd H p<|.tup<|xs++ys))
def Vals.Ti(r:Vals xs us):us=[]↔xs=[]:=by
 cases r with
 | nil=>simp
 | cons _ _=>simp
def HF:K_ X (binaryOp .Add) (qU X.K):=by
 intro pins s Z H x y v u Q I rx ry h;let{a,b,xs,ys,rfl,rfl,ha,hb,hx,hz,q1,q2}:=h
 cases rx
 cases ry
 let{i_,r1,p1,_}:=I.tuple ha;let{Tu,r2,p2,_}:=I.tuple hb;refine HT.Y9 p1 p2 (λz=>hx<|r1.Ti.mp z) (λz=>{.ref a,H,I,rfl,q1<|r2.Ti.mp z}) (λz=>?_) (by rw[<-r1.length,<-r2.length];exact hz);refine{.ref s.heap.objs.size,_,I.laid   (λb ob q=>v_ _ q) ?ji ?_,rfl,q2 (λw=>z<|r2.Ti.mpr w) _ ?jA};exact{by rw[xP];exact hz,_,r1.append r2,IsTup.new _ _,W6.new _ _}
end
noncomputable def WQ(n:Nat)(i:Int):SL Nat:=if 0<=i then(if i<n then some i.toNat else none)else if -(n:Int)<=i then some (i+n).toNat else none
def fT{α:Type}(xs:Re α)(i:Int):SL α:=(WQ xs.length i).bind λj=>xs[j]?
def Bw{i:Int}{j:Nat}(h:WQ n i=some j):seqIndex? i n=some j/\j<n /\ -(n:Int)<=i/\i<n:=by
 unfold WQ at h;by_cases h0:0<=i
 ·rw[ap h0]at h;by_cases h1:i<n
  ·rw[ap h1]at h;have e:=Option.some.inj h;exact{by rw[seqIndex_of h0 h1,e],by lia,by lia,h1}
  grind
 ·rw[ba h0]at h;by_cases h1 : -(n)<=i
  ·rw[ap h1]at h;have e:=Option.some.inj h;exact{by rw[seqIndex_neg ?A h1,e],by lia,h1,by lia}
  grind
def QA{α:Type}{xs:Re α}{i:Int}{v:α}(h:fT xs i=some v):∃j,seqIndex? i xs.length=some j/\xs[j]? = some v/\j<xs.length /\ -(xs.length:Int)<=i/\i<xs.length:=by
 unfold fT at h
 cases e:WQ xs.length i with
 | none=>rw[e]at h;cases h
 | some j =>
  rw[e]at h;let{h1,h2,h3,h4}:=Bw e;exact{j,h1,h,h2,h3,h4}
def wZ(b:Uf):Prop:=∀o i,subscripted b false o i=operate [o,i] (getItem o i)
noncomputable def WH(X:Cx)(r:R2):Prop :=
 ∀(value slice:Uf) (pins:w_) (s:Tk) (Z:St) (H:Hp) (x y:V) (v u:SZ) (Q:VK),Inv X pins Z H s->RelV x v->RelV y u->r x y H Q ->
  subscripted slice false v u=operate [v,u] (getItem v u)->wpAny ?B X.A (subscriptTail value slice v u) ?jq X.xe s
noncomputable def MtR(X:Cx)(id:String)(r:V->Re V->Hp->VK->Prop):Prop :=
 ∀(pins:w_) (s:Tk) (Z:St) (H:Hp) (x:V) (xs:Re V) (v:SZ) (us:Re SZ) (Q:VK),Inv X pins Z H s->RelV x v->Vals xs us->r x xs H Q ->
  wpAny ?B X.A (call (.builtin id)<|v::us) ?jq X.xe s
section
variable {a b:Uf} {ta tb:TE} {pos:Pos}
theorem WH.or{r r':R2}(h:WH X r)(h':WH X r'):WH X (λx y H Q=>r x y H Q\/r' x y H Q):=by
 intro value slice pins s Z H x y v u Q I rx ry q hs;let q||q:=q
 ·exact h value slice pins s Z H x y v u Q I rx ry q hs
 ·exact h' value slice pins s Z H x y v u Q I rx ry q hs
def A7{r:R2}(hr:WH X r)(ha:cM X a ta)(hb:cM X b tb)(hs:wZ b):cM X (.Subscript a b pos) (aJ r ta tb):=by
 intro pins s Z H Q I h;exact Subscript_<|LY ha hb I h λv u s2 x y H2 I2 rx ry q=>hr a b pins s2 Z H2 x y v u Q I2 rx ry q<|hs _ _
def wO(K:PySem.W.Frag):R2:=λx y H Q=>∃p xs i v,x=.ref p/\y=.int i/\Ro K H p xs/\fT xs i=some v/\Q v H
def fF(K:PySem.W.Frag):R2:=λx y H Q=>∃p xs i v,x=.ref p/\y=.int i/\A_ K H p xs/\fT xs i=some v/\Q v H
def gq:R2:=λx y H Q=>∃z i c,x=.str z/\y=.int i/\z.length<=sizeLine/\fT z.cps.toList i=some c/\Q (.str {#[c]}) H
def YT:WH X (wO X.K):=by
 intro value slice pins s Z H x y v u Q I rx ry h hs;let{p,xs,i,z,rfl,rfl,hq,he,q}:=h
 cases rx
 let{t,rfl}:=ry;let{i_,r,pl,hz}:=I.list hq;let{j,h1,h2,h3,h4,h5}:=QA he;let{w,ew,TX}:=r.get h2;have hl:=r.length;have hn:=Qd;have fin:uN X pins Z Q w s:={z,H,I,TX,q};by_cases h0:0<=i
 ·have hj:=by
   rw[seqIndex_of h0 h5]at h1;exact Option.some.inj h1
  exact item_listR pl.isList h0 ?A (by rw[hj];simpa using ew) fin hs
 ·have hj:(i+(i_.toArray.size)).toNat=j:=by
   rw[seqIndex_neg ?A h4]at h1;rw[ig,<-hl];exact Option.some.inj h1
  exact subscriptTail_builtinR  pl.isList.typeIs slot_list_getitem.lookup
   (wpAny_getItem_list_neg  pl.isList ?A (by rw[ig]<;>lia) ?A (by rw[hj];simpa using ew) {rfl,fin}) hs
def XH:WH X (fF X.K):=by
 intro value slice pins s Z H x y v u Q I rx ry h hs;let{p,xs,i,z,rfl,rfl,hq,he,q}:=h
 cases rx
 let{t,rfl}:=ry;let{i_,r,pl,hz}:=I.tuple hq;let{j,h1,h2,h3,h4,h5}:=QA he;let{w,ew,TX}:=r.get h2;have hl:=r.length;have hn:=Qd;have fin:uN X pins Z Q w s:={z,H,I,TX,q};exact subscriptTail_builtinR  pl.typeIs slot_tuple_getitem.lookup
  (getItem_tuple (j:=j)  pl ?A ?A ?jc (by simpa using ew) {rfl,fin}) hs
def Ls:WH X gq:=by
 intro value slice pins s Z H x y v u Q I rx ry h hs;let{z,i,c,rfl,rfl,hz,he,q}:=h;let{t,rfl}:=rx;let{t',rfl}:=ry;let{j,h1,h2,h3,h4,h5}:=QA he;have hl:z.cps.toList.length=z.length:=rfl;rw[hl]at h1 h4 h5;have hn:=Qd
 exact tail_any (typeIs_str s z t) slot_str_getitem.lookup (getItem_str  (by
  grind) (by rw[h1];simpa using h2) {.str {#[c]},H,I.tok _,{_,rfl},q}) hs
def rIx(K:PySem.W.Frag):R2:=λx y H Q=>wO K x y H Q\/fF K x y H Q\/gq x y H Q
def Lu:WH X (rIx X.K):=YT.or<|XH.or Ls
def QB(i_:Re SZ)(n j:Nat)(u:SZ):Obj.mapSeq (·.setIfInBounds j u) { cls:=.type "list",data:=.seq i_.toArray n }={ cls:=.type "list",data:=.seq (i_.set j u).toArray n }:=by
 simp[Obj.mapSeq]
theorem Inv.lst{p:Tl}(I:Inv X pins Z H s)(h:H p=some (.lst xs)) :
  ∃(i_:Re SZ) (n:Nat),Vals xs i_/\s.heap.get? p=some { cls:=.type "list",data:=.seq i_.toArray n }/\xs.length<=sizeLine:=by
 let{z,i_,n,r,e}:=I.j_ p _ h;exact{i_,n,r,e,z}
def Inv.Z8{p:Tl}{ys:Re V}{S_:Re SZ}{n':Nat}{f:Obj->Obj}(I:Inv X pins Z H s)(h:H p=some (.lst xs))
  (ho:s.heap.get? p=some { cls:=.type "list",data:=.seq i_.toArray n }) (hf:f { cls:=.type "list",data:=.seq i_.toArray n }={ cls:=.type "list",data:=.seq S_.toArray n' }) (r:Vals ys S_) (hz:ys.length<=sizeLine) (t:Nat) :
  Inv X pins Z (upd H p<|.lst ys) { s with heap:=s.heap.update p f,toks:=t }:=by
 have e:(s.heap.update p f).get? p=some { cls:=.type "list",data:=.seq S_.toArray n' }:=by
  rw[xv f ho (by rw[hf]<;>rfl),hf]
 refine I.write   (by rw[h];trivial) (.inl rfl) (λb u hb q=>(aZ _ _<|Ne.symm hb).trans q) {_,e} ?_;exact{hz,S_,n',r,e}
def fw:V->V->V->Hp->(Hp->Prop)->Prop:=λo i v H Q=>∃p xs k j,o=.ref p/\i=.int k/\H p=some (.lst xs)/\WQ xs.length k=some j/\Q (upd H p<|.lst<|xs.set j v)
theorem set_list:sH X fw:=by
 intro pins s Z H o i v ov iv u Q I ro ri rv h;let{p,xs,k,j,rfl,rfl,hp,hj,q}:=h
 cases ro
 let{t,rfl}:=ri;let{i_,n,r,ho,hz}:=I.lst hp;let{h1,h2,h3,h4}:=Bw hj;have hl:=r.length;have hn:=Qd;have I'  :=
  I.Z8 hp ho (QB i_ n j u) (r.set rv j) ?jc s.toks
 by_cases h0:0<=k
 ·have hk:k.toNat=j:=by
   rw[seqIndex_of h0 h4]at h1
   grind
  exact PySem.W.ki_setAt ho h0 ?A ?jc ?jc
 ·have hk:(k+(i_.toArray.size)).toNat=j:=by
   rw[seqIndex_neg ?A h3]at h1
   grind
  exact PySem.W.ki_setBack ho ?A ?jc ?A ?jc
def QC(lo hi:SL Int)(n:Nat):(sliceBounds lo hi none n).1=((HT.y_ n 0 lo:Nat):Int)/\(sliceBounds lo hi none n).2.1=((HT.y_ n n hi:Nat):Int)/\(sliceBounds lo hi none n).2.2=1:=by
 refine{?_,?_,rfl}
 ·cases lo with
  | none=>simp[sliceBounds,HT.y_]
  | some i =>
   simp  [sliceBounds,HT.y_,Option.getD_none,show(1)>0 by decide,zd]
   grind
 ·cases hi with
  | none=>simp[sliceBounds,HT.y_]
  | some i =>
   simp  [sliceBounds,HT.y_,Option.getD_none,show(1)>0 by decide,zd]
   grind
def QD(i_:Re SZ)(lo hi:SL Int):slicePick i_.toArray lo hi none=((i_.drop<|HT.y_ i_.length 0 lo).take<|HT.y_ i_.length i_.length hi - HT.y_ i_.length 0 lo).toArray:=by
 let{h1,h2,h3}:=QC lo hi i_.toArray.size;unfold slicePick;rw[h1,h2,h3];simp![sliceRange_one,pick_run,ig]<;>rfl
def tM(K:PySem.W.Frag):V->SL Int->SL Int->Hp->VK->Prop:=λx lo hi H Q=>∃a xs,x=.ref a/\Ro K H a xs/\∀p,H p=none->Q (.ref p) (upd H p<|.lst<|gQ xs lo hi)
def AJ:ZL X (tM X.K):=by
 intro pins s Z H x v vl vu lo hi sl Q I rx hs pl pu h;let{a,xs,rfl,hx,q}:=h
 cases rx
 let{i_,r,ht,hz}:=I.list hx;have hlen:=r.length;refine{"list",_,slot_list_getitem.lookup,ht.isList.typeIs,?_};refine wpAny_getItem_list_slice ht.isList hs pl pu .none ?E ?_ ?jc;rw[QD,<-hlen];refine{.ref s.heap.objs.size,_,I.laid   (λb ob q=>v_ _ q) ?ji ?_,rfl,q _ ?jA};exact{di (Qz xs lo hi) hz,_,0,(r.drop<|HT.y_ xs.length 0 lo).take<|HT.y_ xs.length xs.length hi - HT.y_ xs.length 0 lo,cN _ rfl}
def QE:k_ X (.builtin "len") (λxs H Q=>∃p ys,xs=[.ref p]/\(Ro X.K H p ys\/A_ X.K H p ys)/\Q (.int ys.length) H):=by
 intro pins s Z H xs us Q I r h;let{p,ys,rfl,hq,q}:=h;let{u,rfl,rx}:=vals1 r
 cases rx
 have hn:=Qd;let hq||hq:=hq
 ·let{i_,r',pl,hz}:=I.list hq;have hlen:=r'.length;exact Calls.call_len_list pl.isList ?jc {.int ys.length,H,I.tok _,{s.toks+1,by rw[ig,hlen]},q}
 ·let{i_,r',pl,hz}:=I.tuple hq;have hlen:=r'.length;exact len_tuple pl ?jc {.int ys.length,H,I.tok _,{s.toks+1,by rw[ig,hlen]},q}
def QF:k_ X (.builtin "len") (λxs H Q=>∃z,xs=[.str z]/\z.length<=sizeLine/\Q (.int z.length) H):=by
 intro pins s Z H xs us Q I r h;let{z,rfl,hz,q}:=h;let{u,rfl,t,rfl}:=vals1 r;have hn:=Qd;exact len_str ?A {.int z.length,H,I.tok _,{_,rfl},q}
theorem k_.or{f:SZ}{r r':Re V->Hp->VK->Prop}(h:k_ X f r)(h':k_ X f r'):k_ X f (λxs H Q=>r xs H Q\/r' xs H Q):=by
 intro pins s Z H xs us Q I rs q;let q||q:=q
 ·exact h pins s Z H xs us Q I rs q
 ·exact h' pins s Z H xs us Q I rs q
def QG:k_ X (.type "list") (λxs H Q=>∃p ys,xs=[.ref p]/\(Ro X.K H p ys\/A_ X.K H p ys)/\∀l,H l=none->Q (.ref l) (upd H l (.lst ys))):=by
 intro pins s Z H xs us Q I r h;let{p,ys,rfl,hq,q}:=h;let{u,rfl,rx}:=vals1 r
 cases rx
 have fin:∀(i_:Re SZ),Vals ys i_->ys.length<=sizeLine->∀(h':Wp) (c':Nat),(∀b o',s.heap.get? b=some o'->h'.get? b=some o') ->
   h'.get? s.heap.objs.size=some { cls:=.type "list",dict:=none,data:=.seq i_.toArray c',slots:=#[] }->uN X pins Z Q (.ref s.heap.objs.size) { s with heap:=h' }:=λi_ r' hz h' c' kp e =>
  {.ref s.heap.objs.size,_,I.laid  kp ?ji (show x_ X.prog X.w _ h' _ (.lst ys)from{hz,i_,c',r',e}),rfl,q _ ?jA}
 let hq||hq:=hq
 ·let{i_,r',pl,hz}:=I.list hq;have hlen:=r'.length;let{o,ho,hc,n,hd}:=pl.isList;exact call_list_seq p (.inl rfl) ho hc hd (λh' c' kp e=>fin i_ r' hz h' c' kp e) ?jc
 ·let{i_,r',pl,hz}:=I.tuple hq;have hlen:=r'.length;let{o,ho,hc,n,hd}:=pl;exact call_list_seq p (.inr rfl) ho hc hd (λh' c' kp e=>fin i_ r' hz h' c' kp e) ?jc
def QH:k_ X (.type "tuple") (λxs H Q=>∃p ys,xs=[.ref p]/\((Ro X.K H p ys/\∀l,H l=none->Q (.ref l) (upd H l<|.tup ys))\/(A_ X.K H p ys/\Q (.ref p) H))):=by
 intro pins s Z H xs us Q I r h;let{p,ys,rfl,h}:=h;let{u,rfl,rx}:=vals1 r
 cases rx
 let{hq,q}||{hq,q}:=h
 ·let{i_,r',pl,hz}:=I.list hq;have hlen:=r'.length;refine call_tuple_list pl.isList (λh' kp=>?_) (by simp  [ig]<;>lia);have I1:Inv X pins Z H { s with heap:=h' }:=I.kept  kp;have I2:Inv X pins Z (upd H h'.objs.size<|.tup ys) { s with heap:=h'.push { cls:=.type "tuple",data:=.seq i_.toArray } } :=
   I1.laid  (λb o e=>v_ _ e) ?ji<|({hz,i_,r',IsTup.new _ _,W6.new _ _})
  exact{.ref h'.objs.size,_,I2,rfl,q _ ?jQ}
 ·let{i_,r',pl,hz}:=I.tuple hq;exact call_tuple_same pl {.ref p,H,I,rfl,q}
def tyV(K:PySem.W.Frag)(T:String)(x:V)(H:Hp):Prop:=match x with
 | .str _=>T = "str"
 | .int _=>T = "int"
 | .ref p=>(T = "list" /\ ∃xs,Ro K H p xs)\/(T = "tuple" /\ ∃o,K.lookup p=some o/\o.cls=.type "tuple" /\ o.dict=none) \/
   (T = "dict" /\ ((∃kvs,H p=some (.dK kvs))\/∃kvs,H p=some (.dT kvs)))\/(T = "set" /\ ∃S n,H p=some (.set S n))
 | _=>False
def DY{T:String}{x:V}{v:SZ}(I:Inv X pins Z H s)(r:RelV x v)(ty:tyV X.K T x H) :
  s.TypeIs v T/\∀a,v=.ref a->∃ob,s.heap.get? a=some ob/\ob.dict=none:=by
 cases x with
 | str z =>
  let{t,rfl}:=r
  cases ((ty))
  exact{typeIs_str s z t,λ_ e=>nomatch e}
 | int i =>
  let{t,rfl}:=r
  cases ((ty))
  exact{typeIs_int s i t,λ_ e=>nomatch e}
 | ref p =>
  cases r
  let{rfl,xs,hq}||{rfl,o,hk,hc,hd}||{rfl,hk}||{rfl,S,n,hk}:=ty
  ·let{i_,_,pl,_}:=I.list hq;refine{pl.isList.typeIs,λa e=>?_}
   cases e
   let{o,n,e,c,hd,_}:=pl;exact{o,e,hd}
  ·refine{{o,I.Vb p o hk,hc},λa e=>?_}
   cases e
   exact{o,I.Vb _ o hk,hd}
  ·have z:∃o,s.heap.get? p=some o/\o.ExactDict:=by
    let{kvs,hk}||{kvs,hk}:=hk
    ·let{_,_,_,_,o,_,_,e,ex,_}:=I.j_ p _ hk;exact{o,e,ex}
    ·let{_,_,_,_,o,_,_,e,ex,_}:=I.j_ p _ hk;exact{o,e,ex}
   let{o,e,ex}:=z;refine{{o,e,ex.1},λa e2=>?_}
   cases e2
   exact{o,e,ex.2.1}
  ·let{o,_,_,_,e,ex,_}:=I.j_ p _ hk;refine{{o,e,ex.1},λa e2=>?_}
   cases e2
   exact{o,e,ex.2.1}
 | _=>exact False.elim ty
def wY(K:PySem.W.Frag)(T:String)(r:V->Re V->Hp->VK->Prop)(to:TE):TE:=λZ H Q=>to Z H λx H1=>tyV K T x H1/\r x [] H1 Q
def tBM(K:PySem.W.Frag)(T:String)(r:V->Re V->Hp->VK->Prop)(to:TE)(t:TA):TE:=λZ H Q=>to Z H λx H1=>tyV K T x H1/\t Z H1 λxs H2=>r x xs H2 Q
variable {o e:Uf} {es:Re Uf} {to:TE} {t:TA} {name:Str} {apos q_:Pos} {T id:String} {r:V->Re V->Hp->VK->Prop}
def KJ(pa:PlainAttrs T)(slot:Slot T name id)(hty:typeOf (.builtin id)=pure (.type "method_descriptor"))(hm:MtR X id r)(ho:cM X o to)
  (RG:attributeBase o name X.env (eval o X.env)=eval o X.env:=by rfl) (RF:?jI=true:=by rfl):cM X (.Call (.Attribute o name apos) [] [] q_) (wY X.K T r to):=by
 intro pins s Z H Q I h;refine wpAny_Call_method0_late RG RF<|Db ?qf λv s1 ⟨x,H1,I1,r1,ty,q1⟩=>?_;let{h1,h2}:=DY I1 r1 ty;exact{T,id,pa,slot,hty,h1,h2,vg rfl<|PySem.evalArgs_none<|hm pins s1 Z H1 x [] v [] Q I1 r1 .nil q1}
def EV(pa:PlainAttrs T)(slot:Slot T name id)(hty:typeOf (.builtin id)=pure (.type "method_descriptor"))(hm:MtR X id r)(ho:cM X o to)(ha:sY X (e::es) t)
  (RG:attributeBase o name X.env (eval o X.env)=eval o X.env:=by rfl)
  (X0:((backTo q_<|starEach (e::es) X.env).all (λx=>!x.1)&&(backToKw q_<|keywordEach [] X.env).all (λx=>x.1.isSome)
   && decide ((e::es).length+([]:Re Keyword).length+(if([]:Re Keyword).isEmpty then 0 else 1)<30))=true:=by rfl)
  (RF:?jI=true:=by rfl) (hs:starEach (e::es) X.env=?N::starEach es X.env:=by rfl) (Tv:(backTo q_ ?W).any (·.1)=false:=by rfl) :
  cM X (.Call (.Attribute o name apos) (e::es) [] q_) (tBM X.K T r to t):=by
 intro pins s Z H Q I h;refine wpAny_Call_method_late RG X0 RF rfl<|Db ?qf λv s1 ⟨x,H1,I1,r1,ty,q1⟩=>?_;let{h1,h2}:=DY I1 r1 ty;refine{T,id,pa,slot,hty,h1,h2,?_};have hA:=ha q_ pins s1 Z H1 _ I1 q1;rw[hs]at hA ⊢;refine vg (by show(false||(backTo q_ ?W).any (·.1))=false;rw[Tv]<;>rfl)<|Calls.evalArgs_plain ?_;exact Db hA λus s2 ⟨vs,H2,I2,r2,q2⟩=>hm pins s2 Z H2 x vs v us Q I2 r1 r2 q2
end
noncomputable def MtM(X:Cx)(id:String)(r:V->Re V->Hp->VK->Prop):Prop :=
 ∀(pins:w_) (s:Tk) (Z:St) (H:Hp) (x:V) (xs:Re V) (v:SZ) (us:Re SZ) (Q:VK),Inv X pins Z H s->RelV x v->Vals xs us->r x xs H Q ->
  wpAny ?B X.A (call (.builtin id)<|v::us) ?jq X.xe s
theorem Vals.one:∀{x:V} {us:Re SZ},Vals [x] us->∃u,us=[u]/\RelV x u:=by
 intro x us h
 cases h with
 | cons r t=>cases t;exact{_,rfl,r}
theorem Vals.zero:∀{us:Re SZ},Vals [] us->us=[]
 | _,.nil=>rfl
theorem Vals.dropLast(h:Vals xs us):Vals xs.dropLast us.dropLast:=by
 induction h with
 | nil=>exact .nil
 | cons r t ih =>
  cases t with
  | nil=>exact .nil
  | cons q t'=>exact .cons r ih
theorem Vals.rep(h:Vals xs us):∀k:Nat,Vals (List.replicate k xs).flatten (List.replicate k us).flatten
 | 0=>.nil
 | k+1=>by
  exact Vals.append h<|Vals.rep h k
theorem foldl_rep(i_:Re SZ):∀(k:Nat) (acc:Re SZ),
  List.foldl (λx1 x2=>x1++x2) acc.toArray (List.replicate k i_.toArray)=(acc++(List.replicate k i_).flatten).toArray
 | 0,acc=>by simp
 | k+1,acc=>by
  have e:acc.toArray++i_.toArray=(acc++i_).toArray:=by simp
  have e2:(acc++i_)++(List.replicate k i_).flatten=acc++(List.replicate (k+1) i_).flatten:=by
   grind
  rw[<-e2,<-foldl_rep i_ k<|acc++i_,<-e,List.replicate_succ,ng]
section
variable {l b:Tl} {ys zs:Re V}
def Inv.Z9{S_:Re SZ}{f:UF SZ->UF SZ}{t':Nat}(I:Inv X pins Z H s)(hH:H l=some (.lst xs))
  (e:s.heap.get? l=some { cls:=.type "list",data:=.seq i_.toArray n }) (hf:f i_.toArray=S_.toArray) (hv:Vals ys S_) (hz:ys.length<=sizeLine) :
  Inv X pins Z (upd H l<|.lst ys) { s with heap:=s.heap.update l (Obj.mapSeq f),toks:=t' }:=by
 have q:=PySem.IsL.update e f;rw[hf]at q;refine I.write   (by rw[hH];exact trivial) (.inl rfl) (λb' u hb hu=>(aZ s.heap (Obj.mapSeq f)<|Ne.symm hb).trans hu) {_,q} ?_;exact{hz,S_,_,hv,q}
theorem Inv.zaL{t':Nat}(I:Inv X pins Z H s)(hv:Vals ys i_)(hz:ys.length<=sizeLine) :
  Inv X pins Z (upd H s.heap.objs.size<|.lst ys) { s with heap:=s.heap.push { cls:=.type "list",data:=.seq i_.toArray },toks:=t' } :=
 I.laid ?qP ?ji {hz,i_,0,hv,cN _ rfl}
theorem Inv.fresh(I:Inv X pins Z H s):H s.heap.objs.size=none:=I.j_.fresh ?ji
def Inv.XA(I:Inv X pins Z H s)(hH:H l=some (.lst xs)):xs.length<=sizeLine/\∃(i_:Re SZ) (n:Nat),Vals xs i_/\xs.length=i_.length/\s.heap.get? l=some { cls:=.type "list",data:=.seq i_.toArray n }:=by
 let{z,i_,n,r,e}:=I.j_ l _ hH;exact{z,i_,n,r,r.length,e}
def QI(h:n<=sizeLine):Builtin.List.listTooLong n=false:=by
 unfold Builtin.List.listTooLong
 grind
end
section
def mz:V->Re V->Hp->VK->Prop:=λx vs H Q=>∃l xs y,x=.ref l/\vs=[y]/\H l=some (.lst xs)/\xs.length<sizeLine/\Q .Rq (upd H l<|.lst<|xs++[y])
def QJ:MtM X "list.append" mz:=by
 intro pins s Z H x vs v us Q I rx rv h;let{l,xs,y,rfl,rfl,hH,hz,q}:=h
 cases rx
 let{u,rfl,ru}:=rv.one;let{z,i_,n,r,hl,e}:=I.XA hH;refine qc F.slot_list_append {_,e,rfl} F.entry_list_append (F.args_list_append_2 _ _) (PySem.list_append l i_.toArray n u (by rw[ig];lia)) {e,?_};refine{.Rq,_,I.Z9  hH e ?E (r.append<|.cons ru .nil) ?_,rfl,q};rw[xP,wn];lia
def iG:V->Re V->Hp->VK->Prop:=λx vs H Q=>∃l b xs zs,x=.ref l/\vs=[.ref b]/\H l=some (.lst xs)/\H b=some (.lst zs)/\xs.length+zs.length<=sizeLine/\Q .Rq (upd H l<|.lst<|xs++zs)
def CW:MtM X "list.extend" iG:=by
 intro pins s Z H x vs v us Q I rx rv h;let{l,b,xs,zs,rfl,rfl,hH,hB,hz,q}:=h
 cases rx
 let{u,rfl,ru}:=rv.one
 cases ru
 let{z,i_,n,r,hl,e}:=I.XA hH;let{z2,Tu,n2,r2,hl2,e2}:=I.XA hB;have hsz:i_.toArray.size+Tu.toArray.size<=sizeLine:=by grind
 have XU:¬ (!i_.toArray.isEmpty&&Builtin.List.listTooLong (i_.toArray.size+Tu.toArray.size))=true:=by
  rw[QI hsz]
  grind
 refine qc F.slot_list_extend {_,e,rfl} F.entry_list_extend (F.args_list_extend_2 _ _)
  (AutoSeq1.list_extend_list_list_0 l i_.toArray n b Tu.toArray n2 XU ?jc ?A) {e,e2,?_}
 refine{.Rq,_,I.Z9  hH e ?E (r.append r2) ?_,rfl,q}
 grind
def uP:V->Re V->Hp->VK->Prop:=λx vs H Q=>∃l xs y,x=.ref l/\vs=[]/\H l=some (.lst xs)/\xs[xs.length - 1]? = some y/\Q y (upd H l<|.lst xs.dropLast)
def Lf:MtM X "list.pop" uP:=by
 intro pins s Z H x vs v us Q I rx rv h;let{l,xs,y,rfl,rfl,hH,hy,q}:=h
 cases rx
 have hus:=rv.zero;subst hus;let{z,i_,n,r,hl,e}:=I.XA hH;let{u,hu,ru}:=r.get hy;have Wv:i_.toArray[i_.toArray.size - 1]? = some u:=by
  grind
 refine qc F.slot_list_pop {_,e,rfl} F.entry_list_pop (F.args_list_pop_1 _) (MeetsSeq.list_pop_last l i_.toArray n u Wv ?jc) {e,?_};refine{y,_,I.Z9  hH e ?_ r.dropLast ?_,ru,q}
 ·grind
 grind
def mC:R2:=λx y H Q=>∃l k xs,x=.ref l/\y=.int k/\H l=some (.lst xs) /\ -(2^63)<=k/\k<2^63/\xs.length*k.toNat<=sizeLine /\
 ∀p,H p=none->Q (.ref p) (upd H p<|.lst (List.replicate k.toNat xs).flatten)
theorem len_rep{α:Type}(xs:Re α)(k:Nat):(List.replicate k xs).flatten.length=k*xs.length:=by
 simp_all
def KU:K_ X (binaryOp .Mult) mC:=by
 intro pins s Z H x y v u Q I rx ry h;let{l,k,xs,rfl,rfl,hH,h1,h2,hz,q}:=h
 cases rx
 let{t,rfl}:=ry;let{z,i_,n,r,hl,e}:=I.XA hH;have hlen:i_.toArray.size*k.toNat<=sizeLine:=by grind
 have zbk:¬ i_.toArray.size*k.toNat>(2^63 - 1) / 8:=by
  have:(sizeLine)<=(2^63 - 1) / 8:=by decide
  lia
 have Vg:¬ (!Builtin.List.listFitsIndex k)=true:=by
  rw[fitsIndex_both h1 h2]
  grind
 have XU:¬ Builtin.List.listTooLong (i_.toArray.size*k.toNat)=true:=by
  rw[QI hlen]
  grind
 have zbh:List.foldl (λx1 x2=>x1++x2) #[] (List.replicate (if i_.toArray.isEmpty=true then 0 else k.toNat) i_.toArray)=(List.replicate k.toNat i_).flatten.toArray:=by
  have f0:∀m ,List.foldl (λx1 x2=>x1++x2) #[] (List.replicate m i_.toArray)=(List.replicate m i_).flatten.toArray:=λm=>by
   have:=foldl_rep i_ m []
   grind
  rw[f0]
  cases i_ with
  | nil=>simp
  | cons a r'=>rw[ba ?E]
 refine wpAny_binaryOp_repeat_ref   ?C {_,e,rfl} (λs'=>typeIs_int s' k t) noFill_list_mul F.fills_int_mul F.slot_int_rmul repeat_list F.slot_int_index.lookup
  <|qc F.slot_int_rmul (typeIs_int s k t) F.entry_int_rmul (F.args_int_rmul_2 _ _) (int___rmul___int_list k t l i_.toArray n)
   {e,rfl,{_,e,rfl},qc F.slot_list_mul {_,e,rfl} F.entry_list_mul (F.args_list_mul_2 _ _) (AutoListH.list___mul___list_int_3 l i_.toArray n k t Vg zbk XU) {e,?_}}
 rw[zbh];exact{.ref _,_,I.zaL  (r.rep k.toNat) (by rw[len_rep,Nat.mul_comm];exact hz),rfl,q _ I.fresh}
end
end L2
namespace Att
open PySem PySem.W PySem.Calls PyProof.Rows
def QK{P:Params}{h:Wp}:∀(ns:Re Int) (vs:Re SZ),WellAll P h vs (ns.map WData.int)->IntsAre vs ns:=by
 intro ns
 induction ns with
 | nil =>
  intro vs w
  cases w
  exact .nil
 | cons n ns ih =>
  intro vs w
  cases w with
  | cons a b =>
   cases a
   exact .cons _ _<|ih _ b
def CA{l:OpenLaw}{n:Nat}(hn:l.most=some n){P:Params}{h:Wp}{args:Re WData}{vals:Re SZ}
  (YV:l.row.toRowW.claim.pre args=true) (hwl:WellAll P h vals args) :
  ∃a vs ns,vals=[Value.ref a]/\args=[WData.list (ns.map WData.int)]/\h.get? a=some { cls:=.type "list",data:=.seq vs.toArray }/\IntsAre vs ns/\ns.length<=n:=by
 have hsh:=(pre_splitW YV).1;have hc:l.pre.holds [] { args:=args }=true:=(pre_splitW YV).2;let{d,r,rfl,h1,h2}:=hasAllW_cons hsh;obtain rfl:=hasAllW_nil h2;let{xs,rfl,h3}:=hasW_list h1;let{ns,rfl}:=items_int h3;have hlen:ns.length<=n:=by
  have h4:(WTm.not<|.lt (.lit<|.int<|n)<|.len<|.arg 0).holds [] { args:=[.list (ns.map .int)] }=true:=by
   have h4:=(holds_andW hc).1
   grind
  have h5:=condW_of h4<|w_not<|w_lt w_lit<|w_len_list<|w_arg rfl
  grind
 cases hwl with
 | cons w1 w2 =>
  cases w2
  cases w1 with
  | list ho zbl=>exact{_,_,ns,rfl,rfl,ho,QK ns _ zbl,hlen}
def CJ(l:OpenLaw)(args:Re WData):l.row.toRowW.claim.post args (.bool true) args=true :=
 postW_of
  ((rfl) )
  ((w_eq_bool (w_res rfl) w_lit)) rfl
def Vw{l:OpenLaw}{n:Nat}{q:TD}{loose:Re Str}{XP:(Str->SL SZ)->Wp->Prop}{YP:TW->Wp->Prop}{d:DefRec}
  (hn:l.most=some n) (hdf:d.params.defaults=[])
  (call:∀(w:TW) (s₀ s₁:Tk) (mg mb:R1) (fa:Tl) (o:Obj) (pm cd doc:SZ) (a:Tl) (vs:Re SZ) (ns:Re Int),
   Ground q loose [] XP w s₀ mg mb s₁.heap->YP w s₁.heap ->
   s₁.heap.get? fa=some o->o.data=.func (docDef d.name d.params d.body d.scope pm cd doc)->s₁.heap.CodeRec cd d.name->mg d.name=some (.ref fa) ->
   s₁.heap.get? a=some { cls:=.type "list",data:=.seq vs.toArray }->IntsAre vs ns->ns.length<=n->s₁.gens = #[] ->
   codeAny (model l.prog w) callerA (.call (.ref fa) {[.ref a],[]}) (λr s'=>r=.ok (.ret<|.bool true)/\OldK s₁.heap s'.heap/\s'.os=s₁.os/\AllBare s'.gens) s₁) :
  WalkO q loose XP YP l.row.toRowW d [] (λf vs=>PySem.call f vs):=by
 intro w s₀ s₁ mg mb G Y fa o pm cd doc dV kV ho hd RB hD hmg hg args vals as YV zbu hrd hwl hlo;obtain rfl:dV=.none:=Dflts.none hD hdf;obtain rfl:kV=.none:=Dflts.noKw hD;let{a,vs,ns,rfl,rfl,zad,hints,hlen}:=CA hn YV hwl;refine enter_call<|codeAny_mono (call w s₀ s₁ mg mb fa o pm cd doc a vs ns G Y ho (fd_plain hd) RB hmg zad hints hlen hg) λr s' hq=>?_;let{rfl,h2,h3,h4}:=hq;exact{.inl {.bool true,.bool true,[],rfl,λ_=>rfl,.bool true,CJ l _,λ_=>{List.Pairwise.nil,λ_ hm=>(nomatch hm)}},h2,h3,h4}
end Att
namespace L2
open PySem PySem.Spec PyProof.Rows
variable {H H':Hp}{X:Cx}{w:TW}{P:TD}{pos:Pos}{u:SZ}{s:Tk}{y:V}{kvs:Re ?qm}{scope:Scope}{pins:w_}{Z:St}{A:UV}{E Q:t_}{o:SL V}{x qual:Str}{elt iter tg:Uf}{ifs:Re Uf}{xs:Re ?jO}{env:Env}{N':Re Str}{g:TG}{tc:TT}{te:TE}
def QL:∀{vs:Re SZ} {ns:Re Int},IntsAre vs ns->Vals ?jG vs
 | _,_,.nil=>.nil
 | _,_,.cons n t h=>.cons {t,rfl}<|QL h
def i5(H:Hp):Prop:=∀b,H b=none\/∃o xs,H b=some (.Rm o<|.lst xs)
def FB{K:PySem.W.Frag}{mg mb:R1}{CX:ZN}{k:Nat}{fa a:Tl}{fd:FuncData}{sp:Sp}{s₁:Tk}{vs:Re SZ}{ns:Re Int}
  (KX:K.In s₁.heap) (W_:s₁.heap.Ns mainGlobals mg) (hb:s₁.heap.Ns builtinsNs mb) (hbb:∀x:Str,x ≠ "__name__" -> mb x=bootBuiltins x) (YW:s₁.heap.NoLimit) (hg:s₁.gens = #[])
  (ha:s₁.heap.get? a=some { cls:=.type "list",data:=.seq vs.toArray }) (hi:IntsAre vs ns) (hl:ns.length<=sizeLine) (hr:z_ k callerA)
  (F:∀base:Wp,K.In base->base.Ns mainGlobals mg->RC P w K mg base CX k fa fd [x] sp) (zaC:∀(s:Tk) (u:SZ),BindsTo s fd {[u],[]} [(x,u)])
  (Uy:∀H:Hp,i5 H->Ro K H a ?jG->sp [.ref a] H (λv _=>v=.bl true) λ_ _ _=>False)
  (hCX:∀H e s',CX [] H s₁ (λ_ _ _=>False) e s'->False) :
  codeAny (model P w) callerA (.call (.ref fa) {[.ref a],[]}) (λr s'=>r=.ok (.ret<|.bool true)/\OldK s₁.heap s'.heap/\s'.os=s₁.os/\AllBare s'.gens) s₁:=by
 have rv:=QL hi;have zaN:=hi.length;have core:∀H ,i5 H->Ro K H a ?jG->RA P w H s₁.heap->(∀b,H b≠none->b=a)->(H a≠none->K.lookup a=none) ->
   codeAny (model P w) callerA (.call (.ref fa) {[.ref a],[]}) (λr s'=>r=.ok (.ret<|.bool true)/\OldK s₁.heap s'.heap/\s'.os=s₁.os/\AllBare s'.gens) s₁:=by
  intro H hO hS j_ hA hK;have WC:∀{b:Tl} {o:Obj},s₁.heap.get? b=some o->H b=none->(yt s₁.heap H).get? b=some o:=λe n=>FS e n
  have noA:∀{b:Tl} {o:Obj} {es:UF DictEntry} {ep:Nat},s₁.heap.get? b=some o->o.data=.dict es ep->H b=none:=λ{b o es ep} e d=>by
   cases q:H b with
   | none=>rfl
   | some u =>
    have e':=hA b (by rw[q];simp);subst e';rw[ha]at e;cases e;have d':=d
    cases d'
  have nsK:∀{b:Tl} {m:R1},s₁.heap.Ns b m->(yt s₁.heap H).Ns b m:=λ{b m} ⟨o,es,ep,e,d,r⟩=>{o,es,ep,WC e<|noA e d,d,r}
  have hKb:=λb o e=>WC (KX b o e) (by
   grind)
  have hM:Mod K mg (yt s₁.heap H):={hKb,nsK W_,{mb,nsK hb,hbb},let ⟨mc,h1,h2⟩:=YW;{mc,nsK h1,h2}};have e0:Zf P w K mg (yt s₁.heap H) callerA [] s₁ H:={rfl,hM,λb o e=>HN e,Nat.le_of_eq<|Di _ _,trivial,λb hb=>absurd (show b∈([])from hb) ?E,j_,.of_eq hg};refine codeAny_mono ((F _ hKb<|nsK W_).run callerA [] s₁ H {[.ref a],[]} [.ref a] [.ref a] _ _ hr e0 (zaC s₁<|.ref a) (.cons rfl .nil)<|Uy H hO hS) λr s' h=>?_
  cases r with
  | error e=>exact(hCX H e s' h).elim
  | ok fl =>
   cases fl with
   | next=>exact False.elim h
   | brk=>exact False.elim h
   | cont=>exact False.elim h
   | ret u =>
    let{v,H',os,bare,un,zbf,r',q}:=h;have q':=q;subst q';obtain rfl:u=Value.bool true:=r';refine{rfl,OldK.of_keep λb o e=>?_,os,bare}
    cases q:H b with
    | none=>exact un.keep b o e q (by intro z;exact absurd (show b∈([])from z) ?E) ?E
    | some u =>
     let z||{ob,xs,z}:=hO b
     ·rw[q]at z;cases z
     ·have z2:=un.Tb b ob _ z;let{e1,_}:=j_ b _ z;let{e2,_}:=zbf b _ z2
      grind
 cases hk:K.lookup a with
 | some o =>
  have e:=KX a o hk;rw[ha]at e
  cases e
  refine core (λ_=>none) (λ_=>.inl rfl) (.inr {_,vs.toArray,_,hk,rfl,rfl,rfl,by rw[ig,zaN];exact hl,(rv)}) (λb u z=>by have z':=z;cases z') (λb z=>absurd rfl z) λz=>absurd rfl z
 | none =>
  refine core (λb=>if b=a then some (.Rm { cls:=.type "list",data:=.seq vs.toArray }<|.lst ?jG)else none) (λb=>?_) (.inl<|.inr {{ cls:=.type "list",data:=.seq vs.toArray },ap rfl}) (λb u z=>?_) (λb z=>?_) λ_=>hk
  ·grind
  ·by_cases hb:b=a
   ·have z':=(ap hb).symm.trans z
    cases z'
    subst hb;exact{ha,by rw[u_];exact hl,vs,_,rv,ha}
   grind
  grind
def Yu{l:PySem.W.OpenLaw}{n k:Nat}{q:TD}{loose:Re Str}{XP:(Str->SL SZ)->Wp->Prop}{YP:TW->Wp->Prop}{d:DefRec}{K:Params->PySem.W.Frag}{CX:TW->ZN}{sp:TW->Sp}
  (hn:l.most=some n) (hn2:n<=sizeLine) (hdf:d.params.defaults=[]) (hr:z_ k callerA)
  (hY:∀(w:TW) (h:Wp),YP w h->(K w.params).In h)
  (F:∀(w:TW) (mg:R1) (fa:Tl) (h:Wp),(K w.params).In h->h.Ns mainGlobals mg->mg d.name=some (.ref fa) ->
   ∃fd:FuncData,(∀(s:Tk) (u:SZ),BindsTo s fd {[u],[]} [(x,u)]) /\
    ∀base:Wp,(K w.params).In base->base.Ns mainGlobals mg->RC l.prog w (K w.params) mg base (CX w) k fa fd [x] (sp w))
  (Uy:∀(w:TW) (H:Hp) (a:Tl) (ns:Re Int),ns.length<=n->i5 H->Ro (K w.params) H a ?jG->sp w [.ref a] H (λv _=>v=.bl true) λ_ _ _=>False)
  (hCX:∀(w:TW) (H:Hp) (s:Tk) (e:SZ) (s':Tk),CX w [] H s (λ_ _ _=>False) e s'->False) :
  PySem.W.WalkO q loose XP YP l.row.toRowW d [] (λf vs=>PySem.call f vs):=by
 refine Att.Vw hn hdf λw s₀ s₁ mg mb fa o pm cd doc a vs ns G Y ho hd RB hmg zad hints hlen hg=>?_
 have KX:=hY w _ Y;let{fd,hb,hF}:=F w mg fa _ KX G.T.g hmg;exact FB KX G.T.g G.T.b G.T.builtins G.T.nolimit hg zad hints (di hlen hn2) hr hF hb (λH hO hS=>Uy w H a ns hlen hO hS) λH e s'=>hCX w H s₁ e s'
def dH(s:Stmt):Arguments:=match s with
 | .FunctionDef _ a _ _ _ _ _ _ _ _=>a
 | _=>{ posonlyargs:=[],args:=[],vararg:=none,kwonlyargs:=[],kw_defaults:=[],kwarg:=none,defaults:=[] }
def cj(s:Stmt):Re Stmt:=match s with
 | .FunctionDef _ _ b _ _ _ _ _ _ _=>b
 | _=>[]
def aN(s:Stmt):Scope:=match s with
 | .FunctionDef _ _ _ _ _ _ sc _ _ _=>sc
 | _=>{ kind:=.function,names:=[],isGenerator:=false,isCoroutine:=false }
structure Yp(K:PySem.W.Frag)(x qual:Str)(st:Stmt)(f:Tl)(fd:FuncData):Prop where
 ex:∃(oc:SZ) (od:SL Tl) (kV doc pm:SZ) (an:SL Tl) (p_ ct:SZ) (Us:UF (SL SZ)),
  fd=PySem.W.fnOf x qual (dH st) ?qx ?jW .none kV doc pm an p_ ct/\K.lookup f=some {oc,od,.func fd,Us}/\PySem.W.codeIn K p_ qual=true
 kp:PySem.W.keepIn K (.ref f)=true
section
variable {K:PySem.W.Frag} {mg:R1} {base:Wp}
theorem Yp.binds{st:Stmt}{f:Tl}{fd:FuncData}{ps:Re Str}(F:Yp K x qual st f fd)
  (h:∀(kV doc pm:SZ) (an:SL Tl) (p_ ct:SZ) (us:Re SZ),us.length=ps.length->bindArgs (PySem.W.fnOf x qual (dH st) ?qx ?jW .none kV doc pm an p_ ct) {us,[]}=pure (ps.zip us)):Binds K fd ps []:=by
 let{oc,od,kV,doc,pm,an,p_,ct,Us,rfl,lk,RB}:=F.ex;exact .all<|h kV doc pm an p_ ct
def LB{st:Stmt}{f:Tl}{oc:SZ}{od an:SL Tl}{Us:UF (SL SZ)}{kV doc pm p_ ct:SZ}(l:K.lookup f=some {oc,od,.func<|PySem.W.fnOf x qual (dH st) ?qx ?jW .none kV doc pm an p_ ct,Us})
  (c:PySem.W.codeIn K p_ qual=true) (k:PySem.W.keepIn K (.ref f)=true):Yp K x qual st f (PySem.W.fnOf x qual (dH st) ?qx ?jW .none kV doc pm an p_ ct):={{oc,od,kV,doc,pm,an,p_,ct,Us,rfl,l,c},k}
end
def O5{A B:Prop}(h:B):if false=true then A else B:=by
 grind
def Lv{A B:Prop}(h:A):if true=true then A else B:=by
 exact h
@[grind] def c_(H H':Hp):Prop:=∀b o,H b=some o->H' b=some o
theorem c_.refl(H:Hp):c_ H H:=λ_ _ h=>h
theorem c_.trans{H1 H2:Hp}(a:c_ H H1)(b:c_ H1 H2):c_ H H2:=λc o h=>b c o<|a c o h
theorem c_.free(e:c_ H H'){l:Tl}(h:H' l=Option.none):H l=Option.none:=by
 cases q:H l with
 | none=>rfl
 | some o =>
  rw[e l o q]at h
  cases h
theorem c_.seq{K:PySem.W.Frag}{a:Tl}{xs:Re V}(e:c_ H H')(h:Ro K H a xs):Ro K H' a xs:=by
 rcases h with (h|⟨o,h⟩)|h
 ·exact .inl<|.inl<|e _ _ h
 ·exact .inl<|.inr {o,e _ _ h}
 ·exact .inr h
def fnB:SL NameKind->Bool
 | some .cell=>true
 | _=>false
def LF{o:SL NameKind}(h:fnB o=true):o=some .cell:=by
 unfold fnB at h
 grind
def bB(X:Cx)(N':Re Str)(scope:Scope)(cl:Re (Str×Tl))(s₂:Tk)(H₂:Hp)(fp:Re Tl)(C:Tl):Cx :=
 { X with N:=N',s₀:=s₂,H₀:=H₂,env:=compEnvC scope cl C X.env,outer:=X.stack,ex:=fp,fn:=λy=>fnB<|scope.names.lookup y,pn:=[],xe:=λ_ _=>False }
def lobj(ys:Re SZ)(k:Nat):Obj:={ cls:=.type "list",data:=.seq ys.toArray k }
section
variable {prog:TD} {R:Result->Tk->Prop}
def QM{target:Uf}{it acc:SZ}(I:Nat->Tk->Prop)
  (turn:∀n s,I n s->wpAny ?D A (pyNext it) (λr s₁=>match r with
   | none=>R (.ok .next) s₁
   | some v=>wpAny ?D A (letOwnedTupleGo target it v) (λ_ s₁'=>wpAny ?D A (assign target env v) (λ_ s₂ =>
     wpAny ?D A (forIn ifs true λc r=>if r=true then do let ok <-isTrue c env (eval c env);pure (ForInStep.yield ok)else pure (ForInStep.yield r)) (λok s₃ =>
      if ok=true then wpAny ?D A (eval elt env) (λx s₄ =>
       wpAny ?D A (call (.builtin "list.append") [acc,x]) (λ_ s₅=>∃m,m<n/\I m s₅) ?qE s₄) ?qE s₃
      else ∃m,m<n/\I m s₃) ?qE s₂) ?qE s₁') ?qE s₁) ?qE s)
  (n:Nat) (h:I n s) :
  codeAny ?D A (.compLoop (.ListComp elt [{target,iter,ifs,0}] scope pos) 0 it acc env) R s:=by
 refine codeAny_loop rfl I (λn s hI=>?_) n h;refine wpAny_noted ?_;refine f_<|wpAny_standAt<|f_<|oS (turn n s hI) (λr s₁ h₁=>?_) λ_ _ h'=>h'.elim
 cases r with
 | none=>exact l_ h₁
 | some v =>
  refine f_<|oS h₁ (λ_ s₁' h₁'=>?_) λ_ _ h'=>h'.elim;refine f_<|oS h₁' (λ_ s₂ h₂=>f_<|oS h₂ (λok s₃ h₃=>?_) λ_ _ h'=>h'.elim) λ_ _ h'=>h'.elim
  cases ok with
  | false=>exact l_ {rfl,h₃}
  | true =>
   exact f_<|f_<|oS h₃ (λx s₄ h₄=>f_<|oS h₄ (λ_ s₅ h₅=>l_<|l_ {rfl,h₅}) λ_ _ h'=>h'.elim) λ_ _ h'=>h'.elim
end
noncomputable def PTs(X:Cx)(ifs:Re Uf)(t:TT):Prop :=
 ∀(pins:w_) (s:Tk) (Z:St) (H:Hp) (Q:Bool->Hp->Prop),Inv X pins Z H s->t Z H Q ->
  wpAny ?B X.A (forIn ifs true λc r=>if r=true then do let ok <-isTrue c X.env (eval c X.env);pure (ForInStep.yield ok)else pure (ForInStep.yield r)) ?qr X.xe s
def Hq:PTs X [] (λ_ H Q=>Q true H):=λ_ _ _ H _ I h=>wpAny_tests_nil {H,I,h}
def AY{c:Uf}{t:TT}(h:gT X c t):PTs X [c] t:=λpins s Z H Q I q=>wpAny_tests_one<|h pins s Z H Q I q
def QN{env:Env}:∀{names:Re (Str×NameKind)} {x:Str},
  (names.map λ(n,k)=>if(k==NameKind.free&&env.scope.kind==.function&&env.kindOf n==some .cell)then(n,NameKind.cell)else(n,k)).lookup x
   = (names.lookup x).map λk=>if(k==NameKind.free&&env.scope.kind==.function&&env.kindOf x==some .cell)then NameKind.cell else k
 | [],_=>rfl
 | (n,k)::r,x=>by
  have ih:=@QN env r x
  grind
def QO{env:Env}:∀(names:Re (Str×NameKind)) (acc:Re (Str×Tl)),(∀x∈names,x.2=.free->∃c,env.cells.lookup x.1=some c) ->
  (∀x c,acc.lookup x=some c->env.cells.lookup x=some c) ->
  ∃cl,(forIn names acc λ(x:Str×NameKind) (cs:Re (Str×Tl))=>(if(x.2==NameKind.free)=true then(do let c <-cellOf env x.1;pure (ForInStep.yield<|(x.1,c)::cs))else pure (ForInStep.yield cs):Sem (ForInStep<|Re<|Str×Tl)))=pure cl /\
   (∀x c,cl.lookup x=some c->env.cells.lookup x=some c)/\(∀x,(acc.lookup x).isSome->(cl.lookup x).isSome)/\∀x∈names,x.2=.free->(cl.lookup x.1).isSome
 | [],acc,_,ha=>{acc,rfl,ha,λ_ h=>h,λ_ h=>nomatch h}
 | (n,k)::r,acc,hn,ha=>by
  cases hk:(k==NameKind.free)with
  | true =>
   let{c,hc}:=hn (n,k) da (by simpa using hk);have ha':∀x d,((n,c)::acc).lookup x=some d->env.cells.lookup x=some d:=λx d e=>by
    rw[List.lookup_cons]at e
    cases q:x==n with
    | true =>
     rw[q]at e;have:=by simpa using q
     subst this;exact hc.trans e
    | false=>rw[q]at e;exact ha x d e
   let{cl,e,h1,h2,h3}:=QO r ((n,c)::acc) (λx hx=>hn x<|xO _ hx) ha';have grow:∀x,(acc.lookup x).isSome->(((n,c)::acc).lookup x).isSome:=λx hx=>by
    rw[List.lookup_cons]
    cases q:x==n with
    | true=>rfl
    | false=>exact hx
   refine{cl,?_,h1,λx hx=>h2 x<|grow x hx,λx hx hf=>?_}
   ·have q:cellOf env n=pure c:=by
     unfold cellOf;rw[hc]
    grind
   grind
  | false =>
   let{cl,e,h1,h2,h3}:=QO r acc (λx hx=>hn x<|xO _ hx) ha
   grind
def QP(h:∀x∈scope.names,x.2=.free->∃c,env.cells.lookup x.1=some c) :
  ∃cl,closureFor scope env=pure cl/\(∀x c,cl.lookup x=some c->env.cells.lookup x=some c)/\∀x∈scope.names,x.2=.free->(cl.lookup x.1).isSome:=by
 let{cl,e,h1,_,h3}:=QO  scope.names [] h (λx c e=>by simp at e);unfold closureFor
 grind
def QQ:∀(names:Re (Str×NameKind)) (n:Nat) (acc:Re (Str×Tl)),cellsFrom n names acc=cellsFrom n names []++acc
 | [],_,_=>rfl
 | (x,k)::r,n,acc=>by
  unfold cellsFrom;split
  ·rw[QQ r (n+1)<|(x,n)::acc,QQ r (n+1) [(x,n)],wa];rfl
  ·exact QQ r n acc
def QR:∀{names:Re (Str×NameKind)} {n:Nat} {acc:Re (Str×Tl)} {x:Str} {c:Tl},(x,c)∈cellsFrom n names acc->(x,NameKind.cell)∈names\/(x,c)∈acc
 | [],_,_,_,_,h=>.inr h
 | (y,k)::r,n,acc,x,c,h=>by
  unfold cellsFrom at h;split at h
  ·let z||z:=QR h
   ·grind
   grind
  ·let z||z:=QR h
   ·grind
   ·exact .inr z
def QS{α:Type}:∀{l r:Re (Str×α)} {x:Str},(l++r).lookup x=match l.lookup x with|some c=>some c|none=>r.lookup x
 | [],_,_=>rfl
 | (n,c)::l,r,x=>by
  grind
structure RU(X:Cx)(N':Re Str)(k:Nat)(scope:Scope):Prop where
 kind:scope.kind=.function
 len:N'.length=X.N.length+k
 cells:∀y∈scope.names,y.2=.cell->scope.names.lookup y.1=some .cell
 names:∀y∈scope.names,y.2=.local->scope.names.lookup y.1=some .local
 outer:∀(i:Nat) x,i<X.N.length->N'[i]? = some x->(scope.names.lookup x).isSome->(scope.names.lookup x=some .free\/scope.names.lookup x=some .local\/scope.names.lookup x=some .cell)->X.N[i]? = some x/\scope.names.lookup x=some .free
 free:∀y∈scope.names,y.2=.free->X.env.kindOf y.1=some .cell\/X.env.kindOf y.1=some .free
def nj(wi:TI)(k:Nat)(g:TG)(tc:TT)(te:TE):TE:=λZ H Q=>wi Z H λJ H1=>∃W:Nat->Nat->Re V->St->Hp->Prop,(∃m,W 0 m [] (Z++List.replicate k none) H1) /\
 ∀i m vs σ' H',W i m vs σ' H'->vs.length<=sizeLine /\
  ((J.stop i H'/\∀p,H' p=none->Q (.ref p) (upd H' p<|.lst vs)) \/
   (J.go i H'/\∀x H2,J.VM i H' x H2->g x σ' H2 λσ3 H3=>tc σ3 H3 λb H4=>if b=true then te σ3 H4 λy H5=>∃m',m'<m/\W ?jx m' (vs++[y]) σ3 H5 else ∃m',m'<m/\W ?jx m' vs σ3 H4))
section
variable {H2:Hp} {s2:Tk}
theorem RA.zam{h:Wp}{D:Tl}{vs:Re V}{ys:Re SZ}{k:Nat}(x:RA P w H h)(hn:H D=none)(hl:vs.length<=sizeLine)(r:Vals vs ys)(e:h.get? D=some (lobj ys k)) :
  RA P w (upd H D<|.lst vs) h:=λb u q=>by
 by_cases hb:b=D
 ·subst hb;rw[UQ]at q
  cases q
  exact{hl,ys,k,r,e}
 ·rw[G_ hb]at q;exact(x b u q).TU (λ_ _ _ z=>z) (λc z=>by rw[G_<|At z hn];exact z) λc xs z=>by rw[G_<|At z hn];exact z
def Dn{globals:Tl}{cl:Re (Str×Tl)}{M:Model}{Q:Env->Tk->Prop}
  (h:Q (newEnv scope s.heap.objs.size globals (cellsFrom ?jy scope.names cl) qual none .none (some env) builtinsNs) { s with heap:=pushCells (s.heap.push { cls:=.type "dict",data:=.dict #[] }) scope.names }) :
  wpAny M A (newFunctionEnv scope globals cl [] qual none .none<|some env) Q E s:=by
 refine f_<|wpAny_alloc ?_;refine f_<|wpAny_layCells _ (λname kind cells=>rfl ) _ _ _ _ ?_;rw[(wo ..)];refine f_ ?_;exact l_<|l_ h
def QT{k:Nat}{cl:Re (Str×Tl)}{J:It}{fp:Re Tl}{it:Tl}{tn:Nat->Wp->Prop}
  {RR:SZ->Tl->Result->Tk->Prop} {Q:VK}
  (hc:X.calm=true) (S:RU X N' k scope) (Vh:∀x c,cl.lookup x=some c->X.env.cells.lookup x=some c) (hcf:∀x∈scope.names,x.2=.free->(cl.lookup x.1).isSome)
  (I:Inv X pins Z H2 s2) (T:Turn X.prog X.w X.K tg J fp it tn) (st:tn 0 s2.heap) (ff:∀b∈fp,mZ X pins H2 b)
  (hg:∀cl C,cg (bB X N' scope cl s2 H2 fp C) tg g) (ht:∀cl C,PTs (bB X N' scope cl s2 H2 fp C) ifs tc) (he:∀cl C,cM (bB X N' scope cl s2 H2 fp C) elt te)
  (rd:∃W:Nat->Nat->Re V->St->Hp->Prop,(∃m,W 0 m [] (Z++List.replicate k none) H2) /\
   ∀i m vs σ' H',W i m vs σ' H'->vs.length<=sizeLine /\
    ((J.stop i H'/\∀p,H' p=none->Q (.ref p) (upd H' p<|.lst vs)) \/
     (J.go i H'/\∀x H2,J.VM i H' x H2->g x σ' H2 λσ3 H3=>tc σ3 H3 λb H4=>if b=true then te σ3 H4 λy H5=>∃m',m'<m/\W ?jx m' (vs++[y]) σ3 H5 else ∃m',m'<m/\W ?jx m' vs σ3 H4)))
  (hRR:∀D C s' H',Inv X pins Z H' s'->(∃m,s'.heap.Ns C m)->mZ X pins H' C->Q (.ref D) H'->RR (.ref D) C (.ok .next) s') :
  wpAny ?B X.A (newList []) (λacc s₃=>wpAny ?B X.A (newFunctionEnv scope X.env.globals cl [] X.env.qual none .none<|some X.env) (λzaG s₄ =>
   codeAny ?B X.A (.compStart (.ListComp elt [{tg,iter,ifs,0}] scope pos) 0 (.ref it) acc { zaG with scope:=relabel scope X.env }) (RR acc zaG.locals) s₄) E s₃) E s2:=by
 let{W,{m0,w0},turn}:=rd;refine io<|Dn ?_;dsimp only;generalize hH2:s2.heap.push { cls:=.type "list",dict:=none,data:=.seq ([]:Re SZ).toArray }=G2;have hCs:G2.objs.size=s2.heap.objs.size+1:=by rw[<-hH2,wo]
 have hDC:s2.heap.objs.size≠G2.objs.size:=by rw[hCs];exact eh<|Nat.lt_succ_self _
 have WV:s2.heap.objs.size<=G2.objs.size:=by rw[hCs];exact Nat.le_succ _
 have zac:=cellsFrom_ok scope.names (G2.push { cls:=.type "dict",data:=.dict #[] }) (G2.objs.size+1) [] {λ_ _ hm=>(nomatch hm),List.Pairwise.nil} (by rw[wo];exact ai _);rw[wo]at zac;have zbg:(pushCells (G2.push { cls:=.type "dict",data:=.dict #[] }) scope.names).Ns G2.objs.size (λ_=>none):=(Heap.Ns.new G2<|.type "dict").keeps<|pushCells_keeps _ _;have old:∀b o,s2.heap.get? b=some o->(pushCells (G2.push { cls:=.type "dict",data:=.dict #[] }) scope.names).get? b=some o:=λb o e=>pushCells_keeps _ _ b o<|v_ _<|hH2▸v_ _ e
 have X2:(pushCells (G2.push { cls:=.type "dict",data:=.dict #[] }) scope.names).get? s2.heap.objs.size=some (lobj [] 0):=pushCells_keeps _ _ _ _<|v_ _<|hH2▸cN _ rfl;rw[QQ scope.names (G2.objs.size+1) cl];generalize pushCells (G2.push { cls:=.type "dict",data:=.dict #[] }) scope.names=h₁ at *;have own:∀x c,(x,c)∈cellsFrom (G2.objs.size+1) scope.names []->(x,NameKind.cell)∈scope.names:=λx c h=>(QR h).elim id λz=>nomatch z
 have Xt:∀x,scope.names.lookup x=some .cell->∃c,(cellsFrom (G2.objs.size+1) scope.names []).lookup x=some c:=λx h=>Qn h
 generalize cellsFrom (G2.objs.size+1) scope.names []=oc at *;generalize WU:s2.heap.objs.size=D at *;generalize hCe:G2.objs.size=C at *;have fpD:mZ X pins H2 D:=I.Sy (by rw[WU];exact ai _) (I.j_.fresh (by rw[WU];exact ai _));have fpC:∀H',H' C=none->mZ X pins H' C:=λH' hn=>I.Sy (by rw[WU];exact WV) hn
 have WS:∀b∈fp,b<D:=λb hb=>by
  let{o,e,_}:=T.obj _ _ st b hb;rw[<-WU];exact bj e
 have YM:∀b,D<=b->b∉cU X.stack:=λb hb hm=>by
  rcases List.mem_cons.mp (I.Tr b hm)with e|hm
  ·have:=I.lt;rw[WU]at this;rw[e]at hb;exact absurd (eg this hb)<|nu _
  ·exact I.zar (by rw[WU];exact hb) hm
 let X':=bB X N' scope (oc++cl) s2 H2 fp C
 have Wi:∀x c,cl.lookup x=some c->c<D:=λx c e=>by
  let{v,z}:=I.cell x c<|Vh x c e;rw[<-WU];exact z.lt
 have hCD:D<=C:=WV;have SX:∀x c,(oc++cl).lookup x=some c->((x,c)∈oc/\D<c/\h₁.IsCell c none)\/(oc.lookup x=none/\cl.lookup x=some c):=λx c e=>by
  rw[QS]at e
  cases q:oc.lookup x with
  | some c' =>
   rw[q]at e;cases e;have hm:=ut q;let{z1,z2}:=zac.empty x _ hm;exact .inl {hm,yi hCD z2,z1}
  | none=>rw[q]at e;exact .inr {rfl,e}
 have ok':X'.Ok:=by
  refine{I.ok.mod,S.kind,I.ok.glob,I.ok.blt,?_,λx y c e1 e2=>?_,λx hx=>?_,λx c hf e=>?_,I.ok.hd,I.ok.frames,.inl rfl,λb hb=>{?_,λx c e z=>?_},I.bs,?_,λb o e hb=>?_,λb hb hm=>?_,I.stack,I.Uo}
  ·show s2.heap.objs.size<=C;rw[WU];exact WV
  ·let{m1,l1,_}||{_,e1}:=SX x c e1<;>let{m2,l2,_}||{_,e2}:=SX y c e2
   ·exact name_of_addr zac.apart m1 m2
   ·exact absurd (gc l1<|Wi _ _ e2)<|nu _
   ·exact absurd (gc l2<|Wi _ _ e1)<|nu _
   ·exact I.ok.inj x y c (Vh _ _ e1)<|Vh _ _ e2
  ·have R0:(relabel scope X.env).names.lookup x=some .cell\/(relabel scope X.env).names.lookup x=some .free:=hx;have e:=QN (env:=X.env) (names:=scope.names) (x:=x);have e':(relabel scope X.env).names.lookup x=(scope.names.lookup x).map λk=>if(k==NameKind.free&&X.env.scope.kind==.function&&X.env.kindOf x==some .cell)then NameKind.cell else k:=e
   rw[e']at R0
   cases q:scope.names.lookup x with
   | none=>rw[q]at R0;let z||z:=R0<;>cases z
   | some kd =>
    have V6:=ut q;rw[q]at R0;have hkd:kd=.free\/kd=.cell:=by
     by_cases hz:kd=.free
     ·exact .inl hz
     ·have hb:(kd==NameKind.free)=false:=by simpa using hz
      simp![hb,Bool.false_and,Bool.false_eq_true,lw,Option.map_some]at R0;let z||z:=R0
      ·exact .inr<|Option.some.inj z
      ·exact absurd (Option.some.inj z) hz
    show ∃c,(oc++cl).lookup x=some c;rw[QS]
    cases qo:oc.lookup x with
    | some c=>exact{c,rfl}
    | none =>
     let hkd||hkd:=hkd
     ·exact Option.isSome_iff_exists.mp<|hcf _ V6 hkd
     ·subst hkd;let{c,e}:=Xt x q;rw[qo]at e;cases e
  ·have hq:scope.names.lookup x=some .cell:=LF hf;let{c',ec}:=Xt x hq;let{_,l,_}||{z,_}:=SX x c e
   ·show s2.heap.objs.size<=c;rw[WU];exact gO l
   ·rw[z]at ec;cases ec
  ·exact eh<|eg (WS b hb) WV
  ·let{_,l,_}||{_,e}:=SX x c e
   ·exact wE (gc (WS b hb) l) z
   ·exact(ff b hb).2.2.2.2.1 x c (Vh x c e) z
  ·exact di I.ok.bsz I.sz
  ·let{_,_,_,hx,_}:=ff b hb;let hx||hx:=hx
   ·exact I.ok.Z6 b o e hx
   ·exact absurd (eg (bj (I.ok.bs b o e).1) hx)<|nu _
  ·let{_,hl,hfs,_}:=ff b hb;rcases List.mem_cons.mp (I.Tr b hm)with e|hm
   ·exact hl e
   ·exact hfs hm
 have zaM:(Z++List.replicate k none).length=N'.length:=by rw[xP,List.length_replicate,I.len,S.len]
 have I0:Inv X' [(D,lobj [] 0)] (Z++List.replicate k none) H2 { s2 with heap:=h₁ }:=by
  refine{ok',rfl,I.bare,Un.kept old,{_,zbg,λi x v e1 e2 e3=>?_},λx c e=>?_,I.j_.fresh (by rw[WU];exact WV),λx c e=>?_,λp hp=>?_,I.j_.kept old,zaM}
  ·have hi:i<Z.length:=by
    by_cases hi:i<Z.length
    ·exact hi
    ·rw[zx<|Nat.not_lt.mp hi,List.getElem?_replicate]at e2;split at e2<;>cases e2
   rw[pr hi]at e2;have e':(relabel scope X.env).names.lookup x=(scope.names.lookup x).map λk=>if(k==NameKind.free&&X.env.scope.kind==.function&&X.env.kindOf x==some .cell)then NameKind.cell else k:=QN (env:=X.env) (names:=scope.names) (x:=x)
   have zax:∃kd,scope.names.lookup x=some kd/\(kd=.free\/kd=.local\/kd=.cell):=by
    have e3':(relabel scope X.env).names.lookup x=some .local\/(relabel scope X.env).names.lookup x=some .cell\/(relabel scope X.env).names.lookup x=some .free:=e3;rw[e']at e3'
    cases q:scope.names.lookup x with
    | none=>rw[q]at e3';let z||z||z:=e3'<;>cases z
    | some kd =>
     refine{kd,rfl,?_};rw[q]at e3';by_cases hz:kd=.free
     ·exact .inl hz
     ·have hb:(kd==NameKind.free)=false:=by simpa using hz
      simp![hb,Bool.false_and,Bool.false_eq_true,lw,Option.map_some,Option.some.injEq]at e3';let z||z||z:=e3'
      ·exact .inr<|.inl z
      ·exact .inr<|.inr z
      ·exact .inl z
   let{kd,hk1,hk2}:=zax;let{hN,XY}:=S.outer i x (by rw[<-I.len];exact hi) e1 (by rw[hk1];rfl) (by let z||z||z:=hk2<;>subst z<;>simp[hk1]);have V6:=ut XY;have hko:=S.free _ V6 rfl;have hkx:X.env.kindOf x=some .cell\/X.env.kindOf x=some .free:=hko;let{m,hn,hl}:=I.loc;let{u,r,lk}:=hl i x v hN e2 (by let z||z:=hkx;exact .inr<|.inl z;exact .inr<|.inr z);refine{u,r,.inr {?_,?_}}
   ·show(relabel scope X.env).names.lookup x=some .cell\/(relabel scope X.env).names.lookup x=some .free;rw[e',XY,Option.map_some];split
    ·exact .inl rfl
    ·exact .inr rfl
   ·let{kl,_}||{_,c,ec,Ua}:=lk
    ·let z||z:=hkx<;>(rw[z]at kl;cases kl)
    ·let{c',ec'}:=Option.isSome_iff_exists.mp<|hcf _ V6 rfl;have q:=Vh _ _ ec';rw[ec]at q
     cases q
     have hno:oc.lookup x=none:=by
      cases qo:oc.lookup x with
      | none=>rfl
      | some c2 =>
       have:=S.cells _ (own _ _<|ut qo) rfl;rw[XY]at this;cases this
     exact{c,by show(oc++cl).lookup x=some c;rw[QS,hno];exact ec',Ua.keeps old}
  ·let{_,_,z}||{_,e}:=SX x c e
   ·exact{_,z}
   ·let{v,z}:=I.cell x c<|Vh x c e;exact{v,z.keeps old}
  ·let{_,l,_}||{_,e}:=SX x c e
   ·exact I.j_.fresh (by rw[WU];exact gO l)
   ·exact I.Sx x c<|Vh x c e
  ·have Yi:p∈([]:w_)++[(D,lobj [] 0)]:=hp;have ep:p=(D,lobj [] 0):=by simpa using Yi
   subst ep;exact{X2,fpD.1,hDC,YM D ?ji,λv z=>nomatch z}
 have VT:∀{H':Hp} {o:Obj},(∀b∈fp,H' b=none)->∀b∈fp,mZ X' [(D,o)] H' b:=λ{H' o} hn b hb=>by
  refine{hn b hb,eh<|eg (WS b hb) WV,ok'.zag b hb,.inl hb,λx c e z=>?_,λp hp=>?_}
  ·let{_,l,_}||{_,e}:=SX x c e
   ·exact wE (gc (WS b hb) l) z
   ·exact(ff b hb).2.2.2.2.1 x c (Vh x c e) z
  have Yi:p∈([]:w_)++[(D,o)]:=hp;have ep:p=(D,o):=by simpa using Yi
  subst ep;exact wE<|WS b hb
 have loop:∀s₃:Tk,s₃={ s2 with heap:=h₁ } ->
   codeAny ?B X.A (.compLoop (.ListComp elt [{tg,iter,ifs,0}] scope pos) 0 (.ref it) (.ref D)<|compEnvC scope (oc++cl) C X.env) (RR (.ref D) C) s₃:=by
  rintro s₃ rfl;refine QM (λn s'=>∃i vs ys kk σ' H',Inv X' [(D,lobj ys kk)] σ' H' s'/\tn i s'.heap/\(∀b∈fp,H' b=none)/\Vals vs ys/\W i n vs σ' H') ?_ m0
   {0,[],[],0,_,H2,I0,T.keep _ _ _ st λb _ o e=>old b o e,λb hb=>(ff b hb).1,.nil,w0}
  rintro n s3 ⟨i,vs,ys,kk,σ3,H3,I3,W9,fr3,rv,w3⟩;let{hvl,zaB}:=turn i n vs σ3 H3 w3;have zap:∀{o:Obj} {σ' H' s'},Inv X' [(D,o)] σ' H' s'->s'.heap.get? D=some o/\H' D=none:=λJ=>{(J.pin _<|eE _ da).1,(J.pin _<|eE _ da).2.1}
  let{stop,qn}||{go,step}:=zaB
  ·refine Db (T.done X' rfl rfl rfl hc i _ s3 σ3 H3 ?qE I3 (VT fr3) W9 stop) λr s4 ⟨hr,I4⟩=>?_
   subst hr;let{gD,nD}:=zap I4;let{m',hm',_}:=I4.loc;have hC4:H3 C=none:=I4.free;have u0:Un (cU X.stack) fp H2 H3 s2.heap s4.heap:=I4.base;have neD:∀b o,s2.heap.get? b=some o->b≠D:=λb o e=>by rw[<-WU];exact eh<|bj e
   have u1:Un (cU X.stack) fp H2 (upd H3 D<|.lst vs) s2.heap s4.heap :=
    {u0.keep,u0.slot,λb o e n hx=>by rw[G_<|neD b o e];exact u0.free b o e n hx,u0.there,
     λb xs e=>by have q:=u0.Tq b xs e;rw[G_<|At q nD];exact q,
     λb o u e=>by have q:=u0.Tb b o u e;rw[G_<|At q nD];exact q,
     λb ps e=>by let{more,q}:=u0.TR b ps e;exact{more,by rw[G_<|At q nD];exact q}}
   have I5:Inv X pins Z (upd H3 D<|.lst vs) s4:=I.ZK I4.os u1 (I4.j_.zam nD hvl rv gD) I4.bare λb hb=>{(ff b hb).2.2.2.1,(ff b hb).2.1,(ff b hb).2.2.2.2.1,(ff b hb).2.2.2.2.2}
   exact hRR D C s4 _ I5 {m',hm'} (fpC _ (by rw[G_<|Ne.symm hDC];exact hC4))<|qn D nD
  ·refine Db (T.item X' rfl rfl rfl hc i _ s3 σ3 H3 ?qE I3 (VT fr3) W9 go) λr s4 ⟨u,hr,h4⟩=>?_
   subst hr;refine Db h4 λ_ s5 ⟨x,H5,I5,r5,y5,ZV,fr5⟩=>?_
   have I5':=I5.pinned (VT fr5)<|T.obj _ _ ZV;refine Db (hg _ C _ s5 σ3 H5 x u _ I5' r5<|step x H5 y5) λ_ s6 ⟨σ6,H6,I6,q6⟩=>?_
   refine Db (ht _ C _ s6 σ6 H6 _ I6 q6) λok s7 ⟨H7,I7,q7⟩=>?_
   have Zl:∀{σ' H' s'},Inv X' ([(D,lobj ys kk)]++rS fp s5.heap) σ' H' s'->Inv X' [(D,lobj ys kk)] σ' H' s'/\tn ?jx s'.heap/\∀b∈fp,H' b=none:=λ{σ' H' s'} J =>
    {J.Sn,T.keep _ _ _ ZV λb hb o e=>(J.pin (b,o)<|eE _<|eE _<|P0 hb e).1,λb hb=>by
     let{o,e,d}:=T.obj _ _ ZV b hb
     exact(J.pin (b,o)<|eE _<|eE _<|P0 hb e).2.1}
   cases ok with
   | false =>
    rw[ba Bool.false_ne_true];rw[ba Bool.false_ne_true]at q7;let{m',hm',w7}:=q7;let{J1,J2,J3}:=Zl I7;exact{m',hm',i+1,vs,ys,kk,σ6,H7,J1,J2,J3,rv,w7}
   | true =>
    rw[ap rfl];rw[ap rfl]at q7;refine Db (he _ C _ s7 σ6 H7 _ I7 q7) λuy s8 ⟨y,H8,I8,r8,m',hm',w8⟩=>?_
    let{J1,J2,J3}:=Zl I8;let{gD,nD}:=zap J1;refine append_at (hsz:=by show ys.toArray.size<=sizeLine;rw[ig,<-rv.length];exact hvl) gD λh9 hs9 hD9=>?_
    have J1':Inv X' [] σ6 H8 s8:=J1.Te λp hp=>nomatch hp
    have J9:Inv X' [] σ6 H8 { s8 with heap:=h9 }:=J1'.turned (t':=s8.toks) (it:=D) (λb o hb e=>hs9.extBut b o hb e) nD hDC (.inr (by show s2.heap.objs.size<=D;rw[WU];exact ai _)) (λx c e=>(SX x c e).elim (λz=>wE z.2.1) λz=>eh<|Wi x c z.2) λp hp=>nomatch hp
    have eo:({ cls:=.type "list",data:=.seq (ys.toArray.push uy) (kk+1) }:Obj)=lobj (ys++[uy]) (kk+1):=by
     unfold lobj;rw[List.push_toArray]
    refine{m',hm',i+1,vs++[y],ys++[uy],kk+1,σ6,H8,J9.Te λp hp=>?_,T.keep _ _ _ J2 λb hb o e=>hs9.extBut b o (eh<|WS b hb) e,J3,rv.append<|.cons r8 .nil,w8};have ep:p=(D,lobj (ys++[uy]) (kk+1)):=by simpa using hp
    subst ep;exact{by show h9.get? D=_;rw[hD9,eo],nD,hDC,YM D ?ji,λv z=>nomatch z}
 exact codeAny_compStart_list (loop _ rfl)<|T.self _ 0 _ _ _ (T.keep _ _ _ st λb _ o e=>old b o e)<|loop _ rfl
end
section
def A9{k:Nat}{wi:TI}
  (hc:X.calm=true) (S:RU X N' k scope) (V8:∀x∈scope.names,x.2=.free->∃c,X.env.cells.lookup x.1=some c) (hi:jQ X tg iter wi)
  (hg:∀cl s H fp C,cg ?K tg g) (ht:∀cl s H fp C,PTs ?K ifs tc) (he:∀cl s H fp C,cM ?K elt te)
  (hs:∀x,foldedSetIterable iter X.env x=pure x:=by intro _;rfl) :
  cM X (.ListComp elt [{tg,iter,ifs,0}] scope pos) (nj wi k g tc te):=by
 intro pins s Z H Q I h;let{cl,X1,h1,h2}:=QP   V8;refine wpAny_comprehension_free  rfl hs X1 S.kind S.names<|Db (hi pins s Z H _ I h) λxv s1 h1'=>Db h1' λitv s2 h2'=>?_;let{it,fp,tn,J,H2,e,I2,T,H_,f2,rd}:=h2';subst e;refine QT hc S h1 h2 I2 T H_ f2 (λcl C=>hg cl _ _ _ C) (λcl C=>ht cl _ _ _ C) (λcl C=>he cl _ _ _ C) rd λD C s' H' I' ⟨m,hm⟩ fC q=>?_
 refine{m,hm,λh' Zq=>{.ref D,H',?_,rfl,q}};exact I'.turned   (λb o hb e=>Zq.extBut b o hb e) fC.1 fC.2.1 fC.2.2.2.1 fC.2.2.2.2.1 fC.2.2.2.2.2
def QU{pos' U2:Pos}{k i:Nat}{y:Str}{wi:TI}
  (hN:X.N.Nodup) (hy:X.N[i]? = some y) (hly:Loc X.env.scope y) (XZ:X.fn y=true\/X.env.scope.names.lookup y=some .local)
  (hc:X.calm=true) (S:RU X N' k scope) (V8:∀x∈scope.names,x.2=.free->∃c,X.env.cells.lookup x.1=some c) (hi:jQ X tg iter wi)
  (hg:∀cl s H fp C,cg ?K tg g) (ht:∀cl s H fp C,PTs ?K ifs tc) (he:∀cl s H fp C,cM ?K elt te)
  (XJ:swapsWith (.ListComp elt [{tg,iter,ifs,0}] scope pos) (some (.Name y pos')) U2.line X.env=pure true)
  (hs:∀x,foldedSetIterable iter X.env x=pure x:=by intro _;rfl) :
  sP X (.Assign [.Name y pos'] (.ListComp elt [{tg,iter,ifs,0}] scope pos) U2) (ao (nj wi k g tc te) (h8 i)):=by
 intro pins s Z H D₀ I h;let{cl,X1,h1,h2}:=QP   V8;rw[exec_Assign_Name_used _ _ _ _ XJ];refine f_ (wpAny_standAt (f_ ?_))
 refine f_ (oS (wpAny_comprehension_free   rfl hs X1 S.kind S.names
  (Db (hi pins s Z H _ I h) λxv s1 h1'=>Db h1' λitv s2 h2'=>?_)) (λ_ s' hq=>l_ (l_ hq)) λ_ _ e=>e)
 let{it,fp,tn,J,H2,e,I2,T,H_,f2,rd}:=h2';subst e;refine QT (Q:=λx H1=>h8 i x Z H1 D₀.nx) hc S h1 h2 I2 T H_ f2 (λcl C=>hg cl _ _ _ C) (λcl C=>ht cl _ _ _ C) (λcl C=>he cl _ _ _ C) rd λD C s' H' I' ⟨m,hm⟩ fC q=>?_
 refine wpAny_assign_Name (Ch I' hN hy hly (show RelV (.ref D) (.ref D)from rfl) (λs'' I'' ⟨a,hsb,ha⟩=>?_) XZ);have hCa:C≠a:=by
  let rfl||ha:=ha
  ·exact fC.2.1
  ·exact λz=>fC.2.2.2.2.1 y a ha z.symm
 refine{m,hm.sameBut hsb hCa,λh' Zq=>{_,H',?_,q}};exact I''.turned   (λb o hb e=>Zq.extBut b o hb e) fC.1 fC.2.1 fC.2.2.2.1 fC.2.2.2.2.1 fC.2.2.2.2.2
end
section
variable {κ:Type} [DecidableEq κ]
def lE(kvs:Re ?qW)(k:κ):SL V:=(kvs.find? λkv=>decide<|kv.1=k).map (·.2)
def putK(kvs:Re ?qW)(k:κ)(v:V):Re ?qW :=
 if(kvs.any λkv=>decide<|kv.1=k)=true then kvs.map (λkv=>if kv.1=k then(kv.1,v)else kv)else kvs++[(k,v)]
def QV{p:κ×V}{r:Re ?qW}{k:κ}(e:p.1=k):lE (p::r) k=some p.2:=by simp[lE,ir,e]
def QW{p:κ×V}{r:Re ?qW}{k:κ}(e:¬ p.1=k):lE (p::r) k=lE r k:=by simp[lE,ir,e]
def QX(k:κ):∀kvs:Re ?qW,(kvs.any λkv=>decide<|kv.1=k)=(lE kvs k).isSome
 | []=>rfl
 | p::r=>by
  rw[sO];by_cases e:p.1=k
  ·simp  [QV e,be e,Bool.true_or,Option.isSome_some]
  ·rw[QW e,bi e];exact QX k r
def QY(kvs:Re ?qW)(k:κ)(v:V):(putK kvs k v).length<=kvs.length+1:=by
 unfold putK
 grind
def SU.Rt{u:SL SZ}(r:SU o u):o.isSome=u.isSome:=by
 cases o with
 | none=>cases u with
  | none=>rfl
  | some _=>exact((r)).elim
 | some _=>cases u with
  | none=>exact((r)).elim
  | some _=>rfl
theorem SU.getD{u:SL SZ}{d:V}{d':SZ}(r:SU o u)(rd:RelV d d'):RelV (o.getD d) (u.getD d'):=by
 cases o with
 | none=>cases u with
  | none=>exact rd
  | some _=>exact((r)).elim
 | some _=>cases u with
  | none=>exact((r)).elim
  | some _=>exact r
theorem KV.val{kvs:Re ?qW}{vs:Re (κ×SZ)}(r:KV kvs vs)(k:κ):SU (lE kvs k) (valueAt vs k):=by
 induction r with
 | nil=>exact True.intro
 | @cons p q ps qs h t ih =>
  let{h1,h2}:=h;by_cases e:p.1=k
  ·have e':=h1.symm.trans e;have b:valueAt (q::qs) k=some q.2:=by simp[valueAt,ir,e']
   rw[QV e,b];exact h2
  ·have e':¬ q.1=k:=λz=>e<|h1.trans z
   have b:valueAt (q::qs) k=valueAt qs k:=by simp[valueAt,ir,e']
   rw[QW e,b];exact ih
theorem KV.any{kvs:Re ?qW}{vs:Re (κ×SZ)}(r:KV kvs vs)(k:κ):(kvs.any λkv=>decide<|kv.1=k)=vs.any λkv=>decide<|kv.1=k:=by
 induction r<;>grind
def KV.ZZ{kvs:Re ?qW}{vs:Re (κ×SZ)}(r:KV kvs vs)(k:κ)(ry:RelV y u) :
  KV (kvs.map λkv=>if kv.1=k then(kv.1,y)else kv) (vs.map λkv=>if kv.1=k then(kv.1,u)else kv):=by
 induction r with
 | nil=>exact .nil
 | @cons p q ps qs h t ih =>
  refine .cons ?_ ih
  grind
theorem KV.put{kvs:Re ?qW}{vs:Re (κ×SZ)}(r:KV kvs vs)(k:κ)(ry:RelV y u):KV (putK kvs k y) (stored vs k u):=by
 unfold putK stored;rw[r.any k];by_cases e:(vs.any λkv=>decide<|kv.1=k)=true
 ·rw[ap e,ap e];exact r.ZZ k ry
 ·rw[ba e,ba e];exact Paired.snoc r {rfl,ry}
theorem KV.length{kvs:Re ?qW}{vs:Re (κ×SZ)}(r:KV kvs vs):kvs.length=vs.length:=Paired.length r
end
def QZ{k:Key}(r:RelV (kV k) u):(ci P w).is k u=true:=by
 cases k with
 | inl i=>let{t,e}:=((r));subst e;exact Sk P w i t
 | inr x=>let{t,e}:=((r));subst e;exact RW P w x t
def Q0{P:TD}{w:TW}:∀{ks:Re Key} {us:Re SZ},Vals (ks.map kV) us->ItemsAre (ci P w) ks us
 | [],_,r=>by cases r;exact .nil
 | k::ks,_,r=>by
  cases r with
  | cons h t=>exact .cons (QZ h)<|Q0 t
abbrev KT(H:Hp):Re ?qm->Re ?jO->Prop:=Paired λp q=>p.1=q.1/\H q.2.1=some (.tup<|p.1.map kV)/\RelV p.2 q.2.2
theorem KT.val(r:KT H kvs xs)(k:Re Key):SU (lE kvs k) ((atKey xs k).map (·.2)):=by
 induction r with
 | nil=>exact True.intro
 | @cons p q ps qs h t ih =>
  let{h1,_,h2}:=h;by_cases e:p.1=k
  ·have e':=h1.symm.trans e;have b:atKey (q::qs) k=some q.2:=by simp[atKey,ir,e']
   rw[QV e,b];exact h2
  ·have e':¬ q.1=k:=λz=>e<|h1.trans z
   have b:atKey (q::qs) k=atKey qs k:=by simp[atKey,ir,e']
   rw[QW e,b];exact ih
def KT.ZZ(r:KT H kvs xs)(k:Re Key)(ry:RelV y u) :
  KT H (kvs.map λkv=>if kv.1=k then(kv.1,y)else kv) (xs.map<|putAt k u):=by
 induction r with
 | nil=>exact .nil
 | @cons p q ps qs h t ih =>
  refine .cons ?_ ih;unfold putAt
  grind
theorem KT.put(r:KT H kvs xs)(k:Re Key){b:Tl}(hb:H b=some (.tup<|k.map kV))(ry:RelV y u) :
  KT H (putK kvs k y) (storedH xs k b u):=by
 have e:(kvs.any λkv=>decide<|kv.1=k)=(atKey xs k).isSome:=by
  rw[QX,(r.val k).Rt,Option.isSome_map]
 unfold putK storedH;rw[e];by_cases q:(atKey xs k).isSome=true
 ·rw[ap q,ap q];exact r.ZZ k ry
 ·rw[ba q,ba q];exact Paired.snoc r {rfl,hb,ry}
theorem KT.keeps(r:KT H kvs xs)(ht:∀b ys,H b=some (.tup ys)->H' b=some (.tup ys)):KT H' kvs xs :=
 Paired.Z7 r λ_ _ z=>{z.1,ht _ _ z.2.1,z.2.2}
section
variable {h:Wp} {a:Tl}
def Jq{u:HO}(ok:RA P w H h)(e:Rd H a u):x_ P w H h a u:=e.ok ok
def Q1{kvs:Re (Key×V)}(ok:RA P w H h)(e:Rd H a (.dK kvs)):kvs.length<=sizeLine/\?jV=false/\∃vs,KV kvs vs/\h.DictOf (ci P w) a vs :=
 (Jq ok e)
def BU{kvs:Re (Key×V)}(ok:RA P w H h)(e:H a=some (.dK kvs)):kvs.length<=sizeLine/\?jV=false/\∃vs,KV kvs vs/\h.DictOf (ci P w) a vs:=Q1 ok<|.inl e
def Q2{ks:Re Key}(ok:RA P w H h)(e:H a=some (.tup<|ks.map kV)):(tupleKind<|ci P w).is h ks a:=by
 let{_,i_,r,{o,h1,h2,n,h3},_}:=((ok a _ e));exact{o,i_.toArray,n,h1,h2,h3,(Q0 r)}
def Q3(ok:RA P w H h)(e:Rd H a (.dT kvs)):kvs.length<=sizeLine/\?jV=false /\
  ∃xs,KT H kvs xs/\h.DictOfH (tupleKind<|ci P w) a xs:=by
 let{z,y,xs,r,o,es,ep,h1,h2,h3,h4,h5}:=((Jq ok e));refine{z,y,xs,r,o,es,ep,h1,h2,h3,h4,λx hx=>?_,h5};have all:∀{l:Re ?qm} {m:Re ?jO},KT H l m->∀x∈m,(tupleKind<|ci P w).is h x.1 x.2.1:=by
  intro l m q
  induction q with
  | nil=>grind
  | @cons p q ps qs hq t ih =>
   intro x hx;let e||hx:=List.mem_cons.mp hx
   ·exact Q2 ok ?jc
   ·exact ih x hx
 exact all r x hx
def Gn(ok:RA P w H h)(e:H a=some (.dT kvs)):kvs.length<=sizeLine/\?jV=false /\
  ∃xs,KT H kvs xs/\h.DictOfH (tupleKind<|ci P w) a xs:=Q3 ok<|.inl e
end
noncomputable def TB(H:Hp)(a:Tl)(y:V)(r:SL V):Prop :=
 (∃kvs k,Rd H a (.dK kvs)/\y=kV k/\r=lE kvs k)\/∃kvs k b,Rd H a (.dT kvs)/\y=.ref b/\H b=some (.tup<|k.map kV)/\r=lE kvs k
noncomputable def Se(H:Hp)(a:Tl)(y v:V)(H':Hp):Prop :=
 (∃kvs k,H a=some (.dK kvs)/\y=kV k/\kvs.length<sizeLine/\H'=upd H a (.dK<|putK kvs k v)) \/
 ∃kvs k b,H a=some (.dT kvs)/\y=.ref b/\H b=some (.tup<|k.map kV)/\kvs.length<sizeLine/\H'=upd H a (.dT<|putK kvs k v)
theorem TB.k{H:Hp}{a:Tl}{kvs:Re (Key×V)}{k:Key}(e:H a=some (.dK kvs)):TB H a (kV k) (lE kvs k):=.inl {kvs,k,.inl e,rfl,rfl}
theorem Se.k{H:Hp}{a:Tl}{kvs:Re (Key×V)}{k:Key}{v:V}(e:H a=some (.dK kvs))(hl:kvs.length<sizeLine):Se H a (kV k) v (upd H a<|.dK<|putK kvs k v):=.inl {kvs,k,e,rfl,hl,rfl}
theorem Se.t{a b:Tl}{k:Re Key}{v:V}(e:H a=some (.dT kvs))(eb:H b=some (.tup<|k.map kV))(hl:kvs.length<sizeLine) :
  Se H a (.ref b) v (upd H a<|.dT<|putK kvs k v):=.inr {kvs,k,b,e,rfl,eb,hl,rfl}
section
variable {a:Tl} {v:V} {r:SZ}
theorem Inv.big(I:Inv X pins Z H s):sysModules<s.heap.objs.size:=by
 have h:=(I.mod.glob.keeps I.bk).lt;exact gc ?C h
def Dq(hu:A.units+1<cLine)(I:Inv X pins Z H s)(g:TB H a y (some v))(ry:RelV y u)(h:∀w' s',Inv X pins Z H s'->RelV v w'->Q w' s') :
  wpAny ?B A (getItem (.ref a) u) Q E s:=by
 let{kvs,k,e,ey,l}||{kvs,k,b,e,ey,eb,l}:=g
 ·subst ey;let{z,hd,vs,rel,dd}:=Q1 I.j_ e;let{w',hw,TX}:=SU.some_of   (by rw[l];exact rel.val k);exact wpAny_getItem_of (QZ ry) dd.mapOf hw<|h w' _ ?qt TX
 ·subst ey
  cases ((ry))
  let{z,hd,xs,rel,dd}:=Q3 I.j_ e;let{w',hw,TX}:=SU.some_of   (by rw[l];exact rel.val k);let{p,hp,hp2}:=Option.map_eq_some_iff.mp hw;refine wpAny_getItem_heap (ye hu) (Q2 I.j_ eb) dd hp ?_;rw[hp2];exact h w' _ ?qt TX
def Pi(hu:A.units+1<cLine)(I:Inv X pins Z H s)(g:TB H a y o)(ry:RelV y u)(h:∀s',Inv X pins Z H s'->Q (.bool o.isSome) s') :
  wpAny ?B A (compareOp .In u<|.ref a) Q E s:=by
 let{kvs,k,e,ey,l}||{kvs,k,b,e,ey,eb,l}:=g
 ·subst ey;let{z,hd,vs,rel,dd}:=Q1 I.j_ e;refine wpAny_in_of (QZ ry) hd dd.mapOf ?_;rw[<-(rel.val k).Rt,<-l];exact h _ ?qt
 ·subst ey
  cases ((ry))
  let{z,hd,xs,rel,dd}:=Q3 I.j_ e;refine wpAny_in_heap (ye hu) (Q2 I.j_ eb) hd dd ?_;have q:=(rel.val k).Rt;rw[Option.isSome_map]at q;rw[<-q,<-l];exact h _ ?qt
def IF(hu:A.units+1<cLine)(I:Inv X pins Z H s)(g:TB H a y o)(ry:RelV y u)(h:∀s',Inv X pins Z H s'->Q (.bool<|!o.isSome) s') :
  wpAny ?B A (compareOp .NotIn u<|.ref a) Q E s:=by
 let{kvs,k,e,ey,l}||{kvs,k,b,e,ey,eb,l}:=g
 ·subst ey;let{z,hd,vs,rel,dd}:=Q1 I.j_ e;refine wpAny_notIn_of (QZ ry) hd dd.mapOf ?_;rw[<-(rel.val k).Rt,<-l];exact h _ ?qt
 ·subst ey
  cases ((ry))
  let{z,hd,xs,rel,dd}:=Q3 I.j_ e;refine wpAny_notIn_heap (ye hu) (Q2 I.j_ eb) hd dd ?_;have q:=(rel.val k).Rt;rw[Option.isSome_map]at q;rw[<-q,<-l];exact h _ ?qt
def Q4{h':Wp}{t':Nat}{ob:HO}(I:Inv X pins Z H s)(mu:Mut (H a))(hs:Heap.SameBut a s.heap h')(he:∃q,h'.get? a=some q)(new:x_ X.prog X.w (upd H a ob) h' a ob) :
  Inv X pins Z (upd H a ob) { s with heap:=h',toks:=t' } :=
 I.write   mu (.inl rfl) (λb q hb z=>(hs.2 b hb).trans z) he new
def Gu{h':Wp}{kvs:Re (Key×V)}{vs:Re (Key×SZ)}(z:kvs.length<=sizeLine)(hd:?jV=false)(rel:KV kvs vs)(dd:h'.DictOf (ci P w) a vs) :
  x_ P w H' h' a (.dK kvs):={z,hd,vs,rel,dd}
def Dp{Q:Unit->Tk->Prop}(hu:A.units+1<cLine)(I:Inv X pins Z H s)(g:Se H a y v H')(ry:RelV y u)(rv:RelV v r)(h:∀s',Inv X pins Z H' s'->Q () s') :
  wpAny ?B A (setItem (.ref a) u r) Q E s:=by
 let{kvs,k,e,ey,l,eH}||{kvs,k,b,e,ey,eb,l,eH}:=g
 ·subst ey eH;let{z,hd,vs,rel,dd}:=BU I.j_ e;have hz:vs.length<=sizeLine:=by rw[<-rel.length];exact z
  have hl:(putK kvs k v).length<=sizeLine:=by have:=QY kvs k v;lia
  refine wpAny_setItem_pairs  (QZ ry) dd λh' Xh hs=>h _ ?_
  have he:∃q,h'.get? a=some q:=let ⟨q,_,_,hq,_⟩:=Xh;{q,hq}
  exact Q4 I (by rw[e];exact True.intro) hs he<|Gu hl hd (rel.put k rv) Xh
 ·subst ey eH
  cases ((ry))
  let{z,hd,xs,rel,dd}:=Gn I.j_ e;have hz:xs.length<=sizeLine:=by rw[<-Paired.length rel];exact z
  have hl:(putK kvs k v).length<=sizeLine:=by have:=QY kvs k v;lia
  refine wpAny_setItem_heap  (ye hu) (Q2 I.j_ eb) dd λh' Xh hs=>h _ ?_
  let{q,es,ep,hq,h2,h3,h4,_,h5}:=Xh;refine Q4 I (by rw[e];exact True.intro) hs {q,hq} {hl,hd,_,(rel.put k eb rv).keeps λc ys ec=>?_,q,es,ep,hq,h2,h3,h4,h5}
  grind
end
section
variable {a:Tl} {kvs:Re (Key×V)} {k:Key}
def N5(I:Inv X pins Z H s)(e:Rd H a (.dK kvs))(h:∀t s',Inv X pins Z H s'->Q (.int kvs.length t) s'):wpAny ?B A (call (.builtin "len") [.ref a]) Q E s:=by
 let{z,hd,vs,rel,dd}:=Q1 I.j_ e;refine call_len_dict hd dd (by rw[<-rel.length];rw[wH]at z;lia) ?_;rw[<-rel.length];exact h _ _ ?qt
end
def Q5{a:Tl}(I:Inv X pins Z H s)(g:TB H a y o):s.TypeIs (.ref a) "dict":=by
 let{kvs,k,e,_,_}||{kvs,k,b,e,_,_,_}:=g
 ·let{_,_,vs,_,dd}:=Q1 I.j_ e;exact dd.typeIs
 ·let{_,_,xs,_,dd}:=Q3 I.j_ e;exact dd.typeIs
def bS(td ty tv:TE):TS:=λD Z H=>tv Z H λv H1=>td Z H1 λx H2=>ty Z H2 λy H3=>∃a H4,x=.ref a/\Se H3 a y v H4/\D.nx Z H4
section
variable {o i e value:Uf} {pos' L_:Pos} {td ty tv:TE}
def A0(hu:X.A.units+1<cLine)(ho:cM X o td)(hi:cM X i ty)(hv:cM X value tv)(hs:swapsWith value (some<|.Subscript o i pos') pos.line X.env=pure false) :
  sP X (.Assign [.Subscript o i pos'] value pos) (bS td ty tv):=by
 intro pins s Z H D I h;refine wpAny_Assign_Subscript (Db (hv pins s Z H _ I h) λr s1 ⟨v,H1,I1,rv,q1⟩=>Db (ho pins s1 Z H1 _ I1 q1) λu s2 ⟨x,H2,I2,rx,q2⟩=>Db (hi pins s2 Z H2 _ I2 q2) λiv s3 ⟨y,H3,I3,ry,a,H4,ex,g,q3⟩=>?_) hs;subst ex;obtain rfl:u=Value.ref a:=rx;exact Dp hu I3 g ry rv λs4 I4=>{Z,H4,I4,q3}
end
def Q6(h:Wp)(hb:sysModules<h.objs.size):x_ P w H (h.push { cls:=.type "dict",data:=.dict #[] }) h.objs.size (.dK []) :=
 {ac _,beq_eq_false_iff_ne.mpr<|Ne.symm<|eh hb,[],.nil,Heap.DictOf.new h}
def Q7(h:Wp)(hb:sysModules<h.objs.size):x_ P w H (h.push { cls:=.type "dict",data:=.dict #[] }) h.objs.size (.dT []) :=
 {ac _,beq_eq_false_iff_ne.mpr<|Ne.symm<|eh hb,[],.nil,_,#[],0,cN _ rfl,{rfl,rfl,rfl},rfl,rfl,vf}
def cw:TE:=λ_ H Q=>∀p,H p=none->Q (.ref p) (upd H p<|.dK [])
def jC:TE:=λ_ H Q=>∀p,H p=none->Q (.ref p) (upd H p<|.dT [])
section
def EU:cM X (.Dict [] [] pos) cw:=λpins s Z H Q I h =>
 wpAny_Dict_empty {.ref s.heap.objs.size,_,I.laid    ?qP ?ji<|Q6 s.heap I.big,rfl,h _ ?jA}
def O4:cM X (.Dict [] [] pos) jC:=λpins s Z H Q I h =>
 wpAny_Dict_empty {.ref s.heap.objs.size,_,I.laid    ?qP ?ji<|Q7 s.heap I.big,rfl,h _ ?jA}
end
def br:Re (TE×TE)->St->Hp->(Re (V×V)->Hp->Prop)->Prop
 | [],_,H,Q=>Q [] H
 | (tk,tv)::r,Z,H,Q=>tk Z H λx H1=>tv Z H1 λy H2=>br r Z H2 λps H3=>Q ((x,y)::ps) H3
abbrev VV:Re (V×V)->Re (SZ×SZ)->Prop:=Paired λp q=>RelV p.1 q.1/\RelV p.2 q.2
noncomputable def PPs(X:Cx)(pos:Pos)(keys:Re (SL Uf))(values:Re Uf)(trs:Re (TE×TE)):Prop :=
 ∀(pins:w_) (s:Tk) (Z:St) (H:Hp) (Q:Re (V×V)->Hp->Prop),Inv X pins Z H s->br trs Z H Q ->
  wpAny ?B X.A (evalPairs<|pairTrees keys values X.env pos) (λvs s'=>∃ps H',Inv X pins Z H' s'/\VV ps vs/\Q ps H') X.xe s
def Ht:PPs X pos [] [] []:=λpins s Z H Q I h=>pairTrees_nil_walk {[],H,I,.nil,h}
def EJ{k v:Uf}{ks:Re (SL Uf)}{vs:Re Uf}{tk tv:TE}{trs:Re (TE×TE)}(hk:cM X k tk)(hv:cM X v tv)(hr:PPs X pos ks vs trs) :
  PPs X pos (some k::ks) (v::vs) ((tk,tv)::trs):=λpins s Z H Q I h =>
 pairTrees_cons_walk<|Db (hk pins s Z H _ I h) λu s1 ⟨x,H1,I1,rx,q1⟩=>Db (hv pins s1 Z H1 _ I1 q1) λw2 s2 ⟨y,H2,I2,ry,q2⟩ =>
  Db (hr pins s2 Z H2 _ I2 q2) λws s3 ⟨ps,H3,I3,rel,q3⟩=>{(x,y)::ps,H3,I3,.cons {rx,ry} rel,q3}
structure M1(X:Cx)(o:Uf)(m:Str)(apos:Pos)(e:Uf)(q_:Pos):Prop where
 base:attributeBase o m X.env (eval o X.env)=eval o X.env
 Y3:((backTo q_<|starEach [e] X.env).all (λx=>!x.1)&&(backToKw q_<|keywordEach [] X.env).all (λx=>x.1.isSome)
  && decide (([e]:Re Uf).length+([]:Re Keyword).length+(if([]:Re Keyword).isEmpty then 0 else 1)<30))=true
 line:?jI=true
 trees:backTo q_ (starEach [e] X.env)=[?N]
noncomputable def IsD(H:Hp)(a:Tl):Prop:=(∃kvs,Rd H a (.dK kvs))\/∃kvs,Rd H a (.dT kvs)
def Lw{a:Tl}(I:Inv X pins Z H s)(d:IsD H a) :
  s.TypeIs (.ref a) "dict" /\ (∀b,Value.ref a=.ref b->∃ob,s.heap.get? b=some ob/\ob.dict=none)/\?jV=false:=by
 let{kvs,e}||{kvs,e}:=d
 ·let{_,hd,vs,_,dd}:=Q1 I.j_ e;refine{dd.typeIs,λb q=>?_,hd}
  cases q
  let{ob,_,_,h1,h2,_}:=dd;exact{ob,h1,h2.2.1}
 ·let{_,hd,xs,_,dd}:=Q3 I.j_ e;refine{dd.typeIs,λb q=>?_,hd}
  cases q
  let{ob,_,_,h1,h2,_}:=dd;exact{ob,h1,h2.2.1}
section
variable {a:Tl} {d:V} {r:SZ}
def LQ(hu:A.units+1<cLine)(I:Inv X pins Z H s)(g:TB H a y o)(ry:RelV y u)(h:∀w' s',Inv X pins Z H s'->RelV (o.getD .Rq) w'->Q w' s') :
  wpAny ?B A (call (.builtin "dict.get") [.ref a,u]) Q E s:=by
 let{kvs,k,e,ey,l}||{kvs,k,b,e,ey,eb,l}:=g
 ·subst ey;let{z,hd,vs,rel,dd}:=Q1 I.j_ e;refine q8 xp dd.typeIs km (zg _ _) (meets_dict_get ?qs a (QZ ry) hd) {_,dd.mapOf,h _ _ ?qt ?_};rw[l];exact(rel.val k).getD rfl
 ·subst ey
  cases ((ry))
  let{z,hd,xs,rel,dd}:=Q3 I.j_ e;refine q8 xp dd.typeIs km (zg _ _) (meetsH_dict_get (tupleKind ?qs) a b hd) {ye hu,k,xs,Q2 I.j_ eb,dd,h _ _ ?qt ?_};rw[l];exact(rel.val k).getD rfl
end
end L2
namespace L4
open PySem PySem.Spec PyProof.Rows L2 PySem.W
noncomputable def XO(e C:Tl)(dd:SL Tl):Wp->Prop:=λh=>∃oe,h.get? e=some oe/\oe.cls=.ref C/\oe.dict=dd/\PySem.W.notCls oe=true
def bT(dx:Tl)(fs:Re (Str×V)):Wp->Prop:=λh=>∃mA,h.Ns1 dx mA/\PySem.Within mA (fs.map (·.1))/\∀f,SU (fs.lookup f)<|mA f
abbrev bmV:Re SZ:=[.type "ValueError",.type "Exception",.type "BaseException",.type "object"]
structure XC(K:Frag)(C D fI:Tl):Prop where
 obj:∃nm q N bs sn sub ab col dd k0 k1 k2 k3 k5,K.lookup C=some (excClassObj nm q C N bs (.ref D::bmV) true sn sub ab col dd k0 k1 k2 k3 k5 "ValueError.__new__")
 tl:tailIn K bmV (.ref D::bmV)=true
 ini:findIn K (.ref C) "__init__"=some (some<|.ref fI)
 fn:typeIn K (.ref fI)=some (.type "function")
 sa:findIn K (.ref C) "__setattr__"=some (some<|.builtin "object.__setattr__")
 ga:findIn K (.ref C) "__getattribute__"=some (some<|.builtin "BaseException.__getattribute__")
 gr:findIn K (.ref C) "__getattr__"=some none
structure KC(K:Frag)(C:Tl):Prop where
 ha:findIn K (.ref C) "__class__"=some (some<|.builtin "object.__class__")
 hn:specialIn K (.builtin "object.__class__") "__get__"=some (some<|.builtin "getset_descriptor.__get__")
 htk:takesIn K (.builtin "object.__class__")=some true
def vw(T:String):Bool:=T == "bool" || T == "int" || T == "str" || T == "list" || T == "tuple" || T == "dict"
structure XQ(K:Frag)(C:Tl)(x:Str):Prop where
 ns:nsIn K mainGlobals x=some (some<|.ref C)
 xc:∃D fI,XC K C D fI
 kc:KC K C
 no:∀T,vw T=true->kitOne K (.ref C) (.type T)=some false
noncomputable def FX(F:Hp)(dd:SL Tl)(fv:Re (Str×V)):Prop:=(dd=none/\fv=[])\/∃dx,dd=some dx/\F dx=some (.ext<|bT dx fv)
theorem FX.mono{F F':Hp}{dd:SL Tl}{fv:Re (Str×V)}(e:c_ F F')(h:FX F dd fv):FX F' dd fv:=h.imp id λ⟨dx,h1,h2⟩=>{dx,h1,e _ _ h2}
end L4
namespace L3
open PySem PySem.Spec PyProof.Rows L2
variable {F H F':Hp}{v:V}{vs:Re V}{p:Tl}{o:HO}{Z:L2.St}
abbrev D:=PyData
abbrev Fg:=PySem.W.Frag
noncomputable def N_:Key->D
 | .inl i=>.int i
 | .inr x=>.str x
def cY(k:Re Key):D:=.tuple<|k.map N_
mutual
inductive Rep(K:Fg)(F:Hp):V->D->Prop
 | Rq:Rep K F .Rq .none
 | bl (b):Rep K F (.bl b) (.bool b)
 | int (i):Rep K F (.int i) (.int i)
 | str (x):Rep K F (.str x) (.str x)
 | tup {a vs ds}:F a=some (.tup vs)->h_ K F vs ds->Rep K F (.ref a) (.tuple ds)
 | lst {a vs ds}:Ro K F a vs->h_ K F vs ds->Rep K F (.ref a) (.list ds)
 | Vu {a ob kvs es}:F a=some (.Rm ob<|.dT kvs)->es.map (·.1)=kvs.map (λp=>cY p.1)->h_ K F (kvs.map (·.2)) (es.map (·.2))->Rep K F (.ref a) (.dict es)
 | ZI {a kvs es}:F a=some (.dK kvs)->es.map (·.1)=kvs.map (λp=>N_ p.1)->h_ K F (kvs.map (·.2)) (es.map (·.2))->Rep K F (.ref a) (.dict es)
 | exc {a C dd cl fv es}:F a=some (.ext<|L4.XO a C dd)->L4.XQ K C cl->L4.FX F dd fv->es.map (·.1)=fv.map (λp=>.str p.1)->h_ K F (fv.map (·.2)) (es.map (·.2))->Rep K F (.ref a) (.dict<|(.none,.str cl)::es)
 | fn {a f}:PySem.W.nsIn K mainGlobals f=some (some<|.ref a)->Rep K F (.ref a) (.dict [(.bool true,.str f)])
inductive h_(K:Fg)(F:Hp):Re V->Re D->Prop
 | nil:h_ K F [] []
 | cons {v d vs ds}:Rep K F v d->h_ K F vs ds->h_ K F (v::vs) (d::ds)
end
def Ug{K:Fg}{a:Tl}{xs:Re V}(e:c_ F F')(h:A_ K F a xs):A_ K F' a xs:=by
 rcases h with (h|⟨o,h⟩)|h
 ·exact .inl<|.inl<|e _ _ h
 ·exact .inl<|.inr {o,e _ _ h}
 ·exact .inr h
@[grind →] theorem Rep.mono{K:Fg}(e:c_ F F'){d:D}(h:Rep K F v d):Rep K F' v d :=
 Rep.rec   .Rq .bl .int .str (λh _ r=>.tup (e _ _ h) r) (λh _ r=>.lst (e.seq h) r) (λh k _ r=>.Vu (e _ _ h) k r) (λh k _ r=>.ZI (e _ _ h) k r) (λh q f k _ r=>.exc (e _ _ h) q (f.mono e) k r) (λh=>.fn h) .nil (λ_ _ a b=>.cons a b) h
@[grind →] theorem h_.mono{K:Fg}(e:c_ F F'){ds:Re D}(h:h_ K F vs ds):h_ K F' vs ds:=by
 induction vs generalizing ds with
 | nil=>cases h;exact .nil
 | cons v vs ih=>cases h with
  | cons a b=>exact .cons (a.mono e)<|ih b
def dE(K:Fg)(F:Hp):D->V->Prop
 | .none,v=>v=.Rq
 | .bool b,v=>v=.bl b
 | .int i,v=>v=.int i
 | .str x,v=>v=.str x
 | .tuple ds,v=>∃a vs,v=.ref a/\F a=some (.tup vs)/\h_ K F vs ds
 | .list ds,v=>∃a vs,v=.ref a/\Ro K F a vs/\h_ K F vs ds
 | _,_=>True
theorem Rep.inv{K:Fg}{d:D}(h:Rep K F v d):dE K F d v :=
 Rep.casesOn  h rfl ?T ?T ?T (λh r=>{_,_,rfl,h,r}) (λh r=>{_,_,rfl,h,r}) (λ_ _ _=>True.intro) (λ_ _ _=>True.intro) (λ_ _ _ _ _=>True.intro) λ_=>True.intro
theorem Rep.int_inv{K:Fg}{i:Int}(h:Rep K F v (.int i)):v=.int i:=h.inv
theorem Rep.bool_inv{K:Fg}{i:Bool}(h:Rep K F v (.bool i)):v=.bl i:=h.inv
theorem Rep.str_inv{K:Fg}{i:Str}(h:Rep K F v (.str i)):v=.str i:=h.inv
def Rep.Q9{K:Fg}{ds:Re D}(h:Rep K F v (.tuple ds)):∃a vs,v=.ref a/\F a=some (.tup vs)/\h_ K F vs ds:=h.inv
theorem Rep.lst_inv{K:Fg}{ds:Re D}(h:Rep K F v (.list ds)):∃a vs,v=.ref a/\Ro K F a vs/\h_ K F vs ds:=h.inv
def wQ(K:Fg)(F:Hp):Re D->Re V->Prop
 | [],vs=>vs=[]
 | d::ds,vs=>∃v us,vs=v::us/\Rep K F v d/\h_ K F us ds
theorem h_.inv{K:Fg}{ds:Re D}(h:h_ K F vs ds):wQ K F ds vs :=
 h_.casesOn  h rfl λa b=>{_,_,rfl,a,b}
def h_.Tf{K:Fg}{d:D}(h:h_ K F vs [d]):∃v,vs=[v]/\Rep K F v d:=by
 let{v,us,rfl,a,b}:=(h.inv);obtain rfl:us=[]:=b.inv;exact{v,rfl,a}
def h_.Ul{K:Fg}{d e:D}(h:h_ K F vs [d,e]):∃v u,vs=[v,u]/\Rep K F v d/\Rep K F u e:=by
 let{v,us,rfl,a,b}:=(h.inv);let{u,rfl,c}:=b.Tf
 grind
theorem h_.length{K:Fg}:∀{vs ds},h_ K F vs ds->vs.length=ds.length
 | _,_,.nil=>rfl
 | _,_,.cons _ r=>by simp[h_.length r]
theorem h_.get{K:Fg}:∀{vs ds} {i:Nat} {d:D},h_ K F vs ds->ds[i]? = some d->∃v,vs[i]? = some v/\Rep K F v d
 | _,_,_,_,.nil,e=>by simp at e
 | _,_,0,_,.cons h _,e=>by grind
 | _,_,i+1,d,.cons _ r,e=>by
  let{v,h1,h2}:=h_.get   r<|(e)
  grind
theorem h_.append{K:Fg}{ds:Re D}{us:Re V}{es:Re D}(h:h_ K F vs ds)(s:h_ K F us es):h_ K F (vs++us) (ds++es):=by
 induction vs generalizing ds with
 | nil=>cases h;exact s
 | cons v vs ih=>cases h with
  | cons a b=>exact .cons a<|ih b
theorem h_.take{K:Fg}:∀{vs ds} (n:Nat),h_ K F vs ds->h_ K F (vs.take n) (ds.take n)
 | _,_,0,_=>.nil
 | _,_,_+1,.nil=>.nil
 | _,_,n+1,.cons h r=>.cons h<|h_.take n r
theorem h_.drop{K:Fg}:∀{vs ds} (n:Nat),h_ K F vs ds->h_ K F (vs.drop n) (ds.drop n)
 | _,_,0,r=>r
 | _,_,_+1,.nil=>.nil
 | _,_,n+1,.cons _ r=>h_.drop n r
theorem h_.set{K:Fg}{d:D}(h:Rep K F v d):∀{vs ds} (i:Nat),h_ K F vs ds->h_ K F (vs.set i v) (ds.set i d)
 | _,_,_,.nil=>.nil
 | _,_,0,.cons _ r=>.cons h r
 | _,_,i+1,.cons q r=>.cons q<|h_.set h i r
theorem h_.ints{K:Fg}:∀(ns:Re Int),h_ K F ?jG ?jf
 | []=>.nil
 | n::r=>.cons (.int n)<|h_.ints r
section
variable {X:Cx} {pins:w_} {s:Tk}
def EP{u:Re SZ}(r:Vals [] u):∃as,ReadsAll s.heap u [] as:=by cases r;exact{_,.nil}
def TP{d:D}{ds:Re D}(h:d.canLay0=true->∀{u},RelV v u->∃as,Reads s.heap u d as)(t:PyData.canLayAll0 ds=true->∀{us},Vals vs us->∃as,ReadsAll s.heap us ds as)(c:PyData.canLayAll0 (d::ds)=true){us:Re SZ}(r:Vals (v::vs) us):∃as,ReadsAll s.heap us (d::ds) as:=by
 simp  [PyData.canLayAll0,am]at c
 cases r with
 | cons r rr =>
  let{as,ra}:=h c.1 r;let{bs,rb}:=t c.2 rr;exact{_,.cons ra rb}
def CD(I:Inv X pins Z H s){a:Tl}{ds:Re D}(hq:H a=some (.tup vs))(ih:PyData.canLayAll0 ds=true->∀{us},Vals vs us->∃as,ReadsAll s.heap us ds as)(c:(PyData.tuple ds).canLay0=true){u:SZ}(r:RelV (.ref a) u):∃as,Reads s.heap u (.tuple ds) as:=by
 cases r
 let{i_,rv,{o,e1,e2,n',e3},hz}:=I.tuple<|A_.of hq;let{as,ra}:=ih (by simpa[PyData.canLay0]using c) rv;exact{_,.tuple e1 e2 e3<|(ra)}
def CG(I:Inv X pins Z H s){a:Tl}{ds:Re D}(hq:Ro X.K H a vs)(ih:PyData.canLayAll0 ds=true->∀{us},Vals vs us->∃as,ReadsAll s.heap us ds as)(c:(PyData.list ds).canLay0=true){u:SZ}(r:RelV (.ref a) u):∃as,Reads s.heap u (.list ds) as:=by
 cases r
 let{i_,rv,{o,n',e1,e2,e3,e4},hz}:=I.list hq;let{as,ra}:=ih (by simpa[PyData.canLay0]using c) rv;exact{_,.list e1 e2 e4<|(ra)}
def AP{es:Re ?M}{P:Prop}(c:(PyData.dict es).canLay0=true):P:=by simp[PyData.canLay0]at c
def EB(I:Inv X pins Z H s){d:D}(h:Rep X.K H v d):d.canLay0=true->∀{u},RelV v u->∃as,Reads s.heap u d as :=
 Rep.rec
  (λ_ {_} r=>by cases r;exact{_,.none}) (λb _ {_} r=>by cases r;exact{_,.bool b}) (λi _ {_} r=>by let{t,rfl}:=r;exact{_,.int i t}) (λx _ {_} r=>by let{t,rfl}:=r;exact{_,.str x t})
  (λhq _ ih=>CD I hq ih) (λhq _ ih=>CG I hq ih) (λ_ _ _ _ c=>AP c) (λ_ _ _ _ c=>AP c) (λ_ _ _ _ _ _ c=>AP c) (λ_ c=>AP c)
  (λ_ {_} r=>EP r) (λ_ _ a b=>TP a b) h
def Kr(I:Inv X pins Z H s){ds:Re D}(h:h_ X.K H vs ds):PyData.canLayAll0 ds=true->∀{us},Vals vs us->∃as,ReadsAll s.heap us ds as:=by
 induction vs generalizing ds with
 | nil=>cases h;exact λ_ _ r=>EP r
 | cons v vs ih=>cases h with
  | cons a b=>exact TP (EB I a)<|ih b
end
def SP{X:Cx}{pins:w_}{s:Tk}(I:Inv X pins Z H s) :
  (∀{v d},Rep X.K H v d->d.canLay0=true->∀{u},RelV v u->∃as,Reads s.heap u d as)/\(∀{vs ds},h_ X.K H vs ds->PyData.canLayAll0 ds=true->∀{us},Vals vs us->∃as,ReadsAll s.heap us ds as) :=
 {λ{v d} h c {u} r=>EB I h c r,λ{vs ds} h c {us} r=>Kr I h c r}
def sL:Re ?M->Bool
 | (.none,_)::_=>true
 | (.bool _,_)::_=>true
 | _=>false
def isFn:D->Bool
 | .dict ((.bool _,_)::_)=>true
 | _=>false
inductive NK where
 | b (b:Bool)
 | t (p:Int) (rs:Re (Re Int))
deriving DecidableEq
def bw(l:Re Int):Int:=PySem.reduceHash<|PySem.Builtin.Tuple.tupleHashOf l
def NK.hash:NK->Int
 | .b x=>PySem.hashInt<|if x then 1 else 0
 | .t p rs=>bw [PySem.hashInt p,bw (rs.map λr=>bw<|r.map PySem.hashInt)]
noncomputable def WG(F:Hp):NK->SZ->Prop
 | .b b,v=>v=.bool b
 | .t p rs,v=>∃c e bs,v=.ref c/\F c=some (.tup [.int p,.ref e])/\F e=some (.tup<|bs.map V.ref)/\Paired (λr b=>F b=some (.tup<|r.map V.int)) rs bs
theorem WG.mono{n:NK}{v:SZ}(s:c_ F F')(h:WG F n v):WG F' n v:=by
 cases n with
 | b b=>exact h
 | t p rs=>let{c,e,bs,h1,h2,h3,h4}:=h;exact{c,e,bs,h1,s _ _ h2,s _ _ h3,Paired.Z7 h4 λr b q=>s _ _ q}
def nkE(x:NK×SZ×SZ):DictEntry:={x.1.hash,x.2.1,x.2.2}
def cJ(a:Tl)(o:Obj)(xs:Re (NK×SZ×SZ)):Prop:=?jV=false/\o.ExactDict/\(∃es ep,o.data=.dict es ep/\es.toList=xs.map nkE)/\(xs.map (·.1)).Nodup/\xs.length<=sizeLine/\∀(i:Nat) x,xs[i]? = some x->∃t,x.2.2=.int i t
inductive OC where
 | l (ds:Re D)
 | t (es:Re (D×D))
 | k (es:Re (D×D))
 | i (x:Str) (ns:Re Str) (ds:Re D)
 | n (ns:Re NK)
noncomputable def OC.Wu:OC->Bool
 | .t _=>true
 | _=>false
def OC.isI:OC->Bool
 | .i _ _ _=>true
 | .n _=>true
 | _=>false
inductive AV where
 | fz (d:D)
 | ol (c:OC)
 | op (c:OC)
abbrev En:=Re<|SL AV
inductive RV where
 | fz (d:D)
 | fr (c:OC)
 | bor (i:Nat)
def dI:HO->Prop
 | .tup _=>False
 | .ext _=>False
 | _=>True
structure Gh where
 P:Nat->SL Tl
 O:Hp
 B:Hp
noncomputable def Rv(K:Fg)(F H:Hp)(a:Tl):OC->Prop
 | .l ds=>∃vs,H a=some (.lst vs)/\h_ K F vs ds
 | .t es=>∃kvs,H a=some (.dT kvs)/\es.map (·.1)=kvs.map ?qg/\h_ K F (kvs.map (·.2)) (es.map (·.2))
 | .k es=>∃kvs,H a=some (.dK kvs)/\es.map (·.1)=kvs.map (λp=>N_ p.1)/\h_ K F (kvs.map (·.2)) (es.map (·.2))
 | .i x ns ds=>∃C dx fs,H a=some (.ins C dx fs)/\PySem.W.nsIn K mainGlobals x=some (some<|.ref C)/\fs.map (·.1)=ns/\h_ K F (fs.map (·.2)) ds
 | .n ns=>∃o xs,H a=some (.obj o)/\cJ a o xs/\xs.map (·.1)=ns/\∀x∈xs,WG F x.1 x.2.1
@[grind] structure WE(K:Fg)(G:Gh)(F H:Hp)(a:Tl)(c:OC):Prop where
 nf:F a=none
 no:G.O a=none
 he:Rv K F H a c
@[grind] def own(ρ:En)(i:Nat)(c:OC):Prop:=ρ[i]? = some (some<|.ol c)\/ρ[i]? = some (some<|.op c)
@[grind] structure b_(K:Fg)(G:Gh)(F:Hp)(Z:L2.St)(H:Hp)(ρ:En):Prop where
 fh:c_ F H
 oh:c_ G.O H
 fo:∀b o,G.O b=some o->F b=none/\dI o
 ln:Z.length=ρ.length
 fz:∀(i:Nat) (d:D),ρ[i]? = some (some<|AV.fz d)->∃v,Z[i]? = some (some v)/\Rep K F v d
 ow:∀(i:Nat) (c:OC),own ρ i c->∃a:Tl,Z[i]? = some (some ?qB)/\WE K G F H a c
 dj:∀(i j:Nat) (c e:OC) (a:Tl),own ρ i c->own ρ j e->Z[i]? = some (some ?qB)->Z[j]? = some (some ?qB)->i=j
 pp:∀(i:Nat) (a:Tl),G.P i=some a->Z[i]? = some (some ?qB)/\∃c,ρ[i]? = some (some<|AV.op c)
 pq:∀(i:Nat) (c:OC),ρ[i]? = some (some<|AV.op c)->∃a,G.P i=some a
 fb:c_ G.B F
noncomputable def RVR(K:Fg)(G:Gh)(F:Hp)(Z:L2.St)(H:Hp)(ρ:En)(v:V):RV->Prop
 | .fz d=>Rep K F v d
 | .fr c=>∃a,v=.ref a/\WE K G F H a c/\∀(i:Nat) (e:OC),own ρ i e->Z[i]? ≠ some (some ?qB)
 | .bor i=>∃c,own ρ i c/\Z[i]? = some (some v)
@[grind →] theorem Rv.mono{K:Fg}{a:Tl}{c:OC}(e:c_ F F')(h:Rv K F H a c):Rv K F' H a c:=by
 cases c with
 | l ds=>let{vs,h1,h2}:=h;exact{vs,h1,h2.mono e}
 | t es=>let{vs,h1,h2,h3}:=h;exact{vs,h1,h2,h3.mono e}
 | k es=>let{vs,h1,h2,h3}:=h;exact{vs,h1,h2,h3.mono e}
 | i x ns ds=>let{C,dx,fs,h1,h2,h3,h4}:=h;exact{C,dx,fs,h1,h2,h3,h4.mono e}
 | n ns=>let{o,xs,h1,h2,h3,h4}:=h;exact{o,xs,h1,h2,h3,λx m=>(h4 x m).mono e}
@[grind →] theorem Rv.some{K:Fg}{a:Tl}{c:OC}(h:Rv K F H a c):∃o,H a=some o:=by
 cases c with
 | l ds=>let{vs,h1,h2}:=h;exact{_,h1}
 | t es=>let{vs,h1,h2}:=h;exact{_,h1}
 | k es=>let{vs,h1,h2}:=h;exact{_,h1}
 | i x ns ds=>let{C,dx,fs,h1,_}:=h;exact{_,h1}
 | n ns=>let{o,xs,h1,_}:=h;exact{_,h1}
theorem Rv.at{K:Fg}{H':Hp}{a:Tl}{c:OC}(h:Rv K F H a c)(e:H' a=H a):Rv K F H' a c:=by
 cases c with
 | l ds=>let{vs,h1,h2}:=h;exact{vs,e.trans h1,h2}
 | t es=>let{vs,h1,h2}:=h;exact{vs,e.trans h1,h2}
 | k es=>let{vs,h1,h2}:=h;exact{vs,e.trans h1,h2}
 | i x ns ds=>let{C,dx,fs,h1,h2}:=h;exact{C,dx,fs,e.trans h1,h2}
 | n ns=>let{o,xs,h1,h2}:=h;exact{o,xs,e.trans h1,h2}
def PE(h:F p=none):c_ F (upd F p o):=λb u e=>by
 rw[G_<|At e h];exact e
def PT(s:c_ F H)(h:F p=none):c_ F (upd H p o):=λb u e=>by
 rw[G_<|At e h];exact s b u e
section
variable {K:Fg} {G:Gh} {ρ:En}
theorem b_.lay(S:b_ K G F Z H ρ)(hp:H p=none):b_ K G F Z (upd H p o) ρ:=by
 have fp:=S.fh.free hp;have op:=S.oh.free hp;refine{PT S.fh fp,PT S.oh op,S.fo,S.ln,S.fz,λi c h=>?_,S.dj,S.pp,S.pq,S.fb};let{a,e,oa}:=S.ow i c h;refine{a,e,oa.nf,oa.no,oa.he.at ?_}
 grind
theorem b_.fresh_ne(S:b_ K G F Z H ρ)(hp:H p=none):∀(i:Nat) (e:OC),own ρ i e->Z[i]? ≠ some (some<|V.ref p):=λi e h q=>by
 let{a,e1,oa}:=S.ow i e h;rw[e1]at q;injection q with q;injection q with q;injection q with q;subst q;let{u,hu}:=oa.he.some;rw[hp]at hu;cases hu
theorem b_.freeze(S:b_ K G F Z H ρ){a:Tl}(ha:H a=some o)(fa:F a=none)(oa:G.O a=none)(ne:∀(i:Nat) (e:OC),own ρ i e->Z[i]? ≠ some (some ?qB)):b_ K G (upd F a o) Z H ρ:=by
 have sm:c_ F (upd F a o):=PE fa;refine{λb u e=>?_,S.oh,λb u e=>?_,S.ln,λi d h=>?_,λi c h=>?_,S.dj,S.pp,S.pq,S.fb.trans sm}
 ·grind
 ·grind
 ·grind
 grind
def b_.R_(S:b_ K G F Z H ρ){ds:Re D}(hp:H p=none)(r:h_ K F vs ds) :
  c_ F (upd F p<|.tup vs)/\b_ K G (upd F p<|.tup vs) Z (upd H p<|.tup vs) ρ/\Rep K (upd F p<|.tup vs) (.ref p) (.tuple ds):=by
 have fp:=S.fh.free hp;refine{PE fp,(S.lay hp).freeze UQ fp (S.oh.free hp)<|S.fresh_ne hp,?_};exact .tup UQ<|r.mono<|PE fp
def b_.M_(S:b_ K G F Z H ρ){ds:Re D}(hp:H p=none)(r:h_ K F vs ds) :
  b_ K G F Z (upd H p<|.lst vs) ρ/\RVR K G F Z (upd H p<|.lst vs) ρ (.ref p) (.fr<|.l ds) :=
 {S.lay hp,p,rfl,{S.fh.free hp,S.oh.free hp,vs,UQ,r},S.fresh_ne hp}
theorem b_.settle(S:b_ K G F Z H ρ){ds:Re D}(r:RVR K G F Z H ρ v (.fr<|.l ds)) :
  ∃F',c_ F F'/\b_ K G F' Z H ρ/\Rep K F' v (.list ds):=by
 let{a,rfl,oa,ne}:=r;let{vs,h1,h2}:=oa.he;exact{upd F a<|.lst vs,PE oa.nf,S.freeze h1 oa.nf oa.no ne,.lst (.inl<|.inl UQ)<|h2.mono<|PE oa.nf}
def PW{α:Type}(l:Re α)(i:Nat)(x y:α)(h:l[i]? = some y):(l.set i x)[i]? = some x:=by
 rw[gs (List.getElem?_eq_some_iff.mp h).1]
def OC.d:OC->D
 | .l ds=>.list ds
 | .t es=>.dict es
 | .k es=>.dict es
 | .i _ _ _=>.none
 | .n _=>.none
def Bz{a:Tl}{c:OC}(hI:c.isI=false)(hT:c.Wu=false)(h:Rv K F H a c):∃o,H a=some o/\∀F',c_ F F'->F' a=some o->Rep K F' (.ref a) c.d:=by
 cases c with
 | l ds=>let{vs,h1,h2}:=h;exact{_,h1,λF' s e=>.lst (.inl<|.inl e)<|h2.mono s}
 | t es=>cases hT
 | k es=>let{vs,h1,h2,h3}:=h;exact{_,h1,λF' s e=>.ZI e h2<|h3.mono s}
 | i x ns ds=>cases hI
 | n ns=>cases hI
def b_.YC(S:b_ K G F Z H ρ){i:Nat}{oc:OC}(hI:oc.isI=false)(hT:oc.Wu=false)(hi:ρ[i]? = some (some<|.ol oc))(hv:Z[i]? = some (some v)) :
  ∃F',c_ F F'/\b_ K G F' Z H (ρ.set i<|some<|.fz oc.d)/\Rep K F' v oc.d/\∀b,v=.ref b->F' b=H b:=by
 let{a,e,oa}:=S.ow i _<|.inl hi;rw[hv]at e;injection e with e;injection e with e;subst e;let{vo,h1,zbd}:=Bz hI hT oa.he;have sm:c_ F (upd F a vo):=PE oa.nf;have rp:=zbd _ sm UQ;have ne:∀j,j≠i->(ρ.set i<|some<|.fz oc.d)[j]? = ρ[j]?:=λj hj=>eT<|Ne.symm hj
 have zbo:(ρ.set i<|some<|.fz oc.d)[i]? = some (some<|.fz oc.d):=PW _ _ _ _ hi;have Z3:∀j c,own (ρ.set i<|some<|.fz oc.d) j c->j≠i/\own ρ j c:=λj c h=>by
  have hj:j≠i:=by
   rintro rfl;let h||h:=h<;>(rw[zbo]at h;cases h)
  refine{hj,?_};let h||h:=h
  ·exact .inl (by rw[<-ne j hj];exact h)
  ·exact .inr (by rw[<-ne j hj];exact h)
 refine{upd F a vo,sm,{λb u e=>?_,S.oh,λb u e=>?_,by simpa using S.ln,λj d h=>?_,λj c h=>?_,λj k c e b h1 h2=>S.dj j k c e b (Z3 j c h1).2 (Z3 k e h2).2,λj b h=>?_,λj c h=>?_,S.fb.trans sm},rp,λb e=>by cases e;rw[UQ,h1]}
 ·grind
 ·grind
 ·grind
 ·let{hj,h'}:=Z3 j c h;let{b,e,ob}:=S.ow j c h';refine{b,e,?_,ob.no,ob.he.mono sm};rw[G_ (λz=>hj (S.dj j i _ _ a h' (.inl hi) (by rw[e,z]) hv))];exact ob.nf
 ·grind
 grind
def b_.YD(S:b_ K G F Z H ρ){i:Nat}{oc:OC}(hI:oc.isI=false)(hT:oc.Wu=false)(hi:ρ[i]? = some (some<|.ol oc))(hv:Z[i]? = some (some v)) :
  ∃F',c_ F F'/\b_ K G F' Z H (ρ.set i<|some<|.fz oc.d)/\Rep K F' v oc.d:=let ⟨F',a,b,c,_⟩:=S.YC hI hT hi hv;{F',a,b,c}
theorem b_.store(S:b_ K G F Z H ρ){j:Nat}{av:AV}(hj:∀c,ρ[j]? ≠ some (some<|.op c))(hl:j<ρ.length)
  (h:(∃d,av=.fz d/\Rep K F v d)\/∃c,av=.ol c/\RVR K G F Z H ρ v (.fr c)):b_ K G F (Z.set j<|some v) H (ρ.set j<|some av):=by
 have hls:j<Z.length:=by rw[S.ln];exact hl
 have ne:∀i,i≠j->(ρ.set j<|some av)[i]? = ρ[i]?:=λi hi=>eT<|Ne.symm hi
 have nes:∀i,i≠j->(Z.set j<|some v)[i]? = Z[i]?:=λi hi=>eT<|Ne.symm hi
 have atj:(ρ.set j<|some av)[j]? = some (some av):=gs hl;have zbv:(Z.set j<|some v)[j]? = some (some v):=gs hls;have WL:∀i c,i≠j->own (ρ.set j<|some av) i c->own ρ i c:=λi c hi h=>by
  unfold own at h ⊢;rw[ne i hi]at h;exact h
 refine{S.fh,S.oh,S.fo,by simpa using S.ln,λi d q=>?_,λi c q=>?_,λi k c e a q1 q2 e1 e2=>?_,λi a q=>?_,λi c q=>?_,S.fb}
 ·grind
 ·by_cases hi:i=j
  ·let{d',rfl,r}||{c',rfl,a,rfl,oa,_}:=h
   ·grind
   grind
  grind
 ·by_cases hi:i=j
  ·by_cases hk:k=j
   ·rw[hi,hk]
   ·subst hi;let{d',rfl,r}||{c',rfl,a',e,oa,nn}:=h
    ·grind
    grind
  ·by_cases hk:k=j
   ·subst hk;let{d',rfl,r}||{c',rfl,a',e,oa,nn}:=h
    ·grind
    grind
   grind
 ·grind
 grind
theorem b_.change(S:b_ K G F Z H ρ){j:Nat}{a:Tl}{c c':OC}(hj:own ρ j c)(ha:Z[j]? = some (some<|.ref a))(hh:Rv K F (upd H a o) a c') :
  b_ K G F Z (upd H a o) (ρ.set j<|(ρ[j]?.join).map fun | .op _=>.op c'|_=>.ol c'):=by
 let{b,e,ob}:=S.ow j c hj;rw[ha]at e;injection e with e;injection e with e;injection e with e;subst e;generalize hav:((ρ[j]?.join).map λ(x)=>match x with | .op _=>AV.op c'|_=>AV.ol c')=av;have ne:∀i,i≠j->(ρ.set j av)[i]? = ρ[i]?:=λi hi=>eT<|Ne.symm hi
 have WL:∀i e,i≠j->own (ρ.set j av) i e->own ρ i e:=λi c hi h=>by
  unfold own at h ⊢;rw[ne i hi]at h;exact h
 refine{PT S.fh ob.nf,PT S.oh ob.no,S.fo,by simpa using S.ln,λi d q=>?_,λi e q=>?_,λi k c1 e1 b q1 q2=>?_,λi b q=>?_,λi e q=>?_,S.fb}
 ·grind
 ·by_cases hi:i=j
  ·grind
  ·have q':=WL i e hi q;let{b',e',YK}:=S.ow i e q';refine{b',e',YK.nf,YK.no,YK.he.at (G_ λz=>hi (S.dj i j _ _ a q' hj (by rw[e',z]) ha))}
 ·grind
 ·grind
 grind
end
end L3
namespace L4
open PySem PySem.Spec PyProof.Rows L2 L3
variable {Q:Unit->Tk->Prop}{A:UV}{s:Tk}{base:Wp}{outer:Re Env}{e:Tl}{H:Hp}{P:TD}{w:TW}
def yS(h:Wp)(e b:Tl):Prop:=∃oe vs,h.get? e=some oe/\oe.data=.fields vs/\vs[1]? = some (.ref b)
structure Ent(fs:Re Tl)(h h':Wp)(e T:Tl)(oe:Obj)(ts:UF SZ):Prop where
 keep:∀b o,h.get? b=some o->b∉fs->b≠e->h'.get? b=some o
 slot:∀b o,h.get? b=some o->b≠e->∃sl,h'.get? b=some { o with slots:=sl }
 new:h.objs.size<=T
 exc:h'.get? e=some (oe.mapFields (·.setIfInBounds 1<|.ref T))
 way:∃oT,h'.get? T=some oT/\oT.data=.fields ts
section
variable {M:Model} {E:t_} {env:Env} {L:Tl} {oe:Obj} {vs:UF SZ}
def PA{top:SZ}{nx:Bool}(hA:A.frames=some (env::outer))(hF:s.heap.FunFrames base (env::outer))(hL:env.frame=some L)
  (he:s.heap.get? e=some oe) (hd:oe.data=.fields vs) (hz:1<vs.size)
  (k:∀h' T ts,Ent (cU<|env::outer) s.heap h' e T oe ts->3<ts.size->ts[3]? = some (rawInt L)->Q () { s with heap:=h' }) :
  wpAny M A (do let a <-frameOf env;let pl <-entryPlaceOf L nx;let b <-EntryCells.newEntry top a .none (rawInt L) .none pl;setField (.ref e) 1 b) Q E s:=by
 have ne:e∉cU (env::outer):=λz=>by
  let{_,o,q,r}:=hF.mem z
  grind
 refine f_<|wpAny_frameOf_fun hA hF hL λh1 so=>f_<|wpAny_entryPlaceOf λpl ip=>?_;refine f_<|io ?_<|ip.sizeOk5 _ _ _ _ _;generalize hts:([top,.ref L,.none,rawInt L,.none]++(if pl.isEmpty then List.replicate 6 Value.none else pl)).toArray=ts;have z3:3<ts.size:=by
  grind
 have g3:ts[3]? = some (rawInt L):=by rw[<-hts];simp
 generalize htb:({ cls:=.type "traceback",dict:=none,data:=.fields ts }:Obj)=tb;have fr:tb.isFreed=false:=by rw[<-htb];rfl
 have e1:h1.get? e=some oe:=by rw[so.2.1 e ne];exact he
 have lt:=bj e1;refine nz (v_ tb e1) hd hz ?_;have hd':=r9 hd (·.setIfInBounds 1<|Value.ref h1.objs.size);have up:∀b,b≠e->((h1.push tb).update e (Obj.mapFields (·.setIfInBounds 1<|.ref h1.objs.size))).get? b=(h1.push tb).get? b:=λb hb=>aZ _ _<|Ne.symm hb
 refine k _ h1.objs.size ts {λb o q nf nb=>?_,λb o q nb=>?_,by rw[so.1];exact ai _,?_,{tb,?_,?_}} z3 g3
 ·exact(up b nb).trans<|v_ _<|(so.2.1 b nf).trans q
 ·let{sl,q'}:=so.2.2 b o q;exact{sl,(up b nb).trans<|v_ _ q'}
 ·exact xv _ (v_ tb e1)<|jH hd'
 ·exact(up _<|wE lt).trans<|cN h1 fr
 ·rw[<-htb]
end
structure XS(H:Hp)(h:Wp)(lo:Nat)(e C:Tl)(dd:SL Tl):Prop where
 yg:lo<=e
 Ye:H e=some (.ext<|XO e C dd)
 obj:∃oe vs,h.get? e=some oe/\oe.cls=.ref C/\oe.dict=dd/\oe.data=.fields vs/\1<vs.size /\
  (vs[1]? = some .none\/∃T oT ts,vs[1]? = some (.ref T)/\T≠e/\lo<=T/\H T=none/\h.get? T=some oT/\oT.data=.fields ts/\ts[3]? = some .none)
structure Mv(fs:Re Tl)(h h':Wp)(e:Tl):Prop where
 keep:∀b o,h.get? b=some o->b∉fs->b≠e->¬ yS h e b->h'.get? b=some o
 slot:∀b o,h.get? b=some o->b≠e->¬ yS h e b->∃sl,h'.get? b=some { o with slots:=sl }
 there:∀b o,h.get? b=some o->∃o',h'.get? b=some o'
def BV(f:UF SZ->UF SZ)(o:Obj):(o.mapFields f).dict=o.dict:=by
 let{c,d,dt,sl}:=o
 cases dt<;>rfl
section
variable {M:Model} {E:t_} {env:Env} {L C:Tl} {dd:SL Tl} {lo:Nat}
def PS{oe:Obj}{vs:UF SZ}{h0:Wp}{T:Tl}{ts:UF SZ}(en:Ent (cU<|env::outer) h0 s.heap e T oe ts)(hd:oe.data=.fields vs)(hz:1<vs.size)(z3:3<ts.size)(hh:e<h0.objs.size)
  (k:∀h',(∀b,b≠T->h'.get? b=s.heap.get? b)->(∃oT tz,h'.get? T=some oT/\oT.data=.fields tz/\tz[3]? = some .none)->Q () { s with heap:=h' }):wpAny M A (setFlight (.ref e) none) Q E s:=by
 let{oT,q1,q2}:=en.way;have d':=r9 hd (·.setIfInBounds 1<|Value.ref T);refine f_ (kw en.exc d' (x:=.ref T) (by simp[hz]) ?_);refine nz q1 q2 z3 (k _ (λb hb=>aZ _ _<|Ne.symm hb) {_,_,xv _ q1<|jH<|r9 q2 _,r9 q2 _,by simp[z3]})
def Fe(hA:A.frames=some (env::outer))(hF:s.heap.FunFrames base (env::outer))(hL:env.frame=some L)(hk:RA P w H s.heap)(xs:XS H s.heap lo e C dd)
  (k:∀h',Mv (cU<|env::outer) s.heap h' e->XS H h' lo e C dd->(∀b,yS h' e b->s.heap.objs.size<=b)->Q () { s with heap:=h' }) :
  wpAny M A (noteFrame (.ref e) env) (λ_ s2=>wpAny M A (setFlight (.ref e) none) Q E s2) E s:=by
 let{oe,vs,he,hc,hdd,hd,hz,tb}:=xs.obj;have elt:e<s.heap.objs.size:=bj he;have hlo:lo<=s.heap.objs.size:=di xs.yg<|gO elt;simp![noteFrame,hL];let tb||{T,oT,ts,tb,hTe,hTl,hTn,hT,hTd,t3}:=tb
 ·refine f_<|kw he hd tb ?_;rw[ba ?C];refine PA hA hF hL he hd hz λh1 T1 t1 en z3 g3=>?_
  refine PS (s:={ s with heap:=h1 }) en hd hz z3 elt λh2 same way=>?_
  have nT:∀b o,s.heap.get? b=some o->b≠T1:=λb o q=>eh<|eg (bj q) en.new
  have d1:=r9 hd (·.setIfInBounds 1<|Value.ref T1);refine k h2 {λb o q nf nb _=>?_,λb o q nb _=>?_,λb o q=>?_} {xs.yg,xs.Ye,_,_,?_,?_,?_,d1,by simpa using hz,.inr ?_} ?_
  ·rw[same b<|nT b o q];exact en.keep b o q nf nb
  ·let{sl,z}:=en.slot b o q nb
   grind
  ·by_cases nb:b=e
   ·subst nb;exact{_,by rw[same _<|nT _ o q];exact en.exc}
   ·let{sl,z}:=en.slot b o q nb
    grind
  ·rw[same e<|nT e _ he];exact en.exc
  ·rw[e8];exact hc
  ·rw[BV];exact hdd
  ·let{o1,tz,w1,w2,w3}:=way;exact{T1,o1,tz,by simp[hz],λz=>nT e _ he z.symm,di hlo en.new,hk.fresh en.new,w1,w2,w3}
  ·intro b ⟨oe',UR,g1,g2,g3⟩;rw[same e<|nT e _ he,en.exc]at g1
   cases g1
   rw[d1]at g2
   cases g2
   have:Value.ref T1=Value.ref b:=by simpa[hz]using g3
   injection this with this;rw[<-this];exact en.new
 ·refine f_<|kw he hd tb ?_;refine f_<|kw hT hTd t3 ?_;have z3':=(Array.getElem?_eq_some_iff.mp t3).1;refine f_<|nz hT hTd z3' ?_;have off:∀b,b≠T->(s.heap.update T (Obj.mapFields (·.setIfInBounds 3 Value.none))).get? b=s.heap.get? b:=λb hb=>aZ _ _<|Ne.symm hb
  have hF':=hF.of_keeps λb o q r=>{o,(off b λz=>by subst z;rw[hT]at q;cases q;exact r ts hTd).trans q,rfl}
  have he':=(off e<|Ne.symm hTe).trans he;have zz:(s.heap.update T (Obj.mapFields (·.setIfInBounds 3 Value.none))).objs.size=s.heap.objs.size:=yp ..;refine PA  hA hF' hL he' hd hz λh1 T1 t1 en z3 g3=>?_
  refine PS  en hd hz z3 (by rw[zz];exact elt) λh2 same way=>?_
  have nw:s.heap.objs.size<=T1:=by have:=en.new;grind
  have nT:∀b o,s.heap.get? b=some o->b≠T1:=λb o q=>eh<|eg (bj q) nw
  have Wu:yS s.heap e T:={oe,vs,he,hd,tb};have nTT:∀b,¬ yS s.heap e b->b≠T:=λb z q=>z<|q▸Wu
  have d1:=r9 hd (·.setIfInBounds 1<|Value.ref T1);have T0:(s.heap.update T (Obj.mapFields (·.setIfInBounds 3 Value.none))).get? T=some (oT.mapFields (·.setIfInBounds 3 Value.none)):=xv _ hT<|jH<|r9 hTd _;refine k h2 {λb o q nf nb nt=>?_,λb o q nb nt=>?_,λb o q=>?_} {xs.yg,xs.Ye,_,_,?_,?_,?_,d1,by simpa using hz,.inr ?_} ?_
  ·rw[same b<|nT b o q];exact en.keep b o ((off b<|nTT b nt).trans q) nf nb
  ·let{sl,z}:=en.slot b o ((off b<|nTT b nt).trans q) nb
   grind
  ·by_cases nb:b=e
   ·subst nb;exact{_,by rw[same _<|nT _ o q];exact en.exc}
   ·by_cases nt:b=T
    ·subst nt;let{sl,z}:=en.slot b _ T0 nb
     grind
    ·let{sl,z}:=en.slot b o ((off b nt).trans q) nb
     grind
  ·rw[same e<|nT e _ he];exact en.exc
  ·rw[e8];exact hc
  ·rw[BV];exact hdd
  ·let{o1,tz,w1,w2,w3}:=way;exact{T1,o1,tz,by simp[hz],λz=>nT e _ he z.symm,di hlo nw,hk.fresh nw,w1,w2,w3}
  ·intro b ⟨oe',UR,g1,g2,g3⟩;rw[same e<|nT e _ he,en.exc]at g1
   grind
def VJ(hA:A.frames=some (env::outer))(hF:s.heap.FunFrames base (env::outer))(hL:env.frame=some L)(hk:RA P w H s.heap)(xs:XS H s.heap lo e C dd)
  (k:∀h',Mv (cU<|env::outer) s.heap h' e->XS H h' lo e C dd->Q () { s with heap:=h' }):wpAny M A (leaving env<|.ref e) Q E s:=by
 exact f_<|Fe hA hF hL hk xs λh' m x _=>k h' m x
end
section
variable {fs:Re Tl} {h h':Wp} {C:Tl} {dd:SL Tl} {lo:Nat}
theorem XO.ok{H':Hp}(x:XO e C dd h):x_ P w H' h e (.ext<|XO e C dd):=by
 let{oe,q,r}:=x;exact{{oe,q,r},{oe,q},λh1 h2 ⟨o,z,r⟩ k=>{o,k o z,r}}
theorem XS.xo(xs:XS H h lo e C dd):XO e C dd h:=by
 let{oe,vs,q,c,d,z,_}:=xs.obj;exact{oe,q,c,d,by unfold PySem.W.notCls;rw[z]}
theorem XS.tb(xs:XS H h lo e C dd){b:Tl}(t:yS h e b):H b=none/\lo<=b/\b≠e/\∃oT ts,h.get? b=some oT/\oT.data=.fields ts:=by
 let{oe,vs,q,c,d,z,_,k}:=xs.obj;let{oe',UR,q',z',k'}:=t;rw[q]at q';cases q';rw[z]at z';cases z';let k||{T,oT,ts,k,ne,l,n,g,gd,_}:=k
 ·rw[k]at k';cases k'
 ·rw[k]at k'
  cases k'
  exact{n,l,ne,oT,ts,g,gd}
theorem Mv.j_(m:Mv fs h h' e)(ok:RA P w H h)(xs:XS H h lo e C dd)(xs':XS H h' lo e C dd)(hf:∀b∈fs,H b=none):RA P w H h':=λa o q=>by
 by_cases ae:a=e
 ·subst ae;rw[xs.Ye]at q;cases q;exact xs'.xo.ok
 ·refine(ok a o q).TU (λb u hb z=>?_) (λ_ z=>z) λ_ _ z=>z
  have hbH:∃v,H b=some v:=by
   grind
  let{v,hv}:=hbH;refine m.keep b u z (λy=>by rw[hf b y]at hv;cases hv) (λy=>?_) λy=>by rw[(xs.tb y).1]at hv;cases hv
  subst y;let rfl||hb:=hb
  ·exact ae rfl
  ·rw[xs.Ye]at hb;cases hb
end
def qL(P:TD)(w:TW):ZN:=λouter H s E e s'=>∃a C dd H',e=.ref a/\s'.os=s.os/\AllBare s'.gens/\Un (cU outer) [] H H' s.heap s'.heap/\RA P w H' s'.heap/\XS H' s'.heap s.heap.objs.size a C dd/\E (.ref C) dd H'
def Ic{K:Fg}{mg:R1}{N:Re Str}{qual:Str}{scope:Scope}{f:Tl}{cd:SZ}{E:XK}
  {pins:w_} {Z:L2.St} {H':Hp} {s':Tk} {a C:Tl} {dd:SL Tl} (I:Inv (mQ (qL P w) P w K mg base N qual scope f cd A outer s H E) pins Z H' s') (xs:XS H' s'.heap s.heap.objs.size a C dd) (hE:E (.ref C) dd H') :
  (mQ (qL P w) P w K mg base N qual scope f cd A outer s H E).xe (.ref a) s':=by
 have hF:=I.stack;have hS:=I.Uo;refine VJ      I.ok.frames hF rfl I.j_ xs λh1 m xs1=>?_
 have un:=I.base;have lt:∀b o,s.heap.get? b=some o->b<s.heap.objs.size:=λb o q=>bj q
 have ne:=λb o q=>eh<|eg (lt b o q) xs.yg
 have nt:∀b o,s.heap.get? b=some o->¬ yS s'.heap a b:=λb o q z=>absurd (eg (lt b o q) (xs.tb z).2.1)<|nu _
 refine{a,C,dd,H',rfl,I.os,I.bare,{λb o q n hb hx=>?_,λb o q n hb hx=>?_,un.free,λb o q hx=>?_,un.Tq,un.Tb,un.TR},m.j_ I.j_ xs xs1 hS,xs1,hE}
 ·refine m.keep b o (un.keep b o q n hb hx) (λz=>?_) (ne b o q)<|nt b o q;rcases List.mem_cons.mp (I.Tr b z)with y|y
  ·exact absurd (lt b o q) (by rw[y];exact nu _)
  ·exact hb y
 ·let{sl,z}:=un.slot b o q n hb hx;let{sl',z'}:=m.slot b _ z (ne b o q)<|nt b o q;exact{sl',z'}
 ·let{o',z}:=un.there b o q hx;exact m.there b o' z
end L4
namespace L4
open PySem PySem.Spec PyProof.Rows L2 L3 PySem.W
variable {C fI:Tl}{K:Frag}{s:Tk}{od:SL Obj}
def LV{D:Tl}(c:XC K C D fI):∃cd,PySem.W.clsIn K C=some cd/\cd.mro=.ref C::.ref D::bmV/\cd.hasDict=true:=by
 let{nm,q,N,bs,sn,sub,ab,col,dd,k0,k1,k2,k3,k5,lk}:=c.obj;refine{_,by unfold PySem.W.clsIn;rw[lk],rfl,rfl}
section
variable {prog:TD} {w:TW} {A:UV} {E:t_} {x:Tl} {ox:Obj}
def IH{Q:SL SZ->Tk->Prop}(X:K.In s.heap)(I:PySem.W.InstAt s.heap x ox C od)(hga:findIn K (.ref C) "__getattribute__"=some (some<|.builtin "BaseException.__getattribute__"))(hgr:findIn K (.ref C) "__getattr__"=some none)(hb:mroIn K C (.type "BaseException")=some true)
  (hf:findObj K C od "__class__"=some (.bind (.builtin "getset_descriptor.__get__")<|.builtin "object.__class__")) (hm:mroIn K C (.type "object")=some true) (h:Q (some<|.ref C) { s with toks:=s.toks+1 }):wpAny ?D A (getAttr? (.ref x) "__class__") Q E s:=by
 let{hp,g,d,t,os}:=s;have L0:=I.type (M:=model prog w);have L1:=looks_findIn (M:=model prog w) X hga;have L2:=looks_findIn (M:=model prog w) X hgr;have L3:=looks_find (M:=model prog w) X I hf;have L4:=looks_mroIn (M:=model prog w) X hb;have bnd:=F.attr_ValueError.ga.bind<|.ref x;have ok:=F.args_bexc_ga (.ref x)<|.str "__class__" t;have kd:builtinKind "BaseException.__getattribute__"=some .slot:=by decide +kernel
 have sp:splitId "BaseException.__getattribute__"=some ("BaseException","__getattribute__"):=by decide +kernel
 unfold getAttr? getAttrBy?;refine f_<|wpAny_mkText<|f_<|zM ?_;unfold getAttrBy;refine um<|f_<|L0.at<|f_<|L1.at ?_;show wpAny _ _ (getAttrByItsOwn _ _ _ _ _ _) _ _ _;unfold getAttrByItsOwn
 repeat (any_goals (first|assumption|with_reducible refine L0.at ?_|with_reducible refine L2.at ?_|wp_step))
 refine codeAny_call_builtin F.attr_ValueError.ga.plain F.entry_bexc_ga ?_;simp;refine f_ ?_;refine f_<|L0.at<|L4.at ?_
 repeat (any_goals (first|assumption|with_reducible refine L0.at ?_|with_reducible refine L3.at ?_|wp_step))
 refine class_get    X I hm ?_;exact l_<|handed_on rfl<|l_ h
def FF{D:Tl}(c:XC K C D fI)(hb:mroIn K C (.type "BaseException")=some true)
  (hf:findObj K C od "__class__"=some (.bind (.builtin "getset_descriptor.__get__")<|.builtin "object.__class__")) (hm:mroIn K C (.type "object")=some true) :
  KitX K (.ref x) (.ref C) (λh=>PySem.W.InstAt h x ox C od) where
 ty:=λ_ _ _ I=>I.type
 it:=λ_ _ X _=>by
  let{nm,q,N,bs,sn,sub,ab,col,dd,k0,k1,k2,k3,k5,ho}:=c.obj;intro A' Q' E' s' k q;exact f_<|wpAny_loadPart (k _ _<|X _ _ ho)<|l_ q
 ne:=λh tp dd i_ n sl X htp=>by
  let{nm,q,N,bs,sn,sub,ab,col,Xh,k0,k1,k2,k3,k5,ho}:=c.obj;refine Bool.eq_false_iff.mpr λq=>?_
  have e:=Value.ref.inj<|beq_iff_eq.mp q;subst e;have z:=(X _ _ ho).symm.trans htp
  grind
 ca:=λX I k=>IH X I c.ga c.gr hb hf hm k
end
noncomputable def XAt(H:Hp)(a C:Tl)(dd:SL Tl):Prop:=H a=some (.ext<|XO a C dd)/\∀dx,dd=some dx->∃fv,H dx=some (.ext<|bT dx fv)
def Il{X:Cx}{pins:w_}{Z:L2.St}{H:Hp}{a:Tl}{dd:SL Tl}(I:Inv X pins Z H s)(h:XAt H a C dd):∃ox od,PySem.W.InstAt s.heap a ox C od:=by
 let{h1,h2}:=h;let{{oe,q1,q2,q3,q4},_}:=I.j_ a _ h1
 cases dd with
 | none=>exact{oe,none,q1,q2,q4,by rw[q3];trivial}
 | some dx =>
  let{fv,h2}:=h2 dx rfl;let{{mA,na,wi,r},_}:=I.j_ dx _ h2;let{od,z1,hlk}:=C3 na;exact{oe,some od,q1,q2,q4,by rw[q3];exact z1}
def Gl{name:Str}{a g:SZ}(hc:(clsIn K C).isSome=true)(ha:findIn K (.ref C) name=some (some a))(hg:specialIn K a "__get__"=some (some g))(ht:takesIn K a=some true):findObj K C od name=some (.bind g a):=by
 let{cd,hc}:=Option.isSome_iff_exists.mp hc;unfold findObj
 grind
section
variable {X:Cx} {pins:w_} {Z:L2.St} {H:Hp} {a D:Tl} {dd:SL Tl} {Q:t_} {E:t_} {b:Bool}
def Oy(c:XC X.K C D fI)(kc:KC X.K C){ox:Obj}:KitX X.K (.ref a) (.ref C) (λh=>PySem.W.InstAt h a ox C od):=by
 let{cd,k1,k2,k3}:=LV c;refine FF c (by unfold PySem.W.mroIn;rw[k1,Option.bind_some,k2];rfl) (Gl (by rw[k1];rfl) kc.ha kc.hn kc.htk) (by unfold PySem.W.mroIn;rw[k1,Option.bind_some,k2];rfl)
def Ot(I:Inv X pins Z H s)(c:XC X.K C D fI)(kc:KC X.K C)(h:XAt H a C dd){cv:SZ}(e:kitOne X.K (.ref C) cv=some b)(q:∀tk,Q (.bool b) { s with toks:=tk }) :
  wpAny ?B X.A (call (.builtin "isinstance") [.ref a,cv]) Q E s:=by
 let{ox,od,It}:=Il I h;exact kia_one (Oy c kc) I.Vb It e ?jn q
end
end L4
namespace L4
open PySem PySem.Spec PyProof.Rows L2 L3
variable {F H F' H':Hp}{X:Cx}{K:Fg}{Z:L2.St}{ρ:En}{S α:Type}{vs:Re V}{x y:Str}{e tg:Uf}{v:V}{r:R2}{es:Re Uf}{pos p pos':Pos}{c:OC}{Q:VK}{T id:String}{n j kk:Nat}{s:Tk}{ex:SL Tl}{f:Tl}{op:CmpOp}{kvs:Re ?qm}{pins:w_}{R:It->Hp->Prop}{st:Stmt}{fd:FuncData}{ps:Re Str}{E:XK}{o:HO}{P:TD}{w:TW}{mg:R1}{base:Wp}{A:UV}
structure Ex where
 cls:Str
 fs:Re (Str×D)
inductive M(S:Type) where
 | ret (s:S)
 | exc (x:Ex)
 | bad
def M.on{S T:Type}(m:M S)(x:Ex->M T)(k:S->M T):M T:=match m with
 | .ret s=>k s
 | .exc e=>x e
 | .bad=>.bad
def bd{S T:Type}(m:M S)(k:S->M T):M T:=m.on .exc k
def oM{S:Type}(o:SL S):M S:=match o with
 | some s=>.ret s
 | none=>.bad
section
variable {T U:Type}
@[simp] def K3(s:S)(x:Ex->M T)(k:S->M T):(M.ret s).on x k=k s:=rfl
@[simp] def Am(s:S)(k:S->M T):bd (.ret s) k=k s:=rfl
end
abbrev Pu(α:Type):=En->M α
def ly(K:Fg)(F:Hp)(C:Tl)(dd:SL Tl)(x:Ex):Prop:=XQ K C x.cls /\
 ∃fv,FX F dd fv/\Paired (λ(p:Str×V) (q:Str×D)=>p.1=q.1/\Rep K F p.2 q.2) fv x.fs
structure zaj(K:Fg)(F:Hp)(Z:L2.St)(ρ:En):Prop where
 ln:Z.length=ρ.length
 fz:∀(i:Nat) (d:D),ρ[i]? = some (some<|AV.fz d)->∃v,Z[i]? = some (some v)/\Rep K F v d
theorem _root_.L3.b_.zbn{G:Gh}(S:b_ K G F Z H ρ)(s:c_ F F'):zaj K F' Z ρ:={S.ln,λi d q=>by
 let{v,e,r}:=S.fz i d q
 exact{v,e,r.mono s}}
structure GOk(G:Gh)(F H:Hp):Prop where
 fh:c_ F H
 oh:c_ G.O H
 fo:∀b o,G.O b=some o->F b=none/\dI o
 fb:c_ G.B F
noncomputable def XW(X:Cx)(G:Gh)(F:Hp)(ρ:En)(x:Ex):Prop:=∀F' H' s' a C dd pins Z,GOk G F' H'->zaj X.K F' Z ρ->Inv X pins Z H' s'->XS H' s'.heap X.s₀.heap.objs.size a C dd->(∀p∈X.pn++pins,¬ yS s'.heap a p.1)->ly X.K F' C dd x->X.xe (.ref a) s'
theorem XW.mono{G:Gh}{x:Ex}(s:c_ F F')(h:XW X G F ρ x):XW X G F' ρ x:=h
noncomputable def W(X:Cx)(G:Gh)(F:Hp)(Z:L2.St)(ρ:En){α:Type}(m:M α)(C:α->Hp->Hp->Prop):Prop:=match m with
 | .ret a=>∀F' H',c_ F F'->b_ X.K G F' Z H' ρ->C a F' H'
 | .exc x=>XW X G F ρ x
 | .bad=>False
section
variable {G:Gh} {β:Type} {m:M α} {k:α->M β} {C C':α->Hp->Hp->Prop}
theorem W.up{C:β->Hp->Hp->Prop}{m:M β}(s:c_ F F')(h:W X G F Z ρ m C):W X G F' Z ρ m C:=by
 cases m with
 | ret a=>exact λF2 H2 s2 S2=>h F2 H2 (s.trans s2) S2
 | exc x=>exact XW.mono     s h
 | bad=>exact h
theorem W.bind{C:β->Hp->Hp->Prop}(h:W X G F Z ρ (bd m k) C):W X G F Z ρ m λa F' H'=>W X G F' Z ρ (k a) C:=by
 cases m with
 | ret a=>exact λF2 H2 s2 S2=>W.up s2 h
 | exc x=>exact h
 | bad=>exact h
theorem W.imp(h:W X G F Z ρ m C)(w:∀a F' H',c_ F F'->b_ X.K G F' Z H' ρ->C a F' H'->C' a F' H'):W X G F Z ρ m C':=by
 cases m with
 | ret a=>exact λF2 H2 s2 S2=>w a F2 H2 s2 S2<|h F2 H2 s2 S2
 | exc x=>exact h
 | bad=>exact h
theorem W.opt{o:SL α}(h:W X G F Z ρ (oM o) C):∃a,o=some a/\∀F' H',c_ F F'->b_ X.K G F' Z H' ρ->C a F' H':=by
 cases o with
 | none=>exact h.elim
 | some a=>exact{a,rfl,h}
end
@[irreducible] def gW(X:Cx)(e:Uf):TE:=λZ H Q=>∀(pins:w_) (s:Tk),Inv X pins Z H s->wpAny ?B X.A (eval e X.env) ?jq X.xe s
@[irreducible] def uB(X:Cx)(e:Uf):TT:=λZ H Q=>∀(pins:w_) (s:Tk),Inv X pins Z H s->wpAny ?B X.A (isTrue e X.env<|eval e X.env) ?qr X.xe s
@[irreducible] def uA(X:Cx)(e:Uf):TT:=λZ H Q=>∀(whole:Sem SZ) (pins:w_) (s:Tk),Inv X pins Z H s->wpAny ?B X.A (isTrue e X.env whole) ?qr X.xe s
@[irreducible] def jf(X:Cx)(es:Re Uf):TA:=λZ H Q=>∀(pos:Pos) (pins:w_) (s:Tk),Inv X pins Z H s->wpAny ?B X.A (spliced<|backTo pos ?W) (lj X pins Z Q) X.xe s
section
def Mz:cM X e (gW X e):=λpins s Z H Q I h=>by unfold gW at h;exact h pins s I
def Os:gT X e (uB X e):=λpins s Z H Q I h=>by unfold uB at h;exact h pins s I
def Ms:qq X e (uA X e):=λwh pins s Z H Q I h=>by unfold uA at h;exact h wh pins s I
def Pm:sY X es (jf X es):=λpos pins s Z H Q I h=>by unfold jf at h;exact h pos pins s I
def RD{t:TE}(h:cM X e t)(q:t Z H Q):gW X e Z H Q:=by unfold gW;exact λpins s I=>h pins s Z H Q I q
def Mu{t:TT}{Q:Bool->Hp->Prop}(h:gT X e t)(q:t Z H Q):uB X e Z H Q:=by unfold uB;exact λpins s I=>h pins s Z H Q I q
def Cy{t:TT}{Q:Bool->Hp->Prop}(h:qq X e t)(q:t Z H Q):uA X e Z H Q:=by unfold uA;exact λwh pins s I=>h wh pins s Z H Q I q
def G5{t:TA}{Q:Re V->Hp->Prop}(h:sY X es t)(q:t Z H Q):jf X es Z H Q:=by unfold jf;exact λpos pins s I=>h pos pins s Z H Q I q
end
def i3(ρ:En)(i:Nat):SL ?R:=match ρ[i]? with
 | some (some<|.ol<|.l ds)=>some ds
 | some (some<|.op<|.l ds)=>some ds
 | _=>none
def Jd{i:Nat}{ds:Re D}(h:i3 ρ i=some ds):own ρ i (.l ds):=by
 unfold i3 at h
 grind
@[grind] noncomputable def VO(K:Fg)(F:Hp)(Z:L2.St)(ρ:En)(v:V)(d:D):Prop:=Rep K F v d\/∃i c,own ρ i c/\Z[i]? = some (some v)/\d=c.d/\c.isI=false
inductive VOs(K:Fg)(F:Hp)(Z:L2.St)(ρ:En):Re V->Re D->Prop
 | nil:VOs K F Z ρ [] []
 | cons {v d vs ds}:VO K F Z ρ v d->VOs K F Z ρ vs ds->VOs K F Z ρ (v::vs) (d::ds)
@[grind →] theorem VO.mono{d:D}(s:c_ F F')(h:VO K F Z ρ v d):VO K F' Z ρ v d:=h.imp (Rep.mono s) id
@[grind] noncomputable def OR(K:Fg)(F H:Hp)(v:V)(d:D):Prop:=Rep K F v d\/∃a c,v=.ref a/\d=c.d/\Rv K F H a c/\c.isI=false
inductive Xk(K:Fg)(F H:Hp):Re V->Re D->Prop
 | nil:Xk K F H [] []
 | cons {v d vs ds}:OR K F H v d->Xk K F H vs ds->Xk K F H (v::vs) (d::ds)
theorem VO.or{G:Gh}{d:D}(S:b_ K G F Z H ρ)(h:VO K F Z ρ v d):OR K F H v d:=by
 let h||{i,c,ho,hv,rfl,hI}:=h
 ·exact .inl h
 ·let{a,e1,oa}:=S.ow i _ ho;rw[hv]at e1;injection e1 with e1;injection e1 with e1;exact .inr {a,c,e1,rfl,oa.he,hI}
theorem VOs.ors{G:Gh}(S:b_ K G F Z H ρ):∀{vs ds},VOs K F Z ρ vs ds->Xk K F H vs ds
 | _,_,.nil=>.nil
 | _,_,.cons h t=>.cons (h.or S)<|t.ors S
section
variable {ds:Re D}
def eQ:D->Bool
 | .dict _=>true
 | _=>false
def Ka{d:D}(h:d.canLay0=true):eQ d=false:=by
 cases d with
 | dict es=>simp[PyData.canLay0]at h
 | _=>rfl
noncomputable def T3(K:Fg)(H:Hp)(v:V)(d:D):Prop:=Rep K H v d\/∃a kvs es,v=.ref a/\d=.dict es/\Rd H a (.dT kvs)/\es.map (·.1)=kvs.map ?qg
theorem T3.of{d:D}(h:T3 K H v d)(hd:eQ d=false):Rep K H v d:=by
 let h||{a,kvs,es,e,rfl,_}:=h
 ·exact h
 ·cases hd
theorem OR.rep{d:D}(s:c_ F H)(h:OR K F H v d):T3 K H v d:=by
 let h||{a,c,rfl,rfl,h1,hI}:=h
 ·exact .inl<|h.mono s
 ·cases hT:c.Wu with
  | false=>let{o,e,r}:=Bz hI hT h1;exact .inl<|r H s e
  | true=>cases c with
   | t es=>let{kvs,q1,q2,_}:=h1;exact .inr {a,kvs,es,rfl,rfl,.inl q1,q2}
   | _=>cases hT
theorem OR.list(s:c_ F H)(h:OR K F H v (.list ds)):∃a vs,v=.ref a/\Ro K H a vs/\h_ K F vs ds:=by
 let h||{a,c,e,e2,h1,hI}:=h
 ·let{a,vs,e,h1,h2}:=h.lst_inv;exact{a,vs,e,s.seq h1,h2}
 ·cases c<;>cases e2
  let{vs,h1,h2}:=h1;exact{a,vs,e,.inl<|.inl h1,h2}
theorem OR.tuple(s:c_ F H)(h:OR K F H v (.tuple ds)):∃a vs,v=.ref a/\A_ K H a vs/\h_ K F vs ds:=by
 let h||{a,c,e,e2,h1,hI}:=h
 ·let{a,vs,e,h1,h2}:=h.Q9;exact{a,vs,e,A_.of<|s _ _ h1,h2}
 ·cases c<;>cases e2
def OR.Yw(h:OR K F H v (.tuple ds)):Rep K F v (.tuple ds):=by
 let h||{a,c,e,e2,h1,hI}:=h
 ·exact h
 ·cases c<;>cases e2
theorem OR.int{i:Int}(h:OR K F H v (.int i)):v=.int i:=by
 let h||{a,c,e,e2,h1,hI}:=h
 ·exact h.inv
 ·cases c<;>cases e2
theorem OR.bool{i:Bool}(h:OR K F H v (.bool i)):v=.bl i:=by
 let h||{a,c,e,e2,h1,hI}:=h
 ·exact h.inv
 ·cases c<;>cases e2
theorem OR.str{i:Str}(h:OR K F H v (.str i)):v=.str i:=by
 let h||{a,c,e,e2,h1,hI}:=h
 ·exact h.inv
 ·cases c<;>cases e2
theorem OR.none(h:OR K F H v .none):v=.Rq:=by
 let h||{a,c,e,e2,h1,hI}:=h
 ·exact h.inv
 ·cases c with
  | i _ _ _=>cases hI
  | n _=>cases hI
  | _=>cases e2
def Ou{d:D}{ds:Re D}(h:Xk K F H vs (d::ds)):∃v r,vs=v::r/\OR K F H v d/\Xk K F H r ds:=by
 cases h with|cons a b=>exact{_,_,rfl,a,b}
def PG(h:Xk K F H vs []):vs=[]:=by cases h;rfl
end
def lj(X:Cx)(e:Uf)(p:Pu D):Prop :=
 ∀(G:Gh) (F:Hp) (Z:L2.St) (H:Hp) (ρ:En) (Q:VK),b_ X.K G F Z H ρ->W X G F Z ρ (p ρ) (λd F' H'=>∀v,Rep X.K F' v d->Q v H')->gW X e Z H Q
def zN(X:Cx)(e:Uf)(p:Pu D):Prop :=
 ∀(G:Gh) (F:Hp) (Z:L2.St) (H:Hp) (ρ:En) (Q:VK),b_ X.K G F Z H ρ->W X G F Z ρ (p ρ) (λd F' H'=>∀v,VO X.K F' Z ρ v d->Q v H')->gW X e Z H Q
def eN(X:Cx)(e:Uf)(p:Pu Bool):Prop :=
 ∀(G:Gh) (F:Hp) (Z:L2.St) (H:Hp) (ρ:En) (Q:Bool->Hp->Prop),b_ X.K G F Z H ρ->W X G F Z ρ (p ρ) (λd F' H'=>Q d H')->uB X e Z H Q
def fH(X:Cx)(e:Uf)(p:Pu Bool):Prop :=
 ∀(G:Gh) (F:Hp) (Z:L2.St) (H:Hp) (ρ:En) (Q:Bool->Hp->Prop),b_ X.K G F Z H ρ->W X G F Z ρ (p ρ) (λd F' H'=>Q d H')->uA X e Z H Q
def f9(X:Cx)(e:Uf)(p:Pu Bool):Prop :=
 ∀(G:Gh) (F:Hp) (Z:L2.St) (H:Hp) (ρ:En) (Q:VK),b_ X.K G F Z H ρ->W X G F Z ρ (p ρ) (λd F' H'=>Q (.bl d) H')->gW X e Z H Q
def jl{α:Type}(X:Cx)(es:Re Uf)(m:(Re D->M α)->En->M α):Prop :=
 ∀(G:Gh) (F:Hp) (Z:L2.St) (H:Hp) (ρ:En) (Q:Re V->Hp->Prop) (k:Re D->M α) (C:α->Hp->Hp->Prop),b_ X.K G F Z H ρ->W X G F Z ρ (m k ρ) C ->
  (∀ds vs F' H',c_ F F'->b_ X.K G F' Z H' ρ->vs.length=es.length->h_ X.K F' vs ds->W X G F' Z ρ (k ds) C->Q vs H')->jf X es Z H Q
def uU{α:Type}(X:Cx)(es:Re Uf)(m:(Re D->M α)->En->M α):Prop :=
 ∀(G:Gh) (F:Hp) (Z:L2.St) (H:Hp) (ρ:En) (Q:Re V->Hp->Prop) (k:Re D->M α) (C:α->Hp->Hp->Prop),b_ X.K G F Z H ρ->W X G F Z ρ (m k ρ) C ->
  (∀ds vs F' H',c_ F F'->b_ X.K G F' Z H' ρ->VOs X.K F' Z ρ vs ds->W X G F' Z ρ (k ds) C->Q vs H')->jf X es Z H Q
@[grind] noncomputable def Frs(K:Fg)(G:Gh)(F:Hp)(Z:L2.St)(H:Hp)(ρ:En)(v:V)(c:OC):Prop:=∃a,v=.ref a/\WE K G F H a c/\∀(i:Nat) (e:OC),own ρ i e->Z[i]? ≠ some (some ?qB)
def u4(X:Cx)(e:Uf)(p:Pu ?R):Prop :=
 ∀(G:Gh) (F:Hp) (Z:L2.St) (H:Hp) (ρ:En) (Q:VK),b_ X.K G F Z H ρ->W X G F Z ρ (p ρ) (λds F' H'=>∀v,Frs X.K G F' Z H' ρ v (.l ds)->Q v H')->gW X e Z H Q
def zK(i:Nat):Pu D:=λρ=>match ρ[i]? with
 | some (some<|.fz d)=>.ret d
 | _=>.bad
def oO(c:OC):M D:=match c with
 | .i _ _ _=>.bad
 | .n _=>.bad
 | c=>.ret c.d
def rf(i:Nat):Pu D:=λρ=>match ρ[i]? with
 | some (some<|.ol c)=>oO c
 | some (some<|.op c)=>oO c
 | _=>.bad
def iC(d:D):Pu D:=λ_=>.ret d
def kg(f:D->D->SL D)(a b:Pu D):Pu D:=λρ=>bd (a ρ) λx=>bd (b ρ) λy=>oM<|f x y
def au(f:D->D->SL Bool)(a b:Pu D):Pu Bool:=λρ=>bd (a ρ) λx=>bd (b ρ) λy=>oM<|f x y
def pUn(f:D->SL D)(a:Pu D):Pu D:=λρ=>bd (a ρ) λx=>oM<|f x
abbrev Pa(α:Type):=(Re D->M α)->En->M α
def aV{α:Type}:Pa α:=λk _=>k []
def bX{α:Type}(a:Pu D)(r:Pa α):Pa α:=λk ρ=>bd (a ρ) λx=>r (λxs=>k<|x::xs) ρ
def cp{S:Type}(ds:Re S):M (Re S):=if ds.length<=sizeLine then .ret ds else .bad
def eI(ps:Pa D):Pu D:=λρ=>ps (λds=>.ret<|.tuple ds) ρ
def qR(ps:Pa ?R):Pu ?R:=λρ=>ps (λds=>.ret ds) ρ
def Mh(h:n<=1000):n<=sizeLine:=di h ?C
def wX(f:Re D->SL D)(ps:Pa D):Pu D:=λρ=>ps (λds=>oM<|f ds) ρ
def bA(f:Re D->SL Bool)(ps:Pa Bool):Pu Bool:=λρ=>ps (λds=>oM<|f ds) ρ
def gx(f:Re D->SL ?R)(ps:Pa ?R):Pu ?R:=λρ=>ps (λds=>oM<|f ds) ρ
def pB(p:Pu Bool):Pu D:=λρ=>bd (p ρ) λb=>.ret<|.bool b
def pZ(p:Pu ?R):Pu D:=λρ=>bd (p ρ) λds=>.ret<|.list ds
def asB(d:D):M Bool:=match d with
 | .bool b=>.ret b
 | _=>.bad
def aS(p:Pu D):Pu Bool:=λρ=>bd (p ρ) asB
def iX:D->SL Bool
 | .none=>some false
 | .bool b=>some b
 | .int i=>some<|i != 0
 | .str x=>if x.length<=sizeLine then some ((x.length:Int) != 0)else none
 | .list ds=>some<|!ds.isEmpty
 | .tuple ds=>some<|!ds.isEmpty
 | .dict _=>none
def tL(p:Pu D):Pu Bool:=λρ=>bd (p ρ) λd=>oM<|iX d
def pM(a b:Pu Bool):Pu Bool:=λρ=>bd (a ρ) λt=>if t then b ρ else .ret false
def pOr(a b:Pu Bool):Pu Bool:=λρ=>bd (a ρ) λt=>if t then .ret true else b ρ
def iZ(a:Pu Bool):Pu Bool:=λρ=>bd (a ρ) λt=>.ret<|!t
def pIf{α:Type}(c:Pu Bool)(a b:Pu α):Pu α:=λρ=>bd (c ρ) λt=>if t then a ρ else b ρ
def qY(K:Fg)(r:R2)(f:D->D->SL D):Prop :=
 ∀(G:Gh) (F:Hp) (Z:L2.St) (H:Hp) (ρ:En) (x y:V) (dx dy:D) (res:D) (Q:VK),b_ K G F Z H ρ->OR K F H x dx->OR K F H y dy->f dx dy=some res ->
  (∀v F' H',c_ F F'->b_ K G F' Z H' ρ->Rep K F' v res->Q v H')->r x y H Q
def rT(K:Fg)(r:R2)(f:D->D->SL Bool):Prop :=
 ∀(G:Gh) (F:Hp) (Z:L2.St) (H:Hp) (ρ:En) (x y:V) (dx dy:D) (res:Bool) (Q:VK),b_ K G F Z H ρ->OR K F H x dx->OR K F H y dy->f dx dy=some res->Q (.bl res) H->r x y H Q
noncomputable def UnD(K:Fg)(r:V->Hp->VK->Prop)(f:D->SL D):Prop :=
 ∀(G:Gh) (F:Hp) (Z:L2.St) (H:Hp) (ρ:En) (x:V) (dx:D) (res:D) (Q:VK),b_ K G F Z H ρ->OR K F H x dx->f dx=some res ->
  (∀v F' H',c_ F F'->b_ K G F' Z H' ρ->Rep K F' v res->Q v H')->r x H Q
def iB(K:Fg)(r:Re V->Hp->VK->Prop)(f:Re D->SL D):Prop :=
 ∀(G:Gh) (F:Hp) (Z:L2.St) (H:Hp) (ρ:En) (xs:Re V) (ds:Re D) (res:D) (Q:VK),b_ K G F Z H ρ->Xk K F H xs ds->f ds=some res ->
  (∀v F' H',c_ F F'->b_ K G F' Z H' ρ->Rep K F' v res->Q v H')->r xs H Q
def w5(K:Fg)(r:Re V->Hp->VK->Prop)(f:Re D->SL Bool):Prop :=
 ∀(G:Gh) (F:Hp) (Z:L2.St) (H:Hp) (ρ:En) (xs:Re V) (ds:Re D) (res:Bool) (Q:VK),b_ K G F Z H ρ->Xk K F H xs ds->f ds=some res->Q (.bl res) H->r xs H Q
def bt(K:Fg)(r:Re V->Hp->VK->Prop)(f:Re D->SL ?R):Prop :=
 ∀(G:Gh) (F:Hp) (Z:L2.St) (H:Hp) (ρ:En) (xs:Re V) (ds:Re D) (res:Re D) (Q:VK),b_ K G F Z H ρ->Xk K F H xs ds->f ds=some res ->
  (∀v F' H',c_ F F'->b_ K G F' Z H' ρ->Frs K G F' Z H' ρ v (.l res)->Q v H')->r xs H Q
def isStar:Uf->Bool
 | .Starred _ _=>true
 | _=>false
def LA{env:Env}:∀{e:Uf} {es:Re Uf},isStar e=false->starEach (e::es) env=(false,eval e env)::starEach es env:=by
 intro e es h
 cases e<;>first|rfl|cases h
def fK(o:SL NameKind):Bool:=match o with
 | some .local=>true
 | some .cell=>true
 | _=>false
theorem lo{sc:Scope}(h:fK (sc.names.lookup x)=true):L2.Loc sc x:=by
 unfold L2.Loc;unfold fK at h
 grind
def xl(o:SL NameKind):Bool:=match o with
 | some .free=>true
 | o=>fK o
def Lz{sc:Scope}(h:xl (sc.names.lookup x)=true):L2.Vx sc x:=by
 unfold L2.Vx;unfold xl fK at h
 grind
section
variable {a b c:Uf} {rest:Re Uf} {p pa pb:Pu D} {ta tb tc:Pu Bool} {ps:Pa D} {pb':Pa Bool} {pl:Pa ?R} {pα:Pa α} {qs:Pu ?R}
def L9{i:Nat}(hN:X.N[i]? = some x)(hv:Vx X.env.scope x)(hd:(x==("__debug__" : Str))=false:=by decide)(RB:(x==("__classdict__" : Str))=false:=by decide):lj X (.Name x pos) (zK i) :=
 λG F Z H ρ Q S w=>RD ?jZ<|by
  unfold zK at w;split at w
  ·rename_i d q;let{v,e1,r1}:=S.fz i d q;exact{v,e1,w F H ?J S v r1}
  ·exact w.elim
def Pb{i:Nat}(hN:X.N[i]? = some x:=by rfl)(hv:Vx X.env.scope x:=by exact Lz rfl)(hd:(x==("__debug__" : Str))=false:=by decide)(RB:(x==("__classdict__" : Str))=false:=by decide):zN X (.Name x pos) (rf i) :=
 λG F Z H ρ Q S w=>RD ?jZ<|by
  have go:∀c ,own ρ i c->W X G F Z ρ (oO c) (λd F' H'=>∀v,VO X.K F' Z ρ v d->Q v H')->lF i Z H Q:=λc ho w=>by
   let{a,e1,oa}:=S.ow i _ ho
   cases c with
   | i _ _ _=>exact w.elim
   | n _=>exact w.elim
   | _=>exact{_,e1,w F H ?J S _<|.inr {i,_,ho,e1,rfl,rfl}}
  unfold rf at w;split at w
  ·grind
  ·grind
  ·exact w.elim
def G7(h:lj X e p):zN X e p:=λG F Z H ρ Q S w=>h G F Z H ρ Q S<|w.imp λd F' H' _ _ q v r=>q v<|.inl r
def Ox{d:D}(h:cM X e (tC v))(r:∀F,Rep X.K F v d):lj X e (iC d) :=
 λG F Z H ρ Q S w=>RD h<|w F H ?J S v<|r F
def My{i j}:lj X (.Constant (.int i) j pos) (iC<|.int i):=Ox ET λ_=>.int _
def Oh{i j}:lj X (.Constant (.bool i) j pos) (iC<|.bool i):=Ox Nd λ_=>.bl _
def J8{i j}:lj X (.Constant (.str i) j pos) (iC<|.str i):=Ox KG λ_=>.str _
def PI{j}:lj X (.Constant .none j pos) (iC .none):=Ox KI λ_=>.Rq
def By{G:Gh}{f:D->D->M α}{C:α->Hp->Hp->Prop}(ha:zN X a pa)(hb:zN X b pb)(S:b_ X.K G F Z H ρ)(w:W X G F Z ρ (bd (pa ρ) λx=>bd (pb ρ) λy=>f x y) C)
  (k:∀x y dx dy F' H',c_ F F'->b_ X.K G F' Z H' ρ->OR X.K F' H' x dx->OR X.K F' H' y dy->W X G F' Z ρ (f dx dy) C->r x y H' Q):aJ r (gW X a) (gW X b) Z H Q :=
 ha G F Z H ρ _ S<|w.bind.imp λdx F1 H1 s1 S1 w1 x hx=>hb G F1 Z H1 ρ _ S1<|w1.bind.imp λdy F2 H2 s2 S2 w2 y hy=>k x y dx dy F2 H2 ?jo S2 ((hx.mono s2).or S2) (hy.or S2) w2
def NQ{op:Operator}{f:D->D->SL D}(ho:K_ X (binaryOp op) r)(hf:qY X.K r f)(ha:zN X a pa)(hb:zN X b pb):lj X (.BinOp a op b pos) (kg f pa pb) :=
 λG F Z H ρ Q S w=>RD (EQ ho Mz Mz) (By ha hb S w λx y dx dy F' H' s' S' hx hy w'=>by
  let{res,e,k}:=w'.opt
  exact hf G F' Z H' ρ x y dx dy res Q S' hx hy e λv F2 H2 s2 S2 r2=>k F2 H2 s2 S2 v r2)
def NP{f:D->D->SL D}(hr:WH X r)(hf:qY X.K r f)(ha:zN X a pa)(hb:zN X b pb)(hs:wZ b:=by exact λ_ _=>rfl):lj X (.Subscript a b pos) (kg f pa pb) :=
 λG F Z H ρ Q S w=>RD (A7 hr Mz Mz hs) (By ha hb S w λx y dx dy F' H' s' S' hx hy w'=>by
  let{res,e,k}:=w'.opt
  exact hf G F' Z H' ρ x y dx dy res Q S' hx hy e λv F2 H2 s2 S2 r2=>k F2 H2 s2 S2 v r2)
def Pq{f:D->D->SL Bool}(ho:K_ X (compareOp op) r)(hf:rT X.K r f)(ha:zN X a pa)(hb:zN X b pb)(hm:behindInMarks op b=false:=by rfl):f9 X (.Compare a [op] [b] pos) (au f pa pb) :=
 λG F Z H ρ Q S w=>RD (Bb ho Mz Mz hm) (By ha hb S w λx y dx dy F' H' s' S' hx hy w'=>by
  let{res,e,k}:=w'.opt
  exact hf G F' Z H' ρ x y dx dy res Q S' hx hy e<|k F' H' ?J S')
def Zm{f:D->D->SL Bool}(ho:K_ X (compareOp op) r)(hf:rT X.K r f)(ha:zN X a pa)(hb:zN X b pb)(hm:behindInMarks op b=false:=by rfl):eN X (.Compare a [op] [b] pos) (au f pa pb) :=
 λG F Z H ρ Q S w=>Mu (AZ ho Mz Mz hm) (By  ha hb S w λx y dx dy F' H' s' S' hx hy w'=>by
  let{res,e,k}:=w'.opt
  exact hf G F' Z H' ρ x y dx dy res _ S' hx hy e {res,rfl,k F' H' ?J S'})
def VC(h:f9 X e ta):lj X e (pB ta):=λG F Z H ρ Q S w=>h G F Z H ρ Q S<|w.bind.imp λb F' H' s1 S1 w1=>w1 F' H' ?J S1 _<|.bl b
def N9{op:UnaryOp}{r:V->Hp->VK->Prop}{f:D->SL D}(ho:UnR X (unaryOp op) r)(hf:UnD X.K r f)(ha:zN X a pa):lj X (.UnaryOp op a pos) (pUn f pa) :=
 λG F Z H ρ Q S w=>RD (Na ho Mz) (ha G F Z H ρ _ S (w.bind.imp λdx F1 H1 s1 S1 w1 x hx=>by
  let{res,e,k}:=w1.opt
  exact hf G F1 Z H1 ρ x dx res Q S1 (hx.or S1) e λv F2 H2 s2 S2 r2=>k F2 H2 s2 S2 v r2))
def Ol(h:u4 X e qs):lj X e (pZ qs):=λG F Z H ρ Q S w=>h G F Z H ρ Q S (w.bind.imp λds F' H' s1 S1 w1 v fr=>by
 let{F2,s2,S2,r2}:=S1.settle   fr
 exact w1 F2 H' s2 S2 v r2)
def Oj:jl (α:=α) X [] aV:=λG F Z H ρ Q k C S w kk=>G5 Qh<|kk [] [] F H ?J S rfl .nil w
def Mp(h:lj X e p)(hr:jl X es pα)(hs:starEach (e::es) X.env=?N::starEach es X.env:=by exact LA rfl):jl X (e::es) (bX p pα) :=
 λG F Z H ρ Q k C S w kk=>G5 (Qi Mz Pm hs) (h G F Z H ρ _ S (w.bind.imp λd F1 H1 s1 S1 w1 v r1 =>
  hr G F1 Z H1 ρ _ _ C S1 w1 λds vs F2 H2 s2 S2 hl r2 w2=>kk (d::ds) (v::vs) F2 H2 ?jo S2 (by simp[hl]) (.cons ?qH r2) w2))
def Mg:uU (α:=α) X [] aV:=λG F Z H ρ Q k C S w kk=>G5 Qh<|kk [] [] F H ?J S .nil w
def Kb(h:zN X e p)(hr:uU X es pα)(hs:starEach (e::es) X.env=?N::starEach es X.env:=by exact LA rfl):uU X (e::es) (bX p pα) :=
 λG F Z H ρ Q k C S w kk=>G5 (Qi Mz Pm hs)<|h G F Z H ρ _ S<|w.bind.imp λd F1 H1 s1 S1 w1 v r1 =>
  hr G F1 Z H1 ρ _ _ C S1 w1 λds vs F2 H2 s2 S2 r2 w2=>kk (d::ds) (v::vs) F2 H2 ?jo S2 (.cons ?qH r2) w2
theorem W.fit{G:Gh}{ds:Re α}{C:Re α->Hp->Hp->Prop}(h:W X G F Z ρ (cp ds) C):ds.length<=sizeLine/\∀F' H',c_ F F'->b_ X.K G F' Z H' ρ->C ds F' H':=by
 unfold cp at h;split at h
 ·exact{by assumption,h}
 ·exact h.elim
def Je{x1}(h:jl X es ps)(hz:es.length<=1000:=by decide +kernel):lj X (.Tuple es x1 pos) (eI ps) :=
 λG F Z H ρ Q S w=>RD (EO Pm) (h G F Z H ρ _ _ _ S w λds vs F1 H1 s1 S1 hl r1 w1=>by
  refine{by rw[hl];exact Mh hz,λq hq=>?_};let{s2,S2,r2}:=S1.R_ hq r1
  exact w1 _ _ s2 S2 _ r2)
def Oq(h:jl X es pl)(hz:es.length<=1000:=by decide +kernel):u4 X (.List es pos) (qR pl) :=
 λG F Z H ρ Q S w=>RD (ES Pm) (h G F Z H ρ _ _ _ S w λds vs F1 H1 s1 S1 hl r1 w1=>by
  refine{by rw[hl];exact Mh hz,λq hq=>?_};let{S2,r2}:=S1.M_ hq r1
  exact w1 _ _ ?J S2 _ r2)
def Mw{r:Re V->Hp->VK->Prop}{G:Gh}{f:Re D->M α}{C:α->Hp->Hp->Prop}(ha:uU X es pα)(S:b_ X.K G F Z H ρ)(w:W X G F Z ρ (pα f ρ) C)
  (k:∀xs ds F' H',c_ F F'->b_ X.K G F' Z H' ρ->Xk X.K F' H' xs ds->W X G F' Z ρ (f ds) C->r xs H' Q):tCB r (jf X es) Z H Q :=
 ha G F Z H ρ _ _ C S w λds xs F1 H1 s1 S1 hx w1=>k xs ds F1 H1 s1 S1 (hx.ors S1) w1
def CE{p:Pos}{r:Re V->Hp->VK->Prop}{f:Re D->SL D}(hc:k_ X (.builtin id) r)(hf:iB X.K r f)(hm:X.mg x=none)(hv:bootBuiltins x=some (.builtin id))(ha:uU X (e::es) ps)(hg:uf X x:=by rfl)
  (hn:x ≠ "__name__":=by decide) (SQ:(x==("__debug__" : Str))=false:=by decide) (he:starEach (e::es) X.env=?N::starEach es X.env:=by rfl) (Sg:(backTo pos ?W).any (·.1)=false:=by rfl):lj X (.Call (.Name x p) (e::es) [] pos) (wX f ps) :=
 λG F Z H ρ Q S w=>RD (Qo hc hg hm hv Pm hn SQ he Sg) (Mw ha S w λxs ds F' H' s' S' hx w'=>by
  let{res,e,k}:=w'.opt
  exact hf G F' Z H' ρ xs ds res Q S' hx e λv F2 H2 s2 S2 r2=>k F2 H2 s2 S2 v r2)
def CR{p:Pos}{r:Re V->Hp->VK->Prop}{f:Re D->SL ?R}(hc:k_ X (.builtin id) r)(hf:bt X.K r f)(hm:X.mg x=none)(hv:bootBuiltins x=some (.builtin id))(ha:uU X (e::es) pl)(hg:uf X x:=by rfl)
  (hn:x ≠ "__name__":=by decide) (SQ:(x==("__debug__" : Str))=false:=by decide) (he:starEach (e::es) X.env=?N::starEach es X.env:=by rfl) (Sg:(backTo pos ?W).any (·.1)=false:=by rfl):u4 X (.Call (.Name x p) (e::es) [] pos) (gx f pl) :=
 λG F Z H ρ Q S w=>RD (Qo hc hg hm hv Pm hn SQ he Sg) (Mw ha S w λxs ds F' H' s' S' hx w'=>by
  let{res,e,k}:=w'.opt
  exact hf G F' Z H' ρ xs ds res Q S' hx e λv F2 H2 s2 S2 r2=>k F2 H2 s2 S2 v r2)
def PO{p:Pos}{r:Re V->Hp->VK->Prop}{f:Re D->SL Bool}(hc:k_ X (.builtin id) r)(hf:w5 X.K r f)(hg:uf X x)(hm:X.mg x=none)(hv:bootBuiltins x=some (.builtin id))(ha:uU X (e::es) pb')
  (hn:x ≠ "__name__":=by decide) (SQ:(x==("__debug__" : Str))=false:=by decide) (he:starEach (e::es) X.env=?N::starEach es X.env:=by rfl) (Sg:(backTo pos ?W).any (·.1)=false:=by rfl):f9 X (.Call (.Name x p) (e::es) [] pos) (bA f pb') :=
 λG F Z H ρ Q S w=>RD (Qo hc hg hm hv Pm hn SQ he Sg) (Mw ha S w λxs ds F' H' s' S' hx w'=>by
  let{res,e,k}:=w'.opt
  exact hf G F' Z H' ρ xs ds res Q S' hx e<|k F' H' ?J S')
def G6{p:Pos}{r:Re V->Hp->VK->Prop}{f:Re D->SL D}(hc:k_ X (.type T) r)(hf:iB X.K r f)(hm:X.mg x=none)(hv:bootBuiltins x=some (.type T))(ha:uU X (e::es) ps)(hg:uf X x:=by rfl)
  (hn:x ≠ "__name__":=by decide) (SQ:(x==("__debug__" : Str))=false:=by decide) (he:starEach (e::es) X.env=?N::starEach es X.env:=by rfl) (Sg:(backTo pos ?W).any (·.1)=false:=by rfl):lj X (.Call (.Name x p) (e::es) [] pos) (wX f ps) :=
 λG F Z H ρ Q S w=>RD (Qp hc hg hm hv Pm hn SQ he Sg) (Mw ha S w λxs ds F' H' s' S' hx w'=>by
  let{res,e,k}:=w'.opt
  exact hf G F' Z H' ρ xs ds res Q S' hx e λv F2 H2 s2 S2 r2=>k F2 H2 s2 S2 v r2)
def Mr{p:Pos}{r:Re V->Hp->VK->Prop}{f:Re D->SL ?R}(hc:k_ X (.type T) r)(hf:bt X.K r f)(hm:X.mg x=none)(hv:bootBuiltins x=some (.type T))(ha:uU X (e::es) pl)(hg:uf X x:=by rfl)
  (hn:x ≠ "__name__":=by decide) (SQ:(x==("__debug__" : Str))=false:=by decide) (he:starEach (e::es) X.env=?N::starEach es X.env:=by rfl) (Sg:(backTo pos ?W).any (·.1)=false:=by rfl):u4 X (.Call (.Name x p) (e::es) [] pos) (gx f pl) :=
 λG F Z H ρ Q S w=>RD (Qp hc hg hm hv Pm hn SQ he Sg) (Mw ha S w λxs ds F' H' s' S' hx w'=>by
  let{res,e,k}:=w'.opt
  exact hf G F' Z H' ρ xs ds res Q S' hx e λv F2 H2 s2 S2 r2=>k F2 H2 s2 S2 v r2)
def Ds{ds:Re D}(h:h_ K F vs ds):(!vs.isEmpty) = !ds.isEmpty:=by cases h<;>rfl
def OI(ha:zN X a pa)(he:∀whole,isTrue a X.env whole=(do let v <-whole;standAt a.pos;holding [v] (truthy v))):eN X a (tL pa) :=
 λG F Z H ρ Q S w=>Mu (Qe Mz he) (ha G F Z H ρ _ S (w.bind.imp λx F1 H1 s1 S1 w1 v hv=>by
  let{bb,hb,k}:=w1.opt;refine{bb,?_,k F1 H1 ?J S1};have o:=hv.or S1
  cases x with
  | none=>rw[o.none];cases hb;exact rfl
  | bool i=>rw[o.bool];cases hb;exact rfl
  | int i=>rw[o.int];cases hb;exact rfl
  | str i =>
   rw[o.str];unfold iX at hb;dsimp only at hb;split at hb
   ·rename_i hl;cases hb;exact{hl,rfl}
   ·cases hb
  | list ds=>let{a,vs,rfl,h1,h2}:=o.list S1.fh;cases hb;exact .inl {vs,h1,(Ds h2).symm}
  | tuple ds=>let{a,vs,rfl,h1,h2}:=o.tuple S1.fh;cases hb;exact .inr<|.inl {vs,h1,(Ds h2).symm}
  | dict ds=>cases hb))
def MW(ha:f9 X a ta)(he:∀whole,isTrue a X.env whole=(do let v <-whole;standAt a.pos;holding [v] (truthy v))):eN X a ta :=
 λG F Z H ρ Q S w=>Mu (Qe Mz he)<|ha G F Z H ρ _ S<|w.imp λx F1 H1 s1 S1 w1=>{x,rfl,w1}
def M5(ha:eN X a ta):fH X (.BoolOp .And [a] pos) ta:=λG F Z H ρ Q S w=>Cy (AR Os)<|ha G F Z H ρ Q S w
def VH(ha:eN X a ta):fH X (.BoolOp .Or [a] pos) ta:=λG F Z H ρ Q S w=>Cy (Ky Os)<|ha G F Z H ρ Q S w
def M0(ha:eN X a ta)(hb:fH X (.BoolOp .And (b::rest) pos) tb):fH X (.BoolOp .And (a::b::rest) pos) (pM ta tb) :=
 λG F Z H ρ Q S w=>Cy (ED Os Ms) (ha G F Z H ρ _ S (w.bind.imp λt F1 H1 s1 S1 w1=>by
  cases t with
  | true=>exact hb G F1 Z H1 ρ Q S1 w1
  | false=>exact w1 F1 H1 ?J S1))
def Kv(ha:eN X a ta)(hb:fH X (.BoolOp .Or (b::rest) pos) tb):fH X (.BoolOp .Or (a::b::rest) pos) (pOr ta tb) :=
 λG F Z H ρ Q S w=>Cy (M6 Os Ms) (ha G F Z H ρ _ S (w.bind.imp λt F1 H1 s1 S1 w1=>by
  cases t with
  | true=>exact w1 F1 H1 ?J S1
  | false=>exact hb G F1 Z H1 ρ Q S1 w1))
def MZ(h:fH X e ta):eN X e ta:=λG F Z H ρ Q S w=>Mu (λpins s Z H Q I h=>Ms _ pins s Z H Q I h)<|h G F Z H ρ Q S w
def MU(ha:eN X a ta):eN X (.UnaryOp .Not a pos) (iZ ta) :=
 λG F Z H ρ Q S w=>Mu (Kz Os)<|ha G F Z H ρ _ S<|w.bind.imp λt F1 H1 s1 S1 w1=>w1 F1 H1 ?J S1
def Ce(h:lj X a pa):f9 X a (aS pa):=λG F Z H ρ Q S w=>h G F Z H ρ Q S (w.bind.imp λd F1 H1 s1 S1 w1 v r=>by
 cases r with
 | bl b=>exact w1 F1 H1 ?J S1
 | Rq=>exact w1.elim
 | int i=>exact w1.elim
 | str i=>exact w1.elim
 | tup _ _=>exact w1.elim
 | lst _ _=>exact w1.elim
 | Vu _ _ _=>exact w1.elim
 | ZI _ _ _=>exact w1.elim
 | exc _ _ _ _ _=>exact w1.elim
 | fn _=>exact w1.elim)
def OJ{op}(h:f9 X a ta):f9 X (.BoolOp op [a] pos) ta:=λG F Z H ρ Q S w=>RD (ER Mz)<|h G F Z H ρ Q S w
def Ow(ha:f9 X a ta)(hb:f9 X (.BoolOp .And (b::rest) pos) tb):f9 X (.BoolOp .And (a::b::rest) pos) (pM ta tb) :=
 λG F Z H ρ Q S w=>RD (EW Mz Mz) (ha G F Z H ρ _ S (w.bind.imp λt F1 H1 s1 S1 w1=>{t,rfl,by
  cases t with
  | true=>exact hb G F1 Z H1 ρ Q S1 w1
  | false=>exact w1 F1 H1 ?J S1}))
def Of(ha:f9 X a ta)(hb:f9 X (.BoolOp .Or (b::rest) pos) tb):f9 X (.BoolOp .Or (a::b::rest) pos) (pOr ta tb) :=
 λG F Z H ρ Q S w=>RD (Nb Mz Mz) (ha G F Z H ρ _ S (w.bind.imp λt F1 H1 s1 S1 w1=>{t,rfl,by
  cases t with
  | true=>exact w1 F1 H1 ?J S1
  | false=>exact hb G F1 Z H1 ρ Q S1 w1}))
def GQ(ha:f9 X a ta):f9 X (.UnaryOp .Not a pos) (iZ ta) :=
 λG F Z H ρ Q S w=>RD (KH Mz)<|ha G F Z H ρ _ S<|w.bind.imp λt F1 H1 s1 S1 w1=>{t,rfl,w1 F1 H1 ?J S1}
def B8(hc:eN X c tc)(ha:lj X a pa)(hb:lj X b pb):lj X (.IfExp c a b pos) (pIf tc pa pb) :=
 λG F Z H ρ Q S w=>RD (Ix Os Mz Mz) (hc G F Z H ρ _ S (w.bind.imp λt F1 H1 s1 S1 w1=>by
  cases t with
  | true=>exact ha G F1 Z H1 ρ Q S1 w1
  | false=>exact hb G F1 Z H1 ρ Q S1 w1))
end
def bq(i j:Int):Bool:=(decide (-(2^64)<i)&&decide (i<2^64))||(decide (-(2^64)<j)&&decide (j<2^64))
def bE:D->D->SL D
 | .int i,.int j=>some<|.int<|i+j
 | .str a,.str b=>if a.length+b.length<=sizeLine then some (.str<|a++b)else none
 | .tuple a,.tuple b=>if a.length+b.length<=sizeLine then some (.tuple<|a++b)else none
 | .list a,.list b=>if a.length+b.length<=sizeLine then some (.list<|a++b)else none
 | _,_=>none
def gJ:D->D->SL D
 | .int i,.int j=>some<|.int<|i - j
 | _,_=>none
def fN:D->D->SL D
 | .int i,.int j=>if bq i j then some (.int<|i*j)else none
 | _,_=>none
def rZ:D->D->SL ?R
 | .list a,.int k=>if decide (-(2^63)<=k)&&decide (k<2^63)&&decide (a.length*k.toNat<=sizeLine)then some (List.replicate k.toNat a).flatten else none
 | _,_=>none
def lL:D->D->SL D
 | .int i,.int j=>if decide (0<j)&&decide (j<1073741824)then some (.int<|i / j)else none
 | _,_=>none
def iF:D->D->SL D
 | .int i,.int j=>if 0<j then some (.int<|i % j)else none
 | _,_=>none
def bR:D->D->SL D
 | .int i,.int j=>if decide (0<=j)&&decide (j<=1000000)&&decide (i.natAbs<2^64)then some (.int<|i^j.toNat)else none
 | _,_=>none
def vn:D->SL D
 | .int i=>some<|.int<|-i
 | _=>none
def zh:D->D->SL Bool
 | .int i,.int j=>some<|decide<|i<j
 | _,_=>none
def dY:D->D->SL Bool
 | .int i,.int j=>some<|decide<|i<=j
 | _,_=>none
def eX:D->D->SL Bool
 | .int i,.int j=>some<|decide<|j<i
 | _,_=>none
def vW:D->D->SL Bool
 | .int i,.int j=>some<|decide<|j<=i
 | _,_=>none
def mq(K:Fg):R2:=λx y H Q=>∃a b xs ys,x=.ref a/\y=.ref b/\A_ K H a xs/\A_ K H b ys/\xs.length+ys.length<=sizeLine /\
 (xs=[]->Q (.ref b) H)/\(xs≠[]->ys=[]->Q (.ref a) H)/\(xs≠[]->ys≠[]->∀p,H p=none->Q (.ref p) (upd H p<|.tup<|xs++ys))
def YI:K_ X (binaryOp .Add) (mq X.K):=by
 intro pins s Z H x y v u Q I rx ry h;let{a,b,xs,ys,rfl,rfl,ha,hb,hz,q0,q1,q2}:=h;by_cases hx:xs=[]
 ·cases rx
  cases ry
  let{i_,r1,p1,_}:=I.tuple ha;let{Tu,r2,p2,_}:=I.tuple hb;have hv:=r1.Ti.mpr hx;let{{cls,dd,data,sl},ho,hc,n,hd}:=id p1;let{{Y8,WB,data2,Wr},TF,hc2,n2,hd2}:=id p2;subst hc hd hc2 hd2;exact concat_meets {_,ho,rfl} {_,TF,rfl} noFill_tuple_add seq_tuple_add w9 pJ (kG _ _)
   (tuple_addW0 a b i_.toArray Tu.toArray n n2 dd WB sl Wr (by simp[hv])) {ho,TF,{.ref b,H,I,rfl,q0 hx}}
 ·exact HF pins s Z H _ _ v u Q I rx ry {a,b,xs,ys,rfl,rfl,ha,hb,hx,hz,q1 hx,q2 hx}
section
def SO{a:α}{P:Prop}(e:(none:SL α)=some a):P:=nomatch e
theorem okI{C:Int->Int->Prop}{g:Int->Int->V}{f:D->D->SL D}(h:∀dx dy res,f dx dy=some res->∃i j,dx=.int i/\dy=.int j/\C i j/\∀K F,Rep K F (g i j) res):qY K (rI C g) f:=by
 intro G F Z H ρ x y dx dy res Q S ox oy e k;let{i,j,rfl,rfl,hc,hr}:=h dx dy res e;exact{i,j,ox.int,oy.int,hc,k _ F H ?J S<|hr K F}
theorem okB{g:Int->Int->Bool}{f:D->D->SL Bool}(h:∀dx dy res,f dx dy=some res->∃i j,dx=.int i/\dy=.int j/\res=g i j):rT K (lf λi j=>.bl<|g i j) f:=by
 intro G F Z H ρ x y dx dy res Q S ox oy e k;let{i,j,rfl,rfl,rfl}:=h dx dy res e;exact{i,j,ox.int,oy.int,k}
def AN:qY K (lf λi j=>.int<|i - j) gJ:=by
 intro G F Z H ρ x y dx dy res Q S ox oy e k
 cases dx<;>first|exact SO e|(cases dy<;>first|exact SO e|cases e)
 exact{_,_,ox.int,oy.int,k _ F H ?J S<|.int _}
def Nq:rT K (lf λi j=>.bl<|decide<|i<j) zh:=okB λdx dy res e=>by
 cases dx<;>first|exact SO e|(cases dy<;>first|exact SO e|cases e)
 exact{_,_,rfl,rfl,rfl}
def Nr:rT K (lf λi j=>.bl<|decide<|i<=j) dY:=okB λdx dy res e=>by
 cases dx<;>first|exact SO e|(cases dy<;>first|exact SO e|cases e)
 exact{_,_,rfl,rfl,rfl}
def Hk:rT K (lf λi j=>.bl<|decide<|j<i) eX:=okB λdx dy res e=>by
 cases dx<;>first|exact SO e|(cases dy<;>first|exact SO e|cases e)
 exact{_,_,rfl,rfl,rfl}
def OO:rT K (lf λi j=>.bl<|decide<|j<=i) vW:=okB λdx dy res e=>by
 cases dx<;>first|exact SO e|(cases dy<;>first|exact SO e|cases e)
 exact{_,_,rfl,rfl,rfl}
def ON:qY K (rI dh λi j=>.int<|i / j) lL:=okI λdx dy res e=>by
 cases dx<;>first|exact SO e|(cases dy<;>try (exact SO e))
 rename_i i j;dsimp only[lL]at e;split at e
 ·rename_i hc
  cases e
  simp  [am,aQ]at hc;exact{i,j,rfl,rfl,hc,λ_ _=>.int _}
 ·cases e
def Mi:qY K (rI (λ_ j=>0<j) λi j=>.int<|i % j) iF:=okI λdx dy res e=>by
 cases dx<;>first|exact SO e|(cases dy<;>try (exact SO e))
 rename_i i j;dsimp only[iF]at e;split at e
 ·rename_i hc
  cases e
  exact{i,j,rfl,rfl,hc,λ_ _=>.int _}
 ·cases e
def K5:qY K (rI az λi j=>.int<|i^j.toNat) bR:=okI λdx dy res e=>by
 cases dx<;>first|exact SO e|(cases dy<;>try (exact SO e))
 rename_i i j;dsimp only[bR]at e;split at e
 ·rename_i hc
  cases e
  simp  [am,aQ]at hc;exact{i,j,rfl,rfl,{hc.1.1,hc.1.2,hc.2},λ_ _=>.int _}
 ·cases e
def K6:UnD K (rU λi=>.int<|-i) vn:=by
 intro G F Z H ρ x dx res Q S ox e k
 cases dx<;>cases e
 exact{_,ox.int,k _ F H ?J S<|.int _}
def Ay{ds:Re D}(r:h_ K F vs ds):vs=[]↔ds=[]:=by cases r<;>simp
def aA(K:Fg):R2:=λx y H Q=>∃l b xs zs,x=.ref l/\y=.ref b/\Ro K H l xs/\Ro K H b zs/\xs.length+zs.length<=sizeLine/\∀p,H p=none->Q (.ref p) (upd H p<|.lst<|xs++zs)
def HG:K_ X (binaryOp .Add) (aA X.K):=by
 intro pins s Z H x y v u Q I rx ry h;let{l,b,xs,zs,rfl,rfl,hH,hB,hz,q}:=h
 cases rx
 cases ry
 let{i_,r,pl,_}:=I.list hH;let{Tu,r2,pl2,_}:=I.list hB;let{{cls,dd,data,sl},ho,hc,n,hd}:=id pl.isList;let{{Y8,WB,data2,Wr},TF,hc2,n2,hd2}:=id pl2.isList;subst hc hd hc2 hd2;have e:i_.toArray++Tu.toArray=(i_++Tu).toArray:=by simp
 refine concat_meets {_,ho,rfl} {_,TF,rfl} noFill_list_add seq_list_add PySem.F.slot_list_add PySem.F.entry_list_add (PySem.F.args_list_add_2 _ _) (list_addW l b i_.toArray Tu.toArray n n2 dd WB sl Wr (by rw[ig,ig,<-r.length,<-r2.length];exact hz)) {ho,TF,?_};rw[e];exact{.ref _,_,I.laid  (o:=.lst (xs++zs)) (λb ob q=>v_ _ q) ?ji {by rw[xP];exact hz,_,0,r.append r2,cN _ rfl},rfl,q _ ?jA}
def eG:R2:=λx y H Q=>∃i j,x=.str i/\y=.str j/\i.length+j.length<=sizeLine/\Q (.str<|i++j) H
def bv(K:Fg):R2:=λx y H Q=>lf (λi j=>.int<|i+j) x y H Q\/(eG x y H Q\/(mq K x y H Q\/aA K x y H Q))
def Jm:K_ X (binaryOp .Add) (bv X.K):=Z4.or<|K_.or Qf<|YI.or HG
def Kc:qY K (bv K) bE:=by
 intro G F Z H ρ x y dx dy res Q S ox oy e k
 cases dx<;>first|exact SO e|(cases dy<;>try (exact SO e))
 ·cases e;exact .inl {_,_,ox.int,oy.int,k _ F H ?J S<|.int _}
 ·dsimp only[bE]at e;split at e
  ·rename_i hz
   cases e
   exact .inr<|.inl {_,_,ox.str,oy.str,hz,k _ F H ?J S<|.str _}
  ·cases e
 ·dsimp only[bE]at e;split at e
  ·rename_i hz
   cases e
   let{a,vs,rfl,h1,h2}:=ox.list S.fh;let{b,us,rfl,g1,g2}:=oy.list S.fh;refine .inr (.inr (.inr {a,b,vs,us,rfl,rfl,h1,g1,by rw[h2.length,g2.length];exact hz,λp hp=>?_}));let{S2,r2}:=S.M_ hp<|h2.append g2;let{F2,s3,S3,r3}:=S2.settle r2;exact k _ F2 _ s3 S3 r3
  ·cases e
 ·dsimp only[bE]at e;split at e
  ·rename_i hz
   cases e
   let{a,vs,rfl,h1,h2}:=ox.tuple S.fh;let{b,us,rfl,g1,g2}:=oy.tuple S.fh;refine .inr (.inr (.inl {a,b,vs,us,rfl,rfl,h1,g1,by rw[h2.length,g2.length];exact hz,λz=>?_,λ_ z=>?_,λ_ _ p hp=>?_}))
   ·have z':=(Ay h2).mp z;subst z';exact k _ F H ?J S oy.Yw
   ·have z':=(Ay g2).mp z;subst z';exact k _ F H ?J S (by rw[je];exact ox.Yw)
   ·let{s2,S2,r2}:=S.R_ hp<|h2.append g2;exact k _ _ _ s2 S2 r2
  ·cases e
theorem h_.rep{ds:Re D}(h:h_ K F vs ds):∀k:Nat,h_ K F (List.replicate k vs).flatten (List.replicate k ds).flatten
 | 0=>.nil
 | k+1=>(h.append<|h_.rep h k)
def D6:qY K (rI Zg λi j=>.int<|i*j) fN:=okI λdx dy res e=>by
 cases dx<;>first|exact SO e|(cases dy<;>try (exact SO e))
 rename_i i j;dsimp only[fN]at e;split at e
 ·rename_i hc
  cases e
  unfold bq at hc;simp  [si,am,aQ]at hc;exact{i,j,rfl,rfl,hc,λ_ _=>.int _}
 ·cases e
end
def uh(d e:D):Bool:=d.canLay0&&e.canLay0&&decide (d.depth<=1000)
def bp(d e:D):SL Bool:=if uh d e then some (PyData.eqv d e)else none
def cI(d e:D):SL Bool:=if uh d e then some (!PyData.eqv d e)else none
def lG(d:D)(xs:Re D):Bool:=PyData.canLayAll0 xs&&d.canLay0&&decide (d.depth<=1000)
def f6(i j:Str):Bool:=!(Builtin.Str.occurrences j i 0 j.length 1).isEmpty
def xF(d c:D):SL Bool:=match c with
 | .list xs=>if lG d xs then some (xs.any λy=>PyData.eqv y d)else none
 | .tuple xs=>if lG d xs then some (xs.any λy=>PyData.eqv y d)else none
 | .str j=>match d with
  | .str i=>some<|f6 i j
  | _=>none
 | _=>none
def iE(d c:D):SL Bool:=match c with
 | .list xs=>if lG d xs then some (!xs.any λy=>PyData.eqv y d)else none
 | .tuple xs=>if lG d xs then some (!xs.any λy=>PyData.eqv y d)else none
 | .str j=>match d with
  | .str i=>some<|!f6 i j
  | _=>none
 | _=>none
def isNone:D->Bool
 | .none=>true
 | _=>false
def fW(d e:D):SL Bool:=match e with
 | .none=>some<|isNone d
 | _=>none
def jy(d e:D):SL Bool:=match e with
 | .none=>some<|!isNone d
 | _=>none
def pR(K:Fg)(f:D->D->SL Bool):R2:=λx y H Q=>∃d e b,T3 K H x d/\T3 K H y e/\f d e=some b/\Q (.bl b) H
def D5{f:D->D->SL Bool}:rT K (pR K f) f:=by
 intro G F Z H ρ x y dx dy res Q S ox oy e k;exact{dx,dy,res,ox.rep S.fh,oy.rep S.fh,e,k}
def Rep.Th{d:D}(r:Rep K F v d):(decide<|v=.Rq)=isNone d:=by
 cases r<;>rfl
def T3.Th{d:D}(r:T3 K F v d):(decide<|v=.Rq)=isNone d:=by
 let r||{a,kvs,es,rfl,rfl,_}:=r
 ·exact Rep.Th r
 ·rfl
section
def XD(hu:X.A.units+1100<cLine):K_ X (compareOp .Eq) (pR X.K bp):=by
 intro pins s Z H x y v u Q I rx ry ⟨d,e,b,r1,r2,ho,q⟩;unfold bp at ho;split at ho
 case isFalse=>cases ho
 rename_i hc
 cases ho
 simp  [uh,am,aQ]at hc;let{as,ra}:=(SP I).1 (r1.of<|Ka hc.1.1) hc.1.1 rx;let{bs,rb}:=(SP I).1 (r2.of<|Ka hc.1.2) hc.1.2 ry;exact SeqAt.compareEq_reads ra rb hc.1.1 hc.1.2 ?jc {.bl _,H,I,rfl,q}
def OH(hu:X.A.units+1100<cLine):K_ X (compareOp .NotEq) (pR X.K cI):=by
 intro pins s Z H x y v u Q I rx ry ⟨d,e,b,r1,r2,ho,q⟩;unfold cI at ho;split at ho
 case isFalse=>cases ho
 rename_i hc
 cases ho
 simp  [uh,am,aQ]at hc;let{as,ra}:=(SP I).1 (r1.of<|Ka hc.1.1) hc.1.1 rx;let{bs,rb}:=(SP I).1 (r2.of<|Ka hc.1.2) hc.1.2 ry;exact SeqAt.compareNe_reads ra rb hc.1.1 hc.1.2 ?jc {.bl _,H,I,rfl,q}
def KR(hu:X.A.units+1100<cLine):K_ X (compareOp .In) (pR X.K xF):=by
 intro pins s Z H x y v u Q I rx ry ⟨d,e,b,r1,r2,ho,q⟩;unfold xF at ho;split at ho
 ·split at ho
  case isFalse=>cases ho
  rename_i hc
  cases ho
  simp  [lG,am,aQ]at hc;let{as,ra}:=(SP I).1 (r1.of<|Ka hc.1.2) hc.1.2 rx;let{bs,rb}:=(SP I).1 (r2.of rfl) (by simpa[PyData.canLay0]using hc.1.1) ry;exact SeqAt.in_list_reads rb ra hc.1.1 hc.1.2 ?jc {.bl _,H,I,rfl,q}
 ·split at ho
  case isFalse=>cases ho
  rename_i hc
  cases ho
  simp  [lG,am,aQ]at hc;let{as,ra}:=(SP I).1 (r1.of<|Ka hc.1.2) hc.1.2 rx;let{bs,rb}:=(SP I).1 (r2.of rfl) (by simpa[PyData.canLay0]using hc.1.1) ry;exact SeqAt.in_tuple_reads rb ra hc.1.1 hc.1.2 ?jc {.bl _,H,I,rfl,q}
 ·split at ho
  ·cases ho
   obtain rfl:=(r1.of rfl).str_inv;obtain rfl:=(r2.of rfl).str_inv;exact CN pins s Z H _ _ v u Q I rx ry {_,_,rfl,rfl,q}
  ·cases ho
 ·cases ho
def CM(hu:X.A.units+1100<cLine):K_ X (compareOp .NotIn) (pR X.K iE):=by
 intro pins s Z H x y v u Q I rx ry ⟨d,e,b,r1,r2,ho,q⟩;unfold iE at ho;split at ho
 ·split at ho
  case isFalse=>cases ho
  rename_i hc
  cases ho
  simp  [lG,am,aQ]at hc;let{as,ra}:=(SP I).1 (r1.of<|Ka hc.1.2) hc.1.2 rx;let{bs,rb}:=(SP I).1 (r2.of rfl) (by simpa[PyData.canLay0]using hc.1.1) ry;exact SeqAt.notIn_list_reads rb ra hc.1.1 hc.1.2 ?jc {.bl _,H,I,rfl,q}
 ·split at ho
  case isFalse=>cases ho
  rename_i hc
  cases ho
  simp  [lG,am,aQ]at hc;let{as,ra}:=(SP I).1 (r1.of<|Ka hc.1.2) hc.1.2 rx;let{bs,rb}:=(SP I).1 (r2.of rfl) (by simpa[PyData.canLay0]using hc.1.1) ry;exact SeqAt.notIn_tuple_reads rb ra hc.1.1 hc.1.2 ?jc {.bl _,H,I,rfl,q}
 ·split at ho
  ·cases ho
   obtain rfl:=(r1.of rfl).str_inv;obtain rfl:=(r2.of rfl).str_inv;exact Qa pins s Z H _ _ v u Q I rx ry {_,_,rfl,rfl,q}
  ·cases ho
 ·cases ho
def HC:K_ X (compareOp .Is) (pR X.K fW):=by
 intro pins s Z H x y v u Q I rx ry ⟨d,e,b,r1,r2,ho,q⟩;unfold fW at ho;split at ho
 ·cases ho
  cases r2.of rfl
  refine KZ pins s Z H x _ v u Q I rx ry {rfl,?_};rw[T3.Th r1];exact q
 ·cases ho
def E2:K_ X (compareOp .IsNot) (pR X.K jy):=by
 intro pins s Z H x y v u Q I rx ry ⟨d,e,b,r1,r2,ho,q⟩;unfold jy at ho;split at ho
 ·cases ho
  cases r2.of rfl
  refine HE pins s Z H x _ v u Q I rx ry {rfl,?_};rw[T3.Th r1];exact q
 ·cases ho
end
def fO:D->D->SL D
 | .list ds,.int i=>fT ds i
 | .tuple ds,.int i=>fT ds i
 | .str z,.int i=>if z.length<=sizeLine then(fT z.cps.toList i).map λc=>.str {#[c]}else none
 | _,_=>none
def MS{ds:Re D}{i:Int}{d:D}(r:h_ K F vs ds)(h:fT ds i=some d):∃v,fT vs i=some v/\Rep K F v d:=by
 unfold fT at h ⊢;rw[r.length]
 cases q:WQ ds.length i with
 | none=>rw[q]at h;cases h
 | some j =>
  rw[q]at h;exact r.get  h
def Nt:qY K (rIx K) fO:=by
 intro G F Z H ρ x y dx dy res Q S ox oy e k
 cases dx<;>first|exact SO e|(cases dy<;>try (exact SO e))
 ·dsimp only[fO]at e;split at e
  ·rename_i hz;let{c,hc,rfl}:=Option.map_eq_some_iff.mp e;exact .inr<|.inr {_,_,c,ox.str,oy.int,hz,hc,k _ F H ?J S<|.str _}
  ·cases e
 ·let{a,vs,rfl,h1,h2}:=ox.list S.fh;let{v,e1,e2}:=MS h2 e;exact .inl {a,vs,_,v,rfl,oy.int,h1,e1,k v F H ?J S e2}
 ·let{a,vs,rfl,h1,h2}:=ox.tuple S.fh;let{v,e1,e2}:=MS h2 e;exact .inr<|.inl {a,vs,_,v,rfl,oy.int,h1,e1,k v F H ?J S e2}
theorem Vals.one{us:Re SZ}(h:Vals [v] us):∃u,us=[u]/\RelV v u:=by
 cases h with|cons a b=>cases b;exact{_,rfl,a}
def dm:Re D->SL D
 | [.list ds]=>some<|.int ds.length
 | [.tuple ds]=>some<|.int ds.length
 | [.str z]=>if z.length<=sizeLine then some (.int z.length)else none
 | _=>none
def dJ:Re D->SL D
 | [.list ds]=>some<|.tuple ds
 | [.tuple ds]=>some<|.tuple ds
 | _=>none
def gY:Re D->SL D
 | [.int i,.int j]=>some<|.int<|if j<i then j else i
 | _=>none
def aT(K:Fg):Re V->Hp->VK->Prop:=λxs H Q=>(∃p ys,xs=[.ref p]/\(Ro K H p ys\/A_ K H p ys)/\Q (.int ys.length) H)\/∃z,xs=[.str z]/\z.length<=sizeLine/\Q (.int z.length) H
def J7:k_ X (.builtin "len") (aT X.K):=k_.or QE QF
def Pr:iB K (aT K) dm:=by
 intro G F Z H ρ xs ds res Q S o e k;unfold dm at e;split at e
 ·cases e
  let{v,r,rfl,ho,hr}:=Ou o;obtain rfl:=PG hr;let{a,vs,rfl,h1,h2}:=ho.list S.fh;exact .inl {a,vs,rfl,.inl h1,k _ F H ?J S (by rw[h2.length];exact .int _)}
 ·cases e
  let{v,r,rfl,ho,hr}:=Ou o;obtain rfl:=PG hr;let{a,vs,rfl,h1,h2}:=ho.tuple S.fh;exact .inl {a,vs,rfl,.inr h1,k _ F H ?J S (by rw[h2.length];exact .int _)}
 ·split at e
  ·rename_i hz
   cases e
   let{v,r,rfl,ho,hr}:=Ou o;obtain rfl:=PG hr;exact .inr {_,by rw[ho.str],hz,k _ F H ?J S<|.int _}
  ·cases e
 ·cases e
def GS:iB K (λxs H Q=>∃p ys,xs=[.ref p]/\((Ro K H p ys/\∀l,H l=none->Q (.ref l) (upd H l<|.tup ys))\/(A_ K H p ys/\Q (.ref p) H))) dJ:=by
 intro G F Z H ρ xs ds res Q S o e k;unfold dJ at e;split at e
 ·rename_i es
  cases e
  let{v,r,rfl,ho,hr}:=Ou o;obtain rfl:=PG hr;let{a,vs,rfl,h1,h2}:=ho.list S.fh;refine{a,vs,rfl,.inl {h1,λl hl=>?_}};let{s2,S2,r2}:=S.R_ hl h2;exact k _ _ _ s2 S2 r2
 ·rename_i es
  cases e
  let{v,r,rfl,ho,hr}:=Ou o;obtain rfl:=PG hr;have ho:=ho.Yw
  cases ho with
  | tup h1 h2=>exact{_,_,rfl,.inr {A_.of<|S.fh _ _ h1,k _ F H ?J S<|show Rep K F _ _ from .tup h1 h2}}
 ·cases e
def HK:iB K (λxs H Q=>∃i j,xs=[.int i,.int j]/\Q (.int<|if j<i then j else i) H) gY:=by
 intro G F Z H ρ xs ds res Q S o e k;unfold gY at e;split at e
 ·cases e
  let{v,r,rfl,ho,hr}:=Ou o;let{v2,r2,rfl,TF,hr2}:=Ou hr;obtain rfl:=PG hr2;exact{_,_,by rw[ho.int,TF.int],k _ F H ?J S<|(.int _)}
 ·cases e
def oX(d:D):Bool:=d.showable&&d.canLay0&&decide (d.depth<=1000)&&decide (d.shown.length<=sizeLine)
def jW:Re D->SL D
 | [d]=>if oX d then some (.str d.shown)else none
 | _=>none
def af(K:Fg):Re V->Hp->VK->Prop:=λxs H Q=>∃v d,xs=[v]/\Rep K H v d/\oX d=true/\Q (.str d.shown) H
def SV:iB K (af K) jW:=by
 intro G F Z H ρ xs ds res Q S o e k;unfold jW at e;split at e
 ·rename_i d;split at e
  ·rename_i hc
   cases e
   let{v,r,rfl,ho,hr}:=Ou o;obtain rfl:=PG hr;exact{v,d,rfl,(ho.rep S.fh).of (Ka (by simp[oX]at hc;exact hc.1.1.2)),hc,k _ F H ?J S<|.str _}
  ·cases e
 ·cases e
def XR(hu:X.A.units+1100<cLine)(hg:X.A.guards=some []):k_ X (.builtin "repr") (af X.K):=by
 intro pins s Z H xs us Q I r h0;let{v,d,rfl,rp,hc,q}:=h0;let{u,rfl,ru}:=Vals.one r;simp  [oX,am,aQ]at hc;let{as,ra}:=(SP I).1 rp hc.1.1.2 ru;have big:∀a,v=.ref a->wpAny ?B X.A (call (.builtin "repr") [u]) ?jq X.xe s:=λa e=>by
  subst e
  cases ru
  exact repr_of_reads' ra hc.1.1.1 (PyData.noDict_hsm<|PyData.hasDict_of_canLay d hc.1.1.2) hg ?A (λ_ _ e=>e) (λh' u tk hk=>{.str _,H,I.kept hk,{_,rfl},q}) hc.2
 cases rp with
 | Rq=>cases ru;exact PySem.P.repr_of_none {.str _,H,I.tok _,{_,rfl},q}
 | bl b=>cases ru;exact PySem.P.repr_of_bool {.str _,H,I.tok _,{_,rfl},q}
 | int i=>let{t,rfl}:=ru;exact PySem.P.repr_of_int (by simpa[PyData.showable]using hc.1.1.1) {.str _,H,I.tok _,{_,rfl},q}
 | str x=>let{t,rfl}:=ru;exact PySem.P.repr_of_str {.str _,H,I.tok _,{_,rfl},q} hc.2
 | tup h1 h2=>exact big _ rfl
 | lst h1 h2=>exact big _ rfl
 | Vu h1 h2 h3=>exact big _ rfl
 | ZI h1 h2 h3=>exact big _ rfl
 | exc _ _ _ _ _=>exact big _ rfl
 | fn _=>exact big _ rfl
def aq:D->String
 | .none => "NoneType"
 | .bool _ => "bool"
 | .int _ => "int"
 | .str _ => "str"
 | .list _ => "list"
 | .tuple _ => "tuple"
 | .dict es=>if sL es then "" else "dict"
def isS(T S:String):Bool:=S==T||(S == "bool" && T == "int")
noncomputable def Wu(T:String)(d:D):Bool:=isS T<|aq d
def intsOf:Re D->SL (Re Int)
 | []=>some []
 | .int i::r=>match intsOf r with
  | some l=>some<|i::l
  | none=>none
 | _=>none
def NJ:∀{ds:Re D} {ns:Re Int},intsOf ds=some ns->ds=ns.map PyData.int
 | [],ns,h=>by cases h;rfl
 | .int i::r,ns,h=>by
  dsimp only[intsOf]at h;split at h
  ·rename_i l e;cases h;rw[NJ e];rfl
  ·cases h
 | .none::_,_,h=>by cases h
 | .bool _::_,_,h=>by cases h
 | .str _::_,_,h=>by cases h
 | .list _::_,_,h=>by cases h
 | .tuple _::_,_,h=>by cases h
 | .dict _::_,_,h=>by cases h
def AO(ns:Re Int):intsOf ?jf=some ns:=by
 induction ns with
 | nil=>rfl
 | cons n r ih=>simp[intsOf,ih]
def AT{K:Fg}{F:Hp}:∀{vs:Re V} {ns:Re Int},h_ K F vs ?jf->vs=ns.map V.int
 | _,[],h=>by cases h;rfl
 | _,n::r,h=>by
  cases h with
  | cons a b=>cases a;rw[AT b];rfl
def AW:∀{ns:Re Int} {us:Re SZ},Vals ?jG us->∃ps:Re (Int×Tok),us=ps.map (λp=>Value.int p.1 p.2)/\ps.map Prod.fst=ns
 | [],_,h=>by cases h;exact{[],rfl,rfl}
 | n::r,_,h=>by
  cases h with
  | cons a b =>
   let{t,rfl}:=a;let{ps,rfl,e}:=AW b;exact{(n,t)::ps,rfl,by simp[e]}
def rj(ns:Re Int):Bool:=ns.all (λi=>decide<|i.natAbs<=2^40)&&decide (ns.length<=2^20)
def bF:Re D->SL D
 | [.list ds]=>match intsOf ds with
  | some ns=>if rj ns then some (.int ns.sum)else none
  | none=>none
 | _=>none
def wl:Re Int->Int
 | []=>0
 | n::r=>r.foldl max n
def aG:Re D->SL D
 | [.list ds]=>match intsOf ds with
  | some (n::r)=>some<|.int<|wl<|n::r
  | _=>none
 | [.int i,.int j]=>some<|.int<|if j>i then j else i
 | _=>none
def pT(K:Fg)(f:Re Int->SL Int):Re V->Hp->VK->Prop:=λxs H Q=>∃a ns i,xs=[.ref a]/\Ro K H a ?jG/\f ns=some i/\Q (.int i) H
def wz(ns:Re Int):SL Int:=if rj ns then some ns.sum else none
def eK:Re Int->SL Int
 | []=>none
 | ns=>some<|wl ns
def K4:iB K (pT K wz) bF:=by
 intro G F Z H ρ xs ds res Q S o e k;unfold bF at e;split at e
 case h_2=>cases e
 split at e
 case h_2=>cases e
 rename_i ns W_;split at e
 case isFalse=>cases e
 rename_i hc
 cases e
 let{v,r,rfl,ho,hr}:=Ou o;obtain rfl:=PG hr;let{a,vs,rfl,h1,h2}:=ho.list S.fh;rw[NJ W_]at h2;rw[AT h2]at h1;exact{a,ns,_,rfl,h1,by unfold wz;rw[ap hc],k _ F H ?J S<|(.int _)}
def AB{ps:Re (Int×Tok)}{i:Nat}:numAt ps.toArray i=(ps.map Prod.fst).getD i 0:=by
 unfold numAt
 grind
def AA(ns:Re Int):∀j,j<=ns.length->preSum (λi=>ns.getD i 0) j=(ns.take j).sum
 | 0,_=>rfl
 | j+1,h=>by
  rw[preSum,AA ns j ?A,List.take_add_one]
  grind
theorem sum_bound(B:Nat):∀(ns:Re Int),(∀i∈ns,i.natAbs<=B)->ns.sum.natAbs<=ns.length*B
 | [],_=>by simp
 | n::r,h=>by
  have h1:=h n da;have h2:=sum_bound B r λi hi=>h i<|xO _ hi
  rw[hV,f8,Nat.succ_mul];omega
def Dv(hc:X.calm=true):k_ X (.builtin "sum") (pT X.K wz):=by
 intro pins s Z H xs us Q I r h0;let{a,ns,i,rfl,hq,e,q}:=h0;let{u,rfl,ru}:=Vals.one r
 cases ru
 unfold wz at e;split at e
 case isFalse=>cases e
 rename_i j_
 cases e
 let{i_,rv,pl,hz}:=I.list hq;let{ps,rfl,rfl}:=AW rv;have zae:∀j,numAt ps.toArray j=(ps.map Prod.fst).getD j 0:=λj=>AB
 have XX:=funext zae;unfold rj at j_;simp![am,su,aQ]at j_;have hl:s.heap.IsList a (intItems ps.toArray):=by
  have:=pl.isList;unfold intItems;simpa using this
 have bnd:∀j,j<=ps.length->((ps.map Prod.fst).take j).sum.natAbs<=2^60:=λj hj=>by
  have h1:=sum_bound (2^40) ((ps.map Prod.fst).take j) λi hi=>j_.1 i<|List.mem_of_mem_take hi
  grind
 refine sum_intList (I.ok.hd hc) hl (λj hj=>?_) λh' tk t' hk=>?_
 ·have Xa:j<ps.length:=(hj);rw[XX,AA _ _ ?jd];have h2:((ps.map Prod.fst).getD j 0).natAbs<=2^40:=by
   grind
  unfold InLong
  grind
 ·refine{.int _,H,I.kept hk,{_,rfl},?_};rw[XX,AA _ _ ?E,se ?E];exact q
def K7:iB K (λxs H Q=>pT K eK xs H Q\/∃i j,xs=[.int i,.int j]/\Q (.int<|if j>i then j else i) H) aG:=by
 intro G F Z H ρ xs ds res Q S o e k;unfold aG at e;split at e
 ·split at e
  case h_2=>cases e
  rename_i n r' W_
  cases e
  let{v,r,rfl,ho,hr}:=Ou o;obtain rfl:=PG hr;let{a,vs,rfl,h1,h2}:=ho.list S.fh;rw[NJ W_]at h2;rw[AT h2]at h1;exact .inl {a,_,_,rfl,h1,rfl,k _ F H ?J S<|(.int _)}
 ·cases e
  let{v,r,rfl,ho,hr}:=Ou o;let{v2,r2,rfl,TF,hr2}:=Ou hr;obtain rfl:=PG hr2;exact .inr {_,_,by rw[ho.int,TF.int],k _ F H ?J S<|(.int _)}
 ·cases e
def Dl(r:Re Int):∀n:Int,n<=r.foldl max n/\(∀i∈r,i<=r.foldl max n)/\(r.foldl max n=n\/r.foldl max n∈r):=by
 induction r with
 | nil=>intro n;exact{xA _,λi hi=>(nomatch hi),.inl rfl}
 | cons a r ih =>
  intro n;let{h1,h2,h3}:=ih<|max n a;rw[ng];refine{by lia,λi hi=>?_,?_}
  ·let rfl||hi:=List.mem_cons.mp hi
   ·lia
   ·exact h2 i hi
  ·let h3||h3:=h3
   ·rw[h3];by_cases hna:n<=a
    ·right;rw[show max n a=a by lia];exact da
    ·left;lia
   ·right;exact xO _ h3
def Ys{ns:Re Int}(h:ns≠[]):(∀i∈ns,i<=wl ns)/\wl ns∈ns:=by
 cases ns with
 | nil=>exact absurd rfl h
 | cons n r =>
  let{h1,h2,h3}:=Dl r n;refine{λi hi=>?_,?_}
  ·let rfl||hi:=List.mem_cons.mp hi
   ·exact h1
   ·exact h2 i hi
  ·let h3||h3:=h3
   ·show r.foldl max n∈_;grind
   ·exact xO _ h3
def DC(hc:X.calm=true):k_ X (.builtin "max") (pT X.K eK):=by
 intro pins s Z H xs us Q I r h0;let{a,ns,i,rfl,hq,e,q}:=h0;let{u,rfl,ru}:=Vals.one r
 cases ru
 let{i_,rv,pl,hz}:=I.list hq;let{ps,rfl,rfl}:=AW rv;have WR:ps≠[]:=by rintro rfl;cases e
 have XT:ps.map Prod.fst≠[]:=by simpa using WR
 have ei:i=wl (ps.map Prod.fst):=by
  cases hp:ps.map Prod.fst with
  | nil=>exact absurd hp XT
  | cons n r=>rw[hp]at e;cases e;rfl
 subst ei;have hl:s.heap.IsList a (intItems ps.toArray):=by
  have:=pl.isList;unfold intItems;simpa using this
 have XM:=List.length_pos_iff.mpr WR;refine max_intList (I.ok.hd hc) hl ((XM)) λv h' tk hv hk=>?_
 let{t,rfl}:=intItems_at hv;refine{.int _,H,I.kept hk,{_,rfl},?_};have b:=argBest_gt (numAt ps.toArray) ?qh;generalize argBest (λi j=>decide<|numAt ps.toArray i>numAt ps.toArray j) ?qh=m at b hv;have Uy:=Ys XT;have e1:numAt ps.toArray m=wl (ps.map Prod.fst):=by
  refine Int.le_antisymm ?_ ?_
  ·refine Uy.1 _ ?_;rw[AB]
   grind
  ·let{j,hj,ej}:=ou Uy.2;have h0:=b.2 j (by simp at hj ⊢;lia);rw[AB]at h0
   grind
 rw[e1];exact q
def aK(S T:String):SL Bool:=if(Value.type S==Value.type T)=true then some true else if PySem.W.kitMeta T=true then(fastBuiltinMro S).map (·.contains<|.type T)else none
def Ig:∀S∈["NoneType","bool","int","str","list","tuple","dict"],∀T∈["bool","int","str","list","tuple","dict"],aK S T=some (isS T S):=by decide +kernel
def FG(K:Fg)(h:vw T=true)(d:D)(hx:∀es,d=.dict es->sL es=false):PySem.W.kitOne K (.type<|aq d) (.type T)=some (Wu T d):=by
 simp  [vw,si,beq_iff_eq]at h;refine Ig (aq d) ?_ T (by rcases h with ((((rfl|rfl)|rfl)|rfl)|rfl)|rfl<;>simp)
 cases d with
 | dict es=>simp[aq,hx es rfl]
 | _=>simp[aq]
def FK{es:Re ?M}(h:es.map (·.1)=kvs.map ?qg):sL es=false:=by
 cases es with
 | nil=>rfl
 | cons e r =>
  cases kvs with
  | nil=>cases h
  | cons k ks =>
   let{e1,e2}:=e;simp  [aw,List.cons.injEq]at h;rw[h.1];rfl
def FL{kvs:Re (Key×V)}{es:Re ?M}(h:es.map (·.1)=kvs.map (λp=>N_ p.1)):sL es=false:=by
 cases es with
 | nil=>rfl
 | cons e r =>
  cases kvs with
  | nil=>cases h
  | cons k ks =>
   let{e1,e2}:=e;let{k1,k2}:=k;simp  [aw,List.cons.injEq]at h;rw[h.1]
   cases k1<;>rfl
def GY(h:vw T=true):isS T "" = false:=by
 simp  [vw,si,beq_iff_eq]at h;rcases h with ((((rfl|rfl)|rfl)|rfl)|rfl)|rfl<;>rfl
def AL(hT:vw T=true){a:Tl}{es:Re ?M}{u:SZ}{Q:t_}{E:t_}(I:Inv X pins Z H s)(h1:Rd H a (.dT kvs))(h2:es.map (·.1)=kvs.map ?qg)(ru:RelV (.ref a) u)
  (h:∀tk,Q (.bool<|Wu T<|.dict es) { s with toks:=tk }):wpAny ?B X.A (call (.builtin "isinstance") [u,.type T]) Q E s:=by
 have e:=FG X.K hT (.dict es) λ_ z=>by cases z;exact FK h2
 rw[show aq (.dict _) = "dict" from by simp[aq,FK h2]]at e
 cases ru
 let{z,y,xs,kt,o,es,ep,g1,g2,_}:=Q3 I.j_ h1;exact rq PySem.W.kitx_dict I.Vb {o,g1,g2.1} e ?jn h
def KM(hT:vw T=true){d:D}{u:SZ}{Q:t_}{E:t_}(I:Inv X pins Z H s)(rp:Rep X.K H v d)(nf:isFn d=false)(ru:RelV v u)
  (h:∀tk,Q (.bool<|Wu T d) { s with toks:=tk }):wpAny ?B X.A (call (.builtin "isinstance") [u,.type T]) Q E s:=by
 have ee:=FG X.K hT d
 cases rp with
 | Rq =>
  have e:=ee λ_ z=>by cases z
  cases ru;exact rq PySem.W.kitx_none I.Vb True.intro e ?jn h
 | bl y =>
  have e:=ee λ_ z=>by cases z
  cases ru;exact rq PySem.W.kitx_bool I.Vb True.intro e ?jn h
 | int i =>
  have e:=ee λ_ z=>by cases z
  let{t,rfl}:=ru;exact rq PySem.W.kitx_int I.Vb True.intro e ?jn h
 | str y =>
  have e:=ee λ_ z=>by cases z
  let{t,rfl}:=ru;exact rq PySem.W.kitx_str I.Vb True.intro e ?jn h
 | lst h1 h2 =>
  have e:=ee λ_ z=>by cases z
  cases ru
  let{i_,_,{o,n,e1,e2,_},_}:=I.list h1;exact rq PySem.W.kitx_list I.Vb {o,e1,e2} e ?jn h
 | tup h1 h2 =>
  have e:=ee λ_ z=>by cases z
  cases ru
  let{i_,_,{o,e1,e2,_},_}:=I.tuple<|A_.of h1;exact rq PySem.W.kitx_tuple I.Vb {o,e1,e2} e ?jn h
 | Vu h1 h2 h3=>exact AL hT I (.inr {_,h1}) h2 ru h
 | ZI h1 h2 h3 =>
  have e:=ee λ_ z=>by cases z;exact FL h2
  rw[show aq (.dict _) = "dict" from by simp[aq,FL h2]]at e
  cases ru
  let{z,y,xs,kt,o,es,ep,g1,g2,_}:=BU I.j_ h1;exact rq PySem.W.kitx_dict I.Vb {o,g1,g2.1} e ?jn h
 | exc h1 q fx h2 h3 =>
  cases ru
  let{D,fI,xc}:=q.xc
  have at_:XAt H _ _ _:={h1,λdx z=>by
   let{z',_}||{dx',z',y}:=fx
   ·rw[z']at z;cases z
   ·rw[z']at z;cases z;exact{_,y}}
  refine Ot I xc q.kc at_ (q.no T hT) ?_;rw[show Wu T (.dict<|(.none,.str _)::_)=false from GY hT]at h;exact h
 | fn _=>cases nf
section
variable {G:Gh} {ρ':En}
theorem _root_.L3.b_.weak(S:b_ K G F Z H ρ)(hl:ρ'.length=ρ.length)(h:∀(i:Nat) (av:AV),ρ'[i]? = some (some av)->ρ[i]? = some (some av))(hp:∀(i:Nat) (c:OC),ρ[i]? = some (some<|AV.op c)->ρ'[i]? = some (some<|AV.op c)):b_ K G F Z H ρ':=by
 have ow':∀j c,own ρ' j c->own ρ j c:=λj c q=>q.imp (h _ _)<|h _ _
 refine{S.fh,S.oh,S.fo,S.ln.trans hl.symm,λj d q=>S.fz j d<|h _ _ q,λj c q=>S.ow j c<|ow' j c q,λj k c e a h1 h2=>S.dj j k c e a (ow' j c h1)<|ow' k e h2,λj a q=>?_,λj c q=>S.pq j c<|h _ _ q,S.fb}
 grind
def LP{k:Nat}{i:Nat}{av:AV}(h:?jJ[i]? = some (some av)):ρ[i]? = some (some av):=by
 grind
theorem _root_.L3.b_.grow(S:b_ K G F Z H ρ)(k:Nat):b_ K G F (Z++List.replicate k none) H ?jJ:=by
 have ow':∀i c,own ?jJ i c->own ρ i c:=λi c h=>by
  let h||h:=h
  ·exact .inl<|LP h
  ·exact .inr<|LP h
 refine{S.fh,S.oh,S.fo,by simp[S.ln],λi d h=>?_,λi c h=>?_,λi j c e a h1 h2 e1 e2=>?_,λi a h=>?_,λi c h=>S.pq i c<|LP h,S.fb}
 ·grind
 ·grind
 ·grind
 grind
theorem _root_.L3.b_.shrink(S:b_ K G F Z H ρ)(hn:n<=ρ.length)(hp:∀i a,G.P i=some a->i<n):b_ K G F (Z.take n) H (ρ.take n):=by
 have tk:∀{i:Nat} {v:AV},(ρ.take n)[i]? = some (some v)->i<n/\ρ[i]? = some (some v):=λ{i v} e=>by
  have hi:i<n:=by
   have:=(List.getElem?_eq_some_iff.mp e).1;rw[wT]at this;lia
  rw[mR hi]at e;exact{hi,e}
 have ow':∀i c,own (ρ.take n) i c->i<n/\own ρ i c:=λi c h=>by
  let h||h:=h
  ·exact{(tk h).1,.inl (tk h).2}
  ·exact{(tk h).1,.inr (tk h).2}
 refine{S.fh,S.oh,S.fo,by simp[S.ln],λi d h=>?_,λi c h=>?_,λi j c e a h1 h2 e1 e2=>?_,λi a h=>?_,λi c h=>S.pq i c (tk h).2,S.fb}
 ·grind
 ·grind
 ·grind
 grind
end
def JA{l l':Re α}(h:∀j,j<n->l'[j]? = l[j]?)(hl:l.length=n):l'.take n=l:=by
 apply xL
 grind
inductive Kd where
 | z|f|o|p|t|k
 | i (x:Str) (ns:Re Str)|j (x:Str) (ns:Re Str)
 | n
@[reducible] def aM:Re Kd->Type
 | []=>Unit
 | .z::r=>aM r
 | .f::r=>D×aM r
 | .o::r=>Re D×aM r
 | .p::r=>Re D×aM r
 | .t::r=>Re ?M×aM r
 | .k::r=>Re ?M×aM r
 | .i _ _::r=>Re D×aM r
 | .j _ _::r=>Re D×aM r
 | .n::r=>Re NK×aM r
def rd:(sh:Re Kd)->En->SL (aM sh)
 | [],[]=>some ()
 | .z::r,x::ρ=>match x with
  | some (.op _)=>none
  | _=>rd r ρ
 | .f::r,x::ρ=>match x with
  | some (.fz d)=>match rd r ρ with
   | some s=>some (d,s)
   | none=>none
  | _=>none
 | .o::r,x::ρ=>match x with
  | some (.ol<|.l ds)=>match rd r ρ with
   | some s=>some (ds,s)
   | none=>none
  | _=>none
 | .p::r,x::ρ=>match x with
  | some (.op<|.l ds)=>match rd r ρ with
   | some s=>some (ds,s)
   | none=>none
  | _=>none
 | .t::r,x::ρ=>match x with
  | some (.ol<|.t ds)=>match rd r ρ with
   | some s=>some (ds,s)
   | none=>none
  | _=>none
 | .k::r,x::ρ=>match x with
  | some (.ol<|.k ds)=>match rd r ρ with
   | some s=>some (ds,s)
   | none=>none
  | _=>none
 | .i y ns::r,x::ρ=>match x with
  | some (.ol<|.i z ms ds)=>if z=y/\ms=ns then(match rd r ρ with
   | some s=>some (ds,s)
   | none=>none)else none
  | _=>none
 | .j y ns::r,x::ρ=>match x with
  | some (.op<|.i z ms ds)=>if z=y/\ms=ns then(match rd r ρ with
   | some s=>some (ds,s)
   | none=>none)else none
  | _=>none
 | .n::r,x::ρ=>match x with
  | some (.ol<|.n ds)=>match rd r ρ with
   | some s=>some (ds,s)
   | none=>none
  | _=>none
 | _,_=>none
def wr:(sh:Re Kd)->aM sh->En
 | [],_=>[]
 | .z::r,s=>none::wr r s
 | .f::r,s=>some (.fz s.1)::wr r s.2
 | .o::r,s=>some (.ol<|.l s.1)::wr r s.2
 | .p::r,s=>some (.op<|.l s.1)::wr r s.2
 | .t::r,s=>some (.ol<|.t s.1)::wr r s.2
 | .k::r,s=>some (.ol<|.k s.1)::wr r s.2
 | .i y ns::r,s=>some (.ol<|.i y ns s.1)::wr r s.2
 | .j y ns::r,s=>some (.op<|.i y ns s.1)::wr r s.2
 | .n::r,s=>some (.ol<|.n s.1)::wr r s.2
def cn(w ρ:En):Prop:=w.length=ρ.length/\(∀(i:Nat) (av:AV),w[i]? = some (some av)->ρ[i]? = some (some av))/\(∀(i:Nat) (c:OC),ρ[i]? = some (some<|AV.op c)->w[i]? = some (some<|AV.op c))
def E1{w:En}{x:SL AV}(h:cn w ρ):cn (x::w) (x::ρ):=by
 refine{congrArg (· + 1) h.1,λi av q=>?_,λi c q=>?_}
 ·cases i with
  | zero=>exact q
  | succ i=>exact h.2.1 i av q
 ·cases i with
  | zero=>exact q
  | succ i=>exact h.2.2 i c q
def GV{w:En}{x:SL AV}(hx:∀c,x≠some (AV.op c))(h:cn w ρ):cn (none::w) (x::ρ):=by
 refine{congrArg (· + 1) h.1,λi av q=>?_,λi c q=>?_}
 ·cases i with
  | zero=>cases q
  | succ i=>exact h.2.1 i av q
 ·cases i with
  | zero=>grind
  | succ i=>exact h.2.2 i c q
def Nk:∀(sh:Re Kd) (ρ:En) (s:aM sh),rd sh ρ=some s->cn ?j1 ρ
 | [],[],s,h=>{rfl,λi av q=>q,λi c q=>q}
 | [],_::_,s,h=>by cases h
 | a::r,[],s,h=>by cases a<;>cases h
 | .z::r,x::ρ,s,h=>by
  dsimp only[rd]at h;split at h
  ·cases h
  ·rename_i hx;exact GV hx<|Nk r ρ s h
 | .f::r,x::ρ,s,h=>by
  dsimp only[rd]at h;split at h
  ·split at h
   ·rename_i s' e
    cases h
    exact E1 ?qF
   ·cases h
  ·cases h
 | .o::r,x::ρ,s,h=>by
  dsimp only[rd]at h;split at h
  ·split at h
   ·rename_i s' e
    cases h
    exact E1 ?qF
   ·cases h
  ·cases h
 | .p::r,x::ρ,s,h=>by
  dsimp only[rd]at h;split at h
  ·split at h
   ·rename_i s' e
    cases h
    exact E1 ?qF
   ·cases h
  ·cases h
 | .t::r,x::ρ,s,h=>by
  dsimp only[rd]at h;split at h
  ·split at h
   ·rename_i s' e
    cases h
    exact E1 ?qF
   ·cases h
  ·cases h
 | .k::r,x::ρ,s,h=>by
  dsimp only[rd]at h;split at h
  ·split at h
   ·rename_i s' e
    cases h
    exact E1 ?qF
   ·cases h
  ·cases h
 | .i y ns::r,x::ρ,s,h=>by
  dsimp only[rd]at h;split at h
  ·split at h
   ·rename_i hc;split at h
    ·rename_i s' e
     cases h
     let{rfl,rfl}:=hc;exact E1 ?qF
    ·cases h
   ·cases h
  ·cases h
 | .j y ns::r,x::ρ,s,h=>by
  dsimp only[rd]at h;split at h
  ·split at h
   ·rename_i hc;split at h
    ·rename_i s' e
     cases h
     let{rfl,rfl}:=hc;exact E1 ?qF
    ·cases h
   ·cases h
  ·cases h
 | .n::r,x::ρ,s,h=>by
  dsimp only[rd]at h;split at h
  ·split at h
   ·rename_i s' e
    cases h
    exact E1 ?qF
   ·cases h
  ·cases h
theorem _root_.L3.b_.rd{G:Gh}{sh:Re Kd}{s:aM sh}(S:b_ K G F Z H ρ)(h:L4.rd sh ρ=some s):b_ K G F Z H ?j1:=by
 let{h1,h2,h3}:=Nk sh ρ s h;exact S.weak h1 h2 h3
def eV{S:Type}(sh:Re Kd)(k:aM sh->M S)(ρ:En):M S:=match rd sh ρ with
 | some s=>k s
 | none=>.bad
abbrev Ev(S α:Type):=(Ex->En->M S)->(α->En->M S)->En->M S
structure KS(S:Type) where
 nx:En->M S
 rt:D->En->M S
 rl:OC->En->M S
 bk:En->M S
 ct:En->M S
 x:Ex->En->M S
def nB{S:Type}(OK:M S->Prop):Prop:=¬ OK .bad
def lc{S:Type}(X:Cx)(OK:M S->Prop)(x:Ex->En->M S)(G:Gh):Prop:=∀F ρ e,OK (x e ρ)->XW X G F ρ e
def dL{S:Type}(X:Cx)(e:Uf)(m:Ev S D):Prop :=
 ∀(OK:M S->Prop) (x:Ex->En->M S) (k:D->En->M S) (G:Gh) (F:Hp) (Z:L2.St) (H:Hp) (ρ:En) (Q:VK),nB OK->lc X OK x G->b_ X.K G F Z H ρ->OK (m x k ρ) ->
  (∀d v F' H' ρ',c_ F F'->b_ X.K G F' Z H' ρ'->Rep X.K F' v d->OK (k d ρ')->Q v H')->gW X e Z H Q
def iK{S:Type}(X:Cx)(e:Uf)(m:Ev S Bool):Prop :=
 ∀(OK:M S->Prop) (x:Ex->En->M S) (k:Bool->En->M S) (G:Gh) (F:Hp) (Z:L2.St) (H:Hp) (ρ:En) (Q:Bool->Hp->Prop),nB OK->lc X OK x G->b_ X.K G F Z H ρ->OK (m x k ρ) ->
  (∀d F' H' ρ',c_ F F'->b_ X.K G F' Z H' ρ'->OK (k d ρ')->Q d H')->uB X e Z H Q
noncomputable def AEw{S:Type}(X:Cx)(e:Uf)(m:Ev S Bool):Prop :=
 ∀(OK:M S->Prop) (x:Ex->En->M S) (k:Bool->En->M S) (G:Gh) (F:Hp) (Z:L2.St) (H:Hp) (ρ:En) (Q:Bool->Hp->Prop),nB OK->lc X OK x G->b_ X.K G F Z H ρ->OK (m x k ρ) ->
  (∀d F' H' ρ',c_ F F'->b_ X.K G F' Z H' ρ'->OK (k d ρ')->Q d H')->uA X e Z H Q
def va{S:Type}(X:Cx)(e:Uf)(m:Ev S Bool):Prop :=
 ∀(OK:M S->Prop) (x:Ex->En->M S) (k:Bool->En->M S) (G:Gh) (F:Hp) (Z:L2.St) (H:Hp) (ρ:En) (Q:VK),nB OK->lc X OK x G->b_ X.K G F Z H ρ->OK (m x k ρ) ->
  (∀d F' H' ρ',c_ F F'->b_ X.K G F' Z H' ρ'->OK (k d ρ')->Q (.bl d) H')->gW X e Z H Q
def vb{S:Type}(X:Cx)(es:Re Uf)(m:Ev S ?R):Prop :=
 ∀(OK:M S->Prop) (x:Ex->En->M S) (k:Re D->En->M S) (G:Gh) (F:Hp) (Z:L2.St) (H:Hp) (ρ:En) (Q:Re V->Hp->Prop),nB OK->lc X OK x G->b_ X.K G F Z H ρ->OK (m x k ρ) ->
  (∀ds vs F' H' ρ',c_ F F'->b_ X.K G F' Z H' ρ'->vs.length=es.length->h_ X.K F' vs ds->OK (k ds ρ')->Q vs H')->jf X es Z H Q
noncomputable def AEl{S:Type}(X:Cx)(e:Uf)(m:Ev S ?R):Prop :=
 ∀(OK:M S->Prop) (x:Ex->En->M S) (k:Re D->En->M S) (G:Gh) (F:Hp) (Z:L2.St) (H:Hp) (ρ:En) (Q:VK),nB OK->lc X OK x G->b_ X.K G F Z H ρ->OK (m x k ρ) ->
  (∀ds v F' H' ρ',c_ F F'->b_ X.K G F' Z H' ρ'->Frs X.K G F' Z H' ρ' v (.l ds)->OK (k ds ρ')->Q v H')->gW X e Z H Q
def pH{S α:Type}(p:Pu α):Ev S α:=λx k ρ=>(p ρ).on (λe=>x e ρ) λa=>k a ρ
section
variable {OK:M S->Prop} {x:Ex->En->M S} {k:α->En->M S} {G:Gh} {p:Pu α} {C:α->Hp->Hp->Prop}
theorem W.of(hO:nB OK)(hX:lc X OK x G)(h:OK (pH p x k ρ))(w:∀a F' H',c_ F F'->b_ X.K G F' Z H' ρ->OK (k a ρ)->C a F' H'):W X G F Z ρ (p ρ) C:=by
 unfold pH at h
 cases hp:p ρ with
 | ret a=>rw[hp]at h;exact λF' H' s S'=>w a F' H' s S' h
 | exc e=>rw[hp]at h;exact hX F ρ e h
 | bad=>rw[hp]at h;exact hO h
end
section
variable {a b c:Uf} {rest:Re Uf} {p:Pu D} {pt:Pu Bool} {ps:Pu ?R}
def JE(h:lj X e p):dL (S:=S) X e (pH p):=λOK x k G F Z H ρ Q hO hX St ok kk=>h G F Z H ρ Q St<|W.of hO hX ok λd F' H' s S' o v r=>kk d v F' H' ρ s S' r o
def Ni(h:eN X e pt):iK (S:=S) X e (pH pt):=λOK x k G F Z H ρ Q hO hX St ok kk=>h G F Z H ρ Q St<|W.of hO hX ok λd F' H' s S' o=>kk d F' H' ρ s S' o
def Me(h:f9 X e pt):va (S:=S) X e (pH pt):=λOK x k G F Z H ρ Q hO hX St ok kk=>h G F Z H ρ Q St<|W.of hO hX ok λd F' H' s S' o=>kk d F' H' ρ s S' o
def JC(h:u4 X e ps):AEl (S:=S) X e (pH ps):=λOK x k G F Z H ρ Q hO hX St ok kk=>h G F Z H ρ Q St<|W.of hO hX ok λd F' H' s S' o v r=>kk d v F' H' ρ s S' r o
def eB(m:Ev S Bool):Ev S D:=λx k ρ=>m x (λb ρ1=>k (.bool b) ρ1) ρ
def eZ(m:Ev S ?R):Ev S D:=λx k ρ=>m x (λds ρ1=>k (.list ds) ρ1) ρ
def jD(f:D->D->SL D)(a b:Ev S D):Ev S D:=λx k ρ=>a x (λd ρ1=>b x (λd2 ρ2=>(oM<|f d d2).on (λe=>x e ρ2) λr=>k r ρ2) ρ1) ρ
def gU(f:D->D->SL Bool)(a b:Ev S D):Ev S Bool:=λx k ρ=>a x (λd ρ1=>b x (λd2 ρ2=>(oM<|f d d2).on (λe=>x e ρ2) λr=>k r ρ2) ρ1) ρ
def mT:Ev S ?R:=λ_ k ρ=>k [] ρ
def tJ(m:Ev S D)(ms:Ev S ?R):Ev S ?R:=λx k ρ=>m x (λd ρ1=>ms x (λds ρ2=>k (d::ds) ρ2) ρ1) ρ
def rC(ms:Ev S ?R):Ev S D:=λx k ρ=>ms x (λds ρ1=>k (.tuple ds) ρ1) ρ
def zS(f:Re D->SL D)(ms:Ev S ?R):Ev S D:=λx k ρ=>ms x (λds ρ1=>(oM<|f ds).on (λe=>x e ρ1) λr=>k r ρ1) ρ
def rE(a b:Ev S Bool):Ev S Bool:=λx k ρ=>a x (λt ρ1=>if t then b x k ρ1 else k false ρ1) ρ
def eIf{α:Type}(c:Ev S Bool)(a b:Ev S α):Ev S α:=λx k ρ=>c x (λt ρ1=>if t then a x k ρ1 else b x k ρ1) ρ
def OT{OK:M S->Prop}(hO:nB OK){o:SL α}{x:Ex->M S}{k:α->M S}(h:OK ((oM o).on x k)):∃a,o=some a/\OK (k a):=by
 cases o with
 | none=>exact(hO h).elim
 | some a=>exact{a,rfl,h}
def LG{OK:M S->Prop}(hO:nB OK){ds:Re α}{x:Ex->M S}{k:Re α->M S}(h:OK ((cp ds).on x k)):ds.length<=sizeLine/\OK (k ds):=by
 unfold cp at h;split at h
 ·simp_all
 ·exact(hO h).elim
variable {ma mb m:Ev S D} {ta tb tc:Ev S Bool} {ms:Ev S ?R}
def Pl(h:va X e ta):dL X e (eB ta):=λOK x k G F Z H ρ Q hO hX St ok kk=>h OK x _ G F Z H ρ Q hO hX St ok λb F' H' ρ' s S' o=>kk _ _ F' H' ρ' s S' (.bl b) o
def Pk(h:AEl X e ms):dL X e (eZ ms):=λOK x k G F Z H ρ Q hO hX St ok kk=>h OK x _ G F Z H ρ Q hO hX St ok λds v F' H' ρ' s S' fr o=>by
 let{F2,s2,S2,r2}:=S'.settle   fr
 grind
def OV{OK:M S->Prop}{x:Ex->En->M S}{G:Gh}{f:D->D->En->M S}(ha:dL X a ma)(hb:dL X b mb)(hO:nB OK)(hX:lc X OK x G)(St:b_ X.K G F Z H ρ)
  (ok:OK (ma x (λd ρ1=>mb x (λd2 ρ2=>f d d2 ρ2) ρ1) ρ)) (k:∀u v dx dy F' H' ρ',c_ F F'->b_ X.K G F' Z H' ρ'->Rep X.K F' u dx->Rep X.K F' v dy->OK (f dx dy ρ')->r u v H' Q):aJ r (gW X a) (gW X b) Z H Q :=
 ha OK x _ G F Z H ρ _ hO hX St ok λd v F1 H1 ρ1 s1 S1 r1 o1=>hb OK x _ G F1 Z H1 ρ1 _ hO hX S1 o1 λd2 u F2 H2 ρ2 s2 S2 r2 o2=>k v u d d2 F2 H2 ρ2 ?jo S2 ?qH r2 o2
def JD{op:Operator}{f:D->D->SL D}(ho:K_ X (binaryOp op) r)(hf:qY X.K r f)(ha:dL X a ma)(hb:dL X b mb):dL X (.BinOp a op b pos) (jD f ma mb) :=
 λOK x k G F Z H ρ Q hO hX St ok kk=>RD (EQ ho Mz Mz) (OV ha hb hO hX St ok λu v dx dy F' H' ρ' s S' r1 r2 o=>by
  let{res,e,o'}:=OT hO o
  exact hf G F' Z H' ρ' u v dx dy res Q S' (.inl r1) (.inl r2) e λw F2 H2 s2 S2 r3=>kk res w F2 H2 ρ' (s.trans s2) S2 r3 o')
def Ob{f:D->D->SL D}(hr:WH X r)(hf:qY X.K r f)(ha:dL X a ma)(hb:dL X b mb)(hs:wZ b:=by exact λ_ _=>rfl):dL X (.Subscript a b pos) (jD f ma mb) :=
 λOK x k G F Z H ρ Q hO hX St ok kk=>RD (A7 hr Mz Mz hs) (OV ha hb hO hX St ok λu v dx dy F' H' ρ' s S' r1 r2 o=>by
  let{res,e,o'}:=OT hO o
  exact hf G F' Z H' ρ' u v dx dy res Q S' (.inl r1) (.inl r2) e λw F2 H2 s2 S2 r3=>kk res w F2 H2 ρ' (s.trans s2) S2 r3 o')
def IW{f:D->D->SL Bool}(ho:K_ X (compareOp op) r)(hf:rT X.K r f)(ha:dL X a ma)(hb:dL X b mb)(hm:behindInMarks op b=false:=by rfl):va X (.Compare a [op] [b] pos) (gU f ma mb) :=
 λOK x k G F Z H ρ Q hO hX St ok kk=>RD (Bb ho Mz Mz hm) (OV ha hb hO hX St ok λu v dx dy F' H' ρ' s S' r1 r2 o=>by
  let{res,e,o'}:=OT hO o
  exact hf G F' Z H' ρ' u v dx dy res Q S' (.inl r1) (.inl r2) e<|kk res F' H' ρ' s S' o')
def Cc{f:D->D->SL Bool}(ho:K_ X (compareOp op) r)(hf:rT X.K r f)(ha:dL X a ma)(hb:dL X b mb)(hm:behindInMarks op b=false:=by rfl):iK X (.Compare a [op] [b] pos) (gU f ma mb) :=
 λOK x k G F Z H ρ Q hO hX St ok kk=>Mu (AZ ho Mz Mz hm) (OV  ha hb hO hX St ok λu v dx dy F' H' ρ' s S' r1 r2 o=>by
  let{res,e,o'}:=OT hO o
  exact hf G F' Z H' ρ' u v dx dy res _ S' (.inl r1) (.inl r2) e {res,rfl,kk res F' H' ρ' s S' o'})
def KQ:vb (S:=S) X [] mT:=λOK x k G F Z H ρ Q hO hX St ok kk=>G5 Qh<|kk [] [] F H ρ ?J St rfl .nil ok
def O0(h:dL X e m)(hr:vb X es ms)(hs:starEach (e::es) X.env=?N::starEach es X.env:=by exact LA rfl):vb X (e::es) (tJ m ms) :=
 λOK x k G F Z H ρ Q hO hX St ok kk=>G5 (Qi Mz Pm hs) (h OK x _ G F Z H ρ _ hO hX St ok λd v F1 H1 ρ1 s1 S1 r1 o1 =>
  hr OK x _ G F1 Z H1 ρ1 _ hO hX S1 o1 λds vs F2 H2 ρ2 s2 S2 hl r2 o2=>kk (d::ds) (v::vs) F2 H2 ρ2 ?jo S2 (by simp[hl]) (.cons ?qH r2) o2)
def Ng{x1}(h:vb X es ms)(hz:es.length<=1000:=by decide +kernel):dL X (.Tuple es x1 pos) (rC ms) :=
 λOK x k G F Z H ρ Q hO hX St ok kk=>RD (EO Pm) (h OK x _ G F Z H ρ _ hO hX St ok λds vs F1 H1 ρ1 s1 S1 hl r1 o1=>by
  refine{by rw[hl];exact Mh hz,λq hq=>?_};let{s2,S2,r2}:=S1.R_ hq r1
  exact kk _ _ _ _ ρ1 ?jo S2 r2 o1)
def GM(ha:iK X a ta):AEw X (.BoolOp .And [a] pos) ta:=λOK x k G F Z H ρ Q hO hX St ok kk=>Cy (AR Os)<|ha OK x k G F Z H ρ Q hO hX St ok kk
def IU(ha:iK X a ta)(hb:AEw X (.BoolOp .And (b::rest) pos) tb):AEw X (.BoolOp .And (a::b::rest) pos) (rE ta tb) :=
 λOK x k G F Z H ρ Q hO hX St ok kk=>Cy (ED Os Ms) (ha OK x _ G F Z H ρ _ hO hX St ok λt F1 H1 ρ1 s1 S1 o1=>by
  cases t with
  | true=>exact hb OK x k G F1 Z H1 ρ1 Q hO hX S1 o1 λd F2 H2 ρ2 s2 S2 o2=>kk d F2 H2 ρ2 ?jo S2 o2
  | false=>grind)
def Md(h:AEw X e ta):iK X e ta:=λOK x k G F Z H ρ Q hO hX St ok kk=>Mu (λpins s Z H Q I h=>Ms _ pins s Z H Q I h)<|h OK x k G F Z H ρ Q hO hX St ok kk
def Oc(hc:iK X c tc)(ha:dL X a ma)(hb:dL X b mb):dL X (.IfExp c a b pos) (eIf tc ma mb) :=
 λOK x k G F Z H ρ Q hO hX St ok kk=>RD (Ix Os Mz Mz) (hc OK x _ G F Z H ρ _ hO hX St ok λt F1 H1 ρ1 s1 S1 o1=>by
  cases t with
  | true=>exact ha OK x k G F1 Z H1 ρ1 Q hO hX S1 o1 λd v F2 H2 ρ2 s2 S2 r2 o2=>kk d v F2 H2 ρ2 ?jo S2 r2 o2
  | false=>exact hb OK x k G F1 Z H1 ρ1 Q hO hX S1 o1 λd v F2 H2 ρ2 s2 S2 r2 o2=>kk d v F2 H2 ρ2 ?jo S2 r2 o2)
theorem h_.ors{ds:Re D}(h:h_ K F vs ds):Xk K F H vs ds:=by
 induction vs generalizing ds with
 | nil=>cases h;exact .nil
 | cons v vs ih=>cases h with
  | cons a b=>exact .cons (.inl a)<|ih b
def Nl{p:Pos}{r:Re V->Hp->VK->Prop}{f:Re D->SL D}(hc:k_ X (.type T) r)(hf:iB X.K r f)(hm:X.mg x=none)(hv:bootBuiltins x=some (.type T))(ha:vb X (e::es) ms)(hg:uf X x:=by rfl)
  (hn:x ≠ "__name__":=by decide) (SQ:(x==("__debug__" : Str))=false:=by decide) (he:starEach (e::es) X.env=?N::starEach es X.env:=by rfl) (Sg:(backTo pos ?W).any (·.1)=false:=by rfl):dL X (.Call (.Name x p) (e::es) [] pos) (zS f ms) :=
 λOK y k G F Z H ρ Q hO hX St ok kk=>RD (Qp hc hg hm hv Pm hn SQ he Sg) (ha OK y _ G F Z H ρ _ hO hX St ok λds vs F1 H1 ρ1 s1 S1 _ r1 o1=>by
  let{res,e,o'}:=OT hO o1
  exact hf G F1 Z H1 ρ1 vs ds res Q S1 (h_.ors r1) e λw F2 H2 s2 S2 r3=>kk res w F2 H2 ρ1 ?jo S2 r3 o')
end
structure Walk(K:Fg)(J:It)(ds:Re D)(F:Hp):Prop where
 go:∀(i:Nat) (G:Gh) (F2:Hp) (Z:L2.St) (H2:Hp) (ρ:En),c_ F F2->b_ K G F2 Z H2 ρ->i<ds.length->J.go i H2
 VM:∀(i:Nat) (G:Gh) (F2:Hp) (Z:L2.St) (H2:Hp) (ρ:En) (x:V) (H3:Hp) (d:D),c_ F F2->b_ K G F2 Z H2 ρ->ds[i]? = some d->J.VM i H2 x H3->∃F3,c_ F2 F3/\b_ K G F3 Z H3 ρ/\Rep K F3 x d
 stop:∀(G:Gh) (F2:Hp) (Z:L2.St) (H2:Hp) (ρ:En),c_ F F2->b_ K G F2 Z H2 ρ->J.stop ds.length H2
def Cm{a:Tl}{ds:Re D}(h:Ro K F a vs)(r:h_ K F vs ds):Walk K (Itl K a) ds F where
 go:=λi G F2 Z H2 ρ s S hi=>by
  have V7:i<vs.length:=by rw[r.length];exact hi
  exact{vs,vs[i],S.fh.seq<|s.seq h,by simp }
 VM:=λi G F2 Z H2 ρ x H3 d s S hd ⟨e,q⟩=>by
  let{v,e1,e2}:=r.get hd;have:=q vs<|S.fh.seq<|s.seq h
  grind
 stop:=λG F2 Z H2 ρ s S=>{vs,S.fh.seq<|s.seq h,by rw[r.length];exact ai _}
def DW{a:Tl}{ds:Re D}(h:A_ K F a vs)(r:h_ K F vs ds):Walk K (Itt K a) ds F where
 go:=λi G F2 Z H2 ρ s S hi=>by
  have V7:i<vs.length:=by rw[r.length];exact hi
  exact{vs,vs[i],Ug S.fh<|Ug s h,by simp }
 VM:=λi G F2 Z H2 ρ x H3 d s S hd ⟨e,q⟩=>by
  let{v,e1,e2}:=r.get hd;have:=q vs<|Ug S.fh<|Ug s h
  grind
 stop:=λG F2 Z H2 ρ s S=>{vs,Ug S.fh<|Ug s h,by rw[r.length];exact ai _}
def gZ(lo:Int)(n:Nat):Re D:=(List.range n).map λ(i:Nat)=>PyData.int<|lo+(i:Int)
def KO(lo:Int)(n:Nat):(gZ lo n).length=n:=by simp[gZ]
def W7(lo:Int)(n:Nat):Walk K (Itr lo n) (gZ lo n) F where
 go:=λi G F2 Z H2 ρ s S hi=>by rw[KO]at hi;exact hi
 VM:=λi G F2 Z H2 ρ x H3 d s S hd ⟨e,q⟩=>by
  subst e q;have e':(gZ lo n)[i]? = some d:=hd;unfold gZ at e';rw[ue]at e';have hi:i<n:=by
   have:=(List.getElem?_eq_some_iff.mp hd).1;rw[KO]at this;exact this
  rw[List.getElem?_range hi]at e'
  cases e'
  exact{F2,c_.refl _,S,.int _}
 stop:=λG F2 Z H2 ρ s S=>by rw[KO];exact ai _
@[irreducible] def pO(X:Cx)(tg iter:Uf):TI:=λZ H R=>∀(pins:w_) (s:Tk),Inv X pins Z H s->wpAny ?B X.A (eval iter X.env) (λv s1=>wpAny ?B X.A (pyIter v) (PIE X pins Z tg R) X.xe s1) X.xe s
def W8:jQ X tg e (pO X tg e):=λpins s Z H R I h=>by unfold pO at h;exact h pins s I
def Cz{t:TI}(h:jQ X tg e t)(q:t Z H R):pO X tg e Z H R:=by unfold pO;exact λpins s I=>h pins s Z H R I q
def bf(X:Cx)(tg e:Uf)(p:Pu ?R):Prop :=
 ∀(G:Gh) (F:Hp) (Z:L2.St) (H:Hp) (ρ:En) (R:It->Hp->Prop),b_ X.K G F Z H ρ->W X G F Z ρ (p ρ) (λds F' H'=>∀J,Walk X.K J ds F'->R J H')->pO X tg e Z H R
noncomputable def AEi{S:Type}(X:Cx)(tg e:Uf)(m:Ev S ?R):Prop :=
 ∀(OK:M S->Prop) (x:Ex->En->M S) (k:Re D->En->M S) (G:Gh) (F:Hp) (Z:L2.St) (H:Hp) (ρ:En) (R:It->Hp->Prop),nB OK->lc X OK x G->b_ X.K G F Z H ρ->OK (m x k ρ) ->
  (∀ds J F' H' ρ',c_ F F'->b_ X.K G F' Z H' ρ'->Walk X.K J ds F'->OK (k ds ρ')->R J H')->pO X tg e Z H R
def Cg{ps:Pu ?R}(h:bf X tg e ps):AEi (S:=S) X tg e (pH ps):=λOK x k G F Z H ρ Q hO hX St ok kk=>h G F Z H ρ Q St<|W.of hO hX ok λd F' H' s S' o v r=>kk d v F' H' ρ s S' r o
def tD(K:Fg)(tl:TE):TI:=λZ H R=>tl Z H λx H1=>(∃a,x=.ref a/\(∃xs,Ro K H1 a xs)/\R (Itl K a) H1)\/∃a,x=.ref a/\(∃xs,A_ K H1 a xs)/\R (Itt K a) H1
def KE{l:Uf}{tl:TE}(hl:cM X l tl):jQ X tg l (tD X.K tl):=by
 intro pins s Z H R I h;refine Db (hl pins s Z H _ I h) λv s1 ⟨x,H1,I1,r1,q1⟩=>?_
 let{a,e,{xs,hq},q}||{a,e,{xs,hq},q}:=q1
 ·subst e
  cases r1
  let{i_,rv,p,hz}:=I1.list hq;refine jz p.isList ?_;refine{s1.heap.objs.size,[s1.heap.objs.size],_,_,H1,rfl,I1.kept  λb o e=>v_ _ e,PV a _,{_,cN _ rfl,rfl,rfl},λb hb=>?_,q};have e:=by simpa using hb
  subst e;exact I1.Sy ?ji ?jQ
 ·subst e
  cases r1
  let{i_,rv,p,hz}:=I1.tuple hq;refine re ((p)) ?_;refine{s1.heap.objs.size,[s1.heap.objs.size],_,_,H1,rfl,I1.kept  λb o e=>v_ _ e,PX a _,{_,cN _ rfl,rfl,rfl},λb hb=>?_,q};have e:=by simpa using hb
  subst e;exact I1.Sy ?ji ?jQ
def bZ:D->SL ?R
 | .list ds=>some ds
 | .tuple ds=>some ds
 | _=>none
def pIt(p:Pu D):Pu ?R:=λρ=>bd (p ρ) λd=>oM<|bZ d
def jx(i:Int):Bool:=decide (-(2^62)<=i)&&decide (i<2^62)
def H9{i:Int}(h:jx i=true) : -(2^62)<=i/\i<2^62:=by
 unfold jx at h;simp![am,aQ]at h;exact h
def bO:Re D->SL ?R
 | [.int j]=>if jx j then some (gZ 0 j.toNat)else none
 | _=>none
def jL:Re D->SL ?R
 | [.int i,.int j]=>if jx i&&jx j then some (gZ i (j - i).toNat)else none
 | _=>none
section
variable {a b:Uf} {pp:Pu D} {ps:Pa ?R} {m:Ev S D} {ms:Ev S ?R}
def Mo{d:D}{ds:Re D}(s:c_ F H)(r:Rep X.K F v d)(hd:bZ d=some ds)(k:∀J,Walk X.K J ds F->R J H) :
  (∃a,v=.ref a/\(∃xs,Ro X.K H a xs)/\R (Itl X.K a) H)\/∃a,v=.ref a/\(∃xs,A_ X.K H a xs)/\R (Itt X.K a) H:=by
 cases d with
 | list xs =>
  cases hd
  let{a,vs,rfl,h1,h2}:=r.lst_inv;exact .inl {_,rfl,{_,s.seq h1},k _<|Cm h1 h2}
 | tuple xs =>
  cases hd
  let{a,vs,rfl,h1,h2}:=r.Q9;exact .inr {_,rfl,{_,A_.of<|s _ _ h1},k _<|DW (A_.of h1) h2}
 | _=>exact SO hd
def Bi(h:lj X e pp):bf X tg e (pIt pp):=λG F Z H ρ R S w=>Cz (KE Mz) (h G F Z H ρ _ S (w.bind.imp λd F1 H1 s1 S1 w1 v r1=>by
 let{ds,hd,k}:=w1.opt
 exact Mo S1.fh r1 hd<|k F1 H1 ?J S1))
def CI{ds out:Re D}(r:h_ X.K F vs ds)(h:bO ds=some out)(k:∀J,Walk X.K J out F->R J H):∃j,vs=[.int j] /\ -(2^62)<=j/\j<2^62/\R (Itr 0 j.toNat) H:=by
 unfold bO at h;split at h
 ·rename_i j;split at h
  ·rename_i hs
   cases h
   let{v,rfl,r1}:=r.Tf;obtain rfl:=r1.int_inv;exact{j,rfl,(H9 hs).1,(H9 hs).2,k _<|W7 0 j.toNat}
  ·cases h
 ·cases h
def CH{ds out:Re D}(r:h_ X.K F vs ds)(h:jL ds=some out)(k:∀J,Walk X.K J out F->R J H) :
  ∃i j,vs=[.int i,.int j]/\(-(2^62)<=i/\i<2^62 /\ -(2^62)<=j/\j<2^62)/\R (Itr i (j - i).toNat) H:=by
 unfold jL at h;split at h
 ·rename_i i j;split at h
  ·rename_i hs
   cases h
   rw[am]at hs;let{v,u,rfl,r1,r3}:=r.Ul;obtain rfl:=r1.int_inv;obtain rfl:=r3.int_inv;exact{i,j,rfl,{(H9 hs.1).1,(H9 hs.1).2,(H9 hs.2).1,(H9 hs.2).2},k _<|W7 i (j - i).toNat}
  ·cases h
 ·cases h
def Bg(hg:uf X "range")(hm:X.mg "range"=none)(ha:jl X [a] ps)(hs:starEach [a] X.env=[?j0]):bf X tg (.Call (.Name "range" p) [a] [] pos) (gx bO ps) :=
 λG F Z H ρ R S w=>Cz (CL hg hm Pm hs) (ha G F Z H ρ _ _ _ S w λds vs F1 H1 s1 S1 _ r1 w1=>by
  let{out,hd,k}:=w1.opt
  exact CI r1 hd<|k F1 H1 ?J S1)
def E4(hg:uf X "range")(hm:X.mg "range"=none)(ha:jl X [a,b] ps)(hs:starEach [a,b] X.env=[?j0,(false,eval b X.env)])(Vd:starEach [b] X.env=[(false,eval b X.env)]):bf X tg (.Call (.Name "range" p) [a,b] [] pos) (gx jL ps) :=
 λG F Z H ρ R S w=>Cz (CK hg hm Pm hs Vd) (ha G F Z H ρ _ _ _ S w λds vs F1 H1 s1 S1 _ r1 w1=>by
  let{out,hd,k}:=w1.opt
  exact CH r1 hd<|k F1 H1 ?J S1)
end
abbrev Tg(S:Type):=D->(En->M S)->En->M S
def jT(ρ:En)(i:Nat):Bool:=decide (i<ρ.length)&&(match ρ[i]? with
 | some (some<|.op _)=>false
 | _=>true)
def K0{i:Nat}(h:jT ρ i=true):i<ρ.length/\∀c,ρ[i]? ≠ some (some<|.op c):=by
 unfold jT at h
 grind
@[irreducible] def uC(X:Cx)(tg:Uf):TG:=λv Z H Q=>∀(pins:w_) (s:Tk) (u:SZ),Inv X pins Z H s->RelV v u->wpAny ?B X.A (assign tg X.env u) (λ_ s'=>∃σ' H',Inv X pins σ' H' s'/\Q σ' H') X.xe s
@[irreducible] def rh(X:Cx)(Yy:Re Uf):Ze:=λvs Z H Q=>∀(pins:w_) (s:Tk) (us:Re SZ),Inv X pins Z H s->Vals vs us->wpAny ?B X.A (assignInOrder ((assignEach Yy X.env).map (·.2)) us) (λ_ s'=>∃σ' H',Inv X pins σ' H' s'/\Q σ' H') X.xe s
def Jy:cg X tg (uC X tg):=λpins s Z H v u Q I r h=>by unfold uC at h;exact h pins s u I r
def A5{Yy:Re Uf}:PGs X Yy (rh X Yy):=λpins s Z H vs us Q I r h=>by unfold rh at h;exact h pins s us I r
def ME{t:TG}{Q:L2.St->Hp->Prop}(h:cg X tg t)(q:t v Z H Q):uC X tg v Z H Q:=by unfold uC;exact λpins s u I r=>h pins s Z H v u Q I r q
def Ji{Yy:Re Uf}{t:Ze}{Q:L2.St->Hp->Prop}(h:PGs X Yy t)(q:t vs Z H Q):rh X Yy vs Z H Q:=by unfold rh;exact λpins s us I r=>h pins s Z H vs us Q I r q
def fU{S:Type}(X:Cx)(n:Nat)(tg:Uf)(st:Tg S):Prop :=
 ∀(OK:M S->Prop) (k:En->M S) (G:Gh) (F:Hp) (Z:L2.St) (H:Hp) (ρ:En) (v:V) (d:D) (Q:L2.St->Hp->Prop),nB OK->b_ X.K G F Z H ρ->Rep X.K F v d->OK (st d k ρ) ->
  (∀σ' ρ',b_ X.K G F σ' H ρ'->(∀j,j<n->σ'[j]? = Z[j]? /\ ρ'[j]? = ρ[j]?)->σ'.length=Z.length->ρ'.length=ρ.length->OK (k ρ')->Q σ' H)->uC X tg v Z H Q
noncomputable def AGs{S:Type}(X:Cx)(n:Nat)(Yy:Re Uf)(st:Re D->(En->M S)->En->M S):Prop :=
 ∀(OK:M S->Prop) (k:En->M S) (G:Gh) (F:Hp) (Z:L2.St) (H:Hp) (ρ:En) (vs:Re V) (ds:Re D) (Q:L2.St->Hp->Prop),nB OK->b_ X.K G F Z H ρ->h_ X.K F vs ds->OK (st ds k ρ) ->
  (∀σ' ρ',b_ X.K G F σ' H ρ'->(∀j,j<n->σ'[j]? = Z[j]? /\ ρ'[j]? = ρ[j]?)->σ'.length=Z.length->ρ'.length=ρ.length->OK (k ρ')->Q σ' H)->rh X Yy vs Z H Q
def aj{S:Type}(i:Nat):Tg S:=λd k ρ=>match jT ρ i with
 | true=>k<|ρ.set i<|some<|.fz d
 | false=>.bad
def qN{S:Type}:Re D->(En->M S)->En->M S
 | [],k,ρ=>k ρ
 | _,_,_=>.bad
def yH{S:Type}(t:Tg S)(ts:Re D->(En->M S)->En->M S):Re D->(En->M S)->En->M S
 | d::ds,k,ρ=>t d (λρ1=>ts ds k ρ1) ρ
 | [],_,_=>.bad
def yG{S:Type}(d:D)(k:D->D->M S):M S:=match d with
 | .tuple [a,b]=>k a b
 | _=>.bad
def dg{S:Type}(d:D)(k:D->D->D->M S):M S:=match d with
 | .tuple [a,b,c]=>k a b c
 | _=>.bad
def cx{S:Type}(ts:Re D->(En->M S)->En->M S):Tg S:=λd k ρ=>yG d λa b=>ts [a,b] k ρ
def vh{S:Type}(ts:Re D->(En->M S)->En->M S):Tg S:=λd k ρ=>dg d λa b c=>ts [a,b,c] k ρ
section
def Jx{i:Nat}(hn:n<=i)(hN:X.N.Nodup)(hi:X.N[i]? = some x:=by rfl)(hx:Loc X.env.scope x:=by exact lo rfl)(hf:X.fn x=true\/X.env.scope.names.lookup x=some .local:=by first|exact .inl rfl|exact .inr rfl):fU (S:=S) X n (.Name x pos) (aj i):=by
 intro OK k G F Z H ρ v d Q hO S r ok kk;unfold aj at ok;split at ok
 ·rename_i ho;let{hl,T_}:=K0 ho;refine ME (PP hN hi hx hf) ?_;exact kk _ _ (S.store T_ hl<|.inl {d,rfl,r}) (λj hj=>{eT ?A,eT ?A}) ?E ?E ok
 ·exact(hO ok).elim
def MT:AGs (S:=S) X n [] qN:=by
 intro OK k G F Z H ρ vs ds Q hO S r ok kk
 cases ds with
 | nil =>
  cases r
  exact Ji A6 {rfl,kk Z ρ S (λ_ _=>{rfl,rfl}) rfl rfl ok}
 | cons d ds=>exact(hO ok).elim
def Jz{st:Tg S}{S8:Re D->(En->M S)->En->M S}(h1:fU X n e st)(h2:AGs X n es S8)
  (hs:(assignEach (e::es) X.env).map (·.2)=assign e X.env::(assignEach es X.env).map (·.2)):AGs X n (e::es) (yH st S8):=by
 intro OK k G F Z H ρ vs ds Q hO S r ok kk
 cases ds with
 | nil=>exact(hO ok).elim
 | cons d ds =>
  cases r with
  | cons rv rr =>
   refine Ji (PQ Jy A5 hs) {_,_,rfl,?_};refine h1 OK _ G F Z H ρ _ d _ hO S rv ok λσ1 ρ1 S1 kp1 l1 m1 o1=>?_
   exact h2 OK k G F σ1 H ρ1 _ ds _ hO S1 rr o1 λσ2 ρ2 S2 kp2 l2 m2 o2=>kk σ2 ρ2 S2 (λj hj=>{(kp2 j hj).1.trans (kp1 j hj).1,(kp2 j hj).2.trans (kp1 j hj).2}) (l2.trans l1) (m2.trans m1) o2
def Ca{l:Nat}{S8:Re D->(En->M S)->En->M S}{st:Tg S}(hc:X.calm=true)(h:AGs X n es S8)(hn:(assignEach es X.env).length=l)(V5:(assignEach es X.env).findIdx? (·.1)=none)
  (hw:∀(OK:M S->Prop) d k ρ,nB OK->OK (st d k ρ)->∃ds,d=.tuple ds/\ds.length=l/\OK (S8 ds k ρ)):fU X n (.Tuple es kk pos) st:=by
 intro OK k G F Z H ρ v d Q hO S r ok k2;let{ds,rfl,hl,ok}:=hw OK d k ρ hO ok
 cases r with
 | tup h1 h2 =>
  refine ME (EN hc A5 hn V5) {_,_,rfl,A_.of<|S.fh _ _ h1,by rw[h2.length];exact hl,?_};exact h OK k G F Z H ρ _ ds _ hO S h2 ok k2
def JO{S8:Re D->(En->M S)->En->M S}(hc:X.calm=true)(h:AGs X n es S8)(hn:(assignEach es X.env).length=2)(V5:(assignEach es X.env).findIdx? (·.1)=none):fU X n (.Tuple es kk pos) (cx S8) :=
 Ca hc h hn V5 λOK d k ρ hO o=>by
  unfold cx yG at o;split at o
  ·exact{_,rfl,rfl,o}
  ·exact(hO o).elim
def Cb{S8:Re D->(En->M S)->En->M S}(hc:X.calm=true)(h:AGs X n es S8)(hn:(assignEach es X.env).length=3)(V5:(assignEach es X.env).findIdx? (·.1)=none):fU X n (.Tuple es kk pos) (vh S8) :=
 Ca hc h hn V5 λOK d k ρ hO o=>by
  unfold vh dg at o;split at o
  ·exact{_,rfl,rfl,o}
  ·exact(hO o).elim
end
abbrev SM(S:Type):=KS S->En->M S
structure EOk{S:Type}(X:Cx)(OK:M S->Prop)(K:KS S)(G:Gh)(F:Hp)(E:Ends):Prop where
 nx:∀F' σ' H' ρ',c_ F F'->b_ X.K G F' σ' H' ρ'->OK (K.nx ρ')->E.nx σ' H'
 rt:∀F' σ' H' ρ' d v,c_ F F'->b_ X.K G F' σ' H' ρ'->Rep X.K F' v d->OK (K.rt d ρ')->E.rt v H'
 rl:∀F' σ' H' ρ' c v,c_ F F'->b_ X.K G F' σ' H' ρ'->Frs X.K G F' σ' H' ρ' v c->OK (K.rl c ρ')->E.rt v H'
 bk:∀F' σ' H' ρ',c_ F F'->b_ X.K G F' σ' H' ρ'->OK (K.bk ρ')->E.bk σ' H'
 ct:∀F' σ' H' ρ',c_ F F'->b_ X.K G F' σ' H' ρ'->OK (K.ct ρ')->E.ct σ' H'
theorem EOk.up{OK:M S->Prop}{K:KS S}{G:Gh}{E:Ends}(h:EOk X OK K G F E)(s:c_ F F'):EOk X OK K G F' E :=
 {λF2 σ' H' ρ' s2=>h.nx F2 σ' H' ρ'<|s.trans s2,λF2 σ' H' ρ' d v s2=>h.rt F2 σ' H' ρ' d v<|s.trans s2,λF2 σ' H' ρ' d v s2=>h.rl F2 σ' H' ρ' d v<|s.trans s2,λF2 σ' H' ρ' s2=>h.bk F2 σ' H' ρ'<|s.trans s2,λF2 σ' H' ρ' s2=>h.ct F2 σ' H' ρ'<|s.trans s2}
@[irreducible] def lH(X:Cx)(st:Stmt):TS:=λE Z H=>∀(pins:w_) (s:Tk),Inv X pins Z H s->wpAny ?B X.A (exec st X.env) (cB X pins E) X.xe s
@[irreducible] def lI(X:Cx)(S8:Re Stmt):TS:=λE Z H=>∀(pins:w_) (s:Tk),Inv X pins Z H s->wpAny ?B X.A (execs S8 X.env) (cB X pins E) X.xe s
section
variable {S8:Re Stmt} {E:Ends} {t:TS}
def EH:sP X st (lH X st):=λpins s Z H E I h=>by unfold lH at h;exact h pins s I
def JF:zA X S8 (lI X S8):=λpins s Z H E I h=>by unfold lI at h;exact h pins s I
def E3(h:sP X st t)(q:t E Z H):lH X st E Z H:=by unfold lH;exact λpins s I=>h pins s Z H E I q
def Ef(h:zA X S8 t)(q:t E Z H):lI X S8 E Z H:=by unfold lI;exact λpins s I=>h pins s Z H E I q
end
def wG{S:Type}(X:Cx)(st:Stmt)(m:SM S):Prop :=
 ∀(OK:M S->Prop) (K:KS S) (G:Gh) (F:Hp) (Z:L2.St) (H:Hp) (ρ:En) (E:Ends),nB OK->lc X OK K.x G->b_ X.K G F Z H ρ->OK (m K ρ)->EOk X OK K G F E->lH X st E Z H
def cb{S:Type}(X:Cx)(st:Re Stmt)(m:SM S):Prop :=
 ∀(OK:M S->Prop) (K:KS S) (G:Gh) (F:Hp) (Z:L2.St) (H:Hp) (ρ:En) (E:Ends),nB OK->lc X OK K.x G->b_ X.K G F Z H ρ->OK (m K ρ)->EOk X OK K G F E->lI X st E Z H
section
def yO:SM S:=λK ρ=>K.nx ρ
def cF(m n:SM S):SM S:=λK ρ=>m { K with nx:=λρ1=>n K ρ1 } ρ
def sIf(c:Ev S Bool)(m n:SM S):SM S:=λK ρ=>c K.x (λb ρ1=>if b then m K ρ1 else n K ρ1) ρ
def sTo(sh:Re Kd)(m:SM S):SM S:=λK ρ=>m { K with nx:=λρ1=>eV sh (λs=>K.nx ?j1) ρ1 } ρ
def wF(i:Nat)(m:Ev S D):SM S:=λK ρ=>m K.x (λd ρ1=>match jT ρ1 i with
 | true=>K.nx<|ρ1.set i<|some<|.fz d
 | false=>.bad) ρ
def iz(i:Nat)(m:Ev S ?R):SM S:=λK ρ=>m K.x (λds ρ1=>match jT ρ1 i with
 | true=>K.nx<|ρ1.set i<|some<|.ol<|.l ds
 | false=>.bad) ρ
def iy(t:Tg S)(m:Ev S D):SM S:=λK ρ=>m K.x (λd ρ1=>t d K.nx ρ1) ρ
def iA(m:Ev S D):SM S:=λK ρ=>m K.x K.rt ρ
def nE(m:Ev S ?R):SM S:=λK ρ=>m K.x (λds=>K.rl<|.l ds) ρ
def oQ(i:Nat)(m:SM S):SM S:=λK ρ=>match ρ[i]? with
 | some (some<|.ol c)=>if c.isI then .bad else m K (ρ.set i<|some<|.fz c.d)
 | _=>.bad
def qi(ρ:En)(i:Nat)(ds:Re D):En:=match ρ[i]? with
 | some (some<|.op _)=>ρ.set i<|some<|.op<|.l ds
 | _=>ρ.set i<|some<|.ol<|.l ds
def mU(i:Nat)(f:Re D->Re D->SL ?R)(ms:Ev S ?R):SM S:=λK ρ=>match i3 ρ i with
 | some _=>ms K.x (λas ρ1=>match i3 ρ1 i with
  | some ds=>(oM<|f ds as).on (λe=>K.x e ρ1) λWA=>K.nx<|qi ρ1 i WA
  | none=>.bad) ρ
 | none=>.bad
def cD{T:Type}(step:T->D->(T->M S)->M S):Re D->T->(T->M S)->M S
 | [],s,k=>k s
 | d::r,s,k=>step s d λs'=>cD step r s' k
@[reducible] def pY(sh:Re Kd)(K:KS S)(kn:aM sh->M S):KS S:={ K with
  nx:=λρ3=>eV sh kn ρ3
  ct:=λρ3=>eV sh kn ρ3
  bk:=λρ3=>eV sh ?js ρ3 }
def qg(sh:Re Kd)(it:Ev S ?R)(t:Tg S)(mb:SM S):SM S:=λK ρ=>it K.x (λds ρ1=>eV sh (λs=>cD (λs d kn=>t d (λρ2=>mb (pY sh K kn) ρ2) ?j1) ds s ?js) ρ1) ρ
def bG{T:Type}(step:T->(T->M S)->M S):Nat->T->M S
 | 0,_=>.bad
 | n+1,s=>step s λs'=>bG step n s'
def za(sh:Re Kd)(fuel:Nat)(c:Ev S Bool)(mb:SM S):SM S:=λK ρ=>eV sh (λs=>bG (λs kn=>c K.x (λb ρ2=>if b then mb (pY sh K kn) ρ2 else eV sh ?js ρ2) ?j1) fuel s) ρ
end
def Xr(ρ:En)(i:Nat)(ds ds0:Re D)(h:i3 ρ i=some ds0):qi ρ i ds=ρ.set i ((ρ[i]?.join).map fun | .op _=>.op<|.l ds|_=>.ol<|.l ds):=by
 unfold i3 at h;unfold qi
 grind
def F8{OK:M S->Prop}(hO:nB OK){sh:Re Kd}{k:aM sh->M S}(h:OK (eV sh k ρ)):∃s,rd sh ρ=some s/\OK (k s):=by
 unfold eV at h;split at h
 ·grind
 ·exact(hO h).elim
section
variable {S8 rest:Re Stmt} {m n:SM S} {c a b:Uf} {me:Ev S D} {mt:Ev S Bool} {ml:Ev S ?R} {L_:Pos}
def Ku:cb (S:=S) X [] yO:=λOK K G F Z H ρ E hO hX St ok eo=>Ef Hr<|eo.nx F Z H ρ ?J St ok
def Js(h1:wG X st m)(h2:cb X rest n):cb X (st::rest) (cF m n):=λOK K G F Z H ρ E hO hX St ok eo =>
 Ef (No EH JF)<|h1 OK { K with nx:=λρ1=>n K ρ1 } G F Z H ρ _ hO hX St ok {λF' σ' H' ρ' s S' o=>h2 OK K G F' σ' H' ρ' E hO hX S' o<|eo.up s,eo.rt,eo.rl,eo.bk,eo.ct}
def Yv(h1:wG X st m):cb X [st] m:=λOK K G F Z H ρ E hO hX St ok eo=>Ef (Op EH)<|h1 OK K G F Z H ρ E hO hX St ok eo
def Iv{A B:Re Stmt}(hc:iK X c mt)(ha:cb X A m)(hb:cb X B n):wG X (.If c A B pos) (sIf mt m n):=λOK K G F Z H ρ E hO hX St ok eo =>
 E3 (M8 Os JF JF) (hc OK K.x _ G F Z H ρ _ hO hX St ok λt F1 H1 ρ1 s1 S1 o1=>by
  cases t with
  | true=>exact ha OK K G F1 Z H1 ρ1 E hO hX S1 o1<|eo.up s1
  | false=>exact hb OK K G F1 Z H1 ρ1 E hO hX S1 o1<|eo.up s1)
def LI{sh:Re Kd}(h:wG X st m):wG X st (sTo sh m):=λOK K G F Z H ρ E hO hX St ok eo =>
 h OK { K with nx:=λρ1=>eV sh (λs=>K.nx ?j1) ρ1 } G F Z H ρ E hO hX St ok {λF' σ' H' ρ' s S' o=>by
  let{s',e',o'}:=F8 hO o
  exact eo.nx F' σ' H' _ s (S'.rd e') o',eo.rt,eo.rl,eo.bk,eo.ct}
theorem _root_.L3.b_.drop{G:Gh}(S:b_ K G F Z H ρ){i:Nat}(hi:∀c,ρ[i]? ≠ some (some<|.op c)):b_ K G F Z H (ρ.set i none):=by
 refine S.weak ?E (λj av e=>?_) λj c e=>?_
 ·grind
 grind
def _root_.L2.Inv.Rm(I:Inv X pins Z H s){a:Tl}(e:H a=some (.dT kvs)):∃o,Inv X pins Z (upd H a<|.Rm o<|.dT kvs) s:=by
 let{z,y,xs,r,ob,es,ep,h1,h2}:=((I.j_ a _ e));have ne:∀b,H b=none->upd H a (.Rm ob<|.dT kvs) b=none:=λb q=>by rw[G_ (λz=>by rw[z,e]at q;cases q)];exact q
 have nx:∀b u,H b=some u->u≠.dT kvs->upd H a (.Rm ob<|.dT kvs) b=some u:=λb u q d=>by rw[G_<|JI q e d];exact q
 have st:∀b u,x_ X.prog X.w H s.heap b u->x_ X.prog X.w (upd H a<|.Rm ob<|.dT kvs) s.heap b u:=λb u q=>q.TU (λ_ _ _ q=>q) (λc q=>nx c _ q (by intro z;cases z)) λc xs q=>nx c _ q (by intro z;cases z)
 refine{ob,I.ok,I.os,I.bare,{I.base.keep,I.base.slot,λb o q n hx=>ne b<|I.base.free b o q n hx,I.base.there,λb xs q=>nx b _ (I.base.Tq b xs q) (by intro z;cases z),λb o u q=>nx b _ (I.base.Tb b o u q) (by intro z;cases z),λb ps q=>?_},I.loc,I.cell,ne _ I.free,λx c q=>ne _<|I.Sx x c q,λp hp=>?_,λb u q=>?_,I.len}
 ·let{more,q}:=I.base.TR b ps q
  grind
 ·let{q1,q2,q3}:=I.pin p hp
  grind
 ·by_cases hb:b=a
  ·subst hb;rw[UQ]at q;cases q;exact{h1,st _ _<|I.j_ _ _ e}
  ·rw[G_ hb]at q;exact st _ _<|I.j_ b u q
def Ed{E:Ends}{a:Tl}(e:H a=some (.dT kvs))(k:∀o,lH X st E Z<|upd H a<|.Rm o<|.dT kvs):lH X st E Z H:=by
 unfold lH at *;exact λpins s I=>let ⟨o,I'⟩:=I.Rm e;k o pins s I'
def _root_.L3.b_.T7{G:Gh}(S:b_ K G F Z H ρ){p:Tl}(fp:F p=none)(op:G.O p=none)(ne:∀(i:Nat) (e:OC),own ρ i e->Z[i]? ≠ some (some<|V.ref p)):b_ K G F Z (upd H p o) ρ:=by
 refine{PT S.fh fp,PT S.oh op,S.fo,S.ln,S.fz,λi c h=>?_,S.dj,S.pp,S.pq,S.fb};let{a,e,oa}:=S.ow i c h;exact{a,e,oa.nf,oa.no,oa.he.at (G_ λz=>ne i c h (by rw[e,z]))}
def _root_.L3.b_.YB{G:Gh}(S:b_ K G F Z H ρ){i:Nat}{es:Re ?M}(hi:ρ[i]? = some (some<|.ol<|.t es)){a:Tl}(hv:Z[i]? = some (some ?qB)) :
  ∃kvs,H a=some (.dT kvs)/\∀o,∃F',c_ F F'/\b_ K G F' Z (upd H a<|.Rm o<|.dT kvs) (ρ.set i<|some<|.fz<|.dict es):=by
 let{b,e,oa}:=S.ow i _<|.inl hi;rw[hv]at e;injection e with e;injection e with e;injection e with e;subst e;let{kvs,h1,h2,h3}:=oa.he;refine{kvs,h1,λo=>?_};have hl:i<ρ.length:=(List.getElem?_eq_some_iff.mp hi).1;have S1:=S.drop (i:=i) (λc q=>by rw[hi]at q;cases q);have ne:∀(j:Nat) (c:OC),own (ρ.set i none) j c->Z[j]? ≠ some (some ?qB):=λj c h q=>by
  have hj:j≠i:=by
   rintro rfl;let h||h:=h<;>(rw[gs hl]at h;cases h)
  have h':own ρ j c:=by
   unfold own at h ⊢;rw[eT<|Ne.symm hj]at h;exact h
  exact hj<|S.dj j i _ _ a h' (.inl hi) q hv
 have S2:=(S1.T7 (o:=.Rm o (.dT kvs)) oa.nf oa.no ne).freeze (a:=a) UQ oa.nf oa.no ne;have sm:c_ F (upd F a<|.Rm o<|.dT kvs):=PE oa.nf;have S3:=S2.store (j:=i) (v:=.ref a) (av:=.fz (.dict es)) (λc q=>by rw[gs hl]at q;cases q) (by rw[List.length_set];exact hl)<|.inl {_,rfl,.Vu UQ h2<|h3.mono sm};have eσ:Z.set i (some ?qB)=Z:=by
  let{q1,q2}:=List.getElem?_eq_some_iff.mp hv;rw[<-q2];exact List.set_getElem_self q1
 rw[eσ,List.set_set]at S3;exact{_,sm,S3}
def Dj{i:Nat}(h:wG X st m):wG X st (oQ i m):=λOK K G F Z H ρ E hO hX St ok eo=>by
 unfold oQ at ok;split at ok
 ·rename_i ds q;let{a,ea,_}:=St.ow i _<|.inl q;split at ok
  ·exact(hO ok).elim
  rename_i hI
  cases hT:ds.Wu with
  | false =>
   let{F2,s2,S2,_}:=St.YD (by simpa using hI) hT q ea;exact h OK K G F2 Z H _ E hO hX S2 ok<|eo.up s2
  | true =>
   cases ds with
   | t es =>
    let{kvs,e,go}:=St.YB q ea;refine Ed e λo=>?_
    let{F2,s2,S2}:=go o;exact h OK K G F2 Z _ _ E hO hX S2 ok<|eo.up s2
   | _=>cases hT
 ·exact(hO ok).elim
def O3(he:dL X e me):wG X (.Return (some e) pos) (iA me):=λOK K G F Z H ρ E hO hX St ok eo =>
 E3 (PN Mz)<|he OK K.x K.rt G F Z H ρ _ hO hX St ok λd v F1 H1 ρ1 s1 S1 r1 o1=>eo.rt F1 Z H1 ρ1 d v s1 S1 r1 o1
def IP(he:AEl X e ml):wG X (.Return (some e) pos) (nE ml):=λOK K G F Z H ρ E hO hX St ok eo =>
 E3 (PN Mz)<|he OK K.x (λds=>K.rl<|.l ds) G F Z H ρ _ hO hX St ok λd v F1 H1 ρ1 s1 S1 r1 o1=>eo.rl F1 Z H1 ρ1 (.l d) v s1 S1 r1 o1
def SD{i:Nat}(hN:X.N.Nodup)(he:dL X e me)(hi:X.N[i]? = some x:=by rfl)(hx:Loc X.env.scope x:=by exact lo rfl)(hs:swapsWith e (some<|.Name x pos') pos.line X.env=pure false:=by rfl)(hf:X.fn x=true\/X.env.scope.names.lookup x=some .local:=by exact .inl rfl) :
  wG X (.Assign [.Name x pos'] e pos) (wF i me):=λOK K G F Z H ρ E hO hX St ok eo =>
 E3 (PR hN hi hx Mz hs hf) (he OK K.x _ G F Z H ρ _ hO hX St ok λd v F1 H1 ρ1 s1 S1 r1 o1=>by
  split at o1
  ·rename_i ho;let{hl,T_}:=K0 ho;exact eo.nx F1 _ H1 _ s1 (S1.store T_ hl<|.inl {d,rfl,r1}) o1
  ·exact(hO o1).elim)
def Wk{i:Nat}(hN:X.N.Nodup)(he:AEl X e ml)(hi:X.N[i]? = some x:=by rfl)(hx:Loc X.env.scope x:=by exact lo rfl)(hs:swapsWith e (some<|.Name x pos') pos.line X.env=pure false:=by rfl)(hf:X.fn x=true\/X.env.scope.names.lookup x=some .local:=by exact .inl rfl) :
  wG X (.Assign [.Name x pos'] e pos) (iz i ml):=λOK K G F Z H ρ E hO hX St ok eo =>
 E3 (PR hN hi hx Mz hs hf) (he OK K.x _ G F Z H ρ _ hO hX St ok λd v F1 H1 ρ1 s1 S1 r1 o1=>by
  split at o1
  ·rename_i ho;let{hl,T_}:=K0 ho;exact eo.nx F1 _ H1 _ s1 (S1.store T_ hl<|.inr {.l d,rfl,r1}) o1
  ·exact(hO o1).elim)
def Ao{t:Tg S}(he:dL X e me)(hg:fU X 0 tg t)(hs:swapsWithSole [tg] e pos.line X.env=pure false)(hw:swappedStores [tg] e X.env=pure none)
  (h1:(assignEach [tg] X.env).map (·.2)=[assign tg X.env]):wG X (.Assign [tg] e pos) (iy t me):=λOK K G F Z H ρ E hO hX St ok eo =>
 E3 (EI Mz Jy hs hw h1)<|he OK K.x _ G F Z H ρ _ hO hX St ok λd v F1 H1 ρ1 s1 S1 r1 o1 =>
  hg OK K.nx G F1 Z H1 ρ1 v d _ hO S1 r1 o1 λσ' ρ' S' _ _ _ o'=>eo.nx F1 σ' H1 ρ' s1 S' o'
end
section
variable {m n mb:SM S} {c a b o:Uf} {me mi:Ev S D} {mt:Ev S Bool} {ml ms:Ev S ?R} {L_ apos q_:Pos}
def L6{iter:Uf}{body:Re Stmt}{sh:Re Kd}{t:Tg S}(hp:PassesOwn ?B X.A X.env X.xe)(hc:X.calm=true)(hi:AEi X tg iter ml)(hg:fU X 0 tg t)(hb:cb X body mb)
  (hs:∀x,foldedSetIterable iter X.env x=pure x):wG X (.For tg iter body [] pos) (qg sh ml t mb):=λOK K G F Z H ρ E hO hX St ok eo =>
 E3 (P2 hp hc W8 Jy JF hs) (hi OK K.x _ G F Z H ρ _ hO hX St ok λds J F1 H1 ρ1 s1 S1 wk o1=>by
  let{s0,e0,o0}:=F8 hO o1;have S0:=S1.rd e0;generalize Ss:(λ(s) d (kn)=>t d (λρ2=>mb (pY sh K kn) ρ2) ?j1)=step at o0;refine{λi m σ' H'=>∃F' s,m=ds.length - i/\i<=ds.length/\c_ F1 F'/\b_ X.K G F' σ' H' ?j1/\OK (cD step (ds.drop i) s ?js),{ds.length,F1,s0,rfl,ac _,c_.refl _,S0,o0},?_};rintro i m σ' H' ⟨F',s,rfl,hi,s2,S2,go⟩;by_cases r_:i<ds.length
  ·have ed:=li r_;rw[ed]at go;rw[<-Ss]at go;have again:∀F5 σ5 H5 ρ5,c_ F' F5->b_ X.K G F5 σ5 H5 ρ5->OK (eV sh (λs'=>cD step (ds.drop ?jx) s' λs'=>K.nx<|wr sh s') ρ5) ->
     ∃m',m'<ds.length - i/\∃F' s,m'=ds.length - ?jx/\i+1<=ds.length/\c_ F1 F'/\b_ X.K G F' σ5 H5 ?j1/\OK (cD step (ds.drop ?jx) s ?js):=λF5 σ5 H5 ρ5 s5 S5 o5=>by
    let{s',e',o'}:=F8 hO o5;exact{ds.length - ?jx,by omega,F5,s',rfl,r_,s2.trans s5,S5.rd e',o'}
   refine .inr {wk.go i G F' σ' H' _ s2 S2 r_,λσ4 H4=>∃m',m'<ds.length - i/\∃F' s,m'=ds.length - ?jx/\i+1<=ds.length/\c_ F1 F'/\b_ X.K G F' σ4 H4 ?j1/\OK (cD step (ds.drop ?jx) s ?js),λσ4 H4 h4=>h4,λx H2 y=>?_};let{F3,s3,S3,r3}:=wk.VM i G F' σ' H' _ x H2 ds[i] s2 S2 (by simp ) y;refine hg OK _ G F3 σ' H2 ?j1 x ds[i] _ hO S3 r3 go λσ3 ρ3 S4 _ _ _ o4=>?_
   rw[Ss]at o4;refine hb OK (pY sh K λs'=>cD step (ds.drop ?jx) s' λs'=>K.nx<|wr sh s') G F3 σ3 H2 ρ3 _ hO hX S4 o4 {λF5 σ5 H5 ρ5 s5 S5 o5=>?_,λF5 σ5 H5 ρ5 d v s5=>eo.rt F5 σ5 H5 ρ5 d v<|(s1.trans<|s2.trans s3).trans s5,λF5 σ5 H5 ρ5 d v s5=>eo.rl F5 σ5 H5 ρ5 d v<|(s1.trans<|s2.trans s3).trans s5,λF5 σ5 H5 ρ5 s5 S5 o5=>?_,λF5 σ5 H5 ρ5 s5 S5 o5=>?_}
   ·exact again F5 σ5 H5 ρ5 (s3.trans s5) S5 o5
   ·let{s',e',o'}:=F8 hO o5;exact eo.nx F5 σ5 H5 _ ((s1.trans<|s2.trans s3).trans s5) (S5.rd e') o'
   ·exact again F5 σ5 H5 ρ5 (s3.trans s5) S5 o5
  ·have ei:i=ds.length:=by omega
   subst ei;rw[wv]at go
   exact .inl {wk.stop G F' σ' H' _ s2 S2,eo.nx F' σ' H' _ ?jo S2 go})
def GH{body:Re Stmt}{sh:Re Kd}{fuel:Nat}(hp:PassesOwn ?B X.A X.env X.xe)(hc:iK X c mt)(hb:cb X body mb):wG X (.While c body [] pos) (za sh fuel mt mb):=λOK K G F Z H ρ E hO hX St ok eo =>
 E3 (EG hp Os JF) (by
  let{s0,e0,o0}:=F8 hO ok;have S0:=St.rd e0;generalize Ss:(λ(s) (kn)=>mt K.x (λb ρ2=>if b then mb (pY sh K kn) ρ2 else eV sh ?js ρ2) ?j1)=step at o0;refine{λm σ' H'=>∃F' s,c_ F F'/\b_ X.K G F' σ' H' ?j1/\OK (bG step m s),{fuel,F,s0,c_.refl _,S0,o0},?_};rintro m σ' H' ⟨F',s,s2,S2,go⟩
  cases m with
  | zero=>exact(hO go).elim
  | succ m =>
   rw[<-Ss]at go;refine hc OK K.x _ G F' σ' H' ?j1 _ hO hX S2 go λt F1 H1 ρ1 s1 S1 o1=>?_
   cases t with
   | false =>
    let{s',e',o'}:=F8 hO<|(o1);exact eo.nx F1 σ' H1 _ (s2.trans s1) (S1.rd e') o'
   | true =>
    have YL:=o1;rw[Ss]at YL;have again:∀F5 σ5 H5 ρ5,c_ F1 F5->b_ X.K G F5 σ5 H5 ρ5->OK (eV sh (λs'=>bG step m s') ρ5)->∃m',m'<m+1/\∃F' s,c_ F F'/\b_ X.K G F' σ5 H5 ?j1/\OK (bG step m' s):=λF5 σ5 H5 ρ5 s5 S5 o5=>by
     let{s',e',o'}:=F8 hO o5;exact{m,Nat.lt_succ_self _,F5,s',(s2.trans s1).trans s5,S5.rd e',o'}
    refine Lv {λσ4 H4=>∃m',m'<m+1/\∃F' s,c_ F F'/\b_ X.K G F' σ4 H4 ?j1/\OK (bG step m' s),λσ4 H4 h4=>h4,?_};refine hb OK (pY sh K λs'=>bG step m s') G F1 σ' H1 ρ1 _ hO hX S1 YL {λF5 σ5 H5 ρ5 s5 S5 o5=>again F5 σ5 H5 ρ5 s5 S5 o5,λF5 σ5 H5 ρ5 d v s5=>eo.rt F5 σ5 H5 ρ5 d v<|(s2.trans s1).trans s5,λF5 σ5 H5 ρ5 d v s5=>eo.rl F5 σ5 H5 ρ5 d v<|(s2.trans s1).trans s5,λF5 σ5 H5 ρ5 s5 S5 o5=>?_,λF5 σ5 H5 ρ5 s5 S5 o5=>again F5 σ5 H5 ρ5 s5 S5 o5};let{s',e',o'}:=F8 hO o5
    exact eo.nx F5 σ5 H5 _ ((s2.trans s1).trans s5) (S5.rd e') o')
def TY{G:Gh}{i:Nat}{ds:Re D}(St:b_ K G F Z H ρ)(h:i3 ρ i=some ds):∃a vs,Z[i]? = some (some<|.ref a)/\H a=some (.lst vs)/\h_ K F vs ds:=by
 let{a,ea,oa}:=St.ow i _<|Jd h;let{vs,h1,h2}:=oa.he;exact{a,vs,ea,h1,h2}
def Ui{G:Gh}{i:Nat}{a:Tl}{ds WA:Re D}{UR:Re V}(St:b_ K G F Z H ρ)(h:i3 ρ i=some ds)(ha:Z[i]? = some (some<|.ref a))(r:h_ K F UR WA) :
  b_ K G F Z (upd H a<|.lst UR) (qi ρ i WA):=by
 rw[Xr ρ i WA ds h];exact St.change (Jd h) ha  {_,UQ,r}
def sA(ds as:Re D):SL ?R:=match as with
 | [d]=>if ds.length<sizeLine then some (ds++[d])else none
 | _=>none
def XL{i:Nat}(hN:X.N[i]? = some x)(hv:Vx X.env.scope x)(he:vb X [e] ms)
  (RG:attributeBase (.Name x pos') "append" X.env (eval (.Name x pos') X.env)=eval (.Name x pos') X.env)
  (X0:((backTo q_<|starEach [e] X.env).all (λx=>!x.1)&&(backToKw q_<|keywordEach [] X.env).all (λx=>x.1.isSome)
   && decide ([e].length+([]:Re Keyword).length+(if([]:Re Keyword).isEmpty then 0 else 1)<30))=true)
  (RF:?jI=true) (hs:starEach [e] X.env=?N::starEach [] X.env) (Tv:(backTo q_<|starEach [] X.env).any (·.1)=false)
  (XJ:swapsWith (.Call (.Attribute (.Name x pos') "append" apos) [e] [] q_) none pos.line X.env=pure false) (hd:(x==("__debug__" : Str))=false:=by decide) (RB:(x==("__classdict__" : Str))=false:=by decide) :
  wG X (.Expr (.Call (.Attribute (.Name x pos') "append" apos) [e] [] q_) pos) (mU i sA ms):=λOK K G F Z H ρ E hO hX St ok eo =>
 E3 (PM (EV xx PySem.F.slot_list_append PySem.F.type_list_append QJ ?jZ Pm RG X0 RF hs Tv) XJ) (by
  unfold mU at ok;split at ok
  case h_2=>exact(hO ok).elim
  ·rename_i ds0 h0;let{a,Zk,ea,hh,_}:=TY St h0;refine{_,ea,.inl {rfl,Zk,.inl<|.inl hh},he OK K.x _ G F Z H ρ _ hO hX St ok λas ws F1 H1 ρ1 s1 S1 _ r1 o1=>?_};split at o1
   ·rename_i ds UT;let{WA,hf,o2}:=OT hO o1;let{a',vs,Rf,hh',rv}:=TY S1 UT;rw[ea]at Rf;injection Rf with Rf;injection Rf with Rf;injection Rf with Rf;subst Rf;unfold sA at hf;split at hf
    ·split at hf
     ·rename_i hz
      cases hf
      cases r1 with
      | cons ra rb =>
       cases rb
       refine{a,vs,_,rfl,rfl,hh',by rw[rv.length];exact hz,?_};exact eo.nx F1 Z _ _ s1 (Ui S1 UT ea<|rv.append<|.cons ra .nil) o2
     ·cases hf
    ·cases hf
   ·exact(hO o1).elim)
end
def Uu{l:Re α}{i:Nat}{x:α}:(l.map some)[i]? = some (some x)↔l[i]? = some x:=by
 rw[ue]
 cases l[i]? <;> simp
open Classical in
noncomputable def bJ(G:Gh)(Z:L2.St)(ρ:En)(H:Hp)(ex:SL Tl):Hp:=λb=>if(∃(i:Nat) (c:OC),own ρ i c/\Z[i]? = some (some<|V.ref b))/\some b≠ex then H b else G.O b
def setC(ρ:En)(j:Nat)(c:OC):En:=ρ.set j<|(ρ[j]?.join).map fun | .op _=>.op c|_=>.ol c
section
variable {G:Gh} {ds:Re D}
def AE(S:b_ K G F Z H ρ){b:Tl}(h:G.O b=some o):bJ G Z ρ H ex b=some o:=by
 unfold bJ
 grind
def Yr{b:Tl}{i:Nat}(ho:own ρ i c)(e:Z[i]? = some (some<|V.ref b))(hx:some b≠ex):bJ G Z ρ H ex b=H b:=by
 unfold bJ;rw[ap {{i,c,ho,e},hx}]
def ZO(S:b_ K G F Z H ρ):c_ (bJ G Z ρ H ex) H:=λb o h=>by
 unfold bJ at h;split at h
 ·exact h
 ·exact S.oh b o h
def _root_.L3.Rv.Xu{a:Tl}(h:Rv K F H a c)(e:H a=some o):dI o:=by
 cases c with
 | l ds=>let{vs,h1,_}:=h;rw[h1]at e;cases e;exact True.intro
 | t es=>let{vs,h1,_}:=h;rw[h1]at e;cases e;exact True.intro
 | k es=>let{vs,h1,_}:=h;rw[h1]at e;cases e;exact True.intro
 | i x ns ds=>let{C,dx,fs,h1,_}:=h;rw[h1]at e;cases e;exact True.intro
 | n ns=>let{o,xs,h1,_}:=h;rw[h1]at e;cases e;exact True.intro
def ZP(S:b_ K G F Z H ρ):∀b o,bJ G Z ρ H ex b=some o->F b=none/\dI o:=λb o h=>by
 unfold bJ at h;split at h
 ·rename_i hc;let{{i,c,ho,e},_}:=hc;let{a,e',oa}:=S.ow i c ho;rw[e]at e';injection e' with e';injection e' with e';injection e' with e';subst e';exact{oa.nf,oa.he.Xu h}
 ·exact S.fo b o h
def Y6{i:Nat}{av:AV}(h:((ds.map AV.fz).map some)[i]? = some (some av)):∃d,av=.fz d/\ds[i]? = some d:=by
 grind
def LM{i:Nat}(h:own ((ds.map AV.fz).map some) i c):False:=by
 let h||h:=h<;>(let{d,z,_}:=Y6 h;cases z)
def JX(S:b_ K G F Z H ρ)(r:h_ K F vs ds):b_ K {λ_=>none,bJ G Z ρ H none,F} F ?jp H ((ds.map AV.fz).map some):=by
 refine{S.fh,ZO S,ZP S,by simp[r.length],λi d h=>?_,λi c h=>(LM h).elim,λi j c e a h=>(LM h).elim,λi a h=>(nomatch h),λi c h=>?_,c_.refl _}
 ·let{d',z,e}:=Y6 h
  cases z
  let{v,e1,e2}:=r.get e;exact{v,Uu.mpr e1,e2}
 ·let{d',z,e}:=Y6 h;cases z
def Pf{zaH:Re AV}(S:b_ K G F Z H ρ)(s1:c_ F F')(S1:b_ K {λ_=>none,bJ G Z ρ H none,F} F' ?jp H' (zaH.map some)) :
  b_ K G F' Z H' ρ/\∀v c,Frs K {λ_=>none,bJ G Z ρ H none,F} F' ?jp H' (zaH.map some) v c->Frs K G F' Z H' ρ v c:=by
 have oo:∀b,bJ G Z ρ H none b=none->G.O b=none:=λb h=>by
  cases q:G.O b with
  | none=>rfl
  | some o=>rw[AE S q]at h;cases h
 refine{{S1.fh,λb o h=>S1.oh b o<|AE S h,λb o h=>S1.fo b o<|AE S h,S.ln,λi d h=>?_,λi c h=>?_,S.dj,S.pp,S.pq,S.fb.trans s1},λv cc h=>?_}
 ·let{v,e,r}:=S.fz i d h;exact{v,e,r.mono s1}
 ·let{a,e,oa}:=S.ow i c h;let{o,ho}:=oa.he.some;have q:bJ G Z ρ H none a=some o:=by rw[Yr h e ?E];exact ho
  exact{a,e,(S1.fo a o q).1,oa.no,(oa.he.mono s1).at (by rw[S1.oh a o q,ho])}
 ·let{a,rfl,oa,_}:=h;refine{a,rfl,{oa.nf,oo a oa.no,oa.he},λi e ho q=>?_};let{a',e',oa'}:=S.ow i e ho;rw[q]at e';injection e' with e';injection e' with e';injection e' with e';subst e';let{o,hh}:=oa'.he.some;have:=oa.no;rw[show({λ_=>none,bJ G Z ρ H none,F}:Gh).O a=bJ G Z ρ H none a from rfl,Yr ho q ?E,hh]at this
  cases this
def rK(a:Tl):Nat->SL Tl
 | 0=>some a
 | _=>none
def Dx{a:Tl}(S:b_ K G F Z H ρ)(hj:own ρ j c)(ha:Z[j]? = some (some ?qB))(r:h_ K F vs ds) :
  b_ K {rK a,bJ G Z ρ H<|some a,F} F ((V.ref a::vs).map some) H ((AV.op c::ds.map AV.fz).map some):=by
 let{a',e',oa}:=S.ow j c hj;rw[ha]at e';injection e' with e';injection e' with e';injection e' with e';subst e';have s_:∀i d,own ((AV.op c::ds.map AV.fz).map some) i d->i=0/\d=c:=λi d h=>by
  cases i with
  | zero=>let h||h:=h<;>(simp at h);exact{rfl,h.symm}
  | succ i=>exact(LM (ds:=ds) (i:=i) (c:=d) (by unfold own at h ⊢;simpa using h)).elim
 refine{S.fh,ZO S,ZP S,by simp[r.length],λi d h=>?_,λi d h=>?_,λi k d e b h1 h2 _ _=>?_,λi b h=>?_,λi d h=>?_,c_.refl _}
 ·cases i with
  | zero=>simp at h
  | succ i =>
   let{d',z,e}:=Y6 (ds:=ds) (i:=i) (av:=.fz d) ?jl
   cases z
   let{v,e1,e2}:=r.get e;exact{v,by simpa using e1,e2}
 ·let{rfl,rfl}:=s_ i d h;refine{a,rfl,oa.nf,?_,oa.he};show bJ G Z ρ H (some a) a=none;unfold bJ;rw[ba ?E];exact oa.no
 ·rw[(s_ i d h1).1,(s_ k e h2).1]
 ·cases i with
  | zero=>cases h;exact{rfl,c,rfl}
  | succ i=>cases h
 ·cases i with
  | zero=>exact{a,rfl}
  | succ i =>
   let{d',z,e}:=Y6 (ds:=ds) (i:=i) (av:=.op d) ?jl
   cases z
def Ac{c':OC}{a:Tl}{l:Re AV}(S:b_ K G F Z H ρ)(hj:own ρ j c)(ha:Z[j]? = some (some ?qB))(s1:c_ F F')
  (S1:b_ K {rK a,bJ G Z ρ H<|some a,F} F' ((V.ref a::vs).map some) H' ((AV.op c'::l).map some)) :
  b_ K G F' Z H' (setC ρ j c')/\∀v cc,Frs K {rK a,bJ G Z ρ H<|some a,F} F' ((V.ref a::vs).map some) H' ((AV.op c'::l).map some) v cc->Frs K G F' Z H' (setC ρ j c') v cc:=by
 have oo:∀b,bJ G Z ρ H (some a) b=none->G.O b=none:=λb h=>by
  cases q:G.O b with
  | none=>rfl
  | some o=>rw[AE S q]at h;cases h
 let{a',e',oa}:=S.ow j c hj;rw[ha]at e';injection e' with e';injection e' with e';injection e' with e';subst e';have hl:j<ρ.length:=by let h||h:=hj<;>exact(List.getElem?_eq_some_iff.mp h).1
 generalize hav:((ρ[j]?.join).map λ(x:AV)=>match x with | .op _=>AV.op c'|_=>AV.ol c')=av;have zab:setC ρ j c'=ρ.set j av:=by rw[<-hav];rfl
 rw[zab];have ne:∀i,i≠j->(ρ.set j av)[i]? = ρ[i]?:=λi hi=>eT<|Ne.symm hi
 have atj:(ρ.set j av)[j]? = some av:=gs hl;have kind:(ρ[j]? = some (some<|.ol c)/\av=some (.ol c'))\/(ρ[j]? = some (some<|.op c)/\av=some (.op c')):=by
  let h||h:=hj
  ·exact .inl {h,by rw[<-hav,h];rfl}
  ·exact .inr {h,by rw[<-hav,h];rfl}
 have WL:∀i e,own (ρ.set j av) i e->(i=j/\e=c')\/(i≠j/\own ρ i e):=λi e h=>by
  by_cases hi:i=j
  ·subst hi;unfold own at h;rw[atj]at h;let{_,k}||{_,k}:=kind<;>rw[k]at h<;>let h||h:=h<;>cases h<;>exact .inl {rfl,rfl}
  ·unfold own at h ⊢;rw[ne i hi]at h;exact .inr {hi,h}
 have nea:∀i e b,i≠j->own ρ i e->Z[i]? = some (some<|V.ref b)->b≠a:=λi e b hi ho q z=>by
  subst z;exact hi<|S.dj i j e c b ho hj q ha
 have Ur:WE K {rK a,bJ G Z ρ H<|some a,F} F' H' a c':=by
  let{b,e1,ob}:=S1.ow 0 c'<|.inr rfl;have:V.ref a=V.ref b:=by simpa using e1
  injection this with this;subst this;exact ob
 refine{{S1.fh,λb o h=>S1.oh b o<|AE S h,λb o h=>S1.fo b o<|AE S h,by simpa using S.ln,λi d h=>?_,λi e h=>?_,λi k d e b h1 h2=>?_,λi b h=>?_,λi d h=>?_,S.fb.trans s1},λv cc h=>?_}
 ·by_cases hi:i=j
  ·subst hi;rw[atj]at h;let{_,k}||{_,k}:=kind<;>rw[k]at h<;>cases h
  ·rw[ne i hi]at h;let{v,e,r}:=S.fz i d h;exact{v,e,r.mono s1}
 ·let{rfl,rfl}||{hi,ho}:=WL i e h
  ·exact{a,ha,Ur.nf,oa.no,Ur.he}
  ·let{b,eb,ob}:=S.ow i e ho;let{o,hh}:=ob.he.some;have q:bJ G Z ρ H (some a) b=some o:=by rw[Yr ho eb λz=>nea i e b hi ho eb<|Option.some.inj z];exact hh
   exact{b,eb,(S1.fo b o q).1,ob.no,(ob.he.mono s1).at (by rw[S1.oh b o q,hh])}
 ·have f:∀i e,own (ρ.set j av) i e->∃d,own ρ i d:=λi e h=>by
   let{rfl,_}||{_,ho}:=WL i e h
   ·exact{c,hj}
   ·exact{e,ho}
  exact S.dj i k _ _ b (f i d h1).choose_spec (f k e h2).choose_spec
 ·let{q1,e,q2}:=S.pp i b h;refine{q1,?_};by_cases hi:i=j
  ·subst hi;let{k1,k}||{k1,k}:=kind
   ·rw[k1]at q2;cases q2
   ·exact{c',by rw[atj,k]}
  ·exact{e,by rw[ne i hi];exact q2}
 ·by_cases hi:i=j
  ·subst hi;let{k1,k}||{k1,k}:=kind
   ·rw[atj,k]at h;cases h
   ·exact S.pq i c k1
  ·rw[ne i hi]at h;exact S.pq i d h
 ·let{b,rfl,ob,nn}:=h;refine{b,rfl,{ob.nf,oo b ob.no,ob.he},λi e ho q=>?_};let{rfl,_}||{hi,Ve}:=WL i e ho
  ·rw[ha]at q;injection q with q;injection q with q;injection q with q;subst q;exact nn 0 c' (.inr rfl) rfl
  ·let{b',eb,YK}:=S.ow i e Ve;rw[q]at eb;injection eb with eb;injection eb with eb;injection eb with eb;subst eb;let{o,hh}:=YK.he.some;have:=ob.no;rw[show({rK a,bJ G Z ρ H<|some a,F}:Gh).O b=bJ G Z ρ H (some a) b from rfl,Yr Ve q λz=>nea i e b hi Ve q<|Option.some.inj z,hh]at this
   cases this
end
abbrev Sw(ds:Re D):En:=(ds.map AV.fz).map some
def mn:KS D:={λ_=>.ret .none,λd _=>.ret d,λ_ _=>.bad,λ_=>.bad,λ_=>.bad,λe _=>.exc e}
def asL{S:Type}(c:OC)(k:Re D->M S):M S:=match c with
 | .l ds=>k ds
 | _=>.bad
def xJ:KS ?R:={λ_=>.bad,λ_ _=>.bad,λc _=>asL c .ret,λ_=>.bad,λ_=>.bad,λe _=>.exc e}
def s_{S:Type}(ρ:En)(k:Re D->M S):M S:=match (ρ[0]? : SL (SL AV))with
 | some (some<|AV.op<|OC.l f)=>k f
 | _=>.bad
def uZ:KS ?jK:={λρ=>s_ ρ λf=>.ret (.none,f),λd ρ=>s_ ρ λf=>.ret (d,f),λ_ _=>.bad,λ_=>.bad,λ_=>.bad,λe _=>.exc e}
def qE(K:Fg)(G:Gh)(E:XK){α:Type}(m:M α)(C:α->Prop):Prop:=match m with
 | .ret a=>C a
 | .exc x=>∀F' H' Cl dd,GOk G F' H'->ly K F' Cl dd x->E (.ref Cl) dd H'
 | .bad=>False
def pN(K:Fg)(n:Nat)(mf:Re D->M D):Sp:=λvs H Q E=>∃G F ds,vs.length=n/\b_ K G F ?jp H (Sw ds)/\qE K G E (mf ds) λd=>∀v F' H',c_ F F'->b_ K G F' ?jp H' (Sw ds)->Rep K F' v d->Q v H'
def spL(K:Fg)(n:Nat)(mf:Re D->M ?R):Sp:=λvs H Q E=>∃G F ds,vs.length=n/\b_ K G F ?jp H (Sw ds)/\qE K G E (mf ds) λd=>∀v F' H',c_ F F'->b_ K G F' ?jp H' (Sw ds)->Frs K G F' ?jp H' (Sw ds) v (.l d)->Q v H'
def nG(K:Fg)(n:Nat)(mf:Re D->Re D->M ?jK):Sp:=λvs H Q E=>∃G F f ds,vs.length=n/\b_ K G F ?jp H (some (.op<|.l f)::Sw ds)/\qE K G E (mf f ds) λr =>
 ∀v F' H',c_ F F'->b_ K G F' ?jp H' (some (.op<|.l r.2)::Sw ds)->Rep K F' v r.1->Q v H'
section
variable {G:Gh} {ds:Re D}
def N0(S:b_ K G F ?jp H (Sw ds))(s1:c_ F F')(S1:b_ K G F' Z H' ρ):b_ K G F' ?jp H' (Sw ds):=by
 refine{S1.fh,S1.oh,S1.fo,S.ln,λi d q=>?_,λi c q=>(LM q).elim,λi j c e a q=>(LM q).elim,S.pp,S.pq,S1.fb};let{v,e,r}:=S.fz i d q;exact{v,e,r.mono s1}
def IN(S1:b_ K G F' Z H' ρ)(h:Frs K G F' Z H' ρ v c):Frs K G F' ?jp H' (Sw ds) v c:=by
 let{a,rfl,oa,_}:=h;exact{a,rfl,oa,λi e q=>(LM q).elim}
def Ur{f:Re D}{i:Nat}(h:own (some (.op<|.l f)::Sw ds) i c):i=0/\c=.l f:=by
 cases i with
 | zero=>let h||h:=h<;>simp at h;exact{rfl,h.symm}
 | succ i=>exact(LM (ds:=ds) (i:=i) (c:=c) (by unfold own at h ⊢;simpa using h)).elim
def GF{f f':Re D}(S:b_ K G F ?jp H (some (.op<|.l f)::Sw ds))(s1:c_ F F')(S1:b_ K G F' Z H' ρ)(h0:ρ[0]? = some (some<|.op<|.l f')) :
  b_ K G F' ?jp H' (some (.op<|.l f')::Sw ds)/\∀v c,Frs K G F' Z H' ρ v c->Frs K G F' ?jp H' (some (.op<|.l f')::Sw ds) v c:=by
 let{a,ha}:=S1.pq 0 _ h0;let{e1,_}:=S1.pp 0 a ha;let{e2,_}:=S.pp 0 a ha;let{b,eb,ob}:=S1.ow 0 _<|.inr h0;rw[e1]at eb;injection eb with eb;injection eb with eb;injection eb with eb;subst eb;have only:∀i b,G.P i=some b->i=0:=λi b h=>by
  let{_,c,q}:=S.pp i b h;exact(Ur<|.inr q).1
 refine{{S1.fh,S1.oh,S1.fo,S.ln,λi d q=>?_,λi c q=>?_,λi j c e b q1 q2 _ _=>?_,λi b q=>?_,λi c q=>?_,S1.fb},λv c h=>?_}
 ·cases i with
  | zero=>simp at q
  | succ i =>
   let{v,e,r}:=S.fz ?jx d (by simpa using q);exact{v,e,r.mono s1}
 ·let{rfl,rfl}:=Ur q;exact{a,e2,ob}
 ·rw[(Ur q1).1,(Ur q2).1]
 ·have:=only i b q;subst this;exact{(S.pp 0 b q).1,_,rfl}
 ·let{rfl,_}:=Ur<|.inr q;exact{a,ha}
 ·let{b,rfl,ob2,nn}:=h;refine{b,rfl,ob2,λi e q z=>?_};let{rfl,rfl}:=Ur q;rw[e2]at z;injection z with z;injection z with z;injection z with z;subst z;exact nn 0 _ (.inr h0) e1
end
section
variable {qual:Str} {N:Re Str} {k:Nat}
def Pe{ds:Re D}{G:Gh}(hl:vs.length=ps.length)(S0:b_ K G F ?jp H (Sw ds)):b_ K G F (L2.start N vs) H (Sw ds++List.replicate ?jz none):=by
 have e0:L2.start N vs=vs.map some++List.replicate ?jz none:=by unfold L2.start;rw[hl]
 rw[e0];exact S0.grow _
def LC{sp:Sp}(Fn:Yp K x qual st f fd)(S:o_ N ps ?jW)(len:∀vs H Q E,sp vs H Q E->vs.length=ps.length)
  (Vi:∀(p_:SZ) (A:UV) (outer:Re Env) (s:Tk) (H:Hp) (vs:Re V) (Q:VK) (E:XK),z_ k ?ja->sp vs H Q E ->
   ∃t,zA ?V ?qx t/\t { nx:=λ_ H'=>Q .Rq H',rt:=Q } (start N vs) H):RC P w K mg base (qL P w) (k+1) f fd ps sp:=by
 let{oc,od,kV,doc,pm,an,p_,ct,Us,rfl,lk,RB}:=Fn.ex;exact JT lk RB S len λA outer s H vs Q E hr Uy=>Vi p_ A outer s H vs Q E hr Uy
def BR{C:α->Prop}{N:Re Str}{qual:Str}{scope:Scope}{p_:SZ}{outer:Re Env}{G:Gh}{e:Ex}(h:qE K G E (M.exc e:M α) C):XW (mQ (qL P w) P w K mg base N qual scope f p_ A outer s H E) G F ρ e :=
 λF' H' s' a Cl dd pins Z g _ I xs _ xr=>Ic I xs<|h F' H' Cl dd g xr
def N1{mb:SM D}{mf:Re D->M D}(Fn:Yp K x qual st f fd)(Sc:o_ N ps ?jW)
  (hb:∀(p_:SZ) (A:UV) (outer:Re Env) (s:Tk) (H:Hp) (E:XK),z_ k ?ja ->
   cb ?V ?qx mb)
  (hm:∀ds,ds.length=ps.length->mf ds=mb mn (Sw ds++List.replicate ?jz none)):RC P w K mg base (qL P w) (k+1) f fd ps (pN K ps.length mf):=by
 refine LC Fn Sc (λvs H Q E h=>?_) λp_ A outer s H vs Q E hr h=>?_
 ·let{_,_,_,h1,_}:=h;exact h1
 ·let{G,F0,ds,h1,S0,e}:=h;have hl:ds.length=ps.length:=by grind
  rw[hm ds hl]at e;refine{_,JF,hb p_ A outer s H E hr (λm=>qE K G E m _) mn G F0 _ H _ _ (λz=>z) (λF ρ e z=>BR z) (Pe h1 S0) e ?_};exact{λF' σ' H' ρ' s S' o=>((o .Rq F' H' s (N0 S0 s S') .Rq)),λF' σ' H' ρ' d' v s S' r o=>((o v F' H' s (N0 S0 s S') r)),λF' σ' H' ρ' d' v s S' r o=>(o).elim,λF' σ' H' ρ' s S' o=>(o).elim,λF' σ' H' ρ' s S' o=>(o).elim}
def L8{k:Re D->M S}{G:Gh}{C:S->Prop}(h:qE K G E (asL c k) C):∃ds,c=.l ds/\qE K G E (k ds) C:=by
 cases c with
 | l ds=>exact{ds,rfl,h}
 | _=>exact(h).elim
def LD{mb:SM ?R}{mf:Re D->M ?R}(Fn:Yp K x qual st f fd)(Sc:o_ N ps ?jW)
  (hb:∀(p_:SZ) (A:UV) (outer:Re Env) (s:Tk) (H:Hp) (E:XK),z_ k ?ja ->
   cb ?V ?qx mb)
  (hm:∀ds,ds.length=ps.length->mf ds=mb xJ (Sw ds++List.replicate ?jz none)):RC P w K mg base (qL P w) (k+1) f fd ps (spL K ps.length mf):=by
 refine LC Fn Sc (λvs H Q E h=>?_) λp_ A outer s H vs Q E hr h=>?_
 ·let{_,_,_,h1,_}:=h;exact h1
 ·let{G,F0,ds,h1,S0,e}:=h;have hl:ds.length=ps.length:=by grind
  rw[hm ds hl]at e;refine{_,JF,hb p_ A outer s H E hr (λm=>qE K G E m _) xJ G F0 _ H _ _ (λz=>z) (λF ρ e z=>BR z) (Pe h1 S0) e ?_};exact{λF' σ' H' ρ' s S' o=>(o).elim,λF' σ' H' ρ' d' v s S' r o=>(o).elim,λF' σ' H' ρ' d' v s S' r o=>(by let{WA,rfl,o}:=L8 o;exact o v F' H' s (N0 S0 s S')<|IN S' r),λF' σ' H' ρ' s S' o=>(o).elim,λF' σ' H' ρ' s S' o=>(o).elim}
def GG{k:Re D->M S}{G:Gh}{C:S->Prop}(h:qE K G E (s_ ρ k) C):∃f,ρ[0]? = some (some<|AV.op<|OC.l f)/\qE K G E (k f) C:=by
 unfold s_ at h;split at h
 ·grind
 ·exact h.elim
def G8{ds g:Re D}{G:Gh}(hl:vs.length=ps.length)(S0:b_ K G F ?jp H (some (.op<|.l g)::Sw ds)):b_ K G F (L2.start N vs) H (some (.op<|.l g)::Sw ds++List.replicate ?jz none):=by
 have e0:L2.start N vs=vs.map some++List.replicate ?jz none:=by unfold L2.start;rw[hl]
 rw[e0];exact S0.grow _
def FW{mb:SM ?jK}{mf:Re D->Re D->M ?jK}(Fn:Yp K x qual st f fd)(Sc:o_ N ps ?jW)
  (hb:∀(p_:SZ) (A:UV) (outer:Re Env) (s:Tk) (H:Hp) (E:XK),z_ k ?ja ->
   cb ?V ?qx mb)
  (hm:∀g ds,ds.length+1=ps.length->mf g ds=mb uZ (some (.op<|.l g)::Sw ds++List.replicate ?jz none)):RC P w K mg base (qL P w) (k+1) f fd ps (nG K ps.length mf):=by
 refine LC Fn Sc (λvs H Q E h=>?_) λp_ A outer s H vs Q E hr h=>?_
 ·let{_,_,_,_,h1,_}:=h;exact h1
 ·let{G,F0,g,ds,h1,S0,e}:=h;have hl:ds.length+1=ps.length:=by grind
  rw[hm g ds hl]at e;refine{_,JF,hb p_ A outer s H E hr (λm=>qE K G E m _) uZ G F0 _ H _ _ (λz=>z) (λF ρ e z=>BR z) (G8 h1 S0) e ?_};refine{λF' σ' H' ρ' s S' o=>?_,λF' σ' H' ρ' d' v s S' rv o=>?_,λF' σ' H' ρ' d' v s S' r o=>(o).elim,λF' σ' H' ρ' s S' o=>(o).elim,λF' σ' H' ρ' s S' o=>(o).elim}
  ·let{f',q,e'}:=GG o;exact e' .Rq F' H' s (GF S0 s S' q).1 .Rq
  ·let{f',q,e'}:=GG o;exact e' v F' H' s (GF S0 s S' q).1 rv
end
structure CF(P:TD)(w:TW)(K:Fg)(mg:R1)(base:Wp)(x:Str)(k:Nat)(sp:Sp):Prop where
 ex:∃(f:Tl) (fd:FuncData) (ps:Re Str),RC P w K mg base (qL P w) k f fd ps sp/\mg x=some (.ref f)/\PySem.W.keepIn K (.ref f)=true/\L2.Binds K fd ps []
def vX(mf:Re D->M D)(ps:Pa D):Pu D:=λρ=>ps (λds=>mf ds) ρ
def qP(mf:Re D->M ?R)(ps:Pa ?R):Pu ?R:=λρ=>ps (λds=>mf ds) ρ
section
def tK(mf:Re D->Re D->M ?jK)(i:Nat)(ms:Ev S ?R):Ev S D:=λx k ρ=>ms x (λds ρ1=>match i3 ρ1 i with
 | some f=>(mf f ds).on (λe=>x e ρ1) λr=>k r.1<|qi ρ1 i r.2
 | none=>.bad) ρ
end
noncomputable def EX(X:Cx)(G:Gh)(Z:L2.St):XK:=λc dd H'=>∃x ρ F1 F' C,c=.ref C/\XW X G F1 ρ x/\GOk G F' H'/\zaj X.K F' Z ρ/\ly X.K F' C dd x
theorem XS.zaq{h:Wp}{lo lo':Nat}{e C:Tl}{dd:SL Tl}(xs:XS H h lo e C dd)(hl:lo'<=lo):XS H h lo' e C dd:=by
 let{oe,vs,q,c,d,z,z1,k}:=xs.obj;refine{di hl xs.yg,xs.Ye,oe,vs,q,c,d,z,z1,k.imp id ?_};rintro⟨T,oT,ts,k,ne,l,r⟩;exact{T,oT,ts,k,ne,di hl l,r}
def oR(X:Cx)(Z:L2.St)(E:XK):Prop:=∀(pins:w_) (H:Hp) (s:Tk) (e:SZ) (s':Tk),Inv X pins Z H s->qL X.prog X.w X.stack H s E e s'->X.xe e s'
def Bd{G:Gh}:oR X Z (EX X G Z):=λpins H s e s' I h=>by
 let{a,C,dd,H',rfl,ho,hb,un,hk,xs,x,ρ,F1,F',C',ec,xw,g,fz,xr}:=h
 cases ec
 refine xw F' H' s' a C dd pins Z g fz (I.ZK ho un hk hb λb z=>absurd z ?E) (xs.zaq I.sz) (λp hp z=>?_) xr;exact absurd (eg (bj (I.pin p hp).1) (xs.tb z).2.1)<|nu _
theorem EX.of{G:Gh}{x:Ex}{C:Tl}{dd:SL Tl}{p:Nat->SL Tl}(S:b_ X.K G F Z H ρ)(xw:XW X G F ρ x)(g:GOk {p,bJ G Z ρ H ex,F} F' H')(xr:ly X.K F' C dd x):EX X G Z (.ref C) dd H' :=
 {x,ρ,F,F',C,rfl,xw,{g.fh,λb o h=>g.oh b o<|AE S h,λb o h=>g.fo b o<|AE S h,S.fb.trans g.fb},S.zbn g.fb,xr}
section
variable {k:Nat} {sp:Sp}
def Ko{us:Re SZ}(F:RC X.prog X.w X.K X.mg X.base (qL X.prog X.w) k f fd ps sp)(hr:z_ k X.A)(hb:L2.Binds X.K fd ps [])(hx:oR X Z E)
  (I:Inv X pins Z H s) (r:Vals vs us) (h:sp vs H Q E):wpAny ?B X.A (call (.ref f) us) ?jq X.xe s:=by
 have hl:(us++[]).length=ps.length:=by rw[je,<-r.length];exact F.len _ _ _ _ h
 have bb:=hb s us I.Vb hl;rw[je]at bb;refine wpAny_call<|codeAny_mono (F.run X.A X.stack s H {us,[]} us vs Q E hr I.zaF bb r h) λr s' hq=>?_
 cases r with
 | error e=>exact hx pins H s e s' I hq
 | ok fl =>
  cases fl with
  | ret u=>exact I.after hq
  | next=>exact False.elim hq
  | brk=>exact False.elim hq
  | cont=>exact False.elim hq
def N2(F:RC X.prog X.w X.K X.mg X.base (qL X.prog X.w) k f fd ps sp)(hr:z_ k X.A)(hg:uf X x)(hm:X.mg x=some (.ref f))(hk:PySem.W.keepIn X.K (.ref f)=true)(hb:L2.Binds X.K fd ps [])(hx:oR X Z E)
  (SQ:(x==("__debug__" : Str))=false) (he:starEach (e::es) X.env=?N::starEach es X.env) (Sg:(backTo pos ?W).any (·.1)=false)
  (h:jf X (e::es) Z H λvs H1=>sp vs H1 Q E):gW X (.Call (.Name x p) (e::es) [] pos) Z H Q:=by
 unfold gW;intro pins s I;unfold jf at h;refine xz<|Bq I hg hm ?_ SQ;refine PySem.W.callWith_K  I.ok.mod.XG hk (Db (h pos pins s I) λus s1 ⟨vs,H1,I1,r,q⟩=>{I1.Vb,?_}) he Sg;exact Ko F hr hb hx I1 r q
end
section
variable {k:Nat} {mf:Re D->M D} {ml:Re D->M ?R} {m1:Re D->Re D->M ?jK} {m1L:Re D->Re D->M (Re D×Re D)} {pn:Pos} {ps:Pa D} {pl:Pa ?R} {ms:Ev S ?R}
def AI(C:CF X.prog X.w X.K X.mg X.base x k (pN X.K n mf))(hr:z_ k X.A)(ha:jl X (e::es) ps)(hg:uf X x:=by rfl)(hn:(e::es).length=n:=by rfl)
  (SQ:(x==("__debug__" : Str))=false:=by decide) (he:starEach (e::es) X.env=?N::starEach es X.env:=by rfl) (Sg:(backTo pos ?W).any (·.1)=false:=by rfl):lj X (.Call (.Name x p) (e::es) [] pos) (vX mf ps):=by
 let{f,fd,pl,Fn,h1,h2,h3}:=C.ex;intro G F Z H ρ Q St w;refine N2 Fn hr hg h1 h2 h3 (Bd (G:=G)) SQ he Sg ?_;refine ha G F Z H ρ _ _ _ St w λds vs F1 H1 s1 S1 hl r1 w1=>?_
 cases hd:mf ds with
 | bad=>rw[hd]at w1;exact w1.elim
 | exc e =>
  rw[hd]at w1;exact{_,F1,ds,hl.trans hn,JX S1 r1,by rw[hd];exact λF' H' Cl dd g xr=>EX.of S1 w1 g xr}
 | ret d =>
  rw[hd]at w1;refine{_,F1,ds,hl.trans hn,JX S1 r1,?_};rw[hd];intro v F2 H2 s2 S2 r2;let{S3,t3}:=Pf  S1 s2 S2;exact w1 F2 H2 s2 S3 v r2
def Oa(C:CF X.prog X.w X.K X.mg X.base x k (spL X.K n ml))(hr:z_ k X.A)(ha:jl X (e::es) pl)(hg:uf X x:=by rfl)(hn:(e::es).length=n:=by rfl)
  (SQ:(x==("__debug__" : Str))=false:=by decide) (he:starEach (e::es) X.env=?N::starEach es X.env:=by rfl) (Sg:(backTo pos ?W).any (·.1)=false:=by rfl):u4 X (.Call (.Name x p) (e::es) [] pos) (qP ml pl):=by
 let{f,fd,pz,Fn,h1,h2,h3}:=C.ex;intro G F Z H ρ Q St w;refine N2 Fn hr hg h1 h2 h3 (Bd (G:=G)) SQ he Sg ?_;refine ha G F Z H ρ _ _ _ St w λds vs F1 H1 s1 S1 hl r1 w1=>?_
 cases hd:ml ds with
 | bad=>rw[hd]at w1;exact w1.elim
 | exc e =>
  rw[hd]at w1;exact{_,F1,ds,hl.trans hn,JX S1 r1,by rw[hd];exact λF' H' Cl dd g xr=>EX.of S1 w1 g xr}
 | ret d =>
  rw[hd]at w1;refine{_,F1,ds,hl.trans hn,JX S1 r1,?_};rw[hd];intro v F2 H2 s2 S2 r2;let{S3,t3}:=Pf  S1 s2 S2;exact w1 F2 H2 s2 S3 v<|t3 v _ r2
def Cv{i:Nat}{f g:Re D}(h:i3 ρ i=some g):qi ρ i f=setC ρ i (.l f):=Xr ρ i f g h
def Ai{i:Nat}{OK:M S->Prop}{z:Ex->En->M S}{kk:Re D->En->M S}{G:Gh}{Q:Re V->Hp->Prop}(hN:X.N[i]? = some y)(hv:Vx X.env.scope y)(hd:(y==("__debug__" : Str))=false)(RB:(y==("__classdict__" : Str))=false)
  (ha:vb X es ms) (he:starEach (.Name y pn::es) X.env=(false,eval (.Name y pn) X.env)::starEach es X.env) (hO:nB OK) (hX:lc X OK z G) (St:b_ X.K G F Z H ρ) (ok:OK (ms z (λds ρ1=>match i3 ρ1 i with|some f=>kk (.list f::ds) ρ1|none=>.bad) ρ))
  (h0:(i3 ρ i).isSome=true)
  (k2:∀a f ds vs F' H' ρ',c_ F F'->b_ X.K G F' Z H' ρ'->i3 ρ' i=some f->Z[i]? = some (some ?qB)->vs.length=es.length->h_ X.K F' vs ds->OK (kk (.list f::ds) ρ')->Q (.ref a::vs) H'):jf X (.Name y pn::es) Z H Q:=by
 let{f0,hf0}:=Option.isSome_iff_exists.mp h0;let{a,_,ea,_,_}:=TY St hf0;refine G5 (Qi ?jZ Pm he) {_,ea,?_};refine ha OK z _ G F Z H ρ _ hO hX St ok λds vs F1 H1 ρ1 s1 S1 hl r1 o1=>?_
 split at o1
 ·grind
 ·exact(hO o1).elim
def ck{S α:Type}(i:Nat)(m:Ev S α):Ev S α:=λx k ρ=>match (i3 ρ i).isSome with
 | true=>m x k ρ
 | false=>.bad
def O9{G:Gh}{ds f:Re D}{a:Tl}(S:b_ K G F Z H ρ)(hj:i3 ρ j=some f)(ha:Z[j]? = some (some ?qB))(r:h_ K F vs ds) :
  b_ K {rK a,bJ G Z ρ H<|some a,F} F ((V.ref a::vs).map some) H (some (.op<|.l f)::Sw ds):=Dx S (Jd hj) ha r
def AG{i:Nat}(C:CF X.prog X.w X.K X.mg X.base x k (nG X.K n m1))(hr:z_ k X.A)(ha:vb X es ms)(hg:uf X x:=by rfl)(hN:X.N[i]? = some y:=by rfl)(hv:Vx X.env.scope y:=by exact Lz rfl)(hn:es.length+1=n:=by rfl)
  (SQ:(x==("__debug__" : Str))=false:=by decide) (he:starEach (.Name y pn::es) X.env=(false,eval (.Name y pn) X.env)::starEach es X.env:=by rfl) (Sg:(backTo pos ?W).any (·.1)=false:=by rfl)
  (hd:(y==("__debug__" : Str))=false:=by decide) (RB:(y==("__classdict__" : Str))=false:=by decide):dL X (.Call (.Name x p) (.Name y pn::es) [] pos) (ck i<|tK m1 i ms):=by
 let{f,fd,pl,Fn,h1,h2,h3}:=C.ex;intro OK z kk G F Z H ρ Q hO hX St ok k2;unfold ck at ok;split at ok
 case h_2=>exact(hO ok).elim
 rename_i h0;refine N2 Fn hr hg h1 h2 h3 (Bd (G:=G)) SQ he Sg ?_;refine Ai   (kk:=λl ρ1=>match l with | .list f::ds=>(m1 f ds).on (λe=>z e ρ1) λr=>kk r.1<|qi ρ1 i r.2|_=>.bad) hN hv hd RB ha he hO hX St ok h0 λa f ds vs F1 H1 ρ1 s1 S1 hf ea hl r1 o1=>?_
 have YL:OK ((m1 f ds).on (λe=>z e ρ1) λr=>kk r.1<|qi ρ1 i r.2):=o1
 cases hd:m1 f ds with
 | bad=>rw[hd]at YL;exact(hO YL).elim
 | exc e =>
  rw[hd]at YL;exact{_,F1,f,ds,by simp[hl];exact hn,O9 S1 hf ea r1,by rw[hd];exact λF' H' Cl dd g xr=>EX.of S1 (hX F1 ρ1 e YL) g xr}
 | ret r =>
  rw[hd]at YL;refine{_,F1,f,ds,by simp[hl];exact hn,O9 S1 hf ea r1,?_};rw[hd];intro v F2 H2 s2 S2 r2;let{S3,t3}:=Ac   S1 (Jd hf) ea s2 S2;rw[<-Cv hf]at S3;exact k2 r.1 v F2 H2 _ ?jo S3 r2 YL
end
theorem CF.zero(k n:Nat)(h1:mg x=some (.ref f))(h2:PySem.W.keepIn K (.ref f)=true)(h3:L2.Binds K fd ps []) :
  CF P w K mg base x k (pN K n λ_=>.bad):={f,fd,ps,{λvs H Q E h=>(by let{_,_,_,_,_,z}:=h;exact z.elim),λA outer s H args us vs Q E hr e0 hb hv h=>(by let{_,_,_,_,_,z}:=h;exact z.elim)},h1,h2,h3}
theorem CF.zak(k n:Nat)(h1:mg x=some (.ref f))(h2:PySem.W.keepIn K (.ref f)=true)(h3:L2.Binds K fd ps []) :
  CF P w K mg base x k (nG K n λ_ _=>.bad):={f,fd,ps,{λvs H Q E h=>(by let{_,_,_,_,_,_,z}:=h;exact z.elim),λA outer s H args us vs Q E hr e0 hb hv h=>(by let{_,_,_,_,_,_,z}:=h;exact z.elim)},h1,h2,h3}
theorem _root_.L2.z_.m{k:Nat}(r:z_ k A)(h:j<=k:=by decide):z_ j A:=r.mono h
def NY{k:Nat}(r:z_ k A):A.units+1100<cLine:=by have:=r.un;lia
def kA{S:Type}(m:M S):M S:=match m with
 | .ret s=>.ret s
 | _=>.bad
def NW(s:S):kA (M.ret s)=.ret s:=rfl
def aW(step:D->M (SL D)):Re D->M ?R
 | []=>.ret []
 | d::r=>bd (kA<|step d) λo=>bd (aW step r) λxs=>.ret<|o.toList++xs
def Ly{step:D->M (SL D)}:∀{ds:Re D} {e:Ex},aW step ds≠.exc e
 | [],e,h=>by cases h
 | d::r,e,h=>by
  unfold aW at h
  cases hs:step d with
  | ret o =>
   rw[hs]at h
   cases hr:aW step r with
   | ret xs=>rw[hr]at h;cases h
   | exc e'=>exact Ly hr
   | bad=>rw[hr]at h;cases h
  | exc e'=>rw[hs]at h;cases h
  | bad=>rw[hs]at h;cases h
def xC(k:Nat)(it:Pu ?R)(t:Tg (SL D))(pt:Pu Bool)(pe:Pu D):Pu ?R:=λρ=>bd (it ρ) λds =>
 bd (aW (λd=>t d (λρ1=>bd (pt ρ1) λb=>if b then bd (pe ρ1) λv=>.ret (some v)else .ret none) ?jJ) ds) cp
def iJ{T:Type}(step:T->D->M (SL D×T)):Re D->T->M (Re D×T)
 | [],s=>.ret ([],s)
 | d::r,s=>bd (kA<|step s d) λp=>bd (iJ step r p.2) λq=>.ret (p.1.toList++q.1,q.2)
def TC{T:Type}{step:T->D->M (SL D×T)}:∀{ds:Re D} {s:T} {e:Ex},iJ step ds s≠.exc e
 | [],s,e,h=>by cases h
 | d::r,s,e,h=>by
  unfold iJ at h
  cases hs:step s d with
  | ret o =>
   rw[hs,NW,Am]at h
   cases hr:iJ step r o.2 with
   | ret xs=>rw[hr]at h;cases h
   | exc e'=>exact TC hr
   | bad=>rw[hr]at h;cases h
  | exc e'=>rw[hs]at h;cases h
  | bad=>rw[hs]at h;cases h
def aO{S:Type}(sh:Re Kd)(k:Nat)(it:Ev S ?R)(t:Tg ?qy)(et:Ev ?qy Bool)(ee:Ev ?qy D):Ev S ?R:=λx kk ρ=>it x (λds ρ1=>eV sh (λs =>
 (iJ (λs d=>t d (λρ2=>et (λe _=>.exc e) (λb ρ3=>if b then ee (λe _=>.exc e) (λv ρ4=>eV sh (λs'=>.ret (some v,s'))<|ρ4.take sh.length) ρ3 else eV sh (λs'=>.ret (none,s')) (ρ3.take sh.length)) ρ2)<|wr sh s++List.replicate k none) ds s).on
  (λe=>x e ρ1) λq=>(cp q.1).on (λe=>x e ρ1) λout=>kk out<|wr sh q.2) ρ1) ρ
def bI:Pu Bool:=λ_=>.ret true
noncomputable def ATs(X:Cx)(ifs:Re Uf)(p:Pu Bool):Prop :=
 ∀(G:Gh) (F:Hp) (Z:L2.St) (H:Hp) (ρ:En) (Q:Bool->Hp->Prop),b_ X.K G F Z H ρ->W X G F Z ρ (p ρ) (λd F' H'=>Q d H')->∀(pins:w_) (s:Tk),Inv X pins Z H s ->
  wpAny ?B X.A (forIn ifs true λc r=>if r=true then do let ok <-isTrue c X.env (eval c X.env);pure (ForInStep.yield ok)else pure (ForInStep.yield r)) ?qr X.xe s
def ZT:ATs X [] bI:=λG F Z H ρ Q S w pins s I=>Hq pins s Z H Q I<|w F H ?J S
def JS{c:Uf}{p:Pu Bool}(h:eN X c p):ATs X [c] p:=λG F Z H ρ Q S w pins s I=>AY Os pins s Z H Q I<|h G F Z H ρ Q S w
def fG{S:Type}(X:Cx)(ifs:Re Uf)(m:Ev S Bool):Prop :=
 ∀(OK:M S->Prop) (x:Ex->En->M S) (k:Bool->En->M S) (G:Gh) (F:Hp) (Z:L2.St) (H:Hp) (ρ:En) (Q:Bool->Hp->Prop),nB OK->lc X OK x G->b_ X.K G F Z H ρ->OK (m x k ρ) ->
  (∀d F' H' ρ',c_ F F'->b_ X.K G F' Z H' ρ'->OK (k d ρ')->Q d H')->∀(pins:w_) (s:Tk),Inv X pins Z H s ->
  wpAny ?B X.A (forIn ifs true λc r=>if r=true then do let ok <-isTrue c X.env (eval c X.env);pure (ForInStep.yield ok)else pure (ForInStep.yield r)) ?qr X.xe s
def GN{c:Uf}{m:Ev S Bool}(h:iK X c m):fG X [c] m:=λOK x k G F Z H ρ Q hO hX St ok kk pins s I=>AY Os pins s Z H Q I<|h OK x k G F Z H ρ Q hO hX St ok kk
theorem W.zao{G:Gh}{m:M α}{a:α}{C:α->Hp->Hp->Prop}(e:m=.ret a)(h:∀F' H',c_ F F'->b_ X.K G F' Z H' ρ->C a F' H'):W X G F Z ρ m C:=by subst e;exact h
def DS:∀(sh:Re Kd) (s:aM sh),(wr sh s).length=sh.length:=by
 intro sh
 induction sh with
 | nil=>intro s;rfl
 | cons a r ih=>intro s;cases a<;>simp[wr,ih]
inductive Zh{τ:Type}(K:Fg)(G:Gh)(Z:L2.St)(k:Nat)(ds:Re D)(F1:Hp)(en:τ->En)(go:Nat->τ->Re D->Prop)(out:Re D):Nat->Nat->Re V->L2.St->Hp->Prop
 | mk {i:Nat} {vs:Re V} {σ':L2.St} {H':Hp} (F':Hp) (acc rest:Re D) (s:τ) (hi:i<=ds.length) (s2:c_ F1 F') (S2:b_ K G F' σ' H' (en s)) (kp:∀j,j<Z.length->σ'[j]? = Z[j]?) (hl:σ'.length=Z.length+k) (rp:h_ K F' vs acc) (g:go i s rest) (eo:out=acc++rest):Zh K G Z k ds F1 en go out i (ds.length - i) vs σ' H'
theorem Zh.on{τ:Type}{G:Gh}{k:Nat}{ds:Re D}{F1:Hp}{en:τ->En}{go:Nat->τ->Re D->Prop}{out:Re D}{i:Nat}{σ':L2.St}(F':Hp)(acc rest:Re D)(s:τ)(hi:i<ds.length)(s2:c_ F1 F')(S2:b_ K G F' σ' H' (en s))(kp:∀j,j<Z.length->σ'[j]? = Z[j]?)(hl:σ'.length=Z.length+k)(rp:h_ K F' vs acc)(g:go ?jx s rest)(eo:out=acc++rest):∃m',m'<ds.length - i/\Zh K G Z k ds F1 en go out ?jx m' vs σ' H' :=
 {ds.length - ?jx,by lia,{F',acc,rest,s,hi,s2,S2,kp,hl,rp,g,eo}}
def Ab{step:D->M (SL D)}{d:D}{r rest:Re D}(h:aW step (d::r)=.ret rest):∃o Ry,step d=.ret o/\aW step r=.ret Ry/\rest=o.toList++Ry:=by
 unfold aW at h
 cases hs:step d with
 | bad=>rw[hs]at h;cases h
 | exc e=>rw[hs]at h;cases h
 | ret o =>
  rw[hs,NW]at h
  cases hr:aW step r with
  | bad=>rw[hr]at h;cases h
  | exc e=>rw[hr]at h;cases h
  | ret Ry=>simp_all
def Aa{T:Type}{step:T->D->M (SL D×T)}{d:D}{r rest:Re D}{s sf:T}(h:iJ step (d::r) s=.ret (rest,sf)):∃o sn Ry,step s d=.ret (o,sn)/\iJ step r sn=.ret (Ry,sf)/\rest=o.toList++Ry:=by
 unfold iJ at h
 cases hs:step s d with
 | bad=>rw[hs]at h;cases h
 | exc e=>rw[hs]at h;cases h
 | ret o =>
  let{o,sn}:=o;rw[hs,NW,Am]at h
  cases hr:iJ step r sn with
  | bad=>rw[hr]at h;cases h
  | exc e=>rw[hr]at h;cases h
  | ret q'=>rw[hr,Am]at h;grind
def JR{A B:Type}{m:M A}{f:A->M B}{b:B}(h:bd m f=.ret b):∃a,m=.ret a/\f a=.ret b:=by
 cases m with
 | bad=>cases h
 | exc e=>cases h
 | ret a=>exact{a,rfl,h}
section
def y6(X:Cx)(N':Re Str)(scope:Scope)(tg:Uf):TG:=λv Z H Q=>∀cl s H0 fp C,uC (bB X N' scope cl s H0 fp C) tg v Z H Q
def aY(X:Cx)(N':Re Str)(scope:Scope)(ifs:Re Uf):TT:=λZ H Q=>∀cl s0 H0 fp C,∀(pins:w_) (s:Tk),Inv (bB X N' scope cl s0 H0 fp C) pins Z H s ->
  wpAny ?B (bB X N' scope cl s0 H0 fp C).A (forIn ifs true λc r=>if r=true then do let ok <-isTrue c (bB X N' scope cl s0 H0 fp C).env (eval c (bB X N' scope cl s0 H0 fp C).env);pure (ForInStep.yield ok)else pure (ForInStep.yield r)) (rM (bB X N' scope cl s0 H0 fp C) pins Z Q) (bB X N' scope cl s0 H0 fp C).xe s
def gV(X:Cx)(N':Re Str)(scope:Scope)(e:Uf):TE:=λZ H Q=>∀cl s H0 fp C,gW (bB X N' scope cl s H0 fp C) e Z H Q
variable {elt iter:Uf} {ifs:Re Uf} {scope:Scope} {N':Re Str} {k:Nat}
def AS{it:Pu ?R}{t:Tg (SL D)}{pt:Pu Bool}{pe:Pu D}{G:Gh}(hi:bf X tg iter it)
  (hg:∀cl s H fp C,fU ?K X.N.length tg t) (ht:∀cl s H fp C,ATs ?K ifs pt) (he:∀cl s H fp C,lj ?K elt pe)
  (hσ:Z.length=X.N.length) (St:b_ X.K G F Z H ρ) (w:W X G F Z ρ (xC k it t pt pe ρ) λds F' H'=>∀v,Frs X.K G F' Z H' ρ v (.l ds)->Q v H') :
  nj (pO X tg iter) k (y6 X N' scope tg) (aY X N' scope ifs) (gV X N' scope elt) Z H Q:=by
 refine hi G F Z H ρ _ St (w.bind.imp λds F1 H1 s1 S1 w1 J wk=>?_);have hP:∀i a,G.P i=some a->i<Z.length:=λi a h=>(List.getElem?_eq_some_iff.mp (S1.pp i a h).1).1
 have hln:Z.length=ρ.length:=S1.ln;have wc:=w1.bind;revert wc;generalize Ss:(λd=>t d (λρ1=>bd (pt ρ1) λb=>if b then bd (pe ρ1) λv=>.ret (some v)else .ret none) ?jJ)=step;intro wc
 cases VE:aW step ds with
 | bad=>rw[VE]at wc;exact wc.elim
 | exc e=>exact(Ly VE).elim
 | ret out =>
  rw[VE]at wc;have wf:∀F' H',c_ F1 F'->b_ X.K G F' Z H' ρ->W X G F' Z ρ (cp out) λds F' H'=>∀v,Frs X.K G F' Z H' ρ v (.l ds)->Q v H':=wc
  have Vg:out.length<=sizeLine:=(wf F1 H1 ?J S1).fit.1;have fin:∀F' H',c_ F1 F'->b_ X.K G F' Z H' ρ->∀v,Frs X.K G F' Z H' ρ v (.l out)->Q v H':=λF' H' s' S'=>(wf F' H' s' S').fit.2 F' H' ?J S'
  have grown:∀{F' H' σ' ρ'},b_ X.K G F' σ' H' ρ'->(∀j,j<Z.length->σ'[j]? = Z[j]? /\ ρ'[j]? = ρ[j]?)->σ'.length=Z.length+k->b_ X.K G F' σ' H' ?jJ:=λ{F' H' σ' ρ'} S' kp hl=>by
   refine S'.weak (by have:=S'.ln;simp;lia) (λi av q=>?_) (λi c q=>?_)
   ·have q':=LP q;have hi:i<Z.length:=by rw[hln];exact(List.getElem?_eq_some_iff.mp q').1
    rw[(kp i hi).2];exact q'
   ·let{a,ha}:=S'.pq i c q;have hi:=hP i a ha;rw[pr ?A,<-(kp i hi).2];exact q
  refine{Zh X.K G Z k ds F1 (λ_:Unit=>ρ++List.replicate k none) (λi _ rest=>aW step (ds.drop i)=.ret rest) out,
   {_,{F1,[],out,(),ac _,c_.refl _,S1.grow k,λj hj=>by rw[pr hj],by simp,.nil,VE,rfl}},?_}
  rintro i m vs σ' H' ⟨F',acc,rest,_,hi,s2,S2,kp,hlen,rp,go,eo⟩;refine{by rw[rp.length];rw[eo,xP]at Vg;lia,?_};by_cases r_:i<ds.length
  ·refine .inr {wk.go i G F' σ' H' _ s2 S2 r_,λx H2 y cl s0 H0 fp C=>?_};let{F3,s3,S3,r3}:=wk.VM i G F' σ' H' _ x H2 ds[i] s2 S2 (ax r_) y;rw[li r_]at go;let{o,Ry,V5,hr,er}:=Ab go;subst er;clear go;rw[<-Ss]at V5;refine hg cl s0 H0 fp C (λm=>m=.ret o) _ G F3 σ' H2 _ x ds[i] _ ?jn S3 r3 V5 λσ3 ρ3 S4 kp3 hl3 ml3 o4=>?_
   have YQ:∀j,j<Z.length->σ3[j]? = Z[j]? /\ ρ3[j]? = ρ[j]?:=λj hj=>{((kp3 j ?A).1).trans (kp j hj),by rw[(kp3 j ?A).2,pr ?A]}
   let{b,Uz,o4}:=JR o4;intro cl s0 H0 fp C;refine ht cl s0 H0 fp C G F3 σ3 H2 ρ3 _ S4 (W.zao Uz λF5 H5 s5 S5=>?_)
   cases b with
   | true =>
    refine Lv ?_;let{v,hpe,o5}:=JR (m:=pe ρ3) o4
    cases o5
    intro cl s0 H0 fp C;refine he cl s0 H0 fp C G F5 σ3 H5 ρ3 _ S5 (W.zao hpe λF6 H6 s6 S6 u ru=>?_);exact Zh.on F6 (acc++[v]) Ry () r_ (((s2.trans s3).trans s5).trans s6) (grown S6 YQ ?A) (λj hj=>(YQ j hj).1) ?A ((rp.mono ((s3.trans s5).trans s6)).append (.cons ru .nil)) hr (by rw[eo];simp)
   | false =>
    refine O5 ?_;have o4':(M.ret none:M (SL D))=M.ret o:=o4
    cases o4'
    exact Zh.on F5 acc Ry () r_ ((s2.trans s3).trans s5) (grown S5 YQ ?A) (λj hj=>(YQ j hj).1) ?A (rp.mono (s3.trans s5)) hr (by rw[eo];simp)
  ·have ei:i=ds.length:=by lia
   subst ei;rw[wv]at go
   cases go
   rw[je]at eo;subst eo;refine .inl {wk.stop G F' σ' H' _ s2 S2,λp hp=>?_};have Ssh:=S2.shrink (n:=Z.length) ?jd hP;have e1:σ'.take Z.length=Z:=JA kp rfl;have e2:(ρ++List.replicate k none).take Z.length=ρ:=by rw[hln,List.take_left]
   rw[e1,e2]at Ssh;let{S5,r5}:=Ssh.M_ hp rp;exact fin F' _ s2 S5 _ r5
def VL{it:Pu ?R}{t:Tg (SL D)}{pt:Pu Bool}{pe:Pu D}(hc:X.calm=true)(Sc:RU X N' k scope)(hi:bf X tg iter it)
  (hg:∀cl s H fp C,fU ?K X.N.length tg t) (ht:∀cl s H fp C,ATs ?K ifs pt) (he:∀cl s H fp C,lj ?K elt pe)
  (hs:∀x,foldedSetIterable iter X.env x=pure x:=by exact λ_=>rfl):u4 X (.ListComp elt [{tg,iter,ifs,0}] scope pos) (xC k it t pt pe):=by
 intro G F Z H ρ Q St w;unfold gW;intro pins s I;refine A9     hc Sc (λx hx hf=>I.ok.has x.1<|Sc.free x hx hf) W8
  (λcl s H fp C pins s' Z H v u Q I r h=>Jy pins s' Z H v u Q I r ?qu) (λcl s H fp C pins s' Z H Q I h=>h cl _ _ fp C pins s' I) (λcl s H fp C pins s' Z H Q I h=>Mz pins s' Z H Q I ?qu) hs pins s Z H Q I<|AS hi hg ht he I.len St w
def Gm{sh:Re Kd}{it:Ev S ?R}{t:Tg ?qy}{et:Ev ?qy Bool}{ee:Ev ?qy D}{OK:M S->Prop}{x:Ex->En->M S}{kk:Re D->En->M S}{G:Gh}(hi:AEi X tg iter it)
  (hg:∀cl s H fp C,fU ?K X.N.length tg t) (ht:∀cl s H fp C,fG ?K ifs et) (he:∀cl s H fp C,dL ?K elt ee)
  (hσ:Z.length=X.N.length) (hO:nB OK) (hX:lc X OK x G) (St:b_ X.K G F Z H ρ) (ok:OK (aO sh k it t et ee x kk ρ)) (k2:∀ds v F' H' ρ',c_ F F'->b_ X.K G F' Z H' ρ'->Frs X.K G F' Z H' ρ' v (.l ds)->OK (kk ds ρ')->Q v H') :
  nj (pO X tg iter) k (y6 X N' scope tg) (aY X N' scope ifs) (gV X N' scope elt) Z H Q:=by
 refine hi OK x _ G F Z H ρ _ hO hX St ok λds J F1 H1 ρ1 s1 S1 wk o1=>?_
 let{s0,e0,o0}:=F8 hO o1;clear o1;have S0:=S1.rd e0;have zbb:sh.length=Z.length:=(DS sh s0).symm.trans S0.ln.symm;have Zs:∀s:aM sh,(wr sh s).length=Z.length:=λs=>(DS sh s).trans zbb
 have hP:∀i a,G.P i=some a->i<Z.length:=λi a h=>(List.getElem?_eq_some_iff.mp (S1.pp i a h).1).1
 revert o0;generalize Ss:(λ(s:aM sh) d=>t d (λρ2=>et (λe _=>.exc e) (λb ρ3=>if b then ee (λe _=>.exc e) (λv ρ4=>eV sh (λs'=>.ret (some v,s'))<|ρ4.take sh.length) ρ3 else eV sh (λs'=>.ret (none,s')) (ρ3.take sh.length)) ρ2)<|wr sh s++List.replicate k none)=step;intro o0
 cases VE:iJ step ds s0 with
 | bad=>rw[VE]at o0;exact(hO o0).elim
 | exc e=>exact(TC VE).elim
 | ret q =>
  let{out,sf}:=q;rw[VE,K3]at o0;let{Vg,o0}:=LG hO o0;have again:∀{F' H' σ' ρ'} {s':aM sh},b_ X.K G F' σ' H' ρ'->(∀j,j<Z.length->σ'[j]? = Z[j]?)->σ'.length=Z.length+k->rd sh (ρ'.take sh.length)=some s'->b_ X.K G F' σ' H' (wr sh s'++List.replicate k none):=λ{F' H' σ' ρ' s'} S' kp hl e'=>by
   let{h1,h2,h3}:=Nk sh _ s' e';have hρ':ρ'.length=Z.length+k:=by grind
   refine S'.weak (by simp[Zs];lia) (λi av q=>?_) λi c q=>?_
   ·grind
   grind
  refine{Zh X.K G Z k ds F1 (λs=>wr sh s++List.replicate k none) (λi s rest=>iJ step (ds.drop i) s=.ret (rest,sf)) out,
   {_,{F1,[],out,s0,ac _,c_.refl _,S0.grow k,λj hj=>by rw[pr hj],by simp,.nil,VE,rfl}},?_}
  rintro i m vs σ' H' ⟨F',acc,rest,sc,hi,s2,S2,kp,hlen,rp,go,eo⟩;refine{by rw[rp.length];rw[eo,xP]at Vg;lia,?_};by_cases r_:i<ds.length
  ·refine .inr {wk.go i G F' σ' H' _ s2 S2 r_,λx H2 y cl sx H0 fp C=>?_};let{F3,s3,S3,r3}:=wk.VM i G F' σ' H' _ x H2 ds[i] s2 S2 (ax r_) y;rw[li r_]at go;let{o,sn,Ry,V5,hr,er}:=Aa go;subst er;clear go;rw[<-Ss]at V5;refine hg cl sx H0 fp C (λm=>m=.ret (o,sn)) _ G F3 σ' H2 _ x ds[i] _ ?jn S3 r3 V5 λσ3 ρ3 S4 kp3 hl3 ml3 o4=>?_
   have YQ:∀j,j<Z.length->σ3[j]? = Z[j]?:=λj hj=>((kp3 j ?A).1).trans<|kp j hj
   intro cl sx H0 fp C;refine ht cl sx H0 fp C (λm=>m=.ret (o,sn)) (λe _=>.exc e) _ G F3 σ3 H2 ρ3 _ ?jn (λF ρ e z=>nomatch z) S4 o4 λb F5 H5 ρ5 s5 S5 o5=>?_
   cases b with
   | true =>
    refine Lv ?_;intro cl sx H0 fp C;refine he cl sx H0 fp C (λm=>m=.ret (o,sn)) (λe _=>.exc e) _ G F5 σ3 H5 ρ5 _ ?jn (λF ρ e z=>nomatch z) S5 o5 λv u F6 H6 ρ6 s6 S6 ru o6=>?_
    let{s',e',o'}:=F8 (OK:=λm=>m=.ret (o,sn)) ?jn o6
    cases o'
    exact Zh.on F6 (acc++[v]) Ry sn r_ (((s2.trans s3).trans s5).trans s6) (again S6 YQ ?A e') YQ ?A ((rp.mono<|(s3.trans s5).trans s6).append<|.cons ru .nil) hr (by rw[eo];simp)
   | false =>
    let{s',e',o'}:=F8 (OK:=λm=>m=.ret (o,sn)) ?jn o5
    cases o'
    exact Zh.on F5 acc Ry sn r_ ((s2.trans s3).trans s5) (again S5 YQ ?A e') YQ ?A (rp.mono<|s3.trans s5) hr (by rw[eo];simp)
  ·have ei:i=ds.length:=by lia
   subst ei;rw[wv]at go
   cases go
   rw[je]at eo;subst eo;refine .inl {wk.stop G F' σ' H' _ s2 S2,λp hp=>?_};have Ssh:=S2.shrink  (by simp[Zs]) hP;have e1:=JA kp rfl;have e2:(wr sh sf++List.replicate k none).take Z.length=wr sh sf:=by grind
   rw[e1,e2]at Ssh;let{S5,r5}:=Ssh.M_ hp rp;exact k2 _ _ F' _ _ ?jo S5 r5 o0
def GO{sh:Re Kd}{it:Ev S ?R}{t:Tg ?qy}{et:Ev ?qy Bool}{ee:Ev ?qy D}(hc:X.calm=true)(Sc:RU X N' k scope)(hi:AEi X tg iter it)
  (hg:∀cl s H fp C,fU ?K X.N.length tg t) (ht:∀cl s H fp C,fG ?K ifs et) (he:∀cl s H fp C,dL ?K elt ee)
  (hs:∀x,foldedSetIterable iter X.env x=pure x:=by exact λ_=>rfl):AEl X (.ListComp elt [{tg,iter,ifs,0}] scope pos) (aO sh k it t et ee):=by
 intro OK x kk G F Z H ρ Q hO hX St ok k2;unfold gW;intro pins s I;refine A9     hc Sc (λx hx hf=>I.ok.has x.1<|Sc.free x hx hf) W8
  (λcl s H fp C pins s' Z H v u Q I r h=>Jy pins s' Z H v u Q I r ?qu) (λcl s H fp C pins s' Z H Q I h=>h cl _ _ fp C pins s' I) (λcl s H fp C pins s' Z H Q I h=>Mz pins s' Z H Q I ?qu) hs pins s Z H Q I<|Gm hi hg ht he I.len hO hX St ok k2
def MI{U2:Pos}{i:Nat}{it:Pu ?R}{t:Tg (SL D)}{pt:Pu Bool}{pe:Pu D}
  (hN:X.N.Nodup) (hy:X.N[i]? = some y) (hly:Loc X.env.scope y) (XZ:X.fn y=true\/X.env.scope.names.lookup y=some .local) (hc:X.calm=true) (Sc:RU X N' k scope) (hi:bf X tg iter it)
  (hg:∀cl s H fp C,fU ?K X.N.length tg t) (ht:∀cl s H fp C,ATs ?K ifs pt) (he:∀cl s H fp C,lj ?K elt pe)
  (XJ:swapsWith (.ListComp elt [{tg,iter,ifs,0}] scope pos) (some<|.Name y pos') U2.line X.env=pure true) (hs:∀x,foldedSetIterable iter X.env x=pure x) :
  wG (S:=S) X (.Assign [.Name y pos'] (.ListComp elt [{tg,iter,ifs,0}] scope pos) U2) (iz i<|pH<|xC k it t pt pe):=by
 intro OK K G F Z H ρ E hO hX St ok eo;unfold lH;intro pins s I;refine QU  (g:=y6 X N' scope tg) (tc:=aY X N' scope ifs) (te:=gV X N' scope elt) hN hy hly XZ hc Sc (λx hx hf=>I.ok.has x.1<|Sc.free x hx hf) W8
  (λcl s H fp C pins s' Z H v u Q I r h=>Jy pins s' Z H v u Q I r ?qu) (λcl s H fp C pins s' Z H Q I h=>h cl _ _ fp C pins s' I) (λcl s H fp C pins s' Z H Q I h=>Mz pins s' Z H Q I ?qu) XJ hs pins s Z H E I ?_
 refine AS hi hg ht he I.len St ?_;refine W.of hO hX ok λd F' H' s S' o v r=>?_
 have o':=o;split at o'
 ·rename_i ho;let{hl,T_}:=K0 ho;exact eo.nx F' _ H' _ s (S'.store T_ hl<|.inr {.l d,rfl,r}) o'
 ·exact(hO o').elim
def OA{U2:Pos}{i:Nat}{it:Pu ?R}{t:Tg (SL D)}{pt:Pu Bool}{pe:Pu D}
  (hN:X.N.Nodup) (hy:X.N[i]? = some y) (hly:Loc X.env.scope y) (XZ:X.fn y=true\/X.env.scope.names.lookup y=some .local) (hc:X.calm=true) (Sc:RU X N' k scope) (hi:bf X tg iter it)
  (hg:∀cl s H fp C,fU ?K X.N.length tg t) (ht:∀cl s H fp C,ATs ?K ifs pt) (he:∀cl s H fp C,lj ?K elt pe)
  (XJ:swapsWith (.ListComp elt [{tg,iter,ifs,0}] scope pos) (some<|.Name y pos') U2.line X.env=pure true) (hs:∀x,foldedSetIterable iter X.env x=pure x) :
  wG (S:=S) X (.Assign [.Name y pos'] (.ListComp elt [{tg,iter,ifs,0}] scope pos) U2) (wF i<|pH<|pZ<|xC k it t pt pe):=by
 intro OK K G F Z H ρ E hO hX St ok eo;unfold lH;intro pins s I;refine QU  (g:=y6 X N' scope tg) (tc:=aY X N' scope ifs) (te:=gV X N' scope elt) hN hy hly XZ hc Sc (λx hx hf=>I.ok.has x.1<|Sc.free x hx hf) W8
  (λcl s H fp C pins s' Z H v u Q I r h=>Jy pins s' Z H v u Q I r ?qu) (λcl s H fp C pins s' Z H Q I h=>h cl _ _ fp C pins s' I) (λcl s H fp C pins s' Z H Q I h=>Mz pins s' Z H Q I ?qu) XJ hs pins s Z H E I ?_
 refine AS hi hg ht he I.len St ?_;have w:W X G F Z ρ (pZ (xC k it t pt pe) ρ) (λd F' H'=>∀v,Rep X.K F' v d->h8 i v Z H' E.nx):=W.of hO hX ok λd F' H' s S' o v r=>by
  have o':=o;split at o'
  ·rename_i ho;let{hl,T_}:=K0 ho;exact eo.nx F' _ H' _ s (S'.store T_ hl<|.inl {d,rfl,r}) o'
  ·exact(hO o').elim
 refine w.bind.imp λds F' H' s1 S1 w1 v fr=>?_
 let{F2,s2,S2,r2}:=S1.settle   fr;exact w1 F2 H' s2 S2 v r2
end
end L4
namespace HT
open PySem PySem.Spec PyProof.Rows
section
variable {prog:TD}{w:TW}{A:UV}{E:t_}{s:Tk}
def Sv{t sl:Tl}{items:UF SZ}{vl vu:SZ}{lo hi:SL Int}{Q:t_}(ht:IsTup s.heap t items)(hs:s.heap.IsSliceOf sl vl vu .none)(pl:IsPart vl lo)(pu:IsPart vu hi)
  (hw:y_ items.size 0 lo=0/\y_ items.size items.size hi=items.size) (h:Q (.ref t) s):wpAny ?D A (getItem (.ref t)<|.ref sl) Q E s:=by
 let{os,hos,hcs,UT}:=id hs;have hTs:s.TypeIs (.ref sl) "slice":={os,hos,hcs};unfold getItem
 try with_reducible refine um ?_
 refine f_<|wpAny_sequenceKey ht.typeIs ?C ?_
 refine f_<|mo  ht.typeIs vU
  <|pd vU ht.typeIs entry_tuple_getitem ?_<|args_tuple_getitem _ _
 show wpAny _ _ (Builtin.Tuple.tupleItemsOf (.ref t) >>= _) _ _ s;refine f_<|tupleItemsOf_ ht ?_;refine f_<|iD hTs ?_;refine f_<|Qx hs pl pu ?_;have zaZ:(((?qp:Int)==0&&(1:Int)==1&&?jb==items.size)=true):=by
  grind
 show wpAny _ _ (if((?qp:Int)==0&&(1)==1&&?jb==items.size)=true then _ else _) _ _ s;rw[ap zaZ];have hex:∀{Q':Bool->Tk->Prop},Q' true s->wpAny ?D A.in1 (Builtin.Tuple.tupleIsExact<|.ref t) Q' E s:=λ{Q'} q=>by
  refine f_<|iD ht.typeIs<|l_ ?_;exact q
 first
  | exact f_<|hex<|f_<|nr<|l_ {_,rfl,l_ h}
  | exact f_<|f_<|hex<|f_<|nr<|l_<|l_ {_,rfl,l_ h}
end
end HT
namespace L4
open PySem PySem.Spec PyProof.Rows L2 L3
variable {X:Cx}{K:Fg}{e:Uf}{pos:Pos}{x:Str}
def cutD(ds:Re D)(lo hi:SL Int):Re D:=(ds.drop<|HT.y_ ds.length 0 lo).take<|HT.y_ ds.length ds.length hi - HT.y_ ds.length 0 lo
def MG{F:Hp}{vs:Re V}{ds:Re D}(r:h_ K F vs ds)(lo hi:SL Int):h_ K F (gQ vs lo hi) (cutD ds lo hi):=by
 unfold gQ cutD;rw[r.length];exact(r.drop _).take _
def sg(K:Fg):V->SL Int->SL Int->Hp->VK->Prop:=λx lo hi H Q=>∃a xs,x=.ref a/\A_ K H a xs/\(HT.y_ xs.length 0 lo=0/\HT.y_ xs.length xs.length hi=xs.length)/\Q x H
def YA:ZL X (sg X.K):=by
 intro pins s Z H x v vl vu lo hi sl Q I rx hs pl pu h;let{a,xs,rfl,hx,hw,q}:=h
 cases rx
 let{i_,r,ht,hz}:=I.tuple hx;have hlen:i_.toArray.size=xs.length:=(r.length.symm);refine{"tuple",_,PyProof.Rows.slot_tuple_getitem.lookup,ht.typeIs,?_};exact HT.Sv ht hs pl pu (by rw[hlen];exact hw) {.ref a,H,I,rfl,q}
def uQ:Pu (SL Int):=λ_=>.ret none
def mF(d:D):M (SL Int):=match d with
 | .int i=>.ret<|some i
 | _=>.bad
def o9(p:Pu D):Pu (SL Int):=λρ=>bd (p ρ) mF
def kD(d:D)(lo hi:SL Int):SL D:=match d with
 | .tuple ds=>some<|.tuple<|cutD ds lo hi
 | .list ds=>some<|.list<|cutD ds lo hi
 | _=>none
def dk(p:Pu D)(l h:Pu (SL Int)):Pu D:=λρ=>bd (p ρ) λd=>bd (l ρ) λlo=>bd (h ρ) λhi=>oM<|kD d lo hi
noncomputable def APo(X:Cx)(e:SL Uf)(p:Pu (SL Int)):Prop :=
 ∀(G:Gh) (F:Hp) (Z:L2.St) (H:Hp) (ρ:En) (Q:SL Int->Hp->Prop),b_ X.K G F Z H ρ->W X G F Z ρ (p ρ) (λd F' H'=>Q d H')->∀(pins:w_) (s:Tk),Inv X pins Z H s ->
  wpAny ?B X.A (evalPart e X.env) (λu s'=>∃o H',Inv X pins Z H' s'/\IsPart u o/\Q o H') X.xe s
def oU(X:Cx)(e:SL Uf):TO:=λZ H Q=>∀(pins:w_) (s:Tk),Inv X pins Z H s->wpAny ?B X.A (evalPart e X.env) (λu s'=>∃o H',Inv X pins Z H' s'/\IsPart u o/\Q o H') X.xe s
def EK{e:SL Uf}:yR X e (oU X e):=λpins s Z H Q I h=>h pins s I
section
variable {lo hi:SL Uf} {p:Pu D} {pl ph:Pu (SL Int)} {p2:Pos}
def Jj:APo X none uQ:=λG F Z H ρ Q S w pins s I=>A4 pins s Z H Q I<|w F H ?J S
def OG(h:lj X e p):APo X (some e) (o9 p):=λG F Z H ρ Q S w pins s I=>A3 Mz pins s Z H Q I (h G F Z H ρ _ S (w.bind.imp λd F1 H1 s1 S1 w1 v r=>by
 cases r with
 | int i=>exact{i,rfl,w1 F1 H1 ?J S1}
 | bl b=>exact w1.elim
 | Rq=>exact w1.elim
 | str i=>exact w1.elim
 | tup _ _=>exact w1.elim
 | lst _ _=>exact w1.elim
 | Vu _ _ _=>exact w1.elim
 | ZI _ _ _=>exact w1.elim
 | exc _ _ _ _ _=>exact w1.elim
 | fn _=>exact w1.elim))
def OB(he:zN X e p)(hl:APo X lo pl)(hh:APo X hi ph):lj X (.Subscript e (.Slice lo hi none p2) pos) (dk p pl ph) :=
 λG F Z H ρ Q S w=>RD (Qy (ZW.or<|YA.or AJ) Mz EK EK) (he G F Z H ρ _ S (w.bind.imp λd F1 H1 s1 S1 w1 x hx =>
  hl G F1 Z H1 ρ _ S1 (w1.bind.imp λlo F2 H2 s2 S2 w2=>hh G F2 Z H2 ρ _ S2 (w2.bind.imp λhi F3 H3 s3 S3 w3=>by
   let{res,hr,k}:=w3.opt;have ox:=(hx.mono<|s2.trans s3).or S3
   cases d<;>try (cases hr)
   ·let{a,vs,rfl,h1,h2}:=ox.list S3.fh;refine .inr<|.inr {a,vs,rfl,h1,λq hq=>?_};let{S4,r4}:=S3.M_ hq<|MG h2 lo hi;let{F5,s5,S5,r5}:=S4.settle r4;exact k F5 _ s5 S5 _ r5
   ·rename_i ds;let{a,vs,rfl,h1,h2}:=ox.tuple S3.fh;by_cases hw:HT.y_ vs.length 0 lo=0/\HT.y_ vs.length vs.length hi=vs.length
    ·refine .inr<|.inl {a,vs,rfl,h1,hw,k F3 H3 ?J S3 _ ?_};have:cutD ds lo hi=ds:=by
      unfold cutD;rw[<-h2.length,hw.1,hw.2];simp[h2.length]
     rw[this];exact ox.Yw
    ·refine .inl {a,vs,rfl,h1,hw,λq hq=>?_};let{s4,S4,r4}:=S3.R_ hq<|MG h2 lo hi
     exact k _ _ s4 S4 _ r4))))
end
def xE(d e:D):SL Bool:=match d,e with
 | .bool a,.bool b=>some<|a==b
 | _,.none=>some<|isNone d
 | _,_=>none
def fM(d e:D):SL Bool:=match d,e with
 | .bool a,.bool b=>some<|a != b
 | _,.none=>some<|!isNone d
 | _,_=>none
section
def HD:K_ X (compareOp .Is) (pR X.K xE):=by
 intro pins s Z H x y v u Q I rx ry ⟨d,e,b,r1,r2,ho,q⟩;unfold xE at ho;split at ho
 ·cases ho
  obtain rfl:=(r1.of rfl).bool_inv;obtain rfl:=(r2.of rfl).bool_inv
  cases rx
  cases ry
  exact PyProof.Rows.is_bool {.bl _,H,I,rfl,q}
 ·exact HC pins s Z H x y v u Q I rx ry {d,.none,b,r1,r2,by rw[<-ho];rfl,q}
 ·cases ho
def MH:K_ X (compareOp .IsNot) (pR X.K fM):=by
 intro pins s Z H x y v u Q I rx ry ⟨d,e,b,r1,r2,ho,q⟩;unfold fM at ho;split at ho
 ·cases ho
  obtain rfl:=(r1.of rfl).bool_inv;obtain rfl:=(r2.of rfl).bool_inv
  cases rx
  cases ry
  exact PyProof.Rows.isnot_bool {.bl _,H,I,rfl,q}
 ·exact E2 pins s Z H x y v u Q I rx ry {d,.none,b,r1,r2,by rw[<-ho];rfl,q}
 ·cases ho
end
def kC(T:String)(d:D):SL Bool:=if isFn d then none else some (Wu T d)
def pIs(T:String)(p:Pu D):Pu Bool:=λρ=>bd (p ρ) λd=>oM<|kC T d
def x0(K:Fg)(T:String):Re V->Hp->VK->Prop:=λxs H Q=>∃v d,xs=[v,.ty T]/\T3 K H v d/\isFn d=false/\Q (.bl<|Wu T d) H
def IK{T:String}(hT:vw T=true):k_ X (.builtin "isinstance") (x0 X.K T):=by
 intro pins s Z H xs us Q I r h;let{v,d,rfl,rp,nf,q}:=h;let{u,w,rfl,ru,TX}:=vals2 r
 cases TX
 let rp||{a,kvs,es,rfl,rfl,h1,h2}:=rp
 ·exact KM hT I rp nf ru λtk=>{.bl _,H,I.tok tk,rfl,q}
 ·exact AL hT I h1 h2 ru λtk=>{.bl _,H,I.tok tk,rfl,q}
section
variable {p:Pu D} {p1 p2:Pos} {T:String}
def MJ(hT:vw T=true)(hg:uf X "isinstance")(hm:X.mg "isinstance"=none)(hgT:uf X x)(hmT:X.mg x=none)(hv:bootBuiltins x=some (.type T))(ha:zN X e p)(hs:starEach [e,.Name x p2] X.env=?N::starEach [.Name x p2] X.env)(Vd:starEach [.Name x p2] X.env=(false,eval (.Name x p2) X.env)::starEach [] X.env)
  (Sg:(backTo pos<|starEach [.Name x p2] X.env).any (·.1)=false) (hn:x ≠ "__name__":=by decide) (hd:(x==("__debug__" : Str))=false:=by decide):f9 X (.Call (.Name "isinstance" p1) [e,.Name x p2] [] pos) (pIs T p) :=
 λG F Z H ρ Q S w=>RD (Qo (IK hT) hg hm (rfl) (Qi Mz (Qi (Hz hgT hmT hv (v:=.ty T) rfl hn hd) Qh Vd) hs) ?C ?C hs Sg) (ha G F Z H ρ _ S (w.bind.imp λd F1 H1 s1 S1 w1 v hv=>by
  let{b,hb,k}:=w1.opt;unfold kC at hb;split at hb
  ·cases hb
  ·rename_i nf
   cases hb
   exact{v,d,rfl,(hv.or S1).rep S1.fh,by simpa using nf,k F1 H1 ?J S1}))
end
def boolsOf:Re D->SL (Re Bool)
 | []=>some []
 | .bool b::r=>match boolsOf r with
  | some l=>some<|b::l
  | none=>none
 | _=>none
def Hc:∀{ds:Re D} {bs:Re Bool},boolsOf ds=some bs->ds=bs.map PyData.bool
 | [],_,h=>by cases h;rfl
 | .bool i::r,ns,h=>by
  dsimp only[boolsOf]at h;split at h
  ·rename_i l e;cases h;rw[Hc e];rfl
  ·cases h
 | .none::_,_,h=>by cases h
 | .int _::_,_,h=>by cases h
 | .str _::_,_,h=>by cases h
 | .list _::_,_,h=>by cases h
 | .tuple _::_,_,h=>by cases h
 | .dict _::_,_,h=>by cases h
def Kk(bs:Re Bool):boolsOf ?jm=some bs:=by
 induction bs with
 | nil=>rfl
 | cons b r ih=>simp[boolsOf,ih]
def P1{K:Fg}{F:Hp}:∀{vs:Re V} {bs:Re Bool},h_ K F vs ?jm->vs=bs.map V.bl
 | _,[],h=>by cases h;rfl
 | _,n::r,h=>by
  cases h with
  | cons a b=>cases a;rw[P1 b];rfl
def KD:∀{bs:Re Bool} {us:Re SZ},Vals (bs.map V.bl) us->us=bs.map Value.bool
 | [],_,h=>by cases h;rfl
 | n::r,_,h=>by
  cases h with
  | cons a b=>cases a;rw[KD b];rfl
def rY:Re D->SL Bool
 | [.list ds]=>(boolsOf ds).map λbs=>bs.all id
 | _=>none
def w6:Re D->SL Bool
 | [.list ds]=>(boolsOf ds).map λbs=>bs.any id
 | _=>none
def rO(K:Fg)(f:Re Bool->Bool):Re V->Hp->VK->Prop:=λxs H Q=>∃a bs,xs=[.ref a]/\Ro K H a (bs.map V.bl)/\Q (.bl<|f bs) H
def KL{f:Re Bool->Bool}{g:Re D->SL Bool}(hg:∀l b,g l=some b->∃bs,l=[.list ?jm]/\b=f bs):w5 K (rO K f) g:=by
 intro G F Z H ρ xs ds res Q S o e k;let{bs,rfl,rfl}:=hg _ _ e;let{v,r,rfl,ho,hr}:=Ou o;obtain rfl:=PG hr;let{a,vs,rfl,h1,h2}:=ho.list S.fh;rw[P1 h2]at h1;exact{a,bs,rfl,h1,k}
def K9:w5 K (rO K λbs=>bs.all id) rY:=KL λl b h=>by
 unfold rY at h;split at h
 ·let{bs,e,rfl}:=Option.map_eq_some_iff.mp h;exact{bs,by rw[Hc e],rfl}
 ·cases h
def K8:w5 K (rO K λbs=>bs.any id) w6:=KL λl b h=>by
 unfold w6 at h;split at h
 ·let{bs,e,rfl}:=Option.map_eq_some_iff.mp h;exact{bs,by rw[Hc e],rfl}
 ·cases h
def K1{prog:TD}{w:TW}{A:UV}{E:t_}{s:Tk}{l:Tl}{i_:UF SZ}{Q:t_}(hl:s.heap.IsList l i_)
  (h:∀s₂:Tk,s₂={ s with heap:=s.heap.push { cls:=.type "list_iterator",data:=.fields #[.ref l,.int 0 0] } } ->
   (s₂.heap.IsListIter s.heap.objs.size l 0/\s₂.heap.IsList l i_)->l≠s.heap.objs.size->Q (.ref s.heap.objs.size) s₂) :
  wpAny ?D A (pyIter<|.ref l) Q E s:=by
 have r_:l<s.heap.objs.size:=by let{_,e,_}:=hl;exact bj e
 exact jz hl<|h _ rfl {{_,cN _ rfl,rfl,rfl},hl.push _}<|eh r_
def I_{prog:TD}{w:TW}{A:UV}(bs:Re Bool):TruthOf prog w A (λi v=>(bs.map Value.bool).toArray[i]? = some v) (λi=>bs.getD i false):=λi v s Q E hP hQ=>by
 dsimp only at hP hQ;rw[List.getElem?_toArray,ue]at hP;let{b,e,rfl}:=Option.map_eq_some_iff.mp hP;rw[fu,e]at hQ;exact mr hQ
theorem all_range(bs:Re Bool):(List.range bs.length).all (λi=>bs.getD i false)=bs.all id:=by
 induction bs with
 | nil=>rfl
 | cons b r ih =>
  rw[f8,lO,jm,List.all_map,jm];simp![List.getD_cons_zero,id_eq];congr 1
theorem any_range(bs:Re Bool):(List.range bs.length).any (λi=>bs.getD i false)=bs.any id:=by
 induction bs with
 | nil=>rfl
 | cons b r ih =>
  rw[f8,lO,sO,List.any_map,sO];simp![List.getD_cons_zero,id_eq];congr 1
def GA(hc:X.calm=true):k_ X (.builtin "all") (rO X.K λbs=>bs.all id):=by
 intro pins s Z H xs us Q I r h;let{a,bs,rfl,hq,q}:=h;let{u,rfl,ru}:=Vals.one r
 cases ru
 let{i_,rv,pl,hz}:=I.list hq;rw[KD rv]at pl;refine call_all_walk<|K1 pl.isList λs₂ e st hlI=>?_;subst e;refine{_,_,_,_,_,_,_,rfl,Walks.list (A:=X.A.in1) (I.ok.hd hc) _ a hlI (bs.map Value.bool).toArray,st,I_ bs,λh' tk hk=>?_};refine{.bl<|bs.all id,H,I.kept<|old_kept hk,?_,q};show _=_;rw[<-all_range bs];simp
def Gz(hc:X.calm=true):k_ X (.builtin "any") (rO X.K λbs=>bs.any id):=by
 intro pins s Z H xs us Q I r h;let{a,bs,rfl,hq,q}:=h;let{u,rfl,ru}:=Vals.one r
 cases ru
 let{i_,rv,pl,hz}:=I.list hq;rw[KD rv]at pl;refine call_any_walk<|K1 pl.isList λs₂ e st hlI=>?_;subst e;refine{_,_,_,_,_,_,_,rfl,Walks.list (A:=X.A.in1) (I.ok.hd hc) _ a hlI (bs.map Value.bool).toArray,st,I_ bs,λh' tk hk=>?_};refine{.bl<|bs.any id,H,I.kept<|old_kept hk,?_,q};show _=_;rw[<-any_range bs];simp
def lU:Re D->SL ?R
 | [.list ds]=>some ds
 | [.tuple ds]=>some ds
 | _=>none
def iV(K:Fg):Re V->Hp->VK->Prop:=λxs H Q=>∃p ys,xs=[.ref p]/\(Ro K H p ys\/A_ K H p ys)/\∀l,H l=none->Q (.ref l) (upd H l<|.lst ys)
def Zn:bt K (iV K) lU:=by
 intro G F Z H ρ xs ds res Q S o e k;unfold lU at e;split at e
 ·cases e
  let{v,r,rfl,ho,hr}:=Ou o;obtain rfl:=PG hr;let{a,vs,rfl,h1,h2}:=ho.list S.fh;refine{a,vs,rfl,.inl h1,λl hl=>?_};let{S2,r2}:=S.M_ hl h2;exact k _ F _ ?J S2 r2
 ·cases e
  let{v,r,rfl,ho,hr}:=Ou o;obtain rfl:=PG hr;let{a,vs,rfl,h1,h2}:=ho.tuple S.fh;refine{a,vs,rfl,.inr h1,λl hl=>?_};let{S2,r2}:=S.M_ hl h2;exact k _ F _ ?J S2 r2
 ·cases e
def qr:Re D->SL D
 | [.int i]=>some<|.int i
 | [.bool b]=>some<|.int<|if b then 1 else 0
 | _=>none
def OZ:iB K (λxs H Q=>(∃i,xs=[.int i]/\Q (.int i) H)\/∃k,xs=[.bl k]/\Q (.int<|if k then 1 else 0) H) qr:=by
 intro G F Z H ρ xs ds res Q S o e k;unfold qr at e;split at e
 ·cases e
  let{v,r,rfl,ho,hr}:=Ou o;obtain rfl:=PG hr;exact .inl {_,by rw[ho.int],k _ F H ?J S<|.int _}
 ·cases e
  let{v,r,rfl,ho,hr}:=Ou o;obtain rfl:=PG hr;exact .inr {_,by rw[ho.bool],k _ F H ?J S<|.int _}
 ·cases e
section
variable {S:Type}
def putD(ds:Re D)(j d:D):SL ?R:=match j with
 | .int k=>(WQ ds.length k).map λq=>ds.set q d
 | _=>none
def qO(i:Nat)(mi me:Ev S D):SM S:=λK ρ=>me K.x (λd ρ1=>match i3 ρ1 i with
 | some _=>mi K.x (λj ρ2=>match i3 ρ2 i with
  | some ds=>(oM<|putD ds j d).on (λe=>K.x e ρ2) λWA=>K.nx<|qi ρ2 i WA
  | none=>.bad) ρ1
 | none=>.bad) ρ
def yn(i:Nat)(f:D->D->SL D)(me:Ev S D):SM S:=λK ρ=>match ρ[i]? with
 | some (some<|.fz x)=>me K.x (λd ρ1=>(oM<|f x d).on (λe=>K.x e ρ1) (λr=>match jT ρ1 i with
  | true=>K.nx<|ρ1.set i<|some<|.fz r
  | false=>.bad)) ρ
 | _=>.bad
def ym(i:Nat)(f:D->D->SL D)(mj me:Ev S D):SM S:=λK ρ=>match i3 ρ i with
 | some _=>mj K.x (λj ρ1=>match i3 ρ1 i with
  | some ds=>(oM<|fO (.list ds) j).on (λe=>K.x e ρ1) (λx=>me K.x (λd ρ2=>(oM<|f x d).on (λe=>K.x e ρ2) (λr=>match i3 ρ2 i with
   | some ds2=>(oM<|putD ds2 j r).on (λe=>K.x e ρ2) λWA=>K.nx<|qi ρ2 i WA
   | none=>.bad)) ρ1)
  | none=>.bad) ρ
 | none=>.bad
def ipD(f:D->D->SL D)(K:Fg)(t:Zd):Prop:=∀(x y:V) (dx dy r:D) (F H:Hp) (Q:VK),Rep K F x dx->Rep K F y dy->f dx dy=some r->(∀v,Rep K F v r->Q v H)->t x y H Q
def mw:D->D->SL D
 | .int i,.int j=>some<|.int<|i+j
 | _,_=>none
def OY:ipD mw K (ipI λi j=>i+j):=λx y dx dy r F H Q r1 r2 e k=>by
 cases dx<;>first|exact SO e|(cases dy<;>first|exact SO e|cases e)
 obtain rfl:=r1.int_inv;obtain rfl:=r2.int_inv;exact{_,_,rfl,rfl,k _<|.int _}
def Ik:ipD gJ K (ipI λi j=>i - j):=λx y dx dy r F H Q r1 r2 e k=>by
 cases dx<;>first|exact SO e|(cases dy<;>first|exact SO e|cases e)
 obtain rfl:=r1.int_inv;obtain rfl:=r2.int_inv;exact{_,_,rfl,rfl,k _<|.int _}
variable {a b:Uf} {mi me:Ev S D} {pos' L_ apos q_:Pos} {ml:Ev S ?R}
def Pg{i:Nat}(hN:X.N[i]? = some x)(hv:Vx X.env.scope x)(hi:dL X b mi)(he:dL X e me)(ha:∀v,assign (.Subscript (.Name x pos') b L_) X.env v=(do
   let ov <-holding [v] (eval (.Name x pos') X.env)
   let iv <-holding [v,ov] (eval b X.env)
   standAt L_
   holding [v,ov,iv] (setItem ov iv v)
   release [v,ov,iv] []))
  (hs:swapsWithSole [.Subscript (.Name x pos') b L_] e pos.line X.env=pure false) (hw:swappedStores [.Subscript (.Name x pos') b L_] e X.env=pure none)
  (h1:(assignEach [.Subscript (.Name x pos') b L_] X.env).map (·.2)=[assign (.Subscript (.Name x pos') b L_) X.env])
  (hd:(x==("__debug__" : Str))=false:=by decide) (RB:(x==("__classdict__" : Str))=false:=by decide):wG X (.Assign [.Subscript (.Name x pos') b L_] e pos) (qO i mi me):=λOK K G F Z H ρ E hO hX St ok eo =>
 E3 (EI Mz (KF ?jZ Mz set_list ha) hs hw h1) (he OK K.x _ G F Z H ρ _ hO hX St ok λd v F1 H1 ρ1 s1 S1 r1 o1=>by
  split at o1
  case h_2=>exact(hO o1).elim
  rename_i ds0 hd0;let{a,Zk,ea,_,_}:=TY S1 hd0;refine{_,ea,hi OK K.x _ G F1 Z H1 ρ1 _ hO hX S1 o1 λj u F2 H2 ρ2 s2 S2 r2 o2=>?_};split at o2
  case h_2=>exact(hO o2).elim
  rename_i ds UT;let{WA,hp,o3}:=OT hO o2;let{a',vs,Rf,hh,rv}:=TY S2 UT;rw[ea]at Rf;injection Rf with Rf;injection Rf with Rf;injection Rf with Rf;subst Rf;unfold putD at hp;split at hp
  ·rename_i k;let{q,hq,rfl}:=Option.map_eq_some_iff.mp hp;obtain rfl:=r2.int_inv;refine{a,vs,k,q,rfl,rfl,hh,by rw[rv.length];exact hq,?_};exact eo.nx F2 Z _ _ ?jo (Ui S2 UT ea<|h_.set ?qH q rv) o3
  ·cases hp)
def GI{i:Nat}{op:Operator}{t:Zd}{f:D->D->SL D}(hN:X.N.Nodup)(hi:X.N[i]? = some x)(hx:Loc X.env.scope x)(ho:PIp X op t)(hf:ipD f X.K t)(he:dL X e me)(XZ:X.fn x=true\/X.env.scope.names.lookup x=some .local) :
  wG X (.AugAssign (.Name x pos') op e pos) (yn i f me):=λOK K G F Z H ρ E hO hX St ok eo =>
 E3 (KA hN hi hx Mz ho XZ) (by
  unfold yn at ok;split at ok
  case h_2=>exact(hO ok).elim
  rename_i dx hdx;let{v,ev,rv}:=St.fz i dx hdx;refine{v,ev,he OK K.x _ G F Z H ρ _ hO hX St ok λd u F1 H1 ρ1 s1 S1 r1 o1=>?_};let{r,er,o2}:=OT hO o1;refine hf v u dx d r F1 H1 _ (rv.mono s1) r1 er λz rz=>?_
  split at o2
  ·rename_i j_;let{hl,T_}:=K0 j_;exact eo.nx F1 _ H1 _ s1 (S1.store T_ hl<|.inl {r,rfl,rz}) o2
  ·exact(hO o2).elim)
def mL:V->V->Hp->VK->Prop:=λx y H Q=>∃p xs i v,x=.ref p/\y=.int i/\H p=some (.lst xs)/\fT xs i=some v/\Q v H
end
def kindB(k:NameKind):SL NameKind->Bool
 | some k'=>k==k'
 | none=>false
def zI(N N':Re Str)(k:Nat)(scope sc:Scope):Bool :=
 (scope.kind==.function)&&(N'.length==N.length+k)&&scope.names.all (λy=>y.2 != .cell||kindB .cell (scope.names.lookup y.1))&&scope.names.all (λy=>y.2 != .local||kindB .local (scope.names.lookup y.1))
  && ((List.range N.length).all λi=>match N'[i]? with
   | some x=>!(kindB .free (scope.names.lookup x)||kindB .local (scope.names.lookup x)||kindB .cell (scope.names.lookup x))||(N[i]? == some x&&kindB .free (scope.names.lookup x))
   | none=>true)
  && scope.names.all (λy=>y.2 != .free||kindB .cell (sc.names.lookup y.1)||kindB .free (sc.names.lookup y.1))
def Xv{k:NameKind}{o:SL NameKind}(h:kindB k o=true):o=some k:=by
 cases o with
 | none=>cases h
 | some k'=>simp[kindB]at h;rw[h]
def FH{k:NameKind}{o:SL NameKind}(h:o=some k):kindB k o=true:=by subst h;simp[kindB]
def JW{N N':Re Str}{k:Nat}{scope sc:Scope}(h:zI N N' k scope sc=true)(hN:X.N=N)(hs:X.env.scope=sc):RU X N' k scope:=by
 subst hN hs;simp![zI,am,su,beq_iff_eq,si,bne_iff_ne,ne_eq]at h;let{{{{{h1,h2},h3},h4},h5},h6}:=h;refine{h1,h2,λy hy hl=>?_,λy hy hl=>?_,λi x hi hx _ hk=>?_,λy hy hf=>?_}
 ·let z||z:=h3 y hy
  ·exact absurd hl z
  ·exact Xv z
 ·let z||z:=h4 y hy
  ·exact absurd hl z
  ·exact Xv z
 ·have:=h5 i<|List.mem_range.mpr hi;rw[hx]at this;simp![si,nv,am,beq_iff_eq]at this;let z||{z1,z2}:=this
  ·exfalso;let hk||hk||hk:=hk<;>simp[FH hk]at z
  ·exact{z1,Xv z2}
 ·rcases h6 y hy with (z|z)|z
  ·exact absurd hf z
  ·exact .inl<|Xv z
  ·exact .inr<|Xv z
def C6{H:Hp}{a:Tl}{ns:Re Int}{mf:Re D->M D}(hS:Ro K H a ?jG)(h:mf [.list ?jf]=.ret (.bool true)):pN K 1 mf [.ref a] H (λv _=>v=.bl true) λ_ _ _=>False:=by
 refine{{λ_=>none,λ_=>none,H},H,[.list ?jf],rfl,{c_.refl _,λb o z=>(nomatch z),λb o z=>(nomatch z),rfl,λi d z=>?_,λi c z=>(LM  z).elim,λi j c e a z=>(LM  z).elim,λi a z=>(nomatch z),λi c z=>?_,c_.refl _},?_}
 ·let{d',e,q}:=Y6  z
  cases e
  cases i with
  | zero=>simp at q;subst q;exact{_,rfl,.lst hS<|h_.ints ns}
  | succ i=>simp at q
 ·grind
 ·rw[h];intro v F' H' s S' r
  cases r
  rfl
end L4
namespace HT
end HT
namespace L4
open PySem PySem.Spec PyProof.Rows L2 L3
variable {S:Type}
section
variable {X:Cx} {a:Uf} {pa:Pu D} {pos:Pos} {ta:TE}
def Hx(ha:cM X a ta):cM X (.UnaryOp .Not a pos) (λZ H Q=>ta Z H λx H'=>∃k,aI X.K x H' k/\Q (.bl<|!k) H'):=by
 intro pins s Z H Q I h;refine UnaryOp_<|Db ?jj λv s1 ⟨x,H1,I1,r1,q1⟩=>?_;let{k,q1,q2}:=q1;exact not_of<|Db (D0 pins s1 Z H1 x v (λc H'=>Q (.bl<|!c) H') I1 r1 {k,q1,q2}) λc s2 ⟨H2,I2,q⟩=>{.bl<|!c,H2,I2,rfl,q}
def Cd(ha:zN X a pa):f9 X (.UnaryOp .Not a pos) (iZ<|tL pa) :=
 λG F Z H ρ Q S w=>RD (Hx Mz) (ha G F Z H ρ _ S (w.bind.bind.imp λx F1 H1 s1 S1 w1 v hv=>by
  let{bb,hb,k}:=w1.opt;refine{bb,?_,k F1 H1 ?J S1 F1 H1 ?J S1};have o:=hv.or S1
  cases x with
  | none=>rw[o.none];cases hb;exact rfl
  | bool i=>rw[o.bool];cases hb;exact rfl
  | int i=>rw[o.int];cases hb;exact rfl
  | str i =>
   rw[o.str];unfold iX at hb;dsimp only at hb;split at hb
   ·rename_i hl;cases hb;exact{hl,rfl}
   ·cases hb
  | list ds=>let{a,vs,rfl,h1,h2}:=o.list S1.fh;cases hb;exact .inl {vs,h1,(Ds h2).symm}
  | tuple ds=>let{a,vs,rfl,h1,h2}:=o.tuple S1.fh;cases hb;exact .inr<|.inl {vs,h1,(Ds h2).symm}
  | dict ds=>cases hb))
end
noncomputable def cH{S T:Type}:(T->D->(T->M S)->M S)->Re D->T->(T->M S)->M S:=Classical.choose ({@cD S T,rfl}:∃f,f = @cD S T)
def Nf{T:Type} : @cH S T = @cD S T:=Classical.choose_spec ({@cD S T,rfl}:∃f,f = @cD S T)
noncomputable def j7{S T:Type}:(T->(T->M S)->M S)->Nat->T->M S:=Classical.choose ({@bG S T,rfl}:∃f,f = @bG S T)
def Mk{T:Type} : @j7 S T = @bG S T:=Classical.choose_spec ({@bG S T,rfl}:∃f,f = @bG S T)
section
noncomputable def jp(sh:Re Kd)(it:Ev S ?R)(t:Tg S)(mb:SM S):SM S:=λK ρ=>it K.x (λds ρ1=>eV sh (λs=>cH (λs d kn=>t d (λρ2=>mb (pY sh K kn) ρ2) ?j1) ds s ?js) ρ1) ρ
noncomputable def vM(sh:Re Kd)(fuel:Nat)(c:Ev S Bool)(mb:SM S):SM S:=λK ρ=>eV sh (λs=>j7 (λs kn=>c K.x (λb ρ2=>if b then mb (pY sh K kn) ρ2 else eV sh ?js ρ2) ?j1) fuel s) ρ
def Em(sh:Re Kd)(it:Ev S ?R)(t:Tg S)(mb:SM S):jp sh it t mb=qg sh it t mb:=by
 unfold jp qg;rw[Nf]
def AC(sh:Re Kd)(fuel:Nat)(c:Ev S Bool)(mb:SM S):vM sh fuel c mb=za sh fuel c mb:=by
 unfold vM za;rw[Mk]
variable {X:Cx} {mb:SM S} {c:Uf} {mt:Ev S Bool} {ml:Ev S ?R} {pos:Pos}
def Az{tg iter:Uf}{body:Re Stmt}{sh:Re Kd}{t:Tg S}(hp:PassesOwn ?B X.A X.env X.xe)(hc:X.calm=true)(hi:AEi X tg iter ml)(hg:fU X 0 tg t)(hb:cb X body mb)
  (hs:∀x,foldedSetIterable iter X.env x=pure x:=by exact λ_=>rfl):wG X (.For tg iter body [] pos) (jp sh ml t mb):=by
 rw[Em];exact L6 hp hc hi hg hb hs
def AD{body:Re Stmt}{sh:Re Kd}{fuel:Nat}(hp:PassesOwn ?B X.A X.env X.xe)(hc:iK X c mt)(hb:cb X body mb):wG X (.While c body [] pos) (vM sh fuel mt mb):=by
 rw[AC];exact GH hp hc hb
end
end L4
namespace HT
open PySem PySem.Spec PyProof.Rows
section
variable {prog:TD}{w:TW}{A:UV}{E:t_}{s:Tk}{xs:UF (Int×Tok)}{l:Tl}
def VZ{Q:t_}(hh:A.handled=none)(hl:s.heap.IsTuple l (intItems xs))(WR:0<xs.size)
  (h:∀v h' tk,(intItems xs)[argBest (λi j=>decide<|numAt xs i>numAt xs j) (xs.size - 1)]? = some v->(∀b o,s.heap.get? b=some o->h'.get? b=some o)->Q v { s with heap:=h',toks:=tk }) :
  wpAny ?D A (call (.builtin "max") [.ref l]) Q E s:=by
 have r_:l<s.heap.objs.size:=by let{_,e,_}:=hl;exact bj e
 refine call_max_walk<|re hl ?_;refine{_,_,_,_,_,_,_,rfl,Walks.tuple (A:=A.in1) hh _ l (eh r_)<|intItems xs,{{_,cN _ rfl,rfl,rfl},?_},λb hb=>?_,by simpa[intItems]using WR,CmpOf.ints_gt (numAt xs) λ_ _=>intItems_at,λv h' tk hP hk=>?_}
 ·let{o,e,r}:=hl;exact{o,v_ _ e,r}
 ·rw[wo]
  grind
 ·refine h v h' tk (by simpa[intItems]using hP) λb o e=>hk b o (λhm=>?_)<|v_ _ e
  let e1||hm:=List.mem_cons.mp hm
  ·exact absurd (e1▸bj e)<|nu _
  ·cases hm
end
end HT
namespace L4
open PySem PySem.Spec PyProof.Rows L2 L3
def sN:Re D->SL D
 | [.tuple ds]=>match intsOf ds with
  | some (n::r)=>some<|.int<|wl<|n::r
  | _=>none
 | _=>none
def rN(K:Fg)(f:Re Int->SL Int):Re V->Hp->VK->Prop:=λxs H Q=>∃a ns i,xs=[.ref a]/\A_ K H a ?jG/\f ns=some i/\Q (.int i) H
def HL{K:Fg}:iB K (rN K eK) sN:=by
 intro G F Z H ρ xs ds res Q S o e k;unfold sN at e;split at e
 ·split at e
  ·rename_i W_
   cases e
   let{v,r,rfl,ho,hr}:=Ou o;obtain rfl:=PG hr;let{a,vs,rfl,h1,h2}:=ho.tuple S.fh;rw[NJ W_]at h2;rw[AT h2]at h1;exact{a,_,_,rfl,h1,rfl,k _ F H ?J S<|(.int _)}
  ·cases e
 ·cases e
def DB{X:Cx}(hc:X.calm=true):k_ X (.builtin "max") (rN X.K eK):=by
 intro pins s Z H xs us Q I r h0;let{a,ns,i,rfl,hq,e,q}:=h0;let{u,rfl,ru}:=Vals.one r
 cases ru
 let{i_,rv,pl,hz}:=I.tuple hq;let{ps,rfl,rfl}:=AW rv;have WR:ps≠[]:=by rintro rfl;cases e
 have XT:ps.map Prod.fst≠[]:=by simpa using WR
 have ei:i=wl (ps.map Prod.fst):=by
  cases hp:ps.map Prod.fst with
  | nil=>exact absurd hp XT
  | cons n r=>rw[hp]at e;cases e;rfl
 subst ei;have hl:s.heap.IsTuple a (intItems ps.toArray):=by
  have:s.heap.IsTuple a _:=pl;unfold intItems;simpa using this
 have XM:0<ps.length:=List.length_pos_iff.mpr WR;refine HT.VZ (I.ok.hd hc) hl (by simpa using XM) λv h' tk hv hk=>?_
 let{t,rfl}:=intItems_at hv;refine{.int _,H,I.kept hk,{_,rfl},?_};have b:=argBest_gt (numAt ps.toArray) ?qh;generalize argBest (λi j=>decide<|numAt ps.toArray i>numAt ps.toArray j) ?qh=m at b hv;have hm:m<ps.length:=by
  have h0:=b.1;simp at h0;lia
 have Uy:=Ys XT;have e1:numAt ps.toArray m=wl (ps.map Prod.fst):=by
  refine Int.le_antisymm ?_ ?_
  ·refine Uy.1 _ ?_;rw[AB,fu,ax (by simpa using hm)];exact ib _
  ·let{j,hj,ej}:=ou Uy.2;have h0:=b.2 j (by simp at hj ⊢;lia);rw[AB,fu,ax hj]at h0;rw[<-ej];exact h0
 rw[e1];exact q
end L4
set_option maxHeartbeats 3200000
namespace PySem
open Sem (wp)
open AutoSeq1 (wpAny_loadPart')
variable {Q:t_}{it l:Tl}{xs ys:UF SZ}{x:SZ}{h:Wp}
section
variable {prog:TD} {w:TW} {A:UV} {E:t_} {s:Tk}
def OL{t:Tl}{i:Nat}{items}(hit:s.heap.IsTupleIter it t i)
  (ht:s.heap.IsTuple t items) (hx:items[i]? = some x)
  (hQ:∀h',h'.IsTupleIter it t ?jx->Heap.SameBut it s.heap h'->Q x { s with heap:=h' }) :
  wpAny ?D A (Builtin.SmallTypes.nextOf<|.ref it) Q E s:=by
 let{o,ho,hc,hd}:=id hit;let{ol,hol,_,nl,Zv}:=ht
 refine f_<|mo  hit.typeIs wC
  <|pd wC hit.typeIs F.entry_tuple_iterator_next ?_<|F.args_tuple_iterator_next_1 _
 show wpAny _ _ (field (.ref it) 0 >>= _) _ _ s;refine f_<|kw ho hd  rfl ?_;refine f_<|kw ho hd  rfl ?_;refine f_<|y9 hol Zv ?_;simp  [i7,hx];refine f_<|nz ho hd ?E<|l_ {x,rfl,l_<|hQ _ ?_<|Heap.SameBut.update ..}
 exact{_,xv _ ho<|jH<|r9 hd _,(e8 ..).trans hc,by
  rw[r9 hd];simp[rawInt]}
def OU{t:Tl}{i:Nat}{items}(hh:A.handled=none)
  (hit:s.heap.IsTupleIter it t i) (ht:s.heap.IsTuple t items) (hx:items[i]? = none)
  (hE:∀h' e,Heap.ExtBut it s.heap h'->(∃o,h'.get? e=some o/\o.cls=.type "StopIteration")->E (.ref e) { s with heap:=h' }) :
  wpAny ?D A (Builtin.SmallTypes.nextOf<|.ref it) Q E s:=by
 let{o,ho,hc,hd}:=id hit;let{ol,hol,_,nl,Zv}:=ht
 refine f_<|mo  hit.typeIs wC
  <|pd wC hit.typeIs F.entry_tuple_iterator_next ?_<|F.args_tuple_iterator_next_1 _
 show wpAny _ _ (field (.ref it) 0 >>= _) _ _ s;refine f_<|kw ho hd  rfl ?_;refine f_<|kw ho hd  rfl ?_;refine f_<|y9 hol Zv ?_;simp  [i7,hx];refine f_<|nr<|f_<|nz ho hd ?E ?_
 first
  | (refine f_ ?_
     refine f_ (io ?_ (by size_fits));refine f_<|wpAny_of_eq  (rfl) ?_;refine io ?_ (by size_fits);refine f_<|wpAny_handled ?_
     first|rw[(hh)]|rw[hh]
     refine f_<|l_<|wpAny_throw ?_
     exact hE _ _ (((Heap.SameBut.update ..).extBut.push _).push _) {_,cN _ rfl,rfl})
  | (refine f_<|sC ?_    )
noncomputable def Xj(b:Bool)(h:Wp)(l:Tl)(xs:UF SZ):Prop:=match b with
 | true=>h.IsList l xs
 | false=>h.IsTuple l xs
noncomputable def Xi(b:Bool)(h:Wp)(i l:Tl)(k:Nat):Prop:=match b with
 | true=>h.IsListIter i l k
 | false=>h.IsTupleIter i l k
abbrev itN(b:Bool):String:=match b with
 | true => "list_iterator"
 | false => "tuple_iterator"
theorem Xi.at{b:Bool}{h':Wp}{i:Tl}{k:Nat}(x:Xi b h i l k)(e:∀o,h.get? i=some o->h'.get? i=some o):Xi b h' i l k:=by
 cases b
 ·exact Heap.IsTupleIter.at x e
 ·exact Heap.IsListIter.at x e
theorem Xi.obj{b:Bool}{i:Tl}{k:Nat}(x:Xi b h i l k):∃o,h.get? i=some o/\o.data=.fields #[.ref l,rawInt k]:=by
 cases b
 ·let{o,a,_,d}:=x;exact{o,a,d}
 ·let{o,a,_,d}:=x;exact{o,a,d}
theorem Xj.ext{b:Bool}{h':Wp}{c:Tl}(x:Xj b h l xs)(m:Heap.ExtBut c h h')(n:l≠c):Xj b h' l xs:=by
 cases b
 ·exact Heap.IsTuple.extBut x m n
 ·exact Heap.IsList.extBut x m n
def Wj{b:Bool}{t:Tl}{i:Nat}{items}(hit:Xi b s.heap it t i)
  (ht:Xj b s.heap t items) (hx:items[i]? = some x)
  (hQ:∀h',Xi b h' it t ?jx->Heap.SameBut it s.heap h'->Q x { s with heap:=h' }) :
  wpAny ?D A (Builtin.SmallTypes.nextOf<|.ref it) Q E s:=by
 cases b
 ·exact OL hit ht hx hQ
 ·exact wpAny_nextOf_list_item hit ht hx hQ
def OX{b:Bool}{t:Tl}{i:Nat}{items}(hh:A.handled=none)
  (hit:Xi b s.heap it t i) (ht:Xj b s.heap t items) (hx:items[i]? = none)
  (hE:∀h' e,Heap.ExtBut it s.heap h'->(∃o,h'.get? e=some o/\o.cls=.type "StopIteration")->E (.ref e) { s with heap:=h' }) :
  wpAny ?D A (Builtin.SmallTypes.nextOf<|.ref it) Q E s:=by
 cases b
 ·exact OU hh hit ht hx hE
 ·exact wpAny_nextOf_list_end hh hit ht hx hE
structure Zt(b:Bool)(h:Wp)(z p q i1 i2 l1 l2:Tl)(f0 u v:SZ)(k1 k2:Nat):Prop where
 z0:IsZip h z p q f0
 p0:IsPair h p (.ref i1) (.ref i2)
 q0:IsPair h q u v
 a0:Xi b h i1 l1 k1
 b0:h.IsTupleIter i2 l2 k2
def Ci{b:Bool}{z p q i1 i2 l1 l2:Tl}{k:Nat}{y u v:SZ}(D:ZipApart z p q i1 i2 l1 l2)
  (T:Zt b s.heap z p q i1 i2 l1 l2 .none u v k k) (e1:Xj b s.heap l1 xs) (e2:s.heap.IsTuple l2 ys) (hx:xs[k]? = some x) (hy:ys[k]? = some y)
  (hQ:∀h',Zt b h' z p q i1 i2 l1 l2 (rawInt s.heap.objs.size) x y (k+1) (k+1)->IsPair h' s.heap.objs.size x y ->
   (∀c o,c≠z->c≠q->c≠i1->c≠i2->s.heap.get? c=some o->h'.get? c=some o)->Q (.ref s.heap.objs.size) { s with heap:=h' }) :
  wpAny ?D A (Builtin.«zip.__next__» {[.ref z],[]}) (λfin s'=>∃r,fin=.done (.ret r)/\Q r s') E s:=by
 have z0:=T.z0;show wpAny _ _ (field (.ref z) 2 >>= _) _ _ _;refine f_<|kw z0 rfl (x:=.bool false) rfl ?_;show wpAny _ _ (field (.ref z) 3 >>= _) _ _ _;refine f_<|kw z0 rfl (x:=.ref p) rfl<|f_<|y9 T.p0 rfl ?_;show wpAny _ _ (Builtin.SmallTypes.ownedTupleIsFree (.ref z) >>= _) _ _ _;refine f_ ?_;refine f_<|kw z0 rfl  rfl<|l_ ?_;refine f_<|nr<|f_<|kw z0 rfl  rfl ?_;refine f_<|qu z0 ?E λg1 (z1) (m1)=>f_ ?_;refine f_<|f_<|wpAny_onRaise ?_;refine f_<|Wj (T.a0.at λo e=>m1.extBut _ _ D.i1z e) (e1.ext m1.extBut D.l1z) hx λg2 a2 (m2)=>l_ ?_;have q2:=m2.extBut _ _ D.TOi1<|m1.extBut _ _ D.TOz T.q0;refine f_<|y9 q2 rfl<|f_<|wpAny_updateSeq_pair q2 λg3 (q3) (m3)=>f_<|sC<|l_ ?_;refine f_<|f_<|wpAny_onRaise ?_
 refine f_<|OL (T.b0.at λo e=>m3.extBut _ _ D.TOi2.symm<|m2.extBut _ _ D.i12.symm<|m1.extBut _ _ D.i2z e)
  (((e2.extBut m1.extBut D.l2z).extBut m2.extBut D.l2i1).extBut m3.extBut D.l2TO) hy λg4 b4 (m4)=>l_ ?_
 have q4:=m4.extBut _ _ D.TOi2 q3;refine f_<|y9 q4 rfl<|f_<|wpAny_updateSeq_pair q4 λg5 (q5:IsPair g5 q x y) (m5)=>f_<|sC<|l_<|l_ ?_;refine f_<|y9 q5 rfl<|f_<|wpAny_newTuple ?_;have sz:g5.objs.size=s.heap.objs.size:=by rw[m5.1,m4.1,m3.1,m2.1,m1.1]
 have z5:=m5.extBut _ _ D.TOz.symm<|m4.extBut _ _ D.i2z.symm<|m3.extBut _ _ D.TOz.symm<|m2.extBut _ _ D.i1z.symm z1;have k5:∀c o,c≠z->c≠q->c≠i1->c≠i2->s.heap.get? c=some o->g5.get? c=some o:=λc o c1 c2 c3 c4 e =>
  m5.extBut _ _ c2<|m4.extBut _ _ c4<|m3.extBut _ _ c2<|m2.extBut _ _ c3<|m1.extBut _ _ c1 e
 have a5:=a2.at λo e=>m5.extBut _ _ D.TOi1.symm<|m4.extBut _ _ D.i12<|m3.extBut _ _ D.TOi1.symm e
 have b5:=b4.at λo e=>m5.extBut _ _ D.TOi2.symm e
 have lz:=bj z5;refine f_ ?_;have z6:IsZip (g5.push { cls:=.type "tuple",data:=.seq #[x,y] }) z p q .ellipsis:=v_ _ z5;refine f_<|qu z6 ?E λg7 (z7) m7=>?_;refine qu z7 ?E λg8 (z8) m8=>?_
 have up:∀c o,c≠z->g5.get? c=some o->g8.get? c=some o:=λc o c1 e=>m8.extBut _ _ c1<|m7.extBut _ _ c1<|v_ _ e
 have t8:=m8.extBut _ _ (wE lz)<|m7.extBut _ _ (wE lz)<|cN _ rfl;rw[sz]at z8 t8;refine l_ {_,rfl,?_};rw[sz];exact hQ g8 {z8,up _ _ D.TIz<|k5 _ _ D.TIz D.TITO D.TIi1 D.TIi2 T.p0,up _ _ D.TOz q5,a5.at λo e=>up _ o D.i1z e,b5.at λo e=>up _ o D.i2z e} t8 λc o c1 c2 c3 c4 e=>up c o c1<|k5 c o c1 c2 c3 c4 e
def DP{b:Bool}{z p q i1 i2 l1 l2:Tl}{k:Nat}{u v:SZ}{Q:Fin->Tk->Prop}(hh:A.handled=none)(D:ZipApart z p q i1 i2 l1 l2)
  (T:Zt b s.heap z p q i1 i2 l1 l2 .none u v k k) (e1:Xj b s.heap l1 xs) (e2:s.heap.IsTuple l2 ys) (en:xs[k]? = none\/ys[k]? = none)
  (hE:∀h' e,(∀c o,c≠z->c≠q->c≠i1->c≠i2->s.heap.get? c=some o->h'.get? c=some o)->(∃o,h'.get? e=some o/\o.cls=.type "StopIteration")->E (.ref e) { s with heap:=h' }) :
  wpAny ?D A (Builtin.«zip.__next__» {[.ref z],[]}) Q E s:=by
 have z0:=T.z0;show wpAny _ _ (field (.ref z) 2 >>= _) _ _ _;refine f_<|kw z0 rfl  rfl ?_;refine f_<|kw z0 rfl  rfl<|f_<|y9 T.p0 rfl ?_;refine f_ ?_;refine f_<|kw z0 rfl  rfl<|l_ ?_;refine f_<|nr<|f_<|kw z0 rfl  rfl ?_;refine f_<|qu z0 ?E λg1 (z1) (m1)=>f_ ?_;refine f_<|f_<|wpAny_onRaise ?_;have a1:=T.a0.at λo e=>m1.extBut _ _ D.i1z e
 cases hx:xs[k]? with
 | none =>
  refine f_<|OX hh a1 (e1.ext m1.extBut D.l1z) hx λg2 e (m2) ⟨oe,ho,hc⟩=>?_;have z2:=m2 _ _ D.i1z.symm z1;have ne:e≠z:=λx=>by subst x;rw[z2]at ho;cases ho;simp at hc
  exact qu z2 ?E λg3 _ m3=>hE g3 e (λc o c1 _ c3 _ x=>m3.extBut _ _ c1<|m2 _ _ c3<|m1.extBut _ _ c1 x) {oe,m3.extBut _ _ ne ho,hc}
 | some x =>
  have hy:ys[k]? = none:=by grind
  refine f_<|Wj a1 (e1.ext m1.extBut D.l1z) hx λg2 a2 (m2)=>l_ ?_;have q2:=m2.extBut _ _ D.TOi1<|m1.extBut _ _ D.TOz T.q0;refine f_<|y9 q2 rfl<|f_<|wpAny_updateSeq_pair q2 λg3 (q3) (m3)=>f_<|sC<|l_ ?_;refine f_<|f_<|wpAny_onRaise ?_
  refine f_<|OU hh (T.b0.at λo e=>m3.extBut _ _ D.TOi2.symm<|m2.extBut _ _ D.i12.symm<|m1.extBut _ _ D.i2z e)
   (((e2.extBut m1.extBut D.l2z).extBut m2.extBut D.l2i1).extBut m3.extBut D.l2TO) hy λg4 e (m4) ⟨oe,ho,hc⟩=>?_
  have z4:=m4 _ _ D.i2z.symm<|m3.extBut _ _ D.TOz.symm<|m2.extBut _ _ D.i1z.symm z1;have ne:e≠z:=λx=>by subst x;rw[z4]at ho;cases ho;simp at hc
  exact qu z4 ?E λg5 _ m5=>hE g5 e (λc o c1 c2 c3 c4 x=>m5.extBut _ _ c1<|m4 _ _ c4<|m3.extBut _ _ c2<|m2.extBut _ _ c3<|m1.extBut _ _ c1 x) {oe,m5.extBut _ _ ne ho,hc}
abbrev zT1(b:Bool)(h:Wp)(l1:Tl):Wp:=h.push { cls:=.type (itN b),data:=.fields #[.ref l1,.int 0 0] }
abbrev zT2(b:Bool)(h:Wp)(l1 l2:Tl):Wp:=(zT1 b h l1).push { cls:=.type "tuple_iterator",data:=.fields #[.ref l2,.int 0 0] }
abbrev zT3(b:Bool)(h:Wp)(l1 l2:Tl):Wp:=(zT2 b h l1 l2).push { cls:=.type "tuple",data:=.seq #[.ref h.objs.size,.ref (zT1 b h l1).objs.size] }
abbrev zT4(b:Bool)(h:Wp)(l1 l2:Tl):Wp:=(zT3 b h l1 l2).push { cls:=.type "tuple",data:=.seq #[.none,.none] }
abbrev zT5(b:Bool)(h:Wp)(l1 l2:Tl):Wp:=(zT4 b h l1 l2).push { cls:=.type "zip",data:=.fields #[.none,.bool false,.bool false,.ref (zT2 b h l1 l2).objs.size,.ref (zT3 b h l1 l2).objs.size] }
def DO(b:Bool)(l1 l2:Tl)(xs ys:UF SZ) :
  Meets (Builtin.«zip.__new__» {[.type "zip",.ref l1,.ref l2],[]}) (λ_ R s=>Xj b s.heap l1 xs/\s.heap.IsTuple l2 ys /\
   R (.ok<|.ret<|.ref (zT4 b s.heap l1 l2).objs.size) { s with heap:=zT5 b s.heap l1 l2 }) :=
 .of_wp λprog w A R s h=>by
  let{hp,g,d,tk,os}:=s;let{e1,e2,h}:=h;have zba:=sub_zip;have L2:∀o,Heap.IsTuple (hp.push o) l2 ys:=λo=>by
   let{o,ho,r}:=e2;exact{o,v_ _ ho,r}
  cases b
  ·have L1:Heap.IsTuple (Shared.heap {hp,g,d,tk,os}) l1 xs:=e1;have L2:Heap.IsTuple (Shared.heap {hp.push { cls:=.type "tuple_iterator",data:=.fields #[.ref l1,.int 0 0] },g,d,tk,os}) l2 ys:=L2 _
   wp_walk using re L1,re L2
   exact{_,rfl,h}
  ·have L1:Heap.IsList (Shared.heap {hp,g,d,tk,os}) l1 xs:=e1;have L2:Heap.IsTuple (Shared.heap {hp.push { cls:=.type "list_iterator",data:=.fields #[.ref l1,.int 0 0] },g,d,tk,os}) l2 ys:=L2 _
   wp_walk using jz L1,re L2
   exact{_,rfl,h}
def Cj{b:Bool}{l1 l2:Tl}(e1:Xj b s.heap l1 xs)(e2:s.heap.IsTuple l2 ys)
  (h:∀h',Zt b h' (s.heap.objs.size+4) (s.heap.objs.size+2) (s.heap.objs.size+3) s.heap.objs.size ?jy l1 l2 .none .none .none 0 0 ->
   (∀c o,s.heap.get? c=some o->h'.get? c=some o)->Q (.ref<|s.heap.objs.size+4) { s with heap:=h' }) :
  wpAny ?D A (call (.type "zip") [.ref l1,.ref l2]) Q E s:=by
 refine callType_new F.called_zip ?C (F.typeCall_zip_2 _ _) (F.newCall_zip_2 _ _) (λobj=>F.args_object_init_3 obj _ _) F.entry_zip_new
  (DO b l1 l2 xs ys) {e1,e2,?_}
 have y1:(zT1 b s.heap l1).objs.size=s.heap.objs.size+1:=wo ..;have y2:(zT2 b s.heap l1 l2).objs.size=s.heap.objs.size+2:=by rw[wo,y1]
 have y3:(zT3 b s.heap l1 l2).objs.size=s.heap.objs.size+3:=by rw[wo,y2]
 have y4:(zT4 b s.heap l1 l2).objs.size=s.heap.objs.size+4:=by rw[wo,y3]
 have g5:(zT5 b s.heap l1 l2).get? (zT4 b s.heap l1 l2).objs.size=some _:=cN _ rfl;have g4:(zT5 b s.heap l1 l2).get? (zT3 b s.heap l1 l2).objs.size=some _:=v_ _<|cN _ rfl;have g3:(zT5 b s.heap l1 l2).get? (zT2 b s.heap l1 l2).objs.size=some _:=v_ _<|v_ _<|cN _ rfl;have g2:(zT5 b s.heap l1 l2).get? (zT1 b s.heap l1).objs.size=some _:=v_ _<|v_ _<|v_ _<|cN _ rfl;have g1:(zT5 b s.heap l1 l2).get? s.heap.objs.size=some _:=v_ _<|v_ _<|v_ _<|v_ _<|cN _ rfl;rw[y2,y3,y4]at g5;rw[y1,y2]at g3;rw[y3]at g4;rw[y1]at g2;rw[y4];exact{{_,g5,rfl},h _ {g5,g3,g4,by cases b<;>exact{_,g1,rfl,rfl},{_,g2,rfl,rfl}} λc o x=>v_ _<|v_ _<|v_ _<|v_ _<|v_ _ x}
end
end PySem
namespace L4
open PySem PySem.Spec PyProof.Rows L2 L3
variable {X:Cx}{K:Fg}{H F:Hp}{Z:L2.St}{pos apos q_:Pos}{pins:w_}{s:Tk}{y:V}{β:Bool}{e:Uf}{elts:Re Uf}{x1:Nat}{x:Str}{Q:t_}
def eP(K:Fg)(b:Bool)(H:Hp)(a:Tl)(xs:Re V):Prop:=match b with
 | true=>Ro K H a xs
 | false=>A_ K H a xs
def KN{b:Bool}{F':Hp}{a:Tl}{xs:Re V}(e:c_ F F')(h:eP K b F a xs):eP K b F' a xs:=by
 cases b
 ·exact Ug e h
 ·exact e.seq h
def Mq{b:Bool}{a:Tl}{xs:Re V}(I:Inv X pins Z H s)(h:eP X.K b H a xs):∃i_:Re SZ,Vals xs i_/\Xj b s.heap a i_.toArray/\xs.length<=sizeLine/\∀ys,eP X.K b H a ys->ys=xs:=by
 cases b
 ·let{i_,r,p,z}:=I.tuple h;exact{i_,r,p,z,λys q=>I.SN q h}
 ·let{i_,r,p,z}:=I.list h;exact{i_,r,p.isList,z,λys q=>I.U8 q h}
noncomputable def Itz(K:Fg)(β:Bool)(a b:Tl):It :=
 {λi H=>∃xs x ys y,eP K β H a xs/\xs[i]? = some x/\A_ K H b ys/\ys[i]? = some y,
  λi H r H'=>∃p x y,(∀xs,eP K β H a xs->xs[i]? = some x)/\(∀ys,A_ K H b ys->ys[i]? = some y)/\H p=none/\r=.ref p/\H'=upd H p (.tup [x,y]),
  λi H=>∃xs ys,eP K β H a xs/\A_ K H b ys/\(xs.length<=i\/ys.length<=i)}
def OP{h':Wp}{t':Nat}{fp:Re Tl}(I:Inv X pins Z H s)(hf:∀b∈fp,mZ X pins H b)
  (k:∀b o,b∉fp->s.heap.get? b=some o->h'.get? b=some o):Inv X pins Z H { s with heap:=h',toks:=t' }:=by
 have nit:∀b u,H b=some u->b∉fp:=λb u e z=>by rw[(hf b z).1]at e;cases e
 refine I.step    (λb hb=>?_) (λb o _ _ hc e _=>k b o hc e) (λb o _ _ hc e _=>{o.slots,k b o hc e}) (λ_ _ _ _ n=>n)
  (λb o hc e=>{o,k b o hc e}) (λ_ _ e=>e) (λ_ _ _ e=>e) (λb ps e=>{#[],by rw[e];simp}) (λm hm=>?_) (λb u e=>?_) I.bare
 ·let{f0,f1,f2,f3,f4,f5}:=hf b hb
  grind
 ·let{o,es,ep,ho,r}:=hm;exact{o,es,ep,k _ o (λz=>(hf _ z).2.1 rfl) ho,r}
 ·refine(I.j_ b u e).TU (λc v hc q=>k c v ?_ q) (λ_ q=>q) λ_ _ q=>q
  grind
def Iz{ch:Re Tl}{x:V}{x' y':SZ}{t:Nat}{h2:Wp}(I:Inv X pins Z H s)(hf:∀c∈ch,mZ X pins H c)(ru:RelV x x')(ru2:RelV y y')
  (Rz:∀c o,c∉ch->s.heap.get? c=some o->h2.get? c=some o) (U1:h2.get? s.heap.objs.size=some { cls:=.type "tuple",data:=.seq #[x',y'] }) :
  Inv X pins Z (upd H s.heap.objs.size<|.tup [x,y]) { s with heap:=h2,toks:=t }:=by
 have fr:=I.fresh;have nit:∀c o,H c=some o->c∉ch:=λc o e m=>by rw[(hf c m).1]at e;cases e
 have j_:RA X.prog X.w (upd H s.heap.objs.size<|.tup [x,y]) h2:=λc ob e=>by
  by_cases hb:c=s.heap.objs.size
  ·subst hb;rw[UQ]at e
   cases e
   exact{by show 2<=sizeLine;decide,[x',y'],.cons ru<|.cons ru2 .nil,{_,U1,rfl,_,rfl},{_,U1,rfl}}
  ·rw[G_ hb]at e;refine(I.j_ c ob e).TU (λc' v' Ta e'=>?_) (λc' e'=>by rw[G_<|At e' fr];exact e') λc' ys e'=>by rw[G_<|At e' fr];exact e'
   grind
 refine I.step      (λc hc=>?_) (λc o _ _ UU e _=>Rz c o UU e) (λc o _ _ UU e _=>{o.slots,Rz c o UU e})
  (λc o _ e n=>by rw[G_<|eh<|bj e];exact n) (λc o UU e=>{o,Rz c o UU e})
  (λc ys e=>by rw[G_<|At e fr];exact e) (λc o u' e=>by rw[G_<|At e fr];exact e) (λc ps e=>{#[],by rw[G_<|At e fr,e];simp}) (λm hm=>?_) j_ I.bare
 ·let{f0,f1,f2,f3,f4,f5}:=hf c hc
  grind
 ·let{o,es,ep,Ve,r}:=hm;exact{o,es,ep,Rz _ o (λm=>(hf _ m).2.1 rfl) Ve,r}
def DZ{P:TD}{w:TW}(a b z p q i1 i2:Tl)(D:ZipApart z p q i1 i2 a b) :
  Turn P w K (.Tuple elts x1 pos) (Itz K β a b) [z,p,q,i1,i2] z (λi h=>∃u v,Zt β h z p q i1 i2 a b .none u v i i) where
 mem:=by simp
 obj:=λi h ⟨u,v,T⟩ c hc=>by
  simp  [xt,xM,xy]at hc;let rfl||rfl||rfl||rfl||rfl:=hc
  ·exact{_,T.z0,λv z=>nomatch z}
  ·exact{_,T.p0,λv z=>nomatch z}
  ·exact{_,T.q0,λv z=>nomatch z}
  ·let{o,e1,d}:=T.a0.obj;exact{o,e1,λv z=>by rw[d]at z;cases z}
  ·let{o,e1,c,d}:=T.b0
   grind
 keep:=λi h h' ⟨u,v,T⟩ k=>{u,v,k z ?E _ T.z0,k p ?E _ T.p0,k q ?E _ T.q0,T.a0.at λo e=>k i1 ?E o e,T.b0.at λo e=>k i2 ?E o e}
 item:=by
  intro X hP hw hK hc i pins s Z H E I hf ⟨u,v,T⟩ hg;subst hP hw hK;let{xs,x,ys,y,hq,hx,hq2,hy}:=hg;let{i_,rv,pa,hz,SW}:=Mq I hq;let{jts,ZY,pb,hz2}:=I.tuple hq2;let{x',hu,ru}:=rv.get hx;let{y',hu2,ru2}:=ZY.get hy;have hT:s.TypeIs (.ref z) "zip":={_,T.z0,rfl}
  refine f_ (zM (mo  hT yC
   (pd yC hT F.entry_zip_next (Ci D T ((pa)) ((pb))   (by simpa using hu) (by simpa using hu2) λh1 T1 t1 k1=>l_ ?_)<|F.args_zip_next_1 _)))
  refine{_,rfl,wpAny_letOwnedTupleGo_zip T1.z0 λh2 z2 (m2)=>?_};have lt:∀{c o},s.heap.get? c=some o->s.heap.objs.size≠c:=λe=>wE<|bj e
  have ltz:=lt T.z0;have ltp:=lt T.p0;have ltq:=lt T.q0;have lt1:s.heap.objs.size≠i1:=by let{_,e,_}:=T.a0.obj;exact lt e
  have lt2:s.heap.objs.size≠i2:=by let{_,e,_}:=T.b0;exact lt e
  have Rz:∀c o,c∉[z,p,q,i1,i2]->s.heap.get? c=some o->h2.get? c=some o:=λc o hc e=>by
   simp  [xt,xM,xy,not_or]at hc;exact m2.extBut _ _ hc.1<|k1 c o hc.1 hc.2.2.1 hc.2.2.2.1 hc.2.2.2.2 e
  have U1:=m2.extBut _ _ ltz t1;have I1:Inv X pins Z (upd H s.heap.objs.size<|.tup [x,y]) { s with heap:=h2,toks:=s.toks }:=Iz I hf ru ru2 Rz U1
  refine{.ref s.heap.objs.size,_,I1,rfl,{_,x,y,λys' Wv=>by rw[SW _ Wv];exact hx,λys' Wv=>by rw[I.SN Wv hq2];exact hy,I.fresh,rfl,rfl},
   {x',y',z2,m2.extBut _ _ D.TIz T1.p0,m2.extBut _ _ D.TOz T1.q0,T1.a0.at λo e=>m2.extBut _ _ D.i1z e,T1.b0.at λo e=>m2.extBut _ _ D.i2z e},λc hc=>?_}
  have nc:c≠s.heap.objs.size:=by
   simp  [xt,xM,xy]at hc
   grind
  rw[G_ nc];exact(hf c hc).1
 done:=by
  intro X hP hw hK hc i pins s Z H E I hf ⟨u,v,T⟩ hg;subst hP hw hK;let{xs,ys,hq,hq2,hl}:=hg;let{i_,rv,pa,hz,SW}:=Mq I hq;let{jts,ZY,pb,hz2}:=I.tuple hq2;have l1:=rv.length;have l2:=ZY.length;have hT:s.TypeIs (.ref z) "zip":={_,T.z0,rfl}
  refine f_ (zM (mo  hT yC
   (pd yC hT F.entry_zip_next (DP (I.ok.hd hc) D T ((pa)) ((pb))
    (hl.imp (λh=>by simp;lia) (λh=>by simp;lia)) λh' e k he=>?_)<|F.args_zip_next_1 _)))
  let{o,ho,Vh}:=he;refine f_<|nA   {o,ho,Vh} isSubtype_stop ?_
  exact l_ {rfl,OP  I hf λc o hc e=>by
   simp  [xt,xM,xy,not_or]at hc
   exact k c o hc.1 hc.2.2.1 hc.2.2.2.1 hc.2.2.2.2 e}
 self:=λ_ _ _ _ _ ⟨u,v,T⟩ h=>wpAny_pyIter_zip T.z0 h
def mh(as bs:Re D):Re D:=List.zipWith (λx y=>PyData.tuple [x,y]) as bs
def Iy{a b:Tl}{vs ws:Re V}{as bs:Re D}(h:eP K β F a vs)(r:h_ K F vs as)(h2:A_ K F b ws)(r2:h_ K F ws bs):Walk K (Itz K β a b) (mh as bs) F where
 go:=λi G F2 Z H2 ρ s S hi=>by
  simp  [mh,List.length_zipWith]at hi;have i1:i<vs.length:=by rw[r.length];lia
  have i2:i<ws.length:=by rw[r2.length];lia
  exact{vs,vs[i],ws,ws[i],KN S.fh<|KN s h,by simp ,Ug S.fh<|Ug s h2,by simp }
 VM:=λi G F2 Z H2 ρ x H3 d s S hd ⟨p,y,y',hy,Wv,hp,hx,hH⟩=>by
  unfold mh at hd
  cases e:as[i]? with
  | none=>grind
  | some d1 =>
   cases e':bs[i]? with
   | none=>grind
   | some d2 =>
    let{v,g1,g2}:=r.get e;let{v',g3,g4}:=r2.get e';have z1:=hy vs<|KN S.fh<|KN s h;have z2:=Wv ws<|Ug S.fh<|Ug s h2;rw[g1]at z1
    cases z1
    let{s2,S2,r2}:=S.R_ hp<|h_.cons (g2.mono s)<|h_.cons (g4.mono s) h_.nil
    grind
 stop:=λG F2 Z H2 ρ s S=>{vs,ws,KN S.fh<|KN s h,Ug S.fh<|Ug s h2,by
  rw[r.length,r2.length];simp  [mh,List.length_zipWith];lia}
def kb(K:Fg)(β:Bool)(tl:TA):TI:=λZ H R=>tl Z H λxs H1=>∃a b,xs=[.ref a,.ref b]/\(∃ys,eP K β H1 a ys)/\(∃ys,A_ K H1 b ys)/\R (Itz K β a b) H1
def KB{e1 e2:Uf}{tl:TA}{tp p:Pos}(hg:uf X "zip")(hm:X.mg "zip"=none)(ha:sY X [e1,e2] tl)
  (hs:starEach [e1,e2] X.env=[(false,eval e1 X.env),?jD]) (Vd:starEach [e2] X.env=[?jD]) :
  jQ X (.Tuple elts x1 tp) (.Call (.Name "zip" p) [e1,e2] [] pos) (kb X.K β tl):=by
 intro pins s Z H R I h;refine Call_ (Go I hg hm (show bootBuiltins "zip"=some (.type "zip") by decide +kernel) (ny (Db ?jU λus s1 ⟨vs,H1,I1,r1,q1⟩=>?_) (by rw[hs,Vd]) (by rw[Vd];rfl)) ?C ?C);let{a,b,rfl,{ys,hq},{zs,hq2},q}:=q1
 cases r1 with
 | cons r rr =>
  cases rr with
  | cons r' rr =>
   cases rr
   cases r
   cases r'
   let{i_,rv,pt,hz,_}:=Mq I1 hq;let{jts,ZY,pt2,hz2}:=I1.tuple hq2;have la:a<s1.heap.objs.size:=by cases β<;>(let{o,e1,_}:=pt;exact bj e1)
   have lb:b<s1.heap.objs.size:=by let{o,e1,_}:=pt2;exact bj e1
   refine Cj ((pt)) ((pt2)) λh' T hk=>?_
   refine wpAny_pyIter_zip  T.z0 ?_;refine{s1.heap.objs.size+4,[s1.heap.objs.size+4,s1.heap.objs.size+2,s1.heap.objs.size+3,s1.heap.objs.size,s1.heap.objs.size+1],_,_,H1,rfl,I1.kept  hk,DZ a b _ _ _ _ _<|zipApart_new la lb,{_,_,T},λc hc=>?_,q};have:s1.heap.objs.size<=c:=by
    grind
   exact I1.Sy this<|I1.j_.fresh this
def sR:Bool->Re D->SL ?R
 | false,[.tuple as,.tuple bs]=>some<|mh as bs
 | true,[.list as,.tuple bs]=>some<|mh as bs
 | _,_=>none
abbrev LH:=sR false
abbrev JV:=sR true
section
variable {tg e1 e2:Uf} {ps:(Re D->M ?R)->Pu ?R} {p tp:Pos}
def J0{vs:Re V}{ds out:Re D}{R:It->Hp->Prop}(s:c_ F H)(r:h_ X.K F vs ds)(h:sR β ds=some out)(k:∀J,Walk X.K J out F->R J H) :
  ∃a b,vs=[.ref a,.ref b]/\(∃ys,eP X.K β H a ys)/\(∃ys,A_ X.K H b ys)/\R (Itz X.K β a b) H:=by
 unfold sR at h;split at h
 ·cases h
  let{v,u,rfl,r1,r2}:=r.Ul;let{a,as,rfl,a1,a2}:=r1.Q9;let{b,bs,rfl,b1,b2}:=r2.Q9;exact{_,_,rfl,{_,A_.of<|s _ _ a1},{_,A_.of<|s _ _ b1},k _<|Iy (β:=false) (A_.of a1) a2 (A_.of b1) b2}
 ·cases h
  let{v,u,rfl,r1,r2}:=r.Ul;let{a,as,rfl,a1,a2}:=r1.lst_inv;let{b,bs,rfl,b1,b2}:=r2.Q9;exact{_,_,rfl,{_,s.seq a1},{_,A_.of<|s _ _ b1},k _<|Iy (β:=true) a1 a2 (A_.of b1) b2}
 ·cases h
def B9(β:Bool){ps:Pa ?R}(hg:uf X "zip")(hm:X.mg "zip"=none)(ha:jl X [e1,e2] ps)(hs:starEach [e1,e2] X.env=[(false,eval e1 X.env),?jD])(Vd:starEach [e2] X.env=[?jD]):bf X (.Tuple elts x1 tp) (.Call (.Name "zip" p) [e1,e2] [] pos) (gx (sR β) ps) :=
 λG F Z H ρ R S w=>Cz (KB (β:=β) hg hm Pm hs Vd) (ha G F Z H ρ _ _ _ S w λds vs F1 H1 s1 S1 _ r1 w1=>by
  let{out,hd,k}:=w1.opt
  exact J0 S1.fh r1 hd<|k F1 H1 ?J S1)
def GK{ps:Pa ?R}(hg:uf X "zip")(hm:X.mg "zip"=none)(ha:jl X [e1,e2] ps)(hs:starEach [e1,e2] X.env=[(false,eval e1 X.env),?jD])(Vd:starEach [e2] X.env=[?jD]):bf X (.Tuple elts x1 tp) (.Call (.Name "zip" p) [e1,e2] [] pos) (gx (sR false) ps):=B9 false hg hm ha hs Vd
def IT{ps:Pa ?R}(hg:uf X "zip")(hm:X.mg "zip"=none)(ha:jl X [e1,e2] ps)(hs:starEach [e1,e2] X.env=[(false,eval e1 X.env),?jD])(Vd:starEach [e2] X.env=[?jD]):bf X (.Tuple elts x1 tp) (.Call (.Name "zip" p) [e1,e2] [] pos) (gx (sR true) ps):=B9 true hg hm ha hs Vd
end
def sw(ds es:Re D):SL ?R:=if decide (ds.length+es.length<=sizeLine)then some (ds++es)else none
section
variable {S:Type} {c:Uf} {ml:Ev S ?R} {pos':Pos} {m:SM S}
def MY{i:Nat}(hN:X.N[i]? = some x)(hv:Vx X.env.scope x)(he:AEl X e ml)
  (RG:attributeBase (.Name x pos') "extend" X.env (eval (.Name x pos') X.env)=eval (.Name x pos') X.env)
  (X0:((backTo q_<|starEach [e] X.env).all (λx=>!x.1)&&(backToKw q_<|keywordEach [] X.env).all (λx=>x.1.isSome)
   && decide ([e].length+([]:Re Keyword).length+(if([]:Re Keyword).isEmpty then 0 else 1)<30))=true)
  (RF:?jI=true) (hs:starEach [e] X.env=?N::starEach [] X.env) (Tv:(backTo q_<|starEach [] X.env).any (·.1)=false)
  (XJ:swapsWith (.Call (.Attribute (.Name x pos') "extend" apos) [e] [] q_) none pos.line X.env=pure false) (hd:(x==("__debug__" : Str))=false:=by decide) (RB:(x==("__classdict__" : Str))=false:=by decide) :
  wG X (.Expr (.Call (.Attribute (.Name x pos') "extend" apos) [e] [] q_) pos) (mU i sw ml):=λOK K G F Z H ρ E hO hX St ok eo =>
 E3 (PM (EV xx PySem.F.slot_list_extend PySem.F.type_list_extend CW ?jZ (Qi Mz Qh hs) RG X0 RF hs Tv) XJ) (by
  unfold mU at ok;split at ok
  case h_2=>exact(hO ok).elim
  ·rename_i ds0 h0;let{a,Zk,ea,hh,_}:=TY St h0;refine{_,ea,.inl {rfl,Zk,.inl<|.inl hh},he OK K.x _ G F Z H ρ _ hO hX St ok λes v F1 H1 ρ1 s1 S1 fr o1=>?_};split at o1
   ·rename_i ds UT;let{WA,hf,o2}:=OT hO o1;let{a',vs,Rf,hh',rv}:=TY S1 UT;rw[ea]at Rf;injection Rf with Rf;injection Rf with Rf;injection Rf with Rf;subst Rf;let{b,rfl,ob,_}:=fr;let{ws,g1,g2}:=ob.he;unfold sw at hf;split at hf
    ·rename_i hz
     cases hf
     refine{a,b,vs,ws,rfl,rfl,hh',g1,by rw[rv.length,g2.length];simpa using hz,?_};exact eo.nx F1 Z _ _ s1 (Ui S1 UT ea<|rv.append g2) o2
    ·cases hf
   ·exact(hO o1).elim)
end
def gy:D->Bool
 | .int _=>true
 | .str _=>true
 | _=>false
def dF:D->Bool
 | .tuple ds=>ds.all gy
 | _=>false
def yo:D->D->Bool
 | .int i,.int j=>decide<|i=j
 | .str i,.str j=>decide<|i=j
 | _,_=>false
def uM:Re D->Re D->Bool
 | [],[]=>true
 | a::r,b::t=>yo a b&&uM r t
 | _,_=>false
def gP:D->D->Bool
 | .tuple a,.tuple b=>uM a b
 | a,b=>yo a b
def keyOk(es:Re ?M)(k:D):Bool:=(dF k&&es.all λp=>dF p.1)||(gy k&&es.all λp=>gy p.1)
def OD{es:Re ?M}{k:D}(h:keyOk es k=true):sL es=false:=by
 unfold sL;split
 ·simp[keyOk,dF,gy]at h
 ·simp[keyOk,dF,gy]at h
 ·rfl
def gz(es:Re ?M)(k:D):SL D:=(es.find? λp=>gP p.1 k).map (·.2)
def oY(es:Re ?M)(k d:D):Re ?M:=if es.any (λp=>gP p.1 k)then es.map (λp=>if gP p.1 k then(p.1,d)else p)else es++[(k,d)]
def MK(a b:Key):yo (N_ a) (N_ b)=decide (a=b):=by
 cases a<;>cases b<;>simp[yo,N_]
def Jo:∀(a b:Re Key),uM (a.map N_) (b.map N_)=decide (a=b)
 | [],[]=>rfl
 | [],_::_=>rfl
 | _::_,[]=>rfl
 | x::xs,y::ys=>by
  simp![aw,uM,MK,Jo xs ys]
  grind
def Pc(a b:Re Key):gP (cY a) (cY b)=decide (a=b):=Jo a b
def BW(a b:Key):gP (N_ a) (N_ b)=decide (a=b):=by
 have h:gP (N_ a) (N_ b)=yo (N_ a) (N_ b):=by cases a<;>cases b<;>rfl
 rw[h];exact MK a b
def Eo{d:D}(h:gy d=true):∃k,d=N_ k:=by
 cases d<;>first|exact{.inl _,rfl}|exact{.inr _,rfl}|cases h
def F9:∀{ds:Re D},ds.all gy=true->∃k:Re Key,ds=k.map N_
 | [],_=>{[],rfl}
 | d::ds,h=>by
  rw[jm,am]at h;let{k,rfl}:=Eo h.1;let{ks,rfl}:=F9 h.2;exact{k::ks,rfl}
def VI{d:D}(h:dF d=true):∃k,d=cY k:=by
 cases d<;>first|cases h|skip
 let{k,rfl}:=F9 h;exact{k,rfl}
def FO(k:Key):gy (N_ k)=true:=by cases k<;>rfl
def FM(k:Re Key):dF (cY k)=true:=by
 unfold cY dF;simp[FO]
def FN(k:Key):dF (N_ k)=false:=by cases k<;>rfl
section
variable {v:V}
def O8{k:Key}(r:Rep K F v (N_ k)):v=kV k:=by
 cases k with
 | inl i=>cases ((r));rfl
 | inr i=>cases ((r));rfl
def Bs:∀{vs:Re V} {k:Re Key},h_ K F vs (k.map N_)->vs=k.map kV
 | _,[],r=>by cases r;rfl
 | _,k::ks,r=>by
  cases r with
  | cons a b=>rw[O8 a,Bs b];rfl
def Mj{k:Re Key}(r:Rep K F v (cY k)):∃b,v=.ref b/\F b=some (.tup<|k.map kV):=by
 cases r with
 | tup h1 h2=>rw[Bs h2]at h1;grind
noncomputable def DT(K:Fg)(F H:Hp)(a:Tl)(es:Re ?M):Prop:=∃kvs,Rd H a (.dT kvs)/\es.map (·.1)=kvs.map ?qg/\h_ K F (kvs.map (·.2)) (es.map (·.2))
noncomputable def DK(K:Fg)(F H:Hp)(a:Tl)(es:Re ?M):Prop:=∃kvs,H a=some (.dK kvs)/\es.map (·.1)=kvs.map (λp=>N_ p.1)/\h_ K F (kvs.map (·.2)) (es.map (·.2))
theorem OR.dict{es:Re ?M}(s:c_ F H)(h:OR K F H v (.dict es))(hx:sL es=false):∃a,v=.ref a/\(DT K F H a es\/DK K F H a es):=by
 let h||{a,c,e,e2,h1,hI}:=h
 ·cases h with
  | Vu h1 h2 h3=>exact{_,rfl,.inl {_,.inr {_,s _ _ h1},h2,h3}}
  | ZI h1 h2 h3=>exact{_,rfl,.inr {_,s _ _ h1,h2,h3}}
  | exc _ _ _ _ _=>cases hx
  | fn _=>cases hx
 ·cases c<;>cases e2
  ·let{kvs,q1,q2,q3}:=h1;exact{a,e,.inl {kvs,.inl q1,q2,q3}}
  ·exact{a,e,.inr h1}
def As{κ:Type}[DecidableEq κ]{kd:κ->D}(inj:∀a b,gP (kd a) (kd b)=decide (a=b))(k:κ):∀{kvs:Re ?qW} {es:Re ?M},es.map (·.1)=kvs.map (λp=>kd p.1)->h_ K F (kvs.map (·.2)) (es.map (·.2)) ->
  (∃d v,gz es (kd k)=some d/\lE kvs k=some v/\Rep K F v d)\/(gz es (kd k)=none/\lE kvs k=none)
 | [],[],_,_=>.inr {rfl,rfl}
 | [],_::_,e,_=>by simp at e
 | _::_,[],e,_=>by simp at e
 | p::kvs,q::es,e,r=>by
  simp  [aw,List.cons.injEq]at e
  cases r with
  | cons r1 r2 =>
   unfold gz lE;rw[ir,ir,e.1,inj];by_cases h:p.1=k
   ·grind
   ·simp![h,jk];exact As inj k e.2 r2
def KP{κ:Type}[DecidableEq κ]{kd:κ->D}(inj:∀a b,gP (kd a) (kd b)=decide (a=b))(k:κ){d:D}(rv:Rep K F v d):∀{kvs:Re ?qW} {es:Re ?M},es.map (·.1)=kvs.map (λp=>kd p.1)->h_ K F (kvs.map (·.2)) (es.map (·.2)) ->
  (oY es (kd k) d).map (·.1)=(putK kvs k v).map (λp=>kd p.1)/\h_ K F ((putK kvs k v).map (·.2)) ((oY es (kd k) d).map (·.2)):=by
 intro kvs es e r;have any:∀{kvs:Re ?qW} {es:Re ?M},es.map (·.1)=kvs.map (λp=>kd p.1)->(es.any λp=>gP p.1<|kd k)=kvs.any λp=>decide<|p.1=k:=by
  intro kvs
  induction kvs with
  | nil=>intro es e;cases es with
   | nil=>rfl
   | cons _ _=>simp at e
  | cons p kvs ih=>intro es e;cases es with
   | nil=>simp at e
   | cons q es =>
    simp![aw,List.cons.injEq]at e;rw[sO,sO,ih e.2,e.1,inj]
 have mp:∀{kvs:Re ?qW} {es:Re ?M},es.map (·.1)=kvs.map (λp=>kd p.1)->h_ K F (kvs.map (·.2)) (es.map (·.2)) ->
   (es.map λp=>if gP p.1 (kd k)then(p.1,d)else p).map (·.1)=(kvs.map λp=>if p.1=k then(p.1,v)else p).map (λp=>kd p.1) /\
   h_ K F ((kvs.map λp=>if p.1=k then(p.1,v)else p).map (·.2)) ((es.map λp=>if gP p.1 (kd k)then(p.1,d)else p).map (·.2)):=by
  intro kvs
  induction kvs with
  | nil=>intro es e r;cases es with
   | nil=>exact{rfl,.nil}
   | cons _ _=>simp at e
  | cons p kvs ih=>intro es e r;cases es with
   | nil=>simp at e
   | cons q es =>
    simp![aw,List.cons.injEq]at e
    cases r with
    | cons r1 r2 =>
     let{i1,i2}:=ih e.2 r2;simp![aw,e.1,inj];by_cases h:p.1=k
     ·simp![h,decide_true,zd,List.cons.injEq];exact{{trivial,i1},.cons rv i2}
     ·simp![h,jk,lw,List.cons.injEq];exact{{by simpa using e.1,i1},.cons r1 i2}
 unfold oY putK;rw[any e];by_cases h:(kvs.any λp=>decide<|p.1=k)=true
 ·rw[ap h,ap h];exact mp e r
 ·rw[ba h,ba h];refine{by simp[e],?_};rw[gi,gi];exact r.append<|.cons rv .nil
end
def w4(H:Hp)(a:Tl):Prop:=Rd H a (.dT [])\/H a=some (.dK [])
def Kf{a:Tl}(I:Inv X pins Z H s)(h:w4 H a) :
  s.heap.DictOfH (tupleKind ?qs) a []/\s.heap.DictOf ?qs a []/\?jV=false:=by
 let h||h:=h
 ·let{z,y,xs,kt,o,es,ep,h1,h2,h3,h4,h5,h6}:=Q3 I.j_ h
  cases kt
  have e0:es = #[]:=by
   grind
  subst e0;exact{{o,_,ep,h1,h2,h3,rfl,(λx hx=>by simp at hx),vf},{o,_,ep,h1,h2,h3,λe he=>by simp at he,.nil,vf},y}
 ·let{z,y,vs,kv,o,es,ep,h1,h2,h3,h4,h5,h6}:=BU I.j_ h
  cases kv
  have e0:es = #[]:=by
   have:es.toList=[]:=by
    generalize es.toList=l at h5
    cases h5
    rfl
   grind
  subst e0;exact{{o,_,ep,h1,h2,h3,rfl,(λx hx=>by simp at hx),vf},{o,_,ep,h1,h2,h3,λe he=>by simp at he,.nil,vf},y}
theorem DT.empty{a:Tl}(h:DT K F H a []):w4 H a:=by
 let{kvs,h1,h2,_}:=h
 cases kvs with
 | nil=>exact .inl h1
 | cons _ _=>simp at h2
theorem DK.empty{a:Tl}(h:DK K F H a []):w4 H a:=by
 let{kvs,h1,h2,_}:=h
 cases kvs with
 | nil=>exact .inr h1
 | cons _ _=>simp at h2
def f7(H:Hp)(y:V):Prop:=(∃k,y=kV k)\/∃(b:Tl) (ks:Re Key),y=.ref b/\H b=some (.tup<|ks.map kV)
def wy(H:Hp)(a:Tl)(y:V)(o:SL V):Prop:=TB H a y o\/(w4 H a/\f7 H y/\o=none)
def M4{a:Tl}{es:Re ?M}{k:D}(s:c_ F H)(h:DT K F H a es\/DK K F H a es)(r:Rep K F y k)(hk:keyOk es k=true) :
  (∃d v,gz es k=some d/\wy H a y (some v)/\Rep K F v d)\/(gz es k=none/\wy H a y none):=by
 unfold keyOk at hk;rw[si,am,am]at hk;have kT:dF k=true->f7 H y:=λh=>by
  let{ks,rfl}:=VI h;let{b,rfl,hb}:=Mj r;exact .inr {b,ks,rfl,s _ _ hb}
 have kK:gy k=true->f7 H y:=λh=>by
  let{ks,rfl}:=Eo h;exact .inl {ks,O8 r}
 cases es with
 | nil =>
  refine .inr {rfl,.inr {?_,?_,rfl}}
  ·let h||h:=h
   ·exact h.empty
   ·exact h.empty
  grind
 | cons p es =>
  let{kvs,h1,h2,h3}||{kvs,h1,h2,h3}:=h
  ·let{hk,_}||{_,hk}:=hk
   ·let{ks,rfl}:=VI hk;let{b,rfl,hb}:=Mj r;let{d,v,e1,e2,e3}||{e1,e2}:=As Pc ks h2 h3
    ·exact .inl {d,v,e1,.inl<|e2▸.inr {kvs,ks,b,h1,rfl,s _ _ hb,rfl},e3}
    ·exact .inr {e1,.inl<|e2▸.inr {kvs,ks,b,h1,rfl,s _ _ hb,rfl}}
   ·cases kvs with
    | nil=>simp at h2
    | cons q kvs =>
     simp  [aw,List.cons.injEq]at h2;rw[jm,h2.1]at hk
     cases hk
  ·let{_,hk}||{hk,_}:=hk
   ·cases kvs with
    | nil=>simp at h2
    | cons q kvs =>
     simp  [aw,List.cons.injEq]at h2;rw[jm,h2.1,FN]at hk
     cases hk
   ·let{ks,rfl}:=Eo hk;obtain rfl:=O8 r;let{d,v,e1,e2,e3}||{e1,e2}:=As BW ks h2 h3
    ·exact .inl {d,v,e1,.inl<|e2▸TB.k h1,e3}
    ·exact .inr {e1,.inl<|e2▸TB.k h1}
section
variable {a:Tl} {d:V} {u r:SZ} {o:SL V} {A:UV} {E:t_}
def Pn(hu:A.units+1<cLine)(I:Inv X pins Z H s)(g:wy H a y o)(ry:RelV y u)(h:∀s',Inv X pins Z H s'->Q (.bool o.isSome) s') :
  wpAny ?B A (compareOp .In u<|.ref a) Q E s:=by
 let g||{e,k,rfl}:=g
 ·exact Pi hu I g ry h
 ·let{h1,h2,hd}:=Kf I e;let{k,rfl}||{b,ks,rfl,hb}:=k
  ·exact wpAny_in_of (QZ ry) hd h2.mapOf<|h _ ?qt
  ·cases ((ry))
   exact wpAny_in_heap (ye hu) (Q2 I.j_ hb) hd h1<|h _ ?qt
def IZ(hu:A.units+1<cLine)(I:Inv X pins Z H s)(g:wy H a y o)(ry:RelV y u)(h:∀s',Inv X pins Z H s'->Q (.bool<|!o.isSome) s') :
  wpAny ?B A (compareOp .NotIn u<|.ref a) Q E s:=by
 let g||{e,k,rfl}:=g
 ·exact IF hu I g ry h
 ·let{h1,h2,hd}:=Kf I e;let{k,rfl}||{b,ks,rfl,hb}:=k
  ·exact wpAny_notIn_of (QZ ry) hd h2.mapOf<|h _ ?qt
  ·cases ((ry))
   exact wpAny_notIn_heap (ye hu) (Q2 I.j_ hb) hd h1<|h _ ?qt
def Mf(hu:A.units+1<cLine)(I:Inv X pins Z H s)(g:wy H a y o)(ry:RelV y u)(h:∀w' s',Inv X pins Z H s'->RelV (o.getD .Rq) w'->Q w' s') :
  wpAny ?B A (call (.builtin "dict.get") [.ref a,u]) Q E s:=by
 let g||{e,k,rfl}:=g
 ·exact LQ hu I g ry h
 ·let{h1,h2,hd}:=Kf I e;let{k,rfl}||{b,ks,rfl,hb}:=k
  ·exact q8 xp h2.typeIs km (zg _ _) (meets_dict_get ?qs a (QZ ry) hd) {_,h2.mapOf,h _ _ ?qt rfl}
  ·cases ((ry))
   exact q8 xp h1.typeIs km (zg _ _) (meetsH_dict_get (tupleKind ?qs) a b hd) {ye hu,ks,[],Q2 I.j_ hb,h1,h _ _ ?qt rfl}
theorem DT.isD{es:Re ?M}(h:DT K F H a es\/DK K F H a es):IsD H a:=by
 let{kvs,h1,_}||{kvs,h1,_}:=h
 ·exact .inr {_,h1}
 ·exact .inl {_,.inl h1}
end
def yE:D->D->SL D
 | .dict es,k=>if keyOk es k then some ((gz es k).getD .none)else none
 | _,_=>none
def lK(d c:D):SL Bool:=match c with
 | .dict es=>if keyOk es d then some (gz es d).isSome else none
 | _=>xF d c
def bc(d c:D):SL Bool:=match c with
 | .dict es=>if keyOk es d then some (!(gz es d).isSome)else none
 | _=>iE d c
def aD(x y:D):SL D:=match x with
 | .dict es=>if keyOk es y then gz es y else none
 | _=>fO x y
def sT:Re D->SL D
 | [.dict es]=>if sL es then none else some (.int es.length)
 | l=>dm l
def qK(po pe:Pu D):Pu D:=λρ=>bd (po ρ) λd=>bd (kA<|pe ρ) λk=>oM<|yE d k
theorem W.nx{G:Gh}{ρ:En}{α:Type}{m:M α}{C:α->Hp->Hp->Prop}(h:W X G F Z ρ (kA m) C):W X G F Z ρ m C:=by
 cases m with
 | ret a=>exact h
 | exc x=>exact h.elim
 | bad=>exact h.elim
def mO(td ty:TE):TE:=λZ H Q=>td Z H λx H1=>∃a,x=.ref a/\IsD H1 a/\ty Z H1 λy H2=>∃o,wy H2 a y o/\Q (o.getD .Rq) H2
section
variable {o f:Uf} {td ty tx:TE}
def EY(hu:X.A.units+1<cLine)(ho:cM X o td)(he:cM X e ty)(m:M1 X o "get" apos e q_):cM X (.Call (.Attribute o "get" apos) [e] [] q_) (mO td ty):=by
 intro pins s Z H Q I h;refine wpAny_Call_method m.base m.Y3 m.line PySem.F.plainAttrs_dict xp PySem.F.type_dict_get<|Db ?qf λu s1 ⟨x,H1,I1,rx,a,ex,d,q1⟩=>?_;subst ex;obtain rfl:u=Value.ref a:=rx;let{t1,t2,_}:=Lw I1 d;refine{t1,t2,?_};rw[m.trees];refine vg rfl<|Calls.evalArgs_plain<|tP<|Db (he pins s1 Z H1 _ I1 q1) λiv s2 ⟨y,H2,I2,ry,ov,g,q2⟩=>uR ?_;exact Mf hu I2 g ry λw' s3 I3 TX=>{_,H2,I3,TX,q2}
end
section
variable {o f:Uf} {po pe pf:Pu D}
def GJ(hu:X.A.units+1100<cLine)(ho:zN X o po)(he:lj X e pe)(m:M1 X o "get" apos e q_):lj X (.Call (.Attribute o "get" apos) [e] [] q_) (qK po pe) :=
 λG F Z H ρ Q S w=>RD (EY ?A Mz Mz m) (ho G F Z H ρ _ S (w.bind.imp λd F1 H1 s1 S1 w1 v hv=>by
  have hd:∃es,d=.dict es/\sL es=false:=by
   cases hk:pe ρ with
   | ret k =>
    rw[hk]at w1;let{res,e,_}:=w1.opt
    cases d with
    | dict es =>
     dsimp only[yE]at e;split at e
     ·rename_i hk;exact{es,rfl,OD hk}
     ·cases e
    | _=>cases e
   | exc x=>rw[hk]at w1;exact w1.elim
   | bad=>rw[hk]at w1;exact w1.elim
  let{es,rfl,hnx}:=hd;let{a,rfl,hh}:=(hv.or S1).dict S1.fh hnx;refine{a,rfl,DT.isD hh,he G F1 Z H1 ρ _ S1<|w1.bind.nx.imp λk F2 H2 s2 S2 w2 y hy=>?_};let{res,e,kk}:=w2.opt;dsimp only[yE]at e;split at e
  case isFalse=>cases e
  rename_i hk
  cases e
  let{a',ea,hh3}:=((hv.mono s2).or S2).dict S2.fh hnx
  cases ea
  let{d,v,e1,g,r}||{e1,g}:=M4 S2.fh hh3 hy hk
  ·grind
  ·refine{none,g,?_};rw[e1]at kk
   exact kk F2 H2 ?J S2 .Rq .Rq))
end
def wR(neg:Bool):R2:=λx y H Q=>∃a o,y=.ref a/\wy H a x o/\Q (.bl<|if neg then !o.isSome else o.isSome) H
def bQ(K:Fg):R2:=λx y H Q=>pR K xF x y H Q\/wR false x y H Q
def aC(K:Fg):R2:=λx y H Q=>pR K iE x y H Q\/wR true x y H Q
def pG:R2:=λx y H Q=>∃a v,x=.ref a/\TB H a y (some v)/\Q v H
def cf(K:Fg):R2:=λx y H Q=>rIx K x y H Q\/pG x y H Q
section
def Bf(hu:X.A.units+1100<cLine):K_ X (compareOp .In) (bQ X.K):=K_.or (KR hu) (by
 intro pins s Z H x y v u Q I rx ry ⟨a,o,e,g,q⟩;subst e;obtain rfl:u=Value.ref a:=ry
 exact Pn ?A I g rx λs' I'=>{.bl _,H,I',rfl,q})
def M3(hu:X.A.units+1100<cLine):K_ X (compareOp .NotIn) (aC X.K):=K_.or (CM hu) (by
 intro pins s Z H x y v u Q I rx ry ⟨a,o,e,g,q⟩;subst e;obtain rfl:u=Value.ref a:=ry
 exact IZ ?A I g rx λs' I'=>{.bl _,H,I',rfl,q})
def Bv(hu:X.A.units+1100<cLine):WH X pG:=by
 intro value slice pins s Z H x y v u Q I rx ry ⟨a,w,e,g,q⟩ hs;subst e;obtain rfl:v=Value.ref a:=rx;have hT:=Q5 I g;refine f_ ?_;refine f_<|wpAny_specialOf hT PySem.F.slot_dict_getitem.lookup ?_;have h₂:wpAny ?B X.A (getItem (.ref a) u) ?jq X.xe s:=Dq ?A I g ry λw' s3 I3 TX=>{w,H,I3,TX,q}
 have fin:wpAny ?B X.A (subscripted slice false (.ref a) u) (λr s₃=>wpAny ?B X.A (letTemporaryGo value (.ref a) r >>= λ_=>pure r) ?jq X.xe s₃) X.xe s:=by
  rw[hs];exact wpAny_operating<|oS h₂ (λr s₃ h₃=>f_<|wpAny_letTemporaryGo<|l_ h₃) λ_ _ x=>x
 first
  | exact l_<|f_ fin
  | exact f_<|l_<|f_ fin
  | exact f_ fin
def AM(hu:X.A.units+1100<cLine):WH X (cf X.K):=WH.or Lu<|Bv hu
def Kw{es:Re ?M}{k:D}(h:OR K F H y k)(hk:keyOk es k=true):Rep K F y k:=by
 let h||{a,c,e,e2,h1,hI}:=h
 ·exact h
 ·subst e2;unfold keyOk at hk
  cases c<;>simp[OC.d,dF,gy]at hk
def E6:rT K (bQ K) lK:=by
 intro G F Z H ρ x y dx dy res Q S ox oy e k;unfold lK at e;split at e
 ·split at e
  case isFalse=>cases e
  rename_i hk
  cases e
  let{a,rfl,hh}:=oy.dict S.fh<|OD hk;let{d,v,e1,g,r}||{e1,g}:=M4 S.fh hh (Kw ox hk) hk
  ·exact .inr {a,_,rfl,g,by rw[e1]at k;exact k}
  ·exact .inr {a,_,rfl,g,by rw[e1]at k;exact k}
 ·exact .inl<|D5 G F Z H ρ x y dx dy res Q S ox oy e k
def M2:rT K (aC K) bc:=by
 intro G F Z H ρ x y dx dy res Q S ox oy e k;unfold bc at e;split at e
 ·split at e
  case isFalse=>cases e
  rename_i hk
  cases e
  let{a,rfl,hh}:=oy.dict S.fh<|OD hk;let{d,v,e1,g,r}||{e1,g}:=M4 S.fh hh (Kw ox hk) hk
  ·exact .inr {a,_,rfl,g,by rw[e1]at k;exact k}
  ·exact .inr {a,_,rfl,g,by rw[e1]at k;exact k}
 ·exact .inl<|D5 G F Z H ρ x y dx dy res Q S ox oy e k
def HA:qY K (cf K) aD:=by
 intro G F Z H ρ x y dx dy res Q S ox oy e k;unfold aD at e;split at e
 ·split at e
  case isFalse=>cases e
  rename_i hk;let{a,rfl,hh}:=ox.dict S.fh<|OD hk;let{d,v,e1,g,r}||{e1,g}:=M4 S.fh hh (Kw oy hk) hk
  ·rw[e1]at e
   cases e
   let g||{_,_,z}:=g
   ·exact .inr {a,v,rfl,g,k v F H ?J S r}
   ·cases z
  grind
 ·exact .inl<|Nt G F Z H ρ x y dx dy res Q S ox oy e k
end
def aB(ρ:En)(i:Nat):SL (Bool×Re ?M):=match ρ[i]? with
 | some (some<|.ol<|.t es)=>some (true,es)
 | some (some<|.ol<|.k es)=>some (false,es)
 | _=>none
def xD(t:Bool)(es:Re ?M):OC:=if t then .t es else .k es
def YJ{ρ:En}{i:Nat}{t:Bool}{es:Re ?M}(h:aB ρ i=some (t,es)):ρ[i]? = some (some<|.ol<|xD t es):=by
 unfold aB at h;split at h
 ·rename_i q;cases h;exact q
 ·rename_i q;cases h;exact q
 ·cases h
def keyOf(t:Bool)(k:D):Bool:=if t then dF k else gy k
def ii(t:Bool)(es:Re ?M)(k d:D):SL (Re ?M):=if keyOf t k&&decide (es.length<sizeLine)then some (oY es k d)else none
section
variable {S:Type}
def qW(t:Bool)(i:Nat):SM S:=λK ρ=>match jT ρ i with
 | true=>K.nx<|ρ.set i<|some<|.ol<|xD t []
 | false=>.bad
def iW(i:Nat)(mi me:Ev S D):SM S:=λK ρ=>me K.x (λd ρ1=>match aB ρ1 i with
 | some _=>mi K.x (λj ρ2=>match aB ρ2 i with
  | some (t,es)=>(oM<|ii t es j d).on (λe=>K.x e ρ2) λW4=>K.nx<|ρ2.set i<|some<|.ol<|xD t W4
  | none=>.bad) ρ1
 | none=>.bad) ρ
variable {b:Uf} {mi me:Ev S D} {pos' L_:Pos}
def Jn(t:Bool){i:Nat}(hN:X.N.Nodup)(hi:X.N[i]? = some x)(hx:Loc X.env.scope x)(hs:swapsWith (.Dict [] [] L_) (some<|.Name x pos') pos.line X.env=pure false)(hf:X.fn x=true\/X.env.scope.names.lookup x=some .local) :
  wG (S:=S) X (.Assign [.Name x pos'] (.Dict [] [] L_) pos) (qW t i):=λOK K G F Z H ρ E hO hX St ok eo=>by
 unfold qW at ok;split at ok
 case h_2=>exact(hO ok).elim
 rename_i ho;let{hl,T_}:=K0 ho
 cases t with
 | true=>exact E3 (PR hN hi hx O4 hs hf) λp hp=>eo.nx F _ _ _ ?J ((St.lay  hp).store T_ hl<|.inr {.t [],rfl,p,rfl,{St.fh.free hp,St.oh.free hp,[],UQ,rfl,.nil},St.fresh_ne hp}) ok
 | false=>exact E3 (PR hN hi hx EU hs hf) λp hp=>eo.nx F _ _ _ ?J ((St.lay  hp).store T_ hl<|.inr {.k [],rfl,p,rfl,{St.fh.free hp,St.oh.free hp,[],UQ,rfl,.nil},St.fresh_ne hp}) ok
def Kl(hu:X.A.units+1100<cLine){i:Nat}(hN:X.N[i]? = some x)(hv:Vx X.env.scope x)(hi:dL X b mi)(he:dL X e me)
  (hs:swapsWith e (some<|.Subscript (.Name x pos') b L_) pos.line X.env=pure false)
  (hd:(x==("__debug__" : Str))=false:=by decide) (RB:(x==("__classdict__" : Str))=false:=by decide):wG X (.Assign [.Subscript (.Name x pos') b L_] e pos) (iW i mi me):=λOK K G F Z H ρ E hO hX St ok eo =>
 E3 (A0 ?A ?jZ Mz Mz hs) (he OK K.x _ G F Z H ρ _ hO hX St ok λd v F1 H1 ρ1 s1 S1 r1 o1=>by
  split at o1
  case h_2=>exact(hO o1).elim
  rename_i te0 hd0;let{a,ea,_}:=S1.ow i _<|.inl<|YJ hd0;refine{_,ea,hi OK K.x _ G F1 Z H1 ρ1 _ hO hX S1 o1 λj u F2 H2 ρ2 s2 S2 r2 o2=>?_};split at o2
  case h_2=>exact(hO o2).elim
  rename_i t es UT;let{W4,hp,o3}:=OT hO o2;have XN:=YJ UT;let{a',Rf,oa}:=S2.ow i _<|.inl XN;rw[ea]at Rf;injection Rf with Rf;injection Rf with Rf;injection Rf with Rf;subst Rf;unfold ii at hp;split at hp
  case isFalse=>cases hp
  rename_i hc
  cases hp
  rw[am]at hc
  cases t with
  | true =>
   let{ks,rfl}:=VI hc.1;let{b,rfl,hb}:=Mj r2;let{kvs,h1,h2,h3}:=((oa.he));let{p1,p2}:=KP Pc ks ?qH h2 h3;have hlen:=by have:=congrArg List.length h2;simpa using this.symm
   refine{a,_,rfl,Se.t h1 (S2.fh _ _ hb) ?A,eo.nx F2 Z _ _ ?jo ?_ o3};have:=S2.change (.inl XN) ea (c':=.t (oY es (cY ks) d))  {_,UQ,p1,p2};rw[XN]at this;exact this
  | false =>
   let{ks,rfl}:=Eo hc.1;obtain rfl:=O8 r2;let{kvs,h1,h2,h3}:=((oa.he));let{p1,p2}:=KP BW ks ?qH h2 h3;have hlen:=by have:=congrArg List.length h2;simpa using this.symm
   refine{a,_,rfl,Se.k h1 ?A,eo.nx F2 Z _ _ ?jo ?_ o3};have:=S2.change (.inl XN) ea (c':=.k (oY es (N_ ks) d))  {_,UQ,p1,p2};rw[XN]at this
   exact this)
end
end L4
namespace HT
open PySem PyProof.Rows
end HT
namespace L4
open PySem PySem.Spec PyProof.Rows L2 L3
def eW(x y:D):SL Bool:=match x,y with
 | .tuple a,.tuple b=>match intsOf a,intsOf b with
  | some m,some n=>some<|HT.lexLt m n
  | _,_=>none
 | x,y=>zh x y
def mv(K:Fg):R2:=λx y H Q=>lf (λi j=>.bl<|decide<|i<j) x y H Q\/mX K x y H Q
def MX{X:Cx}(hu:X.A.units+1100<cLine):K_ X (compareOp .Lt) (mv X.K):=K_.or Nm<|KY ?A
def OF{K:Fg}:rT K (mv K) eW:=by
 intro G F Z H ρ x y dx dy res Q S ox oy e k;unfold eW at e;split at e
 ·split at e
  ·rename_i m n hm hn
   cases e
   let{p,vs,rfl,h1,h2}:=ox.tuple S.fh;let{q,us,rfl,g1,g2}:=oy.tuple S.fh;rw[NJ hm]at h2;rw[NJ hn]at g2;rw[AT h2]at h1;rw[AT g2]at g1;exact .inr {p,q,m,n,rfl,rfl,h1,g1,k}
  ·cases e
 ·exact .inl<|Nq G F Z H ρ x y dx dy res Q S ox oy e k
def mB{S:Type}:SM S:=λ_ _=>.bad
def L7{S:Type}{X:Cx}{st:Stmt}:wG (S:=S) X st mB:=λOK K G F Z H ρ E hO hX St ok eo=>(hO ok).elim
end L4
namespace PySem
open Sem (wp)
open AutoSeq1 (wpAny_loadPart')
def Do{β:Bool}{prog:TD}{w:TW}{A:UV}(hh:A.handled=none)(it l:Tl)(WR:l≠it)(items:UF SZ) :
  Draws prog w A it [it,l] items.size (λi v=>items[i]? = some v) (λi h=>Xi β h it l i/\Xj β h l items) where
 live:=λ_ _ st=>let ⟨o,ho,_⟩:=st.1.obj;{o,ho}
 frame:=λ_ _ _ st hk=>{st.1.at λo e=>hk it ?E o e,by cases β<;>(let{o,e,r}:=st.2;exact{o,hk l ?E o e,r})}
 item:=λi s Q E hi st hQ=>by
  refine Wj st.1 st.2 (x:=items[i]) ?E λh' YX Zq=>?_
  exact hQ _ h' s.toks ?E {YX,st.2.ext Zq.extBut WR} Zq
 done:=λs Q E st hE=>OX hh st.1 st.2 ?E hE
set_option maxHeartbeats 1000000 in
def NR(l:Tl)(items:UF SZ)(n:Nat)(Vu:SL Tl)(sl:UF (SL SZ)) :
  Meets (Builtin.«enumerate.__new__» {[.type "enumerate",.ref l],[]}) (λ_ R s=>s.heap.get? l=some { cls:=.type "tuple",dict:=Vu,data:=.seq items n,slots:=sl } /\
   R (.ok<|.ret<|.ref (s.heap.push { cls:=.type "tuple_iterator",data:=.fields #[.ref l,.int 0 0] }).objs.size)
    { s with heap:=(s.heap.push { cls:=.type "tuple_iterator",data:=.fields #[.ref l,.int 0 0] }).push { cls:=.type "enumerate",data:=.fields #[.none,.bool false,.ref s.heap.objs.size,rawInt 0,.none,.none] } }) :=
 .of_wp λprog w A R s h=>by
  let{hp,g,d,tk,os}:=s;let{hl,h}:=h;have zba:=sub_enumerate;have hL:Heap.IsTuple (Shared.heap {hp,g,d,tk,os}) l items:={_,hl,rfl,n,rfl}
  wp_walk using wpAny_loadPart' hl
  refine wpAny_stack_any λst=>l_ ?_
  split
  ·rename_i c _ _ _ _ _
   cases (c==Value.type "enumerate")
   ·wp_walk using wpAny_loadPart' hl,re hL
    exact{_,rfl,h}
   ·wp_walk using wpAny_loadPart' hl,re hL
    exact{_,rfl,h}
  ·wp_walk using wpAny_loadPart' hl,re hL
   exact{_,rfl,h}
section
variable {prog:TD}{w:TW}{A:UV}{E:t_}{s:Tk}
def Nh{l:Tl}{items:UF SZ}{Q:t_}(hL:s.heap.IsTuple l items)
  (h:∀h',IsEnum h' ?jy s.heap.objs.size 0 .none->h'.IsTupleIter s.heap.objs.size l 0->h'.objs.size=s.heap.objs.size+2 ->
   (∀b o,s.heap.get? b=some o->h'.get? b=some o)->Q (.ref ?jy) { s with heap:=h' }) :
  wpAny ?D A (call (.type "enumerate") [.ref l]) Q E s:=by
 let{{c,Vu,dt,sl},hl,hc,n,hd}:=hL;subst hc hd;refine callType_new F.called_enumerate ?C (F.typeCall_enumerate_1 _) (F.newCall_enumerate_1 _) (λobj=>F.args_object_init_2 obj _) F.entry_enumerate_new
  (NR l items n Vu sl) {hl,?_}
 have hz:(s.heap.push { cls:=.type "tuple_iterator",data:=.fields #[.ref l,.int 0 0] }).objs.size=s.heap.objs.size+1:=wo ..;rw[hz]
 have he:IsEnum ((s.heap.push { cls:=.type "tuple_iterator",data:=.fields #[.ref l,.int 0 0] }).push
   { cls:=.type "enumerate",data:=.fields #[.none,.bool false,.ref s.heap.objs.size,rawInt 0,.none,.none] }) ?jy s.heap.objs.size 0 .none:=by
  have:=cN (s.heap.push { cls:=.type "tuple_iterator",data:=.fields #[.ref l,.int 0 0] })
   (o:={ cls:=.type "enumerate",data:=.fields #[.none,.bool false,.ref s.heap.objs.size,rawInt 0,.none,.none] }) rfl
  grind
 refine{{_,he,rfl},h _ he {_,v_ _<|cN _ rfl,rfl,rfl} (by rw[wo,hz]) λb o x=>v_ _<|v_ _ x}
def Ag{β:Bool}{l:Tl}{items:UF SZ}{Q:t_}(hL:Xj β s.heap l items)
  (h:∀h',IsEnum h' ?jy s.heap.objs.size 0 .none->Xi β h' s.heap.objs.size l 0->h'.objs.size=s.heap.objs.size+2 ->
   (∀b o,s.heap.get? b=some o->h'.get? b=some o)->Q (.ref ?jy) { s with heap:=h' }) :
  wpAny ?D A (call (.type "enumerate") [.ref l]) Q E s:=by
 cases β
 ·exact Nh hL h
 ·exact call_enumerate_list hL h
end
end PySem
namespace L3
open PySem PySem.Spec PyProof.Rows L2 L4
variable {β:Bool}
noncomputable def Ite(K:Fg)(β:Bool)(a:Tl):It :=
 {λi H=>∃xs x,eP K β H a xs/\xs[i]? = some x,λi H y H'=>∃p x,(∀xs,eP K β H a xs->xs[i]? = some x)/\H p=none/\y=.ref p/\H'=upd H p (.tup [.int i,x]),λi H=>∃xs,eP K β H a xs/\xs.length<=i}
def Gi{X:Cx}{pins:w_}{Z:L2.St}{H:Hp}{s:Tk}{e it:Tl}{i:Nat}{x:V}{x':SZ}{tk:Nat}{h2:Wp}(I:Inv X pins Z H s)(fe:mZ X pins H e)(ft:mZ X pins H it)(ru:RelV x x')
  (Rz:∀b o,b≠e->b≠it->s.heap.get? b=some o->h2.get? b=some o) (U1:h2.get? s.heap.objs.size=some { cls:=.type "tuple",data:=.seq #[.int i tk,x'] }) :
  Inv X pins Z (upd H s.heap.objs.size<|.tup [.int i,x]) { s with heap:=h2,toks:=tk+1 }:=by
 refine Iz (ch:=[e,it]) I (λc hc=>?_) ({tk,rfl}) ru (λb o UU q=>Rz b o (λz=>UU (by rw[z];exact da)) (λz=>UU (by rw[z];exact xO _ da)) q) U1
 grind
def Cq{P:TD}{w:TW}{K:Fg}{elts:Re Uf}{x1:Nat}{pos:Pos}(a it e:Tl)(hai:a≠it)(hei:e≠it)(hea:e≠a) :
  Turn P w K (.Tuple elts x1 pos) (Ite K β a) [e,it] e (λi h=>(∃old,IsEnum h e it i old)/\Xi β h it a i) where
 mem:=by simp
 obj:=λi h st b hb=>by
  let{{old,he},st}:=st;let{o,e1,d}:=st.obj;let rfl||hb:=List.mem_cons.mp hb
  ·exact{_,he,λv z=>nomatch z}
  ·rw[List.mem_singleton.mp hb];exact{o,e1,λv z=>by rw[d]at z;cases z}
 keep:=λi h h' st k=>by
  let{{old,he},ht}:=st;exact{{old,k e ?E _ he},ht.at λo e=>k it ?E o e}
 item:=by
  intro X hP hw hK hc i pins s Z H E I hf st hg;subst hP hw hK;let{xs,x,hq,hx}:=hg;let{i_,rv,p,hz,SW}:=Mq I hq;let{u,hu,ru}:=rv.get hx;let{{old,he},ht}:=st;have D:=Do (β:=β) (prog:=X.prog) (w:=X.w) (A:=X.A.in1) (I.ok.hd hc) it a hai i_.toArray;have hi:i<i_.toArray.size:=by grind
  have fe:=hf e ?E;have ft:=hf it ?E;refine wpAny_pyNext_enum_itemD D he {ht,(p)} hi hei (by simp[hei,hea]) λx' h' tk hP ho Zq hT hsz hk=>?_
  have ex:x'=u:=by
   grind
  subst ex;refine{_,rfl,wpAny_letOwnedTupleGo_enum ho λh2 Zu sb2=>?_};have hpe:=wE<|bj he;have hpi:s.heap.objs.size≠it:=by let{o,e1,_}:=ht.obj;exact wE<|bj e1
  have Rz:=λb o h1 h2' q=>(sb2.2 b h1).trans<|hk b o h1 h2' q
  have U1:=(sb2.2 _ hpe).trans hT;have I1:=Gi I fe ft ru Rz U1;refine{.ref s.heap.objs.size,_,I1,rfl,{_,x,λys hy=>by rw[SW _ hy];exact hx,I.fresh,rfl,rfl},{{_,(Zu)},?_},λb hb=>?_}
  ·exact Zq.1.at λo e1=>(sb2.2 it<|Ne.symm hei).trans e1
  ·let rfl||hb:=List.mem_cons.mp hb
   ·rw[G_<|Ne.symm hpe];exact fe.1
   ·rw[List.mem_singleton.mp hb,G_<|Ne.symm hpi];exact ft.1
 done:=by
  intro X hP hw hK hc i pins s Z H E I hf st hg;subst hP hw hK;let{xs,hq,hx}:=hg;let{i_,rv,p,hz,SW}:=Mq I hq;let{{old,he},ht}:=st;let{g0,g1,g2,g3,g4,g5}:=hf it ?E;have hl:=rv.length;have hT:s.TypeIs (.ref e) "enumerate":={_,he,rfl}
  refine f_<|zM<|mo  hT F.slot_enumerate_next
   <|pd F.slot_enumerate_next hT F.entry_enumerate_next ?_<|F.args_enumerate_next_1 _
  show wpAny _ _ (field (.ref e) 2 >>= _) _ _ _;refine f_<|kw he rfl  rfl ?_;refine f_<|OX (I.ok.hd hc) ht p ?jd λh' x he' R0=>?_;let{o,ho,Vh}:=R0;refine f_<|nA   {o,ho,Vh} isSubtype_stop ?_;exact l_ {rfl,I.turned  (λb o hb e=>he' b o hb e) g0 g1 g3 g4 g5}
 self:=λ_ _ _ _ _ st h=>by
  let{{old,he},ht}:=st;exact wpAny_pyIter_enum he h
def jr(ds:Re D):Re D:=ds.zipIdx.map λp=>PyData.tuple [.int (p.2:Int),p.1]
def BP(ds:Re D):(jr ds).length=ds.length:=by simp[jr]
def Jr{K:Fg}{F:Hp}{a:Tl}{vs:Re V}{ds:Re D}(h:eP K β F a vs)(r:h_ K F vs ds):Walk K (Ite K β a) (jr ds) F where
 go:=λi G F2 Z H2 ρ s S hi=>by
  have V7:i<vs.length:=by rw[r.length];rw[BP]at hi;exact hi
  exact{vs,vs[i],KN S.fh<|KN s h,by simp }
 VM:=λi G F2 Z H2 ρ x H3 d s S hd ⟨p,y,hy,hp,hx,hH⟩=>by
  unfold jr at hd
  cases q:ds[i]? with
  | none=>grind
  | some d' =>
   let{v,e1,e2}:=r.get q;have:=hy vs<|KN S.fh<|KN s h;let{s2,S2,r2}:=S.R_ hp<|h_.cons (Rep.int<|i)<|h_.cons (e2.mono s) h_.nil
   grind
 stop:=λG F2 Z H2 ρ s S=>{vs,KN S.fh<|KN s h,by rw[r.length,BP];exact ai _}
def qm(K:Fg)(β:Bool)(tl:TA):TI:=λZ H R=>tl Z H λxs H1=>∃a,xs=[.ref a]/\(∃ys,eP K β H1 a ys)/\R (Ite K β a) H1
def Hw{X:Cx}{e:Uf}{tl:TA}{elts:Re Uf}{x1:Nat}{tp p pos:Pos}(hg:uf X "enumerate")(hm:X.mg "enumerate"=none)(ha:sY X [e] tl)(hs:starEach [e] X.env=[?N]) :
  jQ X (.Tuple elts x1 tp) (.Call (.Name "enumerate" p) [e] [] pos) (qm X.K β tl):=by
 intro pins s Z H R I h;refine xz<|Go I hg hm (show bootBuiltins "enumerate"=some (.type "enumerate") by decide +kernel) ?_ ?C ?C;refine ny (Db ?jU λus s1 ⟨vs,H1,I1,r1,q1⟩=>?_) hs rfl;let{a,rfl,{ys,hq},q}:=q1;let{u,rfl,ru}:=L2.Vals.one r1
 cases ru
 let{i_,rv,pt,hz,_}:=Mq I1 hq;have alt:a<s1.heap.objs.size:=by cases β<;>(let{o,e1,_}:=pt;exact bj e1)
 refine Ag pt λh' he ht hsz hk=>?_
 refine wpAny_pyIter_enum  he ?_;refine{s1.heap.objs.size+1,[s1.heap.objs.size+1,s1.heap.objs.size],_,_,H1,rfl,I1.kept  hk,Cq a s1.heap.objs.size (s1.heap.objs.size+1) (eh alt) (Nat.succ_ne_self _)<|wE<|n_ alt,{{_,he},ht},λb hb=>?_,q};let rfl||hb:=List.mem_cons.mp hb
 ·exact I1.Sy (Nat.le_succ _)<|I1.j_.fresh<|Nat.le_succ _
 ·rw[List.mem_singleton.mp hb];exact I1.Sy ?ji ?jQ
end L3
namespace L4
open PySem PySem.Spec PyProof.Rows L2 L3
variable {X:Cx}{F H:Hp}{pos:Pos}{Z:L2.St}{ρ:En}{p:Tl}{o:HO}
def sU:Bool->Re D->SL ?R
 | false,[.tuple ds]=>some<|jr ds
 | true,[.list ds]=>some<|jr ds
 | _,_=>none
abbrev qa:=sU false
abbrev zW:=sU true
section
variable {tg e:Uf} {p tp:Pos} {elts:Re Uf} {x1:Nat}
def IC{β:Bool}{vs:Re V}{ds out:Re D}{R:It->Hp->Prop}(s:c_ F H)(r:h_ X.K F vs ds)(h:sU β ds=some out)(k:∀J,Walk X.K J out F->R J H) :
  ∃a,vs=[.ref a]/\(∃ys,eP X.K β H a ys)/\R (Ite X.K β a) H:=by
 unfold sU at h;split at h
 ·cases h
  let{v,rfl,r1}:=r.Tf;let{a,vs,rfl,a1,a2}:=r1.Q9;exact{_,rfl,{_,A_.of<|s _ _ a1},k _<|Jr (β:=false) (A_.of a1) a2}
 ·cases h
  let{v,rfl,r1}:=r.Tf;let{a,vs,rfl,a1,a2}:=r1.lst_inv;exact{_,rfl,{_,s.seq a1},k _<|Jr (β:=true) a1 a2}
 ·cases h
def Ju(β:Bool){ps:Pa ?R}(hg:uf X "enumerate")(hm:X.mg "enumerate"=none)(ha:jl X [e] ps)(hs:starEach [e] X.env=[?N]):bf X (.Tuple elts x1 tp) (.Call (.Name "enumerate" p) [e] [] pos) (gx (sU β) ps) :=
 λG F Z H ρ R S w=>Cz (Hw (β:=β) hg hm Pm hs) (ha G F Z H ρ _ _ _ S w λds vs F1 H1 s1 S1 _ r1 w1=>by
  let{out,hd,k}:=w1.opt
  exact IC S1.fh r1 hd<|k F1 H1 ?J S1)
def MV{ps:Pa ?R}(hg:uf X "enumerate")(hm:X.mg "enumerate"=none)(ha:jl X [e] ps)(hs:starEach [e] X.env=[?N]):bf X (.Tuple elts x1 tp) (.Call (.Name "enumerate" p) [e] [] pos) (gx qa ps):=Ju false hg hm ha hs
def GL{ps:Pa ?R}(hg:uf X "enumerate")(hm:X.mg "enumerate"=none)(ha:jl X [e] ps)(hs:starEach [e] X.env=[?N]):bf X (.Tuple elts x1 tp) (.Call (.Name "enumerate" p) [e] [] pos) (gx zW ps):=Ju true hg hm ha hs
end
def Gh.add(G:Gh)(p:Tl)(o:HO):Gh:={ G with O:=upd G.O p o }
theorem _root_.L3.b_.hold{K:Fg}{G:Gh}(S:b_ K G F Z H ρ)(hp:H p=some o)(fp:F p=none)(ne:∀(i:Nat) (e:OC),own ρ i e->Z[i]? ≠ some (some<|V.ref p))(nt:dI o:=by exact True.intro):b_ K (Gh.add G p o) F Z H ρ:=by
 refine{S.fh,λb u e=>?_,λb u e=>?_,S.ln,S.fz,λi c h=>?_,S.dj,S.pp,S.pq,S.fb}
 ·by_cases hb:b=p
  ·subst hb;rw[show(Gh.add G b o).O b=some o from UQ]at e
   cases e;exact hp
  ·rw[show(Gh.add G p o).O b=G.O b from G_ hb]at e;exact S.oh b u e
 ·by_cases hb:b=p
  ·subst hb;rw[show(Gh.add G b o).O b=some o from UQ]at e
   grind
  ·rw[show(Gh.add G p o).O b=G.O b from G_ hb]at e;exact S.fo b u e
 ·let{a,e,oa}:=S.ow i c h;refine{a,e,oa.nf,?_,oa.he};have:a≠p:=λz=>ne i c h (by rw[e,z])
  exact((G_ this)).trans oa.no
def _root_.L3.b_.Uk{K:Fg}{G:Gh}(hn:G.O p=none)(S:b_ K (Gh.add G p o) F Z H ρ) :
  b_ K G F Z H ρ/\H p=some o/\F p=none/\∀(i:Nat) (e:OC),own ρ i e->Z[i]? ≠ some (some<|V.ref p):=by
 have zaI:(Gh.add G p o).O p=some o:=UQ;have MW:∀b,b≠p->(Gh.add G p o).O b=G.O b:=λb hb=>G_ hb
 have nb:∀b u,G.O b=some u->b≠p:=λb u e z=>by rw[z,hn]at e;cases e
 refine{{S.fh,λb u e=>S.oh b u<|(MW b<|nb b u e).trans e,λb u e=>S.fo b u<|(MW b<|nb b u e).trans e,S.ln,S.fz,λi c h=>?_,S.dj,S.pp,S.pq,S.fb},S.oh p o zaI,(S.fo p o zaI).1,λi c h e=>?_}
 ·grind
 grind
theorem W.held{G:Gh}{α:Type}{m:M α}{C:α->Hp->Hp->Prop}(hn:G.O p=none)(h:W X G F Z ρ m C) :
  W X (Gh.add G p o) F Z ρ m λa F' H'=>C a F' H':=by
 cases m with
 | ret a=>exact λF2 H2 s2 S2=>h F2 H2 s2 (S2.Uk hn).1
 | exc x =>
  have nb:∀b u,G.O b=some u->b≠p:=λb u e z=>by rw[z,hn]at e;cases e
  have MW:∀b u,G.O b=some u->(Gh.add G p o).O b=some u:=λb u e=>((G_<|nb b u e)).trans e
  exact λF' H' s' a C dd pins Z g fz I xs hp xr=>h F' H' s' a C dd pins Z {g.fh,λb u e=>g.oh b u<|MW b u e,λb u e=>g.fo b u<|MW b u e,g.fb} fz I xs hp xr
 | bad=>exact h
def qt(pa:Pu ?R)(pb:Pu D):Pu ?R:=λρ=>bd (pa ρ) λds=>bd (pb ρ) λy=>oM<|rZ (.list ds) y
def Mc{a b:Uf}{pa:Pu ?R}{pb:Pu D}(ha:u4 X a pa)(hb:zN X b pb):u4 X (.BinOp a .Mult b pos) (qt pa pb) :=
 λG F Z H ρ Q S w=>RD (EQ KU Mz Mz) (ha G F Z H ρ _ S (w.bind.imp λds F1 H1 s1 S1 w1 v fr=>by
  let{p,rfl,oa,ne}:=fr;let{vs,h1,h2}:=oa.he;have S1':=S1.hold h1 oa.nf ne;refine hb (Gh.add G p<|.lst vs) F1 Z H1 ρ _ S1'<|(W.held oa.no w1.bind).imp λy F2 H2 s2 S2 w2 u hu=>?_;let{S2',g1,g2,g3}:=S2.Uk oa.no;let{res,e,kk}:=w2.opt
  cases y<;>try (cases e)
  rename_i k';dsimp only[rZ]at e;split at e
  case isFalse=>cases e
  rename_i hc
  cases e
  simp  [am,aQ]at hc;have hi:=(hu.or S2).int;subst hi;refine{p,k',vs,rfl,rfl,g1,hc.1.1,hc.1.2,by rw[h2.length];exact hc.2,λq hq=>?_};let{S3,r3}:=S2'.M_ hq<|h_.rep (h2.mono s2) k'.toNat
  exact kk F2 _ ?J S3 _ r3))
def FU:dW X mL:=by
 intro pins s Z H x y v u Q I rx ry h;let{p,xs,i,z,rfl,rfl,hq,he,q}:=h
 cases rx
 let{t,rfl}:=ry;let{i_,r,pl,hz}:=I.list<|Ro.of hq;let{j,h1,h2,h3,h4,h5}:=QA he;let{w,ew,TX}:=r.get h2;have hl:=r.length;have hn:=Qd;have fin:uN X pins Z Q w s:={z,H,I,TX,q};by_cases h0:0<=i
 ·have hj:i.toNat=j:=by
   rw[seqIndex_of h0 h5]at h1
   grind
  exact wpAny_getItem_list pl.isList h0 ?A ?jc fin
 ·have hj:(i+(i_.toArray.size)).toNat=j:=by
   rw[seqIndex_neg ?A h4]at h1
   grind
  exact wpAny_getItem_list_neg pl.isList ?A ?jc ?A ?jc fin
section
variable {S:Type} {b e:Uf} {mj me:Ev S D} {pos' L_:Pos}
def Kt{i:Nat}{x:Str}{op:Operator}{t:Zd}{f:D->D->SL D}(hN:X.N[i]? = some x)(hv:Vx X.env.scope x)(ho:PIp X op t)(hf:ipD f X.K t)(hj:dL X b mj)(he:dL X e me)
  (ha:∀ov iv new,augStore b ov iv new=(do holding [new,ov,iv] (setItem ov iv new);release [new,ov,iv] [];pure .next))
  (hd:(x==("__debug__" : Str))=false:=by decide) (RB:(x==("__classdict__" : Str))=false:=by decide):wG X (.AugAssign (.Subscript (.Name x pos') b L_) op e pos) (ym i f mj me):=λOK K G F Z H ρ E hO hX St ok eo =>
 E3 (Hs ?jZ Mz FU Mz ho set_list ha) (by
  unfold ym at ok;split at ok
  case h_2=>exact(hO ok).elim
  rename_i ds0 hd0;let{a,Zk,ea,_,_}:=TY St hd0;refine{_,ea,hj OK K.x _ G F Z H ρ _ hO hX St ok λj u F1 H1 ρ1 s1 S1 r1 o1=>?_};split at o1
  case h_2=>exact(hO o1).elim
  rename_i ds UT;let{a',vs,Rf,hh,rv}:=TY S1 UT;rw[ea]at Rf;injection Rf with Rf;injection Rf with Rf;injection Rf with Rf;subst Rf;let{dx,hx,o2}:=OT hO o1;have hint:∃k,j=.int k:=by
   cases j<;>first|exact{_,rfl}|cases hx
  let{k,rfl}:=hint
  cases r1
  let{v,ev,rvv}:=MS rv<|(hx);refine{a,vs,k,v,rfl,rfl,hh,ev,?_};refine he OK K.x _ G F1 Z H1 ρ1 _ hO hX S1 o2 λd w F2 H2 ρ2 s2 S2 r2 o3=>?_
  let{r,er,o4}:=OT hO o3;refine hf v w dx d r F2 H2 _ (rvv.mono s2) r2 er λz rz=>?_
  split at o4
  case h_2=>exact(hO o4).elim
  rename_i ds2 zaA;let{a2,vs2,ZH,hh2,ZY}:=TY S2 zaA;rw[ea]at ZH;injection ZH with ZH;injection ZH with ZH;injection ZH with ZH;subst ZH;let{WA,hp,o5}:=OT hO o4;let{q,hq,rfl}:=Option.map_eq_some_iff.mp hp;refine{a,vs2,k,q,rfl,rfl,hh2,by rw[ZY.length];exact hq,?_}
  exact eo.nx F2 Z _ _ ?jo (Ui S2 zaA ea<|h_.set rz q ZY) o5)
end
end L4
namespace HT
open PySem PySem.Spec PyProof.Rows
section
variable {prog:TD}{w:TW}{A:UV}{E:t_}{s:Tk}{xs:UF (Int×Tok)}{l:Tl}
def VS{Q:t_}(hh:A.handled=none)(hl:s.heap.IsTuple l (intItems xs))(Vg:∀j,j<xs.size->InLong (numAt xs j)/\InLong (preSum (numAt xs) ?qI))
  (h:∀h' tk t',(∀b o,s.heap.get? b=some o->h'.get? b=some o)->Q (.int (preSum (numAt xs) xs.size) t') { s with heap:=h',toks:=tk }) :
  wpAny ?D A (call (.builtin "sum") [.ref l]) Q E s:=by
 have r_:l<s.heap.objs.size:=by let{_,e,_}:=hl;exact bj e
 refine call_sum_walk<|re hl ?_;refine{_,_,_,_,_,_,numAt xs,rfl,Walks.tuple (A:=A.in1) hh _ l (eh r_)<|intItems xs,{{_,cN _ rfl,rfl,rfl},?_},λb hb=>?_,(λ_ _=>intItems_at),(λj hj=>Vg j (by simpa[intItems]using hj)),λh' tk t' hk=>?_}
 ·let{o,e,r}:=hl;exact{o,v_ _ e,r}
 ·rw[wo]
  grind
 ·have:=h h' tk t' λb o e=>hk b o (λhm=>by
   let e1||hm:=List.mem_cons.mp hm
   ·exact absurd (e1▸bj e)<|nu _
   ·cases hm)<|v_ _ e
  simpa[intItems]using this
end
end HT
namespace L4
open PySem PySem.Spec PyProof.Rows L2 L3
variable {X:Cx}
def e6:Re D->SL D
 | [.tuple ds]=>match intsOf ds with
  | some ns=>if rj ns then some (.int ns.sum)else none
  | none=>none
 | l=>bF l
def oz:Re D->SL D
 | [.tuple ds]=>sN [.tuple ds]
 | l=>aG l
def Du(hc:X.calm=true):k_ X (.builtin "sum") (rN X.K wz):=by
 intro pins s Z H xs us Q I r h0;let{a,ns,i,rfl,hq,e,q}:=h0;let{u,rfl,ru}:=L2.Vals.one r
 cases ru
 unfold wz at e;split at e
 case isFalse=>cases e
 rename_i j_
 cases e
 let{i_,rv,pl,hz}:=I.tuple hq;let{ps,rfl,rfl}:=AW rv;have zae:∀j,numAt ps.toArray j=(ps.map Prod.fst).getD j 0:=λj=>AB
 have XX:=funext zae;unfold rj at j_;simp![am,su,aQ]at j_;have hl:s.heap.IsTuple a (intItems ps.toArray):=by
  have:s.heap.IsTuple a _:=pl;unfold intItems;simpa using this
 have bnd:∀j,j<=ps.length->((ps.map Prod.fst).take j).sum.natAbs<=2^60:=λj hj=>by
  have h1:=sum_bound (2^40) ((ps.map Prod.fst).take j) λi hi=>j_.1 i<|List.mem_of_mem_take hi
  grind
 refine HT.VS (I.ok.hd hc) hl (λj hj=>?_) λh' tk t' hk=>?_
 ·have Xa:j<ps.length:=(hj);rw[XX,AA _ _ ?jd];have h2:((ps.map Prod.fst).getD j 0).natAbs<=2^40:=by
   grind
  unfold InLong
  grind
 ·refine{.int _,H,I.kept hk,{_,rfl},?_};rw[XX,AA _ _ ?E,se ?E];exact q
def ux(K:Fg):Re V->Hp->VK->Prop:=λxs H Q=>rN K wz xs H Q\/pT K wz xs H Q
def ID(hc:X.calm=true):k_ X (.builtin "sum") (ux X.K):=k_.or (Du hc)<|Dv hc
def yQ(K:Fg):Re V->Hp->VK->Prop:=λxs H Q=>rN K eK xs H Q\/(pT K eK xs H Q\/∃i j,xs=[.int i,.int j]/\Q (.int<|if j>i then j else i) H)
def DD(hc:X.calm=true):k_ X (.builtin "max") (yQ X.K):=k_.or (DB hc)<|(DC hc).or<|DE hc
def BJ{K:Fg}:iB K (ux K) e6:=by
 intro G F Z H ρ xs ds res Q S o e k;unfold e6 at e;split at e
 ·split at e
  case h_2=>cases e
  rename_i ns W_;split at e
  case isFalse=>cases e
  rename_i hc
  cases e
  let{v,r,rfl,ho,hr}:=Ou o;obtain rfl:=PG hr;let{a,vs,rfl,h1,h2}:=ho.tuple S.fh;rw[NJ W_]at h2;rw[AT h2]at h1;exact .inl {a,ns,_,rfl,h1,by unfold wz;rw[ap hc],k _ F H ?J S<|(.int _)}
 ·exact .inr<|K4 G F Z H ρ xs ds res Q S o e k
def HM{K:Fg}:iB K (yQ K) oz:=by
 intro G F Z H ρ xs ds res Q S o e k;unfold oz at e;split at e
 ·exact .inl<|HL G F Z H ρ xs _ res Q S o e k
 ·exact .inr<|K7 G F Z H ρ xs ds res Q S o e k
theorem av(i:Nat){x:Str}{pos:Pos}(hN:X.N[i]? = some x:=by rfl)(hv:Vx X.env.scope x:=by exact Lz rfl)
  (hd:(x==("__debug__" : Str))=false:=by decide) (RB:(x==("__classdict__" : Str))=false:=by decide):lj X (.Name x pos) (zK i):=L9 hN hv hd RB
def SS(i:Nat){x:Str}{pos:Pos}(hN:X.N[i]? = some x:=by rfl)(hv:Vx X.env.scope x:=by exact Lz rfl)
  (hd:(x==("__debug__" : Str))=false:=by decide) (RB:(x==("__classdict__" : Str))=false:=by decide):zN X (.Name x pos) (zK i):=G7<|av i hN hv hd RB
def qQ:Re D->SL ?R
 | [.int j]=>if decide (0<=j)&&decide (j<=100000)then some (gZ 0 j.toNat)else none
 | _=>none
def wW:Re V->Hp->VK->Prop:=λxs H Q=>∃j,xs=[.int j]/\∀r,H r=none->Q (.ref r) (upd H r<|.YH 0 j)
def wU:Re V->Hp->VK->Prop:=λxs H Q=>∃r j,xs=[.ref r]/\H r=some (.YH 0 j)/\0<=j/\j<=100000/\∀l,H l=none->Q (.ref l) (upd H l<|.lst<|(List.range j.toNat).map λ(i:Nat)=>V.int (i:Int))
section
def Dw:k_ X (.type "range") wW:=by
 intro pins s Z H xs us Q I r h;let{j,rfl,k}:=h;let{u,rfl,ru}:=L2.Vals.one r;let{t,rfl}:=ru;refine call_range_1 {.ref s.heap.objs.size,_,I.laid (o:=.YH 0 j) (λb u e=>v_ _ e) ?ji {_,_,_,cN _ rfl},rfl,k _ ?jA}
def Ad(hh:X.A.handled=none):k_ X (.type "list") wU:=by
 intro pins s Z H xs us Q I r h;let{a,j,rfl,ha,j0,j1,k}:=h;let{u,rfl,ru}:=L2.Vals.one r
 cases ru
 let{t,u,v,hr}:=I.j_ a _ ha;have hs:Builtin.Range.rangeSize 0 j 1=(j.toNat):=by
  rw[rangeSize_one];split<;>lia
 refine call_list_range hh hr (small_one ?A ?A ?A ?A) hs ?A λh' tk acc c kp hl it=>?_
 refine{.ref s.heap.objs.size,_,I.laid (o:=.lst ((List.range j.toNat).map λ(i:Nat)=>V.int<|i)) kp ?ji {?_,acc.toList,c,?_,hl},rfl,k _ ?jA}
 ·rw[u_,jA,wH];lia
 ·have hl2:=(it.1);have go:∀(n b:Nat) (l:Re SZ),l.length=n->(∀i v,l[i]? = some v->∃t,v=Value.int ((b+i:Nat)) t)->Vals ((List.range' b n).map λ(i:Nat)=>V.int<|i) l:=by
   intro n
   induction n with
   | zero=>intro b l h _;cases l with
    | nil=>exact .nil
    | cons _ _=>cases h
   | succ n ih =>
    intro b l h g
    cases l with
    | nil=>cases h
    | cons x l =>
     refine .cons (g 0 x rfl)<|ih (b+1) l ?jl λi v q=>?_;let{t,e}:=g ?jx v<|(q)
     grind
  rw[List.range_eq_range'];refine go _ 0 _ hl2 λi v q=>?_
  let{t,e}:=it.2 i v (by simpa using q)
  grind
variable {a:Uf} {ps:Pa ?R} {p p2 pos Tt:Pos}
def Pj(hh:X.A.handled=none)(hg:uf X "list")(hm:X.mg "list"=none)(hg2:uf X "range")(Zr:X.mg "range"=none)(ha:jl X [a] ps)
  (he:starEach [a] X.env=[?j0]) (Zu:starEach [.Call (.Name "range" p2) [a] [] Tt] X.env=[(false,eval (.Call (.Name "range" p2) [a] [] Tt) X.env)]) :
  u4 X (.Call (.Name "list" p) [.Call (.Name "range" p2) [a] [] Tt] [] pos) (gx qQ ps) :=
 λG F Z H ρ Q S w=>RD (Qp (Ad hh) hg hm (rfl) (Qi (Qp Dw hg2 Zr boot_range Pm ?C ?C he rfl) Qh Zu) ?C ?C Zu rfl)
  (ha G F Z H ρ _ _ _ S w λds vs F1 H1 s1 S1 _ r1 w1=>by
   let{res,e,k}:=w1.opt;unfold qQ at e;split at e
   ·rename_i j;split at e
    ·rename_i hj
     cases e
     rw[am,aQ,aQ]at hj
     cases r1 with
     | cons ra rb =>
      cases rb
      cases ra
      refine{j,rfl,λr hr=>{r,j,rfl,UQ,hj.1,hj.2,λl hl=>?_}};have S2:=S1.lay (o:=.YH 0 j) hr;have rp:h_ X.K F1 ((List.range j.toNat).map λ(i:Nat)=>V.int<|i) (gZ 0 j.toNat):=by
       unfold gZ
       induction List.range j.toNat with
       | nil=>exact .nil
       | cons b l ih =>
        rw[aw,aw,Int.zero_add];exact .cons (.int _) ih
      let{S3,r3}:=S2.M_ hl rp;exact k F1 _ ?J S3 _ r3
    ·cases e
   ·cases e)
end
def EF{K:Fg}{F:Hp}:∀{vs:Re V} {ds:Re D},h_ K F vs ds->h_ K F vs.dropLast ds.dropLast
 | _,_,.nil=>.nil
 | _,_,.cons h .nil=>.nil
 | _,_,.cons h (.cons h2 t)=>by
  exact .cons h<|EF<|.cons h2 t
end L4
namespace TS
open PySem PyProof.Rows
variable {st:SortSt}{j n g p q z hi:Nat}{out xs a₀ ys X:UF Keyed}{T O B S:Re Keyed}{rk:SZ->Int}{prog:TD}{w:TW}{A:UV}{E:t_}{s:Tk}{κ:SortKind}{Q:SL Nat->SortSt->Prop}{vs:Re SZ}{x:Keyed}{o:Obj}
def kr(rk:SZ->Int)(xs:UF Keyed)(i:Nat):Int:=(xs[i]?.map λp=>rk p.1).getD 0
noncomputable def Sf(rk:SZ->Int)(xs:UF Keyed)(lo hi:Nat):Prop:=∀i j:Nat,lo<=i->i<=j->j<hi->kr rk xs i<=kr rk xs j
noncomputable def Yq(rk:SZ->Int)(xs:UF Keyed)(lo hi:Nat):Prop:=∀i j:Nat,lo<=i->i<=j->j<hi->kr rk xs j<=kr rk xs i
def fE(prog:TD)(w:TW)(A:UV)(s:Tk)(κ:SortKind)(rk:SZ->Int)(a₀:UF Keyed):Prop :=
 ∀x y,x∈a₀.toList->y∈a₀.toList->∀(E:t_) (Q:Bool->Tk->Prop),Q (decide<|rk x.1<rk y.1) s->wpAny ?D A (keyLt' κ x.1 y.1) Q E s
abbrev Runs:=UF ?jX
structure SB(κ:SortKind)(a₀:UF Keyed)(lo:Nat)(old:UF Keyed)(P:Runs)(st:SortSt):Prop where
 pm:(arrOf st).Perm a₀
 kd:kindOf st=κ
 fl:failedOf st=none
 kp:∀i,i<lo->?Q[i]? = old[i]?
 pe:pendingOf st=P
section
variable {old:UF Keyed} {lo:Nat} {P:Runs}
theorem SB.sz(h:SB κ a₀ lo old P st):(arrOf st).size=a₀.size:=h.pm.size_eq
theorem SB.to(h:SB κ a₀ lo old P st)(hp:xs.Perm ?Q)(hk:∀i,i<lo->xs[i]? = ?Q[i]?):SB κ a₀ lo old P (setArr st xs) :=
 {hp.trans h.pm,h.kd,h.fl,λi hi=>(hk i hi).trans<|h.kp i hi,h.pe}
theorem SB.mem(h:SB κ a₀ lo old P st){i:Nat}{p:Keyed}(e:?Q[i]? = some p):p∈a₀.toList :=
 (Array.perm_iff_toList_perm.mp h.pm).mem_iff.mp (by
  let{hl,e}:=Array.getElem?_eq_some_iff.mp e
  rw[<-e];simp)
def NC{i:Nat}{p:Keyed}(e:xs[i]? = some p):kr rk xs i=rk p.1:=by unfold kr;rw[e];rfl
def Rp{i:Nat}(e:xs[i]? = ys[j]?):kr rk xs i=kr rk ys j:=by unfold kr;rw[e]
def Rx{i:Nat}{p:Keyed}{Q:Keyed->SortSt->Prop}(e:xs[i]? = some p)(q:Q p st):wpS ?D A E s (elem' xs i) Q st:=by
 rw[elem'_eq,e];exact du q
def BO{y:Keyed}{Q:SL Bool->SortSt->Prop}(hC:fE prog w A s κ rk a₀)(hk:kindOf st=κ)(hx:x∈a₀.toList)(hy:y∈a₀.toList)(q:Q (some<|decide<|rk x.1<rk y.1) st) :
  wpS ?D A E s (lt' x y) Q st:=by
 rw[lt'_eq];refine cr<|wI ?_;rw[hk];refine cr<|wpS_lift<|zM<|hC x y hx hy _ _ {rfl,?_};exact du q
def Jt{i:Nat}{Q:SL Bool->SortSt->Prop}(hC:fE prog w A s κ rk a₀)(h:SB κ a₀ lo old P st)(hi:i<a₀.size)(hj:j<a₀.size)(q:Q (some<|decide<|kr rk ?Q i<kr rk ?Q j) st) :
  wpS ?D A E s (ltAt' i j) Q st:=by
 have e1:?Q[i]? = some (?Q[i]'(by rw[h.sz];exact hi)):=ay _;have e2:?Q[j]? = some (?Q[j]'(by rw[h.sz];exact hj)):=ay _;refine cr<|wI ?_;refine cr<|Rx e1<|cr<|Rx e2 ?_;refine BO hC h.kd (h.mem e1) (h.mem e2) ?_;rw[NC e1,NC e2]at q;exact q
def Jv{i:Nat}{Q:Unit->SortSt->Prop}(q:Q () (setArr st<|mirror ?Q i j<|(j - i) / 2)):wpS ?D A E s (reverseSlice' i j) Q st:=by
 exact mJ q
def Jw{i:Nat}(hj:j<=xs.size)(k:Nat):kr rk (mirror xs i j<|(j - i) / 2) k=if i<=k/\k<j then kr rk xs (i+j - 1 - k)else kr rk xs k:=by
 have e:=getElem?_mirror_all (i:=i) hj k;split
 ·rename_i c;rw[ap c]at e;exact Rp e
 ·rename_i c;rw[ba c]at e;exact Rp e
def Jk{i lo:Nat}(hj:j<=xs.size)(hl:lo<=i):∀k,k<lo->(mirror xs i j<|(j - i) / 2)[k]? = xs[k]?:=λk hk=>by
 rw[getElem?_mirror_all hj k,ba ?A]
def Nj{i:Nat}(hj:j<=xs.size)(e:∀k,i<=k->k<j->kr rk xs k=kr rk xs (j - 1))(k:Nat):kr rk (mirror xs i j<|(j - i) / 2) k=kr rk xs k:=by
 rw[Jw hj]
 grind
abbrev Asl:=SL (SL Nat)×Nat
abbrev Dsl:=SL (SL Nat)×Nat×Nat
def upW(lo a z:Nat):StateT SortSt Sem Asl:=forIn [a:z] ((none,a):Asl) λ_ c=>do
 match <-ltAt' (lo+c.snd) (lo+c.snd - 1)with
 | some b=>if b=true then pure (ForInStep.done (none,c.snd))else pure (ForInStep.yield (none,c.snd+1))
 | _=>pure (ForInStep.done (some none,c.snd))
def dB(lo n z:Nat):StateT SortSt Sem (SL Nat):=do
 reverseSlice' lo (lo+n)
 let c <-upW lo n z
 match c.fst with
 | some r=>pure r
 | none=>pure (some c.snd)
def dnW(lo n z:Nat):StateT SortSt Sem Dsl:=forIn [n:z] ((none,n,0):Dsl) λ_ c=>do
 match <-ltAt' (lo+c.snd.fst) (lo+c.snd.fst - 1)with
 | some b =>
  if b=true then
   if c.snd.snd>0 then do
    reverseSlice' (lo+c.snd.fst - (c.snd.snd+1)) (lo+c.snd.fst)
    pure (ForInStep.yield (none,c.snd.fst+1,0))
   else pure (ForInStep.yield (none,c.snd.fst+1,0))
  else do
   match <-ltAt' (lo+c.snd.fst - 1) (lo+c.snd.fst)with
   | some g=>if g=true then pure (ForInStep.done (none,c.snd.fst,c.snd.snd))else pure (ForInStep.yield (none,c.snd.fst+1,c.snd.snd+1))
   | _=>pure (ForInStep.done (some none,c.snd.fst,c.snd.snd))
 | _=>pure (ForInStep.done (some none,c.snd.fst,c.snd.snd))
def fX(lo n z:Nat):StateT SortSt Sem (SL Nat):=do
 liftM (rule "list.sort.descending-run")
 let c <-dnW lo (n+1) z
 match c.fst with
 | some r=>pure r
 | none =>
  if c.snd.snd>0 then do
   reverseSlice' (lo+c.snd.fst - (c.snd.snd+1)) (lo+c.snd.fst)
   dB lo c.snd.fst z
  else dB lo c.snd.fst z
def Kn(lo z:Nat):countRun' lo z=(do
  let c <-upW lo 1 z
  match c.fst with
  | some r=>pure r
  | none =>
   if(c.snd==z)=true then pure (some c.snd)
   else if c.snd>1 then do
    match <-ltAt' lo (lo+c.snd - 1)with
    | some b=>if b=true then pure (some c.snd)else do
      reverseSlice' lo (lo+c.snd)
      fX lo c.snd z
    | _=>pure none
   else fX lo c.snd z):=by
 rw[countRun'_eq];unfold fX dB dnW upW;dsimp only;have tl:∀(x:StateT SortSt Sem Asl),(x >>= λc3=>match c3.fst with|some r=>pure r|none=>pure<|some c3.snd:StateT SortSt Sem (SL Nat))=(x >>= λc3=>match c3.fst with|none=>pure<|some c3.snd|some r=>pure r):=λx=>by
  congr 1;funext c3;let{_||r3,n3}:=c3<;>rfl
 congr 1;funext c;let{_||r,n}:=c
 ·dsimp only;split
  ·rfl
  ·split
   ·congr 1;funext x
    cases x with
    | none=>rfl
    | some b =>
     dsimp only;split
     ·rfl
     ·congr 1;funext _;congr 1;funext _;congr 1;funext c2;let{_||r2,n2,q2}:=c2
      ·dsimp only;split
       ·congr 1;funext _;congr 1;funext _;congr 1;funext c3;let{_||r3,n3}:=c3<;>rfl
       ·congr 1;funext _;congr 1;funext c3;let{_||r3,n3}:=c3<;>rfl
      ·rfl
   ·congr 1;funext _;congr 1;funext c2;let{_||r2,n2,q2}:=c2
    ·dsimp only;split
     ·congr 1;funext _;congr 1;funext _;congr 1;funext c3;let{_||r3,n3}:=c3<;>rfl
     ·congr 1;funext _;congr 1;funext c3;let{_||r3,n3}:=c3<;>rfl
    ·rfl
 ·rfl
end
section
variable {old:UF Keyed} {lo:Nat} {P:Runs}
theorem Sf.snoc{lo m:Nat}(h:Sf rk xs lo (lo+m))(h1:1<=m)(q:¬ kr rk xs (lo+m)<kr rk xs (lo+m - 1)):Sf rk xs lo (lo+(m+1)):=λi j hi SW hj=>by
 by_cases c:j<lo+m
 ·exact h i j hi SW c
 ·by_cases c2:i=j
  ·subst c2;exact xA _
  ·have e:j=lo+m:=by lia
   subst e;have:=h i (lo+m - 1) hi ?A ?A;lia
def Ja{a:Nat}{Q:Asl->SortSt->Prop}(hC:fE prog w A s κ rk a₀)(hz:lo+z<=a₀.size)(h1:1<=a)(ha:a<=z)(h:SB κ a₀ lo old P st)(ho:Sf rk ?Q lo (lo+a))
  (q:∀n,a<=n->n<=z->Sf rk ?Q lo (lo+n)->(n=z\/kr rk ?Q (lo+n)<kr rk ?Q (lo+n - 1))->Q (none,n) st):wpS ?D A E s (upW lo a z) Q st:=by
 refine ua (I:=λx c st'=>st'=st/\c=(none,x)/\Sf rk ?Q lo (lo+x)) (λx c st' hx hxz I=>?_) (λc st' I=>?_) {rfl,rfl,ho}
 ·let{rfl,rfl,o}:=I;refine cr<|Jt hC h ?A ?A ?_;by_cases c:kr rk ?Y (lo+x)<kr rk ?Y (lo+x - 1)
  ·rw[be c];exact du<|q x hx ?A o<|.inr c
  ·rw[bi c];exact du {rfl,rfl,o.snoc ?A c}
 grind
noncomputable def Run(κ:SortKind)(rk:SZ->Int)(a₀ old:UF Keyed)(lo z:Nat)(P:Runs)(m:Nat)(st:SortSt):Prop:=SB κ a₀ lo old P st/\1<=m/\m<=z/\Sf rk ?Q lo (lo+m)
def Gj(hC:fE prog w A s κ rk a₀)(hz:lo+z<=a₀.size)(h1:1<=n)(hn:n<=z)(h:SB κ a₀ lo old P st)(ho:Yq rk ?Q lo (lo+n))
  (q:∀m st',Run κ rk a₀ old lo z P m st'->Q (some m) st'):wpS ?D A E s (dB lo n z) Q st:=by
 have hl:lo+n<=(arrOf st).size:=by rw[h.sz];lia
 have h':=h.to (mirror_perm ?Q lo (lo+n)<|(lo+n - lo) / 2)<|Jk hl ?ji;refine cr (Jv (cr (Ja hC hz h1 hn h' (λi j hi SW hj=>?_) λm m1 m2 o _=>du (q m _ {h',by lia,m2,o}))));rw[Jw hl,Jw hl,ap {hi,by lia},ap {by lia,hj}];exact ho _ _ ?A ?A ?A
theorem Yq.snoc{lo m:Nat}(h:Yq rk xs lo (lo+m))(h1:1<=m)(e:∀k,kr rk ys k=kr rk xs k)(q:kr rk xs (lo+m)<=kr rk xs (lo+m - 1)):Yq rk ys lo (lo+(m+1)):=λi j hi SW hj=>by
 rw[e,e];by_cases c:j<lo+m
 ·exact h i j hi SW c
 ·by_cases c2:i=j
  ·grind
  ·have e:j=lo+m:=by lia
   have:=h i (lo+m - 1) hi ?A ?A;lia
noncomputable def Flat(rk:SZ->Int)(xs:UF Keyed)(lo m q:Nat):Prop:=q+1<=m/\∀k,lo+m - (q+1)<=k->k<lo+m->kr rk xs k=kr rk xs (lo+m - 1)
def N3{Q:Dsl->SortSt->Prop}(hC:fE prog w A s κ rk a₀)(hz:lo+z<=a₀.size)(h1:1<=n)(hn:n<=z)(h:SB κ a₀ lo old P st)(ho:Yq rk ?Q lo (lo+n))
  (q:∀m r st',SB κ a₀ lo old P st'->n<=m->m<=z->Yq rk ?Y lo (lo+m)->Flat rk ?Y lo m r->Q (none,m,r) st'):wpS ?D A E s (dnW lo n z) Q st:=by
 refine ua (I:=λx c st'=>∃r,c=(none,x,r)/\SB κ a₀ lo old P st'/\Yq rk ?Y lo (lo+x)/\Flat rk ?Y lo x r) (λx c st' hx hxz I=>?_) (λc st' I=>?_) {0,rfl,h,ho,by lia,λk k1 k2=>by congr 1;lia}
 ·let{r,rfl,h',o,fl}:=I;have hl:lo+x<=(arrOf st').size:=by rw[h'.sz];lia
  refine cr<|Jt hC h' ?A ?A ?_;dsimp only;by_cases c:kr rk ?Y (lo+x)<kr rk ?Y (lo+x - 1)
  ·rw[be c];rw[ap rfl];split
   ·have hfl:=fl.2;have kp:=Nj  hl hfl;have fl1:=fl.1;refine cr (Jv (du {0,rfl,h'.to (mirror_perm _ _ _ _)<|Jk hl ?A,o.snoc ?A kp ?A,by lia,λk k1 k2=>by congr 1;lia}))
   ·exact du {0,rfl,h',o.snoc ?A ?T ?A,by lia,λk k1 k2=>by congr 1;lia}
  ·rw[bi c];refine cr<|Jt hC h' ?A ?A ?_;by_cases c2:kr rk ?Y (lo+x - 1)<kr rk ?Y (lo+x)
   ·rw[be c2];exact du<|q x r st' h' hx ?A o fl
   ·rw[bi c2];refine du {r+1,rfl,h',o.snoc ?A ?T ?A,by have:=fl.1;lia,λk k1 k2=>?_};have e:kr rk ?Y (lo+x)=kr rk ?Y (lo+x - 1):=by lia
    rw[show lo+(x+1) - 1=lo+x by lia,e];by_cases c3:k=lo+x
    ·rw[c3];exact e
    ·exact fl.2 k ?A ?A
 grind
def BI(hC:fE prog w A s κ rk a₀)(hz:lo+z<=a₀.size)(hn:n+1<=z)(h:SB κ a₀ lo old P st)(ho:Yq rk ?Q lo (lo+(n+1)))
  (q:∀m st',Run κ rk a₀ old lo z P m st'->Q (some m) st'):wpS ?D A E s (fX lo n z) Q st:=by
 refine cr<|wpS_lift<|nr {rfl,cr<|N3 hC hz ?A hn h ho λm r st' h' m1 m2 o fl=>?_};dsimp only;have hl:lo+m<=(arrOf st').size:=by rw[h'.sz];lia
 have fl1:=fl.1;split
 ·have kp:=Nj  hl fl.2;refine cr<|Jv<|Gj hC hz ?A m2 (h'.to (mirror_perm _ _ _ _)<|Jk hl ?A) (λi j hi SW hj=>?_) q;rw[kp,kp];exact o i j hi SW hj
 ·exact Gj hC hz ?A m2 h' o q
def Km(hC:fE prog w A s κ rk a₀)(hz:lo+z<=a₀.size)(h1:1<=z)(h:SB κ a₀ lo old P st)
  (q:∀m st',Run κ rk a₀ old lo z P m st'->Q (some m) st'):wpS ?D A E s (countRun' lo z) Q st:=by
 rw[Kn];refine cr (Ja hC hz (ai 1) h1 h (λi j hi SW hj=>by rw[show i=j by lia];exact xA _) λn n1 n2 o e=>?_);dsimp only;by_cases c:n=z
 ·rw[ap (by simpa using c)];exact du<|q n st {h,n1,n2,o}
 ·rw[ba (by simpa using c)];split
  ·refine cr<|Jt hC h ?A ?A ?_;by_cases c2:kr rk ?Q lo<kr rk ?Q (lo+n - 1)
   ·rw[be c2];exact du<|q n st {h,n1,n2,o}
   ·rw[bi c2];have hl:lo+n<=(arrOf st).size:=by rw[h.sz];lia
    have fl:∀k,lo<=k->k<lo+n->kr rk ?Q k=kr rk ?Q (lo+n - 1):=λk k1 k2=>by
     have a1:=o lo k ?ji k1 k2;have a2:=o k (lo+n - 1) k1 ?A ?A;lia
    have kp:=Nj  hl fl;have dd:Yq rk ?Q lo (lo+n):=λi j hi SW hj=>by rw[fl i hi ?A,fl j ?A hj];exact xA _
    exact cr<|Jv<|BI hC hz ?A (h.to (mirror_perm _ _ _ _)<|Jk hl ?ji) (dd.snoc n1 kp ?A) q
  ·have e1:n=1:=by lia
   subst e1;have dd:Yq rk ?Q lo (lo+1):=λi j hi SW hj=>by rw[show i=j by lia];exact xA _
   exact BI hC hz ?A h (dd.snoc ?ji ?T ?A) q
def FE{src d:Nat}(hs:src<xs.size)(hd:d<=src)(k:Nat):kr rk (bubble xs src d) k=if k=src - d then kr rk xs src else if src - d<k/\k<=src then kr rk xs (k - 1)else kr rk xs k:=by
 have e:=getElem?_bubble hs d hd k;split
 ·rename_i c;rw[ap c]at e;exact Rp e
 ·rename_i c;rw[ba c]at e;split
  ·rename_i c2;rw[ap c2]at e;exact Rp e
  ·rename_i c2;rw[ba c2]at e;exact Rp e
def LX{ok:Nat}{Q:Bool->SortSt->Prop}(hC:fE prog w A s κ rk a₀)(hn:lo+n<=a₀.size)(hk:ok<=n)(h:SB κ a₀ lo old P st)(ho:Sf rk ?Q lo (lo+ok))
  (q:∀st',SB κ a₀ lo old P st'->Sf rk ?Y lo (lo+n)->Q true st'):wpS ?D A E s (binarySort' lo n ok) Q st:=by
 rw[binarySort'_eq]
 refine cr<|i4 (ua (I:=λk c st'=>c=?qJ/\SB κ a₀ lo old P st'/\Sf rk ?Y lo (lo+min k n))
  (Q:=λc st'=>c=?qJ/\SB κ a₀ lo old P st'/\Sf rk ?Y lo (lo+n)) (λk c st' hk1 Yj I=>?_) (λc st' I=>?_) {rfl,h,λi j hi SW hj=>?_}) λc st' I=>?_
 ·let{rfl,h',o}:=I;rw[show min k n=k by lia]at o;have hs:lo+k<a₀.size:=by lia
  clear hn hk hk1 ho
  refine cr (i4 (ua (I:=λx c H_=>H_=st'/\∃l r,c=(none,l,r)/\l<=r/\r<=k/\r - l<=k - x /\
    (∀i,i<l->kr rk ?Y (lo+i)<=kr rk ?Y (lo+k))/\(∀i,r<=i->i<k->kr rk ?Y (lo+k)<kr rk ?Y (lo+i)))
   (Q:=λc H_=>H_=st'/\∃l r,c=(none,l,r)/\l<=k/\(∀i,i<l->kr rk ?Y (lo+i)<=kr rk ?Y (lo+k))/\(∀i,l<=i->i<k->kr rk ?Y (lo+k)<kr rk ?Y (lo+i)))
   (λx c H_ _ hx J=>?_) (λc H_ J=>?_) {rfl,0,k,rfl,by lia,by lia,by lia,λi hi=>by lia,λi i1 i2=>by lia}) λc H_ J=>?_)
  ·let{rfl,l,r,rfl,lr,rk',sz,b1,b2}:=J;dsimp only;by_cases c:l>=r
   ·rw[ap c];exact du {rfl,l,r,rfl,by lia,b1,λi i1 i2=>b2 i ?A i2}
   ·rw[ba c];generalize e:(l+r) / 2=m;have⟨m1,m2⟩:l<=m/\m<r:=by lia
    clear e;refine cr<|Jt hC h' ?A ?A ?_;clear hs Yj;by_cases c2:kr rk ?qQ (lo+k)<kr rk ?qQ (lo+m)
    ·rw[be c2];refine du {rfl,l,m,rfl,by lia,by lia,by lia,b1,λi i1 i2=>?_};have:=o (lo+m) (lo+i) ?A ?A ?A;lia
    ·rw[bi c2];refine du {rfl,m+1,r,rfl,by lia,by lia,by lia,λi i1=>?_,b2};have:=o (lo+i) (lo+m) ?A ?A ?A;lia
  ·let{rfl,l,r,rfl,lr,rk',sz,b1,b2}:=J;exact{rfl,l,r,rfl,by lia,b1,λi i1 i2=>b2 i ?A i2}
  ·let{rfl,l,r,rfl,lk,b1,b2}:=J;show wpS _ _ _ _ (moveDown' (lo+k) (lo+l) >>= λ_=>pure<|ForInStep.yield ?qJ) _ _;rw[moveDown'_eq];rw[<-h'.sz]at hs;have ed:lo+k - (lo+k - (lo+l))=lo+l:=by lia
   refine cr<|mJ<|du {rfl,h'.to (bubble_perm _ _ _) λi hi=>?_,λi j hi SW hj=>?_}
   ·rw[getElem?_bubble hs _ ?A,ba ?A,ba ?A]
   ·rw[show min (k+1) n=k+1 by lia]at hj;show kr rk (bubble ?qQ (lo+k)<|lo+k - (lo+l)) i<=kr rk (bubble ?qQ (lo+k)<|lo+k - (lo+l)) j;rw[FE hs ?A,FE hs ?A,ed];have t1:∀i,lo<=i->i<lo+l->kr rk ?qQ i<=kr rk ?qQ (lo+k):=λi i1 i2=>by
     have:=b1 (i - lo) ?A
     rwa [show lo+(i - lo)=i by lia]at this
    have t2:∀i,lo+l<=i->i<lo+k->kr rk ?qQ (lo+k)<kr rk ?qQ i:=λi i1 i2=>by
     have:=b2 (i - lo) ?A ?A
     rwa [show lo+(i - lo)=i by lia]at this
    split
    ·split
     ·exact xA _
     ·split
      ·exact Int.le_of_lt<|t2 _ ?A ?A
      ·lia
    ·split
     ·split
      ·lia
      ·split
       ·exact o _ _ ?A ?A ?A
       ·lia
     ·split
      ·exact t1 _ hi ?A
      ·split
       ·exact o _ _ ?A ?A ?A
       ·exact o _ _ ?A ?A ?A
 ·let{rfl,h',o}:=I;rw[show min (max (max ok 1) n) n=n by lia]at o;exact{rfl,h',o}
 ·by_cases c:ok=0
  ·rw[show i=j by lia];exact xA _
  ·exact ho i j hi SW ?A
 ·let{rfl,h',o}:=I;exact du<|q st' h' o
end
abbrev Tn:=StateT SortSt Sem
def gal(Yn:Nat->Tn (SL Bool))(n s_:Nat):Tn (SL Nat):=do
 let mut u:=0
 let mut o:=1
 let mut l:=0
 let mut h:=0
 let some b0 <-Yn s_|return none
 if b0 then
  let z:=n - s_
  for _ in [0:n] do
   if o>=z then break
   let some b <-Yn (s_+o)|return none
   if !b then break
   u:=o
   o:=2*o+1
  l:=s_+u+1
  h:=s_+min o z
 else
  let z:=s_+1
  for _ in [0:n] do
   if o>=z then break
   let some b <-Yn (s_ - o)|return none
   if b then break
   u:=o
   o:=2*o+1
  l:=s_+1 - min o z
  h:=s_ - u
 for _ in [0:n] do
  if l>=h then break
  let m:=l+(h - l) / 2
  let some b <-Yn m|return none
  if b then l:=m+1 else h:=m
 return some h
def gR:Bool->Keyed->UF Keyed->Nat->Nat->Nat->Tn (SL Nat):=sortPriv% PySem.Builtin.gallop
def Mx(left:Bool)(key:Keyed)(arr:UF Keyed)(base n s_:Nat):gR left key arr base n s_=gal (λi=>do
  let x <-elem' arr (base+i)
  if left then lt' x key else return (<-lt' key x).map (!·)) n s_:=rfl
section
def BA{Yn:Nat->Tn (SL Bool)}{B:Nat->Prop}[DecidablePred B]{Q:SL (SL Nat)×Nat×Nat->SortSt->Prop}{l h:Nat}
  (hb:∀i,i<n->∀Q:SL Bool->SortSt->Prop,Q (some<|decide<|B i) st->wpS ?D A E s (Yn i) Q st) (mono:∀i j,i<=j->j<n->B j->B i)
  (lh:l<=h) (hn:h<=n) (b1:∀i,i<l->B i) (b2:∀i,h<=i->i<n->¬ B i) (q:∀l k,k<=n->(∀i,i<k->B i)->(∀i,k<=i->i<n->¬ B i)->Q (none,l,k) st) :
  wpS ?D A E s (forIn [0:n] ((none,l,h):SL (SL Nat)×Nat×Nat) λ_ c =>
   if c.snd.fst>=c.snd.snd then pure (ForInStep.done (none,c.snd.fst,c.snd.snd))
   else do
    match <-Yn (c.snd.fst+(c.snd.snd - c.snd.fst) / 2)with
    | some b=>if b=true then pure (ForInStep.yield (none,c.snd.fst+(c.snd.snd - c.snd.fst) / 2+1,c.snd.snd))else pure (ForInStep.yield (none,c.snd.fst,c.snd.fst+(c.snd.snd - c.snd.fst) / 2))
    | _=>pure (ForInStep.done (some none,c.snd.fst,c.snd.snd))) Q st:=by
 refine ua (I:=λx c st'=>st'=st/\∃l h,c=(none,l,h)/\l<=h/\h<=n/\h - l<=n - x/\(∀i,i<l->B i)/\(∀i,h<=i->i<n->¬ B i)) (λx c st' _ hx I=>?_) (λc st' I=>?_) {rfl,l,h,rfl,lh,hn,by lia,b1,b2}
 ·let{rfl,l,h,rfl,lh,hn,sz,b1,b2}:=I;split
  ·exact du<|q l h hn (λi hi=>b1 i ?A) b2
  ·refine cr<|hb _ ?A _ ?_;by_cases d:B (l+(h - l) / 2)
   ·rw[be d];exact du {rfl,_,h,rfl,by lia,hn,by lia,λi hi=>mono i _ ?A ?A d,b2}
   ·rw[bi d];exact du {rfl,l,_,rfl,by lia,by lia,by lia,b1,λi i1 i2 e=>d<|mono _ i i1 i2 e}
 ·let{rfl,l,h,rfl,lh,hn,sz,b1,b2}:=I;exact q l h hn (λi hi=>b1 i ?A) b2
def FV{Yn:Nat->Tn (SL Bool)}{B:Nat->Prop}[DecidablePred B]{s_:Nat}
  (hb:∀i,i<n->∀Q:SL Bool->SortSt->Prop,Q (some<|decide<|B i) st->wpS ?D A E s (Yn i) Q st) (mono:∀i j,i<=j->j<n->B j->B i) (h0:s_<n)
  (q:∀k,k<=n->(∀i,i<k->B i)->(∀i,k<=i->i<n->¬ B i)->Q (some k) st):wpS ?D A E s (gal Yn n s_) Q st:=by
 unfold gal;dsimp only;refine cr<|hb s_ h0 _ ?_;by_cases d:B s_
 ·rw[be d]
  refine cr (i4 (ua (I:=λx c st'=>st'=st/\∃u o,c=(none,u,o)/\u<o/\x<o/\s_+u<n/\B (s_+u))
   (Q:=λc st'=>st'=st/\∃u o,c=(none,u,o)/\u<o/\s_+u<n/\B (s_+u)/\(s_+o<n->¬ B (s_+o))) (λx c st' _ hx I=>?_) (λc st' I=>?_) {rfl,0,1,rfl,by lia,by lia,h0,d}) λc st' I=>?_)
  ·let{rfl,u,o,rfl,uo,xo,un,bu}:=I;split
   ·exact du {rfl,u,o,rfl,uo,un,bu,λz=>by lia}
   ·refine cr<|hb _ ?A _ ?_;by_cases e:B (s_+o)
    ·rw[be e];exact du {rfl,o,2*o+1,rfl,by lia,by lia,by lia,e}
    ·rw[bi e];exact du {rfl,u,o,rfl,uo,un,bu,λ_=>e}
  ·let{rfl,u,o,rfl,uo,xo,un,bu}:=I;exact{rfl,u,o,rfl,uo,un,bu,λz=>by lia}
  ·let{rfl,u,o,rfl,uo,un,bu,bo}:=I;refine cr<|BA hb mono ?A ?A (λi hi=>mono i _ ?A un bu) (λi i1 i2 e=>?_) λl k k1 k2 k3=>du<|q k k1 k2 k3;by_cases z:s_+o<n
   ·exact bo z<|mono _ i ?A i2 e
   ·lia
 ·rw[bi d]
  refine cr (i4 (ua (I:=λx c st'=>st'=st/\∃u o,c=(none,u,o)/\u<o/\x<o/\u<=s_/\¬ B (s_ - u))
   (Q:=λc st'=>st'=st/\∃u o,c=(none,u,o)/\u<o/\u<=s_/\¬ B (s_ - u)/\(o<=s_->B (s_ - o))) (λx c st' _ hx I=>?_) (λc st' I=>?_) {rfl,0,1,rfl,by lia,by lia,by lia,d}) λc st' I=>?_)
  ·let{rfl,u,o,rfl,uo,xo,un,bu}:=I;split
   ·exact du {rfl,u,o,rfl,uo,un,bu,λz=>by lia}
   ·refine cr<|hb _ ?A _ ?_;by_cases e:B (s_ - o)
    ·rw[be e];exact du {rfl,u,o,rfl,uo,un,bu,λ_=>e}
    ·rw[bi e];exact du {rfl,o,2*o+1,rfl,by lia,by lia,by lia,e}
  ·let{rfl,u,o,rfl,uo,xo,un,bu}:=I;exact{rfl,u,o,rfl,uo,un,bu,λz=>by lia}
  ·let{rfl,u,o,rfl,uo,un,bu,bo}:=I;refine cr<|BA hb mono ?A ?A (λi hi=>?_) (λi i1 i2 e=>bu<|mono _ i i1 i2 e) λl k k1 k2 k3=>du<|q k k1 k2 k3;by_cases z:o<=s_
   ·exact mono i _ ?A ?A<|bo z
   ·lia
def Jl{key:Keyed}{arr:UF Keyed}{base s_:Nat}(hC:fE prog w A s κ rk a₀)(hk:kindOf st=κ)(hm:key∈a₀.toList)(hz:base+n<=arr.size)(ha:∀p∈arr.toList,p∈a₀.toList)
  (ho:Sf rk arr base (base+n)) (h0:s_<n) (q:∀k,k<=n->(∀i,i<k->kr rk arr (base+i)<rk key.1)->(∀i,k<=i->i<n->rk key.1<=kr rk arr (base+i))->Q (some k) st) :
  wpS ?D A E s (gR true key arr base n s_) Q st:=by
 rw[Mx];refine FV  (λi hi Q q=>?_) (λi j ij jn b=>?_) h0 λk k1 k2 k3=>q k k1 k2 λi i1 i2=>Int.not_lt.mp<|k3 i i1 i2
 ·have e:arr[base+i]? = some (arr[base+i]'(by lia)):=ay _;refine cr<|Rx e ?_;refine BO hC hk (ha _ ?E) hm ?_;rw[NC e]at q;exact q
 ·have:=ho (base+i) (base+j) ?A ?A ?A;lia
def E5{key:Keyed}{arr:UF Keyed}{base s_:Nat}(hC:fE prog w A s κ rk a₀)(hk:kindOf st=κ)(hm:key∈a₀.toList)(hz:base+n<=arr.size)(ha:∀p∈arr.toList,p∈a₀.toList)
  (ho:Sf rk arr base (base+n)) (h0:s_<n) (q:∀k,k<=n->(∀i,i<k->kr rk arr (base+i)<=rk key.1)->(∀i,k<=i->i<n->rk key.1<kr rk arr (base+i))->Q (some k) st) :
  wpS ?D A E s (gR false key arr base n s_) Q st:=by
 rw[Mx];refine FV  (λi hi Q q=>?_) (λi j ij jn b=>?_) h0 λk k1 k2 k3=>q k k1 (λi hi=>Int.not_lt.mp<|k2 i hi) λi i1 i2=>Classical.not_not.mp<|k3 i i1 i2
 ·have e:arr[base+i]? = some (arr[base+i]'(by lia)):=ay _;refine cr<|Rx e ?_;refine cr<|BO hC hk hm (ha _ ?E)<|du ?_;rw[NC e]at q;have e2:(some (decide (rk key.1<rk (arr[base+i]'(by lia)).1))).map (!·)=some (decide (¬ rk key.1<rk (arr[base+i]'(by lia)).1)):=by
   generalize rk (arr[base+i]'(by lia)).1=x;by_cases c:rk key.1<x
   ·rw[be c,bi λz=>z c];rfl
   ·rw[bi c,be c];rfl
  rw[e2];exact q
 ·have:=ho (base+i) (base+j) ?A ?A ?A;lia
end
def setG:Nat->Tn Unit:=sortPriv% PySem.Builtin.setMinGallop
def sk:UF Keyed->UF Keyed->Tn (UF Keyed):=sortPriv% PySem.Builtin.mergeLo
def sq:UF Keyed->UF Keyed->Tn (UF Keyed):=sortPriv% PySem.Builtin.mergeHi
abbrev W1:=SL (UF Keyed)×UF Keyed×Nat×Nat×Nat×Nat
abbrev W2:=SL (UF Keyed)×UF Keyed×Nat×Nat×Nat×Nat×Nat
abbrev W0:=SL (UF Keyed)×UF Keyed×Nat×Nat×Nat
section
variable (a b:UF Keyed)
def fA(out:UF Keyed)(i j:Nat):UF Keyed:=out++a.extract i a.size++b.extract j b.size
def fB(out:UF Keyed)(i j:Nat):UF Keyed:=out++b.extract j b.size++a.extract i a.size
def lS(g:Nat)(out:UF Keyed)(i j p q:Nat):Tn (ForInStep W1):=do
 let x <-elem' b j
 let y <-elem' a i
 match <-lt' x y with
 | some t =>
  if t=true then do
   let x <-elem' b j
   if(j+1==b.size)=true then pure (.done (some (fA a b (out.push x) i ?qI),out.push x,i,j+1,0,q+1))
   else if q+1>=g then pure (.done (none,out.push x,i,j+1,0,q+1))
   else pure (.yield (none,out.push x,i,j+1,0,q+1))
  else do
   let y <-elem' a i
   if(i+1+1==a.size)=true then pure (.done (some (fB a b (out.push y) ?jx j),out.push y,i+1,j,p+1,0))
   else if p+1>=g then pure (.done (none,out.push y,i+1,j,p+1,0))
   else pure (.yield (none,out.push y,i+1,j,p+1,0))
 | _=>pure (.done (some (fA a b out i j),out,i,j,p,q))
def l3(out:UF Keyed)(i j g p q:Nat):Tn (ForInStep W2):=do
 let y <-elem' a i
 if(i+1+1==a.size)=true then pure (.done (some (fB a b (out.push y) ?jx j),out.push y,i+1,j,g,p,q))
 else if(decide (p<7)&&decide (q<7))=true then pure (.done (none,out.push y,i+1,j,g,p,q))
 else pure (.yield (none,out.push y,i+1,j,g,p,q))
def l2(out:UF Keyed)(i j g p q:Nat):Tn (ForInStep W2):=do
 let y <-elem' a i
 match <-gR true y b j (b.size - j) 0 with
 | some k =>
  if k>0 then
   if(j+k==b.size)=true then pure (.done (some (fA a b (out++b.extract j (j+k)) i<|j+k),out++b.extract j (j+k),i,j+k,g,p,k))
   else l3 a b (out++b.extract j (j+k)) i (j+k) g p k
  else l3 a b out i j g p k
 | _=>pure (.done (some (fA a b out i j),out,i,j,g,p,q))
def l1(out:UF Keyed)(i j g p q:Nat):Tn (ForInStep W2):=do
 let x <-elem' b j
 if(j+1==b.size)=true then pure (.done (some (fA a b (out.push x) i ?qI),out.push x,i,j+1,g,p,q))
 else l2 a b (out.push x) i ?qI g p q
def l0(out:UF Keyed)(i j g p q:Nat):Tn (ForInStep W2):=do
 setG g
 let x <-elem' b j
 match <-gR false x a i (a.size - i) 0 with
 | some k =>
  if k>0 then
   if(i+k+1==a.size)=true then pure (.done (some (fB a b (out++a.extract i (i+k)) (i+k) j),out++a.extract i (i+k),i+k,j,g,k,q))
   else if(i+k==a.size)=true then pure (.done (some (fA a b (out++a.extract i (i+k)) (i+k) j),out++a.extract i (i+k),i+k,j,g,k,q))
   else l1 a b (out++a.extract i (i+k)) (i+k) j g k q
  else l1 a b out i j g k q
 | _=>pure (.done (some (fA a b out i j),out,i,j,g,p,q))
def lT(out:UF Keyed)(i j g:Nat):Tn (ForInStep W0):=do
 let c <-forIn [0:a.size+b.size] ((none,out,i,j,0,0):W1) λ_ c=>lS a b g c.2.1 c.2.2.1 c.2.2.2.1 c.2.2.2.2.1 c.2.2.2.2.2
 match c.1 with
 | some r=>pure (.done (some r,c.2.1,c.2.2.1,c.2.2.2.1,g))
 | none=>do
  liftM (rule "list.sort.gallop")
  let d <-forIn [0:a.size+b.size] ((none,c.2.1,c.2.2.1,c.2.2.2.1,g+1,c.2.2.2.2.1,c.2.2.2.2.2):W2) λ_ c =>
   if c.2.2.2.2.1>1 then l0 a b c.2.1 c.2.2.1 c.2.2.2.1 (c.2.2.2.2.1 - 1) c.2.2.2.2.2.1 c.2.2.2.2.2.2
   else l0 a b c.2.1 c.2.2.1 c.2.2.2.1 c.2.2.2.2.1 c.2.2.2.2.2.1 c.2.2.2.2.2.2
  match d.1 with
  | some r=>pure (.done (some r,d.2.1,d.2.2.1,d.2.2.2.1,d.2.2.2.2.1))
  | none=>do
   setG (d.2.2.2.2.1+1)
   pure (.yield (none,d.2.1,d.2.2.1,d.2.2.2.1,d.2.2.2.2.1+1))
def JB:sk a b=(do
  liftM (rule "list.sort.merge-lo")
  let x <-elem' b 0
  if(1==b.size)=true then pure (fA a b #[x] 0 1)
  else if(0+1==a.size)=true then pure (fB a b #[x] 0 1)
  else do
   let st <-get
   let c <-forIn [0:a.size+b.size] ((none,#[x],0,1,gallopOf st):W0) λ_ c=>lT a b c.2.1 c.2.2.1 c.2.2.2.1 c.2.2.2.2
   match c.1 with
   | some r=>pure r
   | none=>liftM (unsupported "internal:list.sort.merge-bound" : Sem (UF Keyed))):=by
 kernel_rfl
def hA(out:UF Keyed)(i j:Nat):UF Keyed:=a.extract 0 i++b.extract 0 j++out.reverse
def hB(out:UF Keyed)(i j:Nat):UF Keyed:=b.extract 0 j++a.extract 0 i++out.reverse
abbrev V1:=SL (UF Keyed)×Nat×Nat×UF Keyed×Nat×Nat
abbrev V2:=SL (UF Keyed)×Nat×Nat×UF Keyed×Nat×Nat×Nat
abbrev V0:=SL (UF Keyed)×Nat×Nat×UF Keyed×Nat
def hS(g:Nat)(i j:Nat)(out:UF Keyed)(p q:Nat):Tn (ForInStep V1):=do
 let x <-elem' b (j - 1)
 let y <-elem' a (i - 1)
 match <-lt' x y with
 | some t =>
  if t=true then do
   let y <-elem' a (i - 1)
   if(i - 1==0)=true then pure (.done (some (hA a b (out.push y) (i - 1) j),i - 1,j,out.push y,p+1,0))
   else if p+1>=g then pure (.done (none,i - 1,j,out.push y,p+1,0))
   else pure (.yield (none,i - 1,j,out.push y,p+1,0))
  else do
   let x <-elem' b (j - 1)
   if(j - 1==1)=true then pure (.done (some (hB a b (out.push x) i<|j - 1),i,j - 1,out.push x,0,q+1))
   else if q+1>=g then pure (.done (none,i,j - 1,out.push x,0,q+1))
   else pure (.yield (none,i,j - 1,out.push x,0,q+1))
 | _=>pure (.done (some (hA a b out i j),i,j,out,p,q))
def h3(i j:Nat)(out:UF Keyed)(g p q:Nat):Tn (ForInStep V2):=do
 let y <-elem' a (i - 1)
 if(i - 1==0)=true then pure (.done (some (hA a b (out.push y) (i - 1) j),i - 1,j,out.push y,g,p,q))
 else if(decide (p<7)&&decide (q<7))=true then pure (.done (none,i - 1,j,out.push y,g,p,q))
 else pure (.yield (none,i - 1,j,out.push y,g,p,q))
def h2(i j:Nat)(out:UF Keyed)(g p q:Nat):Tn (ForInStep V2):=do
 let y <-elem' a (i - 1)
 match <-gR true y b 0 j (j - 1)with
 | some x =>
  if j - x>0 then
   if(x==1)=true then pure (.done (some (hB a b (out++(b.extract x j).reverse) i x),i,x,out++(b.extract x j).reverse,g,p,j - x))
   else if(x==0)=true then pure (.done (some (hA a b (out++(b.extract x j).reverse) i x),i,x,out++(b.extract x j).reverse,g,p,j - x))
   else h3 a b i x (out++(b.extract x j).reverse) g p (j - x)
  else h3 a b i j out g p (j - x)
 | _=>pure (.done (some (hA a b out i j),i,j,out,g,p,q))
def h1(i j:Nat)(out:UF Keyed)(g p q:Nat):Tn (ForInStep V2):=do
 let x <-elem' b (j - 1)
 if(j - 1==1)=true then pure (.done (some (hB a b (out.push x) i<|j - 1),i,j - 1,out.push x,g,p,q))
 else h2 a b i (j - 1) (out.push x) g p q
def h0(i j:Nat)(out:UF Keyed)(g p q:Nat):Tn (ForInStep V2):=do
 setG g
 let x <-elem' b (j - 1)
 match <-gR false x a 0 i (i - 1)with
 | some x =>
  if i - x>0 then
   if(x==0)=true then pure (.done (some (hA a b (out++(a.extract x i).reverse) x j),x,j,out++(a.extract x i).reverse,g,i - x,q))
   else h1 a b x j (out++(a.extract x i).reverse) g (i - x) q
  else h1 a b i j out g (i - x) q
 | _=>pure (.done (some (hA a b out i j),i,j,out,g,p,q))
def hT(i j:Nat)(out:UF Keyed)(g:Nat):Tn (ForInStep V0):=do
 let c <-forIn [0:a.size+b.size] ((none,i,j,out,0,0):V1) λ_ c=>hS a b g c.2.1 c.2.2.1 c.2.2.2.1 c.2.2.2.2.1 c.2.2.2.2.2
 match c.1 with
 | some r=>pure (.done (some r,c.2.1,c.2.2.1,c.2.2.2.1,g))
 | none=>do
  liftM (rule "list.sort.gallop")
  let d <-forIn [0:a.size+b.size] ((none,c.2.1,c.2.2.1,c.2.2.2.1,g+1,c.2.2.2.2.1,c.2.2.2.2.2):V2) λ_ c =>
   if c.2.2.2.2.1>1 then h0 a b c.2.1 c.2.2.1 c.2.2.2.1 (c.2.2.2.2.1 - 1) c.2.2.2.2.2.1 c.2.2.2.2.2.2
   else h0 a b c.2.1 c.2.2.1 c.2.2.2.1 c.2.2.2.2.1 c.2.2.2.2.2.1 c.2.2.2.2.2.2
  match d.1 with
  | some r=>pure (.done (some r,d.2.1,d.2.2.1,d.2.2.2.1,d.2.2.2.2.1))
  | none=>do
   setG (d.2.2.2.2.1+1)
   pure (.yield (none,d.2.1,d.2.2.1,d.2.2.2.1,d.2.2.2.2.1+1))
def Hh:sq a b=(do
  liftM (rule "list.sort.merge-hi")
  let x <-elem' a (a.size - 1)
  if(a.size - 1==0)=true then pure (hA a b #[x] (a.size - 1) b.size)
  else if(b.size==1)=true then pure (hB a b #[x] (a.size - 1) b.size)
  else do
   let st <-get
   let c <-forIn [0:a.size+b.size] ((none,a.size - 1,b.size,#[x],gallopOf st):V0) λ_ c=>hT a b c.2.1 c.2.2.1 c.2.2.2.1 c.2.2.2.2
   match c.1 with
   | some r=>pure r
   | none=>liftM (unsupported "internal:list.sort.merge-bound" : Sem (UF Keyed))):=by
 kernel_rfl
end
section
abbrev Le(rk:SZ->Int)(x y:Keyed):Prop:=rk x.1<=rk y.1
structure Gd(rk:SZ->Int)(T O A B:Re Keyed):Prop where
 so:O.Pairwise (Le rk)
 sa:A.Pairwise (Le rk)
 sb:B.Pairwise (Le rk)
 ah:∀x∈O,∀y,y∈A\/y∈B->Le rk x y
 pm:(O++(A++B)).Perm T
def g_(rk:SZ->Int)(T r:Re Keyed):Prop:=r.Pairwise (Le rk)/\r.Perm T
theorem Gd.a{A:Re Keyed}(h:Gd rk T O (S++A) B)(hs:∀x∈S,∀y∈B,Le rk x y):Gd rk T (O++S) A B:=by
 have sa:=List.pairwise_append.mp h.sa;refine{List.pairwise_append.mpr {h.so,sa.1,λx hx y hy=>h.ah x hx y<|.inl<|aR _ hy},sa.2.1,h.sb,λx hx y hy=>?_,by simpa[wa]using h.pm};let hx||hx:=List.mem_append.mp hx
 ·exact h.ah x hx y<|hy.imp (eE _) id
 ·let hy||hy:=hy
  ·exact sa.2.2 x hx y hy
  ·exact hs x hx y hy
theorem Gd.flip{A:Re Keyed}(h:Gd rk T O A B):Gd rk T O B A :=
 {h.so,h.sb,h.sa,λx hx y hy=>h.ah x hx y hy.symm,((List.perm_append_comm ).append_left O).trans h.pm}
theorem Gd.b{A:Re Keyed}(h:Gd rk T O A (S++B))(hs:∀x∈S,∀y∈A,Le rk x y):Gd rk T (O++S) A B:=(h.flip.a hs).flip
theorem Gd.fa{A:Re Keyed}(h:Gd rk T O A B)(hs:∀x∈A,∀y∈B,Le rk x y):g_ rk T (O++A++B):=by
 refine{?_,by rw[wa];exact h.pm};rw[wa];exact List.pairwise_append.mpr {h.so,List.pairwise_append.mpr {h.sa,h.sb,hs},λx hx y hy=>h.ah x hx y<|List.mem_append.mp hy}
theorem Gd.fb{A:Re Keyed}(h:Gd rk T O A B)(hs:∀x∈B,∀y∈A,Le rk x y):g_ rk T (O++B++A):=h.flip.fa hs
abbrev Ga(rk:SZ->Int)(T:Re Keyed)(a b out:UF Keyed)(i j:Nat):Prop:=Gd rk T out.toList (a.toList.drop i)<|b.toList.drop j
def IE{a:UF Keyed}{i:Nat}(h:i<a.size):a.toList.drop i=[a[i]]++a.toList.drop ?jx:=by
 rw[li<|(h)];simp
def Gp{a:UF Keyed}{i k:Nat}:a.toList.drop i=(a.extract i<|i+k).toList++a.toList.drop (i+k):=by
 rw[pi,pI,Nat.add_sub_cancel_left,<-vI,uD]
def OM{a:UF Keyed}{i:Nat}(h:x∈a.toList.drop i):∃t,i<=t/\t<a.size/\kr rk a t=rk x.1:=by
 let{n,hn,e}:=List.mem_iff_getElem.mp h;have hl:i+n<a.size:=by
  rw[rV]at hn;have:a.toList.length=a.size:=gu;lia
 refine{i+n,by lia,hl,NC ?_};rw[<-e];simp
def HX{a:UF Keyed}{i k:Nat}(h:x∈(a.extract i<|i+k).toList):∃t,i<=t/\t<i+k/\t<a.size/\kr rk a t=rk x.1:=by
 let{n,hn,e}:=List.mem_iff_getElem.mp h;have hn':n<(a.extract i<|i+k).size:=(hn);rw[wS]at hn';refine{i+n,by lia,by lia,by lia,NC ?_};rw[<-e];simp
def BM{a:UF Keyed}(h:Sf rk a 0 a.size):a.toList.Pairwise (Le rk):=by
 rw[List.pairwise_iff_getElem];intro i j hi hj SW;have V7:=(hi);have Xa:=(hj);have:=h i j ?U (gO SW) Xa;rw[NC<|ay V7,NC<|ay Xa]at this;exact this
def O7(a b out:UF Keyed)(i j:Nat):(fA a b out i j).toList=out.toList++a.toList.drop i++b.toList.drop j:=by
 unfold fA;rw[rD,rD,pi,pi,pI,pI,se ?E,se ?E]
def Iw(a b out:UF Keyed)(i j:Nat):(fB a b out i j).toList=out.toList++b.toList.drop j++a.toList.drop i:=O7 b a out j i
end
section
structure UY(rk:SZ->Int)(a₀ a b:UF Keyed):Prop where
 sa:Sf rk a 0 a.size
 sb:Sf rk b 0 b.size
 ma:∀p∈a.toList,p∈a₀.toList
 mb:∀p∈b.toList,p∈a₀.toList
 na:1<=a.size
 nb:1<=b.size
 lo:∀i,i<a.size->kr rk b 0<=kr rk a i
 hi:∀j,j<b.size->kr rk b j<=kr rk a (a.size - 1)
structure S0(κ:SortKind)(X:UF Keyed)(P:Runs)(st:SortSt):Prop where
 kd:kindOf st=κ
 ar:arrOf st=X
 pe:pendingOf st=P
 fl:failedOf st=none
variable {a b:UF Keyed} {P:Runs}
structure Wq(rk:SZ->Int)(a b out:UF Keyed)(i j:Nat):Prop where
 g:Ga rk (a.toList++b.toList) a b out i j
 hi:i+2<=a.size
 hj:j+1<=b.size
noncomputable def Res(κ:SortKind)(rk:SZ->Int)(a b X:UF Keyed)(P:Runs)(r:UF Keyed)(st:SortSt):Prop:=S0 κ X P st/\g_ rk (a.toList++b.toList) r.toList
theorem Ga.pb{i:Nat}(g:Ga rk T a b out i j)(hj:j<b.size)(h:∀t,i<=t->t<a.size->kr rk b j<=kr rk a t):Ga rk T a b (out.push b[j]) i ?qI:=by
 have g':Gd rk T out.toList (a.toList.drop i) (b.toList.drop j):=g;rw[IE hj]at g';show Gd rk T (out.push b[j]).toList _ _;rw[qp];refine g'.b λx hx y hy=>?_
 let{t,t1,t2,e}:=OM  hy;rw[List.mem_singleton.mp hx];have:=h t t1 t2;rw[e,NC<|ay hj]at this;exact this
theorem Ga.pa{i:Nat}(g:Ga rk T a b out i j)(hi:i<a.size)(h:∀t,j<=t->t<b.size->kr rk a i<=kr rk b t):Ga rk T a b (out.push a[i]) ?jx j :=
 Gd.flip<|Ga.pb     (Gd.flip g) hi h
theorem Ga.eb{i k:Nat}(g:Ga rk T a b out i j)(h:∀t u,j<=t->t<j+k->i<=u->u<a.size->kr rk b t<=kr rk a u):Ga rk T a b (out++b.extract j (j+k)) i (j+k):=by
 have g':Gd rk T out.toList (a.toList.drop i) (b.toList.drop j):=g;rw[Gp (a:=b)  ]at g';show Gd rk T (out++b.extract j (j+k)).toList _ _;rw[rD];refine g'.b λx hx y hy=>?_
 let{t,t1,t2,_,e}:=HX  hx;let{u,u1,u2,e2}:=OM  hy;have:=h t u t1 t2 u1 u2;rw[e,e2]at this;exact this
theorem Ga.ea{i k:Nat}(g:Ga rk T a b out i j)(h:∀t u,i<=t->t<i+k->j<=u->u<b.size->kr rk a t<=kr rk b u):Ga rk T a b (out++a.extract i (i+k)) (i+k) j :=
 Gd.flip<|Ga.eb     (Gd.flip g) h
theorem Ga.eB{i:Nat}(g:Ga rk T a b out i j)(hj:b.size<=j):g_ rk T (fA a b out i j).toList:=by
 rw[O7];refine Gd.fa g λx _ y hy=>?_
 rw[List.drop_eq_nil_of_le<|(hj)]at hy
 cases hy
theorem Ga.eA{i:Nat}(g:Ga rk T a b out i j)(hi:a.size<=i):g_ rk T (fA a b out i j).toList:=by
 rw[O7];refine Gd.fa g λx hx y _=>?_
 rw[List.drop_eq_nil_of_le<|(hi)]at hx
 cases hx
theorem Ga.eL{i:Nat}(g:Ga rk T a b out i j)(tw:UY rk a₀ a b)(hi:i+1=a.size):g_ rk T (fB a b out i j).toList:=by
 rw[Iw];refine Gd.fb g λx hx y hy=>?_
 let{t,t1,t2,e}:=OM  hx;let{u,u1,u2,e2}:=OM  hy;have:=tw.hi t t2;rw[e,show a.size - 1=u by lia,e2]at this;exact this
def Fb{Q:Unit->SortSt->Prop}(h:S0 κ X P st)(q:∀st',S0 κ X P st'->Q () st'):wpS ?D A E s (setG g) Q st:=by
 exact mJ<|q _ {h.kd,h.ar,h.pe,h.fl}
def NE{i:Nat}{Q:ForInStep W1->SortSt->Prop}(hC:fE prog w A s κ rk a₀)(tw:UY rk a₀ a b)(h:S0 κ X P st)(m:Wq rk a b out i j)
  (q1:∀r o i j p q,Res κ rk a b X P r st->Q (.done (some r,o,i,j,p,q)) st) (q2:∀o i' j' p q,Wq rk a b o i' j'->i'+j'=i+j+1->Q (.done (none,o,i',j',p,q)) st/\Q (.yield (none,o,i',j',p,q)) st) :
  wpS ?D A E s (lS a b g out i j p q) Q st:=by
 have hi:=m.hi;have hj:=m.hj;have ea:a[i]? = some ?qK:=ay _;have eb:b[j]? = some ?qL:=ay _;refine cr<|Rx eb<|cr<|Rx ea<|cr<|BO hC h.kd (tw.mb _ ?E) (tw.ma _ ?E) ?_;by_cases c:rk (b[j]'(by lia)).1<rk (a[i]'(by lia)).1
 ·rw[be c];have g':=Ga.pb m.g (?A) λt t1 t2=>by
   have:=tw.sa i t ?U t1 t2;rw[NC ea]at this;rw[NC eb];lia
  refine cr<|Rx eb ?_;split
  ·exact du<|q1 _ _ _ _ _ _ {h,g'.eB ?A}
  ·have:=q2 (out.push ?qL) i ?qI 0 (q+1) {g',hi,by lia} ?A;split
   ·exact du this.1
   ·exact du this.2
 ·rw[bi c];have g':=Ga.pa m.g (?A) λt t1 t2=>by
   have:=tw.sb j t ?U t1 t2;rw[NC eb]at this;rw[NC ea];lia
  refine cr<|Rx ea ?_;split
  ·rename_i z;have z':=by simpa using z
   exact du<|q1 _ _ _ _ _ _ {h,g'.eL tw z'}
  ·have:=q2 (out.push ?qK) ?jx j (p+1) 0 {g',by lia,hj} ?A;split
   ·exact du this.1
   ·exact du this.2
end
section
variable {a b:UF Keyed} {P:Runs}
structure Lp(κ:SortKind)(rk:SZ->Int)(a b X:UF Keyed)(P:Runs)(n:Nat)(Q:ForInStep W2->SortSt->Prop):Prop where
 r:∀r o i j g p q st,Res κ rk a b X P r st->Q (.done (some r,o,i,j,g,p,q)) st
 d:∀o i j g p q st,Wq rk a b o i j->n<=i+j->S0 κ X P st->Q (.done (none,o,i,j,g,p,q)) st
 y:∀o i j g p q st,Wq rk a b o i j->n<=i+j->S0 κ X P st->Q (.yield (none,o,i,j,g,p,q)) st
def JL{i:Nat}{Q:ForInStep W2->SortSt->Prop}(tw:UY rk a₀ a b)(h:S0 κ X P st)(m:Wq rk a b out i j)(hn:n<=i+j)(ha:∀t,j<=t->t<b.size->kr rk a i<=kr rk b t)(L:Lp κ rk a b X P n Q) :
  wpS ?D A E s (l3 a b out i j g p q) Q st:=by
 have hi:=m.hi;have hj:=m.hj;have ea:a[i]? = some ?qK:=ay _;have g':=Ga.pa m.g (?A) ha;refine cr<|Rx ea ?_;split
 ·rename_i z;have z':=by simpa using z
  exact du<|L.r _ _ _ _ _ _ _ _ {h,g'.eL tw z'}
 ·split
  ·exact du (L.d _ _ _ _ _ _ _ {g',by lia,hj} ?A h)
  ·exact du (L.y _ _ _ _ _ _ _ {g',by lia,hj} ?A h)
def NF{i:Nat}{Q:ForInStep W2->SortSt->Prop}(hC:fE prog w A s κ rk a₀)(tw:UY rk a₀ a b)(h:S0 κ X P st)(m:Wq rk a b out i j)(hn:n<=i+j)(L:Lp κ rk a b X P n Q) :
  wpS ?D A E s (l2 a b out i j g p q) Q st:=by
 have hi:=m.hi;have hj:=m.hj;have ea:a[i]? = some ?qK:=ay _;refine cr<|Rx ea<|cr<|Jl hC h.kd (tw.ma _ ?E) ?A tw.mb (λx y hx hxy hy=>tw.sb x y ?U hxy ?A) ?A λk k1 k2 k3=>?_;rw[<-NC (rk:=rk) ea]at k2 k3;have rest:∀t,j+k<=t->t<b.size->kr rk a i<=kr rk b t:=λt t1 t2=>by
  have:=k3 (t - j) ?A ?A
  rwa [show j+(t - j)=t by lia]at this
 dsimp only;split
 ·have g':=Ga.eb (k:=k) m.g λt u t1 t2 u1 u2=>by
   have h1:=k2 (t - j) ?A;rw[show j+(t - j)=t by lia]at h1;have h2:=tw.sa i u ?U u1 u2;lia
  split
  ·exact du<|L.r _ _ _ _ _ _ _ _ {h,g'.eB ?A}
  ·exact JL tw h {g',hi,by lia} ?A rest L
 ·exact JL tw h m hn (λt t1 t2=>rest t ?A t2) L
def JM{i:Nat}{Q:ForInStep W2->SortSt->Prop}(hC:fE prog w A s κ rk a₀)(tw:UY rk a₀ a b)(h:S0 κ X P st)(m:Wq rk a b out i j)(hn:n<=i+j)(hb:∀t,i<=t->t<a.size->kr rk b j<=kr rk a t)(L:Lp κ rk a b X P n Q) :
  wpS ?D A E s (l1 a b out i j g p q) Q st:=by
 have hi:=m.hi;have hj:=m.hj;have eb:b[j]? = some ?qL:=ay _;have g':=Ga.pb m.g (?A) hb;refine cr<|Rx eb ?_;split
 ·exact du<|L.r _ _ _ _ _ _ _ _ {h,g'.eB ?A}
 ·exact NF hC tw h {g',hi,by lia} ?A L
def NG{i:Nat}{Q:ForInStep W2->SortSt->Prop}(hC:fE prog w A s κ rk a₀)(tw:UY rk a₀ a b)(h:S0 κ X P st)(m:Wq rk a b out i j)(hn:n<=i+j)(L:Lp κ rk a b X P n Q) :
  wpS ?D A E s (l0 a b out i j g p q) Q st:=by
 have hi:=m.hi;have hj:=m.hj;have eb:b[j]? = some ?qL:=ay _;refine cr<|Fb h λst' h'=>?_;refine cr<|Rx eb<|cr<|E5 hC h'.kd (tw.mb _ ?E) ?A tw.ma (λx y hx hxy hy=>tw.sa x y ?U hxy ?A) ?A λk k1 k2 k3=>?_;rw[<-NC (rk:=rk) eb]at k2 k3;have rest:∀t,i+k<=t->t<a.size->kr rk b j<=kr rk a t:=λt t1 t2=>by
  have:=k3 (t - i) ?A ?A;rw[show i+(t - i)=t by lia]at this;lia
 dsimp only;split
 ·have g':=Ga.ea (k:=k) m.g λt u t1 t2 u1 u2=>by
   have h1:=k2 (t - i) ?A;rw[show i+(t - i)=t by lia]at h1;have h2:=tw.sb j u ?U u1 u2;lia
  split
  ·rename_i z;have z':=by simpa using z
   exact du<|L.r _ _ _ _ _ _ _ _ {h',g'.eL tw z'}
  ·split
   ·exact du<|L.r _ _ _ _ _ _ _ _ {h',g'.eA ?A}
   ·exact JM hC tw h' {g',by lia,hj} ?A rest L
 ·exact JM hC tw h' m hn (λt t1 t2=>rest t ?A t2) L
def ND{i:Nat}{Q:ForInStep W0->SortSt->Prop}(hC:fE prog w A s κ rk a₀)(tw:UY rk a₀ a b)(h:S0 κ X P st)(m:Wq rk a b out i j)
  (q1:∀r o i j g st,Res κ rk a b X P r st->Q (.done (some r,o,i,j,g)) st) (q2:∀o i' j' g st,Wq rk a b o i' j'->i+j+1<=i'+j'->S0 κ X P st->Q (.yield (none,o,i',j',g)) st) :
  wpS ?D A E s (lT a b out i j g) Q st:=by
 have hz:1<=a.size+b.size:=by have:=tw.na;lia
 refine cr<|i4 (ua (I:=λx c st'=>st'=st/\∃o i' j' p q,c=(none,o,i',j',p,q)/\Wq rk a b o i' j'/\i'+j'=i+j+x)
  (Q:=λc st'=>st'=st/\((∃r o i' j' p q,c=(some r,o,i',j',p,q)/\Res κ rk a b X P r st)\/∃o i' j' p q,c=(none,o,i',j',p,q)/\Wq rk a b o i' j'/\i+j+1<=i'+j'))
  (λx c st' _ hx I=>?_) (λc st' I=>?_) {rfl,out,i,j,0,0,rfl,m,rfl}) λc st' I=>?_
 ·let{rfl,o,i',j',p,q,rfl,m',e}:=I;exact NE hC tw h m' (λr o i j p q hr=>{rfl,.inl {r,o,i,j,p,q,rfl,hr}}) λo i2 j2 p q m2 e2=>{{rfl,.inr {o,i2,j2,p,q,rfl,m2,by lia}},{rfl,o,i2,j2,p,q,rfl,m2,by lia}}
 ·let{rfl,o,i',j',p,q,rfl,m',e}:=I;exact{rfl,.inr {o,i',j',p,q,rfl,m',by lia}}
 ·let{rfl,{r,o,i',j',p,q,rfl,hr}||{o,i',j',p,q,rfl,m',e}}:=I
  ·exact du<|q1 _ _ _ _ _ _ hr
  ·refine cr<|wpS_lift<|nr {rfl,?_}
   refine cr<|i4 (ua (I:=λx c st'=>S0 κ X P st'/\∃o i' j' g p q,c=(none,o,i',j',g,p,q)/\Wq rk a b o i' j'/\i+j+1<=i'+j')
    (Q:=λc st'=>(∃r o i' j' g p q,c=(some r,o,i',j',g,p,q)/\Res κ rk a b X P r st')\/(S0 κ X P st'/\∃o i' j' g p q,c=(none,o,i',j',g,p,q)/\Wq rk a b o i' j'/\i+j+1<=i'+j'))
    (λx c H_ _ hx I=>?_) (λc H_ I=>.inr I) {h,o,i',j',g+1,p,q,rfl,m',e}) λc H_ I=>?_
   ·let{h2,o,i2,j2,g2,p,q,rfl,m2,e2}:=I;split<;>exact NG hC tw h2 m2 e2 {λr o i j g p q st hr=>.inl {r,o,i,j,g,p,q,rfl,hr},λo i j g p q st m e h=>.inr {h,o,i,j,g,p,q,rfl,m,e},λo i j g p q st m e h=>{h,o,i,j,g,p,q,rfl,m,e}}
   ·let{r,o,i2,j2,g2,p,q,rfl,hr}||{h2,o,i2,j2,g2,p,q,rfl,m2,e2}:=I
    ·exact du<|q1 _ _ _ _ _ _ hr
    ·exact cr<|Fb h2 λW9 h3=>du<|q2 _ _ _ _ _ m2 e2 h3
def Ov{Q:UF Keyed->SortSt->Prop}(hC:fE prog w A s κ rk a₀)(tw:UY rk a₀ a b)(h:S0 κ X P st)(q:∀r st',Res κ rk a b X P r st'->Q r st'):wpS ?D A E s (sk a b) Q st:=by
 have na:=tw.na;have nb:=tw.nb;have eb:b[0]? = some (b[0]'(by lia)):=ay _;rw[JB];have g0:Ga rk (a.toList++b.toList) a b #[] 0 0:={.nil,(BM tw.sa),(BM tw.sb),(λx hx=>by simp at hx),by simp};have g1:=Ga.pb g0 (?A) λt _ t2=>tw.lo t t2
 refine cr<|wpS_lift<|nr {rfl,cr<|Rx eb ?_};split
 ·exact du<|q _ _ {h,g1.eB ?A}
 ·split
  ·rename_i y;have y':=by simpa using y
   exact du<|q _ _ {h,g1.eL tw y'}
  ·refine cr<|wI ?_
   refine cr (i4 (ua (I:=λx c st'=>S0 κ X P st'/\∃o i j g,c=(none,o,i,j,g)/\Wq rk a b o i j/\x+1<=i+j)
    (Q:=λc st'=>∃r o i j g,c=(some r,o,i,j,g)/\Res κ rk a b X P r st') (λx c st' _ hx I=>?_) (λc st' I=>?_) {h,_,0,1,_,rfl,{g1,by lia,by lia},by lia}) λc st' I=>?_)
   ·let{h',o,i,j,g,rfl,m,e}:=I;exact ND hC tw h' m (λr o i j g st hr=>{r,o,i,j,g,rfl,hr}) λo i2 j2 g st m2 e2 h2=>{h2,o,i2,j2,g,rfl,m2,by lia}
   ·let{h',o,i,j,g,rfl,m,e}:=I;have:=m.hi;have:=m.hj;lia
   ·let{r,o,i,j,g,rfl,hr}:=I;exact du<|q _ _ hr
end
section
structure Gh(rk:SZ->Int)(T A B O:Re Keyed):Prop where
 so:O.Pairwise (Le rk)
 sa:A.Pairwise (Le rk)
 sb:B.Pairwise (Le rk)
 ah:∀x∈O,∀y,y∈A\/y∈B->Le rk y x
 pm:((A++B)++O).Perm T
theorem Gh.flip{A:Re Keyed}(h:Gh rk T A B O):Gh rk T B A O :=
 {h.so,h.sb,h.sa,λx hx y hy=>h.ah x hx y hy.symm,((List.perm_append_comm ).append_right O).trans h.pm}
theorem Gh.b{A:Re Keyed}(h:Gh rk T A (B++S) O)(hs:∀x∈S,∀y∈A,Le rk y x):Gh rk T A B (S++O):=by
 have sb:=List.pairwise_append.mp h.sb;refine{List.pairwise_append.mpr {sb.2.1,h.so,λx hx y hy=>h.ah y hy x<|.inr<|eE _ hx},h.sa,sb.1,λx hx y hy=>?_,by simpa[wa]using h.pm};let hx||hx:=List.mem_append.mp hx
 ·let hy||hy:=hy
  ·exact hs x hx y hy
  ·exact sb.2.2 y hy x hx
 ·exact h.ah x hx y<|hy.imp id<|aR _
theorem Gh.fa{A:Re Keyed}(h:Gh rk T A B O)(hs:∀x∈A,∀y∈B,Le rk x y):g_ rk T (A++B++O) :=
 {List.pairwise_append.mpr {List.pairwise_append.mpr {h.sa,h.sb,hs},h.so,λx hx y hy=>h.ah y hy x<|List.mem_append.mp hx},h.pm}
abbrev Gq(rk:SZ->Int)(T:Re Keyed)(a b out:UF Keyed)(i j:Nat):Prop:=Gh rk T (a.toList.take i) (b.toList.take j) out.toList.reverse
def G1{a:UF Keyed}{i:Nat}(h:i<a.size):a.toList.take ?jx=a.toList.take i++[a[i]]:=by
 rw[List.take_succ_eq_append_getElem<|(h)];simp
def D1{a:UF Keyed}{x i:Nat}(h:x<=i):a.toList.take i=a.toList.take x++(a.extract x i).toList:=by
 rw[pi];have e:i=x+(i - x):=by lia
 conv=>lhs;rw[e,List.take_add]
def Ph{a:UF Keyed}{i:Nat}(h:x∈a.toList.take i):∃t,t<i/\t<a.size/\kr rk a t=rk x.1:=by
 let{n,hn,e}:=List.mem_iff_getElem.mp h;have hl:n<i/\n<a.size:=by
  rw[wT]at hn;have:a.toList.length=a.size:=gu;lia
 refine{n,hl.1,hl.2,NC ?_};rw[<-e];simp
def OE{a:UF Keyed}{i x:Nat}{p:Keyed}(h:p∈(a.extract x i).toList):∃t,x<=t/\t<i/\t<a.size/\kr rk a t=rk p.1:=by
 let{n,hn,e}:=List.mem_iff_getElem.mp h;have hn':n<(a.extract x i).size:=(hn);rw[wS]at hn';refine{x+n,by lia,by lia,by lia,NC ?_};rw[<-e];simp
def FQ(a b out:UF Keyed)(i j:Nat):(hA a b out i j).toList=a.toList.take i++b.toList.take j++out.toList.reverse:=by
 unfold hA;simp
end
section
variable {a b:UF Keyed} {P:Runs}
theorem Gq.pb{i:Nat}(g:Gq rk T a b out i ?qI)(hj:j<b.size)(h:∀t,t<i->t<a.size->kr rk a t<=kr rk b j):Gq rk T a b (out.push b[j]) i j:=by
 have g':Gh rk T (a.toList.take i) (b.toList.take ?qI) out.toList.reverse:=g;rw[G1 hj]at g';show Gh rk T _ _ (out.push b[j]).toList.reverse;rw[qp,List.reverse_append];refine g'.b λx hx y hy=>?_
 let{t,t1,t2,e}:=Ph  hy;rw[List.mem_singleton.mp hx];have:=h t t1 t2;rw[e,NC<|ay hj]at this;exact this
theorem Gq.pa{i:Nat}(g:Gq rk T a b out ?jx j)(hi:i<a.size)(h:∀t,t<j->t<b.size->kr rk b t<=kr rk a i):Gq rk T a b (out.push a[i]) i j :=
 Gh.flip<|Gq.pb     (Gh.flip g) hi h
theorem Gq.eb{i x:Nat}(g:Gq rk T a b out i j)(hx:x<=j)(h:∀t u,x<=t->t<j->u<i->u<a.size->kr rk a u<=kr rk b t):Gq rk T a b (out++(b.extract x j).reverse) i x:=by
 have g':Gh rk T (a.toList.take i) (b.toList.take j) out.toList.reverse:=g;rw[D1  hx]at g';show Gh rk T _ _ (out++(b.extract x j).reverse).toList.reverse;rw[rD,List.reverse_append,Array.toList_reverse,List.reverse_reverse];refine g'.b λx hx y hy=>?_
 let{t,t1,t2,_,e}:=OE  hx;let{u,u1,u2,e2}:=Ph  hy;have:=h t u t1 t2 u1 u2;rw[e,e2]at this;exact this
theorem Gq.ea{i x:Nat}(g:Gq rk T a b out i j)(hx:x<=i)(h:∀t u,x<=t->t<i->u<j->u<b.size->kr rk b u<=kr rk a t):Gq rk T a b (out++(a.extract x i).reverse) x j :=
 Gh.flip<|Gq.eb     (Gh.flip g) hx h
theorem Gq.eA(g:Gq rk T a b out 0 j):g_ rk T (hA a b out 0 j).toList:=by
 rw[FQ];refine Gh.fa g λx hx y _=>?_
 cases hx
theorem Gq.eZ{i:Nat}(g:Gq rk T a b out i j)(hi:i=0):g_ rk T (hA a b out i j).toList:=by
 subst hi;exact g.eA
theorem Gq.eB{i:Nat}(g:Gq rk T a b out i 0):g_ rk T (hA a b out i 0).toList:=by
 rw[FQ];refine Gh.fa g λx _ y hy=>?_
 cases hy
theorem Gq.eF{i:Nat}(g:Gq rk T a b out i 1)(tw:UY rk a₀ a b):g_ rk T (hB a b out i 1).toList:=by
 show g_ rk T (hA b a out 1 i).toList;rw[FQ];refine Gh.fa (Gh.flip g) λx hx y hy=>?_
 let{t,t1,t2,e}:=Ph  hx;let{u,u1,u2,e2}:=Ph  hy;have:=tw.lo u u2;rw[e2,show 0=t by lia,e]at this;exact this
structure Wo(rk:SZ->Int)(a b out:UF Keyed)(i j:Nat):Prop where
 g:Gq rk (a.toList++b.toList) a b out i j
 hi:1<=i
 hj:2<=j
 ia:i<=a.size
 jb:j<=b.size
def NT{i:Nat}{Q:ForInStep V1->SortSt->Prop}(hC:fE prog w A s κ rk a₀)(tw:UY rk a₀ a b)(h:S0 κ X P st)(m:Wo rk a b out i j)
  (q1:∀r i j o p q,Res κ rk a b X P r st->Q (.done (some r,i,j,o,p,q)) st) (q2:∀i' j' o p q,Wo rk a b o i' j'->i'+j'+1=i+j->Q (.done (none,i',j',o,p,q)) st/\Q (.yield (none,i',j',o,p,q)) st) :
  wpS ?D A E s (hS a b g i j out p q) Q st:=by
 let{gg,hi,hj,ia,jb}:=m;obtain⟨i,rfl⟩:∃k,i=k+1:={i - 1,by lia};obtain⟨j,rfl⟩:∃k,j=k+1:={j - 1,by lia};have ea:a[i]? = some ?qK:=ay _;have eb:b[j]? = some ?qL:=ay _;refine cr<|Rx eb<|cr<|Rx ea<|cr<|BO hC h.kd (tw.mb _ ?E) (tw.ma _ ?E) ?_;by_cases c:rk (b[j]'(by lia)).1<rk (a[i]'(by lia)).1
 ·rw[be c];have g':=Gq.pa gg (?A) λt t1 t2=>by
   have:=tw.sb t j ?U ?A ?A;rw[NC eb]at this;rw[NC ea];lia
  refine cr<|Rx ea ?_;split
  ·rename_i z;have z':=by simpa using z
   subst z';exact du<|q1 _ _ _ _ _ _ {h,g'.eA}
  ·have:=q2 i ?qI (out.push ?qK) (p+1) 0 {g',by lia,hj,by lia,jb} ?A;split
   ·exact du this.1
   ·exact du this.2
 ·rw[bi c];have g':=Gq.pb gg (?A) λt t1 t2=>by
   have:=tw.sa t i ?U ?A ?A;rw[NC ea]at this;rw[NC eb];lia
  refine cr<|Rx eb ?_;split
  ·rename_i z;have z':=by simpa using z
   subst z';exact du<|q1 _ _ _ _ _ _ {h,g'.eF tw}
  ·have:=q2 ?jx j (out.push ?qL) 0 (q+1) {g',hi,by lia,ia,by lia} ?A;split
   ·exact du this.1
   ·exact du this.2
structure Lq(κ:SortKind)(rk:SZ->Int)(a b X:UF Keyed)(P:Runs)(n:Nat)(Q:ForInStep V2->SortSt->Prop):Prop where
 r:∀r i j o g p q st,Res κ rk a b X P r st->Q (.done (some r,i,j,o,g,p,q)) st
 d:∀i j o g p q st,Wo rk a b o i j->i+j<=n->S0 κ X P st->Q (.done (none,i,j,o,g,p,q)) st
 y:∀i j o g p q st,Wo rk a b o i j->i+j<=n->S0 κ X P st->Q (.yield (none,i,j,o,g,p,q)) st
def JP{i:Nat}{Q:ForInStep V2->SortSt->Prop}(tw:UY rk a₀ a b)(h:S0 κ X P st)(m:Wo rk a b out i j)(hn:i+j<=n)(ha:∀t,t<j->t<b.size->kr rk b t<=kr rk a (i - 1))(L:Lq κ rk a b X P n Q) :
  wpS ?D A E s (h3 a b i j out g p q) Q st:=by
 let{gg,hi,hj,ia,jb}:=m;obtain⟨i,rfl⟩:∃k,i=k+1:={i - 1,by lia};have ea:a[i]? = some ?qK:=ay _;have g':=Gq.pa gg (?A) ha;refine cr<|Rx ea ?_;split
 ·rename_i z;have z':=by simpa using z
  subst z';exact du<|L.r _ _ _ _ _ _ _ _ {h,g'.eA}
 ·split
  ·exact du (L.d _ _ _ _ _ _ _ {g',by lia,hj,by lia,jb} ?A h)
  ·exact du (L.y _ _ _ _ _ _ _ {g',by lia,hj,by lia,jb} ?A h)
def NU{i:Nat}{Q:ForInStep V2->SortSt->Prop}(hC:fE prog w A s κ rk a₀)(tw:UY rk a₀ a b)(h:S0 κ X P st)(m:Wo rk a b out i j)(hn:i+j<=n)(L:Lq κ rk a b X P n Q) :
  wpS ?D A E s (h2 a b i j out g p q) Q st:=by
 let{gg,hi,hj,ia,jb}:=id m;have ea:a[i - 1]? = some (a[i - 1]'(by lia)):=ay _;refine cr<|Rx ea<|cr<|Jl hC h.kd (tw.ma _ ?E) ?A tw.mb (λx y hx hxy hy=>tw.sb x y ?U hxy ?A) ?A λx k1 k2 k3=>?_;rw[<-NC (rk:=rk) ea]at k2 k3;simp  [Nat.zero_add]at k2 k3;have rest:∀t,t<x->t<b.size->kr rk b t<=kr rk a (i - 1):=λt t1 t2=>Int.le_of_lt<|k2 t t1
 dsimp only;split
 ·have g':=Gq.eb  gg k1 λt u t1 t2 u1 u2=>by
   have h1:=k3 t t1 t2;have h2:=tw.sa u (i - 1) ?U ?A ?A;lia
  split
  ·rename_i z;have z':=by simpa using z
   subst z';exact du<|L.r _ _ _ _ _ _ _ _ {h,g'.eF tw}
  ·split
   ·rename_i y;have y':=by simpa using y
    subst y';exact du<|L.r _ _ _ _ _ _ _ _ {h,g'.eB}
   ·exact JP tw h {g',hi,by lia,ia,by lia} ?A rest L
 ·have k0:x=j:=by lia
  subst k0;exact JP tw h m hn rest L
def JQ{i:Nat}{Q:ForInStep V2->SortSt->Prop}(hC:fE prog w A s κ rk a₀)(tw:UY rk a₀ a b)(h:S0 κ X P st)(m:Wo rk a b out i j)(hn:i+j<=n)(hb:∀t,t<i->t<a.size->kr rk a t<=kr rk b (j - 1))(L:Lq κ rk a b X P n Q) :
  wpS ?D A E s (h1 a b i j out g p q) Q st:=by
 let{gg,hi,hj,ia,jb}:=m;obtain⟨j,rfl⟩:∃k,j=k+1:={j - 1,by lia};have eb:b[j]? = some ?qL:=ay _;have g':=Gq.pb gg (?A) hb;refine cr<|Rx eb ?_;split
 ·rename_i z;have z':=by simpa using z
  subst z';exact du<|L.r _ _ _ _ _ _ _ _ {h,g'.eF tw}
 ·exact NU hC tw h {g',hi,by lia,ia,by lia} ?A L
def NV{i:Nat}{Q:ForInStep V2->SortSt->Prop}(hC:fE prog w A s κ rk a₀)(tw:UY rk a₀ a b)(h:S0 κ X P st)(m:Wo rk a b out i j)(hn:i+j<=n)(L:Lq κ rk a b X P n Q) :
  wpS ?D A E s (h0 a b i j out g p q) Q st:=by
 let{gg,hi,hj,ia,jb}:=id m;have eb:b[j - 1]? = some (b[j - 1]'(by lia)):=ay _;refine cr<|Fb h λst' h'=>?_;refine cr<|Rx eb<|cr<|E5 hC h'.kd (tw.mb _ ?E) ?A tw.ma (λx y hx hxy hy=>tw.sa x y ?U hxy ?A) ?A λx k1 k2 k3=>?_;rw[<-NC (rk:=rk) eb]at k2 k3;simp  [Nat.zero_add]at k2 k3;have rest:∀t,t<x->t<a.size->kr rk a t<=kr rk b (j - 1):=λt t1 t2=>k2 t t1
 dsimp only;split
 ·have g':=Gq.ea  gg k1 λt u t1 t2 u1 u2=>by
   have h1:=k3 t t1 t2;have h2:=tw.sb u (j - 1) ?U ?A ?A;lia
  split
  ·rename_i z;have z':=by simpa using z
   subst z';exact du<|L.r _ _ _ _ _ _ _ _ {h',g'.eA}
  ·exact JQ hC tw h' {g',by lia,hj,by lia,jb} ?A rest L
 ·have k0:x=i:=by lia
  subst k0;exact JQ hC tw h' m hn rest L
def NS{i:Nat}{Q:ForInStep V0->SortSt->Prop}(hC:fE prog w A s κ rk a₀)(tw:UY rk a₀ a b)(h:S0 κ X P st)(m:Wo rk a b out i j)
  (q1:∀r i j o g st,Res κ rk a b X P r st->Q (.done (some r,i,j,o,g)) st) (q2:∀i' j' o g st,Wo rk a b o i' j'->i'+j'+1<=i+j->S0 κ X P st->Q (.yield (none,i',j',o,g)) st) :
  wpS ?D A E s (hT a b i j out g) Q st:=by
 have hz:1<=a.size+b.size:=by have:=tw.na;lia
 refine cr<|i4 (ua (I:=λx c st'=>st'=st/\∃i' j' o p q,c=(none,i',j',o,p,q)/\Wo rk a b o i' j'/\i'+j'+x=i+j)
  (Q:=λc st'=>st'=st/\((∃r i' j' o p q,c=(some r,i',j',o,p,q)/\Res κ rk a b X P r st)\/∃i' j' o p q,c=(none,i',j',o,p,q)/\Wo rk a b o i' j'/\i'+j'+1<=i+j))
  (λx c st' _ hx I=>?_) (λc st' I=>?_) {rfl,i,j,out,0,0,rfl,m,rfl}) λc st' I=>?_
 ·let{rfl,i',j',o,p,q,rfl,m',e}:=I;exact NT hC tw h m' (λr i j o p q hr=>{rfl,.inl {r,i,j,o,p,q,rfl,hr}}) λi2 j2 o p q m2 e2=>{{rfl,.inr {i2,j2,o,p,q,rfl,m2,by lia}},{rfl,i2,j2,o,p,q,rfl,m2,by lia}}
 ·let{rfl,i',j',o,p,q,rfl,m',e}:=I;exact{rfl,.inr {i',j',o,p,q,rfl,m',by lia}}
 ·let{rfl,{r,i',j',o,p,q,rfl,hr}||{i',j',o,p,q,rfl,m',e}}:=I
  ·exact du<|q1 _ _ _ _ _ _ hr
  ·refine cr<|wpS_lift<|nr {rfl,?_}
   refine cr (i4 (ua (I:=λx c st'=>S0 κ X P st'/\∃i' j' o g p q,c=(none,i',j',o,g,p,q)/\Wo rk a b o i' j'/\i'+j'<=i+j - 1)
    (Q:=λc st'=>(∃r i' j' o g p q,c=(some r,i',j',o,g,p,q)/\Res κ rk a b X P r st')\/(S0 κ X P st'/\∃i' j' o g p q,c=(none,i',j',o,g,p,q)/\Wo rk a b o i' j'/\i'+j'<=i+j - 1))
    (λx c H_ _ hx I=>?_) (λc H_ I=>.inr I) {h,i',j',o,g+1,p,q,rfl,m',by lia}) λc H_ I=>?_)
   ·let{h2,i2,j2,o,g2,p,q,rfl,m2,e2}:=I;split<;>exact NV hC tw h2 m2 e2 {λr i j o g p q st hr=>.inl {r,i,j,o,g,p,q,rfl,hr},λi j o g p q st m e h=>.inr {h,i,j,o,g,p,q,rfl,m,e},λi j o g p q st m e h=>{h,i,j,o,g,p,q,rfl,m,e}}
   ·let{r,i2,j2,o,g2,p,q,rfl,hr}||{h2,i2,j2,o,g2,p,q,rfl,m2,e2}:=I
    ·exact du<|q1 _ _ _ _ _ _ hr
    ·have e3:i2+j2+1<=i+j:=by lia
     exact cr<|Fb h2 λW9 h3=>du<|q2 _ _ _ _ _ m2 e3 h3
def OW{Q:UF Keyed->SortSt->Prop}(hC:fE prog w A s κ rk a₀)(tw:UY rk a₀ a b)(h:S0 κ X P st)(q:∀r st',Res κ rk a b X P r st'->Q r st'):wpS ?D A E s (sq a b) Q st:=by
 have na:=tw.na;have nb:=tw.nb;have ea:a[a.size - 1]? = some (a[a.size - 1]'(by lia)):=ay _;rw[Hh];have ta:a.toList.take (a.size - 1+1)=a.toList:=se ?jd;have tb:b.toList.take b.size=b.toList:=se ?E;have g0:Gq rk (a.toList++b.toList) a b #[] (a.size - 1+1) b.size:={by simp,by rw[ta];exact BM tw.sa,by rw[tb];exact BM tw.sb,(λx hx=>by simp at hx),by rw[ta,tb];simp};have g1:=Gq.pa g0 (?A) λt _ t2=>tw.hi t t2
 refine cr<|wpS_lift<|nr {rfl,cr<|Rx ea ?_};split
 ·rename_i z;have z':=by simpa using z
  exact du<|q _ _ {h,g1.eZ z'}
 ·split
  ·rename_i y;have y':=by simpa using y
   rw[y']at g1 ⊢;exact du<|q _ _ {h,g1.eF tw}
  ·refine cr<|wI ?_
   refine cr (i4 (ua (I:=λx c st'=>S0 κ X P st'/\∃i j o g,c=(none,i,j,o,g)/\Wo rk a b o i j/\i+j+x+1<=a.size+b.size)
    (Q:=λc st'=>∃r i j o g,c=(some r,i,j,o,g)/\Res κ rk a b X P r st') (λx c st' _ hx I=>?_) (λc st' I=>?_) {h,a.size - 1,b.size,_,_,rfl,{g1,by lia,by lia,by lia,by lia},by lia}) λc st' I=>?_)
   ·let{h',i,j,o,g,rfl,m,e}:=I;exact NS hC tw h' m (λr i j o g st hr=>{r,i,j,o,g,rfl,hr}) λi2 j2 o g st m2 e2 h2=>{h2,i2,j2,o,g,rfl,m2,by lia}
   ·let{h',i,j,o,g,rfl,m,e}:=I;have:=m.hi;lia
   ·let{r,i,j,o,g,rfl,hr}:=I;exact du<|q _ _ hr
end
def putAll(l:Re Keyed)(s_ k:Nat)(xs:UF Keyed):UF Keyed:=(l.zipIdx k).foldl (λa p=>a.setIfInBounds (s_+p.2) p.1) xs
def B4(s_:Nat):∀(l:Re Keyed) (k:Nat) (xs:UF Keyed),s_+k+l.length<=xs.size->∀t,(putAll l s_ k xs)[t]? = if s_+k<=t/\t<s_+k+l.length then l[t - (s_+k)]? else xs[t]?
 | [],k,xs,_,t=>by
  show xs[t]? = _;rw[ba (by rw[yT];lia)]
 | p::l,k,xs,h,t=>by
  rw[f8]at h;show(putAll l s_ (k+1)<|xs.setIfInBounds (s_+k) p)[t]? = _;rw[B4 s_ l (k+1) _ (by rw[Array.size_setIfInBounds];lia),f8,Array.getElem?_setIfInBounds];by_cases c:t=s_+k
  ·subst c;rw[ba ?A,ap rfl,ap ?A,ap ?A,Nat.sub_self];rfl
  ·by_cases c2:s_+(k+1)<=t/\t<s_+(k+1)+l.length
   ·rw[ap c2,ap ?A,show t - (s_+k)=(t - (s_+(k+1)))+1 by lia];rfl
   ·rw[ba c2,ba λz=>c z.symm,ba ?A]
def TZ{l:Re Keyed}{s_:Nat}(h:s_+l.length<=xs.size):(putAll l s_ 0 xs).toList=xs.toList.take s_++(l++xs.toList.drop (s_+l.length)):=by
 apply xL;intro t;have e:=B4 s_ l 0 xs ?A t;rw[vR,e];have hl:xs.toList.length=xs.size:=gu;by_cases c:t<s_
 ·rw[ba ?A,pr (by rw[wT];lia),mR c,vR]
 ·rw[zx (by rw[wT];lia),wT,show min s_ xs.toList.length=s_ by lia];by_cases c2:t<s_+l.length
  ·rw[ap ?A,pr ?A,Nat.add_zero]
  ·rw[ba ?A,zx ?A,List.getElem?_drop,vR];congr 1;lia
section
def VB{a e t:Nat}(h:a+t<e)(he:e<=xs.size):kr rk (xs.extract a e) t=kr rk xs (a+t):=by
 refine Rp ?_;rw[Array.getElem?_extract,ap ?A]
noncomputable def RT:Re ?jX->Nat->Nat->Prop
 | [],lo,hi=>lo=hi
 | (s,n,_)::r,lo,hi=>s=lo/\1<=n/\RT r (lo+n) hi
theorem RT.split:∀{L R:Re ?jX} {lo hi:Nat},RT (L++R) lo hi->∃m,RT L lo m/\RT R m hi
 | [],_,lo,_,h=>{lo,rfl,h}
 | (s,n,_)::L,R,lo,hi,h=>by
  let{h1,h2,h3}:=h;let{m,h4,h5}:=RT.split  h3;exact{m,{h1,h2,h4},h5}
theorem RT.join:∀{L R:Re ?jX} {lo m hi:Nat},RT L lo m->RT R m hi->RT (L++R) lo hi
 | [],_,lo,_,_,h,h'=>by cases h;exact h'
 | (s,n,_)::L,R,lo,m,hi,h,h'=>{h.1,h.2.1,RT.join  h.2.2 h'}
theorem RT.le:∀{L:Re ?jX} {lo hi:Nat},RT L lo hi->lo+L.length<=hi
 | [],lo,_,h=>by cases h;simp
 | (s,n,_)::L,lo,hi,h=>by
  let{_,h2,h3}:=h;have:=RT.le h3;rw[f8];lia
theorem RT.mem:∀{L:Re ?jX} {lo hi:Nat} {x:Nat×Nat×Nat},RT L lo hi->x∈L->lo<=x.1/\x.1+x.2.1<=hi
 | (s,n,_)::L,lo,hi,x,h,hx=>by
  let{h1,h2,h3}:=h;let rfl||hx:=List.mem_cons.mp hx
  ·have:=RT.le h3;exact{by lia,by lia}
  ·have:=RT.mem h3 hx;exact{by lia,this.2}
structure Rn(κ:SortKind)(rk:SZ->Int)(a₀:UF Keyed)(hi:Nat)(st:SortSt):Prop where
 pm:(arrOf st).Perm a₀
 kd:kindOf st=κ
 fl:failedOf st=none
 cv:RT (pendingOf st).toList 0 hi
 so:∀x∈(pendingOf st).toList,Sf rk ?Q x.1 (x.1+x.2.1)
 le:hi<=a₀.size
def GU{Z:Type}{M:Model}{c st:Z}{Q:PUnit->Z->Prop}(h:Q ⟨⟩ c):wpS M A E s (set c:StateT Z Sem PUnit) Q st:=by
 exact l_ {rfl,h}
def Ep(i:Nat):mergeAt' i=(do
  let st <-get
  match ((pendingOf st)[i]?,(pendingOf st)[i+1]?)with
  | (some (sa,na,pw),some (sb,nb,_))=>do
   set (setPending st<|((pendingOf st).setIfInBounds i (sa,na+nb,pw)).eraseIdxIfInBounds ?jx)
   let x <-elem' ?Q sb
   match <-gR false x ?Q sa na 0 with
   | some k =>
    if(na - k==0)=true then pure true
    else do
     let y <-elem' ?Q (sa+k+(na - k) - 1)
     match <-gR true y ?Q sb nb (nb - 1)with
     | some n =>
      if(n==0)=true then pure true
      else if na - k<=n then do
       let r <-sk ((arrOf st).extract (sa+k) sb) ((arrOf st).extract sb<|sb+n)
       modify λc=>setArr c<|putAll r.toList (sa+k) 0<|arrOf c
       pure (failedOf<|<-get).isNone
      else do
       let r <-sq ((arrOf st).extract (sa+k) sb) ((arrOf st).extract sb<|sb+n)
       modify λc=>setArr c<|putAll r.toList (sa+k) 0<|arrOf c
       pure (failedOf<|<-get).isNone
     | _=>pure false
   | _=>pure false
  | _=>liftM (unsupported "internal:list.sort.pending" : Sem Bool)):=rfl
end
section
def IR{P:Runs}{i:Nat}(h:i+1<P.size):∃L x y R,P.toList=L++x::y::R/\L.length=i/\P[i]? = some x/\P[i+1]? = some y:=by
 have h':i+1<P.toList.length:=(h);refine{P.toList.take i,P[i],P[i+1],P.toList.drop<|i+2,?_,by rw[wT];lia,ay _,ay _};have e1:P.toList.drop i=P[i]::P.toList.drop ?jx:=by rw[li ?A];simp
 have e2:P.toList.drop ?jx=P[i+1]::P.toList.drop (i+2):=by rw[li h'];simp
 rw[<-e2,<-e1,uD]
def GZ{P:Runs}{i:Nat}{L R:Re ?jX}{x y z:Nat×Nat×Nat}(e:P.toList=L++x::y::R)(hl:L.length=i):((P.setIfInBounds i z).eraseIdxIfInBounds ?jx).toList=L++z::R:=by
 have hs:i+1<P.size:=by
  rw[<-gu,e];simp;lia
 have Vd:i+1<(P.setIfInBounds i z).size:=by rw[Array.size_setIfInBounds];exact hs
 unfold Array.eraseIdxIfInBounds;rw[dif_pos Vd,Array.toList_eraseIdx,Array.toList_setIfInBounds,e,<-hl];rw[List.set_append_right _ _ ?ji,Nat.sub_self,List.eraseIdx_append_of_length_le ?A,Nat.add_sub_cancel_left];rfl
def FC{sa m sb:Nat}(h1:sa<=m)(h2:m<=sb)(h3:sb<=n)(h4:n<=hi)(oa:Sf rk xs sa sb)(ob:Sf rk xs sb hi)
  (k1:∀t,t<m->kr rk ys t=kr rk xs t) (k2:∀t,n<=t->kr rk ys t=kr rk xs t) (om:Sf rk ys m n) (mem:∀t,m<=t->t<n->∃u,m<=u/\u<n/\kr rk ys t=kr rk xs u)
  (lo:∀t,sa<=t->t<m->sb<hi->kr rk xs t<=kr rk xs sb) (up:∀t,n<=t->t<hi->m<sb->kr rk xs (sb - 1)<=kr rk xs t) (lu:∀t u,sa<=t->t<m->n<=u->u<hi->kr rk xs t<=kr rk xs u):Sf rk ys sa hi:=λi j V7 SW hj=>by
 have pm:∀t u,sa<=t->t<m->m<=u->u<n->kr rk xs t<=kr rk xs u:=λt u a1 a2 a3 a4=>by
  by_cases c:u<sb
  ·exact oa t u a1 ?A c
  ·have:=lo t a1 a2 ?A;have:=ob sb u ?ji ?A ?A;lia
 have pu:∀t u,m<=t->t<n->n<=u->u<hi->kr rk xs t<=kr rk xs u:=λt u a1 a2 a3 a4=>by
  by_cases c:t<sb
  ·have:=oa t (sb - 1) ?A ?A ?A;have:=up u a3 a4 ?A;lia
  ·exact ob t u ?A ?A a4
 by_cases c1:i<m
 ·rw[k1 i c1];by_cases c2:j<m
  ·rw[k1 j c2];exact oa i j V7 SW ?A
  ·by_cases c3:j<n
   ·let{u,u1,u2,e}:=mem j ?A c3;rw[e];exact pm i u V7 c1 u1 u2
   ·rw[k2 j ?A];exact lu i j V7 c1 ?A hj
 ·by_cases c3:j<n
  ·exact om i j ?A SW c3
  ·rw[k2 j ?A];by_cases c4:i<n
   ·let{u,u1,u2,e}:=mem i ?A c4;rw[e];exact pu u j u1 u2 ?A hj
   ·rw[k2 i ?A];exact ob i j ?A SW hj
def Bm{i:Nat}{p:Keyed}(h:xs.Perm a₀)(e:xs[i]? = some p):p∈a₀.toList :=
 (Array.perm_iff_toList_perm.mp h).mem_iff.mp (by
  let{hl,e}:=Array.getElem?_eq_some_iff.mp e
  rw[<-e];simp)
def I9(h:xs.Perm a₀):∀p∈xs.toList,p∈a₀.toList:=λp hp=>(Array.perm_iff_toList_perm.mp h).mem_iff.mp hp
def Bl{a e:Nat}(h:xs.Perm a₀):∀p∈(xs.extract a e).toList,p∈a₀.toList:=λp hp=>by
 rw[pi]at hp;exact I9 h p<|List.mem_of_mem_drop<|List.mem_of_mem_take hp
def TL{st':SortSt}{i sa na pw sb nb pb k:Nat}{L R:Re ?jX}{r:UF Keyed}(h:Rn κ rk a₀ hi st)(e:(pendingOf st).toList=L++(sa,na,pw)::(sb,nb,pb)::R)(hl:L.length=i)
  (hk:k<=na) (hn:n<=nb) (kR1:∀t,t<k->kr rk ?Q (sa+t)<=kr rk ?Q sb) (kL2:∀t,n<=t->t<nb->k<na->kr rk ?Q (sb - 1)<=kr rk ?Q (sb+t))
  (hr:g_ rk (((arrOf st).extract (sa+k) sb).toList++((arrOf st).extract sb<|sb+n).toList) r.toList)
  (e1:arrOf st'=putAll r.toList (sa+k) 0 ?Q) (e2:pendingOf st'=((pendingOf st).setIfInBounds i (sa,na+nb,pw)).eraseIdxIfInBounds ?jx) (e3:kindOf st'=κ) (e4:failedOf st'=none) :
  Rn κ rk a₀ hi st'/\(pendingOf st').size+1=(pendingOf st).size/\∀t,hi<=t->?Y[t]? = ?Q[t]?:=by
 have cv:=h.cv;rw[e]at cv;let{m0,c1,c2}:=RT.split cv;let{rfl,na1,rfl,nb1,c3}:=c2;have hz:sa+na+nb<=(arrOf st).size:=by have:=h.pm.size_eq;have:=RT.le c3;have:=h.le;lia
 have oa:Sf rk ?Q sa (sa+na):=h.so (sa,na,pw) (by rw[e];simp);have ob:Sf rk ?Q (sa+na) (sa+na+nb):=h.so (sa+na,nb,pb) (by rw[e];simp);have rl:r.toList.length=(na - k)+n:=by
  rw[hr.2.length_eq,xP,gu,gu,wS,wS];lia
 have fits:sa+k+r.toList.length<=(arrOf st).size:=by lia
 have at_:∀t,?Y[t]? = if sa+k<=t/\t<sa+na+n then r.toList[t - (sa+k)]? else(arrOf st)[t]?:=λt=>by
  rw[e1,B4 _ _ _ _ ?A,rl];simp![Nat.add_zero];congr 1;rw[show sa+k+(na - k+n)=sa+na+n by lia]
 have XG:∀t,¬ (sa+k<=t/\t<sa+na+n)->kr rk ?Y t=kr rk ?Q t:=λt ht=>Rp (by rw[at_,ba ht])
 have seg:((arrOf st).extract (sa+k)<|sa+na).toList++((arrOf st).extract (sa+na)<|sa+na+n).toList=((arrOf st).toList.drop<|sa+k).take (na - k+n):=by
  rw[pi,pi,pI,pI,List.take_add,vI];congr 2
  ·lia
  ·lia
  ·congr 1;lia
 have perm:(arrOf st').Perm ?Q:=by
  rw[Array.perm_iff_toList_perm,e1,TZ fits];have e5:(arrOf st).toList=(arrOf st).toList.take (sa+k)++(((arrOf st).toList.drop<|sa+k).take (na - k+n)++(arrOf st).toList.drop (sa+k+r.toList.length)):=by
   rw[rl];generalize sa+k=u;rw[<-vI,uD,uD]
  conv=>rhs;rw[e5]
  exact(List.Perm.append_left _ ((hr.2.trans (by rw[seg])).append_right _))
 have krr:∀t,sa+k<=t->t<sa+na+n->∃hh:t - (sa+k)<r.toList.length,kr rk ?Y t=rk (r.toList[t - (sa+k)]'hh).1:=λt t1 t2=>by
  refine{by lia,NC ?_};rw[at_,ap {t1,t2},ax]
 have asc:Sf rk ?Y sa (sa+na+nb):=by
  refine FC (m:=sa+k) (sb:=sa+na) (n:=sa+na+n) ?A ?A ?A ?A oa ob (λt ht=>XG t ?A) (λt ht=>XG t ?A) ?_ ?_ ?_ ?_ ?_
  ·intro i j a1 a2 a3;let{p1,q1}:=krr i a1 ?A;let{p2,q2}:=krr j ?A a3;rw[q1,q2];by_cases c:i=j
   ·subst c;exact xA _
   ·exact List.pairwise_iff_getElem.mp hr.1 _ _ p1 p2 ?A
  ·intro t t1 t2;let{p1,q1}:=krr t t1 t2;have hm:=hr.2.mem_iff.mp<|ib p1;let hm||hm:=List.mem_append.mp hm
   ·let{u,u1,u2,_,eu}:=OE (rk:=rk) hm;exact{u,u1,by lia,by rw[q1,eu]}
   ·let{u,u1,u2,_,eu}:=OE (rk:=rk) hm;exact{u,by lia,u2,by rw[q1,eu]}
  ·intro t t1 t2 _;have:=kR1 (t - sa) ?A
   rwa [show sa+(t - sa)=t by lia]at this
  ·intro t t1 t2 t3;have:=kL2 (t - (sa+na)) ?A ?A ?A
   rwa [show sa+na+(t - (sa+na))=t by lia]at this
  ·intro t u t1 t2 u1 u2;have:=kR1 (t - sa) ?A;rw[show sa+(t - sa)=t by lia]at this;have:=ob (sa+na) u ?ji ?A u2;lia
 have pl:(pendingOf st').toList=L++(sa,na+nb,pw)::R:=by rw[e2];exact GZ e hl
 refine{{perm.trans h.pm,e3,e4,?_,λx hx=>?_,h.le},?_,λt ht=>by have:=RT.le c3;rw[at_,ba ?A]}
 ·rw[pl];exact RT.join c1 {rfl,by lia,by rw[<-Nat.add_assoc];exact c3}
 ·rw[pl]at hx;let hx||hx:=List.mem_append.mp hx
  ·have o:=h.so x (by rw[e];exact aR _ hx);have:=RT.mem c1 hx;exact λi j a1 a2 a3=>by rw[XG i ?A,XG j ?A];exact o i j a1 a2 a3
  ·let rfl||hx:=List.mem_cons.mp hx
   ·rw[<-Nat.add_assoc];exact asc
   ·have o:=h.so x (by rw[e];exact eE _<|xO _<|xO _ hx);have:=RT.mem c3 hx;exact λi j a1 a2 a3=>by rw[XG i ?A,XG j ?A];exact o i j a1 a2 a3
 ·rw[<-gu,<-gu,pl,e];simp;lia
def T8{i:Nat}{Q:Bool->SortSt->Prop}(hC:fE prog w A s κ rk a₀)(h:Rn κ rk a₀ hi st)(hi2:i+1<(pendingOf st).size)
  (q:∀st',Rn κ rk a₀ hi st'->(pendingOf st').size+1=(pendingOf st).size->(∀t,hi<=t->?Y[t]? = ?Q[t]?)->Q true st'):wpS ?D A E s (mergeAt' i) Q st:=by
 let{L,{sa,na,pw},{sb,nb,pb},R,e,hl,g1,g2}:=IR hi2;have cv:=h.cv;rw[e]at cv;let{m0,c1,c2}:=RT.split cv;clear hi2 cv;let{rfl,na1,rfl,nb1,c3}:=c2;have hz:sa+na+nb<=(arrOf st).size:=by have:=h.pm.size_eq;have:=RT.le c3;have:=h.le;lia
 clear c1 c3;have oa:Sf rk ?Q sa (sa+na):=h.so (sa,na,pw) (by rw[e];simp);have ob:Sf rk ?Q (sa+na) (sa+na+nb):=h.so (sa+na,nb,pb) (by rw[e];simp);rw[Ep];refine cr<|wI ?_;rw[g1,g2];dsimp only;refine cr<|GU ?_;have s0:S0 κ ?Q (((pendingOf st).setIfInBounds i (sa,na+nb,pw)).eraseIdxIfInBounds ?jx) (setPending st<|((pendingOf st).setIfInBounds i (sa,na+nb,pw)).eraseIdxIfInBounds ?jx):={h.kd,rfl,rfl,h.fl};have ex:?Q[sa+na]? = some (?Q[sa+na]'(by lia)):=ay _;refine cr<|Rx ex<|cr<|E5 hC s0.kd (Bm h.pm ex) ?A (I9 h.pm) oa ?A λk k1 k2 k3=>?_;rw[<-NC (rk:=rk) ex]at k2 k3;dsimp only;split
 ·rename_i z;have z':na - k=0:=by simpa using z
  have ek:k=na:=by lia
  subst ek;have f:=TL (st':=setPending st (((pendingOf st).setIfInBounds i (sa,k+nb,pw)).eraseIdxIfInBounds ?jx)) (r:=#[]) (n:=0) h e hl k1 ?U k2 (λt _ _ z=>absurd z<|nu _) {.nil,by simp[pi,pI]} rfl rfl h.kd h.fl;exact du<|q _ f.1 f.2.1 f.2.2
 ·rename_i z;have z':na - k≠0:=by simpa using z
  have ey:?Q[sa+k+(na - k) - 1]? = some (?Q[sa+k+(na - k) - 1]'(by lia)):=ay _;refine cr<|Rx ey<|cr<|Jl hC s0.kd (Bm h.pm ey) ?A (I9 h.pm) ob ?A λn n1 n2 n3=>?_;rw[<-NC (rk:=rk) ey,show sa+k+(na - k) - 1=sa+na - 1 by lia]at n2 n3;have kL2:∀t,n<=t->t<nb->k<na->kr rk ?Q (sa+na - 1)<=kr rk ?Q (sa+na+t):=λt a1 a2 _=>n3 t a1 a2
  dsimp only;split
  ·rename_i y;have y':n=0:=by simpa using y
   subst y';have f:=TL (st':=setPending st (((pendingOf st).setIfInBounds i (sa,na+nb,pw)).eraseIdxIfInBounds ?jx)) (r:=(arrOf st).extract (sa+k) (sa+na)) (n:=0) h e hl k1 ?U k2 kL2 {?_,by simp[pi,pI]} ?_ rfl h.kd h.fl
   ·exact du<|q _ f.1 f.2.1 f.2.2
   ·refine BM λi j a1 a2 a3=>?_
    rw[wS]at a3;rw[VB ?A ?A,VB ?A ?A];exact oa _ _ ?A ?A ?A
   ·show arrOf st=_;apply Array.ext';rw[TZ (by rw[gu,wS];lia),gu,wS,pi,pI];rw[show min (sa+na) (arrOf st).size - (sa+k)=sa+na - (sa+k) by lia];generalize sa+na - (sa+k)=v;generalize sa+k=u;rw[<-vI,uD,uD]
  ·rename_i y;have y':n≠0:=by simpa using y
   have tw:UY rk a₀ ((arrOf st).extract (sa+k)<|sa+na) ((arrOf st).extract (sa+na)<|sa+na+n):=by
    have z1:((arrOf st).extract (sa+k)<|sa+na).size=na - k:=by rw[wS];lia
    have z2:((arrOf st).extract (sa+na)<|sa+na+n).size=n:=by rw[wS];lia
    refine{λi j a1 a2 a3=>?_,λi j a1 a2 a3=>?_,Bl h.pm,Bl h.pm,by lia,by lia,λi a1=>?_,λj a1=>?_}
    ·rw[VB ?A ?A,VB ?A ?A];exact oa _ _ ?A ?A ?A
    ·rw[VB ?A ?A,VB ?A ?A];exact ob _ _ ?A ?A ?A
    ·rw[VB ?A ?A,VB ?A ?A];have:=k3 (k+i) ?A ?A;rw[<-Nat.add_assoc]at this;rw[Nat.add_zero];lia
    ·rw[z1,VB ?A ?A,VB ?A ?A];have:=n2 j ?A;rw[show sa+k+(na - k - 1)=sa+na - 1 by lia];lia
   have last:∀(r:UF Keyed) (H_:SortSt),Res κ rk ((arrOf st).extract (sa+k)<|sa+na) ((arrOf st).extract (sa+na)<|sa+na+n) ?Q (((pendingOf st).setIfInBounds i (sa,na+nb,pw)).eraseIdxIfInBounds ?jx) r H_ ->
     wpS ?D A E s (do modify λc=>setArr c<|putAll r.toList (sa+k) 0<|arrOf c;pure (failedOf<|<-get).isNone) Q H_:=λr H_ hr=>by
    refine cr<|mJ<|cr<|wI<|du ?_;have f:=TL (st':=setArr H_ (putAll r.toList (sa+k) 0 ?qQ))   h e hl k1 n1 k2 kL2 hr.2 (by rw[hr.1.ar]) hr.1.pe hr.1.kd hr.1.fl;have ef:(failedOf<|setArr H_<|putAll r.toList (sa+k) 0 ?qQ).isNone=true:=by
     rw[hr.1.fl];rfl
    rw[ef];exact q _ f.1 f.2.1 f.2.2
   split
   ·exact cr<|Ov hC tw s0 last
   ·exact cr<|OW hC tw s0 last
end
abbrev Cu:=SL Unit×Unit
def vm(pw:Nat):Tn (ForInStep Cu):=do
 let st <-get
 match (if(pendingOf st).size>1 then(pendingOf st)[(pendingOf st).size - 2]? else none)with
 | some (_,_,o) =>
  if o<=pw then pure (.done ?qJ)
  else do
   let b <-mergeAt' ((pendingOf st).size - 2)
   if(!b)=true then pure (.done (some (),()))else pure (.yield ?qJ)
 | _=>pure (.done ?qJ)
def addW(lo n:Nat):Tn (ForInStep<|SL Unit×Nat):=do
 modify λc=>setPending c<|(pendingOf c).push (lo,n,0)
 pure (.yield (none,lo+n))
def lJ(z lo n:Nat):Tn (ForInStep<|SL Unit×Nat):=do
 let st <-get
 match (pendingOf st).back? with
 | some (s1,n1,_)=>do
  let c <-forIn [0:z] (?qJ:Cu) λ_ _=>vm<|power' z (2*s1+n1) (2*s1+n1+n1+n) z
  match c.1 with
  | some r=>pure (.done (some r,lo))
  | none=>do
   modify λc=>setPending c<|(pendingOf c).modify ((pendingOf c).size - 1) λx=>(x.1,x.2.1,power' z (2*s1+n1) (2*s1+n1+n1+n) z)
   addW lo n
 | _=>addW lo n
def zF(P:Runs):Nat:=if((if P.size - 2>0 then P[P.size - 2 - 1]?.map (·.2.1)else none).any (· < (P[P.size - 2+1]?.elim 0 (·.2.1))))=true then P.size - 2 - 1 else P.size - 2
def cW:Tn (ForInStep Cu):=do
 let st <-get
 if(pendingOf st).size<=1 then pure (.done ?qJ)
 else do
  let b <-mergeAt' (zF<|pendingOf st)
  if(!b)=true then pure (.done (some (),()))else pure (.yield ?qJ)
def EC:sortRuns'=(do
  let st <-get
  let c <-forIn [0:(arrOf st).size] ((none,0):SL Unit×Nat) λ_ c =>
   if c.2>=(arrOf st).size then pure (.done (none,c.2))
   else do
    match <-countRun' c.2 ((arrOf st).size - c.2)with
    | some f =>
     if f<minRun' (arrOf st).size (arrOf st).size 0 then do
      liftM (rule "list.sort.binary-insertion")
      let b <-binarySort' c.2 (min ((arrOf st).size - c.2)<|minRun' (arrOf st).size (arrOf st).size 0) f
      if(!b)=true then pure (.done (some (),c.2))
      else lJ (arrOf st).size c.2 (min ((arrOf st).size - c.2)<|minRun' (arrOf st).size (arrOf st).size 0)
     else lJ (arrOf st).size c.2 f
    | _=>pure (.done (some (),c.2))
  match c.1 with
  | some r=>pure r
  | none=>do
   let c <-forIn [0:(arrOf st).size] (?qJ:Cu) λ_ _=>cW
   match c.1 with
   | some r=>pure r
   | none=>pure ()):=by
 kernel_rfl
section
def kz(κ:SortKind)(rk:SZ->Int)(a₀:UF Keyed)(lo n:Nat)(st:SortSt):Prop:=Rn κ rk a₀ lo st/\1<=n/\lo+n<=a₀.size/\Sf rk ?Q lo (lo+n)
def GP{lo:Nat}{Q:ForInStep (SL Unit×Nat)->SortSt->Prop}(h:kz κ rk a₀ lo n st)(q:∀st',Rn κ rk a₀ (lo+n) st'->Q (.yield (none,lo+n)) st'):wpS ?D A E s (addW lo n) Q st:=by
 let{r,n1,le,o}:=h;refine cr<|mJ<|du<|q _ {r.pm,r.kd,r.fl,?_,λx hx=>?_,le}
 ·rw[qp];exact RT.join r.cv {rfl,n1,rfl}
 ·have R0:=hx;rw[qp]at R0;let hx||hx:=List.mem_append.mp R0
  ·exact r.so x hx
  ·rw[List.mem_singleton.mp hx];exact o
theorem RT.mod{f:Nat×Nat×Nat->Nat×Nat×Nat}(hf:∀x,(f x).1=x.1/\(f x).2.1=x.2.1):∀(L:Re ?jX) (i lo hi:Nat),RT L lo hi->RT (L.modify i f) lo hi
 | [],i,lo,hi,h=>by simpa using h
 | (a,n,p)::L,0,lo,hi,h=>by
  rw[List.modify_zero_cons];let{h1,h2}:=hf (a,n,p);generalize f (a,n,p)=y at h1 h2;subst h1 h2;exact h
 | (a,n,p)::L,i+1,lo,hi,h=>by
  exact{h.1,h.2.1,RT.mod hf L i _ _ h.2.2}
def Bj{f:Nat×Nat×Nat->Nat×Nat×Nat}(hf:∀x,(f x).1=x.1/\(f x).2.1=x.2.1):∀(L:Re ?jX) (i:Nat) (x:Nat×Nat×Nat),x∈L.modify i f->∃y∈L,x.1=y.1/\x.2.1=y.2.1
 | [],i,x,h=>by simp at h
 | y::L,0,x,h=>by
  let rfl||h:=List.mem_cons.mp h
  ·exact{y,da,hf y}
  ·exact{x,xO _ h,rfl,rfl}
 | y::L,i+1,x,h=>by
  let rfl||h:=List.mem_cons.mp h
  ·exact{x,da,rfl,rfl}
  ·let{z,hz,e}:=Bj hf L i x h;exact{z,xO _ hz,e}
def AX{lo:Nat}{Q:ForInStep (SL Unit×Nat)->SortSt->Prop}(hC:fE prog w A s κ rk a₀)(h:kz κ rk a₀ lo n st)(q:∀st',Rn κ rk a₀ (lo+n) st'->Q (.yield (none,lo+n)) st'):wpS ?D A E s (lJ z lo n) Q st:=by
 refine cr<|wI ?_;split
 ·refine cr<|i4 (ua (I:=λx c st'=>c=?qJ/\kz κ rk a₀ lo n st')  (λx c st' _ _ I=>?_) (λc st' I=>I) {rfl,h}) λc st' I=>?_
  ·let{rfl,r,n1,le,o}:=I;refine cr<|wI ?_;split
   ·split
    ·exact du {rfl,r,n1,le,o}
    ·refine cr<|T8 hC r ?A λH_ r2 _ k2=>?_;refine du {rfl,r2,n1,le,λi j a1 a2 a3=>?_};rw[Rp<|k2 i a1,Rp<|k2 j ?A];exact o i j a1 a2 a3
   ·exact du {rfl,r,n1,le,o}
  ·let{rfl,r,n1,le,o}:=I;refine cr<|mJ<|GP {{r.pm,r.kd,r.fl,?_,λx hx=>?_,r.le},n1,le,o} q
   ·rw[Array.toList_modify];refine RT.mod ?_ _ _ _ _ r.cv;exact λ_=>{rfl,rfl}
   ·have R0:=hx;rw[Array.toList_modify]at R0;have mm:=λ(c)=>Bj (f:=λx=>(x.1,x.2.1,c)) (λ_=>{rfl,rfl}) (pendingOf st').toList ((pendingOf st').size - 1) x
    let{y,hy,e1,e2}:=mm _ R0;rw[e1,e2];exact r.so y hy
 ·exact GP h q
def C8{P:Runs}(h:1<P.size):zF P+1<P.size:=by
 unfold zF;by_cases d:P.size - 2>0
 ·split<;>split<;>lia
 ·lia
def Aj{Q:Unit->SortSt->Prop}(hC:fE prog w A s κ rk a₀)(h2:1<=a₀.size)(h:Rn κ rk a₀ 0 st)(q:∀st',(arrOf st').Perm a₀->failedOf st'=none->Sf rk ?Y 0 a₀.size->Q () st'):wpS ?D A E s sortRuns' Q st:=by
 rw[EC];refine cr<|wI ?_;have hsz:=h.pm.size_eq;refine cr<|i4 (ua (I:=λx c st'=>∃lo,c=(none,lo)/\Rn κ rk a₀ lo st'/\(x<=lo\/lo=a₀.size)) (Q:=λc st'=>c=(none,a₀.size)/\Rn κ rk a₀ a₀.size st') (λx c st' _ hx I=>?_) (λc st' I=>?_) {0,rfl,h,.inl ?ji}) λc st' I=>?_
 ·let{lo,rfl,r,hl}:=I;have rle:=r.le;split
  ·have e:lo=a₀.size:=by lia
   subst e;exact du {rfl,r}
  ·have sb:SB κ a₀ lo ?Y (pendingOf st') st':={r.pm,r.kd,r.fl,λ_ _=>rfl,rfl};have back:∀H_ n,SB κ a₀ lo ?Y (pendingOf st') H_->1<=n->lo+n<=a₀.size->Sf rk ?qQ lo (lo+n)->kz κ rk a₀ lo n H_:=λH_ n b n1 n2 o=>by
    refine{{b.pm,b.kd,b.fl,by rw[b.pe];exact r.cv,λx hx=>?_,r.le},n1,n2,o};rw[b.pe]at hx;have m:=RT.mem r.cv hx;have o:=r.so x hx;exact λi j a1 a2 a3=>by rw[Rp<|b.kp i ?A,Rp<|b.kp j ?A];exact o i j a1 a2 a3
   refine cr<|Km hC ?A ?A sb λm H_ ⟨b2,m1,m2,o2⟩=>?_;dsimp only;split
   ·refine cr<|wpS_lift<|nr {rfl,cr<|LX hC ?A ?A b2 o2 λW9 b3 o3=>?_};exact AX hC (back W9 _ b3 ?A ?A o3) λst4 r4=>{_,rfl,r4,.inl ?A}
   ·exact AX hC (back H_ _ b2 m1 ?A o2) λst4 r4=>{_,rfl,r4,.inl ?A}
 ·let{lo,rfl,r,hl}:=I;have:=r.le;have e:lo=a₀.size:=by lia
  subst e;exact{rfl,r}
 ·let{rfl,r}:=I;have hp:(pendingOf st').size<=a₀.size:=by
   have:=RT.le r.cv;rw[gu]at this;lia
  refine cr (i4 (ua (I:=λx c H_=>c=?qJ/\Rn κ rk a₀ a₀.size H_/\(pendingOf H_).size+x<=a₀.size+1) (Q:=λc H_=>c=?qJ/\Rn κ rk a₀ a₀.size H_/\(pendingOf H_).size<=1) (λx c H_ _ hx I=>?_) (λc H_ I=>?_) {rfl,r,by lia}) λc H_ I=>?_)
  ·let{rfl,r2,sz}:=I;refine cr<|wI ?_;split
   ·rename_i c;exact du {rfl,r2,c}
   ·refine cr<|T8 hC r2 (C8 ?A) λW9 r3 z3 _=>?_;exact du {rfl,r3,by lia}
  ·let{rfl,r2,sz}:=I;exact{rfl,r2,by lia}
  ·let{rfl,r2,sz}:=I;refine du<|q H_ r2.pm r2.fl ?_;have cv:=r2.cv;have so:=r2.so;have hl:(pendingOf H_).toList.length<=1:=(sz)
   match hP:(pendingOf H_).toList,hl,cv,so with
   | [],_,cv,_=>have:0=a₀.size:=cv;lia
   | [(a,n,p)],_,cv,so =>
    let{rfl,_,e}:=cv;have e':=e;have:=so (0,n,p) da;rw[e']at this;exact this
   | _::_::_,hl,_,_=>simp at hl
end
def mid(s:Tk)(a:Tl)(vs:Re SZ):Tk:={ s with heap:=((s.heap.update a<|Obj.mapSeq λ_=>#[]).push<|seqObj "tuple" vs.toArray 0).push ?jE }
section
def Fu{a:Tl}{P:Fin->Tk->Prop}(ho:s.heap.get? a=some (seqObj "list" vs.toArray n))(hz:vs.length<=sizeLine)
  (hk:2<=vs.length->∀Q:SortKind->Tk->Prop,Q κ (mid s a vs)->wpAny ?D A (keyKind' vs.toArray) Q E (mid s a vs)) (hC:2<=vs.length->fE prog w A (mid s a vs) κ rk (pairsOf vs))
  (h:∀out:UF SZ,out.toList.Perm vs->out.toList.Pairwise (λx y=>rk x<=rk y)->P (.done<|.ret .none) { s with heap:=sortedHeap s.heap a vs out }):wpAny ?D A (Builtin.«list.sort» {[.ref a],[]}) P E s:=by
 have r_:=bj ho;obtain⟨ep,ho1⟩:∃ep,(s.heap.update a<|Obj.mapSeq λ_=>#[]).get? a=some (seqObj "list" #[] ep):={_,hZ ho λ_=>#[]};have TF:(mid s a vs).heap.get? a=some (seqObj "list" #[] ep):=by
  unfold mid;dsimp only;rw[zi,zi]
  ·exact ho1
  ·rw[yp];exact eh r_
  ·rw[rR,yp];exact eh<|n_ r_
 rw[list_sort_plain];refine f_ (qZ ho rfl (f_ (uz ho rfl (f_<|seqEpoch_at ho1 rfl<|f_<|wpAny_newTuple<|f_<|wpAny_newList<|um ?_)  (by simpa using hz) ?U)));have mem:∀p∈(pairsOf vs).toList,p.1=p.2/\p.1∈vs:=λp hp=>by
  rw[pairsOf_toList]at hp;exact mem_zip_self hp
 have fin:∀c:SortSt,(arrOf c).Perm (pairsOf vs)->Sf rk (arrOf c) 0 (arrOf c).size->P (.done<|.ret .none) { s with heap:=sortedHeap s.heap a vs ((arrOf c).map (·.2)) }:=λc hp ha=>by
  have Yi:=Array.perm_iff_toList_perm.mp hp;have e:((arrOf c).map (·.2)).toList=(arrOf c).toList.map (·.1):=by
   rw[Array.toList_map];exact im λp q=>(mem p<|Yi.mem_iff.mp q).1.symm
  refine h _ ?_ ?_
  ·rw[e];have:=Yi.map (·.1)
   rwa [pairsOf_toList,List.map_fst_zip ?ji]at this
  ·rw[e,vc];exact BM ha
 have Zo:∀c:SortSt,(arrOf c).Perm (pairsOf vs)->((arrOf c).map (·.2)).size<=sizeLine+1:=λc hp=>by
  rw[Array.size_map,hp.size_eq,pairsOf_size];lia
 have vz:vs.toArray.size=vs.length:=ig ..;show wpAny ?D A _ P E<|mid s a vs;by_cases c:vs.length<2
 ·rw[ap (by rw[vz];exact c),ap (by rw[vz];exact c)];refine f_<|l_ ?_;dsimp only;rw[StateT.run_pure];refine f_<|l_<|f_<|seqEpoch_at TF rfl<|f_<|uz TF rfl ?_ ?U<|Zo (SortSt.mk' general' (vs.toArray.zip vs.toArray) #[] 7 none)<|Array.Perm.refl _;rw[ba ?E];refine l_<|fin (SortSt.mk' general' (vs.toArray.zip vs.toArray) #[] 7 none) (Array.Perm.refl _) λi j _ ij hj=>?_;have Xa:j<(pairsOf vs).size:=hj;rw[pairsOf_size]at Xa;rw[show i=j by lia];exact xA _
 ·rw[ba (by rw[vz];exact c),ba (by rw[vz];exact c)];refine f_<|hk ?A _ ?_;have so:=Aj (E:=E) (hC ?A) (by rw[pairsOf_size];lia) (st:=SortSt.mk' κ (vs.toArray.zip vs.toArray) #[] 7 none) (Q:=λ_ c=>(arrOf c).Perm (pairsOf vs)/\failedOf c=none/\Sf rk (arrOf c) 0 (pairsOf vs).size)
   {Array.Perm.refl _,rfl,rfl,rfl,(λx hx=>by cases hx),ac _} λc a1 a2 a3=>{a1,a2,a3}
  refine f_<|oS so (λr s' ⟨e,a1,a2,a3⟩=>?_) λ_ _ e=>e;subst e;obtain⟨⟨⟩,c⟩:=r;dsimp only at a1 a2 a3 ⊢;refine f_<|seqEpoch_at TF rfl<|f_<|uz TF rfl ?_ ?U<|Zo c a1;rw[a2];dsimp only;rw[ba ?E];exact l_ (fin c a1 (by rw[a1.size_eq];exact a3))
def IG{l:Tl}{Q:Re SZ->Tk->Prop}(ho:s.heap.get? l=some o)(hc:o.cls=.type "list" \/ o.cls=.type "tuple")(hd:o.data=.seq vs.toArray n)(hz:vs.length<=sizeLine)
  (h:Q vs { s with heap:=(s.heap.push ?jE).update s.heap.objs.size (Obj.mapSeq (· ++ vs.toArray)) }):wpAny ?D A (collect<|.ref l) Q E s:=by
 have Ve:(s.heap.push ?jE).get? l=some o:=v_ _ ho;have e0:(s.heap.push ?jE).get? s.heap.objs.size=some ?jE:=cN _ rfl;unfold collect;refine f_<|wpAny_runValue<|lV entry_proto_collect' ?_;show wpAny ?D _ (newList [] >>= λx=>again<|.builtin "list.__iadd__" {[x,.ref l],[]}) _ _ s;refine f_<|wpAny_newList<|l_ {Code.quiet_builtin _ ?G,lV entry_list_iadd' ?_};show wpAny ?D _ (Builtin.List.listExtendWith (.ref s.heap.objs.size) (.ref l)<|.ref s.heap.objs.size) _ _ { s with heap:=s.heap.push ?jE };unfold Builtin.List.listExtendWith;have sz:(((· ++ vs.toArray):UF SZ->UF SZ) #[]).size<=sizeLine+1:=by
  show(#[]++vs.toArray).size<=_;rw[Array.size_append,ig];simp![ig,yT];lia
 have tail:wpAny ?D A (do
   let o <-load s.heap.objs.size
   match o.data with
   | .seq xs _=>pure xs.toList
   | _=>unsupported "internal:collect") Q E { s with heap:=(s.heap.push ?jE).update s.heap.objs.size (Obj.mapSeq (· ++ vs.toArray)) }:=by
  refine f_<|wpAny_load (hZ e0 _) ?_;show wpAny ?D A (pure ((#[]:UF SZ)++vs.toArray).toList) Q E _;rw[show((#[]:UF SZ)++vs.toArray).toList=vs by simp];exact l_ h
 let hc||hc:=hc
 ·refine f_<|iD (T := "list") {o,Ve,hc} ?_;rw[ap (by rw[show(Value.type "list" == Value.type "list")=true from rfl];simp)];refine f_<|qZ Ve hd<|f_<|qZ (xs:=#[]) (n:=0) e0 rfl ?_;rw[ba ?E];exact f_<|uz (xs:=#[]) (n:=0) e0 rfl (l_ tail) ?U sz
 ·refine f_<|iD (T := "tuple") {o,Ve,hc} ?_;rw[ap (by rw[show(Value.type "tuple" == Value.type "tuple")=true from rfl];simp)];refine f_<|qZ Ve hd<|f_<|qZ (xs:=#[]) (n:=0) e0 rfl ?_;rw[ba ?E];exact f_<|uz (xs:=#[]) (n:=0) e0 rfl (l_ tail) ?U sz
def hW(s:Tk)(vs:Re SZ):Tk:={ s with heap:=s.heap.push (seqObj "list" vs.toArray 0) }
def Xy{x:SZ}{Q:t_}(col:∀(E':t_) (Q':Re SZ->Tk->Prop),(∀vs s2,(vs.length<=sizeLine/\∃(κ:SortKind) (rk:SZ->Int),
   (2<=vs.length->∀(E':t_) (Q:SortKind->Tk->Prop),Q κ (mid (hW s2 vs) s2.heap.objs.size vs)->wpAny ?D A.in1.in1 (keyKind' vs.toArray) Q E' (mid (hW s2 vs) s2.heap.objs.size vs)) /\
   (2<=vs.length->fE prog w A.in1.in1 (mid (hW s2 vs) s2.heap.objs.size vs) κ rk (pairsOf vs)) /\
   ∀out:UF SZ,out.toList.Perm vs->out.toList.Pairwise (λx y=>rk x<=rk y)->Q (.ref s2.heap.objs.size) { s2 with heap:=sortedHeap (hW s2 vs).heap s2.heap.objs.size vs out })->Q' vs s2)->wpAny ?D A.in1 (collect x) Q' E' s) :
  wpAny ?D A (call (.builtin "sorted") [x]) Q E s:=by
 refine Calls.call_function_entry kind_sorted plain_sorted entry_sorted (args_sorted1 _) ?_;unfold Builtin.«sorted»;refine f_ (m:=checkCount "sorted" 1 1 _)<|l_<|f_<|col _ _ λvs s2 ⟨hz,κ,rk,hk,hC,h⟩=>f_<|wpAny_newList ?_;have hg:(hW s2 vs).heap.get? s2.heap.objs.size=some (seqObj "list" vs.toArray 0):=cN _ rfl;show wpAny _ _ _ _ _<|hW s2 vs;exact f_<|um<|pd slot_list_sort {_,hg,rfl} entry_list_sort (Fu hg hz (λc=>hk c _) hC λout a1 a2=>{_,rfl,l_ {_,rfl,h out a1 a2}})<|args_list_sort _
def RE{h:Wp}{a:Tl}{out:UF SZ}{b:Tl}(VF:b≠a)(e:h.get? b=some o):(sortedHeap h a vs out).get? b=some o:=by
 have r_:b<h.objs.size:=bj e;unfold sortedHeap;rw[ze _ _ _ _ VF,zi _ _ _ (by rw[rR,yp];exact eh<|n_ r_),zi _ _ _ (by rw[yp];exact eh r_),ze _ _ _ _ VF];exact e
def U7{h:Wp}{a:Tl}{out:UF SZ}(ho:h.get? a=some (seqObj "list" vs.toArray n)):∃e,(sortedHeap h a vs out).get? a=some (seqObj "list" out e):=by
 have r_:a<h.objs.size:=bj ho;obtain⟨ep,e1⟩:∃ep,(h.update a<|Obj.mapSeq λ_=>#[]).get? a=some (seqObj "list" #[] ep):={_,hZ ho λ_=>#[]};unfold sortedHeap;refine{_,hZ (n:=ep) (xs:=#[]) ?_ λ_=>out};rw[zi _ _ _ (by rw[rR,yp];exact eh<|n_ r_),zi _ _ _ (by rw[yp];exact eh r_)];exact e1
def HV{b:Tl}(e:s.heap.get? b=some o):(mid (hW s vs) s.heap.objs.size vs).heap.get? b=some o:=by
 have r_:b<s.heap.objs.size:=bj e;unfold mid hW;dsimp only;rw[zi _ _ _ (by rw[rR,yp,rR];exact eh<|n_<|n_ r_),zi _ _ _ (by rw[yp,rR];exact eh<|n_ r_),ze _ _ _ _<|eh r_];exact v_ _ e
end
end TS
namespace L4
open PySem PySem.Spec PyProof.Rows L2 L3
variable {α:Type}
section
open HT
def Xx:∀a:Re Int,lexLt a a=false
 | []=>rfl
 | x::a=>by rw[Q_,ap rfl];exact Xx a
def Fp:∀{a b c:Re Int},lexLt a b=true->lexLt b c=true->lexLt a c=true
 | [],[],_,h,_=>by cases h
 | [],_::_,[],_,h=>by cases h
 | [],_::_,_::_,_,_=>rfl
 | _::_,[],_,h,_=>by cases h
 | _::_,_::_,[],_,h=>by cases h
 | x::a,y::b,z::c,h1,h2=>by
  rw[Q_]at h1 h2 ⊢;by_cases e1:x=y
  ·by_cases e2:y=z
   ·rw[ap e1]at h1;rw[ap e2]at h2;rw[ap<|e1.trans e2];exact Fp h1 h2
   ·rw[ba e2,aQ]at h2;rw[ba ?A,aQ];lia
  ·rw[ba e1,aQ]at h1;by_cases e2:y=z
   ·rw[ba ?A,aQ];lia
   ·rw[ba e2,aQ]at h2;rw[ba ?A,aQ];lia
def C1:∀{a b:Re Int},lexLt a b=false->lexLt b a=false->a=b
 | [],[],_,_=>rfl
 | [],_::_,h,_=>by cases h
 | _::_,[],_,h=>by cases h
 | x::a,y::b,h1,h2=>by
  rw[Q_]at h1 h2;by_cases e:x=y
  ·rw[ap e]at h1;rw[ap e.symm]at h2;rw[e,C1 h1 h2]
  ·rw[ba e,ug]at h1;rw[ba λz=>e z.symm,ug]at h2;lia
def Bo{a b:Re Int}(h:lexLt a b=true):lexLt b a=false:=by
 cases q:lexLt b a with
 | false=>rfl
 | true=>have:=Fp h q;rw[Xx]at this;cases this
end
def Dt{p q:α->Bool}{l:Re α}{x:α}(h:∀y∈l,p y=true->q y=true)(hx:x∈l)(h1:p x=false)(h2:q x=true):l.countP p<l.countP q:=by
 induction l with
 | nil=>cases hx
 | cons y l ih =>
  have hm:∀z∈l,p z=true->q z=true:=λz hz=>h z<|xO _ hz
  have le:l.countP p<=l.countP q:=List.countP_mono_left hm;rw[List.countP_cons,List.countP_cons];let rfl||hx:=List.mem_cons.mp hx
  ·rw[h1,h2];simp;lia
  ·have:=ih hm hx;have hy:=h y da
   cases e:p y with
   | false=>simp;lia
   | true=>rw[hy e];simp;lia
def dG{α:Type}(l:Re α)(k:α->Re Int)(x:α):Int:=(l.countP λu=>HT.lexLt (k u)<|k x:Nat)
def AK{l:Re α}{k:α->Re Int}{x y:α}(hx:x∈l)(hy:y∈l):decide (dG l k x<dG l k y)=HT.lexLt (k x) (k y):=by
 have up:∀x y,x∈l->HT.lexLt (k x) (k y)=true->dG l k x<dG l k y:=λx y hx h=>by
  have:=Dt (p:=λu=>HT.lexLt (k u)<|k x) (q:=λu=>HT.lexLt (k u)<|k y) (l:=l) (λz _ hz=>Fp hz h) hx (Xx _) h;unfold dG;lia
 cases e:HT.lexLt (k x) (k y)with
 | true=>exact be<|up x y hx e
 | false =>
  rw[ug];intro z
  cases e2:HT.lexLt (k y) (k x)with
  | true=>have:=up y x hy e2;lia
  | false =>
   have ek:=C1 e e2;unfold dG at z;rw[ek]at z;lia
def C0{R:D->D->Prop}:∀{a b:Re D},(∀x∈b,∀y∈b,R x y->R y x->x=y)->a.Perm b->a.Pairwise R->b.Pairwise R->a=b
 | [],b,_,hp,_,_=>by simpa using hp.symm.eq_nil
 | x::r,b,hR,hp,ha,hb=>by
  cases b with
  | nil=>exact absurd hp.length_eq ?E
  | cons y t =>
   rw[List.pairwise_cons]at ha hb;have hx:x∈y::t:=hp.mem_iff.mp da;have hy:y∈x::r:=hp.mem_iff.mpr da;have e:x=y:=by
    let e||R0:=List.mem_cons.mp hx
    ·exact e
    ·let e||Wv:=List.mem_cons.mp hy
     ·exact e.symm
     ·exact hR x hx y da (ha.1 y Wv)<|hb.1 x R0
   subst e;rw[C0 (λx hx y hy=>hR x (xO _ hx) y<|xO _ hy) (List.Perm.cons_inv hp) ha.2 hb.2]
def HW{β:Type}{f:α->β}:∀{out:Re β} {l:Re α},out.Perm (l.map f)->∃l':Re α,l'.Perm l/\l'.map f=out:=by
 intro out l h;generalize e:l.map f=m at h
 induction h generalizing l with
 | nil =>
  cases l with
  | nil=>exact{[],.refl _,rfl}
  | cons y l=>cases e
 | @cons x a b hp ih =>
  cases l with
  | nil=>cases e
  | cons y l =>
   rw[aw]at e;injection e with e1 e2;let{l',h1,h2}:=ih e2;exact{y::l',h1.cons y,by rw[aw,h2,e1]}
 | @swap x y a =>
  match l,e with
  | u::v::l,e =>
   rw[aw,aw]at e;injection e with e1 e2;injection e2 with e2 e3;exact{v::u::l,.swap _ _ _,by rw[aw,aw,e1,e2,e3]}
 | @trans a b c h1 h2 ih1 ih2 =>
  let{l1,p1,q1}:=ih2 e;let{l2,p2,q2}:=ih1 q1;exact{l2,p2.trans p1,q2}
end L4
namespace L4
open PySem PySem.Spec PyProof.Rows L2 L3 TS
theorem triples{K:Fg}{F:Hp}:∀{vs:Re V} {ds:Re D} {i_:Re SZ},h_ K F vs ds->Vals vs i_->∃L:Re (V×D×SZ),L.map (·.1)=vs/\L.map (·.2.1)=ds/\L.map (·.2.2)=i_/\∀t∈L,Rep K F t.1 t.2.1/\RelV t.1 t.2.2:=by
 intro vs ds i_ h r
 induction vs generalizing ds i_ with
 | nil=>cases h;cases r;exact{[],rfl,rfl,rfl,λ_ h=>by cases h}
 | cons v vs ih=>cases h with
  | cons h t=>cases r with
   | cons r rr =>
    let{L,e1,e2,e3,e4}:=ih t rr;refine{(_,_,_)::L,by rw[aw,e1],by rw[aw,e2],by rw[aw,e3],λx hx=>?_};let rfl||hx:=List.mem_cons.mp hx
    ·exact{h,r}
    ·exact e4 x hx
def Fo{K:Fg}{F:Hp}:∀{L:Re (V×D×SZ)},(∀t∈L,Rep K F t.1 t.2.1/\RelV t.1 t.2.2)->h_ K F (L.map (·.1)) (L.map (·.2.1))/\Vals (L.map (·.1)) (L.map (·.2.2))
 | [],_=>{.nil,.nil}
 | x::L,h=>by
  let{h1,h2}:=h x da;let{h3,h4}:=Fo (L:=L) λt ht=>h t<|xO _ ht
  exact{.cons h1 h3,.cons h2 h4}
end L4
namespace TS
open PySem PyProof.Rows
noncomputable def DR(h:Wp)(d:Tl)(es:UF DictEntry)(ep:Nat):Prop:=∃o,h.get? d=some o/\o.ExactDict/\o.data=.dict es ep
theorem DR.ty{s:Tk}{d:Tl}{es:UF DictEntry}{ep:Nat}(x:DR s.heap d es ep):s.TypeIs (.ref d) "dict":=let ⟨o,e,c,_⟩:=x;{o,e,c.1}
section
variable {prog:TD}{w:TW}{A:UV}{E:t_}{s:Tk}{d it:Tl}{es:UF DictEntry}{ep i:Nat}
def YU{Q:t_}(lo:(d==sysModules)=false)(x:DR s.heap d es ep)(q:Q (.ref s.heap.objs.size) { s with heap:=s.heap.push { cls:=.type "dict_keyiterator",data:=.fields #[.ref d,.int 0 0,.int es.size 0,.int ep 0] } }) :
  wpAny ?D A (pyIter<|.ref d) Q E s:=by
 let{o,e1,e2,e3}:=id x;refine wpAny_pyIter_slot x.ty F.slot_dict_iter<|pd F.slot_dict_iter x.ty F.entry_dict_iter ?_<|F.args_dict_iter_1 _;unfold Builtin.«dict.__iter__»;refine f_ ?_;unfold Builtin.Dict.dictSlotNone;refine f_<|yB x.ty<|show wpAny ?D _ (pure<|Value.ref d) _ _ s from l_ ?_;refine(show wpAny ?D _ (Builtin.Dict.showsAll d >>= _) _ _ s from ?_);unfold Builtin.Dict.showsAll;rw[ba (by rw[lo];decide)];refine f_<|l_<|f_<|lB e1 e3<|f_<|qb e1 e3<|f_<|io<|l_ {_,rfl, "dict_keyiterator",_,{_,cN _ rfl,rfl},F.slot_dict_keyiterator_next.lookup,?_};simpa[rawInt]using q
def Ws{n:Nat}{Q:SL SZ->Tk->Prop}(hit:s.heap.IsKeyIter it d i es.size ep)(x:DR s.heap d es ep)
  (q1:∀(hi:i<es.size) (h':Wp),h'.IsKeyIter it d ?jx es.size ep->Heap.SameBut it s.heap h'->Q (some es[i].key) { s with heap:=h' })
  (q2:es.size<=i->A.handled=none/\∀h',Heap.ExtBut it s.heap h'->Q none { s with heap:=h' }):wpAny ?D A (pyNext<|.ref it) Q E s:=by
 let{o,ho,hc,hd}:=id hit;let{od,f1,f2,f3}:=id x;have T:=hit.typeIs;have no:Builtin.Dict_items.ownsTuple "dict_keyiterator" = false:=by decide
 have pos:¬ ((i:Int)<0):=by lia
 unfold pyNext;refine f_<|zM<|mo (name:=Str.ofString "__next__") T F.slot_dict_keyiterator_next<|pd F.slot_dict_keyiterator_next T F.entry_dict_keyiterator_next ?_<|F.args_dict_keyiterator_next_1 _;refine f_<|l_<|f_<|f_<|f_<|ud T<|l_<|f_<|wpAny_fieldsOf ho hd ?_;simp![no,Bool.false_eq_true,lw];refine(show wpAny ?D _ (if(Value.ref d==Value.none)=true then _ else _) _ _ s from ?_);rw[ba<|show ¬ ((Value.ref d==Value.none)=true)from λz=>Bool.noConfusion z];refine f_<|l_<|f_<|lB f1 f3 ?_;rw[ba ?E];refine f_<|l_<|f_<|qb f1 f3 ?_;rw[ba ?E];refine l_ ?_;by_cases hi:i<es.size
 ·simp![pos,lw,i7,ay hi];refine f_<|f_<|ud T<|l_<|f_<|wpAny_isOneOf_keyiter T ?_;refine(show wpAny ?D _ (setField (.ref it) 1 (rawInt<|(i:Int)+1) >>= _) _ _ s from f_<|nz ho hd ?E ?_);have YX:(s.heap.update it (Obj.mapFields (·.setIfInBounds 1<|rawInt<|(i:Int)+1))).IsKeyIter it d ?jx es.size ep :=
   {_,xv _ ho<|jH<|r9 hd _,(e8 ..).trans hc,by rw[r9 hd];simp[rawInt]}
  refine f_ (um (f_ (wpAny_isOneOf_keyiter (s:={ s with heap:=s.heap.update it (Obj.mapFields (·.setIfInBounds 1<|rawInt<|(i:Int)+1)) }) YX.typeIs ?_)));refine(show wpAny ?D _ (pure es[i].key) _ _ _ from l_<|l_ {_,rfl,l_<|q1 hi _ YX<|Heap.SameBut.update ..})
 ·let{hh,q}:=q2 ?A;simp![pos,lw,i7,Array.getElem?_eq_none (show es.size<=i by lia)];refine f_<|f_<|ud T<|l_ ?_;refine(show wpAny ?D _ (setField (.ref it) 0 .none >>= _) _ _ s from f_<|nz ho hd ?E ?_);refine(show wpAny ?D _ (newExc (.type "StopIteration") [] >>= _) _ _ _ from f_ ?_);simp![newExc,newTuple];refine f_ (io ?_ (by size_fits));refine f_ (m:=firstArgMember _ _) (wpAny_of_eq (a:=Value.none) (by first|rfl|(simp![firstArgMember];rfl)) ?_);refine io ?_ (by size_fits);simp![raiseNew];refine f_<|wpAny_handled ?_;rw[show A.in1.handled=none from hh];refine f_<|l_<|wpAny_throw ?_;refine f_ (nA (T := "StopIteration") (b:=true) (by exact{_,cN _ rfl,rfl}) isSubtype_stop ?_);exact l_<|q _<|((Heap.SameBut.update ..).extBut.push _).push _
end
end TS
namespace L4
open PySem PySem.Spec PyProof.Rows L2 L3 TS
variable {K:Fg}
theorem _root_.L3.b_.zan{G:Gh}{F H:Hp}{Z:L2.St}{ρ:En}(S:b_ K G F Z H ρ){b:Tl}{vs:Re V}{ds:Re D}(hb:H b=some (.tup vs))(r:h_ K F vs ds):∃F',c_ F F'/\b_ K G F' Z H ρ/\Rep K F' (.ref b) (.tuple ds):=by
 cases e:F b with
 | some o =>
  have:=S.fh b o e;rw[hb]at this
  cases this
  exact{F,c_.refl _,S,.tup e r}
 | none =>
  have og:G.O b=none:=by
   cases q:G.O b with
   | none=>rfl
   | some o =>
    have:=S.oh b o q;rw[hb]at this
    cases this
    exact((S.fo b _ q).2:False).elim
  refine{upd F b<|.tup vs,PE e,S.freeze hb e og λi c ho z=>?_,.tup UQ<|r.mono<|PE e};let{a,e1,oa}:=S.ow i c ho;rw[z]at e1;injection e1 with e1;injection e1 with e1;injection e1 with e1;subst e1;exact(oa.he.Xu hb:False)
def Hi{F:Hp}:∀k:Key,Rep K F (kV k)<|L3.N_ k
 | .inl i=>.int i
 | .inr x=>.str x
def CZ{K:Fg}{F:Hp}:∀ks:Re Key,h_ K F (ks.map kV)<|ks.map L3.N_
 | []=>.nil
 | k::ks=>.cons (Hi k)<|CZ ks
def Eg{G:Gh}{H:Hp}{Z:L2.St}{ρ:En}:∀{kvs:Re ?qm} {xs:Re ?jO} {F:Hp},KT H kvs xs->b_ K G F Z H ρ ->
  ∃F',c_ F F'/\b_ K G F' Z H ρ/\h_ K F' (xs.map λq=>V.ref q.2.1) (kvs.map λp=>cY p.1)/\Vals (xs.map λq=>V.ref q.2.1) (xs.map λq=>Value.ref q.2.1):=by
 intro kvs xs F r S
 induction r generalizing F with
 | nil=>exact{F,c_.refl _,S,.nil,.nil}
 | @cons p q ps qs h t ih =>
  let{h1,h2,h3}:=h;let{F1,s1,S1,r1}:=S.zan h2<|CZ p.1;let{F2,s2,S2,r2,v2}:=ih S1;exact{F2,s1.trans s2,S2,.cons ?qH r2,.cons rfl v2}
end L4
namespace L4
open PySem PySem.Spec PyProof.Rows L2 L3
variable {X:Cx}{pos:Pos}{x:Str}{K:Fg}{f:Tl}{fd:FuncData}{ps:Re Str}{e ke ve:Uf}
def zR:Re Int->SL Int
 | []=>none
 | n::r=>some<|r.foldl min n
def yb:Re D->SL D
 | [.list ds]=>match intsOf ds with
  | some ns=>(zR ns).map PyData.int
  | none=>none
 | l=>gY l
def Dk(r:Re Int):∀n:Int,r.foldl min n<=n/\(∀i∈r,r.foldl min n<=i)/\(r.foldl min n=n\/r.foldl min n∈r):=by
 induction r with
 | nil=>grind
 | cons a r ih =>
  intro n;let{h1,h2,h3}:=ih<|min n a;rw[ng];refine{by lia,λi hi=>?_,?_}
  ·let rfl||hi:=List.mem_cons.mp hi
   ·lia
   ·exact h2 i hi
  ·let h3||h3:=h3
   ·rw[h3];by_cases hna:a<=n
    ·right;rw[show min n a=a by lia];exact da
    ·lia
   ·right;exact xO _ h3
def CY{ns:Re Int}{i:Int}(h:zR ns=some i):(∀j∈ns,i<=j)/\i∈ns:=by
 cases ns with
 | nil=>cases h
 | cons n r =>
  cases h
  let{h1,h2,h3}:=Dk r n
  grind
def Dy(hc:X.calm=true):k_ X (.builtin "min") (pT X.K zR):=by
 intro pins s Z H xs us Q I r h0;let{a,ns,i,rfl,hq,e,q}:=h0;let{u,rfl,ru}:=Vals.one r
 cases ru
 let{i_,rv,pl,hz}:=I.list hq;let{ps,rfl,rfl}:=AW rv;have WR:ps≠[]:=by rintro rfl;cases e
 have hl:s.heap.IsList a (intItems ps.toArray):=by
  have:=pl.isList;unfold intItems;simpa using this
 have XM:0<ps.length:=List.length_pos_iff.mpr WR;refine min_intList (I.ok.hd hc) hl (by simpa using XM) λv h' tk hv hk=>?_
 let{t,rfl}:=intItems_at hv;refine{.int _,H,I.kept hk,{_,rfl},?_};have b:=argBest_lt (numAt ps.toArray) ?qh;generalize argBest (λi j=>decide<|numAt ps.toArray i<numAt ps.toArray j) ?qh=m at b hv;have hm:m<ps.length:=by
  have h0:=b.1;simp at h0;lia
 have Uy:=CY e;have e1:numAt ps.toArray m=i:=by
  refine Int.le_antisymm ?_ ?_
  ·let{j,hj,ej}:=ou Uy.2;have h0:=b.2 j (by simp at hj ⊢;lia);rw[AB (i:=j),fu,ax hj]at h0;rw[<-ej];exact h0
  ·refine Uy.1 _ ?_;rw[AB,fu,ax (by simpa using hm)];exact ib _
 rw[e1];exact q
def yN(K:Fg):Re V->Hp->VK->Prop:=λxs H Q=>pT K zR xs H Q\/∃i j,xs=[.int i,.int j]/\Q (.int<|if j<i then j else i) H
def Dz(hc:X.calm=true):k_ X (.builtin "min") (yN X.K):=(Dy hc).or<|DA hc
def HJ:iB K (yN K) yb:=by
 intro G F Z H ρ xs ds res Q S o e k;unfold yb at e;split at e
 ·split at e
  case h_2=>cases e
  rename_i ns W_;let{i,hi,rfl}:=Option.map_eq_some_iff.mp e;let{v,r,rfl,ho,hr}:=Ou o;obtain rfl:=PG hr;let{a,vs,rfl,h1,h2}:=ho.list S.fh;rw[NJ W_]at h2;rw[AT h2]at h1;exact .inl {a,ns,_,rfl,h1,hi,k _ F H ?J S<|(.int _)}
 ·exact .inr<|HK G F Z H ρ xs ds res Q S o e k
section
variable {prog:TD} {w:TW} {A:UV} {E:t_} {s:Tk}
def GB(d:Tl)(hd:(d==sysModules)=false) :
  MeetsIn prog w (Builtin.«dict.__len__» {[.ref d],[]}) (λ_ R s=>∃o es ep,s.heap.get? d=some o/\o.data=.dict es ep/\R (.ok<|.ret<|.int es.size s.toks) { s with toks:=s.toks+1 }) :=
 .of_wp λA R s ⟨o,es,ep,ho,T2,h⟩=>by
  show wpAny _ _ (dictSize d >>= _) _ _ s;refine f_<|f_<|lB ho T2<|l_ ?_;refine f_<|wpAny_pendingCount_other hd ?_;refine wpAny_ret_mkInt ?_
  grind
def Ae{d:Tl}{o:Obj}{es:UF DictEntry}{ep:Nat}{Q:t_}(hd:(d==sysModules)=false)(ho:s.heap.get? d=some o)(hc:o.cls=.type "dict")(T2:o.data=.dict es ep)(Vg:(es.size:Int)<2^63)
  (h:Q (.int es.size<|s.toks+1) { s with toks:=s.toks+1+1 }):wpAny ?D A (call (.builtin "len") [.ref d]) Q E s:=by
 have ty:s.TypeIs (.ref d) "dict":={o,ho,hc};refine Calls.call_function_entry kind_len plain_len entry_len (args_len1 _) ?_;refine f_<|l_ ?_
 refine f_<|mo  ty F.slot_dict_len
  <|q8 F.slot_dict_len ty F.entry_dict_len (F.args_dict_len_1 _) (GB d hd) {o,es,ep,ho,T2,?_}
 refine f_<|um<|l_ ?_;refine f_<|sC ?_;rw[ba ?A];rw[ba ?A];exact f_<|wpAny_mkInt<|l_ {_,rfl,h}
end
def vP:Re V->Hp->VK->Prop:=λxs H Q=>∃a n,xs=[.ref a]/\((∃kvs,Rd H a (.dT kvs)/\n=kvs.length)\/∃kvs,H a=some (.dK kvs)/\n=kvs.length)/\Q (.int (n:Nat)) H
def DF:k_ X (.builtin "len") vP:=by
 intro pins s Z H xs us Q I r h0;let{a,n,rfl,hd,q}:=h0;let{u,rfl,ru}:=L2.Vals.one r
 cases ru
 let{kvs,e,rfl}||{kvs,e,rfl}:=hd
 ·let{z,lo,xs,kt,o,es,ep,h1,h2,h3,h4,_}:=Q3 I.j_ e;have el:es.size=kvs.length:=by
   rw[<-gu,h4,u_];exact(Paired.length kt).symm
  refine Ae lo h1 h2.1 h3 (by rw[wH]at z;lia) ?_;rw[el];exact{.int _,H,I.tok _,{_,rfl},q}
 ·exact N5 I (.inl e) λt s' I'=>{.int _,H,I',{_,rfl},q}
def zG(K:Fg):Re V->Hp->VK->Prop:=λxs H Q=>aT K xs H Q\/vP xs H Q
def B0:k_ X (.builtin "len") (zG X.K):=k_.or J7 DF
def Ey:iB K (zG K) sT:=by
 intro G F Z H ρ xs ds res Q S o e k;unfold sT at e;split at e
 ·rename_i es;split at e
  ·cases e
  ·rename_i nx
   cases e
   let{v,r,rfl,ho,hr}:=Ou o;obtain rfl:=PG hr;let{a,rfl,hh}:=ho.dict S.fh (by simpa using nx);refine .inr {a,es.length,rfl,?_,k _ F H ?J S<|.int _};let{kvs,h1,h2,_}||{kvs,h1,h2,_}:=hh
   ·exact .inl {kvs,h1,by have:=congrArg List.length h2;simpa using this}
   ·exact .inr {kvs,h1,by have:=congrArg List.length h2;simpa using this}
 ·exact .inl<|Pr G F Z H ρ xs ds res Q S o e k
def nU{S:Type}(i j:Nat):SM S:=λK ρ=>match i3 ρ i with
 | some ds=>match ds.getLast? with
  | some d=>match jT (qi ρ i ds.dropLast) j with
   | true=>K.nx<|(qi ρ i ds.dropLast).set j<|some<|.fz d
   | false=>.bad
  | none=>.bad
 | none=>.bad
section
variable {S:Type} {pos' apos q_ zal:Pos}
def IQ{i j:Nat}{y:Str}(hN:X.N[i]? = some x)(hv:Vx X.env.scope x)(hnd:X.N.Nodup)(hj:X.N[j]? = some y)(hy:Loc X.env.scope y)(SW:i≠j)
  (RG:attributeBase (.Name x pos') "pop" X.env (eval (.Name x pos') X.env)=eval (.Name x pos') X.env) (RF:?jI=true)
  (XJ:swapsWith (.Call (.Attribute (.Name x pos') "pop" apos) [] [] q_) (some<|.Name y zal) pos.line X.env=pure false) (hf:X.fn y=true\/X.env.scope.names.lookup y=some .local) (hd:(x==("__debug__" : Str))=false:=by decide) (RB:(x==("__classdict__" : Str))=false:=by decide) :
  wG X (.Assign [.Name y zal] (.Call (.Attribute (.Name x pos') "pop" apos) [] [] q_) pos) (nU (S:=S) i j):=λOK K G F Z H ρ E hO hX St ok eo =>
 E3 (PR hnd hj hy (KJ xx PySem.F.slot_list_pop PySem.F.type_list_pop Lf ?jZ RG RF) XJ hf) (by
  unfold nU at ok;split at ok
  case h_2=>exact(hO ok).elim
  rename_i ds0 h0;split at ok
  case h_2=>exact(hO ok).elim
  rename_i d Zv;split at ok
  case h_2=>exact(hO ok).elim
  rename_i zab;let{hl,T_}:=K0 zab;let{a,Zk,ea,hh,rv}:=TY St h0;have hlen:=rv.length;rw[List.getLast?_eq_getElem?]at Zv;let{u,hu,ru}:=rv.get Zv;refine{_,ea,.inl {rfl,Zk,.inl<|.inl hh},a,Zk,u,rfl,rfl,hh,by rw[hlen];exact hu,?_}
  exact eo.nx F _ _ _ ?J ((Ui St h0 ea<|EF rv).store T_ hl<|.inl {d,rfl,ru}) ok)
end
structure Vz(K:Fg)(x qual:Str)(st:Stmt)(f:Tl)(fd:FuncData)(T:Tl):Prop where
 ex:∃(oc:SZ) (od:SL Tl) (kV doc pm:SZ) (an:SL Tl) (p_ ct:SZ) (Us:UF (SL SZ)),
  fd=PySem.W.fnOf x qual (dH st) ?qx ?jW (.ref T) kV doc pm an p_ ct/\K.lookup f=some {oc,od,.func fd,Us}/\PySem.W.codeIn K p_ qual=true
 kp:PySem.W.keepIn K (.ref f)=true
section
variable {P:TD} {w:TW} {mg:R1} {base:Wp} {qual:Str} {st:Stmt} {T:Tl} {N:Re Str} {k:Nat}
def Im{oc:SZ}{od an:SL Tl}{Us:UF (SL SZ)}{kV doc pm p_ ct:SZ}(l:K.lookup f=some {oc,od,.func<|PySem.W.fnOf x qual (dH st) ?qx ?jW (.ref T) kV doc pm an p_ ct,Us})
  (c:PySem.W.codeIn K p_ qual=true) (k:PySem.W.keepIn K (.ref f)=true):Vz K x qual st f (PySem.W.fnOf x qual (dH st) ?qx ?jW (.ref T) kV doc pm an p_ ct) T:={{oc,od,kV,doc,pm,an,p_,ct,Us,rfl,l,c},k}
def NZ{sp:Sp}(Fn:Vz K x qual st f fd T)(S:o_ N ps ?jW)(len:∀vs H Q E,sp vs H Q E->vs.length=ps.length)
  (Vi:∀(p_:SZ) (A:UV) (outer:Re Env) (s:Tk) (H:Hp) (vs:Re V) (Q:VK) (E:XK),z_ k ?ja->sp vs H Q E ->
   ∃t,zA ?V ?qx t/\t { nx:=λ_ H'=>Q .Rq H',rt:=Q } (start N vs) H):RC P w K mg base (qL P w) (k+1) f fd ps sp:=by
 let{oc,od,kV,doc,pm,an,p_,ct,Us,rfl,lk,RB}:=Fn.ex;exact JT lk RB S len λA outer s H vs Q E hr Uy=>Vi p_ A outer s H vs Q E hr Uy
def Ir{mb:SM D}{mf:Re D->M D}(Fn:Vz K x qual st f fd T)(Sc:o_ N ps ?jW)
  (hb:∀(p_:SZ) (A:UV) (outer:Re Env) (s:Tk) (H:Hp) (E:XK),z_ k ?ja ->
   cb ?V ?qx mb)
  (hm:∀ds,ds.length=ps.length->mf ds=mb mn (Sw ds++List.replicate ?jz none)):RC P w K mg base (qL P w) (k+1) f fd ps (pN K ps.length mf):=by
 refine NZ Fn Sc (λvs H Q E h=>?_) λp_ A outer s H vs Q E hr h=>?_
 ·let{_,_,_,h1,_}:=h;exact h1
 ·let{G,F0,ds,h1,S0,e}:=h;have hl:ds.length=ps.length:=by grind
  rw[hm ds hl]at e;refine{_,JF,hb p_ A outer s H E hr (λm=>qE K G E m _) mn G F0 _ H _ _ (λz=>z) (λF ρ e z=>BR z) (Pe h1 S0) e ?_};exact{λF' σ' H' ρ' s S' o=>((o .Rq F' H' s (N0 S0 s S') .Rq)),λF' σ' H' ρ' d' v s S' r o=>((o v F' H' s (N0 S0 s S') r)),λF' σ' H' ρ' d' v s S' r o=>(o).elim,λF' σ' H' ρ' s S' o=>(o).elim,λF' σ' H' ρ' s S' o=>(o).elim}
end
structure CFd(P:TD)(w:TW)(K:Fg)(mg:R1)(base:Wp)(x:Str)(k:Nat)(sp:Sp)(i:Int):Prop where
 ex:∃(f:Tl) (fd:FuncData) (ps:Re Str) (u:SZ),RC P w K mg base (qL P w) k f fd ps sp/\mg x=some (.ref f)/\PySem.W.keepIn K (.ref f)=true/\L2.Binds K fd ps [u]/\RelV (.int i) u
def sj(mf:Re D->M D)(i:Int)(ps:Pa D):Pu D:=λρ=>ps (λds=>mf<|ds++[.int i]) ρ
section
variable {k:Nat} {sp:Sp} {E:XK} {p:Pos} {es:Re Uf} {Z:L2.St} {H:Hp} {Q:VK} {i:Int} {u:SZ}
def Cw(F:RC X.prog X.w X.K X.mg X.base (qL X.prog X.w) k f fd ps sp)(hr:z_ k X.A)(hg:uf X x)(hm:X.mg x=some (.ref f))(hk:PySem.W.keepIn X.K (.ref f)=true)(hb:L2.Binds X.K fd ps [u])(hu:RelV (.int i) u)(hx:oR X Z E)
  (SQ:(x==("__debug__" : Str))=false) (he:starEach (e::es) X.env=?N::starEach es X.env) (Sg:(backTo pos ?W).any (·.1)=false)
  (h:jf X (e::es) Z H λvs H1=>sp (vs++[.int i]) H1 Q E):gW X (.Call (.Name x p) (e::es) [] pos) Z H Q:=by
 unfold gW;intro pins s I;unfold jf at h;refine xz<|Bq I hg hm ?_ SQ;refine PySem.W.callWith_K  I.ok.mod.XG hk (Db (h pos pins s I) λus s1 ⟨vs,H1,I1,r,q⟩=>{I1.Vb,?_}) he Sg;have r2:=r.append<|.cons hu .nil;have hl:(us++[u]).length=ps.length:=by rw[<-r2.length];exact F.len _ _ _ _ q
 refine wpAny_call<|codeAny_mono (F.run X.A X.stack s1 H1 {us,[]} (us++[u]) (vs++[.int i]) Q E hr I1.zaF (hb s1 us I1.Vb hl) r2 q) λr s' hq=>?_
 cases r with
 | error e=>exact hx pins H1 s1 e s' I1 hq
 | ok fl =>
  cases fl with
  | ret u=>exact I1.after hq
  | next=>exact False.elim hq
  | brk=>exact False.elim hq
  | cont=>exact False.elim hq
end
section
variable {k n:Nat} {mf:Re D->M D} {ml:Re D->M ?R} {p:Pos} {es:Re Uf} {ps:Pa D} {pl:Pa ?R} {i:Int}
def U9{F:Hp}{vs:Re V}{ds:Re D}(r:h_ K F vs ds):h_ K F (vs++[.int i]) (ds++[.int i]):=r.append<|.cons (.int i) .nil
def Ma(C:CFd X.prog X.w X.K X.mg X.base x k (pN X.K n mf) i)(hr:z_ k X.A)(ha:jl X (e::es) ps)(hg:uf X x:=by rfl)(hn:(e::es).length+1=n:=by rfl)
  (SQ:(x==("__debug__" : Str))=false:=by decide) (he:starEach (e::es) X.env=?N::starEach es X.env:=by rfl) (Sg:(backTo pos ?W).any (·.1)=false:=by rfl):lj X (.Call (.Name x p) (e::es) [] pos) (sj mf i ps):=by
 let{f,fd,pz,u,Fn,h1,h2,h3,hu}:=C.ex;intro G F Z H ρ Q St w;refine Cw Fn hr hg h1 h2 h3 hu (Bd (G:=G)) SQ he Sg ?_;refine ha G F Z H ρ _ _ _ St w λds vs F1 H1 s1 S1 hl r1 w1=>?_
 have hz:(vs++[V.int i]).length=n:=by grind
 cases hd:mf (ds++[.int i])with
 | bad=>rw[hd]at w1;exact w1.elim
 | exc e =>
  rw[hd]at w1;exact{_,F1,ds++[.int i],hz,JX S1<|U9 r1,by rw[hd];exact λF' H' Cl dd g xr=>EX.of S1 w1 g xr}
 | ret d =>
  rw[hd]at w1;refine{_,F1,ds++[.int i],hz,JX S1<|U9 r1,?_};rw[hd];intro v F2 H2 s2 S2 r2;let{S3,t3}:=Pf  S1 s2 S2;exact w1 F2 H2 s2 S3 v r2
end
section
variable {pins:w_} {Z:L2.St} {H:Hp} {s:Tk} {a b:Tl} {v:V} {u r:SZ} {A:UV} {E:t_} {k:Re Key}
def Dr{kvs:Re ?qm}{Q:Unit->Tk->Prop}(hu:A.units+1<cLine)(I:Inv X pins Z H s)(e:H a=some (.dT kvs))(eb:H b=some (.tup<|k.map kV))(rv:RelV v r)(l:kvs.length<sizeLine)
  (h:∀s',Inv X pins Z (upd H a<|.dT<|putK kvs k v) s'->Q () s'):wpAny ?B A (dictSet a (.ref b) r) Q E s:=by
 let{z,hd,xs,rel,dd}:=Gn I.j_ e;have hz:xs.length<=sizeLine:=by rw[<-Paired.length rel];exact z
 have hl:(putK kvs k v).length<=sizeLine:=by have:=QY kvs k v;lia
 refine wpAny_dictSet_heap  ((by first|exact hu|exact yi ?ji hu|(show A.units<cLine;lia))) (Q2 I.j_ eb) dd λh' Xh hs=>h _ ?_
 let{q,es,ep,hq,h2,h3,h4,_,h5}:=Xh;refine Q4 I (by rw[e];exact True.intro) hs {q,hq} {hl,hd,_,(rel.put k eb rv).keeps λc ys ec=>?_,q,es,ep,hq,h2,h3,h4,h5}
 grind
end
def u5(tk tv:TE):TE:=λZ H Q=>∀p,H p=none->tk Z (upd H p<|.dT []) λx H1=>tv Z H1 λy H2=>∃b k,x=.ref b/\H2 b=some (.tup<|k.map kV)/\H2 p=some (.dT [])/\Q (.ref p) (upd H2 p<|.dT [(k,y)])
def A8{tk tv:TE}(hu:X.A.units+1<cLine)(hk:cM X ke tk)(hv:cM X ve tv):cM X (.Dict [some ke] [ve] pos) (u5 tk tv):=by
 intro pins s Z H Q I q;have hn:=I.j_.fresh<|ai s.heap.objs.size;have I1:=I.laid    (t':=s.toks) ?qP ?ji<|Q7 s.heap I.big;refine wpAny_Dict_any rfl rfl ?E ?E ?_;have pp:=EJ (pos:=pos) hk hv<|Ht  
 let R:Re (V×V)->Hp->Prop:=λps H2=>match ps with
  | [(x,y)]=>∃b k,x=.ref b/\H2 b=some (.tup<|k.map kV)/\H2 s.heap.objs.size=some (.dT [])/\Q (.ref s.heap.objs.size) (upd H2 s.heap.objs.size<|.dT [(k,y)])
  | _=>False
 refine Db (pp pins _ Z _ R I1<|q _ hn) λws s2 ⟨ps,H2,I2,rel,hR⟩=>?_
 let _||{{x,y},_||{p2,r2}}:=ps
 ·grind
 ·let{b,k,ex,hb,hp,q2}:=hR;subst ex
  cases rel with
  | @cons _ wq _ _ h t =>
   cases t
   let{w1,w2}:=wq;let{rx,ry}:=h
   cases rx
   refine f_<|f_<|Dr hu I2 hp hb ry ?C λs3 I3=>l_<|l_ {.ref s.heap.objs.size,_,I3,rfl,q2}
 grind
def jo{S:Type}(d:D)(m:M S):M S:=match dF d with
 | true=>m
 | false=>.bad
def mN{S:Type}(i:Nat)(pk pv:Pu D):SM S:=λK ρ=>bd (kA<|pk ρ) λkd=>bd (kA<|pv ρ) λd=>match jT ρ i with
 | true=>jo kd<|K.nx<|ρ.set i<|some<|.ol<|.t [(kd,d)]
 | false=>.bad
def B7{S:Type}{i:Nat}{pk pv:Pu D}{pos' L_:Pos}(hu:X.A.units+1100<cLine)(hN:X.N.Nodup)(hi:X.N[i]? = some x)(hx:Loc X.env.scope x)(hk:lj X ke pk)(hv:lj X ve pv)(hs:swapsWith (.Dict [some ke] [ve] L_) (some<|.Name x pos') pos.line X.env=pure false)(hf:X.fn x=true\/X.env.scope.names.lookup x=some .local) :
  wG (S:=S) X (.Assign [.Name x pos'] (.Dict [some ke] [ve] L_) pos) (mN i pk pv):=λOK K G F Z H ρ E hO hX St ok eo=>by
 unfold mN at ok
 cases e1:pk ρ with
 | bad=>rw[e1]at ok;exact(hO ok).elim
 | exc e=>rw[e1]at ok;exact(hO ok).elim
 | ret kd =>
 cases e2:pv ρ with
 | bad=>rw[e1,e2]at ok;exact(hO ok).elim
 | exc e=>rw[e1,e2]at ok;exact(hO ok).elim
 | ret d =>
 rw[e1,e2]at ok;have ok:OK (match jT ρ i with|true=>jo kd<|K.nx<|ρ.set i<|some<|.ol<|.t [(kd,d)]|false=>.bad):=ok
 cases hq:jT ρ i with
 | false=>rw[hq]at ok;exact(hO ok).elim
 | true =>
 rw[hq]at ok;unfold jo at ok
 cases hq1:dF kd with
 | false=>rw[hq1]at ok;exact(hO ok).elim
 | true =>
 rw[hq1]at ok;let{hl,T_}:=K0 hq;let{ks,rfl}:=VI hq1;refine E3 (PR hN hi hx (A8 ?A Mz Mz) hs hf) λp hp=>?_
 have fp:=St.fh.free hp;have op:=St.oh.free hp;have S1:=(St.lay (o:=.dT []) hp).hold   UQ fp<|St.fresh_ne hp;refine hk _ F Z _ ρ _ S1 ?_;rw[e1];intro F1 H1 s1 S2 kx rx;refine hv _ F1 Z H1 ρ _ S2 ?_;rw[e2];intro F2 H2 s2 S3 y ry;let{S4,hp2,fp2,ne2}:=S3.Uk op;let{b,rfl,hb}:=Mj<|rx.mono s2;refine{b,ks,rfl,S4.fh _ _ hb,hp2,?_};refine eo.nx F2 _ _ _ ?jo ((S4.T7  fp2 op ne2).store T_ hl<|.inr {.t [(cY ks,d)],rfl,p,rfl,{fp2,op,[(ks,y)],UQ,rfl,.cons ry .nil},ne2}) ok
def mM{S:Type}(ds:Re D)(k:D->M S):M S:=match ds.getLast? with
 | some d=>k d
 | none=>.bad
noncomputable def DfT(K:Fg)(T:Tl)(i:Int):Prop:=∃(o:Obj) (n:Nat) (u:SZ),K.lookup T=some o/\o.data=.seq #[u] n/\RelV (.int i) u
section
variable {qual:Str} {st:Stmt} {T:Tl} {i:Int}
theorem Vz.zai(F:Vz K x qual st f fd T)(hT:DfT K T i)(h:∀(kV doc pm:SZ) (an:SL Tl) (p_ ct:SZ) (us:Re SZ) (u:SZ),us.length=ps.length->∃k:SL (UF SZ)->Sem (Re<|Str×SZ),bindArgs (PySem.W.fnOf x qual (dH st) ?qx ?jW (.ref T) kV doc pm an p_ ct) {us,[]}=seqItems? (.ref T) >>= k/\k (some #[u])=pure (ps.zip us)):L2.Binds K fd ps []:=by
 let{oc,od,kV,doc,pm,an,p_,ct,Us,rfl,lk,RB}:=F.ex;let{o,n,u,h1,h2,h3}:=hT;intro s us X hl;rw[je]at hl ⊢;let{k,e1,e2}:=h kV doc pm an p_ ct us u hl;exact PySem.W.binds_K X rfl h1 h2 e1 e2
theorem Vz.zah(F:Vz K x qual st f fd T)(hT:DfT K T i)(h:∀(kV doc pm:SZ) (an:SL Tl) (p_ ct:SZ) (us:Re SZ) (u:SZ),us.length+1=ps.length->∃k:SL (UF SZ)->Sem (Re<|Str×SZ),bindArgs (PySem.W.fnOf x qual (dH st) ?qx ?jW (.ref T) kV doc pm an p_ ct) {us,[]}=seqItems? (.ref T) >>= k/\k (some #[u])=pure (ps.zip<|us++[u])):L2.Binds K fd ps [hT.choose_spec.choose_spec.choose]:=by
 let{oc,od,kV,doc,pm,an,p_,ct,Us,rfl,lk,RB}:=F.ex;have h1:=hT.choose_spec.choose_spec.choose_spec.1;have h2:=hT.choose_spec.choose_spec.choose_spec.2.1;intro s us X hl;let{k,e1,e2}:=h kV doc pm an p_ ct us hT.choose_spec.choose_spec.choose (by simpa using hl);exact PySem.W.binds_K X rfl h1 h2 e1 e2
end
def zp(pk pv:Pu D):Pu D:=λρ=>bd (kA<|pk ρ) λkd=>bd (kA<|pv ρ) λd=>jo kd<|.ret<|.dict [(kd,d)]
def tFz(t:TE):TE:=λZ H Q=>t Z H λv H'=>∃a kvs,v=.ref a/\H' a=some (.dT kvs)/\∀o,Q v<|upd H' a<|.Rm o<|.dT kvs
def Nc{t:TE}(h:cM X e t):cM X e (tFz t):=λpins s Z H Q I q =>
 Db (h pins s Z H _ I q) λu s1 ⟨v,H1,I1,r,a,kvs,ev,ea,k⟩=>let ⟨o,I2⟩:=I1.Rm ea;{v,_,I2,r,k o}
def IS{pk pv:Pu D}(hu:X.A.units+1100<cLine)(hk:lj X ke pk)(hv:lj X ve pv):lj X (.Dict [some ke] [ve] pos) (zp pk pv):=by
 intro G F Z H ρ Q St w;unfold zp at w
 cases e1:pk ρ with
 | bad=>rw[e1]at w;exact w.elim
 | exc e=>rw[e1]at w;exact w.elim
 | ret kd =>
 cases e2:pv ρ with
 | bad=>rw[e1,e2]at w;exact w.elim
 | exc e=>rw[e1,e2]at w;exact w.elim
 | ret d =>
 rw[e1,e2]at w;have w:W X G F Z ρ (jo kd<|.ret<|.dict [(kd,d)]) (λd F' H'=>∀v,Rep X.K F' v d->Q v H'):=w;unfold jo at w
 cases hq1:dF kd with
 | false=>rw[hq1]at w;exact w.elim
 | true =>
 rw[hq1]at w;let{ks,rfl}:=VI hq1;refine RD (Nc<|A8 ?A Mz Mz) λp hp=>?_
 have fp:=St.fh.free hp;have op:=St.oh.free hp;have S1:=(St.lay (o:=.dT []) hp).hold   UQ fp<|St.fresh_ne hp;refine hk _ F Z _ ρ _ S1 ?_;rw[e1];intro F1 H1 s1 S2 kx rx;refine hv _ F1 Z H1 ρ _ S2 ?_;rw[e2];intro F2 H2 s2 S3 y ry;let{S4,hp2,fp2,ne2}:=S3.Uk op;let{b,rfl,hb}:=Mj<|rx.mono s2;refine{b,ks,rfl,S4.fh _ _ hb,hp2,p,_,rfl,UQ,λo=>?_};rw[GX];have S5:=(S4.T7 (o:=.Rm o (.dT [(ks,y)])) fp2 op ne2).freeze   UQ fp2 op ne2;exact w _ _ ((s1.trans s2).trans<|PE fp2) S5 (.ref p)<|.Vu UQ rfl<|.cons (ry.mono<|PE fp2) .nil
end L4
namespace L4
open PySem PyProof.Rows L2 L3
theorem lr1:typeLookup (Value.type "list_reverseiterator") (Str.ofString "__len__")=pure none:=by rfl
theorem lr2:typeLookup (Value.type "list_reverseiterator") (Str.ofString "__length_hint__")=pure (some<|Value.builtin "list_reverseiterator.__length_hint__"):=by rfl
theorem lr3:isSubtype (.type "list_reverseiterator") (.type "list_reverseiterator")=pure true:=by rfl
section
variable {prog:TD}{w:TW}{A:UV}{E:t_}{s:Tk}{r I l:Tl}{items:UF SZ}
def FR{Q:Bool->Tk->Prop}(hT:s.TypeIs (.ref r) "list_reverseiterator")(h:Q false s) :
  wpAny ?D A (Builtin.List.listLengthHint<|.ref r) Q E s:=by
 refine f_<|wpAny_specialOf hT lr1 ?_;refine f_<|wpAny_specialOf hT lr2 ?_;dsimp only;refine f_<|nA   hT lr3 ?_;refine((l_ h))
def zr(items:UF SZ):Nat->SZ->Prop:=λi v=>items[items.size - 1 - i]? = some v
def IA{R:Result->Tk->Prop}(hh:A.handled=none)(hi:s.heap.IsRevIter I l ((items.size:Int) - 1))(hl:s.heap.IsList l items)(hn:items.size<=sizeLine)(hIl:l≠I)(S:Tl)(hSI:S≠I)(hSl:S≠l)(res:SZ)(c₀:Nat)
  (hS:s.heap.get? S=some { cls:=Value.type "list",data:=Data.seq #[] c₀ })
  (hR:∀(h':Wp) (tk:Nat) (Wn:UF SZ) (c':Nat),(∀(b:Tl) (o:Obj),b≠S->b≠I->s.heap.get? b=some o->h'.get? b=some o)->h'.get? S=some { cls:=Value.type "list",data:=Data.seq Wn c' }->ItemsOf (zr items) Wn items.size->R (Except.ok<|Flow.ret res) { s with heap:=h',toks:=tk }) :
  wpAny ?D A.in1 (Builtin.List.listExtendWith (Value.ref S) (Value.ref I) res)
   (λfin s'=>match fin with
    | Fin.done f=>R (Except.ok f) s'
    | Fin.again c'=>c'.quiet=true/\codeAny ?D A c' R s')
   (λe s'=>R (Except.error e) s') s:=by
 have W:=Walks.listRev (prog:=prog) (w:=w) (A:=A.in1) hh I l hIl items;have hSf:S∉[I,l]:=by simp[hSI,hSl]
 refine f_<|iD hi.typeIs ?_;rw[ba (by simp[Builtin.List.listSameRef,hSI])];refine f_<|wpAny_pyIter_revIter hi<|f_<|um<|FR hi.typeIs ?_;refine l_ {plainId_quiet F.plain_extend_loop _,?_};refine codeAny_extend_loopS (Walks.toS W) hn S hSf res items.size 0 s #[] c₀ rfl ?U {ac _,by simpa using hi,hl} hS (ItemsOf.nil _) λs' Wn c' hm hS' X2=>?_
 rw[Moved.eq_with hm];exact hR s'.heap s'.toks Wn c' (λb o hb hb2 e=>hm.heap b o (by simp[hb,hb2]) e) hS' X2
def Fv{Q:t_}(hh:A.handled=none)(hi:s.heap.IsRevIter I l ((items.size:Int) - 1))(hl:s.heap.IsList l items)(hn:items.size<=sizeLine)(hIl:l≠I)
  (hQ:∀(h':Wp) (tk:Nat) (Wn:UF SZ) (c':Nat),(∀(b:Tl) (o:Obj),b≠I->s.heap.get? b=some o->h'.get? b=some o)->h'.get? s.heap.objs.size=some { cls:=Value.type "list",data:=Data.seq Wn c' }->ItemsOf (zr items) Wn items.size->Q (Value.ref s.heap.objs.size) { s with heap:=h',toks:=tk }) :
  wpAny ?D A (call (Value.type "list") [Value.ref I]) Q E s:=by
 refine callType_codes F.called_list (F.typeCall_list_1<|Value.ref I) F.entry_list_init (code_list_new (Q₁:=λv s1=>v=Value.ref s.heap.objs.size/\s1={ s with heap:=s.heap.push { cls:=Value.type "list",data:=Data.seq #[] } }) (Value.ref I) {rfl,rfl}) λobj s₁ h₁=>?_
 let{rfl,rfl}:=h₁;have hS:(s.heap.push { cls:=Value.type "list",data:=Data.seq #[] }).get? s.heap.objs.size=some { cls:=Value.type "list",data:=Data.seq #[] }:=cN s.heap rfl;have hk:∀b o,s.heap.get? b=some o->(s.heap.push { cls:=Value.type "list",data:=Data.seq #[] }).get? b=some o:=λb o e=>v_ _ e
 refine{{_,hS,rfl},F.args_list_init_2 _ _,?_};have l1:∀{b:Tl} {o:Obj},s.heap.get? b=some o->b≠s.heap.objs.size:=λe=>eh<|bj e
 let{oi,ei,ri}:=id hi;let{ol,el,rl}:=id hl;refine((f_ ?_));refine((f_<|y9 hS rfl<|l_ ?_));refine((f_<|wpAny_updateSeq hS rfl ?_ ?jc ?jc));have oth:∀b o,s.heap.get? b=some o->((s.heap.push { cls:=Value.type "list",data:=Data.seq #[] }).update s.heap.objs.size<|Obj.mapSeq λ_=>#[]).get? b=some o:=λb o e =>
  (aZ _ _<|Ne.symm<|l1 e).trans<|hk b o e
 refine f_<|sC<|IA (A:=A.in1) hh {oi,oth _ _ ei,ri} {ol,oth _ _ el,rl} hn hIl s.heap.objs.size (Ne.symm<|l1 ei) (Ne.symm<|l1 el) Value.none _ (xv _ hS rfl) ?_
 grind
end
def nX(K:Fg):Re V->Hp->VK->Prop:=λxs H Q=>∃p ys,xs=[.ref p]/\Ro K H p ys/\∀l,H l=none->Q (.ref l) (upd H l<|.lst ys.reverse)
def Df{items acc:UF SZ}(h:ItemsOf (zr items) acc items.size):acc.toList=items.toList.reverse:=by
 apply xL;intro j;by_cases hj:j<items.size
 ·have h1:j<acc.size:=by rw[h.1];exact hj
  have:=h.2 j acc[j]<|ay h1;unfold zr at this;rw[vR,ay h1,<-this,List.getElem?_reverse (by simpa using hj),vR,gu]
 ·rw[sZ (by rw[gu,h.1];lia),sZ (by rw[List.length_reverse,gu];lia)]
def DX:∀{xs:Re V} {us:Re SZ},Vals xs us->Vals xs.reverse us.reverse:=by
 intro xs
 induction xs with
 | nil=>intro us r;cases r;exact .nil
 | cons x xs ih =>
  intro us r
  cases r with
  | cons a b =>
   rw[bP,bP];exact Vals.append (ih b)<|.cons a .nil
def EA{K:Fg}{F:Hp}:∀{vs:Re V} {ds:Re D},h_ K F vs ds->h_ K F vs.reverse ds.reverse:=by
 intro vs
 induction vs with
 | nil=>intro ds r;cases r;exact .nil
 | cons x xs ih =>
  intro ds r
  cases r with
  | cons a b =>
   rw[bP,bP];exact h_.append (ih b)<|.cons a .nil
def jv:Re D->SL ?R
 | [.list ds]=>some ds.reverse
 | _=>none
section
variable {X:Cx}{a:Uf}{t:TA}{p p2 pos Tt:Pos}
def PB(hc:X.calm=true)(hg:uf X "list")(hm:X.mg "list"=none)(hg2:uf X "reversed")(Zr:X.mg "reversed"=none)(ha:sY X [a] t)
  (he:starEach [a] X.env=[?j0]) (Zu:starEach [.Call (.Name "reversed" p2) [a] [] Tt] X.env=[(false,eval (.Call (.Name "reversed" p2) [a] [] Tt) X.env)]) :
  cM X (.Call (.Name "list" p) [.Call (.Name "reversed" p2) [a] [] Tt] [] pos) (tCB (nX X.K) t):=by
 intro pins s Z H Q I h;refine xz<|Go I hg hm (show bootBuiltins "list"=some (.type "list") by decide +kernel) ?_ ?C ?C;refine ny ?_ Zu rfl;refine tP<|xz<|Go I hg2 Zr (show bootBuiltins "reversed"=some (.type "reversed") by decide +kernel) ?_ ?C ?C;refine ny  (Db (ha Tt pins s Z H _ I h) λus s1 ⟨vs,H1,I1,r1,q1⟩=>?_) he rfl;let{b,ys,rfl,hq,k}:=q1;let{u,rfl,ru}:=L2.Vals.one r1
 cases ru
 let{i_,rv,{o,n,e1,e2,e3,e4},hz}:=I1.list hq;refine call_reversed_list {o,e1,e2,n,e4}<|uR ?_;have hlen:i_.toArray.size=ys.length:=by rw[ig,rv.length]
 have WR:=eh<|bj e1;refine Fv    (I1.ok.hd hc) {_,cN _ rfl,rfl,rfl} {o,v_ _ e1,e2,n,e4} (by rw[hlen];exact hz) WR λh' tk acc c kp e it=>?_
 have hs:(s1.heap.push<|revObj b<|(i_.toArray.size) - 1).objs.size=s1.heap.objs.size+1:=by simp
 have X2:=(Df it);refine{.ref (s1.heap.push<|revObj b<|(i_.toArray.size) - 1).objs.size,_,I1.laid  (o:=.lst ys.reverse) (λb' o' e'=>kp b' o' (eh<|bj e')<|v_ _ e') ?A {by rw[List.length_reverse];exact hz,acc.toList,c,by rw[X2];exact DX rv,(e)},rfl,k _<|I1.j_.fresh ?A}
def Ap{ps:Pa ?R}(hc:X.calm=true)(hg:uf X "list")(hm:X.mg "list"=none)(hg2:uf X "reversed")(Zr:X.mg "reversed"=none)(ha:uU X [a] ps)
  (he:starEach [a] X.env=[?j0]) (Zu:starEach [.Call (.Name "reversed" p2) [a] [] Tt] X.env=[(false,eval (.Call (.Name "reversed" p2) [a] [] Tt) X.env)]) :
  u4 X (.Call (.Name "list" p) [.Call (.Name "reversed" p2) [a] [] Tt] [] pos) (gx jv ps) :=
 λG F Z H ρ Q S w=>RD (PB hc hg hm hg2 Zr Pm he Zu) (Mw ha S w λxs ds F' H' s' S' hx w'=>by
  let{res,e,k}:=w'.opt;unfold jv at e;split at e
  ·cases e
   let{v,r,rfl,ho,hr}:=Ou hx;obtain rfl:=PG hr;let{a,vs,rfl,h1,h2}:=ho.list S'.fh;refine{a,vs,rfl,h1,λl hl=>?_};let{S2,r2}:=S'.M_ hl<|EA h2;exact k F' _ ?J S2 _ r2
  ·cases e)
end
end L4
namespace L4
open PySem PySem.Spec PyProof.Rows L2 L3
variable {f:Tl}{oc doc pm p_ ct:SZ}{od an:SL Tl}{Us:UF (SL SZ)}
section
variable {α:Type} {l:Re α}
theorem lnS{n:Nat}(h:l.length=n+1):∃a t,l=a::t/\t.length=n :=
 List.recOn  l (λh=>(Nat.succ_ne_zero n h.symm).elim) (λa t _ h=>{a,t,rfl,Nat.succ.inj h}) h
def WM(h:l.length=1):∃a,l=[a]:=by let{a,t,e,q}:=lnS h;grind
theorem ln2(h:l.length=2):∃a b,l=[a,b]:=by let{a,t,rfl,q}:=lnS h;let{b,rfl}:=WM q;exact{a,b,rfl}
def Wt(h:l.length=3):∃a b c,l=[a,b,c]:=by let{a,t,rfl,q}:=lnS h;let{b,c,rfl}:=ln2 q;grind
def Yg(h:l.length=4):∃a b c d,l=[a,b,c,d]:=by let{a,t,rfl,q}:=lnS h;let{b,c,d,rfl}:=Wt q;grind
end
section
variable {K:Fg} {h:Wp} {mg:R1} {x qual:Str} {st:Stmt} {T:Tl} {kV:SZ}
def wD:SL (SL SZ)->Bool
 | some none=>true
 | _=>false
def N8{l:Re Str}(X:K.In h)(G:h.Ns mainGlobals mg)(z:(l.all λx=>wD<|PySem.W.nsIn K mainGlobals x)=true):∀x∈l,mg x=none:=λx hx=>by
 have q:=List.all_eq_true.mp z x hx;generalize e:PySem.W.nsIn K mainGlobals x=o at q
 match o,q with
 | some none,_=>exact PySem.W.mg_none_of X G e
end
theorem fS1{N P:Re Str}{c:Scope}(a:c.kind=.function)(b:c.isCoroutine=false)(d:c.isGenerator=false)(e:N.take P.length=P)(h:decide (N.Nodup/\(∀x∈P,c.names.lookup x=some .local\/c.names.lookup x=some .cell)/\∀y∈c.names,y.2≠.free)=true):o_ N P c :=
 have h:=of_decide_eq_true h
 {a,b,d,h.1,e,h.2.1,h.2.2}
def qI(K:Fg)(mg:R1)(p:Str×Stmt):Prop:=∃f fd,mg p.1=some (.ref f)/\Yp K p.1 p.1 p.2 f fd
noncomputable def FbV(K:Fg)(mg:R1)(p:Str×Stmt)(i:Int):Prop:=∃f fd T,mg p.1=some (.ref f)/\Vz K p.1 p.1 p.2 f fd T/\DfT K T i
abbrev Hb(P:TD)(w:TW)(K:Fg)(mg:R1)(base:Wp)(x:Str)(st:Stmt)(k:Nat)(N:Re Str){S:Type}(mb:SM S):Prop :=
 ∀{f:Tl} {p_:SZ} {A:UV} {outer:Re Env} {s:Tk} {H:Hp} {E:XK},z_ k (A.deeper<|envOfC x ?jW s.heap.objs.size f p_)->N.Nodup->cb (mQ (qL P w) P w K mg base N x ?jW f p_ A outer s H E) ?qx mb
abbrev Bn(x:Str)(st:Stmt)(ps:Re Str):Prop:=∀(kV doc pm:SZ) (an:SL Tl) (p_ ct:SZ) (us:Re SZ),us.length=ps.length->bindArgs (PySem.W.fnOf x x (dH st) ?qx ?jW .none kV doc pm an p_ ct) {us,[]}=pure (ps.zip us)
abbrev nn(N:Re Str)(m:Nat):En:=List.replicate (N.length - (N.take m).length) none
section
variable {P:TD} {w:TW} {K:Fg} {mg:R1} {base h:Wp} {x:Str} {st:Stmt} {k m:Nat}
def Px{kV:SZ}(X:K.In h)(G:h.Ns mainGlobals mg)(a:PySem.W.nsIn K mainGlobals x=some (some<|.ref f))(l:K.lookup f=some {oc,od,.func<|PySem.W.fnOf x x (dH st) ?qx ?jW .none kV doc pm an p_ ct,Us})
  (c:PySem.W.codeIn K p_ x=true) (k:PySem.W.keepIn K (.ref f)=true):qI K mg (x,st):={f,_,PySem.W.mg_of X G a,LB l c k}
def FZ{T:Tl}{kV:SZ}{o:Obj}{n:Nat}{u:SZ}{i:Int}(X:K.In h)(G:h.Ns mainGlobals mg)(a:PySem.W.nsIn K mainGlobals x=some (some<|.ref f))(l:K.lookup f=some {oc,od,.func<|PySem.W.fnOf x x (dH st) ?qx ?jW (.ref T) kV doc pm an p_ ct,Us})
  (c:PySem.W.codeIn K p_ x=true) (k:PySem.W.keepIn K (.ref f)=true) (dl:K.lookup T=some o) (de:o.data=.seq #[u] n) (dr:RelV (.int i) u):FbV K mg (x,st) i:={f,_,T,PySem.W.mg_of X G a,Im l c k,o,n,u,dl,de,dr}
def IJ{ps:Re Str}{sp:Sp}(h:qI K mg (x,st))(bn:Bn x st ps)(F:∀{f fd},Yp K x x st f fd->RC P w K mg base (qL P w) k f fd ps sp):CF P w K mg base x k sp:=by
 let{f,fd,a,b}:=h;exact{f,fd,ps,F b,a,b.kp,b.binds bn}
def R3{mb:SM D}{mf:Re D->M D}(N:Re Str)(h:qI K mg (x,st))(hb:Hb P w K mg base x st k N mb)
  (hm:∀ds,ds.length=(N.take m).length->mf ds=mb mn (Sw ds++nn N m):=by intro ds hl;first|(let{_,rfl}:=WM hl;kernel_rfl)|(let{_,_,rfl}:=ln2 hl;kernel_rfl)|(let{_,_,_,rfl}:=Wt hl;kernel_rfl)|(let{_,_,_,_,rfl}:=Yg hl;kernel_rfl)|(let{_,_,_,_,_,rfl}:=ln5 hl;kernel_rfl))
  (sc:o_ N ?qR ?jW:=by exact fS1 rfl rfl rfl rfl ?qM) (hl:(N.take m).length=m:=by rfl)
  (bn:Bn x st ?qR:=by intro _ _ _ _ _ _ us hl;first|(let{_,rfl}:=WM hl;rfl)|(let{_,_,rfl}:=ln2 hl;rfl)|(let{_,_,_,rfl}:=Wt hl;rfl)|(let{_,_,_,_,rfl}:=Yg hl;rfl)|(let{_,_,_,_,_,rfl}:=ln5 hl;rfl)):CF P w K mg base x (k+1) (pN K m mf) :=
 hl▸IJ h bn λFn=>N1 Fn sc (λ_ _ _ _ _ _ hr=>hb hr sc.nd) hm
theorem cfL{mb:SM ?R}{mf:Re D->M ?R}(N:Re Str)(h:qI K mg (x,st))(hb:Hb P w K mg base x st k N mb)
  (hm:∀ds,ds.length=(N.take m).length->mf ds=mb xJ (Sw ds++nn N m):=by intro ds hl;first|(let{_,rfl}:=WM hl;kernel_rfl)|(let{_,_,rfl}:=ln2 hl;kernel_rfl)|(let{_,_,_,rfl}:=Wt hl;kernel_rfl)|(let{_,_,_,_,rfl}:=Yg hl;kernel_rfl))
  (sc:o_ N ?qR ?jW:=by exact fS1 rfl rfl rfl rfl ?qM) (hl:(N.take m).length=m:=by rfl)
  (bn:Bn x st ?qR:=by intro _ _ _ _ _ _ us hl;first|(let{_,rfl}:=WM hl;rfl)|(let{_,_,rfl}:=ln2 hl;rfl)|(let{_,_,_,rfl}:=Wt hl;rfl)|(let{_,_,_,_,rfl}:=Yg hl;rfl)):CF P w K mg base x (k+1) (spL K m mf) :=
 hl▸IJ h bn λFn=>LD Fn sc (λ_ _ _ _ _ _ hr=>hb hr sc.nd) hm
theorem cf1{mb:SM ?jK}{mf:Re D->Re D->M ?jK}(N:Re Str)(h:qI K mg (x,st))(hb:Hb P w K mg base x st k N mb)
  (hm:∀g ds,ds.length+1=(N.take m).length->mf g ds=mb uZ (some (.op<|.l g)::Sw ds++nn N m):=by intro g ds hl;have hl:=Nat.succ.inj hl;first|(obtain rfl:=ln0 hl;kernel_rfl)|(let{_,rfl}:=WM hl;kernel_rfl)|(let{_,_,rfl}:=ln2 hl;kernel_rfl)|(let{_,_,_,rfl}:=Wt hl;kernel_rfl))
  (sc:o_ N ?qR ?jW:=by exact fS1 rfl rfl rfl rfl ?qM) (hl:(N.take m).length=m:=by rfl)
  (bn:Bn x st ?qR:=by intro _ _ _ _ _ _ us hl;first|(let{_,rfl}:=WM hl;rfl)|(let{_,_,rfl}:=ln2 hl;rfl)|(let{_,_,_,rfl}:=Wt hl;rfl)|(let{_,_,_,_,rfl}:=Yg hl;rfl)):CF P w K mg base x (k+1) (nG K m mf) :=
 hl▸IJ h bn λFn=>FW Fn sc (λ_ _ _ _ _ _ hr=>hb hr sc.nd) hm
def II{mb:Nat->SM D}{mf:Nat->Re D->M D}(N:Re Str)(h:qI K mg (x,st))(hb:∀{i:Nat},CF P w K mg base x (k+i) (pN K m<|mf i)->Hb P w K mg base x st (k+i) N (mb i))
  (hz:mf 0=λ_=>.bad:=by funext l;let _||{_,_||{_,_||{_,_||{_,_||_}}}}:=l<;>rfl)
  (hm:∀i ds,ds.length=(N.take m).length->mf ?jx ds=mb i mn (Sw ds++nn N m):=by intro i ds hl;first|(let{_,rfl}:=WM hl;kernel_rfl)|(let{_,_,rfl}:=ln2 hl;kernel_rfl)|(let{_,_,_,rfl}:=Wt hl;kernel_rfl)|(let{_,_,_,_,rfl}:=Yg hl;kernel_rfl))
  (sc:o_ N ?qR ?jW:=by exact fS1 rfl rfl rfl rfl ?qM) (hl:(N.take m).length=m:=by rfl)
  (bn:Bn x st ?qR:=by intro _ _ _ _ _ _ us hl;first|(let{_,rfl}:=WM hl;rfl)|(let{_,_,rfl}:=ln2 hl;rfl)|(let{_,_,_,rfl}:=Wt hl;rfl)|(let{_,_,_,_,rfl}:=Yg hl;rfl)):∀i:Nat,CF P w K mg base x (k+i)<|pN K m<|mf i
 | 0=>by
  let{f,fd,a,b}:=h;rw[hz];exact .zero _ _ a b.kp<|b.binds bn
 | i+1=>hl▸IJ h bn λFn=>N1 Fn sc (λ_ _ _ _ _ _ hr=>hb (II N h hb hz hm sc hl bn i) hr sc.nd)<|hm i
def N7{mb:Nat->SM ?jK}{mf:Nat->Re D->Re D->M ?jK}(N:Re Str)(h:qI K mg (x,st))(hb:∀{i:Nat},CF P w K mg base x (k+i) (nG K m<|mf i)->Hb P w K mg base x st (k+i) N (mb i))
  (hz:mf 0=λ_ _=>.bad:=by funext g l;let _||{_,_||{_,_||{_,_||{_,_||_}}}}:=l<;>rfl)
  (hm:∀i g ds,ds.length+1=(N.take m).length->mf ?jx g ds=mb i uZ (some (.op<|.l g)::Sw ds++nn N m):=by intro i g ds hl;have hl:=Nat.succ.inj hl;first|(obtain rfl:=ln0 hl;kernel_rfl)|(let{_,rfl}:=WM hl;kernel_rfl)|(let{_,_,rfl}:=ln2 hl;kernel_rfl)|(let{_,_,_,rfl}:=Wt hl;kernel_rfl))
  (sc:o_ N ?qR ?jW:=by exact fS1 rfl rfl rfl rfl ?qM) (hl:(N.take m).length=m:=by rfl)
  (bn:Bn x st ?qR:=by intro _ _ _ _ _ _ us hl;first|(let{_,rfl}:=WM hl;rfl)|(let{_,_,rfl}:=ln2 hl;rfl)|(let{_,_,_,rfl}:=Wt hl;rfl)|(let{_,_,_,_,rfl}:=Yg hl;rfl)):∀i:Nat,CF P w K mg base x (k+i)<|nG K m<|mf i
 | 0=>by
  let{f,fd,a,b}:=h;rw[hz];exact .zak _ _ a b.kp<|b.binds bn
 | i+1=>hl▸IJ h bn λFn=>FW Fn sc (λ_ _ _ _ _ _ hr=>hb (N7 N h hb hz hm sc hl bn i) hr sc.nd)<|hm i
def N6{mb:SM D}{mf:Re D->M D}{d:Int}(N:Re Str)(h:FbV K mg (x,st) d)(hb:Hb P w K mg base x st k N mb)
  (hm:∀ds,ds.length=(N.take m).length->mf ds=mb mn (Sw ds++nn N m):=by intro ds hl;first|(let{_,_,_,rfl}:=Wt hl;kernel_rfl)|(let{_,_,_,_,rfl}:=Yg hl;kernel_rfl)|(let{_,_,rfl}:=ln2 hl;kernel_rfl))
  (sc:o_ N ?qR ?jW:=by exact fS1 rfl rfl rfl rfl ?qM) (hl:(N.take m).length=m:=by rfl)
  (b0:∀(T:Tl) (kV doc pm:SZ) (an:SL Tl) (p_ ct:SZ) (us:Re SZ) (u:SZ),us.length=(N.take m).length->∃k:SL (UF SZ)->Sem (Re<|Str×SZ),bindArgs (PySem.W.fnOf x x (dH st) ?qx ?jW (.ref T) kV doc pm an p_ ct) {us,[]}=seqItems? (.ref T) >>= k/\k (some #[u])=pure ((N.take m).zip us):=by intro _ _ _ _ _ _ _ us u hl;first|(let{_,_,_,rfl}:=Wt hl;exact{_,rfl,rfl})|(let{_,_,_,_,rfl}:=Yg hl;exact{_,rfl,rfl})|(let{_,_,rfl}:=ln2 hl;exact{_,rfl,rfl}))
  (b1:∀(T:Tl) (kV doc pm:SZ) (an:SL Tl) (p_ ct:SZ) (us:Re SZ) (u:SZ),us.length+1=(N.take m).length->∃k:SL (UF SZ)->Sem (Re<|Str×SZ),bindArgs (PySem.W.fnOf x x (dH st) ?qx ?jW (.ref T) kV doc pm an p_ ct) {us,[]}=seqItems? (.ref T) >>= k/\k (some #[u])=pure ((N.take m).zip<|us++[u]):=by intro _ _ _ _ _ _ _ us u hl;have hl:=Nat.succ.inj hl;first|(let{_,_,rfl}:=ln2 hl;exact{_,rfl,rfl})|(let{_,_,_,rfl}:=Wt hl;exact{_,rfl,rfl})|(let{_,rfl}:=WM hl;exact{_,rfl,rfl})):CF P w K mg base x (k+1) (pN K m mf)/\CFd P w K mg base x (k+1) (pN K m mf) d:=by
 let{f,fd,T,a,b,c}:=h;have F:=Ir     b sc (λ_ _ _ _ _ _ hr=>hb hr sc.nd) hm;rw[hl]at F;exact{{f,fd,_,F,a,b.kp,b.zai c<|b0 T},f,fd,_,_,F,a,b.kp,b.zah c<|b1 T,c.choose_spec.choose_spec.choose_spec.2.2}
end
def lq:D->D->SL D
 | .list xs,.int i=>some<|.list<|cutD xs (some i) none
 | _,_=>none
def DJ{S:Type}{X:Cx}{a b:Uf}{ma mb:Ev S D}{p2 pos:Pos}(ha:dL X a ma)(hb:dL X b mb):dL X (.Subscript a (.Slice (some b) none none p2) pos) (jD lq ma mb) :=
 λOK x k G F Z H ρ Q hO hX St ok kk=>RD (Qy AJ Mz (A3 Mz) A4) (ha OK x _ G F Z H ρ _ hO hX St ok λd v F1 H1 ρ1 s1 S1 r1 o1=>hb OK x _ G F1 Z H1 ρ1 _ hO hX S1 o1 λd2 v2 F2 H2 ρ2 s2 S2 r2 o2=>by
  let{res,e,o'}:=OT hO o2;unfold lq at e;split at e
  case h_2=>cases e
  rename_i ds i
  cases e
  cases r2
  have r3:=r1.mono s2;let{a,vs,rfl,h1,h2}:=OR.list (H:=H2) S2.fh<|Or.inl r3;refine{i,rfl,a,vs,rfl,h1,λq hq=>?_};let{S4,r4}:=S2.M_ hq<|MG h2 (some i) none;let{F5,s5,S5,r5}:=S4.settle r4
  exact kk _ _ F5 _ ρ2 (s1.trans<|s2.trans s5) S5 r5 o')
end L4
namespace WD
open PySem PyProof.Rows
def tyB:Bool->String
 | true => "list"
 | false => "tuple"
section
variable {prog:TD}{w:TW}{A:UV}{E:t_}{s:Tk}{a:Tl}{o:Obj}{xs:UF SZ}{k:Nat}{name:Str}
def HU(b:Bool){u:Tok}{Q:t_}
  (hx:s.heap.get? a=some o) (hc:o.cls=.type (tyB b)) (T2:o.data=.seq xs k) (hd:o.dict=none) (Vf:typeLookup (.type<|tyB b) name=pure none) (Wx:(["__module__","__name__","__qualname__","__doc__","__annotations__"]:Re Str).contains name=false) (hA:A.handled=none) (hsz:name.length+100<=sizeLine)
  (h:∀h' tk e,Heap.NewExcOf s.heap h' e "AttributeError" -> E (.ref e) { s with heap:=h',toks:=tk }) :
  wpAny ?D A (getAttrBy (.ref a) (.str name u) false) Q E s:=by
 let{c,Vu,dat,sl}:=o;simp only at hc T2 hd;subst hc T2 hd;let{hp,g,d,tk,os}:=s;have hT:∀tk',({hp,g,d,tk',os}:Tk).TypeIs (.ref a)<|tyB b:=λ_=>{_,hx,rfl}
 have f1:=sub_AttributeError;have f3:=F.slot_list_getattribute.lookup;have f4:=F.slot_list_getattribute.bind<|.ref a;have f5:=am_list_getattr_none;have g3:=F.slot_tuple_getattribute.lookup;have g4:=F.slot_tuple_getattribute.bind<|.ref a;have g5:=am_tuple_getattr_none;unfold getAttrBy
 cases b<;>dsimp only[tyB]at hT hx Vf
 all_goals
  repeat (any_goals (first|assumption|exact hT _|((with_reducible show wpAny _ _ (call (Value.builtin "list.__getattribute__") _ _) _ _ _);refine qc F.slot_list_getattribute (hT _) am_entry_list_getattribute (F.args_list_getattribute_2 _ _) (meets_getattribute_miss_list a xs k sl name _ Vf Wx hsz) {hx,hA,λh' tk' e R0=>?_})|((with_reducible show wpAny _ _ (call (Value.builtin "tuple.__getattribute__") _ _) _ _ _);refine qc F.slot_tuple_getattribute (hT _) am_entry_tuple_getattribute (F.args_tuple_getattribute_2 _ _) (meets_getattribute_miss_tuple a xs k sl name _ Vf Wx hsz) {hx,hA,λh' tk' e R0=>?_})|wp_step))
  let{t',u',he}:=R0.there;show wpAny _ _ (getattributeRaised _ _ _ _ _ _ _) _ _ _;unfold getattributeRaised
  repeat (any_goals (first|assumption|wp_step))
  exact h _ _ _ R0.of
theorem zas(b:Bool){Q:SL SZ->Tk->Prop}
  (hx:s.heap.get? a=some o) (hc:o.cls=.type (tyB b)) (T2:o.data=.seq xs k) (hd:o.dict=none) (Vf:typeLookup (.type<|tyB b) name=pure none) (Wx:(["__module__","__name__","__qualname__","__doc__","__annotations__"]:Re Str).contains name=false) (hA:A.handled=none) (hsz:name.length+100<=sizeLine)
  (h:∀h' tk e,Heap.NewExcOf s.heap h' e "AttributeError" -> Q none { s with heap:=h',toks:=tk }) :
  wpAny ?D A (getAttr? (.ref a) name) Q E s:=by
 unfold getAttr? getAttrBy?;let{hp,g,d,tk,os}:=s
 repeat (any_goals (first|assumption|(with_reducible refine HU b (s:={hp,g,d,_,os}) hx hc T2 hd Vf Wx hA hsz λh' tk' e R0=>?_)|wp_step))
 let{oe,vs,he,hec,hed,_}:=R0.there;have f1:=sub_AttributeError;let{c,Vu,dat,sl}:=oe;simp only at hec hed;subst hec hed
 repeat (any_goals (first|assumption|wp_step))
 exact h _ _ _ R0
end
end WD
namespace L4
open PySem PySem.Spec PyProof.Rows L2 L3
variable {X:Cx}{H F H':Hp}{pins:w_}{Z:L2.St}{s:Tk}{p:Tl}{K:Fg}{o:Obj}{v:V}{A:UV}{E:t_}{e tg:Uf}
section
variable {a b:Tl} {y:V} {u r:SZ}
def LR{Q:Unit->Tk->Prop}(hu:A.units+1<cLine)(I:Inv X pins Z H s)(g:Se H a y v H')(ry:RelV y u)(rv:RelV v r)
  (h:∀s',Inv X pins Z H' s'->(∀b o,b≠a->s.heap.get? b=some o->s'.heap.get? b=some o)->Q () s') :
  wpAny ?B A (dictSet a u r) Q E s:=by
 let{kvs,k,e,ey,l,eH}||{kvs,k,b,e,ey,eb,l,eH}:=g
 ·subst ey eH;let{z,hd,vs,rel,dd}:=BU I.j_ e;have hz:vs.length<=sizeLine:=by rw[<-rel.length];exact z
  have hl:(putK kvs k v).length<=sizeLine:=by have:=QY kvs k v;lia
  refine wpAny_dictSet_pairs (hsz:=hz) (QZ ry) dd λh' Xh hs=>h _ ?_ λb o n e=>(hs.2 b n).trans e
  have he:∃q,h'.get? a=some q:=let ⟨q,_,_,hq,_⟩:=Xh;{q,hq}
  exact Q4 I (by rw[e];exact True.intro) hs he<|Gu hl hd (rel.put k rv) Xh
 ·subst ey eH
  cases (show u=Value.ref b from ry)
  let{z,hd,xs,rel,dd}:=Gn I.j_ e;have hz:xs.length<=sizeLine:=by rw[<-Paired.length rel];exact z
  have hl:(putK kvs k v).length<=sizeLine:=by have:=QY kvs k v;lia
  refine wpAny_dictSet_heap (hsz:=hz) (show(tupleKind ?qs).room A from by first|exact hu|exact yi ?ji hu|(show A.units<cLine;lia)) (Q2 I.j_ eb) dd λh' Xh hs=>h _ ?_ λb o n e=>(hs.2 b n).trans e
  let{q,es,ep,hq,h2,h3,h4,_,h5}:=Xh;refine Q4 I (by rw[e];exact True.intro) hs {q,hq} {hl,hd,_,(rel.put k eb rv).keeps λc ys ec=>?_,q,es,ep,hq,h2,h3,h4,h5}
  grind
def MN(g:Se H a y v H'):H a≠none/\∀b,b≠a->H' b=H b:=by
 let{kvs,k,e,ey,l,eH}||{kvs,k,b,e,ey,eb,l,eH}:=g
 ·subst eH;grind
 ·subst eH;grind
end
inductive Sb(K:PySem.W.Frag)(d:Tl):Hp->Re V->Hp->Prop where
 | nil {H:Hp}:Sb K d H [] H
 | cons {H H1 H':Hp} {t:Tl} {k v:V} {rest:Re V}:A_ K H t [k,v]->Se H d k v H1->Sb K d H1 rest H'->Sb K d H (.ref t::rest) H'
def Ki:entryFor table "dict.update.loop"=some Builtin.«dict.update.loop»:=entryFor_of_tree ?qM
def MF:plainId "dict.update.loop" = true:=by decide +kernel
noncomputable def Sqb(K:PySem.W.Frag)(b:Bool)(H:Hp)(a:Tl)(xs:Re V):Prop:=match b with
 | true=>Ro K H a xs
 | false=>H a=some (.tup xs)
noncomputable def ItB(b:Bool)(h:Wp)(it p:Tl)(i:Nat):Prop:=match b with
 | true=>h.IsListIter it p i
 | false=>h.IsTupleIter it p i
section
variable {it:Tl} {xs:Re V} {b:Bool}
def Fi{i:Nat}{Q:SL SZ->Tk->Prop}(hh:A.handled=none)(I:Inv X pins Z H s)(h:Sqb X.K b H p xs)(st:ItB b s.heap it p i)
  (h1:∀x u h',xs[i]? = some x->RelV x u->ItB b h' it p ?jx->Heap.SameBut it s.heap h'->Q (some u) { s with heap:=h' }) (h2:∀h',xs[i]? = none->Heap.ExtBut it s.heap h'->Q none { s with heap:=h' }) :
  wpAny ?B A (pyNext<|.ref it) Q E s:=by
 cases b with
 | true =>
  let{i_,rv,pl,_}:=I.list h
  cases hx:xs[i]? with
  | some x =>
   let{u,hu,ru}:=rv.get hx;exact wpAny_pyNext_list_item st pl.isList (x:=u) (by simpa using hu) λh' a b=>h1 x u h' hx ru a b
  | none=>exact wpAny_pyNext_list_end hh st pl.isList (by have:=rv.length;simp at hx ⊢;lia) λh' e=>h2 h' hx e
 | false =>
  let{i_,rv,pl,_}:=I.tuple<|A_.of h
  cases hx:xs[i]? with
  | some x =>
   let{u,hu,ru}:=rv.get hx;exact wpAny_pyNext_tuple_item st (show s.heap.IsTuple p i_.toArray from pl) (x:=u) (by simpa using hu) λh' a b=>h1 x u h' hx ru a b
  | none=>exact wpAny_pyNext_tuple_end hh st (show s.heap.IsTuple p i_.toArray from pl) (by have:=rv.length;simp at hx ⊢;lia) λh' e=>h2 h' hx e
theorem ItB.at{h h':Wp}{i:Nat}(st:ItB b h it p i)(k:∀o,h.get? it=some o->h'.get? it=some o):ItB b h' it p i:=by
 cases b with
 | true=>exact Heap.IsListIter.at st k
 | false=>exact Heap.IsTupleIter.at st k
def N4{R:Result->Tk->Prop}(hh:A.handled=none)(hu:A.units+2<cLine){d:Tl}(f1:it≠X.env.locals)(f3:it∈X.ex\/X.s₀.heap.objs.size<=it)
  (f4:∀x c,X.env.cells.lookup x=some c->c≠it) (f5:∀p∈X.pn++pins,p.1≠it):∀(rest:Re V) (i:Nat) (j:Int) (u:Tok) (s:Tk) (H H':Hp),Inv X pins Z H s->H it=none->ItB b s.heap it p i ->
  (∀H1,(∀b,b≠d->H1 b=H b)->Sqb X.K b H1 p xs)->xs.drop i=rest->Sb X.K d H rest H'->(∀s',Inv X pins Z H' s'->R (.ok<|.ret .none) s') ->
  codeAny ?B A (.builtin "dict.update.loop" {[.ref d,.ref it,.int j u,.none],[]}) R s:=by
 intro rest
 induction rest with
 | nil =>
  intro i j u s H H' I f0 st kp hd P hR
  cases P
  refine lV Ki ?_;rw[Around.under_plainId MF _];show wpAny _ A.in1 (pyNext (.ref it) >>= _) _ _ s;refine f_<|Fi (show A.in1.handled=none from hh) I (kp H λ_ _=>rfl) st (λx v h' hx=>?_) λh' _ eb=>?_
  ·have:=List.drop_eq_nil_iff.mp hd;rw[sZ this]at hx
   cases hx
  exact f_<|l_<|l_<|hR _<|I.turned (t':=s.toks) ?jT f0 f1 f3 f4 f5
 | cons q rest ih =>
  intro i j u s H H' I f0 st kp hd P hR
  cases P with
  | @cons _ H1 _ t k v _ tq g P =>
  refine lV Ki ?_;rw[Around.under_plainId MF _];show wpAny _ A.in1 (pyNext (.ref it) >>= _) _ _ s;have R0:xs[i]? = some (.ref t):=by
   have:=congrArg (λl=>l[0]?) hd;simpa using this
  refine f_ (Fi (show A.in1.handled=none from hh) I (kp H λ_ _=>rfl) st (λx y h' hx ry st' sb=>?_) λh' hx=>by rw[R0]at hx;cases hx);rw[R0]at hx
  cases hx
  cases (show y=Value.ref t from ry)
  dsimp only;have I1:Inv X pins Z H { s with heap:=h' }:=I.turned (t':=s.toks) (λb o hb e=>(sb.2 b hb).trans e) f0 f1 f3 f4 f5;let{tt,vt,pt,_}:=I1.tuple tq
  cases vt with
  | cons rk vt =>
  cases vt with
  | cons rv' vt =>
  cases vt
  let{ot,et,ct,n,dt}:=pt;refine f_<|um ?_;have hT:({ s with heap:=h' }:Tk).TypeIs (.ref t) "tuple":={ot,et,ct};let{c,Vu,dat,sl}:=ot;simp only at ct dt;subst ct dt;refine f_<|wpAny_tryCatch ?_;unfold Builtin.Dict.pairItems;refine f_<|iD hT ?_;rw[ap ?C];refine f_<|y9 et rfl ?_;refine l_ ?_;show wpAny _ _ (holding [_,_]<|dictSet d _ _) _ _ _;have nd:it≠d:=λz=>(MN g).1 (by rw[<-z];exact f0)
  refine um (LR (by show A.units+1+1<cLine;exact hu) I1 g rk rv' λs2 I2 k2=>?_);refine l_ {plainId_quiet MF _,?_};exact ih ?jx _ _ s2 H1 H' I2 (((MN g).2 it nd).trans f0) (st'.at λo e=>k2 it o nd e) (λH2 h2=>kp H2 λb n=>(h2 b n).trans<|(MN g).2 b n) (by rw[<-vI,hd];rfl) P hR
end
section
def Lb(b:Bool):typeLookup (.type<|WD.tyB b) "keys" = pure none:=by cases b<;>(rw[typeLookup_type,builtinLookup_eq_fast];kernel_rfl)
def Ah{b:Bool}{xs:Re V}{ob:HO}{Q:t_}(hh:A.handled=none)(hu:A.units+10<cLine)(I:Inv X pins Z H s)(hob:ob=.dK []\/ob=.dT [])
  (hq:∀H1,(∀b,b≠s.heap.objs.size->H1 b=H b)->Sqb X.K b H1 p xs) (P:Sb X.K s.heap.objs.size (upd H s.heap.objs.size ob) xs H') (h:∀s',Inv X pins Z H' s'->Q (.ref s.heap.objs.size) s') :
  wpAny ?B A (call (.type "dict") [.ref p]) Q E s:=by
 refine callType_codes (Q₁:=λobj s₁=>obj=.ref s.heap.objs.size/\s₁={ s with heap:=s.heap.push { cls:=.type "dict",data:=.dict #[] } }) F.kt_called_dict (F.kt_typeCall_dict_1 _) F.entry_dict_init (kt_code_dict_new _ {rfl,rfl}) ?_;rintro obj s₁ ⟨rfl,rfl⟩;have I1:Inv X pins Z (upd H s.heap.objs.size ob) { s with heap:=s.heap.push { cls:=.type "dict",data:=.dict #[] },toks:=s.toks }:=by
  let rfl||rfl:=hob
  ·exact I.laid ?qP ?ji<|Q6 s.heap I.big
  ·exact I.laid ?qP ?ji<|Q7 s.heap I.big
 have hT:({ s with heap:=s.heap.push { cls:=.type "dict",data:=.dict #[] } }:Tk).TypeIs (.ref s.heap.objs.size) "dict":={_,cN _ rfl,rfl};refine{hT,F.args_dict_init_2 _ _,?_};unfold Builtin.«dict.__init__»;refine f_ ?_;unfold Builtin.Dict.selfAndRest;refine f_<|yB hT ?_;show wpAny _ _ (pure (s.heap.objs.size,[Value.ref p])) _ _ _;refine l_ ?_;show wpAny _ _ (Builtin.Dict.updateFrom "dict.__init__" s.heap.objs.size (.ref p) [] .none) _ _ _;unfold Builtin.Dict.updateFrom;have q1:=hq (upd H s.heap.objs.size ob) λb n=>G_ n;have q2:∃(o:Obj) (xs:UF SZ) (n:Nat),(s.heap.push { cls:=.type "dict",data:=.dict #[] }).get? p=some o/\o.cls=.type (WD.tyB b)/\o.data=.seq xs n/\o.dict=none:=by
  cases b with
  | true=>let{i_,rv,{o,n,e,c,d,dt},hz}:=I1.list q1;exact{o,_,n,e,c,dt,d}
  | false =>
   let{_,i_,_,{o,e,c,n,dt},ob,e2,d}:=I1.j_ _ _ q1;rw[e]at e2
   cases e2
   exact{o,_,n,e,c,dt,d}
 let{o,ys,n,e,c,dt,d}:=q2;refine f_<|iD {o,e,c} ?_;rw[ap (by cases b<;>decide)];refine f_ (WD.zas b (A:=A.in1.in1) e c dt d (Lb b) ?C hh (by rw[wH];decide) λh2 tk2 ex ne=>?_);simp![Option.isNone_none,zd];have I2:=I1.kept (h':=h2) (t':=tk2) ne.keeps;refine f_<|nr ?_;have go:∀{Q:t_} {E:t_} {A:UV},(∀h',(∀b o,h2.get? b=some o->h'.get? b=some o)->ItB b h' h2.objs.size p 0->Q (.ref h2.objs.size) { s with heap:=h',toks:=tk2 })->wpAny ?B A (pyIter<|.ref p) Q E { s with heap:=h2,toks:=tk2 }:=λ{Q E A} k=>by
  cases b with
  | true=>let{_,_,pl,_}:=I2.list q1;exact jz pl.isList<|k _ (λb o e=>v_ _ e) {_,cN _ rfl,rfl,rfl}
  | false=>let{i_,_,pl,_}:=I2.tuple<|A_.of q1;exact re (show h2.IsTuple p i_.toArray from pl)<|k _ (λb o e=>v_ _ e) {_,cN _ rfl,rfl,rfl}
 refine f_<|go λh3 k3 W9=>?_;let{f0,f1,f2,f3,f4,f5}:=I2.Sy (H':=upd H s.heap.objs.size ob) ?ji<|I2.j_.fresh ?ji;refine l_ {plainId_quiet MF _,?_};exact N4 (A:=A.in1) hh ?jc f1 f3 f4 f5 xs 0 _ _ _ _ H' (I2.kept (t':=tk2) k3) f0 W9 (λH2 h2=>hq H2 λb n=>(h2 b n).trans<|G_ n) rfl P λs' J=>{rfl,h s' J}
end
def zZ(t:Bool):HO:=if t then .dT []else .dK []
def zo(K:PySem.W.Frag)(b t:Bool)(te:TE):TE:=λZ H Q=>te Z H λx H1=>∃a xs,x=.ref a/\∀p,H1 p=none->(∀H2:Hp,(∀b,b≠p->H2 b=H1 b)->Sqb K b H2 a xs)/\∃H',Sb K p (upd H1 p<|zZ t) xs H'/\Q (.ref p) H'
section
variable {te:TE} {p pos:Pos}
def Hy(b t:Bool)(hc:X.calm=true)(hu:X.A.units+10<cLine)(hg:uf X "dict")(hm:X.mg "dict"=none)(ha:cM X e te)(he:starEach [e] X.env=[?N]) :
  cM X (.Call (.Name "dict" p) [e] [] pos) (zo X.K b t te):=by
 intro pins s Z H Q I h;refine xz<|Go I hg hm (show bootBuiltins "dict"=some (.type "dict") by decide +kernel) ?_ ?C ?C;refine ny (T := "dict") ?_ he rfl;rw[he];show wpAny _ _ (spliced<|?N::backTo pos []) _ _ s;refine tP<|Db ?jj λv s1 ⟨x,H1,I1,r1,q1⟩=>?_;let{a,xs,rfl,k}:=q1
 cases r1
 refine uR ?_;let{hq,H',P,q}:=k s1.heap.objs.size ?jQ;exact Ah (I1.ok.hd hc) hu I1 (ob:=zZ t) (by cases t;exact .inl rfl;exact .inr rfl) hq P λs' J=>{.ref s1.heap.objs.size,_,J,rfl,q}
end
def ki(t:Bool):Re ?M->Re D->SL (Re ?M)
 | es,[]=>some es
 | es,.tuple [k,d]::r=>(ii t es k d).bind λes1=>ki t es1 r
 | _,_=>none
def M7{t:Bool}{es es1:Re ?M}{kd d:D}{x:V}(hh:Rv K F H p (xD t es))(sm:c_ F H)(rk:Rep K F x kd)(rv:Rep K F v d)(hp:ii t es kd d=some es1) :
  ∃H1,Se H p x v H1/\Rv K F H1 p (xD t es1):=by
 unfold ii at hp;split at hp
 case isFalse=>cases hp
 rename_i hc
 cases hp
 rw[am,aQ]at hc
 cases t with
 | true =>
  let{ks,rfl}:=VI hc.1;let{b,rfl,hb}:=Mj rk;let{kvs,h1,h2,h3}:=(show Rv K F H p (.t es)from hh);let{p1,p2}:=KP Pc ks rv h2 h3;have hlen:kvs.length=es.length:=by have:=congrArg List.length h2;simpa using this.symm
  exact{_,Se.t h1 (sm _ _ hb) ?A,{_,UQ,p1,p2}}
 | false =>
  let{ks,rfl}:=Eo hc.1;obtain rfl:=O8 rk;let{kvs,h1,h2,h3}:=(show Rv K F H p (.k es)from hh);let{p1,p2}:=KP BW ks rv h2 h3;have hlen:kvs.length=es.length:=by have:=congrArg List.length h2;simpa using this.symm
  exact{_,Se.k h1 ?A,{_,UQ,p1,p2}}
def Hl{t:Bool}(fp:F p=none):∀{vs:Re V} {ds:Re D} {es W4:Re ?M} {H:Hp},h_ K F vs ds->Rv K F H p (xD t es)->c_ F H->ki t es ds=some W4 ->
  ∃H',Sb K p H vs H'/\Rv K F H' p (xD t W4)/\∀b,b≠p->H' b=H b:=by
 intro vs
 induction vs with
 | nil =>
  intro ds es W4 H r hh sm e
  cases r
  cases e
  exact{H,.nil,hh,λ_ _=>rfl}
 | cons x vs ih =>
  intro ds es W4 H r hh sm e
  cases r with
  | cons r1 r2 =>
  unfold ki at e;split at e
  ·rename_i q;cases q
  ·rename_i k d r q
   cases q
   let{es1,e1,e2}:=Option.bind_eq_some_iff.mp e;let{a,ws,rfl,ha,TX}:=r1.Q9
   cases TX with
   | cons rk TX =>
   cases TX with
   | cons rv TX =>
   cases TX
   let{H1,g,hh1}:=M7 hh sm rk rv e1;have nb:=(MN g).2;have sm1:c_ F H1:=λb o z=>by rw[nb b (λy=>by rw[y,fp]at z;cases z)];exact sm b o z
   let{H',P,hh2,n2}:=ih r2 hh1 sm1 e2;exact{H',.cons (A_.of<|sm _ _ ha) g P,hh2,λb n=>(n2 b n).trans<|nb b n}
  ·cases e
def yD(t:Bool):D->SL (Re ?M)
 | .list ds=>ki t [] ds
 | _=>none
def z9(t:Bool):D->SL (Re ?M)
 | .tuple ds=>ki t [] ds
 | _=>none
def nW(b t:Bool)(d:D):SL (Re ?M):=match b with
 | true=>yD t d
 | false=>z9 t d
def sv{S:Type}(b t:Bool)(i:Nat)(me:Ev S D):SM S:=λK ρ=>me K.x (λd ρ1=>match jT ρ1 i with
 | true=>(oM<|nW b t d).on (λe=>K.x e ρ1) λes=>K.nx<|ρ1.set i<|some<|.ol<|xD t es
 | false=>.bad) ρ
def An{S:Type}(b t:Bool){i:Nat}{x:Str}{me:Ev S D}{p pos pos' L_:Pos}(hc:X.calm=true)(hu:X.A.units+1100<cLine)(hg:uf X "dict")(hm:X.mg "dict"=none)(hN:X.N.Nodup)(hi:X.N[i]? = some x)(hx:Loc X.env.scope x)(hk:dL X e me)(he:starEach [e] X.env=[?N])
  (hs:swapsWith (.Call (.Name "dict" p) [e] [] L_) (some<|.Name x pos') pos.line X.env=pure false) (hf:X.fn x=true\/X.env.scope.names.lookup x=some .local) :
  wG (S:=S) X (.Assign [.Name x pos'] (.Call (.Name "dict" p) [e] [] L_) pos) (sv b t i me):=λOK K G F Z H ρ E hO hX St ok eo =>
 E3 (PR hN hi hx (Hy b t hc ?A hg hm Mz he) hs hf) (hk OK K.x _ G F Z H ρ _ hO hX St ok λd v F1 H1 ρ1 s1 S1 r1 o1=>by
  split at o1
  case h_2=>exact(hO o1).elim
  rename_i hq;let{es,hd,o3}:=OT hO o1;let{hl,T_}:=K0 hq;have q:∃a vs ds,v=.ref a/\Sqb X.K b F1 a vs/\h_ X.K F1 vs ds/\ki t [] ds=some es:=by
   cases b with
   | true =>
    cases d<;>try (cases hd;done)
    let{a,vs,rfl,h1,h2}:=r1.lst_inv;exact{a,vs,_,rfl,h1,h2,hd}
   | false =>
    cases d<;>try (cases hd;done)
    let{a,vs,rfl,h1,h2}:=r1.Q9;exact{a,vs,_,rfl,h1,h2,hd}
  let{a,vs,ds,rfl,h1,h2,hd}:=q;refine{a,vs,rfl,λp hp=>?_};have fp:=S1.fh.free hp;have op:=S1.oh.free hp;have smU:∀H2:Hp,(∀b,b≠p->H2 b=H1 b)->c_ F1 H2:=λH2 h b o z=>by rw[h b (λy=>by rw[y,fp]at z;cases z)];exact S1.fh b o z
  let{H',P,hh,n}:=Hl (t:=t) (es:=[]) (H:=upd H1 p (zZ t)) fp h2 (by cases t<;>exact{[],UQ,rfl,.nil}) (smU _ λb n=>G_ n) hd;refine{λH2 h=>(by cases b;exact smU H2 h _ _ h1;exact(smU H2 h).seq h1),H',P,?_};let{o,ho}:=hh.some;have eH:H'=upd H1 p o:=funext λb=>by
   by_cases z:b=p
   ·rw[z,ho,UQ]
   ·rw[n b z,G_ z,G_ z]
  subst eH
  exact eo.nx F1 _ _ _ s1 ((S1.lay (o:=o) hp).store T_ hl<|.inr {xD t es,rfl,p,rfl,{fp,op,hh},S1.fresh_ne hp}) o3)
noncomputable def Itk(a:Tl)(o:Obj)(ks:Re Tl):It :=
 {λi H=>(∃u,H a=some (.Rm o u))/\i<ks.length,λi H x H'=>H'=H/\∃b,ks[i]? = some b/\x=.ref b,λi H=>(∃u,H a=some (.Rm o u))/\ks.length<=i}
def Kj(I:Inv X pins Z H s){a:Tl}(h:∃u,H a=some (.Rm o u)):s.heap.get? a=some o:=let ⟨u,e⟩:=h;((I.j_ a _ e)).1
def Cp{P:TD}{w:TW}{K:PySem.W.Frag}{a it:Tl}{es:UF DictEntry}{ep:Nat}{ks:Re Tl}(c:o.ExactDict)(d:o.data=.dict es ep)(hk:es.toList.map (·.key)=ks.map Value.ref):Turn P w K tg (Itk a o ks) [it] it (λi h=>h.IsKeyIter it a i es.size ep) where
 mem:=by simp
 obj:=λi h st b hb=>by
  let{o,e,c,d}:=st
  grind
 keep:=λi h h' st k=>st.at λo e=>k it ?E o e
 item:=by
  intro X hP hw hK hc i pins s Z H E I hf st ⟨hu,hi⟩;let{f0,f1,f2,f3,f4,f5}:=hf it ?E;have hl:=by
   have:=congrArg List.length hk;simpa using this
  refine TS.Ws (n:=0) st {o,Kj I hu,c,d} (λV7 h' st' sb=>?_) λz=>by lia
  have I1:Inv X pins Z H { s with heap:=h' }:=I.turned  (λb o hb e=>(sb.2 b hb).trans e) f0 f1 f3 f4 f5;let{q,e,c',d'}:=id st';have ek:es[i].key=.ref ks[i]:=by
   have h1:(es.toList.map (·.key))[i]? = (ks.map Value.ref)[i]?:=by rw[hk]
   grind
  exact{_,rfl,BB  e c' d' ?C {.ref ks[i],H,I1,ek,{rfl,_,ax hi,rfl},st',λb hb=>(hf b hb).1}}
 done:=by
  intro X hP hw hK hc i pins s Z H E I hf st ⟨hu,hi⟩;let{f0,f1,f2,f3,f4,f5}:=hf it ?E;have hl:=by
   have:=congrArg List.length hk;simpa using this
  exact TS.Ws (n:=0) st {o,Kj I hu,c,d} (λV7=>by lia) λ_=>{I.ok.hd hc,λh' eb=>{rfl,I.turned  ?jT f0 f1 f3 f4 f5}}
 self:=λ_ _ _ _ _ st h=>wpAny_pyIter_keyiter st h
def wx(tl:TE):TI:=λZ H R=>tl Z H λx H1=>∃a o kvs,x=.ref a/\H1 a=some (.Rm o<|.dT kvs)/\∀xs:Re ?jO,KT H1 kvs xs->R (Itk a o (xs.map (·.2.1))) H1
def PJ{a:Tl}{kvs:Re ?qm}{R:It->Hp->Prop}(I:Inv X pins Z H s)(e:H a=some (.Rm o<|.dT kvs))(q:∀xs:Re ?jO,KT H kvs xs->R (Itk a o (xs.map (·.2.1))) H) :
  wpAny ?B X.A (pyIter<|.ref a) (PIE X pins Z tg R) X.xe s:=by
 let{g0,z,y,xs,r,ob,es,ep,h1,h2,h3,h4,h5}:=((I.j_ a _ e));have eo:=Option.some.inj<|h1.symm.trans g0;subst eo;have hk:es.toList.map (·.key)=(xs.map (·.2.1)).map Value.ref:=by
  rw[h4,ic,ic];exact im λq _=>rfl
 refine TS.YU y {ob,h1,h2,h3} ?_;refine{s.heap.objs.size,[s.heap.objs.size],_,_,H,rfl,I.kept  λb o e=>v_ _ e,Cp h2 h3 hk,{_,cN _ rfl,rfl,rfl},λb hb=>?_,q xs r};have e:=by simpa using hb
 subst e;exact I.Sy ?ji ?jA
def Co{a:Tl}{u:HO}{ks:Re Tl}{ds:Re D}(h:F a=some (.Rm o u))(r:h_ K F (ks.map V.ref) ds):Walk K (Itk a o ks) ds F where
 go:=λi G F2 Z H2 ρ s S hi=>{{u,S.fh _ _<|s _ _ h},by have:=r.length;rw[u_]at this;lia}
 VM:=λi G F2 Z H2 ρ x H3 d s S hd ⟨e,b,eb,ex⟩=>by
  let{v,e1,e2}:=r.get hd
  grind
 stop:=λG F2 Z H2 ρ s S=>{{u,S.fh _ _<|s _ _ h},by have:=r.length;rw[u_]at this;lia}
def p8(es:Re ?M):SL ?R:=match es with
 | (k,_)::_=>if dF k then some (es.map (·.1))else none
 | []=>none
def vJ(d:D):SL ?R:=match d with
 | .dict es=>p8 es
 | d=>bZ d
def zq(p:Pu D):Pu ?R:=λρ=>bd (p ρ) λd=>oM<|vJ d
def Ps{es:Re ?M}{ds:Re D}(r:Rep K F v (.dict es))(h:p8 es=some ds):ds=es.map (·.1)/\∃a o kvs,v=.ref a/\F a=some (.Rm o<|.dT kvs)/\es.map (·.1)=kvs.map ?qg/\h_ K F (kvs.map (·.2)) (es.map (·.2)):=by
 unfold p8 at h;split at h
 ·rename_i k z W4;split at h
  ·rename_i hk
   cases h
   refine{rfl,?_};let{ks,rfl}:=VI hk;generalize he:((cY ks,z)::W4)=el at r
   cases r with
   | Vu h1 h2 h3=>exact{_,_,_,rfl,h1,h2,h3}
   | @ZI _ kvs _ h1 h2 h3 =>
    subst he
    cases kvs with
    | nil=>simp at h2
    | cons q kvs =>
     let{q1,q2}:=q;simp![aw,List.cons.injEq]at h2;have:=h2.1
     cases q1<;>cases this
   | exc _ _ _ _ _=>cases he
   | fn _=>cases he
  ·cases h
 ·cases h
def Pv{pp:Pu D}(h:lj X e pp):bf X tg e (zq pp):=λG F Z H ρ R S w=>by
 refine Cz (t:=λZ H R=>gW X e Z H λx H1=>(∃a o kvs,x=.ref a/\H1 a=some (.Rm o<|.dT kvs)/\∀xs ,KT H1 kvs xs->R (Itk a o (xs.map (·.2.1))) H1)\/((∃a,x=.ref a/\(∃xs,Ro X.K H1 a xs)/\R (Itl X.K a) H1)\/∃a,x=.ref a/\(∃xs,A_ X.K H1 a xs)/\R (Itt X.K a) H1)) ?_<|h G F Z H ρ _ S<|w.bind.imp λd F1 H1 s1 S1 w1 v r1=>?_
 ·intro pins s Z H R I h;refine Db (Mz pins s Z H _ I h) λu s1 ⟨x,H1,I1,r1,q1⟩=>?_
  let{a,o,kvs,rfl,e,q}||q1:=q1
  ·cases r1
   exact PJ I1 e q
  ·let{a,e,{xs,hq},q}||{a,e,{xs,hq},q}:=q1
   ·subst e
    cases r1
    let{i_,rv,p,hz}:=I1.list hq;refine jz p.isList ?_;refine{s1.heap.objs.size,[s1.heap.objs.size],_,_,H1,rfl,I1.kept  λb o e=>v_ _ e,PV a _,{_,cN _ rfl,rfl,rfl},λb hb=>?_,q};have e:=by simpa using hb
    subst e;exact I1.Sy ?ji ?jQ
   ·subst e
    cases r1
    let{i_,rv,p,hz}:=I1.tuple hq;refine re ((p)) ?_;refine{s1.heap.objs.size,[s1.heap.objs.size],_,_,H1,rfl,I1.kept  λb o e=>v_ _ e,PX a _,{_,cN _ rfl,rfl,rfl},λb hb=>?_,q};have e:=by simpa using hb
    subst e;exact I1.Sy ?ji ?jQ
 ·let{ds,hd,k}:=w1.opt
  cases d with
  | dict es =>
   let{rfl,a,o,kvs,rfl,h1,h2,h3}:=Ps r1 hd;refine .inl {a,o,kvs,rfl,S1.fh _ _ h1,λxs kt=>?_};let{F2,s2,S2,r2,_}:=Eg kt S1;refine k F2 H1 s2 S2 _<|Co (s2 _ _ h1) ?_;rw[h2,ic];exact r2
  | _=>exact .inr<|Mo S1.fh r1 hd<|k F1 H1 ?J S1
end L4
namespace TS
open PySem
section
variable {prog:TD}{w:TW}{A:UV}{E:t_}{s:Tk}{d it:Tl}{es:UF DictEntry}{ep i:Nat}
def XI{v:Tl}{Q:t_}(hv:s.heap.IsItemsView v d)(x:DR s.heap d es ep)
  (q:Q (.ref s.heap.objs.size) { s with heap:=s.heap.push { cls:=.type "dict_itemiterator",data:=.fields #[.none,.bool false,.ref d,.int 0 0,.int es.size 0,.int ep 0,.none,.none] } }):wpAny ?D A (pyIter<|.ref v) Q E s:=by
 let{o,e1,e2,e3}:=id x;let{ov,g1,g2,g3}:=id hv;have own:Builtin.Dict_items.ownsTuple "dict_itemiterator" = true:=by decide
 refine wpAny_pyIter_slot hv.typeIs F.slot_dict_items_iter<|pd F.slot_dict_items_iter hv.typeIs F.entry_dict_items_iter ?_<|F.args_dict_items_iter_1 _;refine f_<|l_<|f_ ?_;refine f_<|kw g1 g3  rfl<|l_<|f_ ?_;refine f_<|lB e1 e3<|f_<|qb e1 e3 ?_;simp![own,zd];refine io (l_ {_,rfl, "dict_itemiterator",_,{_,cN _ rfl,rfl},F.slot_dict_itemiterator_next.lookup,by simpa[rawInt,Builtin.Dict_items.ownedTupleFields]using q}) (by simp![sizeOk,Builtin.Dict_items.ownedTupleFields,ig,xP,f8,yT,wH];lia)
def U6{ok ov:SZ}{Q:SL SZ->Tk->Prop}(hit:IsItemIter s.heap it d i es.size ep ok ov)(x:DR s.heap d es ep)
  (q1:∀(hi:i<es.size) (h':Wp),IsItemIterOut h' it d ?jx es.size ep es[i].key es[i].val s.heap.objs.size->h'.get? s.heap.objs.size=some { cls:=.type "tuple",data:=.seq #[es[i].key,es[i].val] } ->
   (∀b o,b≠it->s.heap.get? b=some o->h'.get? b=some o)->Q (some<|.ref s.heap.objs.size) { s with heap:=h' })
  (q2:es.size<=i->A.handled=none/\∀h',Heap.ExtBut it s.heap h'->Q none { s with heap:=h' }):wpAny ?D A (pyNext<|.ref it) Q E s:=by
 let{hp,g,dr,tk,os}:=s;let{od,f1,f2,f3}:=id x;have T:Shared.TypeIs {hp,g,dr,tk,os} (.ref it) "dict_itemiterator":={_,hit,rfl};have own:Builtin.Dict_items.ownsTuple "dict_itemiterator" = true:=by decide
 have pos:¬ ((i:Int)<0):=by omega
 unfold pyNext;refine f_<|zM<|mo (name:=Str.ofString "__next__") T F.slot_dict_itemiterator_next<|pd F.slot_dict_itemiterator_next T F.entry_dict_itemiterator_next ?_<|F.args_dict_itemiterator_next_1 _;refine f_<|l_<|f_<|f_<|f_<|tm T<|l_<|f_<|wpAny_fieldsOf hit rfl ?_;simp![own,zd];refine(show wpAny ?D _ (if(Value.ref d==Value.none)=true then _ else _) _ _ {hp,g,dr,tk,os}from ?_);rw[ba<|show ¬ ((Value.ref d==Value.none)=true)from λz=>Bool.noConfusion z];refine f_<|l_<|f_<|lB f1 f3 ?_;rw[ba ?E];refine f_<|l_<|f_<|qb f1 f3 ?_;rw[ba ?E];refine l_ ?_;by_cases hi:i<es.size
 ·simp![pos,lw,i7,ay hi];refine f_<|f_<|tm T<|l_<|f_<|u9 T ?_;refine(show wpAny ?D _ (setField (.ref it) 3 (rawInt<|(i:Int)+1) >>= _) _ _ {hp,g,dr,tk,os}from f_<|qu hit ?E λh1 r1 b1=>?_);replace b1:Heap.SameBut it hp h1:=b1;replace r1:IsItemIter h1 it d ?jx es.size ep ok ov:=by
   unfold IsItemIter;rw[show((i+1:Nat):Int)=(i:Int)+1 by omega];simpa[rawInt]using r1
  have T1:Shared.TypeIs {h1,g,dr,tk,os} (.ref it) "dict_itemiterator":={_,r1,rfl};refine f_<|um<|f_<|u9 T1<|f_<|u9 T1 ?_;refine(show wpAny ?D _ (Builtin.Dict_items.pairFromOwner (.ref it) 6 es[i].key es[i].val) _ _ {h1,g,dr,tk,os}from ?_);unfold Builtin.Dict_items.pairFromOwner;refine f_<|wpAny_newTuple ?_;have z1:h1.objs.size=hp.objs.size:=b1.1;have r2:IsItemIter (h1.push { cls:=.type "tuple",data:=.seq #[es[i].key,es[i].val] }) it d ?jx es.size ep ok ov:=v_ _ r1;generalize hh2:h1.push { cls:=.type "tuple",data:=.seq #[es[i].key,es[i].val] }=h2 at r2;have lt:hp.objs.size≠it:=wE<|bj hit;have t2:h2.get? hp.objs.size=some { cls:=.type "tuple",data:=.seq #[es[i].key,es[i].val] }:=by rw[<-hh2,<-z1];exact cN _ rfl
  have k2:∀b o,b≠it->hp.get? b=some o->h2.get? b=some o:=λb o hb e=>by rw[<-hh2];exact v_ _<|b1.extBut b o hb e
  refine(show wpAny ?D _ (Builtin.Dict_items.ownedTupleIsFree (.ref it) >>= _) _ _ {h2,g,dr,tk,os}from ?_);rw[z1];refine f_ ?_;unfold Builtin.Dict_items.ownedTupleIsFree;refine f_<|kw r2 rfl (x:=.none) rfl<|l_ ?_;simp![zd];refine f_<|kw r2 rfl (x:=ok) rfl<|f_<|kw r2 rfl (x:=ov) rfl<|f_<|qu r2 ?E λh3 r3 b3=>?_;replace b3:Heap.SameBut it h2 h3:=b3;replace r3:IsItemIter h3 it d ?jx es.size ep es[i].key ov:=r3;refine f_<|qu r3 ?E λh4 r4 b4=>?_;replace b4:=b4;refine f_<|qu r4 ?E λh5 r5 b5=>?_;replace b5:=b5;refine f_<|qu r5 ?E λh6 r6 b6=>?_;replace b6:=b6;have k6:=λb o hb e=>b6.extBut b o hb<|b5.extBut b o hb<|b4.extBut b o hb<|b3.extBut b o hb e
  exact f_<|sC<|l_<|l_ {_,rfl,l_<|q1 hi h6 r6 (k6 _ _ lt t2) λb o hb e=>k6 b o hb<|k2 b o hb e}
 ·let{hh,q}:=q2 ?S;simp  [pos,lw,i7,Array.getElem?_eq_none (show es.size<=i by omega)];refine f_<|f_<|tm T<|l_ ?_;refine(show wpAny ?D _ (setField (.ref it) 2 .none >>= _) _ _ {hp,g,dr,tk,os}from f_<|nz hit rfl ?E ?_);refine((f_ ?_));refine f_ (io ?_ (by size_fits));refine f_<|wpAny_of_eq  (rfl) ?_;refine io ?_ (by size_fits);refine f_<|wpAny_handled ?_;rw[(hh)];refine f_<|l_<|wpAny_throw ?_;refine f_<|nA   (({_,cN _ rfl,rfl})) isSubtype_stop ?_;exact l_<|q _<|((Heap.SameBut.update ..).extBut.push _).push _
end
end TS
namespace L4
open PySem PySem.Spec PyProof.Rows L2 L3
variable {H F:Hp}{G:Gh}{X:Cx}{Z:L2.St}{K:Fg}{p:Tl}{kx:Re Key}{S:Type}{D' E:Ends}{pos:Pos}{o:Obj}{y:V}{n:Nat}{kvs:Re ?qm}{ret:Re Stmt}
def Af{prog:TD}{w:TW}{A:UV}{E:t_}{s:Tk}{d:Tl}{Q:t_}(lo:(d==sysModules)=false)(T:s.TypeIs (.ref d) "dict")(q:Q (.ref s.heap.objs.size) { s with heap:=s.heap.push { cls:=.type "dict_items",data:=.fields #[.ref d] } }) :
  wpAny ?D A (call (.builtin "dict.items") [.ref d]) Q E s:=by
 refine pd PySem.F.slot_dict_items T PySem.F.entry_dict_items ?_<|PySem.F.args_dict_items_1 _;refine f_ ?_;refine f_<|yB T<|(l_ ?_);unfold Builtin.Dict.showsAll;rw[ba (by rw[lo];decide)];exact f_<|l_<|f_<|io<|l_ {_,rfl,q}
noncomputable def Itm(a:Tl)(o:Obj)(ks:Re Tl)(vs:Re V):It :=
 {λi H=>(∃u,H a=some (.Rm o u))/\i<ks.length,λi H x H'=>∃p k v,ks[i]? = some k/\vs[i]? = some v/\H p=none/\x=.ref p/\H'=upd H p (.tup [.ref k,v]),λi H=>(∃u,H a=some (.Rm o u))/\ks.length<=i}
def US{P:TD}{w:TW}{K:PySem.W.Frag}{elts:Re Uf}{x1}{a it:Tl}{es:UF DictEntry}{ep:Nat}{ks:Re Tl}{vs:Re V}(c:o.ExactDict)(d:o.data=.dict es ep)(hk:es.toList.map (·.key)=ks.map Value.ref)(hv:Vals vs (es.toList.map (·.val))):Turn P w K (.Tuple elts x1 pos) (Itm a o ks vs) [it] it (λi h=>∃ok ov,IsItemIter h it a i es.size ep ok ov) where
 mem:=by simp
 obj:=λi h st b hb=>by
  have e:=by simpa using hb
  subst e;let{ok,ov,e}:=st;exact{_,e,λv z=>by cases z}
 keep:=λi h h' ⟨ok,ov,st⟩ k=>{ok,ov,k it ?E _ st}
 item:=by
  intro X hP hw hK hc i pins s Z H E I hf ⟨ok,ov,st⟩ ⟨hu,hi⟩;have hl:=by
   have:=congrArg List.length hk;simpa using this
  refine TS.U6 st {o,Kj I hu,c,d} (λV7 h1 r1 t1 k1=>?_) λz=>by lia
  have ek:es[i].key=.ref ks[i]:=by
   have h1:(es.toList.map (·.key))[i]? = (ks.map Value.ref)[i]?:=by rw[hk]
   grind
  have hiv:i<vs.length:=by
   have hlv:=hv.length
   grind
  let{u,hu',ru}:=hv.get<|ax hiv;rw[ue,ax<|((V7))]at hu';have ev:=by simpa using hu'
  rw[ek,ev]at t1 r1;refine{_,rfl,wpAny_letOwnedTupleGo_items r1 λh2 r2 (b2)=>?_};have ne:=wE<|bj st;have Rz:∀c o,c∉[it]->s.heap.get? c=some o->h2.get? c=some o:=λc o hc e=>by
   have hc:=by simpa using hc
   exact b2.extBut _ _ hc<|k1 c o hc e
  have I1:Inv X pins Z (upd H s.heap.objs.size<|.tup [.ref ks[i],vs[i]]) { s with heap:=h2,toks:=s.toks }:=Iz I hf ((rfl)) ru Rz<|b2.extBut _ _ ne t1;refine{.ref s.heap.objs.size,_,I1,rfl,{_,_,_,ax hi,ax hiv,I.fresh,rfl,rfl},{_,_,r2},λc hc=>?_};have e:=by simpa using hc
  rw[e,G_<|Ne.symm ne];exact(hf it ?E).1
 done:=by
  intro X hP hw hK hc i pins s Z H E I hf ⟨ok,ov,st⟩ ⟨hu,hi⟩;let{f0,f1,f2,f3,f4,f5}:=hf it ?E;have hl:=by
   have:=congrArg List.length hk;simpa using this
  exact TS.U6 st {o,Kj I hu,c,d} (λV7=>by lia) λ_=>{I.ok.hd hc,λh' eb=>{rfl,I.turned  ?jT f0 f1 f3 f4 f5}}
 self:=λ_ _ _ _ _ ⟨ok,ov,st⟩ h=>PySem.W.kcp_self st h
def zP(td:TE):TI:=λZ H R=>td Z H λx H1=>∃a o kvs,x=.ref a/\H1 a=some (.Rm o<|.dT kvs)/\∀xs:Re ?jO,KT H1 kvs xs->R (Itm a o (xs.map (·.2.1)) (kvs.map (·.2))) H1
def EM{o:Uf}{td:TE}{elts:Re Uf}{x1}{apos q_:Pos}(ho:cM X o td)(RG:attributeBase o "items" X.env (eval o X.env)=eval o X.env)(RF:?jI=true) :
  jQ X (.Tuple elts x1 pos) (.Call (.Attribute o "items" apos) [] [] q_) (zP td):=by
 intro pins s Z H R I h;refine wpAny_Call_method0_late RG RF<|Db ?qf λu s1 ⟨x,H1,I1,rx,a,ob,kvs,ex,e,q⟩=>?_;subst ex;obtain rfl:u=Value.ref a:=rx;let{g0,z,y,xs,r,YK,es,ep,h1,h2,h3,h4,h5}:=((I1.j_ a _ e));have eo:=Option.some.inj<|h1.symm.trans g0;subst eo;have T:s1.TypeIs (.ref a) "dict":={YK,h1,h2.1};refine{"dict","dict.items",PySem.F.plainAttrs_dict,PySem.F.slot_dict_items,PySem.F.type_dict_items,T,λb q=>by cases q;exact{YK,h1,h2.2.1},vg rfl<|PySem.evalArgs_none<|Af y T ?_};have kp:∀b u,s1.heap.get? b=some u->(s1.heap.push { cls:=.type "dict_items",data:=.fields #[.ref a] }).get? b=some u:=λb u q=>v_ _ q
 have I2:=I1.kept (t':=s1.toks) kp;have hk:es.toList.map (·.key)=(xs.map (·.2.1)).map Value.ref:=by
  rw[h4,ic,ic];exact im λq _=>rfl
 have hvs:∀{kvs:Re ?qm} {xs:Re ?jO},KT H1 kvs xs->Vals (kvs.map (·.2)) (xs.map (·.2.2)):=by
  intro kvs xs r
  induction r with
  | nil=>exact .nil
  | cons h t ih=>exact .cons h.2.2 ih
 have hv:Vals (kvs.map (·.2)) (es.toList.map (·.val)):=by
  rw[h4,ic];have:=hvs r
  rwa [(im λq _=>rfl)]
 refine TS.XI  {_,cN _ rfl,rfl,rfl} {YK,kp _ _ h1,h2,h3} ?_;refine{_,[_],_,_,H1,rfl,I2.kept  λb o e=>v_ _ e,US h2 h3 hk hv,{.none,.none,cN _ rfl},λb hb=>?_,q xs r};rw[List.mem_singleton.mp hb];exact I2.Sy ?ji<|I2.j_.fresh ?ji
def iw(acc:SL (Re ?M))(k:D):SL (Re ?M):=match acc with
 | some acc=>match gz acc k with
  | none=>if decide (acc.length<1000)then some (acc++[(k,.list [])])else none
  | some _=>none
 | none=>none
def oZ(acc:Re ?M)(k x:D):SL (Re ?M):=match gz acc x with
 | some (.list l)=>if dF x&&decide (l.length<90000)then some (oY acc x<|.list<|l++[k])else none
 | _=>none
def gI(k:D)(acc:SL (Re ?M))(lead:D):SL (Re ?M):=match acc,lead with
 | some acc,.tuple (_::x::_)=>oZ acc k x
 | _,_=>none
def cK(acc:SL (Re ?M))(e:D×D):SL (Re ?M):=match e.2 with
 | .list ls=>ls.foldl (gI e.1) acc
 | _=>none
def wN(es:Re ?M):SL (Re ?M):=es.foldl cK ((es.map (·.1)).foldl iw<|some [])
def VA{α β:Type}{f:SL α->β->SL α}(h:∀b,f none b=none):∀l:Re β,l.foldl f none=none
 | []=>rfl
 | b::l=>by rw[ng,h,VA h l]
def D2(k:D):iw none k=none:=rfl
def DM(k x:D):gI k none x=none:=rfl
def Rk(e:D×D):cK none e=none:=by
 unfold cK;split
 ·exact VA (DM _) _
 ·rfl
def Ar{α β:Type}{f:α->β}:∀{l:Re α} {a b:α},(l.map f).Nodup->a∈l->b∈l->f a=f b->a=b
 | [],_,_,_,h,_,_=>nomatch h
 | x::l,a,b,n,h1,h2,e=>by
  rw[aw,oB]at n;let e1||h1:=List.mem_cons.mp h1
  ·grind
  ·let e2||h2:=List.mem_cons.mp h2
   ·grind
   ·exact Ar n.2 h1 h2 e
structure Cell where
 k:Re Key
 b:Tl
 vs:Re V
 ds:Re D
def cQ(cs:Re Cell):Re ?M:=cs.map λc=>(cY c.k,.list c.ds)
def pU(cs:Re Cell):Re ?qm:=cs.map λc=>(c.k,.ref c.b)
structure Bk(K:Fg)(G:Gh)(F H:Hp)(p:Tl)(cs:Re Cell):Prop where
 hp:H p=some (.dT<|pU cs)
 fp:F p=none
 op:G.O p=none
 ce:∀c∈cs,H c.b=some (.lst c.vs)/\F c.b=none/\G.O c.b=none/\h_ K F c.vs c.ds
 nb:(cs.map (·.b)).Nodup
 nk:(cs.map (·.k)).Nodup
 sz:cs.length<=1000
theorem Bk.at{H':Hp}{cs:Re Cell}(h:Bk K G F H p cs)(e:∀b o,H b=some o->H' b=some o):Bk K G F H' p cs:={e _ _ h.hp,h.fp,h.op,λc hc=>{e _ _ (h.ce c hc).1,(h.ce c hc).2},h.nb,h.nk,h.sz}
def GT{kx:Re Key}:∀cs:Re Cell,gz (cQ cs) (cY kx)=(cs.find? λc=>decide<|c.k=kx).map λc=>.list c.ds
 | []=>rfl
 | c::cs=>by
  have ih:=GT (kx:=kx) cs;unfold gz cQ at ih ⊢;rw[aw,ir,Pc]
  grind
def Aw{kx:Re Key}:∀cs:Re Cell,lE (pU cs) kx=(cs.find? λc=>decide<|c.k=kx).map λc=>.ref c.b
 | []=>rfl
 | c::cs=>by
  have ih:=Aw (kx:=kx) cs;unfold lE pU at ih ⊢
  grind
def Hm{v:V}{cs:Re Cell}(h:cs.find? ?j8=none):putK (pU cs) kx v=pU cs++[(kx,v)]:=by
 unfold putK pU
 grind
def i8(kx:Re Key)(y:V)(d:D)(c:Cell):Cell:=if c.k=kx then { c with vs:=c.vs++[y],ds:=c.ds++[d] }else c
def Ho{d:D}{cs:Re Cell}{c:Cell}(nk:(cs.map (·.k)).Nodup)(hc:cs.find? ?j8=some c):oY (cQ cs) (cY kx) (.list<|c.ds++[d])=cQ (cs.map<|i8 kx y d):=by
 have hm:=ur hc;have hk:c.k=kx:=by grind
 unfold oY cQ;rw[ap]
 ·rw[ic,ic];refine im λc' Ta=>?_
  show(if gP (cY c'.k) (cY kx)=true then(cY c'.k,PyData.list (c.ds++[d]))else(cY c'.k,PyData.list c'.ds))=(cY (i8 kx y d c').k,PyData.list (i8 kx y d c').ds);rw[Pc];unfold i8;by_cases q:c'.k=kx
  ·have e:=Ar nk Ta hm<|q.trans hk.symm;simp[q,e,hk]
  ·simp[q]
 ·rw[List.any_map];exact List.any_eq_true.mpr {c,hm,by show gP (cY c.k) (cY kx)=true;rw[Pc];simp[hk]}
def NH{d:D}(cs:Re Cell):pU (cs.map<|i8 kx y d)=pU cs:=by
 unfold pU;rw[ic];refine im λc _=>?_
 show((i8 kx y d c).k,V.ref (i8 kx y d c).b)=_;unfold i8;split<;>rfl
section
variable {cs:Re Cell}
theorem Bk.neP(B:Bk K G F H p cs){c:Cell}(hc:c∈cs):c.b≠p:=JI (B.ce c hc).1 B.hp (by intro z;cases z)
theorem Bk.key(B:Bk K G F H p cs){q:Tl}(hq:H q=none)(hn:cs.find? ?j8=none)(hl:cs.length<1000)(fq:F q=none)(oq:G.O q=none):Bk K G F (upd (upd H q<|.lst []) p<|.dT<|pU cs++[(kx,.ref q)]) p (cs++[{kx,q,[],[]}]):=by
 have pq:=(At B.hp hq).symm;refine{by rw[UQ];simp[pU],B.fp,B.op,λc hc=>?_,?_,?_,by grind}
 ·let hc||hc:=List.mem_append.mp hc
  ·rw[G_<|B.neP hc,G_<|At (B.ce c hc).1 hq];exact B.ce c hc
  ·rw[List.mem_singleton.mp hc];exact{by rw[G_ pq,UQ],fq,oq,.nil}
 ·rw[gi];refine List.nodup_append.mpr {B.nb,by simp,λx hx y hy=>?_};let{c,hc,rfl}:=List.mem_map.mp hx;have hy:=by simpa using hy
  rw[hy];exact At (B.ce c hc).1 hq
 ·rw[gi];refine List.nodup_append.mpr {B.nk,by simp,λx hx y hy z=>?_}
  grind
theorem Bk.add(B:Bk K G F H p cs){c:Cell}{d:D}(hc:cs.find? ?j8=some c)(r:Rep K F y d):Bk K G F (upd H c.b<|.lst<|c.vs++[y]) p (cs.map<|i8 kx y d):=by
 have hm:=ur hc;have hk:c.k=kx:=by grind
 have ub:∀c' ,(i8 kx y d c').b=c'.b:=λc'=>by unfold i8;split<;>rfl
 have uk:∀c' ,(i8 kx y d c').k=c'.k:=λc'=>by unfold i8;split<;>rfl
 refine{by rw[G_ (B.neP hm).symm,NH];exact B.hp,B.fp,B.op,λc0 Ub=>?_,?_,?_,by rw[u_];exact B.sz}
 ·let{c',Ta,rfl}:=List.mem_map.mp Ub;let{h1,h2,h3,h4}:=B.ce c' Ta;by_cases q:c'.k=kx
  ·have e:=Ar B.nk Ta hm<|q.trans hk.symm;subst e;unfold i8;rw[ap q,UQ];exact{rfl,h2,h3,h4.append<|.cons r .nil}
  ·have ne:=λz=>q (by rw[Ar B.nb Ta hm z];exact hk)
   unfold i8
   grind
 ·rw[ic];exact((im λc' _=>ub c'))▸B.nb
 ·rw[ic];exact((im λc' _=>uk c'))▸B.nk
end
abbrev r1(d:D)(n:Nat):En:=some (.fz d)::List.replicate n none
def Eu{d:D}{i:Nat}{c:OC}(h:own (r1 d n) i c):False:=by
 grind
def Cf{σ':L2.St}{d:D}(S:b_ K G F Z H (r1 d n))(hl:σ'.length=Z.length)(h0:σ'[0]? = Z[0]?):b_ K G F σ' H (r1 d n):=by
 have np:∀i a,G.P i=some a->False:=λi a h=>by
  let{_,c,e}:=S.pp i a h;exact Eu<|.inr e
 refine{S.fh,S.oh,S.fo,by rw[hl];exact S.ln,λi x h=>?_,λi c h=>(Eu h).elim,λi j c e a h=>(Eu h).elim,λi a h=>(np i a h).elim,λi c h=>(Eu<|.inr h).elim,S.fb}
 grind
def BD{K:Fg}{G:Gh}{H:Hp}{Z:L2.St}{d:D}{n:Nat}:∀(cs:Re Cell) (F:Hp),b_ K G F Z H (r1 d n)->(∀c∈cs,H c.b=some (.lst c.vs)/\F c.b=none/\G.O c.b=none)->(cs.map (·.b)).Nodup ->
  ∃F',c_ F F'/\b_ K G F' Z H (r1 d n)/\(∀c∈cs,F' c.b=some (.lst c.vs))/\∀x,x∉cs.map (·.b)->F' x=F x
 | [],F,S,_,_=>{F,c_.refl _,S,(λ_ h=>nomatch h),λ_ _=>rfl}
 | c::cs,F,S,h,n=>by
  rw[aw,oB]at n;let{h1,h2,h3}:=h c ?E;have S1:=S.freeze h1 h2 h3 λi e q=>(Eu q).elim
  have ne:∀c'∈cs,c'.b≠c.b:=λc' Ta z=>n.1<|List.mem_map.mpr {c',Ta,z}
  let{F2,s2,S2,f2,k2}:=BD cs _ S1 (λc' Ta=>by let{g1,g2,g3}:=h c' (by simp[Ta]);exact{g1,by rw[G_<|ne c' Ta];exact g2,g3}) n.2;refine{F2,(PE h2).trans s2,S2,λc' Ta=>?_,λx hx=>?_}
  ·let e||Ta:=List.mem_cons.mp Ta
   ·rw[e];exact s2 _ _ UQ
   ·exact f2 c' Ta
  ·rw[aw,xt,not_or]at hx;rw[k2 x hx.2,G_ hx.1]
theorem Bk.settle{d:D}{cs:Re Cell}(B:Bk K G F H p cs)(S:b_ K G F Z H (r1 d n))(o:Obj):∃F',c_ F F'/\b_ K G F' Z (upd H p<|.Rm o<|.dT<|pU cs) (r1 d n)/\Rep K F' (.ref p) (.dict<|cQ cs):=by
 let{F1,s1,S1,f1,k1}:=BD cs F S (λc hc=>{(B.ce c hc).1,(B.ce c hc).2.1,(B.ce c hc).2.2.1}) B.nb;have pn:F1 p=none:=by
  rw[k1 p λh=>by let{c,hc,e}:=List.mem_map.mp h;exact B.neP hc e];exact B.fp
 have no:∀(i:Nat) (e:OC),own (r1 d n) i e->Z[i]? ≠ some (some<|V.ref p):=λi e q=>(Eu q).elim
 have S2:=(S1.T7 (o:=.Rm o (.dT<|pU cs)) pn B.op no).freeze (a:=p) UQ pn B.op no;have sm:c_ F1 (upd F1 p<|.Rm o<|.dT<|pU cs):=PE pn;refine{_,s1.trans sm,S2,.Vu UQ ?_ ?_}
 ·unfold cQ pU;rw[ic,ic];rfl
 ·have all:∀l:Re Cell,(∀c∈l,c∈cs)->h_ K (upd F1 p<|.Rm o<|.dT<|pU cs) ((pU l).map (·.2)) ((cQ l).map (·.2)):=by
   intro l
   induction l with
   | nil=>intro _;exact .nil
   | cons c l ih =>
    intro h;refine .cons (.lst (.inl<|.inl<|sm _ _<|f1 c<|h c ?E)<|(B.ce c<|h c ?E).2.2.2.mono<|s1.trans sm) (ih λc' Ta=>h c' (by simp[Ta]))
  exact all cs λ_ h=>h
def YN{ρ:En}:∀{kvs:Re ?qm} {xs:Re ?jO} {F:Hp},KT H kvs xs->b_ K G F Z H ρ ->
  ∃F',c_ F F'/\b_ K G F' Z H ρ/\h_ K F' (xs.map λq=>V.ref q.2.1) (kvs.map λp=>cY p.1)/\∀b o,F' b=some o->F b=some o\/∃vs,H b=some (.tup vs):=by
 intro kvs xs F r S
 induction r generalizing F with
 | nil=>exact{F,c_.refl _,S,.nil,λb o e=>.inl e}
 | @cons p q ps qs h t ih =>
  let{h1,h2,h3}:=h;obtain⟨F1,s1,S1,r1,k1⟩:∃F1,c_ F F1/\b_ K G F1 Z H ρ/\Rep K F1 (.ref q.2.1) (cY p.1)/\∀b o,F1 b=some o->F b=some o\/∃vs,H b=some (.tup vs):=by
   cases e:F q.2.1 with
   | some o =>
    have:=S.fh _ o e;rw[h2]at this
    cases this
    exact{F,c_.refl _,S,.tup e<|CZ p.1,λb o e=>.inl e}
   | none =>
    let{F1,s1,S1,r1}:=S.zan h2<|CZ p.1;have og:G.O q.2.1=none:=by
     cases g:G.O q.2.1 with
     | none=>rfl
     | some o =>
      have:=S.oh _ o g;rw[h2]at this
      cases this
      exact((S.fo _ _ g).2:False).elim
    refine{upd F q.2.1<|.tup<|p.1.map kV,PE e,S.freeze h2 e og λi c ho z=>?_,.tup UQ<|CZ p.1,λb o eb=>?_}
    ·let{a,e1,oa}:=S.ow i c ho;rw[z]at e1;injection e1 with e1;injection e1 with e1;injection e1 with e1;subst e1;exact(oa.he.Xu h2:False)
    ·by_cases hb:b=q.2.1
     ·exact .inr {_,by rw[hb];exact h2}
     ·rw[G_ hb]at eb;exact .inl eb
  let{F2,s2,S2,r2,k2}:=ih S1;exact{F2,s1.trans s2,S2,.cons ?qH r2,λb o e=>(k2 b o e).elim (k1 b o) .inr}
theorem Bk.seen{F':Hp}{cs:Re Cell}(B:Bk K G F H p cs)(s:c_ F F')(k:∀b o,F' b=some o->F b=some o\/∃vs,H b=some (.tup vs)):Bk K G F' H p cs:=by
 have nf:∀b u,H b=some u->(∀vs,u≠.tup vs)->F b=none->F' b=none:=λb u hb hu hf=>by
  cases e:F' b with
  | none=>rfl
  | some o =>
   grind
 exact{B.hp,nf _ _ B.hp (λvs z=>by cases z) B.fp,B.op,λc hc=>let ⟨g1,g2,g3,g4⟩:=B.ce c hc;{g1,nf _ _ g1 (λvs z=>by cases z) g2,g3,g4.mono s},B.nb,B.nk,B.sz}
def Ee{S8:Re Stmt}{a:Tl}(e:H a=some (.dT kvs))(k:∀o,lI X S8 E Z<|upd H a<|.Rm o<|.dT kvs):lI X S8 E Z H:=by
 unfold lI at *;exact λpins s I=>let ⟨o,I'⟩:=I.Rm e;k o pins s I'
abbrev D7:TS:=bS (lF 1) (lF 2)<|lC aE
abbrev vD(K:Fg):TS:=nC<|tBM K "list" mz (aJ pG (lF 1)<|aJ (fF K) (lF 4)<|tC<|.int 1)<|bL (lF 2) aE
abbrev Ke(X:Cx)(ret:Re Stmt):TS:=y0 (ao jC<|h8 1)<|y0 (xh (wx<|lF 0) (h8 2) D7)<|y0 (xh (zP<|lF 0) (vi X.K 2<|yw (h8 2)<|yw (h8 3) vE)<|xh (wK X.K<|lF 3) (h8 4)<|vD X.K)<|lI X ret
def wM(d:D):SL D:=match d with
 | .dict es=>match p8 es with
  | some _=>(wN es).map .dict
  | none=>none
 | _=>none
def zt{S:Type}:SM S:=λK ρ=>match ρ with
 | [some (.fz d),none,none,none,none]=>match wM d with
  | some r=>K.rt r ?qq
  | none=>.bad
 | _=>.bad
section
variable {OK:M S->Prop} {K:KS S} {cs:Re Cell} {d:D}
def DG(hr:zA X ret (jI<|lF 1))(St:b_ X.K G F Z H ?qq)(s1:Z[1]? = some (some<|.ref p))(B:Bk X.K G F H p cs)(eo:EOk X OK K G F E)(ok:OK (K.rt (.dict<|cQ cs) ?qq)):lI X ret E Z H :=
 Ee B.hp λo=>by
  let{F',s,S',r}:=B.settle St o;exact Ef hr {.ref p,s1,eo.rt F' Z _ ?qq _ _ s S' r ok}
def C5{k:V}{kd lead:D}{v:V}{Sa:Re ?M}(St:b_ X.K G F Z H ?qq)(s1:Z[1]? = some (some<|.ref p))(s2:Z[2]? = some (some k))(rk:Rep X.K F k kd)(s4:Z[4]? = some (some v))(rl:Rep X.K F v lead)(B:Bk X.K G F H p cs)(e:gI kd (some<|cQ cs) lead=some Sa)
  (go:∀H' VG,Sa=cQ VG->b_ X.K G F Z H' ?qq->Bk X.K G F H' p VG->D'.nx Z H'):vD X.K D' Z H:=by
 unfold gI at e;split at e
 case h_2=>cases e
 rename_i acc n x rest ea
 cases ea
 unfold oZ at e;split at e
 case h_2=>cases e
 rename_i l hl;split at e
 case isFalse=>cases e
 rename_i hc
 cases e
 rw[am]at hc;let{kx,rfl}:=VI hc.1;let{a',UR,rfl,h1,h2}:=rl.Q9
 cases h2 with
 | @cons v1 _ vr _ q1 q2 =>
 cases q2 with
 | @cons v2 _ vr _ q2 q3 =>
 let{b,rfl,hb}:=Mj q2;rw[GT]at hl
 cases ef:cs.find? ?j8 with
 | none=>grind
 | some c =>
 rw[ef]at hl;have hl:=by simpa using hl
 have hm:=ur ef;let{g1,g2,g3,g4}:=B.ce c hm;have hv:=Aw (kx:=kx) cs;rw[ef]at hv;refine{.ref p,s1,.ref a',s4,a',_,1,.ref b,rfl,rfl,A_.of<|St.fh _ _ h1,by simp[fT,WQ];rw[ap ?S];rfl,p,.ref c.b,rfl,.inr {pU cs,kx,b,.inl B.hp,rfl,St.fh _ _ hb,hv.symm},.inl {rfl,c.vs,.inl<|.inl g1},k,s2,c.b,c.vs,k,rfl,rfl,g1,?_,?_}
 ·have:=g4.length;exact eg ?jc<|show 90000<=sizeLine by decide
 ·refine go _ (cs.map<|i8 kx k kd) ?_ (St.T7 g2 g3 λi e q=>(Eu q).elim)<|B.add ef rk;rw[<-hl,Ho B.nk ef]
def Xw{k:V}{kd:D}{a:Tl}{vs:Re V}{ls:Re D}{mid:Re ?M}(St:b_ X.K G F Z H ?qq)(s1:Z[1]? = some (some<|.ref p))(s2:Z[2]? = some (some k))(rk:Rep X.K F k kd)(s3:Z[3]? = some (some<|.ref a))(h1:Ro X.K F a vs)(h2:h_ X.K F vs ls)(h5:Z.length=5)(B:Bk X.K G F H p cs)(e:ls.foldl (gI kd) (some<|cQ cs)=some mid)
  (go:∀σ' H' VG,mid=cQ VG->σ'.length=5->b_ X.K G F σ' H' ?qq->σ'[1]? = some (some<|.ref p)->Bk X.K G F H' p VG->D'.nx σ' H'):xh (wK X.K<|lF 3) (h8 4) (vD X.K) D' Z H:=by
 have hl:=h2.length;refine{.ref a,s3,a,rfl,{vs,St.fh.seq h1},λi m σ' H'=>m=ls.length - i/\i<=ls.length/\σ'.length=5/\b_ X.K G F σ' H' ?qq/\σ'[1]? = some (some<|.ref p)/\σ'[2]? = some (some k)/\∃cs,Bk X.K G F H' p cs/\(ls.drop i).foldl (gI kd) (some<|cQ cs)=some mid,{_,rfl,ac _,h5,St,s1,s2,cs,B,e},?_};rintro i m σ' H' ⟨rfl,hi,l5,S',t1,t2,Sa,B',e'⟩;by_cases r_:i<ls.length
 ·rw[li r_,ng]at e';have hv:i<vs.length:=by rw[hl];exact r_
  let{v,e1,e2}:=h2.get<|ax r_;refine .inr {{vs,vs[i],S'.fh.seq h1,ax hv},λσ4 H4=>∃m',m'<ls.length - i/\m'=ls.length - ?jx/\i+1<=ls.length/\σ4.length=5/\b_ X.K G F σ4 H4 ?qq/\σ4[1]? = some (some<|.ref p)/\σ4[2]? = some (some k)/\∃cs,Bk X.K G F H4 p cs/\(ls.drop ?jx).foldl (gI kd) (some<|cQ cs)=some mid,λσ4 H4 h=>h,?_};rintro x H2 ⟨rfl,hx⟩;have hx:=hx vs<|S'.fh.seq h1;rw[e1]at hx
  cases hx
  cases eb:gI kd (some<|cQ Sa) ls[i]with
  | none=>rw[eb,VA<|DM kd]at e';cases e'
  | some zbx =>
  rw[eb]at e';have g0:(σ'.set 4<|some v)[0]? = σ'[0]?:=eT ?C;have g1:(σ'.set 4<|some v)[1]? = σ'[1]?:=eT ?C;have g2:(σ'.set 4<|some v)[2]? = σ'[2]?:=eT ?C;have g4:(σ'.set 4<|some v)[4]? = some (some v):=gs (by rw[l5];decide);have S4:=Cf  S' ?E g0;refine C5 S4 (g1.trans t1) (g2.trans t2) rk g4 e2 B' eb λH5 VG ec S5 B5=>?_
  exact{_,by omega,rfl,r_,by simpa using l5,S5,g1.trans t1,g2.trans t2,VG,B5,by rw[<-ec];exact e'}
 ·have ei:i=ls.length:=by omega
  subst ei;rw[wv]at e';have ec:=Option.some.inj e';exact .inl {{vs,S'.fh.seq h1,by omega},go σ' H' Sa ec.symm l5 S' t1 B'}
end
section
variable {OK:M S->Prop} {K:KS S} {cs:Re Cell} {d:D}
def Ek{a:Tl}{es:Re ?M}{fin:Re ?M}(St:b_ X.K G F Z H ?qq)(s0:Z[0]? = some (some<|.ref a))(s1:Z[1]? = some (some<|.ref p))(ha:F a=some (.Rm o<|.dT kvs))(hk:es.map (·.1)=kvs.map ?qg)(hv:h_ X.K F (kvs.map (·.2)) (es.map (·.2)))(h5:Z.length=5)(B:Bk X.K G F H p cs)(e:es.foldl cK (some<|cQ cs)=some fin)
  (go:∀F' σ' H' VG,c_ F F'->fin=cQ VG->b_ X.K G F' σ' H' ?qq->σ'[1]? = some (some<|.ref p)->Bk X.K G F' H' p VG->D'.nx σ' H'):xh (zP<|lF 0) (vi X.K 2<|yw (h8 2)<|yw (h8 3) vE) (xh (wK X.K<|lF 3) (h8 4)<|vD X.K) D' Z H:=by
 refine{.ref a,s0,a,o,kvs,rfl,St.fh _ _ ha,λxs kt=>?_};let{F2,sF,S2,rk,kk}:=YN kt St;have B2:=B.seen sF kk;have ha2:=sF _ _ ha;have lx:(xs.map (·.2.1)).length=es.length:=by
  have h1:=rk.length;have h2:=congrArg List.length hk;simp![u_]at h1 h2 ⊢;omega
 have hv2:=hv.mono sF;refine{λi m σ' H'=>m=es.length - i/\i<=es.length/\σ'.length=5/\b_ X.K G F2 σ' H' ?qq/\σ'[1]? = some (some<|.ref p)/\∃cs,Bk X.K G F2 H' p cs/\(es.drop i).foldl cK (some<|cQ cs)=some fin,{_,rfl,ac _,h5,S2,s1,cs,B2,e},?_};rintro i m σ' H' ⟨rfl,hi,l5,S',t1,Sa,B',e'⟩;by_cases r_:i<es.length
 ·rw[li r_,ng]at e';refine .inr {{{_,S'.fh _ _ ha2},by rw[lx];exact r_},λσ4 H4=>∃m',m'<es.length - i/\m'=es.length - ?jx/\i+1<=es.length/\σ4.length=5/\b_ X.K G F2 σ4 H4 ?qq/\σ4[1]? = some (some<|.ref p)/\∃cs,Bk X.K G F2 H4 p cs/\(es.drop ?jx).foldl cK (some<|cQ cs)=some fin,λσ4 H4 h=>h,?_};rintro x H2 ⟨q,k,v,ek,ev,hq,rfl,rfl⟩;have ed:(es.map (·.1))[i]? = some es[i].1:=by rw[ue,ax r_];rfl
  rw[hk]at ed;let{v1,f1,f2}:=rk.get ed;have f1:some (V.ref k)=some v1:=by
   rw[<-f1];rw[ue]at ek ⊢
   cases hx:xs[i]? with
   | none=>rw[hx]at ek;cases ek
   | some z =>
    rw[hx]at ek
    cases ek
    rfl
  cases f1
  have ZG:(es.map (·.2))[i]? = some es[i].2:=by rw[ue,ax r_];rfl
  let{v2,f3,f4}:=hv2.get ZG;rw[ev]at f3
  cases f3
  refine{q,[.ref k,v],rfl,A_.of UQ,rfl,_,_,rfl,_,_,rfl,rfl,?_};have S3:=S'.lay (o:=.tup [.ref k,v]) hq;have B3:=B'.at (H':=upd H' q (.tup [.ref k,v])) λb u e=>by rw[G_<|At e hq];exact e
  cases el:es[i].2 with
  | list ls =>
   rw[el]at f4;let{a2,vs,rfl,h1,h2}:=f4.lst_inv;have g0:((σ'.set 2<|some<|.ref k).set 3<|some<|.ref a2)[0]? = σ'[0]?:=by rw[eT ?C,eT ?C]
   have g1:((σ'.set 2<|some<|.ref k).set 3<|some<|.ref a2)[1]? = σ'[1]?:=by rw[eT ?C,eT ?C]
   have g2:((σ'.set 2<|some<|.ref k).set 3<|some<|.ref a2)[2]? = some (some<|.ref k):=by rw[eT ?C,gs (by rw[l5];decide)]
   have g3:((σ'.set 2<|some<|.ref k).set 3<|some<|.ref a2)[3]? = some (some<|.ref a2):=by rw[gs (by rw[List.length_set,l5];decide)]
   have S4:=Cf (σ':=(σ'.set 2<|some<|.ref k).set 3 (some<|.ref a2)) S3 ?E g0;have eb:cK (some<|cQ Sa) es[i]=ls.foldl (gI es[i].1) (some<|cQ Sa):=by unfold cK;rw[el]
   cases em:ls.foldl (gI es[i].1) (some<|cQ Sa)with
   | none=>rw[eb,em,VA Rk]at e';cases e'
   | some mid =>
   rw[eb,em]at e';refine Xw S4 (g1.trans t1) g2 f2 g3 h1 h2 (by simp[l5]) B3 em λσ5 H5 VG ec l5' S5 t5 B5=>?_
   exact{_,by omega,rfl,r_,l5',S5,t5,VG,B5,by rw[<-ec];exact e'}
  | none=>rw[show cK (some<|cQ Sa) es[i]=none by unfold cK;rw[el],VA Rk]at e';cases e'
  | bool _=>rw[show cK (some<|cQ Sa) es[i]=none by unfold cK;rw[el],VA Rk]at e';cases e'
  | int _=>rw[show cK (some<|cQ Sa) es[i]=none by unfold cK;rw[el],VA Rk]at e';cases e'
  | str _=>rw[show cK (some<|cQ Sa) es[i]=none by unfold cK;rw[el],VA Rk]at e';cases e'
  | tuple _=>rw[show cK (some<|cQ Sa) es[i]=none by unfold cK;rw[el],VA Rk]at e';cases e'
  | dict _=>rw[show cK (some<|cQ Sa) es[i]=none by unfold cK;rw[el],VA Rk]at e';cases e'
 ·have ei:i=es.length:=by omega
  subst ei;rw[wv]at e';have ec:cQ Sa=fin:=Option.some.inj e';exact .inl {{{_,S'.fh _ _ ha2},by rw[lx];exact ai _},go F2 σ' H' Sa sF ec.symm S' t1 B'}
def C9{a:Tl}{ks:Re D}{fin:Re ?M}(St:b_ X.K G F Z H ?qq)(s0:Z[0]? = some (some<|.ref a))(s1:Z[1]? = some (some<|.ref p))(ha:F a=some (.Rm o<|.dT kvs))(hk:ks=kvs.map ?qg)(h5:Z.length=5)(B:Bk X.K G F H p cs)(e:ks.foldl iw (some<|cQ cs)=some fin)
  (go:∀F' σ' H' VG,c_ F F'->fin=cQ VG->σ'.length=5->σ'[0]? = some (some<|.ref a)->b_ X.K G F' σ' H' ?qq->σ'[1]? = some (some<|.ref p)->Bk X.K G F' H' p VG->D'.nx σ' H'):xh (wx<|lF 0) (h8 2) D7 D' Z H:=by
 refine{.ref a,s0,a,o,kvs,rfl,St.fh _ _ ha,λxs kt=>?_};let{F2,sF,S2,rk,kk}:=YN kt St;have B2:=B.seen sF kk;have ha2:=sF _ _ ha;have lx:(xs.map (·.2.1)).length=ks.length:=by
  have h1:=rk.length;rw[hk];simp![u_]at h1 ⊢;omega
 refine{λi m σ' H'=>m=ks.length - i/\i<=ks.length/\σ'.length=5/\σ'[0]? = some (some<|.ref a)/\b_ X.K G F2 σ' H' ?qq/\σ'[1]? = some (some<|.ref p)/\∃cs,Bk X.K G F2 H' p cs/\(ks.drop i).foldl iw (some<|cQ cs)=some fin,{_,rfl,ac _,h5,s0,S2,s1,cs,B2,e},?_};rintro i m σ' H' ⟨rfl,hi,l5,t0,S',t1,Sa,B',e'⟩;by_cases r_:i<ks.length
 ·rw[li r_,ng]at e';refine .inr {{{_,S'.fh _ _ ha2},by rw[lx];exact r_},λσ4 H4=>∃m',m'<ks.length - i/\m'=ks.length - ?jx/\i+1<=ks.length/\σ4.length=5/\σ4[0]? = some (some<|.ref a)/\b_ X.K G F2 σ4 H4 ?qq/\σ4[1]? = some (some<|.ref p)/\∃cs,Bk X.K G F2 H4 p cs/\(ks.drop ?jx).foldl iw (some<|cQ cs)=some fin,λσ4 H4 h=>h,?_};rintro x H2 ⟨rfl,k,ek,rfl⟩;have ed:ks[i]? = some ks[i]:=ax r_;have ZG:(kvs.map ?qg)[i]? = some ks[i]:=by rw[<-hk];exact ed
  let{v1,f1,f2}:=rk.get ZG;have f1:some (V.ref k)=some v1:=by
   rw[<-f1];rw[ue]at ek ⊢
   cases hx:xs[i]? with
   | none=>rw[hx]at ek;cases ek
   | some z =>
    rw[hx]at ek
    cases ek
    rfl
  cases f1
  obtain⟨kx,ekx⟩:∃kx,ks[i]=cY kx:=by
   rw[ue]at ZG
   cases hx:kvs[i]? with
   | none=>rw[hx]at ZG;cases ZG
   | some z=>rw[hx]at ZG;exact{z.1,(Option.some.inj ZG).symm}
  rw[ekx]at f2 e';let{b,eb,hb}:=Mj f2
  cases eb
  cases ef:Sa.find? ?j8 with
  | some c =>
   have:iw (some<|cQ Sa) (cY kx)=none:=by
    unfold iw;dsimp only;rw[GT,ef];rfl
   rw[this,VA D2]at e'
   cases e'
  | none =>
  by_cases hz:(cQ Sa).length<1000
  ·have hz':Sa.length<1000:=by simpa[cQ]using hz
   have ek2:iw (some<|cQ Sa) (cY kx)=some (cQ Sa++[(cY kx,.list [])]):=by
    unfold iw;dsimp only;rw[GT,ef];dsimp only[Option.map];rw[ap<|be hz]
   rw[ek2]at e';have g0:(σ'.set 2<|some<|.ref k)[0]? = σ'[0]?:=eT ?C;have g1:(σ'.set 2<|some<|.ref k)[1]? = σ'[1]?:=eT ?C;have g2:(σ'.set 2<|some<|.ref k)[2]? = some (some<|.ref k):=gs (by rw[l5];decide);have S4:=Cf (σ':=σ'.set 2 (some<|.ref k)) S' ?E g0;refine{ac _,λq hq=>{.ref p,g1.trans t1,.ref k,g2,p,_,rfl,Se.t (kvs:=pU Sa) (by rw[G_<|At B'.hp hq];exact B'.hp) (by rw[G_<|At (S'.fh _ _ hb) hq];exact S'.fh _ _ hb) (eg (by simpa[pU]using hz')<|Mh<|ai 1000),?_}};have fq:=S'.fh.free hq;have oq:=S'.oh.free hq;have B5:=B'.key hq ef hz' fq oq;rw[Hm ef];have S5:=(S4.lay (o:=.lst []) hq).T7 (p:=p) (o:=.dT (pU Sa++[(kx,.ref q)])) B'.fp B'.op λi e q=>(Eu q).elim
   refine{_,by omega,rfl,r_,by simpa using l5,g0.trans t0,S5,g1.trans t1,_,B5,?_};rw[show cQ (Sa++[{kx,q,[],[]}])=cQ Sa++[(cY kx,.list [])] by simp[cQ]];exact e'
  ·have:iw (some<|cQ Sa) (cY kx)=none:=by
    unfold iw;dsimp only;rw[GT,ef];dsimp only[Option.map];rw[ba (by simpa using hz)]
   rw[this,VA D2]at e'
   cases e'
 ·have ei:i=ks.length:=by omega
  subst ei;rw[wv]at e';have ec:cQ Sa=fin:=Option.some.inj e';exact .inl {{{_,S'.fh _ _ ha2},by rw[lx];exact ai _},go F2 σ' H' Sa sF ec.symm l5 t0 S' t1 B'}
end
def Hv{tg l:Uf}{tl:TE}(hl:cM X l tl):jQ X tg l (wx tl):=by
 intro pins s Z H R I h;refine Db (hl pins s Z H _ I h) λu s1 ⟨x,H1,I1,r1,a,o,kvs,e,ea,q⟩=>?_
 subst e
 cases r1
 exact PJ I1 ea q
def DI{S8:Re Stmt}(h:zA X S8 (Ke X ret))(hr:zA X ret (jI<|lF 1)):cb (S:=S) X S8 zt:=λOK K G F Z H ρ E hO hX St ok eo=>by
 unfold zt at ok;split at ok
 case h_2=>exact(hO ok).elim
 split at ok
 case h_2=>exact(hO ok).elim
 rename_i r hb;unfold wM at hb;split at hb
 case h_2=>cases hb
 rename_i es;split at hb
 case h_2=>cases hb
 rename_i ds hkd;let{fin,WT,er}:=Option.map_eq_some_iff.mp hb;subst er;have St:b_ X.K G F Z H (r1 (.dict es) 4):=St;have h5:Z.length=5:=St.ln;let{v,e0,r0}:=St.fz 0 (.dict es) rfl;let{_,a,o,kvs,rfl,ha,hk,hv}:=Ps r0 hkd;unfold wN at WT
 cases e1:(es.map (·.1)).foldl iw (some [])with
 | none=>rw[e1,VA Rk]at WT;cases WT
 | some ini =>
 rw[e1]at WT;refine Ef h λp hp=>?_
 have g0:(Z.set 1<|some<|.ref p)[0]? = Z[0]?:=eT ?C;have g1:(Z.set 1<|some<|.ref p)[1]? = some (some<|.ref p):=gs (by rw[h5];decide);have S1:=Cf  (St.lay (o:=.dT []) hp) ?E g0;have B1:Bk X.K G F (upd H p<|.dT []) p []:={UQ,St.fh.free hp,St.oh.free hp,(λ_ h=>nomatch h),.nil,.nil,by decide};refine C9 S1 (g0.trans e0) g1 ha hk (by simpa using h5) B1 e1 λF2 σ2 H2 VG s2 ec l2 t0 S2 t1 B2=>?_
 rw[ec]at WT;refine Ek S2 t0 t1 (s2 _ _ ha) hk (hv.mono s2) l2 B2 WT λF3 σ3 H3 cs3 s3 ec3 S3 t3 B3=>?_
 rw[ec3]at ok;exact DG hr S3 t3 B3 (eo.up<|s2.trans s3) ok
section
variable {a b:Uf} {rest:Re Uf} {ta tb:Ev S Bool}
def IV{op}(h:va X a ta):va X (.BoolOp op [a] pos) ta:=λOK x k G F Z H ρ Q hO hX St ok kk=>RD (ER Mz)<|h OK x k G F Z H ρ Q hO hX St ok kk
def IX(ha:va X a ta)(hb:va X (.BoolOp .And (b::rest) pos) tb):va X (.BoolOp .And (a::b::rest) pos) (rE ta tb) :=
 λOK x k G F Z H ρ Q hO hX St ok kk=>RD (EW Mz Mz) (ha OK x _ G F Z H ρ _ hO hX St ok λt F1 H1 ρ1 s1 S1 o1=>{t,rfl,by
  cases t with
  | true=>exact hb OK x k G F1 Z H1 ρ1 Q hO hX S1 o1 λd F2 H2 ρ2 s2 S2 o2=>kk d F2 H2 ρ2 ?jo S2 o2
  | false=>exact kk false F1 H1 ρ1 s1 S1 o1})
end
end L4
namespace L4
open PySem PySem.Spec PyProof.Rows L2 L3 TS
inductive Sh where
 | i
 | b
 | f (g:Nat->Sh)
def fits:Sh->D->Prop
 | .i,d=>∃n:Int,d=.int n
 | .b,d=>∃p:Bool,d=.bool p
 | .f g,d=>∃xs:Re D,d=.tuple xs/\∀(k:Nat) (x:D),xs[k]? = some x->fits (g k) x
mutual
def enc:D->Re Int
 | .int n=>[n]
 | .bool p=>[if p then 1 else 0]
 | .tuple xs=>cE xs
 | _=>[]
def cE:Re D->Re Int
 | []=>[0]
 | x::xs=>1::(enc x++cE xs)
end
def Xl(a b:Int)(u v:Re Int):HT.lexLt (a::u) (b::v)=if a=b then HT.lexLt u v else decide (a<b):=HT.Q_ ..
def M9:∀(s:Sh) {x y:D},fits s x->fits s y->∀(u v:Re Int),HT.lexLt (enc x++u) (enc y++v)=if PyData.eqv x y=true then HT.lexLt u v else HT.lexLt (enc x) (enc y)
 | .i,x,y,hx,hy,u,v=>by
  let{a,rfl}:=hx;let{b,rfl}:=hy;have e:PyData.eqv (.int a) (.int b)=decide (a=b):=rfl;rw[e];show HT.lexLt (a::u) (b::v)=_;rw[Xl];by_cases h:a=b
  ·rw[ap h,ap (by simp[h])]
  ·rw[ba h,ba (by simp[h])];show _=HT.lexLt (a::[]) (b::[]);rw[Xl,ba h]
 | .b,x,y,hx,hy,u,v=>by
  let{p,rfl}:=hx;let{q,rfl}:=hy
  cases p<;>cases q<;>rfl
 | .f g,x,y,hx,hy,u,v=>by
  let{xs,rfl,hx}:=hx;let{ys,rfl,hy}:=hy;have go:∀(xs ys:Re D) (k:Nat),(∀j x,xs[j]? = some x->fits (g<|k+j) x)->(∀j x,ys[j]? = some x->fits (g<|k+j) x)->∀(u v:Re Int),HT.lexLt (cE xs++u) (cE ys++v)=if PyData.eqvAll xs ys=true then HT.lexLt u v else HT.lexLt (cE xs) (cE ys):=by
   intro xs
   induction xs with
   | nil =>
    intro ys k hx hy u v
    cases ys with
    | nil =>
     show HT.lexLt (0::u) (0::v)=_;rw[Xl];simp[PyData.eqvAll]
    | cons y ys =>
     show HT.lexLt (0::u) (1::_)=if _ then _ else HT.lexLt (0::[]) (1::_);rw[Xl,Xl];simp[PyData.eqvAll]
   | cons x xs ih =>
    intro ys k hx hy u v
    cases ys with
    | nil =>
     show HT.lexLt (1::_) (0::v)=if _ then _ else HT.lexLt (1::_) (0::[]);rw[Xl,Xl];simp[PyData.eqvAll]
    | cons y ys =>
     have f1:=hx 0 x rfl;have f2:=hy 0 y rfl;have ih':=ih ys (k+1) (λj z hz=>by have:=hx ?qI z<|(hz);rwa [show k+?qI=k+1+j by omega]at this) (λj z hz=>by have:=hy ?qI z<|(hz);rwa [show k+?qI=k+1+j by omega]at this);have e2:PyData.eqvAll (x::xs) (y::ys)=(PyData.eqv x y&&PyData.eqvAll xs ys):=rfl;rw[e2];show HT.lexLt (1::(enc x++cE xs)++u) (1::(enc y++cE ys)++v)=if _ then _ else HT.lexLt (1::(enc x++cE xs)) (1::(enc y++cE ys));rw[List.cons_append,List.cons_append,Xl,Xl,ap rfl,wa,wa,M9 (g<|k+0) f1 f2,M9 (g<|k+0) f1 f2 (cE xs)<|cE ys,ih' u v]
     cases PyData.eqv x y
     ·simp
     ·simp  [Bool.true_and,zd]
  exact go xs ys 0 (by simpa using hx) (by simpa using hy) u v
def wj(A:UV)(s:Tk)(p q:SZ)(r:Bool):Prop:=∀(prog:TD) (w:TW) (E Q:t_),Q (.bool r) s->wpAny ?D A (richCompare .Lt p q) Q E s
def zT(A:UV)(s:Tk)(fin:Bool):Re (SZ×SZ)->Bool->Prop
 | [],r=>r=fin
 | (p,q)::rest,r=>∃e,SeqAt.EqAt A s p q e/\(e=true->zT A s fin rest r)/\(e=false->wj A s p q r)
section
open PySem.SeqAt
open PySem.AutoSeq1 (wpAny_loadPart')
open PySem.MeetsSeq PySem.MeetsSeq2 PySem.MeetsSeq3
def YR(l b:Tl)(items B_:UF SZ)(n n2:Nat)(dd WB:SL Tl)(sl Wr:UF (SL SZ))(r:Bool) :
  Meets (Builtin.«tuple.__lt__» {[.ref l,.ref b],[]})
   (λA R s=>s.heap.get? l=some { cls:=.type "tuple",dict:=dd,data:=.seq items n,slots:=sl }/\s.heap.get? b=some { cls:=.type "tuple",dict:=WB,data:=.seq B_ n2,slots:=Wr } /\
    zT A.in1 s (decide<|items.size<B_.size) (items.toList.zip B_.toList) r/\R (.ok<|.ret<|.bool r) s) :=
 .of_wp λprog w A R s h=>by
  let{hp,g,d,tk,os}:=s;let{hl,hb,ht,h}:=h;have f2:=AutoSeq1.sub_tuple_tuple
  wp_walk using wpAny_loadPart' hl,wpAny_loadPart' hb,wpAny_forIn_list _ (λrest b s'=>b.1=none/\s'={hp,g,d,tk,os}/\zT A.in1 {hp,g,d,tk,os} (decide<|items.size<B_.size) rest r) _
  case turn =>
   rintro⟨y,x⟩ rest b s' ⟨hb',rfl,e,he,h1,h2⟩;refine f_<|he prog w _ _ ?_
   cases e with
   | true =>
    wp_walk
    exact{rfl,rfl,h1 rfl}
   | false =>
    have hri:=h2 rfl prog w
    wp_walk using hri
    exact{_,rfl,(h)}
  case fin =>
   rintro⟨b1,b2⟩ s' ⟨hb',rfl,hv⟩;subst hb';rw[hv]at h
   wp_walk
   exact{_,rfl,by simpa[Builtin.Tuple.tupleCompareSizes]using h}
  case h =>
   exact{rfl,rfl,ht}
end
def Ft(A:UV)(s:Tk)(a b:Int)(t u:Tok):wj A s (.int a t) (.int b u) (HT.lexLt [a] [b]):=λprog w E Q h=>by
 refine HT.U5 A s a t b u prog w E Q ?_;have e:HT.lexLt [a] [b]=decide (a<b):=by
  rw[Xl];by_cases c:a=b
  ·rw[ap c,c,bi<|Int.lt_irrefl _];rfl
  ·rw[ba c]
 rw[e]at h;exact h
def C2(A:UV)(s:Tk)(p q:Bool):wj A s (.bool p) (.bool q) (HT.lexLt [if p then 1 else 0] [if q then 1 else 0]):=λprog w E Q h=>by
 refine(PyProof.Rows.lt_bool ?_)
 cases p<;>cases q<;>exact h
def JZ:∀{l:Re D},(∀d∈l,d.canLay0=true)->PyData.canLayAll0 l=true
 | [],_=>rfl
 | a::l,h=>by
  simp  [PyData.canLayAll0,am];exact{h a da,JZ λd hd=>h d<|xO _ hd}
def Gc:∀(s:Sh) {d:D},fits s d->d.canLay0=true
 | .i,d,h=>by let{n,rfl}:=h;simp[PyData.canLay0]
 | .b,d,h=>by let{n,rfl}:=h;simp[PyData.canLay0]
 | .f g,d,h=>by
  let{xs,rfl,h}:=h;refine JZ λd hd=>?_
  let{k,hk}:=List.getElem?_of_mem hd;exact Gc (g k)<|h k d hk
def Jc:∀{l:Re D} {d:D},d∈l->d.depth<=PyData.depthAll l
 | a::l,d,hd=>by
  simp  [PyData.depthAll];let rfl||hd:=List.mem_cons.mp hd
  ·omega
  ·have:=Jc hd;omega
def Bp:∀(sh:Sh) {x y:D} {A:UV} {s:Tk} {p q:SZ} {as bs:Re Tl},fits sh x->fits sh y->Reads s.heap p x as->Reads s.heap q y bs->A.units+x.depth<cLine->wj A s p q (HT.lexLt (enc x)<|enc y)
 | .i,x,y,A,s,p,q,as,bs,hx,hy,rx,ry,hu=>by
  let{a,rfl}:=hx;let{b,rfl}:=hy
  cases rx with
  | int i t =>
   cases ry with
   | int j u=>exact Ft A s _ _ t u
 | .b,x,y,A,s,p,q,as,bs,hx,hy,rx,ry,hu=>by
  let{a,rfl}:=hx;let{b,rfl}:=hy
  cases rx
  cases ry
  exact C2 A s _ _
 | .f g,x,y,A,s,p,q,as,bs,hx,hy,rx,ry,hu=>by
  let{xs,rfl,hx}:=hx;let{ys,rfl,hy}:=hy
  cases rx with
  | @tuple l o vs n _ _ g1 g2 g3 g4 =>
   cases ry with
   | @tuple l' o' UR n' _ _ k1 k2 k3 k4 =>
    let{cls,dd,data,sl}:=o;let{Y8,WB,data2,Wr}:=o';simp only at g2 g3 k2 k3;subst g2 g3 k2 k3;have hd:(PyData.tuple xs).depth=PyData.depthAll xs+1:=by simp[PyData.depth]
    intro prog w E Q h;refine richCompare_meets_room  {_,g1,rfl} {_,k1,rfl} PySem.F.slot_tuple_lt PySem.F.entry_tuple_lt (PySem.F.args_tuple_lt_2 _ _) (YR l l' vs UR n n' dd WB sl Wr<|HT.lexLt (cE xs)<|cE ys)
     {g1,k1,?_,({(λx=>nomatch x),h})} ?S
    have hu1:A.in1.units+PyData.depthAll xs<cLine:=by
     have:A.in1.units=A.units+1:=rfl;omega
    have go:∀(xs ys:Re D) (vs UR:Re SZ) (as bs:Re Tl) (k:Nat) (fin:Bool),A.in1.units+PyData.depthAll xs<cLine->(∀j x,xs[j]? = some x->fits (g<|k+j) x)->(∀j x,ys[j]? = some x->fits (g<|k+j) x)->ReadsAll s.heap vs xs as->ReadsAll s.heap UR ys bs->fin=decide (vs.length<UR.length)->zT A.in1 s fin (vs.zip UR) (HT.lexLt (cE xs)<|cE ys):=by
     intro xs
     induction xs with
     | nil =>
      intro ys vs UR as bs k fin hu hx hy r1 r2 hf
      cases r1
      cases r2 with
      | nil=>rw[hf];rfl
      | cons a b=>rw[hf];rfl
     | cons x xs ih =>
      intro ys vs UR as bs k fin hu hx hy r1 r2 hf
      cases r1 with
      | cons a1 b1 =>
       cases r2 with
       | nil=>rw[hf];rfl
       | cons a2 b2 =>
        rename_i y ys _ _;have f1:=hx 0 x rfl;have f2:=hy 0 y rfl;have hdx:x.depth<=PyData.depthAll (x::xs):=Jc da;have Zv:PyData.depthAll xs<=PyData.depthAll (x::xs):=by simp  [PyData.depthAll];omega
        refine{PyData.eqv x y,SeqAt.eqAt_reads x y _ s _ _ _ _ a1 a2 (Gc _ f1) (Gc _ f2) ?S,λe=>?_,λe=>?_}
        ·have q:=M9 (g<|k+0) f1 f2 (cE xs)<|cE ys;rw[ap e]at q;have e0:HT.lexLt (cE<|x::xs) (cE<|y::ys)=HT.lexLt (cE xs) (cE ys):=by
          show HT.lexLt (1::(enc x++cE xs)) (1::(enc y++cE ys))=_;rw[Xl,ap rfl,q]
         rw[e0];exact ih ys _ _ _ _ (k+1) fin ?S (λj z hz=>by have:=hx ?qI z<|(hz);rwa [show k+?qI=k+1+j by omega]at this) (λj z hz=>by have:=hy ?qI z<|(hz);rwa [show k+?qI=k+1+j by omega]at this) b1 b2 (by rw[hf];simp)
        ·have q:=M9 (g<|k+0) f1 f2 (cE xs)<|cE ys;rw[ba (by rw[e];decide)]at q;have e0:HT.lexLt (cE<|x::xs) (cE<|y::ys)=HT.lexLt (enc x) (enc y):=by
          show HT.lexLt (1::(enc x++cE xs)) (1::(enc y++cE ys))=_;rw[Xl,ap rfl,q]
         rw[e0];exact Bp (g<|k+0) f1 f2 a1 a2 ?S
    refine go xs ys vs.toList UR.toList _ _ 0 _ hu1 (by simpa using hx) (by simpa using hy) g4 k4 ?_;simp
def BS:∀(s:Sh) {x y:D},fits s x->fits s y->∀(u v:Re Int),enc x++u=enc y++v->x=y/\u=v
 | .i,x,y,hx,hy,u,v,e=>by
  let{a,rfl}:=hx;let{b,rfl}:=hy;injection e with e1 e2;exact{by rw[e1],e2}
 | .b,x,y,hx,hy,u,v,e=>by
  let{p,rfl}:=hx;let{q,rfl}:=hy;injection e with e1 e2;refine{?_,e2}
  cases p<;>cases q<;>first|rfl|(simp at e1)
 | .f g,x,y,hx,hy,u,v,e=>by
  let{xs,rfl,hx}:=hx;let{ys,rfl,hy}:=hy;have go:∀(xs ys:Re D) (k:Nat),(∀j x,xs[j]? = some x->fits (g<|k+j) x)->(∀j x,ys[j]? = some x->fits (g<|k+j) x)->∀(u v:Re Int),cE xs++u=cE ys++v->xs=ys/\u=v:=by
   intro xs
   induction xs with
   | nil =>
    intro ys k hx hy u v e
    cases ys with
    | nil =>
     injection e with _ e;exact{rfl,e}
    | cons y ys =>
     cases e
   | cons x xs ih =>
    intro ys k hx hy u v e
    cases ys with
    | nil =>
     cases e
    | cons y ys =>
     have e:(1)::(enc x++cE xs++u)=1::(enc y++cE ys++v):=e;injection e with _ e;rw[wa,wa]at e;let{e1,e2}:=BS (g<|k+0) (hx 0 x rfl) (hy 0 y rfl) _ _ e;let{e3,e4}:=ih ys (k+1) (λj z hz=>by have:=hx ?qI z<|(hz);rwa [show k+?qI=k+1+j by omega]at this) (λj z hz=>by have:=hy ?qI z<|(hz);rwa [show k+?qI=k+1+j by omega]at this) u v e2;exact{by rw[e1,e3],e4}
  let{e1,e2}:=go xs ys 0 (by simpa using hx) (by simpa using hy) u v e;exact{by rw[e1],e2}
def De{prog:TD}{w:TW}{A:UV}{s:Tk}{fin:Bool}{Q:Bool->Tk->Prop}{g:Nat->Sh}(h0:g 0=.i):∀{xs ys:Re D} {vs us:Re SZ} {as bs:Re Tl} (i:Nat),A.units+PyData.depthAll xs<cLine ->
  (∀j x,xs[j]? = some x->fits (g<|i+j) x)->(∀j x,ys[j]? = some x->fits (g<|i+j) x)->ReadsAll s.heap vs xs as->ReadsAll s.heap us ys bs->fin=decide (vs.length<us.length)->Q (HT.lexLt (cE xs)<|cE ys) s ->
  PySem.W.KatLex prog w A true fin Q (vs.zip us) i s:=by
 intro xs
 induction xs with
 | nil =>
  intro ys vs us as bs i hu hx hy r1 r2 e q
  cases r1
  cases r2 with
  | nil=>subst e;exact q
  | cons a b=>subst e;exact q
 | cons x xs ih =>
  intro ys vs us as bs i hu hx hy r1 r2 e q
  cases r1 with
  | cons a1 b1 =>
   cases r2 with
   | nil=>subst e;exact q
   | cons a2 b2 =>
    rename_i y ys _ _;have f1:=hx 0 x rfl;have f2:=hy 0 y rfl;have hdx:x.depth<=PyData.depthAll (x::xs):=Jc da;have Zv:PyData.depthAll xs<=PyData.depthAll (x::xs):=by simp  [PyData.depthAll];omega
    refine PySem.W.kat_cons<|SeqAt.eqAt_reads x y A s _ _ _ _ a1 a2 (Gc _ f1) (Gc _ f2) ?S prog w _ _ ?_;have el:=M9 (g<|i+0) f1 f2 (cE xs)<|cE ys;have e1:HT.lexLt (cE<|x::xs) (cE<|y::ys)=HT.lexLt (enc x++cE xs) (enc y++cE ys):=rfl;rw[e1,el]at q
    cases hq:PyData.eqv x y with
    | true =>
     rw[hq]at q;exact PySem.W.kat_yes (ih ?jx ?S (λj z hz=>by have:=hx ?qI z<|(hz);rwa [show i+?qI=i+1+j by omega]at this) (λj z hz=>by have:=hy ?qI z<|(hz);rwa [show i+?qI=i+1+j by omega]at this) b1 b2 (by rw[e];simp) q)
    | false =>
     rw[hq]at q
     cases i with
     | zero =>
      rw[h0]at f1 f2;let{n1,rfl}:=f1;let{n2,rfl}:=f2
      cases a1 with
      | int _ t =>
       cases a2 with
       | int _ u =>
        refine oneLt_int ?_;have e:HT.lexLt (enc<|.int n1) (enc<|.int n2)=decide (n1<n2):=by
         show HT.lexLt (n1::[]) (n2::[])=_;rw[Xl];by_cases c:n1=n2
         ·rw[ap c,c,bi<|Int.lt_irrefl _];rfl
         ·rw[ba c]
        rw[e]at q;exact q
     | succ i =>
      exact PySem.W.kat_one _ _<|Bp (g<|i+1+0) f1 f2 a1 a2 ?S prog w _ _ q
noncomputable def OkN(g:Nat->Sh)(ds:Re D):Prop:=g 0=.i/\∀d∈ds,fits (.f g) d/\d.depth<=100/\∃x r,d=.tuple (x::r)
def sr(x y:D):Bool:=!HT.lexLt (enc y) (enc x)
def dX(ds:Re D):Re D:=ds.mergeSort sr
def Lk(x y z:D)(h1:sr x y=true)(h2:sr y z=true):sr x z=true:=by
 unfold sr at *;rw[nv]at *
 cases e:HT.lexLt (enc z) (enc x)with
 | false=>rfl
 | true =>
  cases e2:HT.lexLt (enc x) (enc y)with
  | true=>have:=Fp e e2;rw[h2]at this;cases this
  | false=>rw[C1 e2 h1,h2]at e;cases e
def Ie(x y:D):(sr x y||sr y x)=true:=by
 unfold sr
 cases e:HT.lexLt (enc y) (enc x)with
 | false=>rfl
 | true=>rw[Bo e];rfl
theorem gN(ds:Re D):(dX ds).Pairwise λx y=>sr x y=true:=List.pairwise_mergeSort Lk Ie ds
theorem bM(ds:Re D):(dX ds).Perm ds:=List.mergeSort_perm ds sr
def Fz{g:Nat->Sh}{x y:D}(hx:fits (.f g) x)(hy:fits (.f g) y)(h1:sr x y=true)(h2:sr y x=true):x=y:=by
 unfold sr at h1 h2;rw[nv]at h1 h2;have:=BS (.f g) hx hy [] [] (by rw[C1 h2 h1]);exact this.1
def Ea{g:Nat->Sh}{l ds:Re D}(ok:OkN g ds)(hp:l.Perm ds)(hs:l.Pairwise λx y=>sr x y=true):l=dX ds:=by
 refine C0  (λx hx y hy h1 h2=>?_) (hp.trans (bM ds).symm) hs<|gN ds;exact Fz (ok.2 x<|(bM ds).mem_iff.mp hx).1 (ok.2 y<|(bM ds).mem_iff.mp hy).1 h1 h2
def qH(K:Fg)(g:Nat->Sh):Re V->Hp->VK->Prop:=λxs H Q=>∃(G:Gh) (F:Hp) (Z:L2.St) (ρ:En) (x:V) (d:D) (ds:Re D),xs=[x]/\b_ K G F Z H ρ/\OR K F H x d/\bZ d=some ds/\OkN g ds /\
 ∀l vs,H l=none->h_ K F vs (dX ds)->Q (.ref l) (upd H l<|.lst vs)
open Classical in
noncomputable def jK(g:Nat->Sh):Re D->SL ?R
 | [d]=>match bZ d with
  | some ds=>if OkN g ds then some (dX ds)else none
  | none=>none
 | _=>none
theorem yX{X:Cx}{pins:w_}{Z σ':L2.St}{H F:Hp}{s:Tk}{G:Gh}{ρ:En}{vs:Re V}{ds:Re D}{i_:Re SZ}{Q:VK}(I:Inv X pins Z H s)(S:b_ X.K G F σ' H ρ)(rl:h_ X.K F vs ds)(rv:Vals vs i_)(hz:vs.length<=sizeLine){g:Nat->Sh}(j_:OkN g ds)(hu:X.A.units+1100<cLine)
  (k:∀l vs,H l=none->h_ X.K F vs (dX ds)->Q (.ref l) (upd H l<|.lst vs)):i_.length<=sizeLine/\∃(κ:SortKind) (rk:SZ->Int),
   (2<=i_.length->∀(E':t_) (Q:SortKind->Tk->Prop),Q κ (mid (hW s i_) s.heap.objs.size i_)->wpAny ?B X.A.in1.in1 (keyKind' i_.toArray) Q E' (mid (hW s i_) s.heap.objs.size i_)) /\
   (2<=i_.length->fE X.prog X.w X.A.in1.in1 (mid (hW s i_) s.heap.objs.size i_) κ rk (pairsOf i_)) /\
   ∀out:UF SZ,out.toList.Perm i_->out.toList.Pairwise (λx y=>rk x<=rk y)->uN X pins Z Q (.ref s.heap.objs.size) { s with heap:=sortedHeap (hW s i_).heap s.heap.objs.size i_ out }:=by
 have lay:=JZ λd hd=>Gc _ (j_.2 d hd).1
 have I1:Inv X pins Z H (mid (hW s i_) s.heap.objs.size i_):=I.kept  λb o e=>HV e
 let{as,ra}:=(SP I1).2 (rl.mono S.fh) lay rv;generalize hs1:mid (hW s i_) s.heap.objs.size i_=s1 at I1 ra;have emap:=SeqAt.readsAll_map ds _ _ lay ra
 let kf:=λv=>enc<|SeqAt.readOf s1.heap v
 have V6:∀x,x∈(pairsOf i_).toList->x.1∈i_:=λx hx=>by
  rw[pairsOf_toList]at hx;exact(mem_zip_self hx).2
 have hzl:i_.length<=sizeLine:=by rw[<-rv.length];exact hz
 have fin:∀out ,out.toList.Perm i_->out.toList.Pairwise (λx y=>dG i_ kf x<=dG i_ kf y)->uN X pins Z Q (.ref s.heap.objs.size) { s with heap:=sortedHeap (hW s i_).heap s.heap.objs.size i_ out }:=λout o1 o2=>by
  let{L,e1,e2,e3,e4}:=triples rl rv;rw[<-e3]at o1;let{L',p1,p2}:=HW o1;have e4':=λt ht=>e4 t<|p1.mem_iff.mp ht
  have rd:∀t∈L',SeqAt.readOf s1.heap t.2.2=t.2.1:=λt ht=>by
   let{a1,a2}:=e4' t ht;have:t.2.1∈ds:=by rw[<-e2];exact List.mem_map.mpr {t,p1.mem_iff.mp ht,rfl}
   have al:∀l ,PyData.canLayAll0 l=true->∀d∈l,d.canLay0=true:=by
    intro l
    induction l with
    | nil=>intro _ d hd;cases hd
    | cons a l ih =>
     intro h d hd;simp  [PyData.canLayAll0,am]at h;let rfl||hd:=List.mem_cons.mp hd
     ·exact h.1
     ·exact ih h.2 d hd
   have Vh:=al ds lay _ this;let{bs,rb}:=(SP I1).1 (a1.mono S.fh) Vh a2;exact SeqAt.readOf_eq Vh rb
  let{u1,u2}:=Fo e4';have es:L'.map (·.2.1)=dX ds:=by
   refine Ea j_ (by rw[<-e2];exact p1.map _) ?_;rw[<-p2,vc]at o2;rw[vc];refine tj (λ{x y} hx hy h=>?_) o2;have mx:x.2.2∈i_:=by rw[<-e3];exact List.mem_map.mpr {x,p1.mem_iff.mp hx,rfl}
   have my:y.2.2∈i_:=by rw[<-e3];exact List.mem_map.mpr {y,p1.mem_iff.mp hy,rfl}
   have q:=AK (k:=kf) my mx;rw[bi ?S]at q;show(!HT.lexLt (enc y.2.1) (enc x.2.1))=true;rw[<-rd x hx,<-rd y hy];rw[<-q];rfl
  rw[es]at u1;rw[p2]at u2;let{ep,he}:=U7<|(cN _ rfl);refine{.ref s.heap.objs.size,upd H s.heap.objs.size (.lst (L'.map (·.1))),I.laid  (λb o q=>RE (eh<|bj q)<|v_ _ q) ?ji {?_,out.toList,ep,u2,?_},rfl,k _ _ ?jA u1}
  ·rw[u2.length,<-p2,u_,p1.length_eq,<-u_ ,e3];exact hzl
  ·exact he
 have each:∀v∈i_,∃(a:Tl) (o:Obj) (vs:Re SZ) (n:Nat) (m:Int) (t:Tok) (us:Re SZ) (xs:Re D) (bs:Re Tl),v=.ref a/\s1.heap.get? a=some o/\o.cls=.type "tuple" /\ o.data=.seq vs.toArray n/\vs=.int m t::us/\ReadsAll s1.heap vs xs bs/\(∀k x,xs[k]? = some x->fits (g k) x)/\PyData.depthAll xs<=100/\kf v=cE xs:=λv hv=>by
  let{dv,bs,rd,hl,_}:=SeqAt.readsAll_mem ds i_ _ lay ra v hv;have er:=SeqAt.readOf_eq hl rd;have VD:dv∈ds:=by rw[<-emap,<-er];exact List.mem_map.mpr {v,hv,rfl}
  let{hf,hdp,x,r,rfl}:=j_.2 dv VD;let{xs,e,hf}:=hf
  cases e
  have hd:(PyData.tuple<|x::r).depth=PyData.depthAll (x::r)+1:=rfl;have f0:=hf 0 x rfl;rw[j_.1]at f0;let{m,rfl}:=f0
  cases rd with
  | tuple g1 g2 g3 g4 =>
   rename_i a o UR n;have g4':=g4;generalize hv':UR.toList=l at g4'
   cases g4' with
   | cons a1 b1 =>
    cases a1 with
    | int i t =>
     refine{a,o,UR.toList,n,m,t,_,_,_,rfl,g1,g2,by rw[g3],hv',g4,hf,by omega,?_};show enc (SeqAt.readOf s1.heap<|.ref a)=_;rw[er];rfl
 refine{hzl,tuples' true,dG i_ kf,λh2 E' Q' q=>?_,λh2 x y hx hy E' Q' q=>?_,fin}
 ·have fs:∀l ,(∀v∈l,v∈i_)->∃fs:Re SZ,PySem.W.KatTups s1.heap l fs/\fs.length=l.length/\∀v∈fs,∃i t,v=.int i t:=by
   intro l
   induction l with
   | nil=>intro _;exact{[],trivial,rfl,λ_ h=>by cases h}
   | cons v l ih =>
    intro hl;let{fs,f1,f2,f3}:=ih λv hv=>hl v<|xO _ hv
    let{a,o,vs,n,m,t,us,xs,bs,rfl,g1,g2,g3,g4,_}:=each v<|hl v da;subst g4;refine{.int m t::fs,PySem.W.KatTups.cons g1 g2 g3 ?E f1,by simp[f2],λv hv=>?_};let rfl||hv:=List.mem_cons.mp hv
    ·exact{_,_,rfl}
    ·exact f3 v hv
  let{fs,f1,f2,f3}:=fs i_ λ_ h=>h
  refine PySem.W.kat_kind f1 ?S (T:=.type "int") (λv hv=>?_) rfl q;let{i,t,rfl}:=f3 v hv;exact PySem.W.Looks.now
 ·have R0:=V6 x hx;have Wv:=V6 y hy;rw[AK R0 Wv]at q;let{a1,o1,vs1,n1,m1,t1,us1,xs1,bs1,e1,g1,g2,g3,_,g5,g6,g7,g8}:=each _ R0;let{a2,o2,vs2,n2,m2,t2,us2,xs2,bs2,e2,k1,k2,k3,_,k5,k6,k7,k8}:=each _ Wv;rw[g8,k8]at q;rw[e1,e2];refine PySem.W.kat_lt g1 g3 k1 k3 ?_;have hu2:X.A.in1.in1.units=X.A.units+2:=rfl;have:=De (prog:=X.prog) (w:=X.w) (A:=X.A.in1.in1)   j_.1 0 ?S (by simpa using g6) (by simpa using k6) g5 k5 rfl q;exact this
theorem jM{X:Cx}{g:Nat->Sh}(hu:X.A.units+1100<cLine):k_ X (.builtin "sorted") (qH X.K g):=by
 intro pins s Z H xs us Q I r h0;let{G,F,σ',ρ,x,d,ds,rfl,S,ho,hd,j_,k}:=h0;let{u,rfl,ru}:=L2.Vals.one r;have zbc:∃(p:Tl) (o:Obj) (n:Nat) (vs:Re V) (i_:Re SZ),u=.ref p/\s.heap.get? p=some o/\(o.cls=.type "list" \/ o.cls=.type "tuple")/\o.data=.seq i_.toArray n/\Vals vs i_/\vs.length<=sizeLine/\h_ X.K F vs ds:=by
  cases d with
  | list es =>
   cases hd
   let{a,vs,rfl,h1,h2}:=ho.list S.fh
   cases ru
   let{i_,rv,pl,hz}:=I.list h1;let{o,e1,e2,n,e3}:=pl.isList;exact{a,o,n,vs,i_,rfl,e1,.inl e2,e3,rv,hz,h2}
  | tuple es =>
   cases hd
   let{a,vs,rfl,h1,h2}:=ho.tuple S.fh
   cases ru
   let{i_,rv,{o,e1,e2,n,e3},hz}:=I.tuple h1;exact{a,o,n,vs,i_,rfl,e1,.inr e2,e3,rv,hz,h2}
  | _=>cases hd
 let{p,o,n,vs,i_,rfl,hp,Vh,T2,rv,hz,rl}:=zbc;have I2:Inv X pins Z H { s with heap:=(s.heap.push ?jE).update s.heap.objs.size (Obj.mapSeq (· ++ i_.toArray)) }:=I.kept  λb o e=>by
  have r_:=bj e;rw[ze _ _ _ _<|eh r_];exact v_ _ e
 exact Xy λE' Q' q=>IG hp Vh T2 (by rw[<-rv.length];exact hz)<|q _ _<|yX I2 S rl rv hz j_ hu k
theorem nF{K:Fg}{g:Nat->Sh}:bt K (qH K g) (jK g):=by
 intro G F Z H ρ xs ds res Q S o e k;unfold jK at e;split at e
 ·rename_i d;split at e
  ·rename_i es hes;split at e
   ·rename_i j_
    cases e
    let{v,r,rfl,ho,hr}:=Ou o;obtain rfl:=PG hr;refine{G,F,Z,ρ,v,d,es,rfl,S,ho,hes,j_,λl vs hl rp=>?_};let{S2,r2}:=S.M_ hl rp;exact k _ F _ ?J S2 r2
   ·cases e
  ·cases e
 ·cases e
def gX:Nat->Sh
 | 0=>.i
 | 1=>.f λ_=>.i
 | 2=>.f λ_=>.f λ_=>.i
 | _=>.f λ_=>.b
end L4
namespace L4
open PySem PySem.Spec PyProof.Rows L2 L3
def yF:Nat->Sh:=λ_=>.i
end L4
set_option maxHeartbeats 8000000
namespace ZM
open PySem PySem.Spec PyProof.Rows L2 L3 L4
noncomputable section
def top(i:Nat):Stmt:=PySem.Challenge.pw_passersby_k45_none_answers.main.body.getD i<|.Pass {0,0,0,0}
abbrev BL:Re Str:=["range","len","tuple","list","max","min","sum","repr","enumerate","isinstance","all","any","int","bool","zip","sorted","dict","reversed"]
theorem m_{X:Cx}{k:Nat}{a b:Uf}{pos:Pos}{pa pb:Pu D}(hr:z_ k X.A)(ha:zN X a pa)(hb:zN X b pb)(hs:wZ b:=by exact λ_ _=>rfl):lj X (.Subscript a b pos) (kg aD pa pb):=NP (AM ?O) HA ha hb hs
structure BN(K:Fg)(mg:R1):Prop where
 b:∀x∈BL,mg x=none
 Y5:qI K mg ("begun",top 4)
 Ya:qI K mg ("can_be",top 5)
 X8:qI K mg ("led_to",top 6)
 Wb:qI K mg ("pairs_of",top 7)
 Wc:qI K mg ("leads_at",top 8)
 zaf:qI K mg ("said",top 9)
 Wd:qI K mg ("hands_of",top 12)
 Y4:qI K mg ("holds",top 11)
 UG:qI K mg ("leads_from",top 14)
 X7:qI K mg ("row_to",top 16)
 X6:qI K mg ("way_in",top 15)
 Wg:qI K mg ("backs_of",top 17)
 We:qI K mg ("far_from",top 18)
 Vn:qI K mg ("astray_in",top 20)
 W3:qI K mg ("lost_in",top 21)
 X_:FbV K mg ("err_at",top 23) 1000
 UH:qI K mg ("beginnings",top 25)
 X9:FbV K mg ("err_of",top 24) 1000
 Vm:qI K mg ("rows_over",top 28)
 UE:qI K mg ("meets_over",top 29)
 Wa:qI K mg ("rules_of",top 27)
 WZ:qI K mg ("none_of",top 30)
 Vq:qI K mg ("_law_feed",top 32)
 Vs:qI K mg ("_law_draw",top 33)
 Td:qI K mg ("_law_question",top 34)
 UL:qI K mg ("_law_holds",top 35)
 UI:qI K mg ("_law_steps",top 36)
 Wh:qI K mg ("_law_all",top 37)
 UM:qI K mg ("_law_begun",top 39)
 Vo:qI K mg ("_law_said",top 40)
 Vt:qI K mg ("_law_back",top 41)
 Vp:qI K mg ("_law_lost",top 42)
 SR:qI K mg ("_law_is_number",top 43)
 Sz:qI K mg ("_law_is_counted",top 44)
 Tc:qI K mg ("_law_rank_bad",top 45)
 Tw:qI K mg ("_law_err_due",top 46)
 SA:qI K mg ("_law_beginnings",top 47)
 UJ:qI K mg ("_law_rules",top 48)
 Vr:qI K mg ("_law_errs",top 49)
 UK:qI K mg ("_law_right",top 50)
 zaE:qI K mg ("law",top 51)
theorem BN.i{K:Fg}{mg:R1}(B:BN K mg){x:Str}(h:x∈BL:=by decide):mg x=none:=B.b x h
section
variable {P:TD}{w:TW}{K:Fg}{mg:R1}{base:Wp}
def qG(Wy:Re D):M D :=
 bd (oM<|dJ [(PyData.list Wy)]) λx5=>.ret x5
def tF(Wy:Re D)(d_:D)(kn6:Re D×Unit->M D):M D :=
 yG d_ λy7 y8=>bd (oM<|fO (PyData.list Wy) y7) λx9=>bd (oM<|mw x9 y8) λR9=>bd (oM<|putD Wy y7 R9) λT9=>kn6 (T9,())
def qT(TH Vk:D):M D :=
 bd (bd (oM<|aD TH<|.int 0) λx1=>oM<|rZ (PyData.list [(.int 0)]) x1) λl2=>bd (bd (oM<|aD TH<|.int 1) λx3=>oM<|LH [x3,Vk]) λl4=>cH (λVW d13 kn=>tF VW.1 d13 kn) l4 (l2,()) λVW=>qG VW.1
def yV(f:D->M D):Re D->M D:=λl=>match l with
 | [a]=>f a
 | _=>.bad
def vF(f:D->D->M D):Re D->M D:=λl=>match l with
 | [a,b]=>f a b
 | _=>.bad
def yW(f:D->D->D->M D):Re D->M D:=λl=>match l with
 | [a,b,c]=>f a b c
 | _=>.bad
def pF(f:D->D->D->D->M D):Re D->M D:=λl=>match l with
 | [a,b,c,d]=>f a b c d
 | _=>.bad
def ya:=vF qT
def E8(B:BN K mg):CF P w K mg base "begun" 1 (pN K 2 ya) :=
 R3 ["rule","counts","numbers","start","many"] B.Y5 λhr nd =>
  (Js (LI (sh:=[.f,.f,.o,.z,.z])<|Wk (i:=2) nd<|JC<|Mc (Oq ?qb)<|G7 ?I)
  <|Js (Az (sh:=[.z,.z,.o,.z,.z]) PassesOwn.leaving rfl (Cg<|GK rfl B.i (Mp ?I ?Z) rfl rfl) (JO rfl (Jz (Jx (i:=3) ?U nd) (Jz (Jx (i:=4) ?U nd) MT rfl) rfl) rfl rfl)
  <|Yv<|Kt (i:=2) rfl ?jh PU OY (JE ?qa) (JE<|av 4) λ_ _ _=>rfl)
  <|Yv<|O3<|JE<|G6 QH GS B.i ?G<|Kb (Pb (i:=2)) Mg)
def kS(Vj gaK:D):M D :=
 bd (bd (bd (oM (aD gaK (.int 0))) λx1=>bd (oM (aD gaK (.int 1))) λx2=>oM (bp x1 x2)) λb3=>if b3 then .ret (.int 2)else .ret (.int 1)) λx4=>bd (bd (bd (bd (bd (oM (aD gaK (.int 0))) λx5=>oM (aD Vj x5)) λx6=>oM (vW x6 x4)) λb9=>if b9 then bd (bd (oM (aD gaK (.int 1))) λx7=>oM (aD Vj x7)) λx8=>oM (vW x8 x4)else .ret false) λYd=>.ret (.bool Yd)) λSl=>.ret Sl
def mI:=vF kS
def CU(B:BN K mg):CF P w K mg base "can_be" 1 (pN K 2 mI) :=
 R3 ["crowd","meeting","wanted"] B.Ya λhr nd =>
  (Js (LI (sh:=[.f,.f,.f])<|SD (i:=2) nd<|JE<|B8 (Zm ?jR D5 (G7<|m_ hr ?j4 ?P)<|G7<|m_ hr ?j4 ?P) My My)
  <|Yv<|O3<|JE<|VC<|Ow (Pq P9 OO (G7<|m_ hr (SS 0)<|G7<|m_ hr ?j4 ?P) ?jF)<|OJ<|Pq P9 OO (G7<|m_ hr (SS 0)<|G7<|m_ hr ?j4 ?P) ?jF)
def yK(Wy:Re D):M D :=
 bd (oM<|dJ [(PyData.list Wy)]) λx8=>.ret x8
def kN(Wy:Re D)(d_:D)(kn9:Re D×Unit->M D):M D :=
 bd (oM<|fO (PyData.list Wy) d_) λR9=>bd (oM<|mw R9<|.int 1) λSl=>bd (oM<|putD Wy d_ Sl) λU_=>kn9 (U_,())
def qf(gbr:D)(Wy:Re D):M D :=
 bd (bd (bd ?qS λlo5=>oM<|kD gbr lo5 none) λx6=>oM<|bZ x6) λl7=>cH (λRr Vv kn=>kN Rr.1 Vv kn) l7 (Wy,()) λRr=>yK Rr.1
def kO(gbr:D)(Wy:Re D)(d_:D)(Ux:D×Re D×Unit->M D):M D :=
 bd (oM<|fO (PyData.list Wy) d_) λVQ=>bd (oM<|gJ VQ<|.int 1) λT5=>bd (oM<|putD Wy d_ T5) λV4=>Ux (gbr,V4,())
def kP(Vj gaK:D):M D :=
 bd (oM<|lU [Vj]) λl1=>bd (bd (bd ?qS λhi2=>oM<|kD gaK none hi2) λx3=>oM<|bZ x3) λl4=>cH (λRw W5 kn=>kO Rw.1 Rw.2.1 W5 kn) l4 (gaK,l1,()) λRw=>qf Rw.1 Rw.2.1
def uH:=vF kP
def CQ(B:BN K mg):CF P w K mg base "led_to" 1 (pN K 2 uH) :=
 R3 ["crowd","meeting","numbers","room"] B.X8 λhr nd =>
  (Js (LI (sh:=[.z,.f,.o,.z])<|Wk (i:=2) nd<|JC<|Mr QG Zn B.i ?G<|Kb (SS 0) Mg)
  <|Js (Az (sh:=[.z,.f,.o,.z]) PassesOwn.leaving rfl (Cg<|Bi<|OB ?j4 Jj<|OG My) (Jx (i:=3) ?U nd)
  <|Yv<|Kt (i:=2) rfl ?jh Lx Ik (JE ?qa) (JE My) λ_ _ _=>rfl)
  <|Js (Az (sh:=[.z,.z,.o,.z]) PassesOwn.leaving rfl (Cg<|Bi<|OB ?j4 (OG My) Jj) (Jx (i:=3) ?U nd)
  <|Yv<|Kt (i:=2) rfl ?jh PU OY (JE ?qa) (JE My) λ_ _ _=>rfl)
  <|Yv<|O3<|JE<|G6 QH GS B.i ?G<|Kb (Pb (i:=2)) Mg)
def uu(Sj:Re ?M):M D :=
 .ret<|PyData.dict Sj
def lW(Sj:Re ?M)(d_:D)(kn3:Re ?M×Unit->M D):M D :=
 yG d_ λy4 y5=>bd (bd ?qS λhi6=>oM<|kD y5 none hi6) λx7=>bd (oM<|ii true Sj x7 y4) λl8=>kn3 (l8,())
def jN(TH:D):M D :=
 bd (bd (oM<|aD TH<|.int 2) λx1=>oM<|qa [x1]) λl2=>cH (λs9 Uh kn=>lW s9.1 Uh kn) l2 ([],()) λs9=>uu s9.1
def xR:=yV jN
theorem xH(B:BN K mg):CF P w K mg base "pairs_of" 1 (pN K 1 xR) :=
 R3 ["rule","pairs","number","meeting"] B.Wb λhr nd =>
  (Js (LI (sh:=[.f,.t,.z,.z])<|Jn true (i:=1) nd rfl ?jw rfl<|.inl rfl)
  <|Js (Az (sh:=[.z,.t,.z,.z]) PassesOwn.leaving rfl (Cg<|MV rfl B.i (Mp ?I Oj) rfl) (JO rfl (Jz (Jx (i:=2) ?U nd) (Jz (Jx (i:=3) ?U nd) MT rfl) rfl) rfl rfl)
  <|Yv<|Kl ?O (i:=1) rfl ?jh (JE<|OB ?qi Jj<|OG My) (JE<|av 2) rfl)
  <|Yv<|Dj (i:=1)<|O3<|JE<|av 1)
abbrev SE:Re Str:=["rule","pairs","crowd","meets","rooms","leads","place","a","b","number","room","many"]
theorem jU:SE.Nodup:=by decide +kernel
def uv(Sj Y1:D)(WY TN:D)(Si:Re D):M D :=
 .ret<|PyData.list Si
def lY(Ri:D×D×D×D×Re D×Unit->M D)(Sj Y1:D)(WY TN:D)(Si:Re D)(v_a:D):M D :=
 Ri (Sj,Y1,WY,TN,Si,())
def i9(Ri:D×D×D×D×Re D×Unit->M D)(Sj Y1:D)(WY TN:D)(Si:Re D)(v_a d_:D)(XF:D×D×D×D×Re D×D×Unit->M D):M D :=
 bd (oM (yE Sj (.tuple [v_a,d_]))) λT5=>bd (bd (oM (fM T5 .none)) λb20=>if b20 then bd (bd (oM (aD WY T5)) λWI=>kS Y1 WI) λSY=>oM (iX SY)else .ret false) λb21=>if b21 then
  bd (bd (bd (oM (aD WY T5)) λTQ=>kP Y1 TQ) λUZ=>.ret (.tuple [T5,UZ])) λXm=>bd (oM (sA Si [Xm])) λYh=>XF (Sj,Y1,WY,TN,Yh,v_a,())
  else
  XF (Sj,Y1,WY,TN,Si,v_a,())
def lX(Sj Y1:D)(WY TN:D)(Si:Re D)(d_:D)(Ri:D×D×D×D×Re D×Unit->M D):M D :=
 yG d_ λy11 y12=>bd (bd (bd (mF y11) λZ_=>oM<|kD TN Z_ none) λTo=>oM<|bZ To) λl15=>cH (λS9 d27 kn=>i9 Ri S9.1 S9.2.1 S9.2.2.1 S9.2.2.2.1 S9.2.2.2.2.1 S9.2.2.2.2.2.1 d27 kn) l15 (Sj,Y1,WY,TN,Si,y12,()) λS9=>lY Ri S9.1 S9.2.1 S9.2.2.1 S9.2.2.2.1 S9.2.2.2.2.1 S9.2.2.2.2.2.1
def jP(TH gbz Vj:D):M D :=
 bd (oM<|aD TH<|.int 2) λx1=>bd (bd (bd (oM<|qa [Vj]) λl6=>bd (aW (λd2=>yG d2 λy3 y4=>bd (oM<|eX y4<|.int 0) λb5=>if b5 then .ret (some y3)else .ret none) l6) cp) λl7=>.ret ?qC) λx8=>bd (oM<|zW [x8]) λl9=>cH (λSo d29 kn=>lX So.1 So.2.1 So.2.2.1 So.2.2.2.1 So.2.2.2.2.1 d29 kn) l9 (gbz,Vj,x1,x8,[],()) λSo=>uv So.1 So.2.1 So.2.2.1 So.2.2.2.1 So.2.2.2.2.1
def xS:=yW jP
theorem xI(B:BN K mg):CF P w K mg base "leads_at" 2 (pN K 3 xS) :=
 R3 ["rule","pairs","crowd","meets","rooms","leads","place","a","b","number"] B.Wc λhr nd =>
  (Js (LI (sh:=[.z,.f,.f,.f,.z,.z,.z,.z,.z,.z])<|SD (i:=3) nd<|JE ?I)
  <|Js (LI (sh:=[.z,.f,.f,.f,.f,.z,.z,.z,.z,.z])<|OA (i:=4) nd rfl ?jw (.inl rfl) (N':=SE) (k:=2) rfl ?H (MV rfl B.i ?qn rfl) (λ_ _ _ _ _=>(JO rfl (Jz (Jx (i:=10) (show 10<=10 by decide) jU) (Jz (Jx (i:=11) (show 10<=11 by decide) jU) MT rfl) rfl) rfl rfl)) (λ_ _ _ _ _=>(JS<|Zm P8 Hk (SS 11) ?P)) (λ_ _ _ _ _=>(av 10)) rfl ?T)
  <|Js (LI (sh:=[.z,.f,.f,.f,.f,.o,.z,.z,.z,.z])<|Wk (i:=5) nd ?qw)
  <|Js (Az (sh:=[.z,.f,.f,.f,.f,.o,.z,.z,.z,.z]) PassesOwn.leaving rfl (Cg<|GL rfl B.i (Mp (av 4) Oj) rfl) (JO rfl (Jz (Jx (i:=6) ?U nd) (Jz (Jx (i:=7) ?U nd) MT rfl) rfl) rfl rfl)
  <|Yv<|Az (sh:=[.z,.f,.f,.f,.f,.o,.z,.f,.z,.z]) PassesOwn.leaving rfl (Cg<|Bi<|OB ?qo (OG<|av 6) Jj) (Jx (i:=8) ?U nd)
  <|Js (LI (sh:=[.z,.f,.f,.f,.f,.o,.z,.f,.z,.f])<|SD (i:=9) nd<|JE<|GJ ?O ?j4 (Je<|Mp (av 7)<|Mp (av 8) Oj) {rfl,rfl,rfl,rfl})
  <|Yv<|Iv (Ni<|MZ<|M0 (Zm MH D5 (SS 9)<|G7 PI)<|M5<|OI (G7<|AI (CU B) hr.m<|Mp (av 2)<|Mp (m_ hr ?qi<|SS 9) Oj) ?T)
  (Yv<|XL (i:=5) rfl ?jh (O0 (JE<|Je<|Mp (av 9)<|Mp (AI (CQ B) hr.m<|Mp (av 2)<|Mp (m_ hr ?qi<|SS 9) Oj) Oj) KQ) rfl rfl rfl rfl rfl rfl)
  Ku)
  <|Yv<|Dj (i:=5)<|O3<|JE<|av 5)
abbrev Vy:Re Str:=["rule","crowd","truths","truth","many"]
theorem pX:Vy.Nodup:=by decide +kernel
def pK(TH Vj:D):M D :=
 bd (bd (bd (bd (oM<|aD TH<|.int 3) λx1=>oM<|LH [x1,Vj]) λl6=>bd (aW (λd2=>yG d2 λy3 y4=>bd (oM<|eX y4<|.int 0) λb5=>if b5 then .ret (some y3)else .ret none) l6) cp) λl7=>.ret ?qC) λx8=>bd (oM<|rY [x8]) λb9=>if b9 then
  .ret (.str "yes")
  else
  bd (bd (oM<|w6 [x8]) λYd=>if Yd then .ret (.str "both")else .ret (.str "no")) λSl=>.ret Sl
def rW:=vF pK
def HI(B:BN K mg):CF P w K mg base "said" 1 (pN K 2 rW) :=
 R3 ["rule","crowd","truths"] B.zaf λhr nd =>
  (Js (LI (sh:=[.z,.z,.f])<|OA (i:=2) nd rfl ?jw (.inl rfl) (N':=Vy) (k:=2) rfl ?H (GK rfl B.i (Mp ?I ?Z) rfl rfl) (λ_ _ _ _ _=>(JO rfl (Jz (Jx (i:=3) (show 3<=3 by decide) pX) (Jz (Jx (i:=4) (show 3<=4 by decide) pX) MT rfl) rfl) rfl rfl)) (λ_ _ _ _ _=>(JS<|Zm P8 Hk ?qo ?P)) (λ_ _ _ _ _=>?qa) rfl ?T)
  <|Js (Iv (Ni<|MW (PO (GA rfl) K9 rfl B.i ?G (Kb ?jF Mg) ?C ?C rfl rfl) ?T)
  (Yv<|O3<|JE J8)
  Ku)
  <|Yv<|O3<|JE<|B8 (MW (PO (Gz rfl) K8 rfl B.i ?G (Kb ?jF Mg) ?C ?C rfl rfl) ?T) J8 J8)
abbrev SF:Re Str:=["some","counts","sort"]
theorem qk:SF.Nodup:=by decide +kernel
def fR(gbE Vk:D):M D :=
 bd (bd (bd (bd (oM<|bZ gbE) λl3=>bd (aW (λd1=>bd (oM<|aD Vk d1) λx2=>.ret<|some x2) l3) cp) λl4=>.ret<|PyData.list l4) λx5=>oM<|e6 [x5]) λx6=>.ret x6
def xT:=vF fR
theorem pV(B:BN K mg):CF P w K mg base "hands_of" 1 (pN K 2 xT) :=
 R3 ["some","counts"] B.Wd λhr nd =>
  (Yv<|O3<|JE<|CE (ID rfl) BJ B.i ?G<|Kb (G7<|Ol<|VL (N':=SF) (k:=1) rfl ?H (Bi ?qj) (λ_ _ _ _ _=>(Jx (i:=2) (show 2<=2 by decide) qk)) ?jk λ_ _ _ _ _=>(m_ hr ?j4 ?jF)) Mg)
def pL(self:D->D->M D)(UB Vk:D):M D :=
 bd (oM<|aD UB<|.int 0) λx1=>bd (oM<|bp x1<|.str "not") λb2=>if b2 then
  bd (bd (bd (bd (bd (oM<|aD UB<|.int 1) λx3=>self x3 Vk) λx4=>oM<|iX x4) λb5=>.ret<|!b5) λb6=>.ret<|.bool b6) λx7=>.ret x7
  else
  bd (oM<|bp x1<|.str "both") λb8=>if b8 then
  bd (bd (bd (bd (bd (oM<|aD UB<|.int 1) λx9=>self x9 Vk) λR9=>asB R9) λZb=>if Zb then bd (bd (oM<|aD UB<|.int 2) λSl=>self Sl Vk) λSK=>asB SK else .ret false) λYb=>.ret<|.bool Yb) λS7=>.ret S7
  else
  bd (oM<|bp x1<|.str "either") λUN=>if UN then
  bd (bd (bd (bd (bd (oM<|aD UB<|.int 1) λT5=>self T5 Vk) λWI=>asB WI) λb21=>if b21 then .ret true else bd (bd (oM<|aD UB<|.int 2) λSY=>self SY Vk) λVP=>asB VP) λb22=>.ret<|.bool b22) λUZ=>.ret UZ
  else
  bd (bd (oM<|aD UB<|.int 1) λXm=>fR Xm Vk) λUj=>bd (oM<|bp x1<|.str "least") λY_=>if Y_ then
  bd (bd (bd (oM<|aD UB<|.int 2) λYt=>oM<|vW Uj Yt) λb28=>.ret<|.bool b28) λZj=>.ret Zj
  else
  bd (oM<|bp x1<|.str "more") λb30=>if b30 then
  bd (bd (bd (bd (oM<|aD UB<|.int 2) λZi=>fR Zi Vk) λx32=>oM<|eX Uj x32) λb33=>.ret<|.bool b33) λx34=>.ret x34
  else
  bd (bd (bd (bd (oM<|aD UB<|.int 2) λZR=>oM<|iF Uj ZR) λx36=>bd (oM<|aD UB<|.int 3) λx37=>oM<|bp x36 x37) λb38=>.ret<|.bool b38) λZQ=>.ret ZQ
def oH:Nat->D->D->M D
 | 0=>λ_ _=>.bad
 | i+1=>pL<|oH i
def xa(i:Nat):Re D->M D:=λl=>match l with
 | [UB,Vk]=>oH i UB Vk
 | _=>.bad
def E7(B:BN K mg):∀i:Nat,CF P w K mg base "holds" (2+i)<|pN K 2<|xa i :=
 II ["question","counts","word","many"] B.Y4 λRS=>λhr nd =>
  (Js (LI (sh:=[.f,.f,.f,.z])<|SD (i:=2) nd<|JE ?I)
  <|Js (Iv (Ni<|Zm ?jR D5 ?jF<|G7 J8)
  (Yv<|O3<|JE<|VC<|Cd<|G7 ?j9)
  Ku)
  <|Js (Iv (Ni<|Zm ?jR D5 ?jF<|G7 J8)
  (Yv<|O3<|JE<|VC<|Ow (Ce ?j9)<|OJ<|Ce ?j9)
  Ku)
  <|Js (Iv (Ni<|Zm ?jR D5 ?jF<|G7 J8)
  (Yv<|O3<|JE<|VC<|Of (Ce ?j9)<|OJ<|Ce ?j9)
  Ku)
  <|Js (LI (sh:=[.f,.f,.f,.f])<|SD (i:=3) nd<|JE<|AI (pV B) ?jv<|Mp ?I ?Z)
  <|Js (Iv (Ni<|Zm ?jR D5 ?jF<|G7 J8)
  (Yv<|O3<|JE<|VC<|Pq P9 OO ?qi<|G7 ?I)
  Ku)
  <|Js (Iv (Ni<|Zm ?jR D5 ?jF<|G7 J8)
  (Yv<|O3<|JE<|VC<|Pq P8 Hk ?qi<|G7<|AI (pV B) ?jv<|Mp ?I ?Z)
  Ku)
  <|Yv<|O3<|JE<|VC<|Pq ?jR D5 (G7<|NQ P6 Mi ?qi<|G7 ?I)<|G7 ?I)
def jX(UW Vl Sj:D)(Si:Re ?M)(Y0:Re ?M)(RZ:Re D):M D :=
 .ret<|PyData.dict Si
def qy(RY:D×D×D×Re ?M×Re ?M×Re D×Unit->M D)(UW Vl Sj:D)(Si:Re ?M)(Y0:Re ?M)(RZ:Re D):M D :=
 RY (UW,Vl,Sj,Si,Y0,RZ,())
def gA(RY:D×D×D×Re ?M×Re ?M×Re D×Unit->M D)(UW Vl Sj:D)(Si:Re ?M)(Y0:Re ?M)(RZ:Re D)(d_:D)(zat:D×D×D×Re ?M×Re ?M×Re D×Unit->M D):M D :=
 bd (bd ?qk λS7=>oM<|bc S7<|PyData.dict Y0) λUN=>if UN then
  bd ?qk λT5=>bd (oM<|ii true Y0 T5<|.bool true) λV4=>bd ?qk λSY=>bd (oM<|sA RZ [SY]) λl20=>zat (UW,Vl,Sj,Si,V4,l20,())
  else
  zat (UW,Vl,Sj,Si,Y0,RZ,())
def bY(UW Vl Sj:D)(Si:Re ?M)(Y0:Re ?M)(RZ:Re D)(RY:D×D×D×Re ?M×Re ?M×Re D×Unit->M D):M D :=
 bd (bd (oM<|sT [(PyData.dict Si)]) λx3=>bd (oM<|dm [?qc]) λx4=>oM<|eW x3 x4) λb5=>if b5 then
  bd (bd (oM<|dm [?qc]) λx6=>oM<|eX x6 Vl) λb7=>if b7 then
  .bad
  else
  bd (bd (oM<|sT [(PyData.dict Si)]) λx8=>oM<|aD ?qc x8) λx9=>bd (jP UW Sj x9) λR9=>bd (oM<|ii true Si x9 R9) λT9=>bd (bd (oM<|aD (PyData.dict T9) x9) λSK=>oM<|bZ SK) λXB=>cH (λSq d22 kn=>gA RY Sq.1 Sq.2.1 Sq.2.2.1 Sq.2.2.2.1 Sq.2.2.2.2.1 Sq.2.2.2.2.2.1 d22 kn) XB (UW,Vl,Sj,T9,Y0,RZ,()) λSq=>qy RY Sq.1 Sq.2.1 Sq.2.2.1 Sq.2.2.2.1 Sq.2.2.2.2.1 Sq.2.2.2.2.2.1
  else jX UW Vl Sj Si Y0 RZ
def dQ(TH Vj ga3:D):M D :=
 bd (jN TH) λx1=>jo Vj<|j7 (λWK kn=>bY WK.1 WK.2.1 WK.2.2.1 WK.2.2.2.1 WK.2.2.2.2.1 WK.2.2.2.2.2.1 kn) 10000 (TH,ga3,x1,[],[(Vj,(.bool true))],[Vj],())
def tY:=yW dQ
theorem tR(B:BN K mg):CF P w K mg base "leads_from" 3 (pN K 3 tY) :=
 R3 ["rule","crowd","limit","pairs","leads","known","found","here","lead"] B.UG λhr nd =>
  (Js (LI (sh:=[.f,.f,.f,.f,.z,.z,.z,.z,.z])<|SD (i:=3) nd<|JE<|AI (xH B) hr.m<|Mp ?qj Oj)
  <|Js (LI (sh:=[.f,.f,.f,.f,.t,.z,.z,.z,.z])<|Jn true (i:=4) nd rfl ?jw rfl<|.inl rfl)
  <|Js (LI (sh:=[.f,.f,.f,.f,.t,.t,.z,.z,.z])<|B7 (i:=5) ?O nd rfl ?jw (av 1) Oh rfl<|.inl rfl)
  <|Js (LI (sh:=[.f,.z,.f,.f,.t,.t,.o,.z,.z])<|Wk (i:=6) nd<|JC<|Oq ?Z)
  <|Js (AD (sh:=[.f,.z,.f,.f,.t,.t,.o,.z,.z]) (fuel:=10000) PassesOwn.leaving (Ni<|Zm (MX ?O) OF (G7<|CE B0 Ey B.i gh<|Kb (Pb (i:=4)) Mg)<|G7<|CE J7 Pr B.i gh<|Kb (Pb (i:=6)) Mg)
  <|Js (Iv (Ni<|Zm P8 Hk (G7<|CE J7 Pr B.i gh<|Kb (Pb (i:=6)) Mg) ?jF)
  (Yv L7)
  Ku)
  <|Js (LI (sh:=[.f,.z,.f,.f,.t,.t,.o,.f,.z])<|SD (i:=7) nd<|JE<|m_ hr (Pb (i:=6))<|G7<|CE B0 Ey B.i gh<|Kb (Pb (i:=4)) Mg)
  <|Js (LI (sh:=[.f,.z,.f,.f,.t,.t,.o,.f,.z])<|Kl ?O (i:=4) rfl ?jh (JE<|av 7) (JE<|AI (xI B) hr.m<|Mp ?qj<|Mp ?qa<|Mp (av 7) Oj) rfl)
  <|Yv<|Az (sh:=[.f,.z,.f,.f,.t,.t,.o,.z,.z]) PassesOwn.leaving rfl (Cg<|Bi<|m_ hr (Pb (i:=4))<|SS 7) (Jx (i:=8) ?U nd)
  <|Yv<|Iv (Ni<|Zm (M3 ?O) M2 (G7<|m_ hr (SS 8) ?P)<|Pb (i:=5))
  (Js (LI (sh:=[.f,.z,.f,.f,.t,.t,.o,.z,.f])<|Kl ?O (i:=5) rfl ?jh (JE<|m_ hr (SS 8) ?P) (JE Oh) rfl)
  <|Yv<|XL (i:=6) rfl ?jh (O0 (JE<|m_ hr (SS 8) ?P) KQ) rfl rfl rfl rfl rfl rfl)
  Ku)
  <|Yv<|Dj (i:=4)<|O3<|JE<|av 4)
def qe(V_:D)(gbJ:Re D)(gby:D):M D :=
 bd (bd (oM<|jv [(PyData.list gbJ)]) λl2=>.ret<|PyData.list l2) λx3=>.ret x3
def eU(V_:D)(gbJ:Re D)(gby:D)(YS:D×Re D×D×Unit->M D):M D :=
 bd (oM<|fM gby .none) λb5=>if b5 then
  bd (oM<|aD gby<|.int 1) λx6=>bd (oM<|sA gbJ [x6]) λl7=>bd (bd (oM<|aD gby<|.int 0) λx8=>oM<|aD V_ x8) λx9=>YS (V_,l7,x9,())
  else qe V_ gbJ gby
def oE(gbv gbF:D):M D :=
 bd (oM<|aD gbv gbF) λx1=>j7 (λUq kn=>eU Uq.1 Uq.2.1 Uq.2.2.1 kn) 10000 (gbv,[],x1,())
def ka:=vF oE
def CP(B:BN K mg):CF P w K mg base "row_to" 1 (pN K 2 ka) :=
 R3 ["ahead","goal","row","step"] B.X7 λhr nd =>
  (Js (LI (sh:=[.f,.f,.o,.z])<|Wk (i:=2) nd ?qw)
  <|Js (LI (sh:=[.f,.z,.o,.f])<|SD (i:=3) nd<|JE<|m_ hr (SS 0) ?j4)
  <|Js (AD (sh:=[.f,.z,.o,.f]) (fuel:=10000) PassesOwn.leaving (Ni<|Zm MH D5 ?qi<|G7 PI)
  <|Js (LI (sh:=[.f,.z,.o,.f])<|XL (i:=2) rfl ?jh (O0 (JE<|m_ hr ?qi ?P) KQ) rfl rfl rfl rfl rfl rfl)
  <|Yv<|SD (i:=3) nd<|JE<|m_ hr (SS 0)<|G7<|m_ hr ?qi ?P)
  <|Yv<|Dj (i:=2)<|O3<|JE<|Ol<|Ap rfl rfl B.i rfl B.i (Kb ?jF Mg) rfl rfl)
def qd(Si WX:D)(V_:Re ?M)(RZ:Re D)(TM:D):M D :=
 bd (bd (oM<|aD ?qc TM) λx1=>oE (PyData.dict V_) x1) λx2=>.ret x2
def yJ(kn3:D×D×Re ?M×Re D×D×Unit->M D)(Si WX:D)(V_:Re ?M)(RZ:Re D)(TM YY:D):M D :=
 bd (oM<|mw TM<|.int 1) λx9=>kn3 (Si,WX,V_,RZ,x9,())
def kH(kn3:D×D×Re ?M×Re D×D×Unit->M D)(Si WX:D)(V_:Re ?M)(RZ:Re D)(TM YY d_:D)(Ri:D×D×Re ?M×Re D×D×D×Unit->M D):M D :=
 bd (bd ?qk λSl=>oM<|bc Sl<|PyData.dict V_) λZc=>if Zc then
  bd ?qk λTp=>bd (oM<|ii true V_ Tp<|.tuple [YY,d_]) λWO=>bd ?qk λS7=>bd (oM<|sA RZ [S7]) λl16=>Ri (Si,WX,WO,l16,TM,YY,())
  else
  Ri (Si,WX,V_,RZ,TM,YY,())
def iL(Si WX:D)(V_:Re ?M)(RZ:Re D)(TM:D)(kn3:D×D×Re ?M×Re D×D×Unit->M D):M D :=
 bd (bd (oM<|aD ?qc TM) λx4=>oM<|bc x4 WX) λb5=>if b5 then
  bd (oM<|aD ?qc TM) λx6=>bd (bd (oM<|aD Si x6) λx7=>oM<|bZ x7) λl8=>cH (λSH ZJ kn=>kH kn3 SH.1 SH.2.1 SH.2.2.1 SH.2.2.2.1 SH.2.2.2.2.1 SH.2.2.2.2.2.1 ZJ kn) l8 (Si,WX,V_,RZ,TM,x6,()) λSH=>yJ kn3 SH.1 SH.2.1 SH.2.2.1 SH.2.2.2.1 SH.2.2.2.2.1 SH.2.2.2.2.2.1
  else qd Si WX V_ RZ TM
def oD(Yk Vj gbe:D):M D :=
 jo Vj<|j7 (λRw kn=>iL Rw.1 Rw.2.1 Rw.2.2.1 Rw.2.2.2.1 Rw.2.2.2.2.1 kn) 10000 (Yk,gbe,[(Vj,.none)],[Vj],(.int 0),())
def u6:=yW oD
def CO(B:BN K mg):CF P w K mg base "way_in" 2 (pN K 3 u6) :=
 R3 ["leads","crowd","goals","ahead","found","place","here","lead"] B.X6 λhr nd =>
  (Js (LI (sh:=[.f,.f,.f,.t,.z,.z,.z,.z])<|B7 (i:=3) ?O nd rfl ?jw (av 1) PI rfl<|.inl rfl)
  <|Js (LI (sh:=[.f,.z,.f,.t,.o,.z,.z,.z])<|Wk (i:=4) nd<|JC<|Oq ?Z)
  <|Js (LI (sh:=[.f,.z,.f,.t,.o,.f,.z,.z])<|SD (i:=5) nd<|JE My)
  <|Js (AD (sh:=[.f,.z,.f,.t,.o,.f,.z,.z]) (fuel:=10000) PassesOwn.leaving (Ni<|Zm (M3 ?O) M2 (G7<|m_ hr (Pb (i:=4))<|SS 5) ?jF)
  <|Js (LI (sh:=[.f,.z,.f,.t,.o,.f,.f,.z])<|SD (i:=6) nd<|JE<|m_ hr (Pb (i:=4))<|SS 5)
  <|Js (Az (sh:=[.f,.z,.f,.t,.o,.f,.f,.z]) PassesOwn.leaving rfl (Cg<|Bi<|m_ hr (SS 0)<|SS 6) (Jx (i:=7) ?U nd)
  <|Yv<|Iv (Ni<|Zm (M3 ?O) M2 (G7<|m_ hr (SS 7) ?P)<|Pb (i:=3))
  (Js (LI (sh:=[.f,.z,.f,.t,.o,.f,.f,.f])<|Kl ?O (i:=3) rfl ?jh (JE<|m_ hr (SS 7) ?P) (JE<|Je<|Mp (av 6)<|Mp (av 7) Oj) rfl)
  <|Yv<|XL (i:=4) rfl ?jh (O0 (JE<|m_ hr (SS 7) ?P) KQ) rfl rfl rfl rfl rfl rfl)
  Ku)
  <|Yv<|GI (i:=5) nd rfl ?jw PU OY (JE My)<|.inl rfl)
  <|Yv<|Dj (i:=3)<|O3<|JE<|AI (CP B) hr.m<|Mp ?qa<|Mp (m_ hr (Pb (i:=4))<|SS 5) Oj)
def fS(Yk:D):M D :=
 oM<|wM Yk
def xV:=yV fS
theorem pW(B:BN K mg):CF P w K mg base "backs_of" 1 (pN K 1 xV) :=
 R3 ["leads","backs","crowd","led","lead"] B.Wg λhr nd =>
  (DI (No (PR (i:=1) nd rfl ?jw O4)<|No (P2 PassesOwn.leaving rfl (Hv<|Er (i:=0) rfl ?jh) (PP (i:=2) nd rfl ?jw)<|Op<|A0 (yi (Nat.add_le_add_left (show 1<=1100 by decide) _) ?O) (Er (i:=1) rfl ?jh) (Er (i:=2) rfl ?jh) (ES Qh) rfl)
  <|No (P2 PassesOwn.leaving rfl (EM (Er (i:=0) rfl ?jh) rfl rfl) (EN rfl<|PQ (PP (i:=2) nd rfl ?jw)<|PQ (PP (i:=3) nd rfl ?jw) A6)<|Op<|P2 PassesOwn.leaving rfl (Hu<|Er (i:=3) rfl ?jh) (PP (i:=4) nd rfl ?jw)<|Op<|PM<|EV xx PySem.F.slot_list_append PySem.F.type_list_append QJ (A7 (Bv ?O) (Er (i:=1) rfl ?jh) (A7 XH (Er (i:=4) rfl ?jh) ET λ_ _=>rfl) λ_ _=>rfl)<|Qi (Er (i:=2) rfl ?jh) Qh)
  JF)<|Op<|PN<|Er (i:=1) rfl ?jh)
def uw(WW:D)(V9:Re ?M)(RZ:Re D)(TM:D):M D :=
 .ret<|PyData.dict V9
def lZ(kn3:D×Re ?M×Re D×D×Unit->M D)(WW:D)(V9:Re ?M)(RZ:Re D)(TM YY:D):M D :=
 bd (oM<|mw TM<|.int 1) λx9=>kn3 (WW,V9,RZ,x9,())
def ja(kn3:D×Re ?M×Re D×D×Unit->M D)(WW:D)(V9:Re ?M)(RZ:Re D)(TM YY d_:D)(Ri:D×Re ?M×Re D×D×D×Unit->M D):M D :=
 bd (oM<|bc d_<|PyData.dict V9) λYc=>if Yc then
  bd (bd (oM<|aD (PyData.dict V9) YY) λSK=>oM<|bE SK<|.int 1) λTp=>bd (oM<|ii true V9 d_ Tp) λWO=>bd (oM<|sA RZ [d_]) λl15=>Ri (WW,WO,l15,TM,YY,())
  else
  Ri (WW,V9,RZ,TM,YY,())
def dC(WW:D)(V9:Re ?M)(RZ:Re D)(TM:D)(kn3:D×Re ?M×Re D×D×Unit->M D):M D :=
 bd (bd (oM<|dm [?qc]) λx4=>oM<|eW TM x4) λb5=>if b5 then
  bd (oM<|aD ?qc TM) λx6=>bd (bd (oM<|aD WW x6) λx7=>oM<|bZ x7) λl8=>cH (λU3 d17 kn=>ja kn3 U3.1 U3.2.1 U3.2.2.1 U3.2.2.2.1 U3.2.2.2.2.1 d17 kn) l8 (WW,V9,RZ,TM,x6,()) λU3=>lZ kn3 U3.1 U3.2.1 U3.2.2.1 U3.2.2.2.1 U3.2.2.2.2.1
  else uw WW V9 RZ TM
def fY(WW WX:D)(V9:Re ?M):M D :=
 bd (oM<|lU [WX]) λl2=>j7 (λYG kn=>dC YG.1 YG.2.1 YG.2.2.1 YG.2.2.2.1 kn) 10000 (WW,V9,l2,(.int 0),())
def jc(WW WX:D)(V9:Re ?M)(d_:D)(zaV:D×D×Re ?M×Unit->M D):M D :=
 bd (oM<|ii true V9 d_<|.int 0) λl20=>zaV (WW,WX,l20,())
def eJ(gbA gbe:D):M D :=
 bd (oM<|bZ gbe) λl1=>cH (λSq d22 kn=>jc Sq.1 Sq.2.1 Sq.2.2.1 d22 kn) l1 (gbA,gbe,[],()) λSq=>fY Sq.1 Sq.2.1 Sq.2.2.1
def xU:=vF eJ
theorem ko(B:BN K mg):CF P w K mg base "far_from" 1 (pN K 2 xU) :=
 R3 ["backs","goals","far","goal","found","place","here","crowd"] B.We λhr nd =>
  (Js (LI (sh:=[.f,.f,.t,.z,.z,.z,.z,.z])<|Jn true (i:=2) nd rfl ?jw rfl<|.inl rfl)
  <|Js (Az (sh:=[.f,.f,.t,.z,.z,.z,.z,.z]) PassesOwn.leaving rfl (Cg<|Bi<|av 1) (Jx (i:=3) ?U nd)
  <|Yv<|Kl ?O (i:=2) rfl ?jh (JE ?qa) (JE My) rfl)
  <|Js (LI (sh:=[.f,.z,.t,.z,.o,.z,.z,.z])<|Wk (i:=4) nd<|JC<|Mr QG Zn B.i ?G<|Kb ?j4 Mg)
  <|Js (LI (sh:=[.f,.z,.t,.z,.o,.f,.z,.z])<|SD (i:=5) nd<|JE My)
  <|Js (AD (sh:=[.f,.z,.t,.z,.o,.f,.z,.z]) (fuel:=10000) PassesOwn.leaving (Ni<|Zm (MX ?O) OF (SS 5)<|G7<|CE J7 Pr B.i gh<|Kb (Pb (i:=4)) Mg)
  <|Js (LI (sh:=[.f,.z,.t,.z,.o,.f,.f,.z])<|SD (i:=6) nd<|JE<|m_ hr (Pb (i:=4))<|SS 5)
  <|Js (Az (sh:=[.f,.z,.t,.z,.o,.f,.f,.z]) PassesOwn.leaving rfl (Cg<|Bi<|m_ hr (SS 0)<|SS 6) (Jx (i:=7) ?U nd)
  <|Yv<|Iv (Ni<|Zm (M3 ?O) M2 (SS 7)<|Pb (i:=2))
  (Js (LI (sh:=[.f,.z,.t,.z,.o,.f,.f,.f])<|Kl ?O (i:=2) rfl ?jh (JE<|av 7) (JE<|NQ Jm Kc (G7<|m_ hr (Pb (i:=2))<|SS 6) ?P) rfl)
  <|Yv<|XL (i:=4) rfl ?jh (O0 (JE<|av 7) KQ) rfl rfl rfl rfl rfl rfl)
  Ku)
  <|Yv<|GI (i:=5) nd rfl ?jw PU OY (JE My)<|.inl rfl)
  <|Yv<|Dj (i:=2)<|O3<|JE<|av 2)
abbrev R5:Re Str:=["rule","leads","truth","word","crowd"]
theorem pg:R5.Nodup:=by decide +kernel
def gk(TH Yk gbh:D):M D :=
 bd (bd (oM<|iX gbh) λb1=>if b1 then .ret (.str "yes")else .ret (.str "no")) λx2=>bd (bd (bd (oM<|vJ Yk) λl6=>bd (aW (λd3=>bd (bd (pK TH d3) λx4=>oM<|cI x4 x2) λb5=>if b5 then .ret (some d3)else .ret none) l6) cp) λl7=>.ret ?qC) λx8=>.ret x8
def v6:=yW gk
theorem nH(B:BN K mg):CF P w K mg base "astray_in" 2 (pN K 3 v6) :=
 R3 ["rule","leads","truth","word"] B.Vn λhr nd =>
  (Js (LI (sh:=[.f,.f,.z,.f])<|SD (i:=3) nd<|JE<|B8 (OI ?jF ?T) J8 J8)
  <|Yv<|O3<|JE<|Ol<|VL (N':=R5) (k:=1) rfl ?H (Pv<|av 1) (λ_ _ _ _ _=>(Jx (i:=4) (show 4<=4 by decide) pg)) (λ_ _ _ _ _=>(JS<|Zm ?qX D5 (G7<|AI (HI B) hr.m<|Mp ?qj<|Mp (av 4) Oj) ?qi)) λ_ _ _ _ _=>(av 4))
abbrev RJ:Re Str:=["rule","leads","truth","backs","unsettled","hopeful","crowd"]
theorem kq:RJ.Nodup:=by decide +kernel
def lD(TH Yk gbh:D):M D :=
 bd (fS Yk) λx1=>bd (bd (gk TH Yk gbh) λx2=>eJ x1 x2) λx3=>bd (bd (bd (bd (oM<|vJ Yk) λl6=>bd (aW (λd4=>bd (oM<|bc d4 x3) λb5=>if b5 then .ret (some d4)else .ret none) l6) cp) λl7=>.ret ?qC) λx8=>eJ x1 x8) λx9=>bd (bd (bd (oM<|vJ Yk) λU_=>bd (aW (λUh=>bd (oM<|bc Uh x9) λYc=>if Yc then .ret (some Uh)else .ret none) U_) cp) λXB=>.ret<|PyData.list XB) λTo=>.ret To
def zn:=yW lD
theorem zk(B:BN K mg):CF P w K mg base "lost_in" 3 (pN K 3 zn) :=
 R3 ["rule","leads","truth","backs","unsettled","hopeful"] B.W3 λhr nd =>
  (Js (LI (sh:=[.f,.f,.f,.f,.z,.z])<|SD (i:=3) nd<|JE<|AI (pW B) hr.m ?Z)
  <|Js (LI (sh:=[.z,.f,.z,.f,.f,.z])<|SD (i:=4) nd<|JE<|AI (ko B) hr.m<|Mp ?qa<|Mp (AI (nH B) hr.m<|Mp ?qj<|Mp (av 1) ?qn) Oj)
  <|Js (LI (sh:=[.z,.f,.z,.z,.z,.f])<|SD (i:=5) nd<|JE<|AI (ko B) hr.m<|Mp ?qa<|Mp (Ol<|VL (N':=RJ) (k:=1) rfl ?H (Pv<|av 1) (λ_ _ _ _ _=>(Jx (i:=6) (show 6<=6 by decide) kq)) (λ_ _ _ _ _=>(JS<|Zm (M3 ?O) M2 (SS 6) ?qo)) λ_ _ _ _ _=>(av 6)) Oj)
  <|Yv<|O3<|JE<|Ol<|VL (N':=RJ) (k:=1) rfl ?H (Pv<|av 1) (λ_ _ _ _ _=>(Jx (i:=6) (show 6<=6 by decide) kq)) (λ_ _ _ _ _=>(JS<|Zm (M3 ?O) M2 (SS 6)<|SS 5)) λ_ _ _ _ _=>(av 6))
abbrev Tz:Re Str:=["rule","question","counts","limit","crowd","leads","truth","lost","numbers","far","ranks","lead"]
theorem tW:Tz.Nodup:=by decide +kernel
abbrev Tx:Re Str:=["rule","question","counts","limit","crowd","leads","truth","lost","numbers","far","ranks","here"]
theorem tV:Tx.Nodup:=by decide +kernel
def ju(TH UB:D)(Vk ga3:D):M D :=
 bd (qT TH Vk) λx1=>bd (dQ TH x1 ga3) λx2=>bd (oH 8 UB Vk) λx3=>bd (lD TH x2 x3) λx4=>bd (bd (oM<|dm [x4]) λx5=>oM<|bp x5<|.int 0) λb6=>if b6 then
  .ret .none
  else
  bd (bd (bd (bd (bd (bd (kA<|oM<|aD x4<|.int 0) λx7=>jo x7<|.ret<|.dict [(x7,(.bool true))]) λx8=>oD x2 x1 x8) λx9=>oM<|bZ x9) λU_=>bd (aW (λUh=>bd (oM<|aD Uh<|.int 0) λSl=>.ret<|some Sl) U_) cp) λXB=>.ret<|PyData.list XB) λTo=>bd (bd (fS x2) λS7=>bd (gk TH x2 x3) λVQ=>eJ S7 VQ) λT5=>bd (bd (bd (bd (bd (oM<|jK yF [x4]) λV4=>.ret<|PyData.list V4) λSY=>oM<|bZ SY) λl23=>bd (aW (λW5=>bd (bd (oM<|aD T5 W5) λU0=>.ret<|.tuple [W5,U0]) λTQ=>.ret<|some TQ) l23) cp) λl24=>.ret<|PyData.list l24) λUj=>bd (bd (oM<|dJ [To]) λx26=>bd (oM<|dJ [Uj]) λYt=>.ret<|.tuple [Vk,x26,Yt]) λVN=>.ret VN
def uT:=pF ju
def CT(B:BN K mg):CF P w K mg base "err_at" 11 (pN K 4 uT)/\CFd P w K mg base "err_at" 11 (pN K 4 uT) 1000 :=
 N6 ["rule","question","counts","limit","crowd","leads","truth","lost","numbers","far","ranks"] B.X_ λhr nd =>
  (Js (LI (sh:=[.f,.f,.f,.f,.f,.z,.z,.z,.z,.z,.z])<|SD (i:=4) nd<|JE<|AI (E8 B) hr.m<|Mp ?qj ?qn)
  <|Js (LI (sh:=[.f,.f,.f,.z,.f,.f,.z,.z,.z,.z,.z])<|SD (i:=5) nd<|JE<|AI (tR B) hr.m<|Mp ?qj<|Mp (av 4)<|Mp ?qa Oj)
  <|Js (LI (sh:=[.f,.z,.f,.z,.f,.f,.f,.z,.z,.z,.z])<|SD (i:=6) nd<|JE<|AI (E7 B 8) hr.m<|Mp (av 1) ?qn)
  <|Js (LI (sh:=[.f,.z,.f,.z,.f,.f,.f,.f,.z,.z,.z])<|SD (i:=7) nd<|JE<|AI (zk B) hr.m<|Mp ?qj<|Mp (av 5)<|Mp (av 6) Oj)
  <|Js (Iv (Ni<|Zm ?jR D5 (G7<|CE J7 Pr B.i gh<|Kb (SS 7) Mg) ?P)
  (Yv<|O3<|JE PI)
  Ku)
  <|Js (LI (sh:=[.f,.z,.f,.z,.z,.f,.f,.f,.f,.z,.z])<|OA (i:=8) nd rfl ?jw (.inl rfl) (N':=Tz) (k:=1) rfl ?H (Bi<|AI (CO B) hr.m<|Mp (av 5)<|Mp (av 4)<|Mp (IS ?O (m_ hr (SS 7) ?P) Oh) Oj) (λ_ _ _ _ _=>(Jx (i:=11) (show 11<=11 by decide) tW)) ?jk (λ_ _ _ _ _=>(m_ hr (SS 11) ?P)) rfl ?T)
  <|Js (LI (sh:=[.z,.z,.f,.z,.z,.z,.z,.f,.f,.f,.z])<|SD (i:=9) nd<|JE<|AI (ko B) hr.m<|Mp (AI (pW B) hr.m<|Mp (av 5) Oj)<|Mp (AI (nH B) hr.m<|Mp ?qj<|Mp (av 5)<|Mp (av 6) Oj) Oj)
  <|Js (LI (sh:=[.z,.z,.f,.z,.z,.z,.z,.z,.f,.z,.f])<|OA (i:=10) nd rfl ?jw (.inl rfl) (N':=Tx) (k:=1) rfl ?H (Bi<|Ol<|CR (jM (g:=yF) ?O) nF B.i ?G<|Kb (SS 7) Mg) (λ_ _ _ _ _=>(Jx (i:=11) (show 11<=11 by decide) tV)) ?jk (λ_ _ _ _ _=>(Je<|Mp (av 11)<|Mp (m_ hr (SS 9)<|SS 11) Oj)) rfl ?T)
  <|Yv<|O3<|JE<|Je<|Mp (av 2)<|Mp (G6 QH GS B.i ?G<|Kb (SS 8) Mg)<|Mp (G6 QH GS B.i ?G<|Kb (SS 10) Mg) Oj)
abbrev RK:Re Str:=["sorts","hands","told","many","others"]
theorem nM:RK.Nodup:=by decide +kernel
def qz(self:D->D->M D)(gbB gbC:D)(Zx:Re D):M D :=
 .ret<|PyData.list Zx
def jY(self:D->D->M D)(gbB gbC:D)(Zx:Re D)(d_:D)(YS:D×D×Re D×Unit->M D):M D :=
 bd (bd (bd (bd (oM<|gJ gbB<|.int 1) λx5=>bd (oM<|gJ gbC d_) λx6=>self x5 x6) λx7=>oM<|bZ x7) λl10=>bd (aW (λd8=>bd (oM<|bE (.tuple [d_]) d8) λx9=>.ret<|some x9) l10) cp) λT9=>bd (oM<|sw Zx T9) λU_=>YS (gbB,gbC,U_,())
def kU(self:D->D->M D)(ZF gbs:D):M D :=
 bd (oM<|bp ZF<|.int 1) λb1=>if b1 then
  .ret (PyData.list [(.tuple [gbs])])
  else
  bd (bd (oM<|bE gbs<|.int 1) λx2=>oM<|bO [x2]) λl3=>cH (λRr Vv kn=>jY self Rr.1 Rr.2.1 Rr.2.2.1 Vv kn) l3 (ZF,gbs,[],()) λRr=>qz self Rr.1 Rr.2.1 Rr.2.2.1
def e9:Nat->D->D->M D
 | 0=>λ_ _=>.bad
 | i+1=>kU<|e9 i
def tZ(i:Nat):Re D->M D:=λl=>match l with
 | [ZF,gbs]=>e9 i ZF gbs
 | _=>.bad
theorem tS(B:BN K mg):∀i:Nat,CF P w K mg base "beginnings" (1+i)<|pN K 2<|tZ i :=
 II ["sorts","hands","told","many"] B.UH λRS=>λhr nd =>
  (Js (Iv (Ni<|Zm ?jR D5 (SS 0) ?P)
  (Yv<|O3<|JE<|Ol<|Oq<|Mp (Je ?Z) Oj)
  Ku)
  <|Js (LI (sh:=[.f,.f,.o,.z])<|Wk (i:=2) nd ?qw)
  <|Js (Az (sh:=[.f,.f,.o,.z]) PassesOwn.leaving rfl (Cg<|Bg rfl B.i (Mp (NQ Jm Kc ?j4 ?P) Oj) rfl) (Jx (i:=3) ?U nd)
  <|Yv<|MY (i:=2) rfl ?jh (JC<|VL (N':=RK) (k:=1) rfl ?H (Bi<|AI RS ?jv<|Mp (NQ P3 AN (SS 0) ?P)<|Mp (NQ P3 AN ?j4 ?qi) Oj) (λ_ _ _ _ _=>(Jx (i:=4) (show 4<=4 by decide) nM)) ?jk λ_ _ _ _ _=>(NQ Jm Kc (G7<|Je<|Mp ?qa Oj) ?qo)) rfl rfl rfl rfl rfl rfl)
  <|Yv<|Dj (i:=2)<|O3<|JE<|av 2)
def kR(UW X4 Vl:D):M D :=
 .ret .none
def kQ(kn3:D×D×D×Unit->M D)(UW X4 Vl:D):M D :=
 kn3 (UW,X4,Vl,())
def iM(kn3:D×D×D×Unit->M D)(UW X4:D)(Vl d_:D)(kn8:D×D×D×Unit->M D):M D :=
 bd (ju UW X4 d_ Vl) λx9=>bd (oM<|fM x9 .none) λYd=>if Yd then
  .ret x9
  else
  kn8 (UW,X4,Vl,())
def gj(UW X4:D)(Vl d_:D)(kn3:D×D×D×Unit->M D):M D :=
 bd (bd (bd (bd (oM<|aD UW<|.int 1) λx4=>oM<|dm [x4]) λx5=>e9 8 x5 d_) λx6=>oM<|bZ x6) λl7=>cH (λTs d12 kn=>iM kn3 Ts.1 Ts.2.1 Ts.2.2.1 d12 kn) l7 (UW,X4,Vl,()) λTs=>kQ kn3 Ts.1 Ts.2.1 Ts.2.2.1
def oI(TH UB:D)(gbt ga3:D):M D :=
 bd (bd (oM<|bE gbt<|.int 1) λx1=>oM<|jL [(.int 1),x1]) λl2=>cH (λRr Vv kn=>gj Rr.1 Rr.2.1 Rr.2.2.1 Vv kn) l2 (TH,UB,ga3,()) λRr=>kR Rr.1 Rr.2.1 Rr.2.2.1
def uS:=pF oI
def CS(B:BN K mg):CF P w K mg base "err_of" 12 (pN K 4 uS)/\CFd P w K mg base "err_of" 12 (pN K 4 uS) 1000 :=
 N6 ["rule","question","most","limit","hands","counts","paper"] B.X9 λhr nd =>
  (Js (Az (sh:=[.f,.f,.z,.f,.z,.z,.z]) PassesOwn.leaving rfl (Cg<|E4 rfl B.i (Mp My<|Mp (NQ Jm Kc ?jF ?P) Oj) rfl rfl) (Jx (i:=4) ?U nd)
  <|Yv<|Az (sh:=[.f,.f,.z,.f,.z,.z,.z]) PassesOwn.leaving rfl (Cg<|Bi<|AI (tS B 8) hr.m<|Mp (CE J7 Pr B.i gh<|Kb (G7 ?I) Mg)<|Mp (av 4) Oj) (Jx (i:=5) ?U nd)
  <|Js (LI (sh:=[.f,.f,.z,.f,.z,.z,.f])<|SD (i:=6) nd<|JE<|AI (CT B).1 hr.m<|Mp ?qj<|Mp (av 1)<|Mp (av 5)<|Mp ?qa Oj)
  <|Yv<|Iv (Ni<|Zm MH D5 (SS 6)<|G7 PI)
  (Yv<|O3<|JE<|av 6)
  Ku)
  <|Yv<|O3<|JE PI)
abbrev R4:Re Str:=["things","many","rows","place","longer","row","thing"]
theorem pc:R4.Nodup:=by decide +kernel
def kM(ga8 gbG:D):M D :=
 .ret gbG
def kL(RY:D×D×Unit->M D)(ga8:D)(ga9:Re D):M D :=
 RY (ga8,(PyData.list ga9),())
def kI(RY:D×D×Unit->M D)(ga8:D)(ga9:Re D)(d_:D)(YS:D×Re D×Unit->M D):M D :=
 bd (bd (oM<|bZ ga8) λl7=>bd (aW (λd5=>bd (oM<|bE d_<|.tuple [d5]) λx6=>.ret<|some x6) l7) cp) λl8=>bd (oM<|sw ga9 l8) λl9=>YS (ga8,l9,())
def kJ(ga8 gbG d_:D)(RY:D×D×Unit->M D):M D :=
 bd (oM<|bZ gbG) λl3=>cH (λUq d11 kn=>kI RY Uq.1 Uq.2.1 d11 kn) l3 (ga8,[],()) λUq=>kL RY Uq.1 Uq.2.1
def eS(gbw gbH:D):M D :=
 bd (oM<|bO [gbH]) λl1=>cH (λVW d13 kn=>kJ VW.1 VW.2.1 d13 kn) l1 (gbw,(PyData.list [(.tuple [])]),()) λVW=>kM VW.1 VW.2.1
def v4:=vF eS
theorem jB(B:BN K mg):CF P w K mg base "rows_over" 1 (pN K 2 v4) :=
 R3 ["things","many","rows","place","longer","row"] B.Vm λhr nd =>
  (Js (LI (sh:=[.f,.f,.f,.z,.z,.z])<|SD (i:=2) nd<|JE<|Ol<|Oq<|Mp (Je Oj) Oj)
  <|Js (Az (sh:=[.f,.z,.f,.z,.z,.z]) PassesOwn.leaving rfl (Cg<|Bg rfl B.i ?Z rfl) (Jx (i:=3) ?U nd)
  <|Js (LI (sh:=[.f,.z,.f,.z,.o,.z])<|Wk (i:=4) nd ?qw)
  <|Js (Az (sh:=[.f,.z,.z,.z,.o,.z]) PassesOwn.leaving rfl (Cg<|Bi<|av 2) (Jx (i:=5) ?U nd)
  <|Yv<|MY (i:=4) rfl ?jh (JC<|VL (N':=R4) (k:=1) rfl ?H (Bi ?qj) (λ_ _ _ _ _=>(Jx (i:=6) (show 6<=6 by decide) pc)) ?jk λ_ _ _ _ _=>(NQ Jm Kc (SS 5)<|G7<|Je<|Mp (av 6) Oj)) rfl rfl rfl rfl rfl rfl)
  <|Yv<|Dj (i:=4)<|SD (i:=2) nd<|JE<|av 4)
  <|Yv<|O3<|JE<|av 2)
abbrev RI:Re Str:=["rooms","told","pairs","pair ","longer","meets","pair"]
theorem nL:RI.Nodup:=by decide +kernel
abbrev RH:Re Str:=["rooms","told","pairs","pair","longer","meets","turned"]
theorem nK:RH.Nodup:=by decide +kernel
def qx(Zx Sj:D):M D :=
 .ret Zx
def qw(Va:D×D×Unit->M D)(Sj gbD:D)(ga9:Re D):M D :=
 Va ((PyData.list ga9),Sj,())
def qv(Va:D×D×Unit->M D)(Sj gbD:D)(ga9:Re D)(d_:D)(Ux:D×D×Re D×Unit->M D):M D :=
 bd (bd (oM (bZ Sj)) λYO=>bd (aW (λd16=>bd (oM (cI d16 gbD)) λb20=>if b20 then bd (bd (bd (oM (bE gbD d16)) λT5=>.ret (.tuple [T5])) λWI=>oM (bE d_ WI)) λSY=>.ret (some SY)else .ret none) YO) cp) λl22=>bd (oM (sw ga9 l22)) λl23=>Ux (Sj,gbD,l23,())
def dq(Zx Sj d_:D)(Va:D×D×Unit->M D):M D :=
 bd (oM<|lU [Zx]) λXB=>bd (oM<|bZ Zx) λWO=>cH (λVU d25 kn=>qv Va VU.1 VU.2.1 VU.2.2.1 d25 kn) WO (Sj,d_,XB,()) λVU=>qw Va VU.1 VU.2.1 VU.2.2.1
def dP(ga1:D):M D :=
 bd (bd (bd (bd (bd (bd (oM<|qQ [ga1]) λl1=>.ret<|PyData.list l1) λx2=>eS x2<|.int 2) λx3=>oM<|bZ x3) λl8=>bd (aW (λd4=>bd (bd (oM<|aD d4<|.int 0) λx5=>bd (oM<|aD d4<|.int 1) λx6=>oM<|dY x5 x6) λb7=>if b7 then .ret (some d4)else .ret none) l8) cp) λl9=>.ret<|PyData.list l9) λR9=>bd (oM<|bZ R9) λT9=>cH (λS9 d27 kn=>dq S9.1 S9.2.1 d27 kn) T9 ((PyData.list [(.tuple [])]),R9,()) λS9=>qx S9.1 S9.2.1
def tX:=yV dP
theorem tQ(B:BN K mg):CF P w K mg base "meets_over" 2 (pN K 1 tX) :=
 R3 ["rooms","told","pairs","pair","longer","meets"] B.UE λhr nd =>
  (Js (LI (sh:=[.f,.f,.z,.z,.z,.z])<|SD (i:=1) nd<|JE<|Ol<|Oq<|Mp (Je Oj) Oj)
  <|Js (LI (sh:=[.z,.f,.f,.z,.z,.z])<|OA (i:=2) nd rfl ?jw (.inl rfl) (N':=RI) (k:=1) rfl ?H (Bi<|AI (jB B) hr.m<|Mp (Ol<|Pj hr.hd rfl B.i rfl B.i (Mp ?qj Oj) rfl rfl) ?qb) (λ_ _ _ _ _=>(Jx (i:=6) (show 6<=6 by decide) nL)) (λ_ _ _ _ _=>(JS<|Zm Nn Nr (G7<|m_ hr (SS 6) ?P)<|G7<|m_ hr (SS 6) ?P)) (λ_ _ _ _ _=>(av 6)) rfl ?T)
  <|Js (Az (sh:=[.z,.f,.f,.z,.z,.z]) PassesOwn.leaving rfl (Cg<|Bi<|av 2) (Jx (i:=3) ?U nd)
  <|Js (LI (sh:=[.z,.f,.f,.f,.o,.z])<|Wk (i:=4) nd<|JC<|Mr QG Zn B.i ?G<|Kb ?j4 Mg)
  <|Js (Az (sh:=[.z,.z,.f,.f,.o,.z]) PassesOwn.leaving rfl (Cg<|Bi<|av 1) (Jx (i:=5) ?U nd)
  <|Yv<|MY (i:=4) rfl ?jh (JC<|VL (N':=RH) (k:=1) rfl ?H (Bi<|av 2) (λ_ _ _ _ _=>(Jx (i:=6) (show 6<=6 by decide) nK)) (λ_ _ _ _ _=>(JS<|Zm ?qX D5 (SS 6) ?qi)) λ_ _ _ _ _=>(NQ Jm Kc (SS 5)<|G7<|Je<|Mp (NQ Jm Kc ?qi<|SS 6) Oj)) rfl rfl rfl rfl rfl rfl)
  <|Yv<|Dj (i:=4)<|SD (i:=1) nd<|JE<|av 4)
  <|Yv<|O3<|JE<|av 1)
def cR(TN:D)(X5:Re D):M D :=
 bd (bd (oM<|jK gX [(PyData.list X5)]) λl5=>.ret<|PyData.list l5) λx6=>.ret x6
def uq(Uw:D×Re D×Unit->M D)(TN:D)(X5:Re D)(gba:D):M D :=
 Uw (TN,X5,())
def uj(Uw:D×Re D×Unit->M D)(Ri:D×Re D×D×Unit->M D)(TN:D)(X5:Re D)(gba WY:D):M D :=
 Ri (TN,X5,gba,())
def ui(Uw:D×Re D×Unit->M D)(Ri:D×Re D×D×Unit->M D)(TN:D)(X5:Re D)(gba WY d_:D)(zaY:D×Re D×D×D×Unit->M D):M D :=
 bd (oM<|sA X5 [(.tuple [TN,gba,WY,d_])]) λWO=>zaY (TN,WO,gba,WY,())
def d7(Uw:D×Re D×Unit->M D)(TN:D)(X5:Re D)(gba d_:D)(Ri:D×Re D×D×Unit->M D):M D :=
 bd (bd (eS (PyData.list [(.bool false),(.bool true)]) TN) λSl=>oM<|bZ Sl) λU_=>cH (λU4 d16 kn=>ui Uw Ri U4.1 U4.2.1 U4.2.2.1 U4.2.2.2.1 d16 kn) U_ (TN,X5,gba,d_,()) λU4=>uj Uw Ri U4.1 U4.2.1 U4.2.2.1 U4.2.2.2.1
def eC(TN:D)(X5:Re D)(d_:D)(Uw:D×Re D×Unit->M D):M D :=
 bd (bd (dP TN) λx8=>oM<|bZ x8) λl9=>cH (λSH ZJ kn=>d7 Uw SH.1 SH.2.1 SH.2.2.1 ZJ kn) l9 (TN,X5,d_,()) λSH=>uq Uw SH.1 SH.2.1 SH.2.2.1
def cq(ZF ga1:D):M D :=
 bd (bd (bd (bd (oM<|qQ [ga1]) λl1=>.ret<|PyData.list l1) λx2=>eS x2 ZF) λx3=>oM<|bZ x3) λl4=>cH (λRw W5 kn=>eC Rw.1 Rw.2.1 W5 kn) l4 (ga1,[],()) λRw=>cR Rw.1 Rw.2.1
def xQ:=vF cq
theorem xG(B:BN K mg):CF P w K mg base "rules_of" 3 (pN K 2 xQ) :=
 R3 ["sorts","rooms","rules","starts","meets","says"] B.Wa λhr nd =>
  (Js (LI (sh:=[.f,.f,.o,.z,.z,.z])<|Wk (i:=2) nd ?qw)
  <|Js (Az (sh:=[.z,.f,.o,.z,.z,.z]) PassesOwn.leaving rfl (Cg<|Bi<|AI (jB B) hr.m<|Mp (Ol<|Pj hr.hd rfl B.i rfl B.i ?Z rfl rfl)<|Mp ?qj Oj) (Jx (i:=3) ?U nd)
  <|Yv<|Az (sh:=[.z,.f,.o,.f,.z,.z]) PassesOwn.leaving rfl (Cg<|Bi<|AI (tQ B) hr.m ?Z) (Jx (i:=4) ?U nd)
  <|Yv<|Az (sh:=[.z,.f,.o,.f,.f,.z]) PassesOwn.leaving rfl (Cg<|Bi<|AI (jB B) hr.m<|Mp (Ol<|Oq<|Mp Oh<|Mp Oh Oj) ?Z) (Jx (i:=5) ?U nd)
  <|Yv<|XL (i:=2) rfl ?jh (O0 (JE<|Je<|Mp (av 1)<|Mp ?qa<|Mp (av 4)<|Mp (av 5) Oj) KQ) rfl rfl rfl rfl rfl rfl)
  <|Yv<|O3<|JE<|Ol<|CR (jM (g:=gX) ?O) nF B.i ?G<|Kb (Pb (i:=2)) Mg)
def oF(X4 gbI:D)(gbx:Re D):M D :=
 bd (bd (oM<|dJ [(PyData.list gbx)]) λx3=>.ret<|.tuple [(.str "none"),x3]) λx4=>.ret x4
def jO(X4 gbI:D)(gbx:Re D)(d_:D)(kn5:D×D×Re D×Unit->M D):M D :=
 bd (oI d_ X4 gbI<|.int 1000) λx6=>bd (oM<|xE x6 .none) λb7=>if b7 then
  .ret (.tuple [(.str "rule"),d_])
  else
  bd (oM<|sA gbx [x6]) λl8=>kn5 (X4,gbI,l8,())
def js(UB ZF:D)(ga1 gbt:D):M D :=
 bd (bd (cq ZF ga1) λx1=>oM<|bZ x1) λl2=>cH (λs9 Uh kn=>jO s9.1 s9.2.1 s9.2.2.1 Uh kn) l2 (UB,gbt,[],()) λs9=>oF s9.1 s9.2.1 s9.2.2.1
def zm:=pF js
theorem zj(B:BN K mg):CF P w K mg base "none_of" 13 (pN K 4 zm) :=
 R3 ["question","sorts","rooms","most","papers","rule","paper"] B.WZ λhr nd =>
  (Js (LI (sh:=[.f,.f,.f,.f,.o,.z,.z])<|Wk (i:=4) nd ?qw)
  <|Js (Az (sh:=[.f,.z,.z,.f,.o,.z,.z]) PassesOwn.leaving rfl (Cg<|Bi<|AI (xG B) hr.m<|Mp (av 1) ?qn) (Jx (i:=5) ?U nd)
  <|Js (LI (sh:=[.f,.z,.z,.f,.o,.f,.f])<|SD (i:=6) nd<|JE<|Ma (CS B).2 hr.m<|Mp (av 5)<|Mp ?qj<|Mp ?qa Oj)
  <|Js (Iv (Ni<|Zm HD D5 (SS 6)<|G7 PI)
  (Yv<|O3<|JE<|Je<|Mp J8<|Mp (av 5) Oj)
  Ku)
  <|Yv<|XL (i:=4) rfl ?jh (O0 (JE<|av 6) KQ) rfl rfl rfl rfl rfl rfl)
  <|Yv<|O3<|JE<|Je<|Mp J8<|Mp (G6 QH GS B.i ?G<|Kb (Pb (i:=4)) Mg) Oj)
def fi(gbn:D):M ?R :=
 bd (bd (bd (oM<|oz [(.int 0),gbn]) λTo=>bd (bd (bd (bd (oM<|bR (.int 10)<|.int 18) λSl=>oM<|vW gbn Sl) λZc=>.ret<|.bool Zc) λTp=>oM<|qr [Tp]) λS7=>oM<|fN To S7) λVQ=>.ret [gbn,VQ,(.int 0)]) λWN=>.ret WN
def iP(YZ gbm:D):M ?R :=
 bd (oM<|fN (.int 31) gbm) λx1=>bd (bd (oM<|dm [YZ]) λx2=>oM<|eX x2<|.int 0) λb3=>if b3 then
  bd (bd (bd (bd (oM<|dm [YZ]) λx4=>oM<|iF gbm x4) λx5=>oM<|aD YZ x5) λx8=>bd (bd (bd (oM<|dm [YZ]) λx6=>oM<|lL gbm x6) λx7=>oM<|fN (.int 7919) x7) λx9=>oM<|bE x8 x9) λR9=>fi R9
  else
  fi x1
def v9:Re D->M ?R:=λl=>match l with
 | [YZ,gbm]=>iP YZ gbm
 | _=>.bad
theorem vZ(B:BN K mg):CF P w K mg base "_law_feed" 1 (spL K 2 v9) :=
 cfL ["_law_script","_law_at","_law_cell"] B.Vq λhr nd =>
  (Js (LI (sh:=[.f,.f,.f])<|SD (i:=2) nd<|JE<|NQ P4 D6 ?P ?j4)
  <|Js (LI (sh:=[.z,.z,.f])<|Iv (Ni<|Zm P8 Hk (G7<|CE J7 Pr B.i gh<|Kb (SS 0) Mg) ?P)
  (Yv<|SD (i:=2) nd<|JE<|NQ Jm Kc (G7<|m_ hr (SS 0)<|G7<|NQ P6 Mi ?j4<|G7<|CE J7 Pr B.i gh<|Kb (SS 0) Mg)<|G7<|NQ P4 D6 ?P<|G7<|NQ P5 ON ?j4<|G7<|CE J7 Pr B.i gh<|Kb (SS 0) Mg)
  Ku)
  <|Yv<|IP<|JC<|Oq<|Mp (av 2)<|Mp (NQ P4 D6 (G7<|CE (DD rfl) HM B.i ?G<|Kb ?P<|Kb ?jF Mg)<|G7<|G6 Qg OZ B.i ?G<|Kb (G7<|VC<|Pq P9 OO ?jF<|G7<|NQ KW K5 ?P ?P) Mg) ?qb)
def aF(Zz:Re D)(gaP:D):M ?jK :=
 bd (oM<|aD (PyData.list Zz)<|.int 2) λx1=>bd (oM<|bE x1<|.int 1) λx2=>bd (oM<|putD Zz (.int 2) x2) λl3=>bd (oM<|aD (PyData.list l3)<|.int 1) λx4=>bd (oM<|eX x4<|.int 0) λb5=>if b5 then
  bd (oM<|lL x4 gaP) λx6=>bd (oM<|putD l3 (.int 1) x6) λl7=>bd (oM<|iF x4 gaP) λx8=>.ret (x8,l7)
  else
  bd (bd (bd (bd (oM<|aD (PyData.list l3)<|.int 0) λx9=>oM<|iF x9<|.int 2147483647) λSl=>bd (bd (oM<|fN (.int 31) x1) λR9=>oM<|fN R9 x1) λSK=>oM<|bE Sl SK) λTp=>oM<|bE Tp<|.int 1) λTo=>bd (bd (bd (bd (oM<|fN (.int 40) x1) λS7=>oM<|bE (.int 48271) S7) λVQ=>oM<|fN To VQ) λT5=>oM<|iF T5<|.int 2147483629) λWI=>bd (bd (bd (bd (bd (bd (oM<|lL WI<|.int 11) λSY=>oM<|fN SY<|.int 69621) λVP=>oM<|bE VP x1) λU0=>oM<|iF U0<|.int 998244353) λTQ=>oM<|lL TQ<|.int 7) λUZ=>oM<|iF UZ gaP) λXm=>.ret (Xm,l3)
def we:Re D->Re D->M ?jK:=λZz l=>match l with
 | [gaP]=>aF Zz gaP
 | _=>.bad
theorem bU(B:BN K mg):CF P w K mg base "_law_draw" 1 (nG K 2 we) :=
 cf1 ["_law_feed_here","_law_many","_law_turn","_law_left","_law_here","_law_mixed"] B.Vs λhr nd =>
  (Js (LI (sh:=[.p,.f,.f,.z,.z,.z])<|SD (i:=2) nd<|JE<|m_ hr (Pb (i:=0)) ?P)
  <|Js (LI (sh:=[.p,.f,.f,.z,.z,.z])<|Pg (i:=0) rfl ?jh (JE My) (JE<|NQ Jm Kc ?jF ?P) ?T rfl rfl rfl)
  <|Js (LI (sh:=[.p,.f,.f,.f,.z,.z])<|SD (i:=3) nd<|JE<|m_ hr (Pb (i:=0)) ?P)
  <|Js (Iv (Ni<|Zm P8 Hk ?qi ?P)
  (Js (LI (sh:=[.p,.f,.z,.f,.z,.z])<|Pg (i:=0) rfl ?jh (JE My) (JE<|NQ P5 ON ?qi ?j4) ?T rfl rfl rfl)
  <|Yv<|O3<|JE<|NQ P6 Mi ?qi ?j4)
  Ku)
  <|Js (LI (sh:=[.p,.f,.f,.z,.f,.z])<|SD (i:=4) nd<|JE<|NQ Jm Kc (G7<|NQ Jm Kc (G7<|NQ P6 Mi (G7<|m_ hr (Pb (i:=0)) ?P) ?P)<|G7<|NQ P4 D6 (G7<|NQ P4 D6 ?P ?jF) ?jF) ?P)
  <|Js (LI (sh:=[.p,.f,.f,.z,.z,.f])<|SD (i:=5) nd<|JE<|NQ P6 Mi (G7<|NQ P4 D6 ?qo<|G7<|NQ Jm Kc ?P<|G7<|NQ P4 D6 ?P ?jF) ?P)
  <|Yv<|O3<|JE<|NQ P6 Mi (G7<|NQ P5 ON (G7<|NQ P6 Mi (G7<|NQ Jm Kc (G7<|NQ P4 D6 (G7<|NQ P5 ON (SS 5) ?P) ?P) ?jF) ?P) ?P) ?j4)
abbrev C_:Re Str:=["_law_feed_here","_law_sorts","_law_deep","_law_some","_law_way","_law_others","_law_m","_law_sort"]
theorem gb:C_.Nodup:=by decide +kernel
def fg(self:Re D->D->D->M ?jK)(Zz:Re D)(Zy gbo:D):M ?jK :=
 bd (oM<|bO [Zy]) λl1=>bd (iJ (λs2 d3=>bd (aF s2.1<|.int 2) λr4=>bd (oM<|bp r4.1<|.int 0) λb5=>if b5 then .ret (some d3,(r4.2,s2.2.1,s2.2.2.1,()))else .ret (none,(r4.2,s2.2.1,s2.2.2.1,()))) l1 (Zz,Zy,gbo,())) λr6=>bd (cp r6.1) λl7=>bd (oM<|dJ [?qC]) λx8=>bd (oM<|cI x8<|.tuple []) λb9=>if b9 then bd (aF r6.2.1<|.int 4) λVX=>bd (bd (oM<|bp VX.1<|.int 3) λYc=>if Yc then oM (eX r6.2.2.2.1<|.int 0)else .ret false) λZc=>if Zc then
  bd (self VX.2 r6.2.2.1<|.int 0) λr13=>.ret ((.tuple [(.str "not"),r13.1]),r13.2)
  else
  bd (oM<|bp VX.1<|.int 1) λYb=>if Yb then
  bd (bd (bd (oM<|bO [r6.2.2.1]) λWN=>bd (aW (λd15=>bd (oM<|bc d15 x8) λUN=>if UN then .ret (some d15)else .ret none) WN) cp) λV4=>.ret<|PyData.list V4) λSY=>bd (aF VX.2<|.int 2) λr20=>bd (oM<|lq SY r20.1) λU0=>bd (oM<|dJ [U0]) λTQ=>.ret ((.tuple [(.str "more"),x8,TQ]),r20.2)
  else
  bd (oM<|bp VX.1<|.int 2) λb23=>if b23 then
  bd (aF VX.2<|.int 2) λr24=>bd (oM<|bE (.int 2) r24.1) λUj=>bd (aF r24.2 Uj) λr26=>.ret ((.tuple [(.str "rest"),x8,Uj,r26.1]),r26.2)
  else
  bd (aF VX.2<|.int 3) λr27=>bd (oM<|bE (.int 1) r27.1) λVN=>.ret ((.tuple [(.str "least"),x8,VN]),r27.2)else bd (aF r6.2.1 r6.2.2.1) λr29=>bd (aF r29.2<|.int 4) λXs=>bd (bd (oM<|bp Xs.1<|.int 3) λb31=>if b31 then oM (eX r6.2.2.2.1<|.int 0)else .ret false) λb32=>if b32 then
  bd (self Xs.2 r6.2.2.1<|.int 0) λr33=>.ret ((.tuple [(.str "not"),r33.1]),r33.2)
  else
  bd (oM<|bp Xs.1<|.int 1) λb34=>if b34 then
  bd (bd (bd (oM<|bO [r6.2.2.1]) λl37=>bd (aW (λd35=>bd (oM<|bc d35<|.tuple [r29.1]) λb36=>if b36 then .ret (some d35)else .ret none) l37) cp) λl38=>.ret<|PyData.list l38) λZQ=>bd (aF Xs.2<|.int 2) λr40=>bd (oM<|lq ZQ r40.1) λx41=>bd (oM<|dJ [x41]) λx42=>.ret ((.tuple [(.str "more"),(.tuple [r29.1]),x42]),r40.2)
  else
  bd (oM<|bp Xs.1<|.int 2) λb43=>if b43 then
  bd (aF Xs.2<|.int 2) λr44=>bd (oM<|bE (.int 2) r44.1) λx45=>bd (aF r44.2 x45) λr46=>.ret ((.tuple [(.str "rest"),(.tuple [r29.1]),x45,r46.1]),r46.2)
  else
  bd (aF Xs.2<|.int 3) λr47=>bd (oM<|bE (.int 1) r47.1) λx48=>.ret ((.tuple [(.str "least"),(.tuple [r29.1]),x48]),r47.2)
def dA:Nat->Re D->D->D->M ?jK
 | 0=>λ_ _ _=>.bad
 | i+1=>fg<|dA i
def pC(i:Nat):Re D->Re D->M ?jK:=λZz l=>match l with
 | [Zy,gbo]=>dA i Zz Zy gbo
 | _=>.bad
theorem o8(B:BN K mg):∀i:Nat,CF P w K mg base "_law_question" (2+i)<|nG K 3<|pC i :=
 N7 ["_law_feed_here","_law_sorts","_law_deep","_law_some","_law_way","_law_others","_law_m"] B.Td λRS=>λhr nd =>
  (Js (LI (sh:=[.p,.f,.f,.f,.z,.z,.z])<|SD (i:=3) nd<|Nl QH GS B.i ?G<|O0 (Pk<|GO (sh:=[.p,.f,.f,.z,.z,.z,.z]) (N':=C_) (k:=1) rfl ?H (Cg<|Bg rfl B.i ?Z rfl) (λ_ _ _ _ _=>(Jx (i:=7) (show 7<=7 by decide) gb)) (λ_ _ _ _ _=>(GN<|Cc ?jR D5 (AG (i:=0) (bU B) ?jv ?jL)<|JE My)) λ_ _ _ _ _=>(JE<|av 7)) KQ)
  <|Js (LI (sh:=[.p,.f,.f,.f,.z,.z,.z])<|SD (i:=3) nd<|Oc (Ni<|Zm ?qX D5 ?qi<|G7<|Je Oj) (JE ?qa)<|Ng<|O0 (AG (i:=0) (bU B) ?jv<|O0 (JE<|av 1) KQ) KQ)
  <|Js (LI (sh:=[.p,.f,.f,.f,.f,.z,.z])<|SD (i:=4) nd<|AG (i:=0) (bU B) ?jv ?jL)
  <|Js (Iv (Ni<|MZ<|M0 (Zm ?jR D5 ?qo ?P)<|M5<|Zm P8 Hk ?jF ?P)
  (Yv<|O3<|Ng<|O0 (JE J8)<|O0 (AG (i:=0) RS ?jv<|O0 (JE<|av 1) ?jL) KQ)
  Ku)
  <|Js (Iv (Ni<|Zm ?jR D5 ?qo ?P)
  (Js (LI (sh:=[.p,.z,.z,.f,.z,.f,.z])<|OA (i:=5) nd rfl ?jw (.inl rfl) (N':=C_) (k:=1) rfl ?H (Bg rfl B.i ?Z rfl) (λ_ _ _ _ _=>(Jx (i:=7) (show 7<=7 by decide) gb)) (λ_ _ _ _ _=>(JS<|Zm (M3 ?O) M2 (SS 7) ?qi)) (λ_ _ _ _ _=>(av 7)) rfl ?T)
  <|Yv<|O3<|Ng<|O0 (JE J8)<|O0 (JE ?qa)<|O0 (Nl QH GS B.i ?G<|O0 (DJ (JE<|av 5)<|AG (i:=0) (bU B) ?jv ?jL) KQ) KQ)
  Ku)
  <|Js (Iv (Ni<|Zm ?jR D5 ?qo ?P)
  (Js (LI (sh:=[.p,.z,.z,.f,.z,.z,.f])<|SD (i:=6) nd<|JD Jm Kc (JE My)<|AG (i:=0) (bU B) ?jv ?jL)
  <|Yv<|O3<|Ng<|O0 (JE J8)<|O0 (JE ?qa)<|O0 (JE<|av 6)<|O0 (AG (i:=0) (bU B) ?jv<|O0 (JE<|av 6) KQ) KQ)
  Ku)
  <|Yv<|O3<|Ng<|O0 (JE J8)<|O0 (JE ?qa)<|O0 (JD Jm Kc (JE My)<|AG (i:=0) (bU B) ?jv ?jL) KQ)
abbrev Ra:Re Str:=["_law_question_here","_law_counts_here","_law_many","_law_sort"]
theorem iI:Ra.Nodup:=by decide +kernel
def il(self:D->D->M D)(Ue X3:D):M D :=
 bd (bd (oM<|aD Ue<|.int 0) λx1=>oM<|bp x1<|.str "not") λb2=>if b2 then
  bd (bd (bd (bd (bd (oM<|aD Ue<|.int 1) λx3=>self x3 X3) λx4=>oM<|iX x4) λb5=>.ret<|!b5) λb6=>.ret<|.bool b6) λx7=>.ret x7
  else
  bd (bd (bd (bd (bd (oM<|aD Ue<|.int 1) λx8=>oM<|bZ x8) λT9=>bd (aW (λd9=>bd (oM<|aD X3 d9) λR9=>.ret<|some R9) T9) cp) λU_=>.ret<|PyData.list U_) λTp=>oM<|e6 [Tp]) λTo=>bd (bd (oM<|aD Ue<|.int 0) λS7=>oM<|bp S7<|.str "least") λUN=>if UN then
  bd (bd (bd (oM<|aD Ue<|.int 2) λT5=>oM<|vW To T5) λb18=>.ret<|.bool b18) λSY=>.ret SY
  else
  bd (bd (oM<|aD Ue<|.int 0) λVP=>oM<|bp VP<|.str "more") λb21=>if b21 then
  bd (bd (bd (bd (bd (bd (bd (oM<|aD Ue<|.int 2) λTQ=>oM<|bZ TQ) λYh=>bd (aW (λd23=>bd (oM<|aD X3 d23) λXm=>.ret<|some Xm) Yh) cp) λl26=>.ret<|PyData.list l26) λYt=>oM<|e6 [Yt]) λVN=>oM<|eX To VN) λb29=>.ret<|.bool b29) λx30=>.ret x30
  else
  bd (bd (bd (bd (oM<|aD Ue<|.int 2) λZi=>oM<|iF To Zi) λx32=>bd (oM<|aD Ue<|.int 3) λZS=>oM<|bp x32 ZS) λb34=>.ret<|.bool b34) λZR=>.ret ZR
def df:Nat->D->D->M D
 | 0=>λ_ _=>.bad
 | i+1=>il<|df i
def t9(i:Nat):Re D->M D:=λl=>match l with
 | [Ue,X3]=>df i Ue X3
 | _=>.bad
theorem lM(B:BN K mg):∀i:Nat,CF P w K mg base "_law_holds" (1+i)<|pN K 2<|t9 i :=
 II ["_law_question_here","_law_counts_here","_law_many"] B.UL λRS=>λhr nd =>
  (Js (Iv (Ni<|Zm ?jR D5 (G7 ?I)<|G7 J8)
  (Yv<|O3<|JE<|VC<|Cd<|G7 ?j9)
  Ku)
  <|Js (LI (sh:=[.f,.f,.f])<|SD (i:=2) nd<|JE<|CE (ID rfl) BJ B.i ?G<|Kb (G7<|Ol<|VL (N':=Ra) (k:=1) rfl ?H (Bi ?I) (λ_ _ _ _ _=>(Jx (i:=3) (show 3<=3 by decide) iI)) ?jk λ_ _ _ _ _=>(m_ hr ?j4 ?qi)) Mg)
  <|Js (Iv (Ni<|Zm ?jR D5 (G7 ?I)<|G7 J8)
  (Yv<|O3<|JE<|VC<|Pq P9 OO ?jF<|G7 ?I)
  Ku)
  <|Js (Iv (Ni<|Zm ?jR D5 (G7 ?I)<|G7 J8)
  (Yv<|O3<|JE<|VC<|Pq P8 Hk ?jF<|G7<|CE (ID rfl) BJ B.i ?G<|Kb (G7<|Ol<|VL (N':=Ra) (k:=1) rfl ?H (Bi ?I) (λ_ _ _ _ _=>(Jx (i:=3) (show 3<=3 by decide) iI)) ?jk λ_ _ _ _ _=>(m_ hr ?j4 ?qi)) Mg)
  Ku)
  <|Yv<|O3<|JE<|VC<|Pq ?jR D5 (G7<|NQ P6 Mi ?jF<|G7 ?I)<|G7 ?I)
def qA(Ud:D)(Rj:Re D):M D :=
 .ret<|PyData.list Rj
def jZ(kn3:D×Re D×Unit->M D)(Ud:D)(Rj:Re D)(gaM:D)(Ym:Re D):M D :=
 bd (bd (oM<|dJ [(PyData.list Ym)]) λS7=>.ret<|.tuple [gaM,S7]) λVQ=>bd (oM<|sA Rj [VQ]) λWN=>kn3 (Ud,WN,())
def gB(kn3:D×Re D×Unit->M D)(Ud:D)(Rj:Re D)(gaM:D)(Ym:Re D)(d_:D)(zaW:D×Re D×D×Re D×Unit->M D):M D :=
 bd (bd (oM<|aD (PyData.list Ym) d_) λSY=>oM<|bE SY<|.int 1) λVP=>bd (oM<|putD Ym d_ VP) λYO=>zaW (Ud,Rj,gaM,YO,())
def gF(kn3:D×Re D×Unit->M D)(Ud:D)(Rj:Re D)(gaM gbb:D)(Ym:Re D):M D :=
 bd (bd (oM<|yb [(PyData.list Ym)]) λR9=>oM<|vW R9<|.int 0) λYc=>if Yc then
  bd (bd (bd ?qS λzaa=>oM<|kD gbb zaa none) λTp=>oM<|bZ Tp) λWO=>cH (λTV d23 kn=>gB kn3 TV.1 TV.2.1 TV.2.2.1 TV.2.2.2.1 d23 kn) WO (Ud,Rj,gaM,Ym,()) λTV=>jZ kn3 TV.1 TV.2.1 TV.2.2.1 TV.2.2.2.1
  else
  kn3 (Ud,Rj,())
def gC(kn3:D×Re D×Unit->M D)(Ud:D)(Rj:Re D)(gaM gbb:D)(Ym:Re D)(d_:D)(zaT:D×Re D×D×D×Re D×Unit->M D):M D :=
 bd (bd (oM<|aD (PyData.list Ym) d_) λUj=>oM<|gJ Uj<|.int 1) λx26=>bd (oM<|putD Ym d_ x26) λl27=>zaT (Ud,Rj,gaM,gbb,l27,())
def gE(Ud:D)(Rj:Re D)(d_:D)(kn3:D×Re D×Unit->M D):M D :=
 yG d_ λy4 y5=>bd (oM<|lU [Ud]) λl6=>bd (bd (bd ?qS λhi7=>oM<|kD y5 none hi7) λx8=>oM<|bZ x8) λl9=>cH (λSo d29 kn=>gC kn3 So.1 So.2.1 So.2.2.1 So.2.2.2.1 So.2.2.2.2.1 d29 kn) l9 (Ud,Rj,y4,y5,l6,()) λSo=>gF kn3 So.1 So.2.1 So.2.2.1 So.2.2.2.1 So.2.2.2.2.1
def dR(TK gaz:D):M D :=
 bd (bd (oM<|aD TK<|.int 2) λx1=>oM<|qa [x1]) λl2=>cH (λs30 d31 kn=>gE s30.1 s30.2.1 d31 kn) l2 (gaz,[],()) λs30=>qA s30.1 s30.2.1
def t4:=vF dR
theorem i6(B:BN K mg):CF P w K mg base "_law_steps" 1 (pN K 2 t4) :=
 R3 ["_law_rule","_law_crowd","_law_found","_law_number","_law_meeting","_law_left","_law_room"] B.UI λhr nd =>
  (Js (LI (sh:=[.f,.f,.o,.z,.z,.z,.z])<|Wk (i:=2) nd ?qw)
  <|Js (Az (sh:=[.z,.f,.o,.z,.z,.z,.z]) PassesOwn.leaving rfl (Cg<|MV rfl B.i (Mp ?I Oj) rfl) (JO rfl (Jz (Jx (i:=3) ?U nd) (Jz (Jx (i:=4) ?U nd) MT rfl) rfl) rfl rfl)
  <|Js (LI (sh:=[.z,.f,.o,.f,.f,.o,.z])<|Wk (i:=5) nd<|JC<|Mr QG Zn B.i ?G<|Kb ?j4 Mg)
  <|Js (Az (sh:=[.z,.f,.o,.f,.f,.o,.z]) PassesOwn.leaving rfl (Cg<|Bi<|OB ?qo Jj<|OG My) (Jx (i:=6) ?U nd)
  <|Yv<|Pg (i:=5) rfl ?jh (JE<|av 6) (JE<|NQ P3 AN (G7<|m_ hr (Pb (i:=5))<|SS 6) ?P) ?T rfl rfl rfl)
  <|Yv<|Iv (Ni<|Zm P9 OO (G7<|CE (Dz rfl) HJ B.i ?G<|Kb (Pb (i:=5)) Mg) ?P)
  (Js (Az (sh:=[.z,.f,.o,.f,.z,.o,.z]) PassesOwn.leaving rfl (Cg<|Bi<|OB ?qo (OG My) Jj) (Jx (i:=6) ?U nd)
  <|Yv<|Pg (i:=5) rfl ?jh (JE<|av 6) (JE<|NQ Jm Kc (G7<|m_ hr (Pb (i:=5))<|SS 6) ?P) ?T rfl rfl rfl)
  <|Yv<|XL (i:=2) rfl ?jh (O0 (JE<|Je<|Mp ?qa<|Mp (G6 QH GS B.i ?G<|Kb (Pb (i:=5)) Mg) Oj) KQ) rfl rfl rfl rfl rfl rfl)
  Ku)
  <|Yv<|Dj (i:=2)<|O3<|JE<|av 2)
abbrev SG:Re Str:=["_law_rule","_law_crowd","_law_found","_law_line","_law_here","_law_number","_law_later"]
theorem jV:SG.Nodup:=by decide +kernel
def md(SI:D)(Rj:Re ?M)(ga2:Re D):M D :=
 .ret<|PyData.dict Rj
def fZ(SI:D)(Rj:Re ?M)(ga2:Re D)(kn1:D×Re ?M×Re D×Unit->M D):M D :=
 bd (oM<|cI (PyData.list ga2) ?qd) λb2=>if b2 then
  mM ga2 λx3=>bd (oM<|bc x3<|PyData.dict Rj) λb4=>if b4 then
  bd (dR SI x3) λx5=>bd (oM<|ii true Rj x3 x5) λl6=>bd (bd (bd (oM<|aD (PyData.dict l6) x3) λx7=>oM<|bZ x7) λT9=>bd (aW (λd8=>yG d8 λy9 y10=>.ret<|some y10) T9) cp) λU_=>bd (oM<|sw (List.dropLast ga2) U_) λXB=>kn1 (SI,l6,XB,())
  else
  kn1 (SI,Rj,(List.dropLast ga2),())
  else md SI Rj ga2
def iu(TK gaz:D):M D :=
 j7 (λZX kn=>fZ ZX.1 ZX.2.1 ZX.2.2.1 kn) 10000 (TK,[],[gaz],())
def xW:=vF iu
theorem xK(B:BN K mg):CF P w K mg base "_law_all" 2 (pN K 2 xW) :=
 R3 ["_law_rule","_law_crowd","_law_found","_law_line","_law_here"] B.Wh λhr nd =>
  (Js (LI (sh:=[.f,.f,.t,.z,.z])<|Jn true (i:=2) nd rfl ?jw rfl<|.inl rfl)
  <|Js (LI (sh:=[.f,.z,.t,.o,.z])<|Wk (i:=3) nd<|JC<|Oq ?Z)
  <|Js (AD (sh:=[.f,.z,.t,.o,.z]) (fuel:=10000) PassesOwn.leaving (Ni<|Zm ?qX D5 (Pb (i:=3)) ?qT)
  <|Js (LI (sh:=[.f,.z,.t,.o,.f])<|IQ (i:=3) (j:=4) rfl ?jh nd rfl ?jw ?C rfl rfl rfl<|.inl rfl)
  <|Yv<|Iv (Ni<|Zm (M3 ?O) M2 ?qo<|Pb (i:=2))
  (Js (LI (sh:=[.f,.z,.t,.o,.f])<|Kl ?O (i:=2) rfl ?jh (JE<|av 4) (JE<|AI (i6 B) hr.m<|Mp ?qj<|Mp (av 4) Oj) rfl)
  <|Yv<|MY (i:=3) rfl ?jh (JC<|VL (N':=SG) (k:=2) rfl ?H (Bi<|m_ hr (Pb (i:=2)) ?qo) (λ_ _ _ _ _=>(JO rfl (Jz (Jx (i:=5) (show 5<=5 by decide) jV) (Jz (Jx (i:=6) (show 5<=6 by decide) jV) MT rfl) rfl) rfl rfl)) ?jk λ_ _ _ _ _=>(av 6)) rfl rfl rfl rfl rfl rfl)
  Ku)
  <|Yv<|Dj (i:=2)<|O3<|JE<|av 2)
abbrev RQ:Re Str:=["_law_rule","_law_counts_here","_law_found","_law_sort","_law_room ","_law_room"]
theorem nS:RQ.Nodup:=by decide +kernel
def j6(SI Xf:D)(Rj:Re D):M D :=
 bd (oM<|dJ [(PyData.list Rj)]) λx7=>.ret x7
def j5(SI Xf:D)(Rj:Re D)(d_:D)(kn8:D×D×Re D×Unit->M D):M D :=
 bd (bd (oM<|aD SI<|.int 1) λx9=>oM<|aD x9 d_) λR9=>bd (bd (oM<|aD (PyData.list Rj) R9) λSl=>bd (oM<|aD Xf d_) λSK=>oM<|bE Sl SK) λTp=>bd (oM<|putD Rj R9 Tp) λWO=>kn8 (SI,Xf,WO,())
def dU(TK X3:D):M D :=
 bd (bd (bd (oM<|aD TK<|.int 0) λx1=>oM<|bO [x1]) λl3=>bd (aW (λd2=>.ret<|some<|.int 0) l3) cp) λl4=>bd (bd (oM<|dm [X3]) λx5=>oM<|bO [x5]) λl6=>cH (λU4 d16 kn=>j5 U4.1 U4.2.1 U4.2.2.1 d16 kn) l6 (TK,X3,l4,()) λU4=>j6 U4.1 U4.2.1 U4.2.2.1
def uc:=vF dU
theorem lN(B:BN K mg):CF P w K mg base "_law_begun" 1 (pN K 2 uc) :=
 R3 ["_law_rule","_law_counts_here","_law_found","_law_sort","_law_room"] B.UM λhr nd =>
  (Js (LI (sh:=[.f,.f,.o,.z,.z])<|MI (i:=2) nd rfl ?jw (.inl rfl) (N':=RQ) (k:=1) rfl ?H (Bg rfl B.i (Mp ?I Oj) rfl) (λ_ _ _ _ _=>(Jx (i:=5) (show 5<=5 by decide) nS)) ?jk (λ_ _ _ _ _=>My) rfl ?T)
  <|Js (Az (sh:=[.f,.f,.o,.z,.z]) PassesOwn.leaving rfl (Cg<|Bg rfl B.i (Mp (CE J7 Pr B.i gh<|Kb ?j4 Mg) Oj) rfl) (Jx (i:=3) ?U nd)
  <|Js (LI (sh:=[.f,.f,.o,.f,.f])<|SD (i:=4) nd<|JE<|m_ hr (G7 ?I) ?qi)
  <|Yv<|Pg (i:=2) rfl ?jh (JE<|av 4) (JE<|NQ Jm Kc (G7<|m_ hr (Pb (i:=2)) ?qo)<|G7<|m_ hr ?j4 ?qi) ?T rfl rfl rfl)
  <|Yv<|O3<|JE<|G6 QH GS B.i ?G<|Kb (Pb (i:=2)) Mg)
abbrev R6:Re Str:=["_law_rule","_law_crowd","_law_words","_law_room"]
theorem pj:R6.Nodup:=by decide +kernel
def dM(TK gaz:D):M D :=
 bd (bd (bd (bd (oM (aD TK (.int 0))) λx1=>oM (bO [x1])) λl7=>bd (aW (λd2=>bd (bd (oM (aD gaz d2)) λx3=>oM (eX x3 (.int 0))) λb6=>if b6 then bd (bd (oM (aD TK (.int 3))) λx4=>oM (aD x4 d2)) λx5=>.ret (some x5)else .ret none) l7) cp) λl8=>.ret (PyData.list l8)) λx9=>bd (oM (bc (.bool false) x9)) λYd=>if Yd then
  .ret (.str "yes")
  else
  bd (bd (oM (lK (.bool true) x9)) λYc=>if Yc then .ret (.str "both")else .ret (.str "no")) λSK=>.ret SK
def v7:=vF dM
theorem nI(B:BN K mg):CF P w K mg base "_law_said" 1 (pN K 2 v7) :=
 R3 ["_law_rule","_law_crowd","_law_words"] B.Vo λhr nd =>
  (Js (LI (sh:=[.z,.z,.f])<|OA (i:=2) nd rfl ?jw (.inl rfl) (N':=R6) (k:=1) rfl ?H (Bg rfl B.i (Mp ?I Oj) rfl) (λ_ _ _ _ _=>(Jx (i:=3) (show 3<=3 by decide) pj)) (λ_ _ _ _ _=>(JS<|Zm P8 Hk (G7<|m_ hr ?j4 ?qi) ?P)) (λ_ _ _ _ _=>(m_ hr (G7 ?I) ?qi)) rfl ?T)
  <|Js (Iv (Ni<|Zm (M3 ?O) M2 (G7 Oh) ?jF)
  (Yv<|O3<|JE J8)
  Ku)
  <|Yv<|O3<|JE<|B8 (Zm (Bf ?O) E6 (G7 Oh) ?jF) J8 J8)
abbrev R8:Re Str:=["_law_found","_law_goals","_law_seen","_law_many","_law_crowd","_law_steps_here","_law_goal"]
theorem py:R8.Nodup:=by decide +kernel
abbrev R7:Re Str:=["_law_found","_law_goals","_law_seen","_law_many","_law_crowd","_law_steps_here","_law_step"]
theorem px:R7.Nodup:=by decide +kernel
def tH(Rj:D)(Xg:Re ?M)(ZC:D):M D :=
 .ret<|PyData.dict Xg
def tG(Uw:D×Re ?M×D×Unit->M D)(Rj:D)(Xg:Re ?M)(ZC:D):M D :=
 Uw (Rj,Xg,ZC,())
def fm(Uw:D×Re ?M×D×Unit->M D)(Rj:D)(Xg:Re ?M)(ZC d_:D)(Va:D×Re ?M×D×Unit->M D):M D :=
 bd (bd (bd (bd (oM<|aD Rj d_) λTp=>oM<|bZ Tp) λWN=>bd (aW (λVv=>bd (bd (oM<|aD Vv<|.int 1) λS7=>oM<|lK S7<|PyData.dict Xg) λUN=>if UN then .ret (some Vv)else .ret none) WN) cp) λV4=>.ret<|PyData.list V4) λSY=>bd (oM<|cI SY ?qd) λb20=>if b20 then
  bd (oM<|ii true Xg d_<|.bool true) λYO=>Va (Rj,YO,ZC,())
  else
  Va (Rj,Xg,ZC,())
def cX(Rj:D)(Xg:Re ?M)(ZC:D)(Uw:D×Re ?M×D×Unit->M D):M D :=
 bd (bd (oM<|sT [(PyData.dict Xg)]) λx8=>oM<|eW ZC x8) λb9=>if b9 then
  bd (oM<|sT [(PyData.dict Xg)]) λR9=>bd (oM<|vJ Rj) λT9=>cH (λTV d23 kn=>fm Uw TV.1 TV.2.1 TV.2.2.1 d23 kn) T9 (Rj,Xg,R9,()) λTV=>tG Uw TV.1 TV.2.1 TV.2.2.1
  else tH Rj Xg ZC
def gp(gbi gbj:D):M D :=
 bd (bd (bd (oM<|bZ gbj) λl2=>bd (aW (λd1=>.ret<|some<|.tuple [d1,(.bool true)]) l2) cp) λl3=>.ret<|PyData.list l3) λx4=>bd (oM<|yD true x4) λl5=>bd (oM<|vn<|.int 1) λx6=>j7 (λVU kn=>cX VU.1 VU.2.1 VU.2.2.1 kn) 10000 (gbi,l5,x6,())
def wg:=vF gp
theorem nJ(B:BN K mg):CF P w K mg base "_law_back" 1 (pN K 2 wg) :=
 R3 ["_law_found","_law_goals","_law_seen","_law_many","_law_crowd","_law_steps_here"] B.Vt λhr nd =>
  (Js (LI (sh:=[.f,.z,.t,.z,.z,.z])<|An true true (i:=2) rfl ?O rfl B.i nd rfl ?jw (JE<|Ol<|VL (N':=R8) (k:=1) rfl ?H (Bi<|av 1) (λ_ _ _ _ _=>(Jx (i:=6) (show 6<=6 by decide) py)) ?jk λ_ _ _ _ _=>(Je<|Mp (av 6)<|Mp Oh Oj)) rfl rfl<|.inl rfl)
  <|Js (LI (sh:=[.f,.z,.t,.f,.z,.z])<|SD (i:=3) nd<|JE<|N9 J5 K6 ?P)
  <|Js (AD (sh:=[.f,.z,.t,.f,.z,.z]) (fuel:=10000) PassesOwn.leaving (Ni<|Zm (MX ?O) OF ?qi<|G7<|CE B0 Ey B.i gh<|Kb (Pb (i:=2)) Mg)
  <|Js (LI (sh:=[.f,.z,.t,.f,.z,.z])<|SD (i:=3) nd<|JE<|CE B0 Ey B.i gh<|Kb (Pb (i:=2)) Mg)
  <|Yv<|Az (sh:=[.f,.z,.t,.f,.z,.z]) PassesOwn.leaving rfl (Cg<|Pv ?qj) (Jx (i:=4) ?U nd)
  <|Js (LI (sh:=[.f,.z,.t,.f,.f,.f])<|OA (i:=5) nd rfl ?jw (.inl rfl) (N':=R7) (k:=1) rfl ?H (Bi<|m_ hr (SS 0) ?qo) (λ_ _ _ _ _=>(Jx (i:=6) (show 6<=6 by decide) px)) (λ_ _ _ _ _=>(JS<|Zm (Bf ?O) E6 (G7<|m_ hr (SS 6) ?P)<|Pb (i:=2))) (λ_ _ _ _ _=>(av 6)) rfl ?T)
  <|Yv<|Iv (Ni<|Zm ?qX D5 (SS 5) ?qT)
  (Yv<|Kl ?O (i:=2) rfl ?jh (JE<|av 4) (JE Oh) rfl)
  Ku)
  <|Yv<|Dj (i:=2)<|O3<|JE<|av 2)
abbrev J_:Re Str:=["_law_rule","_law_question_here","_law_counts_here","_law_found","_law_word","_law_erring","_law_wrong","_law_right_here","_law_crowd"]
theorem fP:J_.Nodup:=by decide +kernel
def iO(TK Ue X3:D):M D :=
 bd (bd (dU TK X3) λx1=>iu TK x1) λx2=>bd (bd (bd (df 8 Ue X3) λx3=>oM<|qr [x3]) λx4=>oM<|aD (PyData.list [(.str "no"),(.str "yes")]) x4) λx5=>bd (bd (bd (oM<|vJ x2) λl9=>bd (aW (λd6=>bd (bd (dM TK d6) λx7=>oM<|cI x7 x5) λb8=>if b8 then .ret (some d6)else .ret none) l9) cp) λl10=>.ret<|PyData.list l10) λSl=>bd (gp x2 Sl) λSK=>bd (bd (bd (bd (oM<|vJ x2) λl15=>bd (aW (λd13=>bd (oM<|bc d13 SK) λYb=>if Yb then .ret (some d13)else .ret none) l15) cp) λl16=>.ret<|PyData.list l16) λT5=>gp x2 T5) λWI=>bd (bd (bd (oM<|vJ x2) λYO=>bd (aW (λd19=>bd (oM<|bc d19 WI) λb20=>if b20 then .ret (some d19)else .ret none) YO) cp) λl22=>.ret<|PyData.list l22) λUZ=>.ret UZ
def v8:=yW iO
theorem vY(B:BN K mg):CF P w K mg base "_law_lost" 10 (pN K 3 v8) :=
 R3 ["_law_rule","_law_question_here","_law_counts_here","_law_found","_law_word","_law_erring","_law_wrong","_law_right_here"] B.Vp λhr nd =>
  (Js (LI (sh:=[.f,.f,.f,.f,.z,.z,.z,.z])<|SD (i:=3) nd<|JE<|AI (xK B) hr.m<|Mp ?qj<|Mp (AI (lN B) hr.m<|Mp ?qj ?qn) Oj)
  <|Js (LI (sh:=[.f,.z,.z,.f,.f,.z,.z,.z])<|SD (i:=4) nd<|JE<|m_ hr (G7<|Ol<|Oq<|Mp J8<|Mp J8 Oj)<|G7<|G6 Qg OZ B.i ?G<|Kb (G7<|AI (lM B 8) hr.m<|Mp (av 1) ?qn) Mg)
  <|Js (LI (sh:=[.z,.z,.z,.f,.z,.f,.z,.z])<|OA (i:=5) nd rfl ?jw (.inl rfl) (N':=J_) (k:=1) rfl ?H (Pv ?qa) (λ_ _ _ _ _=>(Jx (i:=8) (show 8<=8 by decide) fP)) (λ_ _ _ _ _=>(JS<|Zm ?qX D5 (G7<|AI (nI B) hr.m<|Mp ?qj<|Mp (av 8) Oj) ?qo)) (λ_ _ _ _ _=>(av 8)) rfl ?T)
  <|Js (LI (sh:=[.z,.z,.z,.f,.z,.z,.f,.z])<|SD (i:=6) nd<|JE<|AI (nJ B) hr.m<|Mp ?qa<|Mp (av 5) Oj)
  <|Js (LI (sh:=[.z,.z,.z,.f,.z,.z,.z,.f])<|SD (i:=7) nd<|JE<|AI (nJ B) hr.m<|Mp ?qa<|Mp (Ol<|VL (N':=J_) (k:=1) rfl ?H (Pv ?qa) (λ_ _ _ _ _=>(Jx (i:=8) (show 8<=8 by decide) fP)) (λ_ _ _ _ _=>(JS<|Zm (M3 ?O) M2 (SS 8)<|SS 6)) λ_ _ _ _ _=>(av 8)) Oj)
  <|Yv<|O3<|JE<|Ol<|VL (N':=J_) (k:=1) rfl ?H (Pv ?qa) (λ_ _ _ _ _=>(Jx (i:=8) (show 8<=8 by decide) fP)) (λ_ _ _ _ _=>(JS<|Zm (M3 ?O) M2 (SS 8)<|SS 7)) λ_ _ _ _ _=>(av 8))
def cA(Xe:D):M D :=
 bd (bd (bd (oM (kC "int" Xe)) λb2=>if b2 then bd (oM (kC "bool" Xe)) λb1=>.ret (!b1)else .ret false) λb3=>.ret (.bool b3)) λx4=>.ret x4
def nV:=yV cA
theorem eY(B:BN K mg):CF P w K mg base "_law_is_number" 1 (pN K 1 nV) :=
 R3 ["_law_thing"] B.SR λhr nd =>
  (Yv<|O3<|JE<|VC<|Ow (MJ (T := "int") ?C rfl B.i rfl B.i ?G (SS 0) rfl rfl rfl)<|OJ<|GQ<|MJ (T := "bool") ?C rfl B.i rfl B.i ?G (SS 0) rfl rfl rfl)
abbrev O_:Re Str:=["_law_thing","_law_many","_law_one"]
theorem jE:O_.Nodup:=by decide +kernel
def cO(Xe gaP:D):M D :=
 bd (bd (bd (oM<|kC "tuple" Xe) λb1=>.ret<|!b1) λb3=>if b3 then .ret true else bd (oM<|dm [Xe]) λx2=>oM<|cI x2 gaP) λb4=>if b4 then
  .ret (.bool false)
  else
  bd (bd (bd (bd (oM<|bZ Xe) λl10=>bd (aW (λd5=>bd (bd (bd (bd (cA d5) λx6=>oM<|iX x6) λb7=>.ret<|!b7) λb8=>if b8 then .ret true else oM (eW d5<|.int 0)) λb9=>if b9 then .ret (some d5)else .ret none) l10) cp) λT9=>.ret<|PyData.list T9) λSK=>oM<|cI SK ?qd) λZb=>if Zb then
  .ret (.bool false)
  else
  bd (bd (bd (oM<|e6 [Xe]) λTo=>oM<|eX To<|.int 0) λZa=>.ret<|.bool Za) λVQ=>.ret VQ
def mG:=vF cO
theorem g9(B:BN K mg):CF P w K mg base "_law_is_counted" 2 (pN K 2 mG) :=
 R3 ["_law_thing","_law_many"] B.Sz λhr nd =>
  (Js (Iv (Ni<|MZ<|Kv (MU<|MW (MJ (T := "tuple") ?C rfl B.i rfl B.i ?G (SS 0) rfl rfl rfl) ?T)<|VH<|Zm ?qX D5 (G7<|CE J7 Pr B.i gh<|Kb (SS 0) Mg) ?j4)
  ?jr
  Ku)
  <|Js (Iv (Ni<|Zm ?qX D5 (G7<|Ol<|VL (N':=O_) (k:=1) rfl ?H (Bi ?qj) (λ_ _ _ _ _=>(Jx (i:=2) (show 2<=2 by decide) jE)) (λ_ _ _ _ _=>(JS<|MZ<|Kv (MU<|OI (G7<|AI (eY B) hr.m ?qn) ?T)<|VH<|Zm (MX ?O) OF ?jF ?P)) λ_ _ _ _ _=>(av 2)) ?qT)
  ?jr
  Ku)
  <|Yv<|O3<|JE<|VC<|Pq P8 Hk (G7<|CE (ID rfl) BJ B.i ?G<|Kb (SS 0) Mg) ?P)
def eD(TK gbc:D)(gbu gbk:D):M D :=
 bd (oM (aD gbc gbu)) λx1=>bd (bd (bd (oM (kC "tuple" x1)) λb2=>.ret (!b2)) λb9=>if b9 then .ret true else bd (bd (oM (dm [x1])) λx3=>oM (cI x3 (.int 2))) λb8=>if b8 then .ret true else bd (bd (bd (oM (aD x1 (.int 0))) λx4=>bd (oM (aD TK (.int 0))) λx5=>cO x4 x5) λx6=>oM (iX x6)) λb7=>.ret (!b7)) λYd=>if Yd then
  .ret (.bool true)
  else
  bd (bd (bd (bd (oM (aD x1 (.int 0))) λSl=>oM (e6 [Sl])) λSK=>oM (cI SK gbk)) λb18=>if b18 then .ret true else bd (bd (bd (bd (oM (aD x1 (.int 1))) λTp=>cA Tp) λTo=>oM (iX To)) λZa=>.ret (!Za)) λb17=>if b17 then .ret true else bd (oM (aD x1 (.int 1))) λVQ=>oM (eW VQ (.int 0))) λb19=>if b19 then
  .ret (.bool true)
  else
  bd (bd (bd (oM (eX gbu (.int 0))) λb25=>if b25 then bd (bd (bd (bd (oM (gJ gbu (.int 1))) λVP=>oM (aD gbc VP)) λU0=>oM (aD U0 (.int 0))) λTQ=>bd (oM (aD x1 (.int 0))) λUZ=>oM (eW TQ UZ)) λb24=>.ret (!b24)else .ret false) λY_=>.ret (.bool Y_)) λYt=>.ret Yt
def pA:=pF eD
theorem o7(B:BN K mg):CF P w K mg base "_law_rank_bad" 3 (pN K 4 pA) :=
 R3 ["_law_rule","_law_ranks","_law_k","_law_hands","_law_one"] B.Tc λhr nd =>
  (Js (LI (sh:=[.f,.f,.f,.f,.f])<|SD (i:=4) nd<|JE<|m_ hr ?j4 ?jF)
  <|Js (Iv (Ni<|MZ<|Kv (MU<|MW (MJ (T := "tuple") ?C rfl B.i rfl B.i ?G ?qo rfl rfl rfl) ?T)<|Kv (Zm ?qX D5 (G7<|CE J7 Pr B.i gh<|Kb ?qo Mg) ?P)<|VH<|MU<|OI (G7<|AI (g9 B) hr.m<|Mp (m_ hr ?qo ?P)<|Mp ?I Oj) ?T)
  ?jr
  Ku)
  <|Js (Iv (Ni<|MZ<|Kv (Zm ?qX D5 (G7<|CE (ID rfl) BJ B.i ?G<|Kb (G7<|m_ hr ?qo ?P) Mg) ?qi)<|Kv (MU<|OI (G7<|AI (eY B) hr.m<|Mp (m_ hr ?qo ?P) Oj) ?T)<|VH<|Zm (MX ?O) OF (G7<|m_ hr ?qo ?P) ?P)
  ?jr
  Ku)
  <|Yv<|O3<|JE<|VC<|Ow (Pq P8 Hk ?jF ?P)<|OJ<|GQ<|Pq (MX ?O) OF (G7<|m_ hr (G7<|m_ hr ?j4<|G7<|NQ P3 AN ?jF ?P) ?P)<|G7<|m_ hr ?qo ?P)
abbrev Ru:Re Str:=["_law_rule","_law_question_here","_law_thing","_law_counts_here","_law_numbers","_law_ranks","_law_crowd","_law_k","_law_steps_here","_law_told","_law_word","_law_here","_law_rank","_law_behind","_law_lesser","_law_number","_law_later"]
theorem gL:Ru.Nodup:=by decide +kernel
abbrev F_:Re Str:=["_law_rule","_law_question_here","_law_thing","_law_counts_here","_law_numbers","_law_ranks","_law_crowd","_law_k","_law_steps_here","_law_told","_law_word","_law_here","_law_rank","_law_behind","_law_lesser","_law_later"]
theorem gK:F_.Nodup:=by decide +kernel
def oJ(SI gap:D)(ZA:Re ?M)(gbp:D):M D :=
 .ret .none
def fj(SI gap:D)(ZA:Re ?M)(gbp d_:D)(zaR:D×D×Re ?M×D×Unit->M D):M D :=
 bd (oM (aD gap d_)) λZS=>yG ZS λy34 y35=>bd (bd (bd (bd (dR SI y34) λx36=>oM (bZ x36)) λl40=>bd (aW (λd37=>yG d37 λy38 y39=>.ret (some y39)) l40) cp) λl41=>.ret (PyData.list l41)) λx42=>bd (bd (bd (bd (oM (bZ x42)) λl45=>bd (aW (λd43=>bd (oM (bc d43 (PyData.dict ZA))) λb44=>if b44 then .ret (some d43)else .ret none) l45) cp) λl46=>.ret (PyData.list l46)) λx47=>oM (cI x47 ?qd)) λb48=>if b48 then
  .ret (.tuple [(.str "closed"),d_])
  else
  bd (bd (bd (oM (bZ x42)) λl52=>bd (aW (λd49=>bd (bd (oM (aD (PyData.dict ZA) d49)) λx50=>oM (eW x50 y35)) λb51=>if b51 then .ret (some d49)else .ret none) l52) cp) λl53=>.ret (PyData.list l53)) λx54=>bd (bd (bd (oM (bp y35 (.int 0))) λb56=>if b56 then bd (dM SI y34) λx55=>oM (bp x55 gbp)else .ret false) λb58=>if b58 then .ret true else bd (oM (eX y35 (.int 0))) λb57=>if b57 then oM (bp x54 ?qd)else .ret false) λb59=>if b59 then
  .ret (.tuple [(.str "falls"),d_])
  else
  zaR (SI,gap,ZA,gbp,())
def iT(SI UC:D)(Xf gap Ud:D):M D :=
 bd (oM<|z9 true gap) λYh=>bd (oM<|bc Ud<|PyData.dict Yh) λY_=>if Y_ then
  .ret (.tuple [(.str "from"),(.int 0)])
  else
  bd (bd (bd (df 8 UC Xf) λYt=>oM<|qr [Yt]) λVN=>oM<|aD (PyData.list [(.str "no"),(.str "yes")]) VN) λZj=>bd (bd (oM<|dm [gap]) λx30=>oM<|bO [x30]) λl31=>cH (λUp d61 kn=>fj Up.1 Up.2.1 Up.2.2.1 Up.2.2.2.1 d61 kn) l31 (SI,gap,Yh,Zj,()) λUp=>oJ Up.1 Up.2.1 Up.2.2.1 Up.2.2.2.1
def iR(SI UC:D)(Xf gap:D)(Ud d_:D)(zaP:D×D×D×D×D×Unit->M D):M D :=
 bd (bd (bd (oM<|e6 [Xf]) λx63=>eD SI gap d_ x63) λx64=>oM<|iX x64) λb65=>if b65 then
  .ret (.tuple [(.str "rank"),d_])
  else
  zaP (SI,UC,Xf,gap,Ud,())
def iU(SI UC:D)(Xf gaU:D)(gap Ud:D):M D :=
 bd (bd (oM<|dm [gap]) λUZ=>oM<|bO [UZ]) λl24=>cH (λXo d67 kn=>iR Xo.1 Xo.2.1 Xo.2.2.1 Xo.2.2.2.1 Xo.2.2.2.2.1 d67 kn) l24 (SI,UC,Xf,gap,Ud,()) λXo=>iT Xo.1 Xo.2.1 Xo.2.2.1 Xo.2.2.2.1 Xo.2.2.2.2.1
def iS(SI UC:D)(Xf gaU:D)(gap Ud d_:D)(zaO:D×D×D×D×D×D×Unit->M D):M D :=
 bd (dR SI Ud) λx69=>bd (oM<|yD false x69) λl70=>bd (bd (bd (bd (bd (oM<|aD gaU d_) λx71=>cA x71) λx72=>oM<|iX x72) λb73=>.ret<|!b73) λb75=>if b75 then .ret true else bd (oM<|aD gaU d_) λx74=>oM<|bc x74<|PyData.dict l70) λb76=>if b76 then
  .ret (.tuple [(.str "way"),d_])
  else
  bd (bd (oM<|aD gaU d_) λx77=>oM<|aD (PyData.dict l70) x77) λx78=>zaO (SI,UC,Xf,gaU,gap,x78,())
def fk(TK Ue Xe:D):M D :=
 bd (bd (bd (oM<|kC "tuple" Xe) λb1=>.ret<|!b1) λb9=>if b9 then .ret true else bd (bd (oM<|dm [Xe]) λx2=>oM<|cI x2<|.int 3) λb8=>if b8 then .ret true else bd (bd (bd (oM<|aD Xe<|.int 0) λx3=>bd (bd (oM<|aD TK<|.int 1) λx4=>oM<|dm [x4]) λx5=>cO x3 x5) λx6=>oM<|iX x6) λb7=>.ret<|!b7) λYd=>if Yd then
  .ret (.tuple [(.str "shape"),(.int 0)])
  else
  dg Xe λy11 y12 y13=>bd (bd (bd (oM<|e6 [y11]) λTo=>oM<|eX To<|.int 60) λb18=>if b18 then .ret true else bd (bd (oM<|kC "tuple" y12) λZa=>.ret<|!Za) λb17=>if b17 then .ret true else bd (oM<|kC "tuple" y13) λUN=>.ret<|!UN) λb19=>if b19 then
  .ret (.tuple [(.str "shape"),(.int 0)])
  else
  bd (dU TK y11) λVP=>bd (bd (oM<|dm [y12]) λU0=>oM<|bO [U0]) λl22=>cH (λWJ d80 kn=>iS WJ.1 WJ.2.1 WJ.2.2.1 WJ.2.2.2.1 WJ.2.2.2.2.1 WJ.2.2.2.2.2.1 d80 kn) l22 (TK,Ue,y11,y12,y13,VP,()) λWJ=>iU WJ.1 WJ.2.1 WJ.2.2.1 WJ.2.2.2.1 WJ.2.2.2.2.1 WJ.2.2.2.2.2.1
def ql:=yW fk
theorem qj(B:BN K mg):CF P w K mg base "_law_err_due" 10 (pN K 3 ql) :=
 R3 ["_law_rule","_law_question_here","_law_thing","_law_counts_here","_law_numbers","_law_ranks","_law_crowd","_law_k","_law_steps_here","_law_told","_law_word","_law_here","_law_rank","_law_behind","_law_lesser"] B.Tw λhr nd =>
  (Js (Iv (Ni<|MZ<|Kv (MU<|MW (MJ (T := "tuple") ?C rfl B.i rfl B.i ?G ?jF rfl rfl rfl) ?T)<|Kv (Zm ?qX D5 (G7<|CE J7 Pr B.i gh<|Kb ?jF Mg) ?P)<|VH<|MU<|OI (G7<|AI (g9 B) hr.m<|Mp (m_ hr ?jF ?P)<|Mp (CE J7 Pr B.i gh<|Kb (G7 ?I) Mg) Oj) ?T)
  (Yv<|O3<|JE<|Je<|Mp J8 ?qb)
  Ku)
  <|Js (LI (sh:=[.f,.f,.z,.f,.f,.f,.z,.z,.z,.z,.z,.z,.z,.z,.z])<|Ao (JE<|av 2) (Cb rfl (Jz (Jx (i:=3) ?U nd) (Jz (Jx (i:=4) ?U nd) (Jz (Jx (i:=5) ?U nd) MT rfl) rfl) rfl) rfl rfl) rfl rfl rfl)
  <|Js (Iv (Ni<|MZ<|Kv (Zm P8 Hk (G7<|CE (ID rfl) BJ B.i ?G<|Kb ?qi Mg) ?P)<|Kv (MU<|MW (MJ (T := "tuple") ?C rfl B.i rfl B.i ?G ?qo rfl rfl rfl) ?T)<|VH<|MU<|MW (MJ (T := "tuple") ?C rfl B.i rfl B.i ?G (SS 5) rfl rfl rfl) ?T)
  (Yv<|O3<|JE<|Je<|Mp J8 ?qb)
  Ku)
  <|Js (LI (sh:=[.f,.f,.z,.f,.f,.f,.f,.z,.z,.z,.z,.z,.z,.z,.z])<|SD (i:=6) nd<|JE<|AI (lN B) hr.m<|Mp ?qj<|Mp ?qa Oj)
  <|Js (Az (sh:=[.f,.f,.z,.f,.f,.f,.f,.z,.z,.z,.z,.z,.z,.z,.z]) PassesOwn.leaving rfl (Cg<|Bg rfl B.i (Mp (CE J7 Pr B.i gh<|Kb ?qo Mg) Oj) rfl) (Jx (i:=7) ?U nd)
  <|Js (LI (sh:=[.f,.f,.z,.f,.f,.f,.z,.f,.k,.z,.z,.z,.z,.z,.z])<|An true false (i:=8) rfl ?O rfl B.i nd rfl ?jw (JE<|AI (i6 B) hr.m<|Mp ?qj<|Mp (av 6) Oj) rfl rfl<|.inl rfl)
  <|Js (Iv (Ni<|MZ<|Kv (MU<|OI (G7<|AI (eY B) hr.m<|Mp (m_ hr ?qo<|SS 7) Oj) ?T)<|VH<|Zm (M3 ?O) M2 (G7<|m_ hr ?qo<|SS 7)<|Pb (i:=8))
  (Yv<|O3<|JE<|Je<|Mp J8<|Mp (av 7) Oj)
  Ku)
  <|Yv<|SD (i:=6) nd<|JE<|m_ hr (Pb (i:=8))<|G7<|m_ hr ?qo<|SS 7)
  <|Js (Az (sh:=[.f,.f,.z,.f,.z,.f,.f,.z,.z,.z,.z,.z,.z,.z,.z]) PassesOwn.leaving rfl (Cg<|Bg rfl B.i (Mp (CE J7 Pr B.i gh<|Kb (SS 5) Mg) Oj) rfl) (Jx (i:=7) ?U nd)
  <|Yv<|Iv (Ni<|OI (G7<|AI (o7 B) hr.m<|Mp ?qj<|Mp (av 5)<|Mp (av 7)<|Mp (CE (ID rfl) BJ B.i ?G<|Kb ?qi Mg) Oj) ?T)
  (Yv<|O3<|JE<|Je<|Mp J8<|Mp (av 7) Oj)
  Ku)
  <|Js (LI (sh:=[.f,.f,.z,.f,.z,.f,.f,.z,.z,.t,.z,.z,.z,.z,.z])<|An false true (i:=9) rfl ?O rfl B.i nd rfl ?jw (JE<|av 5) rfl rfl<|.inl rfl)
  <|Js (Iv (Ni<|Zm (M3 ?O) M2 (SS 6)<|Pb (i:=9))
  (Yv<|O3<|JE<|Je<|Mp J8 ?qb)
  Ku)
  <|Js (LI (sh:=[.f,.z,.z,.z,.z,.f,.z,.z,.z,.t,.f,.z,.z,.z,.z])<|SD (i:=10) nd<|JE<|m_ hr (G7<|Ol<|Oq<|Mp J8<|Mp J8 Oj)<|G7<|G6 Qg OZ B.i ?G<|Kb (G7<|AI (lM B 8) hr.m<|Mp (av 1)<|Mp ?qa Oj) Mg)
  <|Js (Az (sh:=[.f,.z,.z,.z,.z,.f,.z,.z,.z,.t,.f,.z,.z,.z,.z]) PassesOwn.leaving rfl (Cg<|Bg rfl B.i (Mp (CE J7 Pr B.i gh<|Kb (SS 5) Mg) Oj) rfl) (Jx (i:=7) ?U nd)
  <|Js (LI (sh:=[.f,.z,.z,.z,.z,.f,.z,.f,.z,.t,.f,.f,.f,.z,.z])<|Ao (JE<|m_ hr (SS 5)<|SS 7) (JO rfl (Jz (Jx (i:=11) ?U nd) (Jz (Jx (i:=12) ?U nd) MT rfl) rfl) rfl rfl) rfl rfl rfl)
  <|Js (LI (sh:=[.f,.z,.z,.z,.z,.f,.z,.f,.z,.t,.f,.f,.f,.f,.z])<|OA (i:=13) nd rfl ?jw (.inl rfl) (N':=Ru) (k:=2) rfl ?H (Bi<|AI (i6 B) hr.m<|Mp ?qj<|Mp (av 11) Oj) (λ_ _ _ _ _=>(JO rfl (Jz (Jx (i:=15) (show 15<=15 by decide) gL) (Jz (Jx (i:=16) (show 15<=16 by decide) gL) MT rfl) rfl) rfl rfl)) ?jk (λ_ _ _ _ _=>(av 16)) rfl ?T)
  <|Js (Iv (Ni<|Zm ?qX D5 (G7<|Ol<|VL (N':=F_) (k:=1) rfl ?H (Bi<|av 13) (λ_ _ _ _ _=>(Jx (i:=15) (show 15<=15 by decide) gK)) (λ_ _ _ _ _=>(JS<|Zm (M3 ?O) M2 (SS 15)<|Pb (i:=9))) λ_ _ _ _ _=>(av 15)) ?qT)
  (Yv<|O3<|JE<|Je<|Mp J8<|Mp (av 7) Oj)
  Ku)
  <|Js (LI (sh:=[.f,.z,.z,.z,.z,.f,.z,.f,.z,.t,.f,.f,.f,.z,.f])<|OA (i:=14) nd rfl ?jw (.inl rfl) (N':=F_) (k:=1) rfl ?H (Bi<|av 13) (λ_ _ _ _ _=>(Jx (i:=15) (show 15<=15 by decide) gK)) (λ_ _ _ _ _=>(JS<|Zm (MX ?O) OF (G7<|m_ hr (Pb (i:=9))<|SS 15)<|SS 12)) (λ_ _ _ _ _=>(av 15)) rfl ?T)
  <|Yv<|Iv (Ni<|MZ<|Kv (MZ<|M0 (Zm ?jR D5 (SS 12) ?P)<|M5<|Zm ?jR D5 (G7<|AI (nI B) hr.m<|Mp ?qj<|Mp (av 11) Oj)<|SS 10)<|VH<|MZ<|M0 (Zm P8 Hk (SS 12) ?P)<|M5<|Zm ?jR D5 (SS 14) ?qT)
  (Yv<|O3<|JE<|Je<|Mp J8<|Mp (av 7) Oj)
  Ku)
  <|Yv<|O3<|JE PI)
abbrev Q8:Re Str:=["_law_sorts","_law_most","_law_rows","_law_sort","_law_longer","_law_row ","_law_found","_law_hands","_law_row"]
theorem jG:Q8.Nodup:=by decide +kernel
abbrev P_:Re Str:=["_law_sorts","_law_most","_law_rows","_law_sort","_law_longer","_law_row","_law_found","_law_hands","_law_many"]
theorem jF:P_.Nodup:=by decide +kernel
def kZ(gaZ:D)(Rj:Re D):M D :=
 .ret<|PyData.list Rj
def gm(gaZ:D)(Rj:Re D)(d_:D)(YS:D×Re D×Unit->M D):M D :=
 bd (bd (bd (bd (oM<|bZ gaZ) λl8=>bd (aW (λd5=>bd (bd (oM<|e6 [d5]) λx6=>oM<|bp x6 d_) λb7=>if b7 then .ret (some d5)else .ret none) l8) cp) λl9=>.ret<|PyData.list l9) λR9=>oM<|jK yF [R9]) λT9=>bd (oM<|sw Rj T9) λU_=>YS (gaZ,U_,())
def dN(TJ gaZ:D):M D :=
 bd (bd (oM<|bE TJ<|.int 1) λx2=>oM<|jL [(.int 1),x2]) λl3=>cH (λRr Vv kn=>gm Rr.1 Rr.2.1 Vv kn) l3 (gaZ,[],()) λRr=>kZ Rr.1 Rr.2.1
def kY(Ux:D×D×Unit->M D)(TJ:D)(gaN:Re D):M D :=
 Ux (TJ,(PyData.list gaN),())
def kX(Ux:D×D×Unit->M D)(TJ:D)(gaN:Re D)(d_:D)(zaX:D×Re D×Unit->M D):M D :=
 bd (bd (bd (bd (bd (oM<|e6 [d_]) λWI=>oM<|gJ TJ WI) λSY=>oM<|bE SY<|.int 1) λVP=>oM<|bO [VP]) λl23=>bd (aW (λd21=>bd (oM<|bE d_<|.tuple [d21]) λTQ=>.ret<|some TQ) l23) cp) λl24=>bd (oM<|sw gaN l24) λYh=>zaX (TJ,Yh,())
def gn(TJ gaZ d_:D)(Ux:D×D×Unit->M D):M D :=
 bd (oM<|bZ gaZ) λl16=>cH (λS9 d27 kn=>kX Ux S9.1 S9.2.1 d27 kn) l16 (TJ,[],()) λS9=>kY Ux S9.1 S9.2.1
def cP(Zy gaD:D):M D :=
 bd (oM<|bO [Zy]) λl1=>cH (λSo d29 kn=>gn So.1 So.2.1 d29 kn) l1 (gaD,(PyData.list [(.tuple [])]),()) λSo=>dN So.1 So.2.1
def mH:=vF cP
theorem mE(B:BN K mg):CF P w K mg base "_law_beginnings" 1 (pN K 2 mH) :=
 R3 ["_law_sorts","_law_most","_law_rows","_law_sort","_law_longer","_law_row","_law_found","_law_hands"] B.SA λhr nd =>
  (Js (LI (sh:=[.f,.f,.f,.z,.z,.z,.z,.z])<|SD (i:=2) nd<|JE<|Ol<|Oq<|Mp (Je Oj) Oj)
  <|Js (Az (sh:=[.z,.f,.f,.z,.z,.z,.z,.z]) PassesOwn.leaving rfl (Cg<|Bg rfl B.i (Mp ?qj Oj) rfl) (Jx (i:=3) ?U nd)
  <|Js (LI (sh:=[.z,.f,.f,.z,.o,.z,.z,.z])<|Wk (i:=4) nd ?qw)
  <|Js (Az (sh:=[.z,.f,.z,.z,.o,.z,.z,.z]) PassesOwn.leaving rfl (Cg<|Bi<|av 2) (Jx (i:=5) ?U nd)
  <|Yv<|MY (i:=4) rfl ?jh (JC<|VL (N':=P_) (k:=1) rfl ?H (Bg rfl B.i (Mp (NQ Jm Kc (G7<|NQ P3 AN ?j4<|G7<|CE (ID rfl) BJ B.i ?G<|Kb (SS 5) Mg) ?P) Oj) rfl) (λ_ _ _ _ _=>(Jx (i:=8) (show 8<=8 by decide) jF)) ?jk λ_ _ _ _ _=>(NQ Jm Kc (SS 5)<|G7<|Je<|Mp (av 8) Oj)) rfl rfl rfl rfl rfl rfl)
  <|Yv<|Dj (i:=4)<|SD (i:=2) nd<|JE<|av 4)
  <|Js (LI (sh:=[.z,.f,.f,.z,.z,.z,.o,.z])<|Wk (i:=6) nd ?qw)
  <|Js (Az (sh:=[.z,.z,.f,.z,.z,.z,.o,.z]) PassesOwn.leaving rfl (Cg<|E4 rfl B.i (Mp My<|Mp (NQ Jm Kc ?j4 ?P) Oj) rfl rfl) (Jx (i:=7) ?U nd)
  <|Yv<|MY (i:=6) rfl ?jh (JC<|CR (jM (g:=yF) ?O) nF B.i ?G<|Kb (G7<|Ol<|VL (N':=Q8) (k:=1) rfl ?H (Bi<|av 2) (λ_ _ _ _ _=>(Jx (i:=8) (show 8<=8 by decide) jG)) (λ_ _ _ _ _=>(JS<|Zm ?jR D5 (G7<|CE (ID rfl) BJ B.i ?G<|Kb (SS 8) Mg)<|SS 7)) λ_ _ _ _ _=>(av 8)) Mg) rfl rfl rfl rfl rfl rfl)
  <|Yv<|Dj (i:=6)<|O3<|JE<|av 6)
abbrev RP:Re Str:=["_law_sorts","_law_rooms","_law_pairs","_law_meets","_law_pair","_law_longer","_law_row","_law_found","_law_number","_law_starts","_law_says","_law_some","_law_k"]
theorem nR:RP.Nodup:=by decide +kernel
abbrev RO:Re Str:=["_law_sorts","_law_rooms","_law_pairs","_law_meets","_law_pair","_law_longer","_law_row","_law_found","_law_number","_law_starts","_law_says","_law_some","_law_sort"]
theorem nQ:RO.Nodup:=by decide +kernel
abbrev RN:Re Str:=["_law_sorts","_law_rooms","_law_pairs","_law_meets","_law_pair","_law_longer","_law_row","_law_found","_law_number","_law_starts","_law_says","_law_some","_law_room"]
theorem nP:RN.Nodup:=by decide +kernel
abbrev RM:Re Str:=["_law_sorts","_law_rooms","_law_pairs","_law_meets","_law_pair","_law_longer","_law_row ","_law_found","_law_number","_law_starts","_law_says","_law_some","_law_row"]
theorem nO:RM.Nodup:=by decide +kernel
abbrev RL:Re Str:=["_law_sorts","_law_rooms","_law_pairs","_law_meets","_law_pair","_law_longer","_law_row","_law_found","_law_number","_law_starts","_law_says","_law_some","_law_other"]
theorem nN:RL.Nodup:=by decide +kernel
def cu(UA Uc ZD:D)(Rj:Re D):M D :=
 bd (bd (oM (jK gX [(PyData.list Rj)])) λl7=>.ret ?qC) λx8=>bd (bd (bd (bd (oM (dm [x8])) λx9=>oM (bO [x9])) λWN=>bd (aW (λUh=>bd (bd (oM (bp Uh (.int 0))) λYb=>if Yb then .ret true else bd (bd (oM (gJ Uh (.int 1))) λSl=>oM (aD x8 Sl)) λSK=>bd (oM (aD x8 Uh)) λTp=>oM (cI SK Tp)) λUN=>if UN then bd (oM (aD x8 Uh)) λS7=>.ret (some S7)else .ret none) WN) cp) λV4=>.ret (PyData.list V4)) λSY=>.ret SY
def qC(UA Uc ZD:D)(Rj:Re D)(d_:D)(zaU:D×D×D×Re D×Unit->M D):M D :=
 bd (bd (bd (bd (oM<|bO [UA]) λl26=>bd (aW (λd21=>bd (bd (bd (oM<|lL d_<|.int 4) λTQ=>bd (oM<|aD (PyData.list [(.int 1),Uc]) d21) λUZ=>oM<|lL TQ UZ) λXm=>oM<|iF Xm Uc) λUj=>.ret<|some Uj) l26) cp) λl27=>.ret<|PyData.list l27) λVN=>oM<|dJ [VN]) λZj=>bd (bd (bd (bd (oM<|bO [Uc]) λl36=>bd (aW (λd30=>bd (bd (bd (bd (bd (oM<|aD (PyData.list [(.int 1),(.int 2)]) d30) λZi=>oM<|lL d_ Zi) λx32=>oM<|iF x32<|.int 2) λZS=>oM<|bp ZS<|.int 1) λb34=>.ret<|.bool b34) λZR=>.ret<|some ZR) l36) cp) λl37=>.ret<|PyData.list l37) λx38=>oM<|dJ [x38]) λZQ=>bd (bd (oM<|bZ ZD) λl41=>bd (aW (λd40=>.ret<|some<|.tuple [Uc,Zj,d40,ZQ]) l41) cp) λl42=>bd (oM<|sw Rj l42) λl43=>zaU (UA,Uc,ZD,l43,())
def dz(UA Uc:D)(gaR ZD:D):M D :=
 bd (oM<|bO [(.int 64)]) λl6=>cH (λYF d45 kn=>qC YF.1 YF.2.1 YF.2.2.1 YF.2.2.2.1 d45 kn) l6 (UA,Uc,ZD,[],()) λYF=>cu YF.1 YF.2.1 YF.2.2.1 YF.2.2.2.1
def qD(XE:D×D×D×D×Unit->M D)(UA Uc:D)(gaR gbf:D)(gaN:Re D):M D :=
 XE (UA,Uc,gaR,(PyData.list gaN),())
def qB(XE:D×D×D×D×Unit->M D)(UA Uc:D)(gaR gbf:D)(gaN:Re D)(d_:D)(zaQ:D×D×D×D×Re D×Unit->M D):M D :=
 bd (bd (oM (bZ gaR)) λl55=>bd (aW (λd50=>bd (oM (cI d50 gbf)) λb54=>if b54 then bd (bd (bd (oM (bE gbf d50)) λx51=>.ret (.tuple [x51])) λx52=>oM (bE d_ x52)) λx53=>.ret (some x53)else .ret none) l55) cp) λl56=>bd (oM (sw gaN l56)) λl57=>zaQ (UA,Uc,gaR,gbf,l57,())
def dw(UA Uc:D)(gaR ZD d_:D)(XE:D×D×D×D×Unit->M D):M D :=
 bd (oM<|lU [ZD]) λl47=>bd (oM<|bZ ZD) λl48=>cH (λXp d59 kn=>qB XE Xp.1 Xp.2.1 Xp.2.2.1 Xp.2.2.2.1 Xp.2.2.2.2.1 d59 kn) l48 (UA,Uc,gaR,d_,l47,()) λXp=>qD XE Xp.1 Xp.2.1 Xp.2.2.1 Xp.2.2.2.1 Xp.2.2.2.2.1
def bK(Zy gbd:D):M D :=
 bd (bd (bd (bd (oM<|fN (.int 2) gbd) λx1=>oM<|gJ x1<|.int 1) λx2=>mF x2) λhi3=>oM<|kD (PyData.list [(.tuple [(.int 0),(.int 0)]),(.tuple [(.int 0),(.int 1)]),(.tuple [(.int 1),(.int 1)])]) none hi3) λx4=>bd (oM<|bZ x4) λl5=>cH (λUp d61 kn=>dw Up.1 Up.2.1 Up.2.2.1 Up.2.2.2.1 d61 kn) l5 (Zy,gbd,x4,(PyData.list [(.tuple [])]),()) λUp=>dz Up.1 Up.2.1 Up.2.2.1 Up.2.2.2.1
def t6:=vF bK
theorem tT(B:BN K mg):CF P w K mg base "_law_rules" 1 (pN K 2 t6) :=
 R3 ["_law_sorts","_law_rooms","_law_pairs","_law_meets","_law_pair","_law_longer","_law_row","_law_found","_law_number","_law_starts","_law_says","_law_some"] B.UJ λhr nd =>
  (Js (LI (sh:=[.f,.f,.f,.z,.z,.z,.z,.z,.z,.z,.z,.z])<|SD (i:=2) nd<|JE<|OB (G7<|Ol<|Oq<|Mp (Je<|Mp My ?qb)<|Mp (Je<|Mp My ?qb)<|Mp (Je<|Mp My ?qb) Oj) Jj<|OG<|NQ P3 AN (G7<|NQ P4 D6 ?P ?j4) ?P)
  <|Js (LI (sh:=[.f,.f,.f,.f,.z,.z,.z,.z,.z,.z,.z,.z])<|SD (i:=3) nd<|JE<|Ol<|Oq<|Mp (Je Oj) Oj)
  <|Js (Az (sh:=[.f,.f,.f,.f,.z,.z,.z,.z,.z,.z,.z,.z]) PassesOwn.leaving rfl (Cg<|Bi<|av 2) (Jx (i:=4) ?U nd)
  <|Js (LI (sh:=[.f,.f,.f,.f,.f,.o,.z,.z,.z,.z,.z,.z])<|Wk (i:=5) nd<|JC<|Mr QG Zn B.i ?G<|Kb ?qi Mg)
  <|Js (Az (sh:=[.f,.f,.f,.z,.f,.o,.z,.z,.z,.z,.z,.z]) PassesOwn.leaving rfl (Cg<|Bi ?qa) (Jx (i:=6) ?U nd)
  <|Yv<|MY (i:=5) rfl ?jh (JC<|VL (N':=RL) (k:=1) rfl ?H (Bi<|av 2) (λ_ _ _ _ _=>(Jx (i:=12) (show 12<=12 by decide) nN)) (λ_ _ _ _ _=>(JS<|Zm ?qX D5 (SS 12) ?qo)) λ_ _ _ _ _=>(NQ Jm Kc (SS 6)<|G7<|Je<|Mp (NQ Jm Kc ?qo<|SS 12) Oj)) rfl rfl rfl rfl rfl rfl)
  <|Yv<|Dj (i:=5)<|SD (i:=3) nd<|JE<|av 5)
  <|Js (LI (sh:=[.f,.f,.z,.f,.z,.z,.z,.o,.z,.z,.z,.z])<|Wk (i:=7) nd ?qw)
  <|Js (Az (sh:=[.f,.f,.z,.f,.z,.z,.z,.o,.z,.z,.z,.z]) PassesOwn.leaving rfl (Cg<|Bg rfl B.i ?qb rfl) (Jx (i:=8) ?U nd)
  <|Js (LI (sh:=[.f,.f,.z,.f,.z,.z,.z,.o,.f,.f,.z,.z])<|SD (i:=9) nd<|JE<|G6 QH GS B.i ?G<|Kb (G7<|Ol<|VL (N':=RO) (k:=1) rfl ?H (Bg rfl B.i (Mp ?qj Oj) rfl) (λ_ _ _ _ _=>(Jx (i:=12) (show 12<=12 by decide) nQ)) ?jk λ_ _ _ _ _=>(NQ P6 Mi (G7<|NQ P5 ON (G7<|NQ P5 ON (SS 8) ?P)<|G7<|m_ hr (G7<|Ol<|Oq<|Mp My ?Z)<|SS 12) ?j4)) Mg)
  <|Js (LI (sh:=[.f,.f,.z,.f,.z,.z,.z,.o,.z,.f,.f,.z])<|SD (i:=10) nd<|JE<|G6 QH GS B.i ?G<|Kb (G7<|Ol<|VL (N':=RN) (k:=1) rfl ?H (Bg rfl B.i ?Z rfl) (λ_ _ _ _ _=>(Jx (i:=12) (show 12<=12 by decide) nP)) ?jk λ_ _ _ _ _=>(VC<|Pq ?jR D5 (G7<|NQ P6 Mi (G7<|NQ P5 ON (SS 8)<|G7<|m_ hr (G7<|Ol<|Oq<|Mp My ?qb)<|SS 12) ?P) ?P)) Mg)
  <|Yv<|MY (i:=7) rfl ?jh (JC<|VL (N':=RM) (k:=1) rfl ?H (Bi ?qa) (λ_ _ _ _ _=>(Jx (i:=12) (show 12<=12 by decide) nO)) ?jk λ_ _ _ _ _=>(Je<|Mp (av 1)<|Mp (av 9)<|Mp (av 12)<|Mp (av 10) Oj)) rfl rfl rfl rfl rfl rfl)
  <|Js (LI (sh:=[.z,.z,.z,.z,.z,.z,.z,.z,.z,.z,.z,.f])<|SD (i:=11) nd<|JE<|Ol<|CR (jM (g:=gX) ?O) nF B.i ?G<|Kb (Pb (i:=7)) Mg)
  <|Yv<|O3<|JE<|Ol<|VL (N':=RP) (k:=1) rfl ?H (Bg rfl B.i (Mp (CE J7 Pr B.i gh<|Kb (SS 11) Mg) Oj) rfl) (λ_ _ _ _ _=>(Jx (i:=12) (show 12<=12 by decide) nR)) (λ_ _ _ _ _=>(JS<|MZ<|Kv (Zm ?jR D5 (SS 12) ?P)<|VH<|Zm ?qX D5 (G7<|m_ hr (SS 11)<|G7<|NQ P3 AN (SS 12) ?P)<|G7<|m_ hr (SS 11)<|SS 12)) λ_ _ _ _ _=>(m_ hr (SS 11)<|SS 12))
def kW(SI UC:D):M D :=
 .ret<|.bool false
def iq(SI UC d_:D)(kn5:D×D×Unit->M D):M D :=
 bd (bd (iO SI UC d_) λx6=>oM<|cI x6 ?qd) λb7=>if b7 then
  .ret (.bool true)
  else
  kn5 (SI,UC,())
def iQ(TK Ue gaD:D):M D :=
 bd (bd (bd (bd (oM<|aD TK<|.int 1) λx1=>oM<|dm [x1]) λx2=>cP x2 gaD) λx3=>oM<|bZ x3) λl4=>cH (λs8 d9 kn=>iq s8.1 s8.2.1 d9 kn) l4 (TK,Ue,()) λs8=>kW s8.1 s8.2.1
def wb:=yW iQ
theorem v0(B:BN K mg):CF P w K mg base "_law_errs" 11 (pN K 3 wb) :=
 R3 ["_law_rule","_law_question_here","_law_most","_law_counts_here"] B.Vr λhr nd =>
  (Js (Az (sh:=[.f,.f,.z,.z]) PassesOwn.leaving rfl (Cg<|Bi<|AI (mE B) hr.m<|Mp (CE J7 Pr B.i gh<|Kb (G7 ?I) Mg) ?qn) (Jx (i:=3) ?U nd)
  <|Yv<|Iv (Ni<|Zm ?qX D5 (G7<|AI (vY B) hr.m<|Mp ?qj<|Mp (av 1)<|Mp ?qa Oj) ?qT)
  ?jr
  Ku)
  ?jr)
def j4(UC ZA TJ:D):M D :=
 .ret<|.bool false
def gH(UC ZA:D)(TJ d_:D)(Ri:D×D×D×Unit->M D):M D :=
 bd (bd (bd (iQ d_ UC TJ) λSl=>oM<|iX Sl) λZc=>.ret<|!Zc) λZb=>if Zb then
  bd (bd (bd (bd (oM<|aD ZA<|.int 1) λTo=>oM<|jW [To]) λS7=>bd (oM<|jW [d_]) λVQ=>oM<|bp S7 VQ) λb17=>.ret<|.bool b17) λWI=>.ret WI
  else
  Ri (UC,ZA,TJ,())
def j3(UC TJ:D):M D :=
 .ret<|.bool true
def gG(UC TJ d_:D)(zaS:D×D×Unit->M D):M D :=
 yG d_ λy31 y32=>bd (bd (bd (fk y31 UC y32) λZS=>oM<|fM ZS .none) λb36=>if b36 then .ret true else bd (bd (oM<|aD y32<|.int 0) λx34=>oM<|e6 [x34]) λZR=>oM<|eX ZR TJ) λb37=>if b37 then
  .ret (.bool false)
  else
  zaS (UC,TJ,())
def dS(Ue gaG:D)(ZE gaD:D):M D :=
 bd (bd (bd (oM<|kC "tuple" ZE) λb1=>.ret<|!b1) λb5=>if b5 then .ret true else bd (bd (oM<|dm [ZE]) λx2=>oM<|cI x2<|.int 2) λb4=>if b4 then .ret true else bd (oM<|aD ZE<|.int 0) λx3=>oM<|bc x3<|.tuple [(.str "rule"),(.str "none")]) λb6=>if b6 then
  .ret (.bool false)
  else
  bd (bd (oM<|aD ZE<|.int 0) λx7=>oM<|bp x7<|.str "rule") λb8=>if b8 then
  bd (oM<|bZ gaG) λl9=>cH (λRw W5 kn=>gH Rw.1 Rw.2.1 Rw.2.2.1 W5 kn) l9 (Ue,ZE,gaD,()) λRw=>j4 Rw.1 Rw.2.1 Rw.2.2.1
  else
  bd (bd (bd (bd (oM<|aD ZE<|.int 1) λU0=>oM<|kC "tuple" U0) λb22=>.ret<|!b22) λY_=>if Y_ then .ret true else bd (bd (oM<|aD ZE<|.int 1) λUZ=>oM<|dm [UZ]) λXm=>bd (oM<|dm [gaG]) λUj=>oM<|cI Xm Uj) λb27=>if b27 then
  .ret (.bool false)
  else
  bd (bd (oM<|aD ZE<|.int 1) λVN=>oM<|JV [gaG,VN]) λl29=>cH (λXq d39 kn=>gG Xq.1 Xq.2.1 d39 kn) l29 (Ue,gaD,()) λXq=>j3 Xq.1 Xq.2.1
def t7:=pF dS
theorem tU(B:BN K mg):CF P w K mg base "_law_right" 12 (pN K 4 t7) :=
 R3 ["_law_question_here","_law_rules_here","_law_told","_law_most","_law_rule","_law_paper"] B.UK λhr nd =>
  (Js (Iv (Ni<|MZ<|Kv (MU<|MW (MJ (T := "tuple") ?C rfl B.i rfl B.i ?G ?jF rfl rfl rfl) ?T)<|Kv (Zm ?qX D5 (G7<|CE J7 Pr B.i gh<|Kb ?jF Mg) ?P)<|VH<|Zm (M3 ?O) M2 (G7<|m_ hr ?jF ?P)<|G7<|Je<|Mp J8<|Mp J8 Oj)
  ?jr
  Ku)
  <|Js (Iv (Ni<|Zm ?jR D5 (G7<|m_ hr ?jF ?P)<|G7 J8)
  (Js (Az (sh:=[.f,.z,.f,.f,.z,.z]) PassesOwn.leaving rfl (Cg<|Bi<|av 1) (Jx (i:=4) ?U nd)
  <|Yv<|Iv (Ni<|MU<|OI (G7<|AI (v0 B) hr.m<|Mp (av 4)<|Mp ?qj<|Mp ?qa Oj) ?T)
  (Yv<|O3<|JE<|VC<|Pq ?jR D5 (G7<|CE (XR ?O hr.gd) SV B.i ?G<|Kb (G7<|m_ hr ?jF ?P) Mg)<|G7<|CE (XR ?O hr.gd) SV B.i ?G<|Kb ?qo Mg)
  Ku)
  ?jr)
  Ku)
  <|Js (Iv (Ni<|MZ<|Kv (MU<|MW (MJ (T := "tuple") ?C rfl B.i rfl B.i ?G (G7<|m_ hr ?jF ?P) rfl rfl rfl) ?T)<|VH<|Zm ?qX D5 (G7<|CE J7 Pr B.i gh<|Kb (G7<|m_ hr ?jF ?P) Mg)<|G7<|CE J7 Pr B.i gh<|Kb ?j4 Mg)
  ?jr
  Ku)
  <|Js (Az (sh:=[.f,.z,.z,.f,.z,.z]) PassesOwn.leaving rfl (Cg<|IT rfl B.i (Mp (av 1)<|Mp (m_ hr ?jF ?P) Oj) rfl rfl) (JO rfl (Jz (Jx (i:=4) ?U nd) (Jz (Jx (i:=5) ?U nd) MT rfl) rfl) rfl rfl)
  <|Yv<|Iv (Ni<|MZ<|Kv (Zm MH D5 (G7<|AI (qj B) hr.m<|Mp (av 4)<|Mp ?qj<|Mp (av 5) Oj)<|G7 PI)<|VH<|Zm P8 Hk (G7<|CE (ID rfl) BJ B.i ?G<|Kb (G7<|m_ hr (SS 5) ?P) Mg) ?qi)
  ?jr
  Ku)
  ?jr)
abbrev Oi:Re Str:=["_law_script","_law_k","_law_feed_here","_law_rooms","_law_sorts","_law_most","_law_question_here","_law_wrote","_law_rules_here","_law_told"]
def D_:o_ Oi ["_law_script"] (aN<|top 51):={rfl,rfl,rfl,by decide +kernel,rfl,by decide +kernel,by decide +kernel}
def zu(Xd:D):M D :=
 .ret<|.bool true
def jt(RY:D×Unit->M D)(Xd:D)(ga5:Re D)(Uc UA TJ:D):M D :=
 bd (dA 8 ga5 UA<|.int 1) λr19=>bd (oM<|jW [r19.1]) λVP=>bd (bK UA Uc) λU0=>bd (js r19.1 UA Uc TJ) λTQ=>bd (bd (bd (bd (dS r19.1 U0 TQ TJ) λUZ=>oM<|iX UZ) λb24=>.ret<|!b24) λY_=>if Y_ then .ret true else bd (oM<|jW [r19.1]) λUj=>oM<|cI Uj VP) λb27=>if b27 then
  .ret (.bool false)
  else
  RY (Xd,())
def oG(RY:D×Unit->M D)(Xd:D)(ga5:Re D)(Uc UA TJ:D):M D :=
 bd (dA 8 ga5 UA<|.int 1) λr38=>bd (oM<|jW [r38.1]) λZQ=>bd (bK UA Uc) λx40=>bd (js r38.1 UA Uc TJ) λx41=>bd (bd (bd (bd (dS r38.1 x40 x41 TJ) λx42=>oM<|iX x42) λb43=>.ret<|!b43) λb45=>if b45 then .ret true else bd (oM<|jW [r38.1]) λx44=>oM<|cI x44 ZQ) λb46=>if b46 then
  .ret (.bool false)
  else
  RY (Xd,())
def tE(Xd d_:D)(RY:D×Unit->M D):M D :=
 bd (iP Xd d_) λl3=>bd (aF l3<|.int 3) λr4=>bd (oM<|aD (PyData.list [(.int 1),(.int 2),(.int 2)]) r4.1) λx5=>bd (oM<|bp x5<|.int 1) λb6=>if b6 then bd (aF r4.2<|.int 2) λr7=>bd (oM<|bp r7.1<|.int 0) λb8=>bd (oM<|qr [(.bool b8)]) λx9=>bd (oM<|bE (.int 1) x9) λR9=>bd (aF r7.2<|.int 5) λZ1=>bd (oM<|bE (.int 1) Z1.1) λSK=>bd (oM<|bp d_<|.int 2) λZb=>if Zb then bd (aF Z1.2<|.int 3) λZ0=>bd (oM<|bp Z0.1<|.int 0) λZa=>if Za then
  dg (.tuple [(.int 2),(.int 2),(.int 2)]) λy16 y17 y18=>jt RY Xd Z0.2 y16 y17 y18
  else
  jt RY Xd Z0.2 x5 R9 SK else jt RY Xd Z1.2 x5 R9 SK else bd (oM<|qr [(.bool false)]) λVN=>bd (oM<|bE (.int 1) VN) λZj=>bd (aF r4.2<|.int 5) λXs=>bd (oM<|bE (.int 1) Xs.1) λZi=>bd (oM<|bp d_<|.int 2) λb32=>if b32 then bd (aF Xs.2<|.int 3) λr33=>bd (oM<|bp r33.1<|.int 0) λb34=>if b34 then
  dg (.tuple [(.int 2),(.int 2),(.int 2)]) λy35 y36 y37=>oG RY Xd r33.2 y35 y36 y37
  else
  oG RY Xd r33.2 x5 Zj Zi else oG RY Xd Xs.2 x5 Zj Zi
def lA(YZ:D):M D :=
 bd (oM<|bO [(.int 3)]) λl1=>cH (λs47 d48 kn=>tE s47.1 d48 kn) l1 (YZ,()) λs47=>zu s47.1
def v5:=yV lA
def LE(B:BN K mg){f:Tl}{fd:FuncData}(Fn:Yp K "law" "law" (top 51) f fd):RC P w K mg base (qL P w) 14 f fd ["_law_script"] (pN K 1 v5) :=
 N1 (k:=13) Fn D_ (λp_ A outer s H E hr =>
  (Js (Az (sh:=[.f,.z,.z,.z,.z,.z,.z,.z,.z,.z]) PassesOwn.leaving rfl (Cg<|Bg rfl B.i ?qb rfl) (Jx (i:=1) ?U D_.nd)
  <|Js (LI (sh:=[.f,.f,.o,.z,.z,.z,.z,.z,.z,.z])<|Wk (i:=2) D_.nd<|JC<|Oa (vZ B) hr.m<|Mp ?qj ?Z)
  <|Js (LI (sh:=[.f,.f,.o,.f,.z,.z,.z,.z,.z,.z])<|SD (i:=3) D_.nd<|Ob (AM ?O) HA (JE<|Ol<|Oq<|Mp My<|Mp My ?qb)<|AG (i:=2) (bU B) hr.m ?jL)
  <|Js (LI (sh:=[.f,.f,.o,.f,.f,.z,.z,.z,.z,.z])<|SD (i:=4) D_.nd<|JD Jm Kc (JE My)<|Nl Qg OZ B.i ?G<|O0 (Pl<|IX (Me<|Pq ?jR D5 ?qi ?P)<|IV<|IW ?jR D5 (AG (i:=2) (bU B) hr.m ?jL) (JE My) rfl) KQ)
  <|Js (LI (sh:=[.f,.f,.o,.f,.f,.f,.z,.z,.z,.z])<|SD (i:=5) D_.nd<|JD Jm Kc (JE My)<|AG (i:=2) (bU B) hr.m ?jL)
  <|Js (LI (sh:=[.f,.z,.o,.f,.f,.f,.z,.z,.z,.z])<|Iv (Md<|IU (Ni<|Zm ?jR D5 ?j4 ?P)<|GM<|Cc ?jR D5 (AG (i:=2) (bU B) hr.m ?jL)<|JE My)
  (Yv<|Ao (JE<|Je<|Mp My<|Mp My ?qb) (Cb rfl (Jz (Jx (i:=3) ?U D_.nd) (Jz (Jx (i:=4) ?U D_.nd) (Jz (Jx (i:=5) ?U D_.nd) MT rfl) rfl) rfl) rfl rfl) rfl rfl rfl)
  Ku)
  <|Js (LI (sh:=[.f,.z,.z,.f,.f,.f,.f,.z,.z,.z])<|SD (i:=6) D_.nd<|AG (i:=2) (o8 B 8) hr.m<|O0 (JE<|av 4) ?jL)
  <|Js (LI (sh:=[.f,.z,.z,.f,.f,.f,.f,.f,.z,.z])<|SD (i:=7) D_.nd<|JE<|CE (XR ?O hr.gd) SV B.i ?G<|Kb (SS 6) Mg)
  <|Js (LI (sh:=[.f,.z,.z,.f,.f,.f,.f,.f,.f,.z])<|SD (i:=8) D_.nd<|JE<|AI (tT B) hr.m<|Mp (av 4)<|Mp ?qa Oj)
  <|Js (LI (sh:=[.f,.z,.z,.z,.z,.f,.f,.f,.f,.f])<|SD (i:=9) D_.nd<|JE<|AI (zj B) hr.m<|Mp (av 6)<|Mp (av 4)<|Mp ?qa<|Mp (av 5) Oj)
  <|Yv<|Iv (Ni<|MZ<|Kv (MU<|OI (G7<|AI (tU B) hr.m<|Mp (av 6)<|Mp (av 8)<|Mp (av 9)<|Mp (av 5) Oj) ?T)<|VH<|Zm ?qX D5 (G7<|CE (XR ?O hr.gd) SV B.i ?G<|Kb (SS 6) Mg)<|SS 7)
  ?jr
  Ku)
  ?jr))
 (λds hl=>(by let{YZ,rfl}:=WM hl;kernel_rfl))
end
end
end ZM
namespace L4
open PySem PySem.Spec PyProof.Rows L2 L3
variable {n:Nat}{S T ι:Type}{f:Nat->Nat}
theorem a_(s:S)(k:S->M T):bd (.ret s) k=k s:=id rfl
theorem e_(s:S):oM (some s)=.ret s:=id rfl
def BE{S T:Type}{step:T->D->(T->M S)->M S}{R:M S}{P:Nat->T->Prop}:∀(ds:Re D) (i:Nat) (s:T) (k:T->M S),
  (∀(j:Nat) (s:T) (d:D),d∈ds->i<=j->j<i+ds.length->P j s->∀kn:T->M S,(∀s',P ?qI s'->kn s'=R)->step s d kn=R) ->
  P i s->(∀s',P (i+ds.length) s'->k s'=R)->cD step ds s k=R
 | [],i,s,k,_,hp,hk=>hk s hp
 | d::r,i,s,k,h,hp,hk=>by
  refine h i s d da ?ji ?E hp _ λs' Yi=>?_
  refine BE r ?jx s' k (λj s d hd hj hl=>h j s d (xO _ hd) ?A ?jd) Yi λs' hs=>hk s' ?_
  grind
def Iq{step:T->D->(T->M S)->M S}{R:M S}{P:Nat->T->Prop}(ds:Re D)(i:Nat)(s:T)(k:T->M S)
  (h:∀(j:Nat) (s:T) (d:D),d∈ds->i<=j->j<i+ds.length->P j s->∀kn:T->M S,(∀s',P ?qI s'->kn s'=R)->step s d kn=R)
  (hp:P i s) (hk:∀s',P (i+ds.length) s'->k s'=R):cH step ds s k=R:=by
 rw[Nf];exact BE ds i s k h hp hk
def Gx{step:D->M (SL D)}{g:D->D}:∀(ds:Re D),(∀d∈ds,step d=.ret (some<|g d))->aW step ds=.ret (ds.map g)
 | [],_=>rfl
 | d::r,h=>by
  rw[aW,h d da,Gx r λd hd=>h d<|xO _ hd];rfl
theorem cG{ds:Re S}(h:ds.length<=1000):cp ds=.ret ds:=ap<|Mh h
theorem oN{α:Type}(xs:Re α)(i:Nat)(h:i<xs.length):fT xs (i:Int)=some (xs[i]'h):=by
 unfold fT WQ;rw[ap<|Int.natCast_nonneg _,ap ?A];simp[h]
def L5{α:Type}(xs:Re α)(i:Int)(h0:0<=i)(h:i<xs.length):∃x∈xs,fT xs i=some x:=by
 let{n,rfl}:=Int.eq_ofNat_of_zero_le h0;exact{_,ib _,oN xs n ?A}
noncomputable def Rh(s:Str):Bool:=PyData.strOk s&&decide ((reprText s).length<=24)&&PyData.strOk (reprText s)
noncomputable def Ok(k:Nat):Nat->D->Prop
 | 0,_=>False
 | _+1,.none=>True
 | _+1,.bool _=>True
 | _+1,.int i=>i.natAbs<10^(16+k)
 | _+1,.str s=>Rh s=true
 | n+1,.list ds=>ds.length<=6+k/\∀d∈ds,Ok k n d
 | n+1,.tuple ds=>ds.length<=6+k/\∀d∈ds,Ok k n d
 | _+1,.dict _=>False
theorem n4:∀{ds:Re D},(∀d∈ds,d.canLay0=true)->PyData.canLayAll0 ds=true
 | [],_=>rfl
 | d::r,h=>by
  simp  [PyData.canLayAll0,am];exact{h d da,n4 λe he=>h e<|xO _ he}
theorem kF{n:Nat}:∀{ds:Re D},(∀d∈ds,d.depth<=n)->PyData.depthAll ds<=n
 | [],_=>by simp[PyData.depthAll]
 | d::r,h=>by
  exact Nat.max_le.mpr {h d da,kF λe he=>h e<|xO _ he}
def Li{m:Nat}(h:m<10^36):m.log2<1920:=by
 by_cases h0:m=0
 ·subst h0;decide
 ·exact(Nat.log2_lt h0).mpr<|eg h ?G
def RX{s:Str}:PyData.strOk s=true↔∀c∈s.cps.toList,c<1114112:=by
 unfold PyData.strOk;rw[<-Array.all_toList,su];simp
theorem dO(s:String):PyData.strOk (Str.ofString s)=true:=by
 rw[RX,signs_ofString];intro c hc;let{ch,_,rfl}:=List.mem_map.mp hc;have e:ch.toNat=ch.val.toNat:=rfl
 grind
theorem lg{a b:Str}(ha:PyData.strOk a=true)(hb:PyData.strOk b=true):PyData.strOk (a++b)=true:=by
 rw[RX]at *;intro c hc;let h||h:=mem_cps_append.mp hc
 ·exact ha c h
 ·exact hb c h
theorem rm{sep:Str}{ts:Re Str}(hs:PyData.strOk sep=true)(h:∀t∈ts,PyData.strOk t=true):PyData.strOk (Str.join sep ts)=true:=by
 rw[RX]at *;intro c hc;rcases(mem_join sep c ts).mp hc with ⟨t,ht,hc⟩|⟨_,hc⟩
 ·exact RX.mp (h t ht) c hc
 ·exact hs c hc
def Bu{ts:Re Str}:(Str.join ", " ts).length<=piled ts:=by
 by_cases h:ts=[]
 ·subst h;exact ac _
 ·have:=join_length_add ts h;lia
def lim:Nat->Nat
 | 0=>24
 | n+1=>4+9*(lim n+2)
theorem eqI(a b:Int):bp (.int a) (.int b)=some (a==b):=rfl
theorem neI(a b:Int):cI (.int a) (.int b)=some (!(a==b)):=rfl
theorem leI(a b:Int):dY (.int a) (.int b)=some (decide<|a<=b):=id rfl
theorem ltI(a b:Int):zh (.int a) (.int b)=some (decide<|a<b):=id rfl
def Zw(a b:Int):eX (.int a) (.int b)=some (decide<|b<a):=id rfl
theorem geI(a b:Int):vW (.int a) (.int b)=some (decide<|b<=a):=id rfl
def Wm(a b:Int):bE (.int a) (.int b)=some (.int<|a+b):=id rfl
def PH(a b:Int):gJ (.int a) (.int b)=some (.int<|a - b):=id rfl
def VY(i j:Int)(h:0<j):iF (.int i) (.int j)=some (.int<|i % j):=ap h
def Y7(i j:Int)(h:0<j)(h2:j<1073741824):lL (.int i) (.int j)=some (.int<|i / j):=ap (by simp[h,h2])
theorem mulL(i j:Int)(h : -(2^64)<i)(h2:i<2^64):fN (.int i) (.int j)=some (.int<|i*j):=ap (by simp![bq,si,am,aQ];exact .inl {h,h2})
theorem mulR(i j:Int)(h : -(2^64)<j)(h2:j<2^64):fN (.int i) (.int j)=some (.int<|i*j):=ap (by simp![bq,si,am,aQ];exact .inr {h,h2})
def PD(b:Bool):asB (.bool b)=.ret b:=id rfl
def PC(i:Int):mF (.int i)=.ret (some i):=id rfl
def Pt(b:Bool):iX (.bool b)=some b:=id rfl
theorem yc(ds:Re D):dm [.tuple ds]=some (.int ds.length):=id rfl
def Uv(ds:Re D):dm [.list ds]=some (.int ds.length):=id rfl
def G9(ds:Re D):bZ (.tuple ds)=some ds:=id rfl
theorem oV(ds:Re D):bZ (.list ds)=some ds:=id rfl
def Cr(ds:Re D):dJ [.list ds]=some (.tuple ds):=id rfl
def PF(ds:Re D):dJ [.tuple ds]=some (.tuple ds):=id rfl
def PK(ds:Re D)(lo hi:SL Int):kD (.tuple ds) lo hi=some (.tuple<|L4.cutD ds lo hi):=id rfl
def Pz(ds:Re D)(lo hi:SL Int):kD (.list ds) lo hi=some (.list<|L4.cutD ds lo hi):=id rfl
def Ih(ds:Re D)(n:Nat)(h:n<ds.length):fO (.tuple ds) (.int n)=some ds[n]:=oN ds n h
theorem jJ(a:D)(r:Re D):fO (.tuple<|a::r) (.int 0)=some a:=Ih (a::r) 0 ?E
theorem kB(a b:D)(r:Re D):fO (.tuple<|a::b::r) (.int 1)=some b:=Ih (a::b::r) 1 ?E
theorem wu(a b c:D)(r:Re D):fO (.tuple<|a::b::c::r) (.int 2)=some c:=Ih (a::b::c::r) 2 ?E
def Ii(a b c d:D)(r:Re D):fO (.tuple<|a::b::c::d::r) (.int 3)=some d:=Ih (a::b::c::d::r) 3 ?E
theorem zaw(a b c:D):fO (.list [a,b,c]) (.int 0)=some a:=id rfl
theorem zav(a b c:D):fO (.list [a,b,c]) (.int 1)=some b:=id rfl
theorem zau(a b c:D):fO (.list [a,b,c]) (.int 2)=some c:=id rfl
def OS(a b c d:D):putD [a,b,c] (.int 0) d=some [d,b,c]:=id rfl
def Z2(a b c d:D):putD [a,b,c] (.int 2) d=some [a,b,d]:=id rfl
def LS(ds:Re D)(n:Nat):L4.cutD ds (some n) none=ds.drop n:=by
 unfold L4.cutD;rw[HT.YE,HT.Xn];by_cases h:n<=ds.length
 ·rw[Nat.min_eq_left h,se ?jc]
 ·rw[Nat.min_eq_right ?A,List.drop_of_length_le ?ji,List.drop_of_length_le ?A];simp
def O6(a b:Bool):(if a=true then(M.ret b)else .ret false)=.ret (a&&b):=by cases a<;>rfl
def IL(n m:Nat):((n:Int)==(m:Int))=decide (n=m):=by
 grind
def sW(lo hi:Int):D->Bool
 | .int i=>decide (lo<=i)&&decide (i<=hi)
 | _=>false
def sS(w:Str):D->Bool
 | .str s=>s==w
 | _=>false
def qM(d:D):Prop:=d.canLay0=true/\d.depth<=1000
theorem yy{S T ι:Type}{step:T->D->(T->M S)->M S}{e:ι->D}{F:Re ι->T}{k:T->M S}:∀(is pre:Re ι),
  (∀p i q,is=p++i::q->∀kn:T->M S,step (F<|pre++p) (e i) kn=kn (F<|pre++p++[i]))->cD step (is.map e) (F pre) k=k (F<|pre++is)
 | [],pre,_=>by simp[cD]
 | i::r,pre,h=>by
  show step (F pre) (e i) _=_;have h0:=h [] i r rfl λs'=>cD step (r.map e) s' k;rw[je]at h0;rw[h0];have:=yy    (k:=k) r (pre++[i]) λp j q hq kn=>by
   have:=h (i::p) j q (by rw[hq];rfl) kn;simpa using this
  rw[this];simp
theorem d0{step:T->D->(T->M S)->M S}{e:ι->D}{F:Re ι->T}{k:T->M S}(is:Re ι)
  (h:∀p i q,is=p++i::q->∀kn:T->M S,step (F p) (e i) kn=kn (F<|p++[i])):cH step (is.map e) (F []) k=k (F is):=by
 rw[Nf];have:=yy    (k:=k) is []<|(h);exact this
def BF{S T:Type}{step:T->D->(T->M S)->M S}{R:M S->Prop}{P:Nat->T->Prop}{k:T->M S}:∀(ds:Re D) (i:Nat) (s:T),
  (∀(j:Nat) (s:T) (d:D),ds[j]? = some d->P (i+j) s->∀kn:T->M S,(∀s',P (i+j+1) s'->R (kn s'))->R (step s d kn)) ->
  P i s->(∀s',P (i+ds.length) s'->R (k s'))->R (cD step ds s k)
 | [],i,s,_,hp,hk=>hk s hp
 | d::r,i,s,h,hp,hk=>by
  refine h 0 s d rfl hp _ λs' Yi=>?_
  refine BF r ?jx s' (λj s d hd hp kn Yj=>h ?qI s d ((hd)) ?jc kn λs' q=>Yj s' (by rw[show i+1+j+1=i+?qI+1 by lia];exact q)) Yi λs' hs=>hk s' ?_
  grind
theorem wB{step:T->D->(T->M S)->M S}{R:M S->Prop}{P:Nat->T->Prop}{k:T->M S}(ds:Re D)(s:T)
  (h:∀(j:Nat) (s:T) (d:D),ds[j]? = some d->P j s->∀kn:T->M S,(∀s',P ?qI s'->R (kn s'))->R (step s d kn))
  (hp:P 0 s) (hk:∀s',P ds.length s'->R (k s')):R (cH step ds s k):=by
 rw[Nf];exact BF ds 0 s ?jl hp (by simpa using hk)
theorem fQ{ι:Type}{step:D->M (SL D)}{e g:ι->D}:∀(is:Re ι),(∀i∈is,step (e i)=.ret (some<|g i))->aW step (is.map e)=.ret (is.map g)
 | [],_=>rfl
 | i::r,h=>by
  rw[aw,aW,h i da,fQ r λd hd=>h d<|xO _ hd];rfl
theorem dn{ι:Type}{step:D->M (SL D)}{e:ι->D}{g:ι->SL D}:∀(is:Re ι),(∀i∈is,step (e i)=.ret (g i))->aW step (is.map e)=.ret (is.filterMap g)
 | [],_=>rfl
 | i::r,h=>by
  rw[aw,aW,h i da,dn r λd hd=>h d<|xO _ hd]
  cases q:g i<;>simp[NW,a_,u8,q]
abbrev iN(n:Nat):D:=.int (n:Int)
noncomputable def YH(lo hi:Nat):Re Nat:=(List.range<|hi - lo).map (lo + ·)
theorem zc(lo n:Nat):gZ (lo:Int) n=((List.range n).map (lo + ·)).map iN:=by
 rw[ic];apply im
 grind
def Ct(h:n<=100000):jx (n:Int)=true:=by
 unfold jx
 grind
theorem fV(n:Nat)(h:n<=100000):bO [.int (n:Int)]=some ((List.range n).map iN):=by
 unfold bO;simp![Ct h,zd];have:=zc 0 n;simp  [i7];rw[show(0:Int)=((0:Nat))from rfl,this];simp
mutual
def sz:D->Nat
 | .list ds=>1+VR ds
 | .tuple ds=>1+VR ds
 | .none=>1
 | .bool _=>1
 | .int _=>1
 | .str _=>1
 | .dict _=>1
def VR:Re D->Nat
 | []=>0
 | d::r=>sz d+VR r
end
mutual
def Sm:D->Prop
 | .list ds=>Tj ds
 | .tuple ds=>Tj ds
 | .none=>True
 | .bool _=>True
 | .int i=>i.natAbs<10^19
 | .str s=>Rh s=true
 | .dict _=>False
def Tj:Re D->Prop
 | []=>True
 | d::r=>Sm d/\Tj r
end
theorem tN:∀{ds:Re D},(∀d∈ds,Sm d)->Tj ds
 | [],_=>by simp[Tj]
 | e::r,h=>by
  exact{h e da,tN λd hd=>h d<|xO _ hd}
mutual
theorem Sm.lay:∀{d:D},Sm d->d.canLay0=true
 | .none,h=>by simp[PyData.canLay0]
 | .bool _,h=>by simp[PyData.canLay0]
 | .int _,h=>by simp[PyData.canLay0]
 | .str s,h=>by
  have h':Rh s=true:=by simpa[Sm]using h
  unfold Rh at h';simp![am]at h';simp[PyData.canLay0,h'.1.1]
 | .list ds,h=>by simp![PyData.canLay0];exact Tj.lay ?ql
 | .tuple ds,h=>by simp![PyData.canLay0];exact Tj.lay ?ql
 | .dict _,h=>by simp[Sm]at h
theorem Tj.lay:∀{ds:Re D},Tj ds->PyData.canLayAll0 ds=true
 | [],_=>by simp[PyData.canLayAll0]
 | d::r,h=>by
  simp![Tj]at h;simp![PyData.canLayAll0,am];exact{Sm.lay h.1,Tj.lay h.2}
end
mutual
theorem Sm.show:∀{d:D},Sm d->d.showable=true
 | .none,h=>by simp[PyData.showable]
 | .bool _,h=>by simp[PyData.showable]
 | .int i,h=>by
  have h':i.natAbs<10^19:=by simpa[Sm]using h
  simp![PyData.showable,aQ];exact Li<|eg h'<|Nat.pow_le_pow_right ?C ?C
 | .str s,h=>by simp[PyData.showable]
 | .list ds,h=>by simp![PyData.showable];exact Tj.show ?ql
 | .tuple ds,h=>by simp![PyData.showable];exact Tj.show ?ql
 | .dict _,h=>by simp[Sm]at h
theorem Tj.show:∀{ds:Re D},Tj ds->PyData.showableAll ds=true
 | [],_=>by simp[PyData.showableAll]
 | d::r,h=>by
  simp![Tj]at h;simp![PyData.showableAll,am];exact{Sm.show h.1,Tj.show h.2}
end
mutual
theorem Sm.text:∀{d:D},Sm d->d.shown.length+2<=30*sz d/\PyData.strOk d.shown=true
 | .none,h=>by refine{?_,by simp![PyData.shown];exact dO _};simp![PyData.shown,sz];decide
 | .bool b,h=>by
  refine{?_,by cases b<;>simp![PyData.shown]<;>exact dO _}
  cases b<;>simp![PyData.shown,sz]<;>decide
 | .int i,h=>by
  have h':i.natAbs<10^19:=by simpa[Sm]using h
  refine{?_,by simp![PyData.shown];exact dO _};simp![PyData.shown,sz];have h1:=int_text_length_le10 (a:=i) (k:=19) ?C h';have h2:(Str.ofString<|toString i).length=(toString i).length:=by
   show(Str.ofString<|toString i).cps.size=_;rw[<-gu,signs_ofString,u_,String.length_toList]
  lia
 | .str s,h=>by
  have h':Rh s=true:=by simpa[Sm]using h
  unfold Rh at h';simp![am,aQ]at h';simp![PyData.shown,sz];exact{by lia,h'.2}
 | .list ds,h=>by
  let{h1,h2}:=Tj.text (ds:=ds) ?ql;have h5:(Str.join ", " ?j2).length<=piled ?j2:=Bu;have h6:PyData.strOk (Str.join ", " ?j2)=true:=rm (dO _) h2;simp![PyData.shown,listText_eq_join,sz];refine{?_,lg (lg (dO _) h6)<|dO _};rw[strLen_append,strLen_append];have e1:((("[" : String):Str)).length=1:=rfl;have e2:((("]" : String):Str)).length=1:=rfl;rw[e1,e2];lia
 | .tuple ds,h=>by
  let{h1,h2}:=Tj.text (ds:=ds) ?ql;have h5:(Str.join ", " ?j2).length<=piled ?j2:=Bu;have h6:PyData.strOk (Str.join ", " ?j2)=true:=rm (dO _) h2;simp![PyData.shown,tupleText,sz];refine{?_,lg (lg (dO _) h6)<|dO _};rw[strLen_append,strLen_append];have e1:((("(" : String):Str)).length=1:=rfl;have e3:(((if(PyData.shownAll ds).length==1 then ",)" else ")" : String):Str)).length<=2:=by split<;>decide
  rw[e1];lia
 | .dict _,h=>by simp[Sm]at h
theorem Tj.text:∀{ds:Re D},Tj ds->piled ?j2<=30*VR ds/\∀t∈PyData.shownAll ds,PyData.strOk t=true
 | [],_=>by simp[PyData.shownAll,piled,VR]
 | d::r,h=>by
  simp![Tj]at h;let{h1,h2}:=Sm.text h.1;let{h3,h4}:=Tj.text h.2;simp![PyData.shownAll,VR];refine{?_,λt ht=>?_}
  ·rw[piled_cons];lia
  ·let rfl||ht:=List.mem_cons.mp ht
   ·exact h2
   ·exact h4 t ht
end
def Jp{d:D}(h:Sm d)(hs:sz d<=30000)(hd:d.depth<=60):jW [d]=some (.str d.shown):=by
 let{t1,t2}:=h.text;show(if oX d then some (PyData.str d.shown)else none)=_;unfold oX;rw[ap];simp  [am,aQ];exact{{{h.show,h.lay},by lia},di (show d.shown.length<=1000000 by lia) ?C}
def Lc{d:D}(h:Sm d):cI (.str d.shown) (.str d.shown)=some false:=by
 let{t1,t2}:=h.text;unfold cI uh;rw[ap]
 ·simp[PyData.eqv]
 ·simp[PyData.canLay0,t2,PyData.depth]
theorem n8(ds:Re D)(k:D):aD (.list ds) k=fO (.list ds) k:=id rfl
theorem bx(ds:Re D)(k:D):aD (.tuple ds) k=fO (.tuple ds) k:=id rfl
theorem ltA(a b:Int):eW (.int a) (.int b)=some (decide<|a<b):=id rfl
def NO(d:D)(ds:Re D):lK d (.list ds)=xF d (.list ds):=id rfl
def NN(d:D)(ds:Re D):lK d (.tuple ds)=xF d (.tuple ds):=id rfl
def Fh(d:D)(ds:Re D):bc d (.list ds)=iE d (.list ds):=id rfl
def Ff(d:D)(ds:Re D):bc d (.tuple ds)=iE d (.tuple ds):=id rfl
theorem uY(e:ι->D)(is:Re ι)(n:Nat)(h:n<is.length):fO (.list<|is.map e) (.int (n:Int))=some (e is[n]):=by
 have:=oN (is.map e) n ?jl;rw[uO]at this;exact this
theorem p9(e:ι->D)(is:Re ι)(n:Nat)(h:n<is.length):fO (.tuple<|is.map e) (.int (n:Int))=some (e is[n]):=by
 have:=oN (is.map e) n ?jl;rw[uO]at this;exact this
theorem mY(ds:Re D)(d:D)(h:ds.length<=100000):sA ds [d]=some (ds++[d]):=ap<|yi h ?C
def FY{ds:Re S}(h:ds.length<=100000):cp ds=.ret ds:=ap<|di h ?C
abbrev pD(p:Nat×Nat):D:=.tuple [iN p.1,iN p.2]
def Fk(a b:Nat):((a:Int)==(b:Int))=decide (a=b):=IL a b
def Wz(a b:Nat):bp (iN a) (iN b)=some (decide<|a=b):=by
 rw[eqI,Fk]
def DL(a b:Nat):bE (iN a) (iN b)=some (iN<|a+b):=rfl
def Nv(a b:Nat)(h:0<b):iF (iN a) (iN b)=some (iN<|a % b):=by
 rw[VY _ _ ?A];rfl
abbrev Mt:=Nat×Nat×Nat×Nat
abbrev mD(m:Mt):D:=.tuple [iN m.1,iN m.2.1,iN m.2.2.1,iN m.2.2.2]
structure Rl where
 n:Nat
 st:Re Nat
 ms:Re Mt
 sy:Re Bool
abbrev Rl.d(r:Rl):D:=.tuple [iN r.n,.tuple (r.st.map iN),.tuple ?qU,.tuple (r.sy.map PyData.bool)]
def plt(p q:Nat×Nat):Prop:=p.1<q.1\/p.1=q.1/\p.2<q.2
structure T4(n:Nat)(m:Mt):Prop where
 ab:m.1<=m.2.1
 b:m.2.1<n
 c:m.2.2.1<n
 d:m.2.2.2<n
 ne:m.2.2≠(m.1,m.2.1)
 ne':m.2.2≠(m.2.1,m.1)
structure Wf(r:Rl):Prop where
 n1:1<=r.n
 st:∀s∈r.st,s<r.n
 sy:r.sy.length=r.n
 ms:∀m∈r.ms,T4 r.n m
 so:r.ms.Pairwise λm m'=>plt (m.1,m.2.1) (m'.1,m'.2.1)
def look(ms:Re Mt)(p:Nat×Nat):SL (Nat×Nat):=(ms.find? λm=>decide (m.1=p.1)&&decide (m.2.1=p.2)).map (·.2.2)
def turn(ms:Re Mt)(i j:Nat):Nat×Nat:=if i<=j then(look ms (i,j)).getD (i,j)else let t:=(look ms (j,i)).getD (j,i);(t.2,t.1)
def Eb(h:n<=1000000000):Sm (iN n):=by
 simp  [iN,Sm,Int.natAbs_natCast]
 grind
def AH{l:Re Nat}(h:∀s∈l,s<=1000000000):Sm (.tuple ?jM):=by
 refine tN λd hd=>?_
 let{s,hs,rfl}:=List.mem_map.mp hd;exact Eb<|h s hs
def Ec(l:Re Bool):Sm (.tuple<|l.map PyData.bool):=by
 refine tN λd hd=>?_
 let{s,hs,rfl}:=List.mem_map.mp hd;simp[Sm]
def MD{m:Mt}(h:m.1<=1000000000/\m.2.1<=1000000000/\m.2.2.1<=1000000000/\m.2.2.2<=1000000000):Sm (mD m):=by
 simp  [mD,Sm,Tj]
 grind
theorem m9{ι:Type}{e:ι->D}{B:Nat}(h:∀i,sz (e i)=B):∀l:Re ι,VR (l.map e)=l.length*B
 | []=>by simp[VR]
 | i::r=>by rw[aw,VR,m9 h r,h i,f8];lia
theorem cy{ds:Re D}(h:∀d∈ds,d.depth<=n):(PyData.tuple ds).depth<=n+1:=by
 have:=kF h;simp  [PyData.depth];lia
def MP{r:Rl}(w:Wf r)(hn:r.n<=100000):Sm r.d:=by
 refine{by simpa[Sm]using Eb  ?A,?_,?_,?_,trivial}
 ·simpa[Sm]using AH λs hs=>by have:=w.st s hs;lia
 ·refine tN λd hd=>?_
  let{m,hm,rfl}:=List.mem_map.mp hd;have o:=w.ms m hm;have:=o.ab;have:=o.b;have:=o.c;have:=o.d;exact MD {by lia,by lia,by lia,by lia}
 ·simpa[Sm]using Ec r.sy
def MO(r:Rl):sz r.d=5+r.st.length+5*r.ms.length+r.sy.length:=by
 simp  [Rl.d,sz,VR];rw[m9 (B:=1) λi=>rfl,m9 (B:=5) λi=>rfl,m9 (B:=1) λi=>rfl];lia
abbrev kvM(m:Mt):D×D:=(pD (m.1,m.2.1),pD m.2.2)
def Bt(p q:Nat×Nat):gP (pD p) (pD q)=decide (p=q):=by
 show(decide ((p.1:Int)=q.1)&&(decide ((p.2:Int)=q.2)&&true))=_
 grind
theorem sM(p:Nat×Nat):dF (pD p)=true:=id rfl
def Ml(p:Nat×Nat):gy (pD p)=false:=id rfl
theorem rQ{es:Re ?M}{k d:D}(h:∀p∈es,gP p.1 k=false):oY es k d=es++[(k,d)]:=by
 unfold oY
 grind
theorem ie{α β:Type}{g:α->Re β}{B:Nat}(h:∀a,(g a).length<=B):∀l:Re α,(l.flatMap g).length<=l.length*B
 | []=>by simp
 | a::r=>by
  rw[dD,xP,f8];have:=ie h r;have:=h a;lia
def Oe(a:Nat):bE (.int 1) (iN a)=some (iN<|a+1):=by
 show some (PyData.int<|1+(a))=some (PyData.int<|(a+1))
 grind
theorem xq{j:Nat}{d:D}(h:((List.range n).map iN)[j]? = some d):d=iN j/\j<n:=by
 grind
def NI(e:ι->D)(is:Re ι)(n:Nat)(z:ι)(h:n<is.length):fO (.tuple<|is.map e) (.int (n:Int))=some (e<|is.getD n z):=by
 rw[p9 e is n h,fu,ax h];rfl
def DQ:∀(as bs:Re Nat),mh (as.map iN) (bs.map iN)=(as.zip bs).map pD:=by
 intro as
 induction as with
 | nil=>intro bs;rfl
 | cons a as ih =>
  intro bs
  cases bs with
  | nil=>rfl
  | cons b bs =>
   unfold mh at ih ⊢;simp[ih]
structure Ahd(n a b:Nat)(ms:Re Mt):Prop where
 ok:∀m∈ms,T4 n m
 so:ms.Pairwise λm m'=>plt (m.1,m.2.1) (m'.1,m'.2.1)
 ah:∀m∈ms,plt (m.1,m.2.1) (a,b)
 le:ms.length<=a*n+b
def J6(p:Nat×Nat)(k:D->D->M S):yG (pD p) k=k (iN p.1) (iN p.2):=id rfl
def BK(as bs:Re D):LH [.tuple as,.tuple bs]=some (mh as bs):=id rfl
def tab(n:Nat)(f:Nat->Nat):Re Nat:=(List.range n).map f
abbrev fJ(n:Nat)(f:Nat->Nat):Re D:=(tab n f).map iN
def up(f:Nat->Nat)(i v:Nat):Nat->Nat:=λr=>if r=i then v else f r
theorem db(n:Nat)(f:Nat->Nat):(tab n f).length=n:=by simp[tab]
theorem vC{i:Nat}(h:i<n):(tab n f)[i]? = some (f i):=by
 unfold tab;rw[ue,List.getElem?_range h];rfl
def G4(n:Nat)(f:Nat->Nat)(i v:Nat):(tab n f).set i v=tab n (up f i v):=by
 apply xL;intro r;by_cases hr:r<n
 ·rw[vC hr];by_cases h:i=r
  ·subst h;rw[gs (by rw[db];exact hr)];simp[up]
  ·rw[eT h,vC hr];unfold up
   grind
 ·rw[List.getElem?_eq_none_iff.mpr (by rw[List.length_set,db];lia),List.getElem?_eq_none_iff.mpr (by rw[db];lia)]
theorem m6{i:Nat}(h:i<n):fO (.list<|fJ n f) (.int (i:Int))=some (iN<|f i):=by
 have h':i<(tab n f).length:=by rw[db];exact h
 have:=uY iN (tab n f) i h';have e:(tab n f)[i]'h' = f i:=by
  have:=vC (f:=f) h
  grind
 rw[this,e]
theorem vB{i:Nat}(h:i<n):fO (.tuple<|fJ n f) (.int (i:Int))=some (iN<|f i):=m6  h
def Bx{i:Nat}(h:i<n):L2.WQ n (i:Int)=some i:=by
 unfold L2.WQ;rw[ap ?A,ap ?A];rfl
theorem qF{i:Nat}(v:Nat)(h:i<n):putD (fJ n f) (.int (i:Int)) (iN v)=some (fJ n<|up f i v):=by
 show(L2.WQ _<|i).map _=_;rw[u_,db,Bx h];show some ((fJ n f).set i<|iN v)=_;rw[<-List.map_set,G4]
def JY(a:Nat):mw (iN a) (.int 1)=some (iN<|a+1):=rfl
def Od(a b:Nat):mw (iN a) (iN b)=some (iN<|a+b):=rfl
def Jf(a:Nat)(h:1<=a):gJ (iN a) (.int 1)=some (iN<|a - 1):=by
 show some (PyData.int<|(a) - 1)=some (PyData.int<|(a - 1:Nat));lia
def Oz(a b:Nat)(h:b<=a):gJ (iN a) (iN b)=some (iN<|a - b):=by
 show some (PyData.int<|(a) - b)=some (PyData.int<|(a - b:Nat));lia
def cnt(hs:Re Nat)(r:Nat):Nat:=hs.count r
def BY(hs:Re Nat)(h k:Nat):cnt (hs++List.replicate k h)=up (cnt hs) h (cnt hs h+k):=by
 unfold cnt up
 grind
def Fl(d:D)(k:Nat)(h:k<=100000):rZ (.list [d]) ?j5=some (List.replicate k d):=by
 have e:(List.replicate k [d]).flatten=List.replicate k d:=by
  induction k with
  | zero=>rfl
  | succ k ih=>grind
 have hs:(100000)<=sizeLine:=by decide
 have e2:rZ (.list [d]) ?j5=if(decide (-(2^63)<=(k:Int))&&decide ((k:Int)<2^63)&&decide ([d].length*(k:Int).toNat<=sizeLine))=true then some (List.replicate (k:Int).toNat [d]).flatten else none:=id rfl
 grind
def Ck(n:Nat):List.replicate n (PyData.int 0)=fJ n (cnt []):=by
 unfold fJ tab;apply vV
 ·simp
 ·simp[cnt]
def ik(f:Nat->Nat)(m:Mt):Bool:=let w:=if m.1=m.2.1 then 2 else 1;decide (w<=f m.1)&&decide (w<=f m.2.1)
def uL(f:Nat->Nat)(m:Mt):Nat->Nat :=
 let f1:=up f m.1<|f m.1 - 1
 let f2:=up f1 m.2.1<|f1 m.2.1 - 1
 let f3:=up f2 m.2.2.1<|f2 m.2.2.1+1
 up f3 m.2.2.2<|f3 m.2.2.2+1
theorem tB{m:Mt}(h:ik f m=true):1<=f m.1/\1<=up f m.1 (f m.1 - 1) m.2.1:=by
 unfold ik at h;unfold up
 grind
def LK{d:D}(h:Sm d):bp (.str d.shown) (.str d.shown)=some true:=by
 let{t1,t2}:=h.text;unfold bp uh;rw[ap]
 ·simp[PyData.eqv]
 ·simp[PyData.canLay0,t2,PyData.depth]
theorem allB(bs:Re Bool):rY [.list ?jm]=some (bs.all id):=by
 show(boolsOf _).map _=_;rw[Kk];rfl
theorem anyB(bs:Re Bool):w6 [.list ?jm]=some (bs.any id):=by
 show(boolsOf _).map _=_;rw[Kk];rfl
def uK(bs:Re Bool):D:=if bs.all id then .str "yes" else if bs.any id then .str "both" else .str "no"
theorem lQ{α β:Type}(p:α->Bool)(g:α->β):∀l:Re α,(l.filterMap λk=>if p k=true then some (g k)else none)=(l.filter p).map g
 | []=>rfl
 | a::r=>by
  rw[u8,kj,lQ p g r]
  cases p a<;>rfl
def Ib{m:Mt}(h:ik f m=true)(r:Nat):uL f m r+(if m.1=r then 1 else 0)+(if m.2.1=r then 1 else 0)=f r+(if m.2.2.1=r then 1 else 0)+(if m.2.2.2=r then 1 else 0):=by
 let{p1,p2}:=tB h;have u:∀(g:Nat->Nat) (i v:Nat),up g i v r=if i=r then v else g r:=λg i v=>by
  unfold up;by_cases e:r=i
  ·subst e;simp
  ·rw[ba e,ba λz=>e z.symm]
 have s1:∀g:Nat->Nat,∀i,1<=g i->up g i (g i - 1) r+(if i=r then 1 else 0)=g r:=λg i hg=>by
  rw[u];by_cases e:i=r
  ·subst e;rw[ap rfl,ap rfl];lia
  ·rw[ba e,ba e];rfl
 have s2:∀g:Nat->Nat,∀i,up g i (g i+1) r=g r+(if i=r then 1 else 0):=λg i=>by
  rw[u];by_cases e:i=r
  ·subst e;rw[ap rfl,ap rfl]
  ·rw[ba e,ba e];rfl
 unfold uL;rw[s2,s2];have h1:=s1 f m.1 p1;have h2:=s1 (up f m.1<|f m.1 - 1) m.2.1 p2;lia
def iY(l:Re (Nat×Nat)):Re Nat:=l.flatMap λp=>List.replicate p.2 p.1
theorem uJ(p:Re (Nat×Nat))(x:Nat×Nat):iY (p++[x])=iY p++List.replicate x.2 x.1:=by
 unfold iY
 grind
def zf(f:Nat->Nat)(ms:Re Mt):Re Nat:=(ms.zipIdx.filter λp=>ik f p.1).map (·.2)
def Gb(as bs:Re D)(h:as.length+bs.length<=100000):sw as bs=some (as++bs):=ap<|be<|di h ?C
def bW(r:Rl)(hs:Re Nat)(i j:Nat):Re Nat:=(hs.set i (turn r.ms (hs.getD i 0)<|hs.getD j 0).1).set j (turn r.ms (hs.getD i 0)<|hs.getD j 0).2
def yI(r q:Rl)(i j:Nat):Nat×Nat:=((turn r.ms (i / q.n)<|j / q.n).1*q.n+(turn q.ms (i % q.n)<|j % q.n).1,(turn r.ms (i / q.n)<|j / q.n).2*q.n+(turn q.ms (i % q.n)<|j % q.n).2)
def cell(r q:Rl)(i j:Nat):Re Mt:=if yI r q i j=(i,j)then[]else[(i,j,yI r q i j)]
def qS(r q:Rl)(i:Nat):Re Mt:=(YH i<|r.n*q.n).flatMap<|cell r q i
def u7(r q:Rl):Re Mt:=(List.range<|r.n*q.n).flatMap<|qS r q
structure UY(r q:Rl):Prop where
 wr:Wf r
 wq:Wf q
 rn:r.n<=40
 qn:q.n<=40
 R:r.n*q.n<=40
 st:r.st.length=q.st.length
 s4:q.st.length<=4
def lm(both a b:Bool):Bool:=if both then a&&b else a||b
def wA(r q:Rl)(both:Bool)(p:Nat):Bool:=lm both (r.sy.getD (p / q.n) false)<|q.sy.getD (p % q.n) false
def xk(r q:Rl):Re Nat:=(List.range r.st.length).map λk=>r.st.getD k 0*q.n+q.st.getD k 0
def uV(r q:Rl)(both:Bool):Rl:={r.n*q.n,xk r q,u7 r q,(List.range<|r.n*q.n).map<|wA r q both}
def xn(both:Bool):D:=if both then .str "both" else .str "either"
abbrev cT(l:Re Nat):D:=.tuple ?jM
theorem sX:∀l l':Re Nat,PyData.eqvAll ?jM (l'.map iN)=decide (l=l')
 | [],[]=>rfl
 | [],_::_=>rfl
 | _::_,[]=>rfl
 | a::l,b::l'=>by
  simp![aw,PyData.eqvAll,PyData.eqv,Fk,sX l l']
  grind
def LJ(l l':Re Nat):PyData.eqv (cT l) (cT l')=decide (l=l'):=by
 rw[<-sX];rfl
theorem sI(l:Re Nat):PyData.canLayAll0 ?jM=true:=n4 λd hd=>by
 let{x,_,rfl}:=List.mem_map.mp hd;simp[iN,PyData.canLay0]
def FA(l:Re Nat):(cT l).canLay0=true/\(cT l).depth<=1000:=by
 refine{(sI l),?_};have hd:PyData.depthAll ?jM<=1:=kF λd hd=>by
  let{x,_,rfl}:=List.mem_map.mp hd;simp[iN,PyData.depth]
 simp  [PyData.depth];lia
theorem neT(l l':Re Nat):cI (cT l) (cT l')=some (!decide (l=l')):=by
 unfold cI uh;rw[ap (by simp[FA]),LJ]
def Pw:cI (.list []) (.list [])=some false:=rfl
def jR(n:Nat)(g f:Nat->Nat):Nat->Nat:=cnt<|iY<|(List.range n).map λp=>(g p,f p)
structure Sd(r q:Rl)(g:Nat->Nat)(R:Rl):Prop where
 wf:Wf R
 lt:∀{a},a<r.n*q.n->g a<R.n
 tn:∀{a b},a<r.n*q.n->b<r.n*q.n->(g (yI r q a b).1,g (yI r q a b).2)=turn R.ms (g a) (g b)
 st:(xk r q).map g=R.st
end L4
namespace ZM
open PySem PySem.Spec PyProof.Rows L2 L3 L4
variable {r:Rl}{F A Gs L:Re ?L}{c l c0 cs c' ks:Re Nat}{s n most T x h:Nat}{f:Nat->Nat}{g:Nat->Int}{ps:Re ?jt}{v:Re Nat->Nat}
noncomputable def Fd(T:Nat)(f:Re D):Prop:=∃a b t:Int,f=[.int a,.int b,.int t]/\0<=t/\t<=T
theorem Fd.le{T':Nat}{f:Re D}(h:Fd T f)(hl:T<=T'):Fd T' f:=by
 let{a,b,t,e,h0,h1}:=h;exact{a,b,t,e,h0,by lia}
def Gr{f:Re D}{m:Int}(h:Fd T f)(hT:T<=1000000)(hm:0<m)(Zr:m<1073741824) :
  ∃(r:Int) (f':Re D),aF f (.int m)=.ret (.int r,f')/\0<=r/\r<m/\Fd (T+1) f':=by
 let{a,b,t,rfl,h0,h1}:=h;unfold aF;simp  [n8];rw[L4.zau,e_,a_,L4.Wm,e_,a_,L4.Z2,e_,a_,L4.zav,e_,a_,L4.Zw,e_,a_];by_cases ha:0<b
 ·simp  [ha,decide_true,zd];have p1:putD [PyData.int a,.int b,.int (t+1)] (.int 1) (.int<|b / m)=some [.int a,.int (b / m),.int (t+1)]:=id rfl;rw[L4.Y7 _ _ hm Zr,e_,a_,p1,e_,L4.VY _ _ hm,e_];exact{_,_,rfl,Int.emod_nonneg _ ?A,Int.emod_lt_of_pos _ hm,_,_,_,rfl,by lia,by lia}
 ·simp![ha,jk];rw[ba ?C];rw[L4.zaw,e_,a_,L4.VY _ _ ?C,e_,a_,L4.mulL _ _ ?C ?C,e_,a_,L4.mulR _ t ?A ?A,e_,a_,L4.Wm,e_,a_,L4.Wm,e_,a_];rw[L4.mulL _ _ ?C ?C,e_,a_,L4.Wm,e_,a_,L4.mulR _ (48271+40*t) ?A ?A,e_,a_,L4.VY _ _ ?C,e_,a_];rw[L4.Y7 _ _ ?C ?C,e_,a_,L4.mulR _ _ ?C ?C,e_,a_,L4.Wm,e_,a_,L4.VY _ _ ?C,e_,a_,L4.Y7 _ _ ?C ?C,e_,a_,L4.VY _ _ hm,e_];exact{_,_,rfl,Int.emod_nonneg _ ?A,Int.emod_lt_of_pos _ hm,_,_,_,rfl,by lia,by lia}
theorem e7{f:Re D}{m:Nat}(h:Fd T f)(hT:T<=1000000)(hm:0<m)(Zr:m<=1000000000) :
  ∃(r:Nat) (f':Re D),aF f (.int (m:Int))=.ret (iN r,f')/\r<m/\Fd (T+1) f':=by
 let{r,f',e,h1,h2,h3}:=Gr h hT (m:=(m)) ?A ?A;let{n,rfl}:=Int.eq_ofNat_of_zero_le h1;exact{n,f',e,by lia,h3}
def BH(c:Int):∃f,fi (.int c)=.ret f/\Fd 0 f:=by
 unfold fi;have m1:oz [.int 0,.int c]=some (.int<|if c>0 then c else 0):=id rfl;have p18:bR (.int 10) (.int 18)=some (.int 1000000000000000000):=id rfl;rw[m1,e_,a_,p18,e_,a_,L4.geI,e_,a_,a_];generalize decide ((1000000000000000000)<=c)=B;have e:qr [.bool B]=some (.int<|if B then 1 else 0):=rfl;rw[e,e_,a_,L4.mulR _ _ (by split<;>lia) (by split<;>lia),e_,a_];exact{_,rfl,_,_,_,rfl,xA _,xA _}
def Iu(ns:Re Int)(k:Nat)(hk:k<=1000)(hn:ns.length<=63):∃f,iP (.list ?jf) (.int (k:Int))=.ret f/\Fd 0 f:=by
 unfold iP;simp  [n8];have e1:dm [.list ?jf]=some (.int ns.length):=by rw[L4.Uv,u_]
 rw[L4.mulL _ _ ?C ?C,e_,a_,e1,e_,a_,L4.Zw,e_,a_];by_cases h:0<(ns.length:Int)
 ·simp![h,decide_true,zd];rw[a_,L4.VY _ _ h,e_,a_];have m1:=Int.emod_nonneg (k) (b:=(ns.length)) ?A;have m2:=Int.emod_lt_of_pos (k) h;let{x,hx,e}:=L5 ?jf (k % ns.length) m1 (by rw[u_];exact m2);let{i,hi,rfl}:=List.mem_map.mp hx;have e2:fO (.list ?jf) (.int<|k % ns.length)=some (.int i):=e;rw[e2,e_,a_,a_,L4.Y7 _ _ h ?A,e_,a_,L4.mulL _ _ ?C ?C,e_,a_,L4.Wm,e_];exact BH _
 ·simp![h,jk];exact BH _
def Gy{m:Mt}(h:T4 n m):kS (.tuple<|fJ n f) (mD m)=.ret (.bool<|ik f m):=by
 have hb:=h.b;have VF:=h.ab;unfold kS;have e1:(if decide (m.1=m.2.1)=true then(M.ret<|PyData.int 2)else .ret (.int 1))=.ret (iN<|if m.1=m.2.1 then 2 else 1):=by
  by_cases e:m.1=m.2.1
  ·rw[ap<|be e,ap e];rfl
  ·rw[ba (by simpa using e),ba e];rfl
 rw[bx,jJ,e_,a_,bx,kB,e_,a_,Wz,e_,a_,e1,a_,a_,bx,vB<|?S,e_,a_,geI,e_,a_,a_,bx,vB hb];simp![e_,a_,geI,O6,ik];congr 3<;>(rw[ku,aQ,aQ];omega)
def Fx(d:D)(hx:x<n)(h:1<=f x)(kn:D×Re D×Unit->M D):kO d (fJ n f) (iN x) kn=kn (d,fJ n (up f x<|f x - 1),()):=by
 unfold kO;rw[m6 hx,e_,a_,Jf _ h,e_,a_,qF _ hx,e_,a_]
def Fw(hx:x<n)(kn:Re D×Unit->M D):kN (fJ n f) (iN x) kn=kn (fJ n (up f x<|f x+1),()):=by
 unfold kN;rw[m6 hx,e_,a_,JY,e_,a_,qF _ hx,e_,a_]
def Fy{m:Mt}(h:T4 n m)(hc:ik f m=true):kP (.tuple<|fJ n f) (mD m)=.ret (.tuple<|fJ n<|uL f m):=by
 have hb:=h.b;have VF:=h.ab;have VE:=h.c;have hd:=h.d;let{p1,p2}:=tB hc;have e1:kD (mD m) (some 2) none=some (.tuple [iN m.2.2.1,iN m.2.2.2]):=rfl;have e2:kD (mD m) none (some 2)=some (.tuple [iN m.1,iN m.2.1]):=rfl;have a2:mF (.int 2)=.ret (some 2):=id rfl;have l1:lU [.tuple (fJ n f)]=some (fJ n f):=id rfl;unfold kP;rw[l1,e_,a_,a2,a_,e2,e_,a_,G9,e_,a_,Nf,cD];refine(Fx (mD m) (?S) p1 _).trans ?_;rw[cD];refine(Fx (mD m) hb p2 _).trans ?_;rw[cD];unfold qf;rw[a2,a_,e1,e_,a_,G9,e_,a_,Nf,cD];refine(Fw VE _).trans ?_;rw[cD];refine(Fw hd _).trans ?_;rfl
def fl(l:Re Nat):Nat->Nat:=λi=>l.getD i 0
def D3(h:l.length=n):tab n (fl l)=l:=by
 subst h;unfold tab fl;apply vV
 ·simp
 ·intro i h1 h2;simp[fu,ax h2]
theorem wJ(h:l.length=n):cT l=.tuple (fJ n<|fl l):=by
 show cT l=cT (tab n<|fl l);rw[D3 h]
def led(n:Nat)(l:Re Nat)(m:Mt):Re Nat:=tab n<|uL (fl l) m
theorem zy(n:Nat)(l:Re Nat)(m:Mt):(led n l m).length=n:=db n _
noncomputable def Goes(r:Rl)(l:Re Nat)(k:Nat)(l':Re Nat):Prop:=∃m,r.ms[k]? = some m/\ik (fl l) m=true/\l'=led r.n l m
def LW{m:Mt}(hl:l.length=r.n)(h:T4 r.n m):kS (cT l) (mD m)=.ret (.bool<|ik (fl l) m):=by
 rw[wJ hl];exact Gy h
def Lj{m:Mt}(hl:l.length=r.n)(h:T4 r.n m)(hc:ik (fl l) m=true):kP (cT l) (mD m)=.ret (cT<|led r.n l m):=by
 rw[wJ hl];exact Fy h hc
def yU(p:Mt×Nat):D×D:=(pD (p.1.1,p.1.2.1),iN p.2)
def idx(ms:Re Mt)(p:Nat×Nat):SL Nat:=(ms.zipIdx.find? λq=>decide<|(q.1.1,q.1.2.1)=p).map (·.2)
theorem yv(p:Nat×Nat):∀l:Re (Mt×Nat),gz (l.map yU) (pD p)=((l.find? λq=>decide<|(q.1.1,q.1.2.1)=p).map (·.2)).map iN
 | []=>rfl
 | q::r=>by
  unfold gz;rw[aw,ir,ir];rw[show gP (yU q).1 (pD p)=decide ((q.1.1,q.1.2.1)=p)from Bt _ _]
  cases h:decide ((q.1.1,q.1.2.1)=p)with
  | true=>rfl
  | false=>exact yv p r
def Da(l:Re (Mt×Nat))(p:Nat×Nat):keyOk (l.map yU) (pD p)=true:=by
 unfold keyOk;rw[si];left;rw[am,su];refine{sM p,λx hx=>?_};let{q,_,rfl}:=List.mem_map.mp hx;exact sM _
def Gw(ms:Re Mt)(a b:Nat):yE (.dict<|ms.zipIdx.map yU) (.tuple [iN a,iN b])=some (((idx ms (a,b)).map iN).getD .none):=by
 show(if keyOk (ms.zipIdx.map yU) (pD (a,b))then some ((gz (ms.zipIdx.map yU)<|pD (a,b)).getD .none)else none)=_;rw[ap<|Da _ _,yv];rfl
def FP{ms:Re Mt}{p:Nat×Nat}{k:Nat}(h:idx ms p=some k):∃m,ms[k]? = some m/\(m.1,m.2.1)=p:=by
 let{q,hq,rfl}:=Option.map_eq_some_iff.mp h;have h1:=ur hq;have h2:=List.find?_some hq;exact{q.1,List.mem_zipIdx_iff_getElem?.mp h1,by simpa using h2}
theorem zO(w:Wf r){k:Nat}{m:Mt}(h:r.ms[k]? = some m):idx r.ms (m.1,m.2.1)=some k:=by
 have hm:(m,k)∈r.ms.zipIdx:=List.mem_zipIdx_iff_getElem?.mpr h;unfold idx
 cases e:r.ms.zipIdx.find? λq=>decide<|(q.1.1,q.1.2.1)=(m.1,m.2.1)with
 | none =>
  have:=List.find?_eq_none.mp e (m,k) hm;simp at this
 | some q =>
  have h1:=List.mem_zipIdx_iff_getElem?.mp<|ur e;have h2:(q.1.1,q.1.2.1)=(m.1,m.2.1):=by simpa using List.find?_some e
  show some q.2=some k;congr 1;let lt||eq||gt:=Nat.lt_trichotomy q.2 k
  ·let{g1,e1}:=List.getElem?_eq_some_iff.mp h1;let{g2,e2}:=List.getElem?_eq_some_iff.mp h;have:=List.pairwise_iff_getElem.mp w.so q.2 k g1 g2 lt;rw[e1,e2,h2]at this;let z||{_,z}:=this<;>exact absurd z<|nu _
  ·exact eq
  ·let{g1,e1}:=List.getElem?_eq_some_iff.mp h1;let{g2,e2}:=List.getElem?_eq_some_iff.mp h;have:=List.pairwise_iff_getElem.mp w.so k q.2 g2 g1 gt;rw[e1,e2,h2]at this;let z||{_,z}:=this<;>exact absurd z<|nu _
theorem lv{ι:Type}(e:ι->D)(is:Re ι):jr (is.map e)=is.zipIdx.map λp=>.tuple [iN p.2,e p.1]:=by
 apply vV
 ·simp[jr]
 ·simp[jr]
def EZ(w:Wf r)(hl:r.ms.length<=90000):jN r.d=.ret (.dict ?j3):=by
 unfold jN;have e1:qa [.tuple ?qU]=some (r.ms.zipIdx.map λp=>.tuple [iN p.2,mD p.1]):=by
  show some (jr _)=_;rw[lv]
 rw[bx,wu,e_,a_,e1,e_];refine(d0  (F:=λl=>(l.map yU,())) r.ms.zipIdx ?_).trans rfl;intro p x t Uz kn;unfold lW;have c1:(bd ?qS λhi6=>oM (kD (mD x.1) none hi6))=.ret (pD (x.1.1,x.1.2.1)):=rfl;have np:∀q∈p.map yU,gP q.1 (pD (x.1.1,x.1.2.1))=false:=λq hq=>by
  let{y,hy,rfl}:=List.mem_map.mp hq;rw[show gP (yU y).1 _=_ from Bt _ _,ug];intro z;have R0:=List.mem_zipIdx_iff_getElem?.mp (show x∈r.ms.zipIdx by rw[Uz];simp);have Wv:=List.mem_zipIdx_iff_getElem?.mp (show y∈r.ms.zipIdx by rw[Uz];simp[hy]);have i1:=zO w R0;have i2:=zO w Wv;rw[z,i1]at i2;have hk:=by injection i2
  have nd:(r.ms.zipIdx.map (·.2)).Nodup:=by
   rw[List.zipIdx_map_snd];exact List.nodup_range'
  rw[Uz,gi]at nd;rw[vd]at nd;exact nd.2.2 y.2 (List.mem_map.mpr {y,hy,rfl}) x.2 ?E hk.symm
 unfold yG;dsimp only;have hlen:p.length<r.ms.zipIdx.length:=by rw[Uz];simp
 rw[wP]at hlen;have dp:ii true (p.map yU) (pD (x.1.1,x.1.2.1)) (iN x.2)=some ((p++[x]).map yU):=by
  unfold ii;rw[ap,rQ np,gi]
  ·rfl
  ·rw[am,aQ,u_];exact{sM (x.1.1,x.1.2.1),eg hlen (di hl ?C)}
 rw[c1,a_,dp,e_,a_]
abbrev ld(p:Nat×Re Nat):D:=.tuple [iN p.1,cT p.2]
def rooms(l:Re Nat):Re Nat:=(List.range l.length).filter λi=>decide<|0<fl l i
def cell(r:Rl)(l:Re Nat)(a b:Nat):Re ?jt:=match idx r.ms (a,b)with
 | some k=>match r.ms[k]? with
  | some m=>if ik (fl l) m then[(k,led r.n l m)]else[]
  | none=>[]
 | none=>[]
def bV(r:Rl)(l:Re Nat):Re ?jt:=(rooms l).zipIdx.flatMap λp=>((rooms l).drop p.2).flatMap<|cell r l p.1
theorem oC(r:Rl)(l:Re Nat)(a b:Nat):(cell r l a b).length<=1:=by
 unfold cell;split
 ·split
  ·split<;>simp
  ·simp
 ·simp
def Fs{a b:Nat}{p:Nat×Re Nat}(h:p∈cell r l a b):Goes r l p.1 p.2:=by
 unfold cell at h
 cases e:idx r.ms (a,b)with
 | none=>rw[e]at h;cases h
 | some k =>
  rw[e]at h;dsimp only at h
  cases e2:r.ms[k]? with
  | none=>rw[e2]at h;cases h
  | some m =>
   rw[e2]at h;dsimp only at h;split at h
   ·rename_i hc;have:=by simpa using h
    subst this;exact{m,e2,hc,rfl}
   ·cases h
theorem eO(w:Wf r)(hl:l.length=r.n){k:Nat}:(k,c)∈bV r l↔Goes r l k c:=by
 constructor
 ·intro h;let{p,_,h}:=List.mem_flatMap.mp h;let{b,_,h}:=List.mem_flatMap.mp h;exact Fs h
 ·rintro⟨m,hm,hc,rfl⟩;have ok:=w.ms m<|ul hm;have VF:=ok.ab;have hb:=ok.b;have pos:1<=fl l m.1/\1<=fl l m.2.1:=by
   unfold ik at hc;split at hc<;>lia
  have ra:m.1∈rooms l:=List.mem_filter.mpr {List.mem_range.mpr ?A,((?A))};have rb:m.2.1∈rooms l:=List.mem_filter.mpr {List.mem_range.mpr ?A,((?A))};let{i,hi,ei}:=ou ra;let{j,hj,ej}:=ou rb;have so:(rooms l).Pairwise (· < ·):=List.pairwise_lt_range.filter _;have SW:i<=j:=by
   let lt||ge:=Nat.lt_or_ge j i
   ·have:=List.pairwise_iff_getElem.mp so j i hj hi lt;lia
   ·exact ge
  refine List.mem_flatMap.mpr {(m.1,i),List.mem_zipIdx_iff_getElem?.mpr (by rw[ax hi,ei]),List.mem_flatMap.mpr {m.2.1,?_,?_}}
  ·refine List.mem_iff_getElem?.mpr {j - i,?_};rw[List.getElem?_drop,show i+(j - i)=j by lia,ax hj,ej]
  ·unfold cell;rw[zO w hm];dsimp only;rw[hm];dsimp only;rw[ap hc];exact List.mem_singleton.mpr rfl
theorem zY(l:Re Nat):qa [cT l]=some ((List.range l.length).map λi=>.tuple [iN i,iN (fl l i)]):=by
 show some (jr ?jM)=_;congr 1;rw[lv];apply vV
 ·simp
 ·intro i h1 h2;simp[fl,fu,ax ((by simpa using h1))]
def Ew(l:Re Nat)(hl:l.length<=1000):(bd (bd (oM<|qa [cT l]) λl6=>bd (aW (λd2=>yG d2 λy3 y4=>bd (oM<|eX y4<|.int 0) λb5=>if b5 then .ret (some y3)else .ret none) l6) cp) λl7=>M.ret ?qC)=.ret (.list ?qG):=by
 rw[zY,e_,a_,dn  (g:=λi=>if decide (0<fl l i)=true then some (iN i)else none) (List.range l.length) (λi _=>by
  show(bd (oM<|eX (iN<|fl l i)<|.int 0) λb5=>if b5=true then M.ret (some<|iN i)else .ret none)=_;rw[L4.Zw,e_,a_];have e:decide ((0:Int)<(fl l i))=decide (0<fl l i):=decide_eq_decide.mpr ?A;rw[e]
  split<;>rfl),a_,lQ,cG]
 ·rfl
 ·rw[u_];exact di (tu _ _) (by simpa using hl)
theorem oW(l:Re Nat):(rooms l).length<=l.length:=by
 have:=tu (λi=>decide<|0<fl l i)<|List.range l.length;rw[jA]at this;exact this
section
variable (w:Wf r) (hl:l.length=r.n) (hn:r.n<=40)
include w hl hn
def ML{a b:Nat}{acc:Re ?jt}(ha:acc.length<=90000)(R:D)(Ri:D×D×D×D×Re D×Unit->M D)(XF:D×D×D×D×Re D×D×Unit->M D) :
  i9 Ri (.dict ?j3) (cT l) (.tuple ?qU) R (acc.map ld) (iN a) (iN b) XF=XF (.dict ?j3,cT l,.tuple ?qU,R,(acc++cell r l a b).map ld,iN a,()):=by
 unfold i9;rw[Gw,e_,a_];unfold cell
 cases e:idx r.ms (a,b)with
 | none =>
  show bd (bd (oM<|fM .none .none) _) _=_;rw[show fM .none .none=some false from rfl,e_,a_,ba ?C,a_,ba ?C,je]
 | some k =>
  let{m,hm,_}:=FP e;have hk:=(List.getElem?_eq_some_iff.mp hm).1;have em:=(List.getElem?_eq_some_iff.mp hm).2;have ok:=w.ms m<|ul hm;have e2:aD (.tuple ?qU) ?j5=some (mD m):=by
   rw[bx,(p9 mD r.ms k hk),em]
  show bd (bd (oM<|fM ?j5 .none) _) _=_;dsimp only;rw[hm];dsimp only;rw[show fM ?j5 .none=some true from rfl,e_,a_,ap rfl,show(((some k).map iN).getD PyData.none)=iN k from rfl,e2,e_,a_,LW hl ok,a_,show iX (.bool<|ik (fl l) m)=some (ik (fl l) m)from rfl,e_,a_];by_cases hc:ik (fl l) m=true
  ·rw[ap hc,a_,Lj hl ok hc,a_,a_,mY _ _ ?qv,e_,ap hc,gi];rfl
  ·rw[ba hc,ba hc,je]
theorem zC(hm:r.ms.length<=90000):jP r.d (.dict ?j3) (cT l)=.ret (.list ((bV r l).map ld)):=by
 unfold jP;have rl:=oW l;have e1:zW [.list ?qG]=some ((rooms l).zipIdx.map λp=>.tuple [iN p.2,iN p.1]):=by
  show some (jr _)=_;rw[lv]
 rw[bx,wu,e_,a_,Ew l ?A,a_,e1,e_,a_];refine(d0 (e:=λp:Nat×Nat=>.tuple [iN p.2,iN p.1]) (F:=λps=>(PyData.dict ?j3,cT l,PyData.tuple ?qU,PyData.list ?qG,(ps.flatMap λp=>((rooms l).drop p.2).flatMap (cell r l p.1)).map ld,())) (rooms l).zipIdx ?_).trans rfl;intro p x t Uz kn;dsimp only;unfold lX;show yG (.tuple [iN x.2,iN x.1]) _=_;unfold yG;dsimp only;have cut:(bd (bd (mF (iN x.2)) λZ_=>oM (kD (.list ?qG) Z_ none)) λTo=>oM (bZ To))=.ret (((rooms l).drop x.2).map iN):=by
  have hx:x.2<(rooms l).length:=by
   have:=List.mem_zipIdx_iff_getElem?.mp (show x∈(rooms l).zipIdx by rw[Uz];simp);exact(List.getElem?_eq_some_iff.mp this).1
  rw[show mF (iN x.2)=.ret (some (x.2:Int))from rfl,a_];have:kD (.list ?qG) (some (x.2:Int)) none=some (.list (((rooms l).drop x.2).map iN)):=by
   show some (PyData.list (L4.cutD _ _ _))=_;unfold L4.cutD;have s1:HT.y_ ((rooms l).map iN).length 0 (some (x.2:Int))=x.2:=by
    unfold HT.y_;simp![u_];have h0:¬ ((x.2:Int)<0):=by lia
    simp[h0];lia
   have s2:HT.y_ ((rooms l).map iN).length ((rooms l).map iN).length none=((rooms l).map iN).length:=rfl;rw[s1,s2,<-List.map_drop,se ?E]
  rw[this,e_,a_];rfl
 rw[cut,a_];have pl:p.length<=40:=by
  have:p.length<(rooms l).zipIdx.length:=by rw[Uz];simp
  rw[wP]at this;lia
 have zbw:(p.flatMap λq=>((rooms l).drop q.2).flatMap (cell r l q.1)).length<=40*40:=by
  have h1:=ie (g:=λq:Nat×Nat=>((rooms l).drop q.2).flatMap (cell r l q.1)) (B:=40) (λq=>by
   have h2:=ie (g:=cell r l q.1) (B:=1) (oC r l q.1) ((rooms l).drop q.2);rw[rV]at h2
   lia) p
  exact di h1 (Nat.mul_le_mul_right _ pl)
 rw[show(p.flatMap λq=>((rooms l).drop q.2).flatMap (cell r l q.1)).map ld=((p.flatMap λq=>((rooms l).drop q.2).flatMap (cell r l q.1))++([]:Re Nat).flatMap (cell r l x.1)).map ld from by simp];refine(d0 (e:=iN) (F:=λds=>(PyData.dict ?j3,cT l,PyData.tuple ?qU,PyData.list ?qG,((p.flatMap λq=>((rooms l).drop q.2).flatMap (cell r l q.1))++ds.flatMap (cell r l x.1)).map ld,iN x.1,())) ((rooms l).drop x.2) ?_).trans ?_
 ·intro p2 b t2 zbe RY;refine(ML w hl hn ?_ _ kn RY).trans ?_
  ·rw[xP];have h2:=ie   (oC r l x.1) p2;have h3:p2.length<((rooms l).drop x.2).length:=by rw[zbe];simp
   rw[rV]at h3;lia
  ·simp
 ·unfold lY;simp
end
abbrev j8(n:Nat)(g:Nat->Int):Re D:=(List.range n).map λi=>.int<|g i
def cz(g:Nat->Int)(i:Nat)(v:Int):Nat->Int:=λx=>if x=i then v else g x
theorem xg(n:Nat)(f:Nat->Nat):j8 n (λi=>(f i:Int))=fJ n f:=by
 unfold j8 fJ tab;rw[ic];rfl
def Ax{i:Nat}(h:i<n):fO (.list<|j8 n g) (iN i)=some (.int<|g i):=by
 have e:=uY (λi=>PyData.int<|g i) (List.range n) i ?jl;rw[List.getElem_range]at e;exact e
def D4(n:Nat)(g:Nat->Int)(i:Nat)(v:Int):(j8 n g).set i (.int v)=j8 n (cz g i v):=by
 apply vV
 ·simp
 ·intro j h1 h2;rw[List.getElem_set];simp  [uO,List.getElem_range];unfold cz;by_cases e:i=j
  ·rw[ap e,ap e.symm]
  ·rw[ba e,ba λz=>e z.symm]
theorem xf{i:Nat}(v:Int)(h:i<n):putD (j8 n g) (iN i) (.int v)=some (j8 n<|cz g i v):=by
 show(L2.WQ _<|i).map _=_;rw[u_,jA,Bx h];show some ((j8 n g).set i<|.int v)=_;rw[D4]
theorem xj(hx:x<n)(kn3:D×Re D×Unit->M D)(c:D)(fs:Re D)(k m:D)(kn:D×Re D×D×D×Re D×Unit->M D) :
  gC kn3 c fs k m (j8 n g) (iN x) kn=kn (c,fs,k,m,j8 n (cz g x<|g x - 1),()):=by
 unfold gC;rw[n8,Ax hx,e_,a_,show gJ (.int<|g x) (.int 1)=some (.int<|g x - 1)from rfl,e_,a_,xf _ hx,e_,a_]
theorem xi(hx:x<n)(kn3:D×Re D×Unit->M D)(c:D)(fs:Re D)(k:D)(kn:D×Re D×D×Re D×Unit->M D) :
  gB kn3 c fs k (j8 n g) (iN x) kn=kn (c,fs,k,j8 n (cz g x<|g x+1),()):=by
 unfold gB;rw[n8,Ax hx,e_,a_,L4.Wm,e_,a_,xf _ hx,e_,a_]
def Dh(n:Nat)(g:Nat->Int):intsOf (j8 n g)=some ((List.range n).map g):=by
 have:∀l:Re Nat,intsOf (l.map λi=>PyData.int<|g i)=some (l.map g):=by
  intro l
  induction l with
  | nil=>rfl
  | cons a l ih=>rw[aw,intsOf,ih];rfl
 exact this _
def Fm(h:0<n):∃i,yb [.list (j8 n g)]=some (.int i)/\(0<=i↔∀x,x<n->0<=g x):=by
 have e:∃i,zR ((List.range n).map g)=some i:=by
  cases n with
  | zero=>lia
  | succ n=>rw[lO];exact{_,rfl}
 let{i,e}:=e;let{s1,s2}:=CY e;refine{i,?_,λhi x hx=>Int.le_trans hi<|s1 _<|List.mem_map.mpr {x,List.mem_range.mpr hx,rfl},λhx=>?_}
 ·show(match intsOf (j8 n g)with|some ns=>(zR ns).map PyData.int|none=>none)=_;rw[Dh];show(zR _).map PyData.int=_;rw[e];rfl
 ·let{x,R0,rfl}:=List.mem_map.mp s2;exact hx x<|List.mem_range.mp R0
def outI(f:Nat->Nat)(m:Mt):Nat->Int:=let g1:=cz (λi=>(f i:Int)) m.1<|(f m.1:Int) - 1;cz g1 m.2.1<|g1 m.2.1 - 1
def Be{m:Mt}(h:T4 n m):(∀x,x<n->0<=outI f m x)↔ik f m=true:=by
 have VF:=h.ab;have hb:=h.b;unfold ik;simp  [am,aQ];constructor
 ·intro q;have q1:=q m.1 ?A;have q2:=q m.2.1 hb;unfold outI cz at q1 q2;by_cases e:m.1=m.2.1
  ·rw[ap e]at q1;lia
  ·lia
 ·unfold outI cz;by_cases e:m.1=m.2.1
  ·split
   ·lia
   ·split<;>lia
  ·split
   ·lia
   ·split<;>lia
def HB{m:Mt}(hc:ik f m=true):(λi=>((uL f m i:Nat):Int))=cz (cz (outI f m) m.2.2.1<|outI f m m.2.2.1+1) m.2.2.2 (cz (outI f m) m.2.2.1 (outI f m m.2.2.1+1) m.2.2.2+1):=by
 let{p1,p2}:=tB hc;have g1:(λi=>((up f m.1 (f m.1 - 1) i):Int))=cz (λi=>(f i)) m.1 ((f m.1) - 1):=by
  funext i;unfold up cz;split
  ·lia
  ·rfl
 have g2:(λi=>((up (up f m.1<|f m.1 - 1) m.2.1 (up f m.1 (f m.1 - 1) m.2.1 - 1) i):Int))=outI f m:=by
  unfold outI;rw[<-g1];funext i;unfold cz;show((if i=m.2.1 then _ else _:Nat):Int)=_;split
  ·lia
  ·rfl
 rw[<-g2];funext i;unfold uL;unfold up cz;by_cases e1:i=m.2.2.2
 ·by_cases e2:m.2.2.2=m.2.2.1
  ·lia
  ·lia
 ·simp  [ba e1];by_cases e2:i=m.2.2.1
  ·lia
  ·simp  [ba e2]
def bH(r:Rl)(l:Re Nat)(ps:Re (Mt×Nat)):Re ?jt:=ps.flatMap λp=>if ik (fl l) p.1 then[(p.2,led r.n l p.1)]else[]
def E_{k:Nat}:(k,c)∈bH r l r.ms.zipIdx↔Goes r l k c:=by
 unfold bH;rw[List.mem_flatMap];constructor
 ·rintro⟨p,hp,h⟩;split at h
  ·rename_i hc;have:(k,c)=(p.2,led r.n l p.1):=by simpa using h
   injection this with h1 h2;subst h1 h2;exact{p.1,List.mem_zipIdx_iff_getElem?.mp hp,hc,rfl}
  ·cases h
 ·rintro⟨m,hm,hc,rfl⟩;exact{(m,k),List.mem_zipIdx_iff_getElem?.mpr hm,by rw[ap hc];exact List.mem_singleton.mpr rfl}
theorem jj(r:Rl)(l:Re Nat)(ps:Re (Mt×Nat)):(bH r l ps).length<=ps.length:=by
 have:=ie (g:=λp=>if ik (fl l) p.1 then[(p.2,led r.n l p.1)]else[]) (B:=1) (λp=>by split<;>simp) ps;unfold bH;lia
def D9(w:Wf r)(hl:l.length=r.n){acc:Re ?jt}(ha:acc.length<=90000){p:Mt×Nat}(ok:T4 r.n p.1)(kn3:D×Re D×Unit->M D) :
  gE (cT l) (acc.map ld) (.tuple [iN p.2,mD p.1]) kn3=kn3 (cT l,(acc++if ik (fl l) p.1 then[(p.2,led r.n l p.1)]else[]).map ld,()):=by
 let{m,k}:=p;have VF:=ok.ab;have hb:=ok.b;have VE:=ok.c;have hd:=ok.d;unfold gE;unfold yG;dsimp only;have l1:lU [cT l]=some (j8 r.n λi=>(fl l i)):=by
  rw[xg,wJ hl];rfl
 have c1:(bd (bd ?qS λhi7=>oM (kD (mD m) none hi7)) λx8=>oM (bZ x8))=.ret [iN m.1,iN m.2.1]:=rfl;have c2:(bd (bd ?qS λzaa=>oM (kD (mD m) zaa none)) λTp=>oM (bZ Tp))=.ret [iN m.2.2.1,iN m.2.2.2]:=rfl;rw[l1,e_,a_,c1,a_,Nf,cD];refine(xj (?A) kn3 _ _ _ _ _).trans ?_;rw[cD];refine(xj hb kn3 _ _ _ _ _).trans ?_;show gF kn3 (cT l) (acc.map ld) ?j5 (mD m) (j8 r.n (outI (fl l) m))=_;unfold gF;let{i,e1,e2}:=Fm  (show 0<r.n by lia);rw[e1,e_,a_,L4.geI,e_,a_];by_cases hc:ik (fl l) m=true
 ·have hi:=e2.mpr ((Be ok).mpr hc);rw[ap (by simpa using hi),ap hc,c2,a_,Nf,cD];refine(xi VE kn3 _ _ _ _).trans ?_;rw[cD];refine(xi hd kn3 _ _ _ _).trans ?_;rw[cD];rw[<-HB hc,xg];unfold jZ;rw[Cr,e_,a_,a_,mY _ _ ?qv,e_,gi];rfl
 ·have hi:=λz=>hc ((Be ok).mp (e2.mp z))
  rw[ba (by simpa using hi),ba hc,je]
theorem rA(w:Wf r)(hl:l.length=r.n)(hm:r.ms.length<=90000):dR r.d (cT l)=.ret (.list ((bH r l r.ms.zipIdx).map ld)):=by
 unfold dR;have e1:qa [.tuple ?qU]=some (r.ms.zipIdx.map λp=>.tuple [iN p.2,mD p.1]):=by
  show some (jr _)=_;rw[lv]
 rw[bx,wu,e_,a_,e1,e_];refine(d0  (F:=λps=>(cT l,(bH r l ps).map ld,())) r.ms.zipIdx ?_).trans rfl;intro p x t Uz kn;have hx:=List.mem_zipIdx_iff_getElem?.mp (show x∈r.ms.zipIdx by rw[Uz];simp);have hlen:p.length<r.ms.zipIdx.length:=by rw[Uz];simp
 rw[wP]at hlen;have:=jj r l p;refine(D9 w hl ?A (w.ms x.1 (ul hx)) kn).trans ?_;unfold bH;simp
inductive SJ(r:Rl)(s:Re Nat):Re Nat->Prop
 | refl:SJ r s s
 | step {c:Re Nat} {k:Nat} {c':Re Nat}:SJ r s c->Goes r c k c'->SJ r s c'
def sumF(n:Nat)(f:Nat->Nat):Nat:=((List.range n).map f).sum
theorem jg(n:Nat)(f:Nat->Nat):sumF (n+1) f=sumF n f+f n:=by
 unfold sumF;rw[List.range_succ,gi];simp
theorem ji(f g:Nat->Nat):∀n,sumF n (λi=>f i+g i)=sumF n f+sumF n g
 | 0=>rfl
 | n+1=>by rw[jg,jg,jg,ji f g n];lia
theorem jh(x:Nat):∀n,sumF n (λi=>if x=i then 1 else 0)=if x<n then 1 else 0
 | 0=>rfl
 | n+1=>by
  rw[jg,jh x n];by_cases h:x<n
  ·rw[ap h,ba ?A,ap ?A]
  ·by_cases e:x=n
   ·rw[ba h,ap e,ap ?A]
   ·rw[ba h,ba e,ba ?A]
theorem vA(n:Nat)(f:Nat->Nat):(tab n f).sum=sumF n f:=rfl
def Ia{m:Mt}(hl:l.length=n)(ok:T4 n m)(hc:ik (fl l) m=true):(led n l m).sum=l.sum:=by
 have VF:=ok.ab;have hb:=ok.b;have VE:=ok.c;have hd:=ok.d;have e:l.sum=sumF n (fl l):=by rw[<-vA,D3 hl]
 unfold led;rw[vA];have k:=congrArg (sumF n)<|funext λi=>Ib hc i;rw[ji λi=>uL (fl l) m i+if m.1=i then 1 else 0,ji<|uL (fl l) m,ji λi=>fl l i+if m.2.2.1=i then 1 else 0,ji<|fl l,jh,jh,jh,jh,ap hb]at k;lia
theorem Goes.fit(w:Wf r){k:Nat}(g:Goes r c k c')(hl:c.length=r.n):c'.length=r.n/\c'.sum=c.sum:=by
 let{m,hm,hc,rfl}:=g;exact{zy _ _ _,Ia hl (w.ms m<|ul hm) hc}
theorem SJ.fit(w:Wf r){s:Re Nat}(hl:s.length=r.n)(h:SJ r s c):c.length=r.n/\c.sum=s.sum:=by
 induction h with
 | refl=>exact{hl,rfl}
 | step _ g ih =>
  let{h1,h2}:=g.fit w ih.1;exact{h1,h2.trans ih.2}
def comps:Nat->Nat->Re ?L
 | 0,h=>if h=0 then[[]]else[]
 | n+1,h=>(List.range<|h+1).flatMap λa=>(comps n<|h - a).map (a :: ·)
theorem pE:∀(n h:Nat) (l:Re Nat),l.length=n->l.sum=h->l∈comps n h
 | 0,h,[],_,e=>by
  have:=(e.symm);subst this;exact List.mem_singleton.mpr rfl
 | n+1,h,a::l,e1,e2=>by
  have e2:a+l.sum=h:=(e2);refine List.mem_flatMap.mpr {a,List.mem_range.mpr ?A,List.mem_map.mpr {l,pE n (h - a) l (by simpa using e1) ?A,rfl}}
def LT:∀n,n<6->∀h,h<6->(comps n h).length<=126:=by decide +kernel
theorem cC{α:Type}[DecidableEq α]:∀{l m:Re α},l.Nodup->(∀x∈l,x∈m)->l.length<=m.length
 | [],m,_,_=>ac _
 | a::l,m,hn,hs=>by
  rw[oB]at hn;have ha:=hs a da;have h:=cC  hn.2 λx hx=>by
   have:x≠a:=λz=>hn.1<|z▸hx
   exact(List.mem_erase_of_ne this).mpr<|hs x<|xO _ hx
  rw[List.length_erase_of_mem ha]at h;have:=List.length_pos_of_mem ha;rw[f8];lia
def bh(F cs:Re ?L):Re ?L:=cs.foldl (λacc c=>if c∈acc then acc else acc++[c]) F
theorem gw(F cs:Re ?L)(c:Re Nat):bh F (c::cs)=bh (if c∈F then F else F++[c]) cs:=rfl
theorem jS:∀(cs F:Re ?L),∃E,bh F cs=F++E
 | [],F=>{[],(je _).symm}
 | c::cs,F=>by
  rw[gw];let{E,e}:=jS cs<|if c∈F then F else F++[c];rw[e];split
  ·exact{E,rfl}
  ·exact{c::E,by simp}
theorem gS:∀(cs F:Re ?L),F.Nodup->(bh F cs).Nodup
 | [],F,h=>h
 | c::cs,F,h=>by
  rw[gw];refine gS cs _ ?_;split
  ·exact h
  ·rename_i hc;rw[vd];exact{h,by simp,λa ha b hb=>by rw[List.mem_singleton.mp hb];exact λz=>hc<|z▸ha}
theorem dc:∀(cs F:Re ?L) (x:Re Nat),x∈bh F cs↔x∈F\/x∈cs
 | [],F,x=>by simp[bh]
 | c::cs,F,x=>by
  rw[gw,dc cs];split
  ·rename_i hc;rw[xt];constructor
   ·rintro(h|h)
    ·exact .inl h
    ·exact .inr<|.inr h
   ·rintro(h|h|h)
    ·exact .inl h
    ·exact .inl<|h▸hc
    ·exact .inr h
  ·rw[List.mem_append,List.mem_singleton,xt];constructor
   ·rintro((h|h)|h)
    ·exact .inl h
    ·exact .inr<|.inl h
    ·exact .inr<|.inr h
   ·rintro(h|h|h)
    ·exact .inl<|.inl h
    ·exact .inl<|.inr h
    ·exact .inr h
def kyT(l:Re Nat):Re Key:=l.map λn:Nat=>.inl (n:Int)
def Ak(l:Re Nat):cT l=cY (kyT l):=by
 unfold cY kyT;rw[ic];rfl
def Br:∀{l l':Re Nat},kyT l=kyT l'↔l=l'
 | [],[]=>by simp
 | [],_::_=>by simp[kyT]
 | _::_,[]=>by simp[kyT]
 | a::l,b::l'=>by
  have ih:=Br (l:=l) (l':=l');unfold kyT at ih ⊢;rw[aw,aw,List.cons.injEq,List.cons.injEq,ih];constructor
  ·rintro⟨h,h2⟩;exact{by lia,h2}
  ·rintro⟨rfl,h2⟩;exact{rfl,h2}
theorem n6(l l':Re Nat):gP (cT l) (cT l')=decide (l=l'):=by
 rw[Ak,Ak,Pc];exact decide_eq_decide.mpr Br
theorem dZ(l:Re Nat):dF (cT l)=true:=by rw[Ak];exact FM _
abbrev kE(v:Re Nat->D)(c:Re Nat):D×D:=(cT c,v c)
section
variable (v:Re Nat->D)
theorem sK(F:Re ?L)(c:Re Nat):keyOk ?je ?jC=true:=by
 unfold keyOk;rw[si];left;rw[am,su];refine{dZ c,λx hx=>?_};let{q,_,rfl}:=List.mem_map.mp hx;exact dZ _
theorem lp(c:Re Nat):∀F:Re ?L,gz ?je ?jC=if c∈F then some (v c)else none
 | []=>rfl
 | q::F=>by
  have ih:=lp c F;unfold gz at ih ⊢;rw[aw,ir,(n6 q c)];by_cases e:q=c
  ·subst e;rw[be rfl,ap da];rfl
  ·rw[bi e];rw[ih];by_cases h:c∈F
   ·rw[ap h,ap<|xO _ h]
   ·rw[ba h,ba (λz=>by let z||z:=List.mem_cons.mp z;exact e z.symm;exact h z)]
theorem hG(F:Re ?L)(c:Re Nat):bc ?jC (.dict ?je)=some (!decide (c∈F)):=by
 show(if keyOk ?je ?jC then some (!(gz ?je ?jC).isSome)else none)=_;rw[ap<|sK v F c,lp];by_cases h:c∈F
 ·rw[ap h,be h];rfl
 ·rw[ba h,bi h];rfl
theorem kh(h:c∉F)(hl:F.length<=90000):ii true ?je ?jC (v c)=some ((F++[c]).map<|kE v):=by
 unfold ii;rw[ap,rQ,gi]
 ·rfl
 ·intro p hp;let{q,hq,rfl}:=List.mem_map.mp hp;rw[(n6 q c),ug];exact λz=>h<|z▸hq
 ·rw[am,aQ,u_];exact{dZ c,yi hl ?C}
theorem lP(h:c∈F):aD (.dict ?je) ?jC=some (v c):=by
 show(if keyOk ?je ?jC then gz ?je ?jC else none)=_;rw[ap<|sK v F c,lp,ap h]
def Ij(F:Re ?L):sL ?je=false:=by cases F<;>rfl
theorem wt(F:Re ?L):(F.map<|kE v).map (·.1)=F.map cT:=by rw[ic];rfl
theorem nY(F:Re ?L):sT [.dict ?je]=some ?qz:=by
 show(if sL ?je then none else some (PyData.int<|(F.map<|kE v).length))=_;rw[Ij,ba ?C,u_]
end
abbrev vT:Re Nat->D:=λ_=>.bool true
abbrev vL(r:Rl):Re Nat->D:=λc=>.list<|(bV r c).map ld
abbrev Yf(r:Rl):D:=.dict ?j3
theorem ld1(p:Nat×Re Nat):aD (ld p) (.int 1)=some (cT p.2):=rfl
def Io(hl:F.length<=90000)(R lim P:D)(L:Re ?M)(p:Nat×Re Nat)(RY kn:D×D×D×Re ?M×Re ?M×Re D×Unit->M D) :
  gA RY R lim P L (F.map ?jP) ?j6 (ld p) kn=kn (R,lim,P,L,(bh F [p.2]).map ?jP,(bh F [p.2]).map cT,()):=by
 unfold gA;rw[ld1,e_,a_,hG,e_,a_];have e:bh F [p.2]=if p.2∈F then F else F++[p.2]:=rfl;by_cases h:p.2∈F
 ·rw[be h,ba ?C,e,ap h]
 ·rw[bi h,a_,kh vT h hl,e_,a_,a_,mY _ _ ?qv,e_,e,ba h,gi,gi];rfl
noncomputable abbrev uF(r:Rl):D×D×D×Re ?M×Re ?M×Re D×Unit->(D×D×D×Re ?M×Re ?M×Re D×Unit->M D)->M D:=λWK kn=>bY WK.1 WK.2.1 WK.2.2.1 WK.2.2.2.1 WK.2.2.2.2.1 WK.2.2.2.2.2.1 kn
section
variable (w:Wf r) (hn:r.n<=40) (hm:r.ms.length<=2000)
include w hn hm
def G0{i limit:Nat}(hi:i<F.length)(hF:F.length<=1000)(YW:F.length<=limit)(nd:F.Nodup)(fit:∀c∈F,c.length=r.n)(kn:D×D×D×Re ?M×Re ?M×Re D×Unit->M D) :
  bY r.d (iN limit) (Yf r) ((F.take i).map ?ju) (F.map ?jP) ?j6 kn=kn (r.d,iN limit,Yf r,(F.take ?jx).map ?ju,(bh F ((bV r F[i]).map (·.2))).map ?jP,(bh F ((bV r F[i]).map (·.2))).map cT,()):=by
 have hc:=fit F[i]<|ib hi;have t1:(F.take i).length=i:=by rw[wT];lia
 have nin:F[i]∉F.take i:=λz=>by
  let{j,hj,e}:=ou z;rw[List.getElem_take]at e;have Xa:j<i:=by rw[t1]at hj;exact hj
  exact absurd (List.pairwise_iff_getElem.mp nd j i ?A hi Xa) (by rw[e];exact λz=>z rfl)
 have tk:F.take i++[F[i]]=F.take ?jx:=List.take_append_getElem hi;have ll:dm [.list ?j6]=some ?qz:=by rw[L4.Uv,u_]
 have g1:eW (iN (F.take i).length) ?qz=some true:=by
  show zh (.int _) (.int _)=_;rw[L4.ltI,be (by rw[t1];lia)]
 have g2:eX ?qz (iN limit)=some false:=by rw[L4.Zw,bi ?A]
 have ix:aD (.list ?j6) (iN (F.take i).length)=some (cT F[i]):=by
  rw[t1,n8,show fO (.list ?j6) (iN i)=_ from uY cT F i hi]
 unfold bY;rw[nY,ll,e_,e_,a_,a_,g1,e_,a_,ap rfl,a_,g2,e_,a_,a_,ix,e_,a_,zC w hc hn ?A,a_,kh (vL r) nin ?A,e_,a_,tk,lP (vL r)<|tk▸eE _ (List.mem_singleton.mpr rfl),e_,a_,show bZ (vL r F[i])=some ((bV r F[i]).map ld)from rfl,e_];refine(d0  (F:=λps=>(r.d,iN limit,Yf r,(F.take ?jx).map ?ju,(bh F (ps.map (·.2))).map ?jP,(bh F (ps.map (·.2))).map cT,())) (bV r F[i]) ?_).trans rfl;intro p x t Uz kn';have hlen:(bh F (p.map (·.2))).length<=90000:=by
  have h1:∀(cs G:Re ?L),(bh G cs).length<=G.length+cs.length:=by
   intro cs
   induction cs with
   | nil=>simp[bh]
   | cons c cs ih =>
    intro G;rw[gw];refine di (ih _) ?_;split<;>simp<;>lia
  have h2:=h1 (p.map (·.2)) F;have h3:p.length<=(bV r F[i]).length:=by rw[Uz];simp
  have h4:(bV r F[i]).length<=40*40:=by
   have rl:=oW F[i];refine di (ie   (λq=>?_) _) (Nat.mul_le_mul_right _ (by rw[wP];lia));have h5:=ie   (oC r F[i] q.1)<|(rooms F[i]).drop q.2;rw[rV]at h5;lia
  rw[u_]at h2;lia
 refine(Io hlen _ _ _ _ x _ _).trans ?_;rw[gi,show bh F (p.map (·.2)++[x].map (·.2))=bh (bh F (p.map (·.2))) [x.2]from by unfold bh;rw[List.foldl_append];rfl]
def Eh{c0:Re Nat}{R:Re ?L}(Ub:c0.length=r.n)(hR:R.Nodup)(mem:∀c,c∈R↔SJ r c0 c)(hB:R.length<=900)(limit:Nat) :
  ∀(fuel i:Nat) (F:Re ?L),F.Nodup->(∀c∈F,c∈R)->c0∈F->i<=F.length->(∀(j:Nat) (h:j<F.length),j<i->∀k c,Goes r F[j] k c->c∈F)->(F.length<=limit\/i<F.length)->R.length<fuel+i ->
   (R.length<=limit/\∃F':Re ?L,F'.Perm R/\bG (uF r) fuel (r.d,iN limit,Yf r,(F.take i).map ?ju,F.map ?jP,F.map cT,())=.ret (.dict<|F'.map ?ju)) \/
   (limit<R.length/\bG (uF r) fuel (r.d,iN limit,Yf r,(F.take i).map ?ju,F.map ?jP,F.map cT,())=.bad)
 | 0,i,F,nd,sub,_,hi,_,_,hf=>by
  have:=cC nd sub;lia
 | fuel+1,i,F,nd,sub,h0,hi,cl,hj,hf=>by
  have hle:=cC nd sub;have fit:∀c∈F,c.length=r.n:=λc hc=>(((mem c).mp<|sub c hc).fit w Ub).1
  rw[bG];by_cases r_:i<F.length
  ·by_cases YW:F.length<=limit
   ·have st:uF r (r.d,iN limit,Yf r,(F.take i).map ?ju,F.map ?jP,F.map cT,()) (λs'=>bG (uF r) fuel s')=bG (uF r) fuel (r.d,iN limit,Yf r,((bh F ((bV r F[i]).map (·.2))).take ?jx).map ?ju,(bh F ((bV r F[i]).map (·.2))).map ?jP,(bh F ((bV r F[i]).map (·.2))).map cT,()):=by
     refine(G0 w hn hm r_ ?A YW nd fit _).trans ?_;let{E,e}:=jS ((bV r F[i]).map (·.2)) F;have:(bh F ((bV r F[i]).map (·.2))).take ?jx=F.take ?jx:=by rw[e,List.take_append_of_le_length ?A]
     rw[this]
    rw[st];have rF:∀c∈F,SJ r c0 c:=λc hc=>(mem c).mp<|sub c hc
    have Um:∀c∈bh F ((bV r F[i]).map (·.2)),c∈R:=λc hc=>by
     rcases(dc _ _ _).mp hc with h|h
     ·exact sub c h
     ·let{p,hp,rfl}:=List.mem_map.mp h;exact(mem _).mpr<|.step (rF F[i]<|ib r_)<|(eO w<|fit _<|ib r_).mp hp
    let{E,e}:=jS ((bV r F[i]).map (·.2)) F;have zbq:F.length<=(bh F ((bV r F[i]).map (·.2))).length:=by rw[e,xP];lia
    have at':∀(j:Nat) (h:j<F.length) (h':j<(bh F ((bV r F[i]).map (·.2))).length),(bh F ((bV r F[i]).map (·.2)))[j]=F[j]:=λj h h'=>by
     simp![e];exact List.getElem_append_left h
    refine Eh Ub hR mem hB limit fuel ?jx _ (gS _ _ nd) Um ((dc _ _ _).mpr<|.inl h0) ?A (λj h hji k c g=>?_) ?_ ?A
    ·rw[at' j ?A h]at g;let lt||ge:=Nat.lt_or_ge j i
     ·exact(dc _ _ _).mpr<|.inl<|cl j ?A lt k c g
     ·have:j=i:=by lia
      subst this;exact(dc _ _ _).mpr<|.inr<|List.mem_map.mpr {(k,c),(eO w<|fit _<|ib r_).mpr g,rfl}
    ·by_cases z:(bh F ((bV r F[i]).map (·.2))).length<=limit
     ·exact .inl z
     ·exact .inr ?A
   ·right;have ll:dm [.list ?j6]=some ?qz:=by rw[L4.Uv,u_]
    have g1:eW (iN (F.take i).length) ?qz=some true:=by
     show zh (.int _) (.int _)=_;rw[L4.ltI,be (by rw[wT];lia)]
    have g2:eX ?qz (iN limit)=some true:=by rw[L4.Zw,be ?A]
    refine{by lia,?_};show bY r.d (iN limit) (Yf r) ((F.take i).map ?ju) (F.map ?jP) ?j6 _=_;unfold bY;rw[nY,ll,e_,e_,a_,a_,g1,e_,a_,ap rfl,a_,g2,e_,a_,ap rfl]
  ·left;have hiF:i=F.length:=by lia
   have all:∀c,SJ r c0 c->c∈F:=λc hc=>by
    induction hc with
    | refl=>exact h0
    | step _ g ih =>
     let{j,hj,e}:=ou ih;exact cl j hj ?A _ _<|e▸g
   have pm:=(List.perm_ext_iff_of_nodup nd hR).mpr λc=>{sub c,λh=>all c<|(mem c).mp h}
   have ll:dm [.list ?j6]=some ?qz:=by rw[L4.Uv,u_]
   have g1:eW (iN (F.take i).length) ?qz=some false:=by
    show zh (.int _) (.int _)=_;rw[L4.ltI,bi (by rw[wT];lia)]
   refine{by have:=pm.length_eq;lia,F,pm,?_};show bY r.d (iN limit) (Yf r) ((F.take i).map ?ju) (F.map ?jP) ?j6 _=_;unfold bY;rw[nY,ll,e_,e_,a_,a_,g1,e_,a_,ba ?C];unfold jX;rw[hiF,List.take_length]
def Ip{R:Re ?L}(Ub:c0.length=r.n)(hR:R.Nodup)(mem:∀c,c∈R↔SJ r c0 c)(hB:R.length<=900)(limit:Nat) :
  (R.length<=limit/\∃F:Re ?L,F.Perm R/\dQ r.d (cT c0) (iN limit)=.ret (.dict<|F.map ?ju))\/(limit<R.length/\dQ r.d (cT c0) (iN limit)=.bad):=by
 have e:dQ r.d (cT c0) (iN limit)=bG (uF r) 10000 (r.d,iN limit,Yf r,(([c0]).take 0).map ?ju,([c0]).map ?jP,([c0]).map cT,()):=by
  unfold dQ;rw[EZ w ?A];unfold jo;rw[dZ];rw[Mk];rfl
 rw[e];refine Eh w hn hm Ub hR mem hB limit 10000 0 [c0] ?E (λc hc=>?_) (List.mem_singleton.mpr rfl) ?U (λj h z=>absurd z<|Nat.not_lt_zero _) (.inr ?E) ?A;rw[List.mem_singleton.mp hc];exact(mem _).mpr .refl
end
abbrev vS(r:Rl):Re Nat->D:=λc=>.list<|(bH r c r.ms.zipIdx).map ld
noncomputable abbrev Jh:D×Re ?M×Re D×Unit->(D×Re ?M×Re D×Unit->M D)->M D:=λZX kn=>fZ ZX.1 ZX.2.1 ZX.2.2.1 kn
theorem zl(L:Re ?L):cI (.list ?jY) (.list [])=some (!L.isEmpty):=by
 have hd:(PyData.list ?jY).depth<=1000:=by
  have:∀l:Re ?L,PyData.depthAll (l.map cT)<=10:=by
   intro l
   induction l with
   | nil=>simp[PyData.depthAll]
   | cons a l ih =>
    have h1:(cT a).depth<=10:=by
     have:∀l:Re Nat,PyData.depthAll ?jM<=1:=by
      intro l
      induction l with
      | nil=>simp[PyData.depthAll]
      | cons a l ih=>simp  [aw,PyData.depthAll,PyData.depth];lia
     have h2:=this a;simp  [PyData.depth];lia
    simp  [aw,PyData.depthAll];lia
  have h:=this L;simp  [PyData.depth];lia
 have lay:(PyData.list ?jY).canLay0=true:=by
  exact n4 λd hd=>by
   let{l,_,rfl}:=List.mem_map.mp hd;exact(FA l).1
 unfold cI uh;rw[ap (by rw[lay,be hd];rfl)]
 cases L with
 | nil=>rfl
 | cons a L=>rfl
def E0(ps:Re ?jt):aW (λd8=>yG d8 λy9 y10=>M.ret<|some y10) ?qN=.ret ((ps.map (·.2)).map cT):=by
 rw[fQ   ps λp _=>rfl,ic];rfl
section
variable (w:Wf r) (hm:r.ms.length<=30)
include w hm
theorem vK{c0:Re Nat}(Ub:c0.length=r.n)(B:Nat)(hB:B<=200)(bound:∀F:Re ?L,F.Nodup->(∀c∈F,c.length=r.n/\c.sum=c0.sum)->F.length<=B) :
  ∀(fuel:Nat) (F L:Re ?L),F.Nodup->(∀c∈F,SJ r c0 c)->(∀c∈L,SJ r c0 c)->(c0∈F\/c0∈L)->(∀c∈F,∀k c',Goes r c k c'->c'∈F\/c'∈L)->L.length+31*(B - F.length)<fuel->fuel<=10000 ->
   ∃F':Re ?L,F'.Nodup/\(∀c,c∈F'↔SJ r c0 c)/\bG Jh fuel (r.d,F.map (kE<|vS r),L.map cT,())=.ret (.dict<|F'.map<|kE<|vS r)
 | 0,F,L,_,_,_,_,_,hf,_=>by lia
 | fuel+1,F,L,nd,rF,rL,h0,cl,hf,hfu=>by
  rw[bG];show ∃F':Re ?L,_/\_/\fZ r.d ?jg ?jY (λs'=>bG Jh fuel s')=_;unfold fZ;rw[zl,e_,a_];let rfl||{L',x,rfl}:=List.eq_nil_or_concat L
  ·rw[ba ?C];unfold md;refine{F,nd,λc=>{rF c,λh=>?_},rfl}
   induction h with
   | refl=>exact h0.resolve_right ?E
   | step _ g ih=>exact(cl _ ih _ _ g).resolve_right ?E
  ·rw[List.concat_eq_append]at *;rw[ap<|show(!(L'++[x]).isEmpty)=true by simp];have gl:(List.map cT<|L'++[x]).getLast? = some (cT x):=by simp
   have dl:List.dropLast (List.map cT<|L'++[x])=L'.map cT:=by rw[gi];simp
   unfold mM;rw[gl,dl];dsimp only;have zaD:∀c∈F,c.length=r.n/\c.sum=c0.sum:=λc hc=>(rF c hc).fit w Ub
   have hFB:=bound F nd zaD;have hx:SJ r c0 x:=rL x ?E;rw[xP,wn]at hf;rw[hG,e_,a_];by_cases VD:x∈F
   ·rw[be VD,ba ?C];refine vK Ub B hB bound fuel F L' nd rF (λc hc=>rL c (by simp[hc])) ?_ (λc hc k c' g=>?_) ?A ?A
    ·let h||h:=h0
     ·exact .inl h
     ·let h||h:=List.mem_append.mp h
      ·exact .inr h
      ·rw[List.mem_singleton.mp h];exact .inl VD
    ·let h||h:=cl c hc k c' g
     ·exact .inl h
     ·let h||h:=List.mem_append.mp h
      ·exact .inr h
      ·rw[List.mem_singleton.mp h];exact .inl VD
   ·have hxf:=hx.fit w Ub;have nd':(F++[x]).Nodup:=by
     rw[vd];exact{nd,by simp,λa ha b hb=>by rw[List.mem_singleton.mp hb];exact λz=>VD<|z▸ha}
    have zbm:=bound (F++[x]) nd' (λc hc=>by
     let h||h:=List.mem_append.mp hc
     ·exact zaD c h
     ·rw[List.mem_singleton.mp h];exact hxf)
    rw[xP,wn]at zbm;have sl:=jj r x r.ms.zipIdx;rw[wP]at sl;rw[bi VD,rA w hxf.1 ?A,a_,kh (vS r) VD ?A,e_,a_,lP (vS r)<|eE _<|List.mem_singleton.mpr rfl,e_,a_,show bZ (vS r x)=some ((bH r x r.ms.zipIdx).map ld)from rfl,e_,a_,E0,a_,FY (by rw[u_,u_];lia),a_,Gb _ _ (by rw[u_,u_,u_];lia),e_,<-gi];refine vK Ub B hB bound fuel (F++[x]) (L'++(bH r x r.ms.zipIdx).map (·.2)) nd' (λc hc=>?_) (λc hc=>?_) ?_ (λc hc k c' g=>?_) ?_ ?_
    ·let h||h:=List.mem_append.mp hc
     ·exact rF c h
     ·rw[List.mem_singleton.mp h];exact hx
    ·let h||h:=List.mem_append.mp hc
     ·exact rL c (by simp[h])
     ·let{p,hp,rfl}:=List.mem_map.mp h;exact .step hx<|E_.mp hp
    ·let h||h:=h0
     ·exact .inl<|aR _ h
     ·let h||h:=List.mem_append.mp h
      ·exact .inr<|aR _ h
      ·exact .inl<|eE _ h
    ·let h||h:=List.mem_append.mp hc
     ·let h||h:=cl c h k c' g
      ·exact .inl<|aR _ h
      ·let h||h:=List.mem_append.mp h
       ·exact .inr<|aR _ h
       ·exact .inl<|eE _ h
     ·rw[List.mem_singleton.mp h]at g;exact .inr<|eE _<|List.mem_map.mpr {(k,c'),E_.mpr g,rfl}
    ·rw[xP,xP,u_,wn];lia
    ·lia
def Mb(Ub:c0.length=r.n)(B:Nat)(hB:B<=200)(bound:∀F:Re ?L,F.Nodup->(∀c∈F,c.length=r.n/\c.sum=c0.sum)->F.length<=B) :
  ∃F:Re ?L,F.Nodup/\(∀c,c∈F↔SJ r c0 c)/\F.length<=B/\iu r.d (cT c0)=.ret (.dict ?jg):=by
 let{F,h1,h2,h3}:=vK w hm Ub B hB bound 10000 [] [c0] vf (λc hc=>(nomatch hc)) (λc hc=>by rw[List.mem_singleton.mp hc];exact .refl) (.inr<|List.mem_singleton.mpr rfl) (λc hc=>(nomatch hc)) ?jd ?ji;refine{F,h1,h2,bound F h1 λc hc=>((h2 c).mp hc).fit w Ub,?_};unfold iu;rw[Mk];exact h3
end
inductive Qs where
 | least (s:Re Nat) (n:Nat)
 | more (a b:Re Nat)
 | rest (s:Re Nat) (m r:Nat)
 | neg (q:Qs)
def Qs.d:Qs->D
 | .least s n=>.tuple [.str "least",.tuple ?jN,iN n]
 | .more a b=>.tuple [.str "more",.tuple (a.map iN),.tuple (b.map iN)]
 | .rest s m r=>.tuple [.str "rest",.tuple ?jN,iN m,iN r]
 | .neg q=>.tuple [.str "not",q.d]
def g_(k:Nat)(s:Re Nat):Prop:=s.length<=4/\∀x∈s,x<k
def Qs.ok(k:Nat):Nat->Qs->Prop
 | _,.least s n=>g_ k s/\1<=n/\n<=3
 | _,.more a b=>g_ k a/\g_ k b/\∀x∈a,x∉b
 | _,.rest s m r=>g_ k s/\2<=m/\m<=3/\r<m
 | i+1,.neg q=>q.ok k i
 | 0,_=>False
theorem Qs.ok.up{k:Nat}:∀{i:Nat} {q:Qs},q.ok k i->q.ok k ?jx
 | i,.least _ _,h=>by cases i<;>exact h
 | i,.more _ _,h=>by cases i<;>exact h
 | i,.rest _ _ _,h=>by cases i<;>exact h
 | i+1,.neg q,h=>Qs.ok.up (i:=i)  h
 | 0,.neg _,h=>h.elim
def NM(x:Nat)(l:Re Nat):lK (iN x) (.tuple ?jM)=some (decide<|x∈l)/\bc (iN x) (.tuple ?jM)=some (!decide (x∈l)):=by
 have hi:lG (iN x) ?jM=true:=by
  unfold lG;rw[sI l];rfl
 have e:((l.map iN).any λy=>PyData.eqv y<|iN x)=decide (x∈l):=by
  rw[ku,List.any_eq_true,aQ];constructor
  ·rintro⟨d,hd,h⟩;let{y,hy,rfl}:=List.mem_map.mp hd;have:((y:Int)==(x))=true:=h;rw[Fk,aQ]at this;exact this▸hy
  ·intro h;refine{iN x,List.mem_map.mpr {x,h,rfl},?_};show((x:Int)==(x))=true;simp
 constructor
 ·rw[NN,show xF (iN x) (.tuple ?jM)=if lG (iN x) ?jM then some ((l.map iN).any λy=>PyData.eqv y<|iN x)else none from rfl,ap hi,e]
 ·rw[Ff,show iE (iN x) (.tuple ?jM)=if lG (iN x) ?jM then some (!((l.map iN).any λy=>PyData.eqv y<|iN x))else none from rfl,ap hi,e]
theorem nxR{S:Type}(s:S):kA (M.ret s)=.ret s:=id rfl
theorem gtN(a b:Nat):eX (iN a) (iN b)=some (decide<|b<a):=(L4.Zw _ _).trans<|congrArg some<|decide_eq_decide.mpr ?A
def tI(self:Re D->D->D->M ?jK)(f:Re D)(k deep S:D):M ?jK :=
 bd (aF f<|.int 4) λVX=>bd (bd (oM<|bp VX.1<|.int 3) λYc=>if Yc then oM (eX deep<|.int 0)else .ret false) λZc=>if Zc then
  bd (self VX.2 k<|.int 0) λr13=>.ret ((.tuple [(.str "not"),r13.1]),r13.2)
  else
  bd (oM<|bp VX.1<|.int 1) λYb=>if Yb then
  bd (bd (bd (oM<|bO [k]) λWN=>bd (aW (λd15=>bd (oM<|bc d15 S) λUN=>if UN then .ret (some d15)else .ret none) WN) cp) λV4=>.ret<|PyData.list V4) λSY=>bd (aF VX.2<|.int 2) λr20=>bd (oM<|lq SY r20.1) λU0=>bd (oM<|dJ [U0]) λTQ=>.ret ((.tuple [(.str "more"),S,TQ]),r20.2)
  else
  bd (oM<|bp VX.1<|.int 2) λb23=>if b23 then
  bd (aF VX.2<|.int 2) λr24=>bd (oM<|bE (.int 2) r24.1) λUj=>bd (aF r24.2 Uj) λr26=>.ret ((.tuple [(.str "rest"),S,Uj,r26.1]),r26.2)
  else
  bd (aF VX.2<|.int 3) λr27=>bd (oM<|bE (.int 1) r27.1) λVN=>.ret ((.tuple [(.str "least"),S,VN]),r27.2)
def qh(T k i:Nat)(m:M ?jK):Prop:=∃(q:Qs) (f':Re D),m=.ret (q.d,f')/\q.ok k i/\Fd T f'
def G3{B k i:Nat}{f:Re D}{s:Re Nat}{self:Re D->D->D->M ?jK}(hf:Fd T f)(hT:T<=890000)(hB:T+20<=B)(hk:1<=k)(hk4:k<=4)(hs:g_ k s)(hi:i<=1)(hq:∀f,i=1->Fd (T+1) f->qh B k 0 (self f ?j5<|.int 0)):qh B k i (tI self f ?j5 (iN i)<|.tuple ?jN):=by
 let{x,f1,e1,hx,Xc}:=e7 (m:=4) hf ?A ?A ?A;have up:∀{q:Qs},q.ok k 0->q.ok k i:=λ{q} h=>by
  rcases(by lia:i=0\/i=1)with rfl|rfl
  ·exact h
  ·exact h.up
 unfold tI;rw[show aF f (.int 4)=_ from e1,a_];dsimp only;rw[show bp (iN x) (.int 3)=_ from Wz x 3,e_,a_,show eX (iN i) (.int 0)=_ from gtN i 0,e_];by_cases h3:x=3/\i=1
 ·let{q,f2,e2,h1,h2}:=hq f1 h3.2 Xc;rw[be h3.1,ap rfl,a_,be ?A,ap rfl,e2,a_];exact{.neg q,f2,rfl,by rw[h3.2];exact h1,h2}
 ·rw[show(if decide (x=3)=true then M.ret (decide<|0<i)else M.ret false)=M.ret false by
   by_cases h:x=3
   ·rw[be h,ap rfl,bi ?A]
   ·rw[bi h,ba ?C],a_,ba ?C,show bp (iN x) (.int 1)=_ from Wz x 1,e_,a_]
  by_cases h1:x=1
  ·let{n,f2,e2,hn,Xb}:=e7 (m:=2) Xc ?A ?A ?A;have cm:aW (λZJ=>bd (oM<|bc ZJ<|.tuple ?jN) λb19=>if b19 then M.ret (some ZJ)else .ret none) ((List.range k).map iN)=.ret (((List.range k).filter λy=>!decide (y∈s)).map iN):=by
    rw[dn (e:=iN) (g:=λy=>if(!decide (y∈s))=true then some (iN y)else none) (List.range k) λy _=>by
     rw[(NM y s).2,e_,a_]
     cases (!decide (y∈s))<;>rfl]
    refine congrArg M.ret ?_
    induction (List.range k)with
    | nil=>rfl
    | cons a l ih =>
     rw[u8,kj,ih]
     cases (!decide (a∈s))<;>rfl
   rw[be h1,ap rfl,fV k ?A,e_,a_,cm,a_];generalize ho:(List.range k).filter (λy=>!decide (y∈s))=o;have ol:o.length<=k:=by rw[<-ho];exact di (tu _ _) ?E
   have om:∀y∈o,y<k/\y∉s:=λy hy=>by
    rw[<-ho,tO,List.mem_range]at hy;exact{hy.1,by simpa using hy.2}
   rw[cG ?qv,a_,a_,show aF f1 (.int 2)=_ from e2,a_];rw[show lq (.list<|o.map iN) (iN n)=some (.list<|L4.cutD (o.map iN) (some<|n) none)from rfl,e_,a_,LS,<-List.map_drop,Cr,e_];refine{.more s<|o.drop n,f2,rfl,up {hs,{by rw[rV];lia,λy hy=>(om y<|List.mem_of_mem_drop hy).1},λy hy h=>(om y<|List.mem_of_mem_drop h).2 hy},Xb.le ?A}
  ·rw[bi h1,show bp (iN x) (.int 2)=_ from Wz x 2,e_,a_];by_cases h2:x=2
   ·let{n,f2,e2,hn,Xb}:=e7 (m:=2) Xc ?A ?A ?A;let{y,f3,e3,hy,hf3}:=e7 (m:=2+n) Xb ?A ?A ?A;rw[be h2,show aF f1 (.int 2)=_ from e2,a_];rw[show bE (.int 2) (iN n)=_ from DL 2 n,e_,a_,(e3)];exact{.rest s (2+n) y,f3,rfl,up {hs,by lia,by lia,hy},hf3.le ?A}
   ·let{n,f2,e2,hn,Xb}:=e7 (m:=3) Xc ?A ?A ?A;rw[bi h2,show aF f1 (.int 3)=_ from e2,a_];rw[Oe,e_];exact{.least s<|n+1,f2,rfl,up {hs,by lia,by lia},Xb.le ?A}
def AQ{B k i:Nat}{f:Re D}{self:Re D->D->D->M ?jK}(hf:Fd T f)(hT:T<=880000)(hB:T+30<=B)(hk:1<=k)(hk4:k<=4)(hi:i<=1)(hq:∀f,i=1->Fd (T+11) f->qh B k 0 (self f ?j5<|.int 0)):qh B k i (fg self f ?j5<|iN i):=by
 unfold fg;rw[fV k ?A,e_,a_];have step:∀(l:Re Nat) (j:Nat) (f:Re D),(∀x∈l,x<k)->l.length+j<=4->Fd (T+j) f->∃(s:Re Nat) (f':Re D),iJ (λ(s2:Re D×D×D×Unit) d3=>bd (aF s2.1<|.int 2) λr4=>bd (oM<|bp r4.1<|.int 0) λb5=>if b5 then M.ret (some d3,(r4.2,s2.2.1,s2.2.2.1,()))else .ret (none,(r4.2,s2.2.1,s2.2.2.1,()))) ?jM (f,iN k,iN i,())=.ret (s.map iN,(f',iN k,iN i,()))/\s.length<=l.length/\(∀x∈s,x∈l)/\Fd (T+4) f':=by
  intro l
  induction l with
  | nil=>exact λj f _ h hf=>{[],f,rfl,ai _,λ_ h=>h,hf.le (by simp at h;lia)}
  | cons a l ih =>
   intro j f hl h hf;rw[f8]at h;let{x,f1,e1,hx,Xc}:=e7 (m:=2) hf ?A ?A ?A;have e1':aF f (.int 2)=.ret (iN x,f1):=e1;let{s,f',e2,h1,h2,h3}:=ih ?qI f1 (λx hx=>hl x<|xO _ hx) ?A Xc;rw[aw,iJ];dsimp only;rw[e1',a_];dsimp only;rw[show bp (iN x) (.int 0)=some (decide<|x=0)from Wz x 0,e_,a_];by_cases hx0:x=0
   ·rw[be hx0,ap rfl,nxR,a_];dsimp only;rw[e2,a_];exact{a::s,f',rfl,by simp;lia,λy hy=>(List.mem_cons.mp hy).elim (λe=>e▸da) λq=>xO _<|h2 y q,h3}
   ·rw[bi hx0,ba ?C,nxR,a_];dsimp only;rw[e2];exact{s,f',rfl,by simp;lia,λy hy=>xO _<|h2 y hy,h3}
 let{s,f1,e,h1,h2,h3}:=step (List.range k) 0 f (λx hx=>List.mem_range.mp hx) ?jd hf;rw[jA]at h1;rw[e,a_];rw[cG ?qv,a_,Cr,e_,a_,show cI (.tuple ?jN) (.tuple [])=_ from neT s [],e_,a_];have go:∀(f:Re D) (s:Re Nat),Fd (T+10) f->g_ k s->qh B k i (tI self f ?j5 (iN i)<|.tuple ?jN):=λf s hf hs=>by
  exact G3  hf ?A ?A hk hk4 hs hi λf a b=>hq f a b
 by_cases hs:s=[]
 ·subst hs;let{x,f2,e2,hx,Xb}:=e7 (m:=k) h3 ?A ?A ?A;rw[(e2)];exact go f2 [x] (Xb.le ?A) {by simp,λy hy=>by simp at hy;lia}
 ·rw[ap (by simp[hs])];exact go f1 s (h3.le ?A) {by lia,λx hx=>List.mem_range.mp<|h2 x hx}
theorem xu{k:Nat}{f:Re D}(hf:Fd T f)(hT:T<=870000)(hk:1<=k)(hk4:k<=4):qh (T+60) k 1 (dA 8 f ?j5<|.int 1) :=
 AQ   hf ?A ?A hk hk4 ?A λf1 _ h =>
  AQ    h ?A ?A hk hk4 ?A λ_ z=>by lia
noncomputable def Sml(r:Rl):Prop:=r.n<=2
theorem Sml.n5(h:Sml r):r.n<=5:=di h ?C
def LU:∀n,n<3->∀h,h<6->(comps n h).length<=63:=by decide +kernel
theorem zU(w:Wf r)(s:Sml r)(hc:c0.length=r.n)(h4:c0.sum<=5)(nd:F.Nodup)(mem:∀c∈F,SJ r c0 c):F.length<=63:=by
 refine di (cC nd λc Ta=>?_)<|LU r.n (Nat.lt_succ_of_le s) c0.sum ?A;let{a,b}:=(mem c Ta).fit w hc;exact pE _ _ _ a b
def sd(r:Rl)(c:Re Nat):D:=uK<|((List.range r.n).filter λi=>decide<|0<fl c i).map λi=>r.sy.getD i false
def Ei(r:Rl)(c:Re Nat):sd r c=.str "yes" \/ sd r c=.str "both" \/ sd r c=.str "no":=by
 unfold sd uK;split
 ·exact .inl rfl
 ·split
  ·exact .inr<|.inl rfl
  ·exact .inr<|.inr rfl
def Ha(w:Wf r)(f:Nat->Nat)(hn:r.n<=1000):pK r.d (.tuple<|fJ r.n f)=.ret (uK<|((List.range r.n).filter λi=>decide<|0<f i).map λi=>r.sy.getD i false):=by
 unfold pK;have ez:mh (r.sy.map PyData.bool) (fJ r.n f)=(List.range r.n).map λi=>.tuple [.bool ?j7,iN (f i)]:=by
  unfold mh;apply vV
  ·simp[db,w.sy]
  ·intro i h1 h2;have hi:=by simpa using h2
   have V7:i<r.sy.length:=by rw[w.sy];exact hi
   have ht:=by
    have:=vC (f:=f) hi;rw[ax (by rw[db];exact hi)]at this;exact Option.some.inj this
   rw[List.getElem_zipWith,uO,uO,uO,List.getElem_range,ht,fu,ax V7];rfl
 rw[bx,Ii,e_,a_,BK,e_,a_,ez,dn (g:=λi=>if decide (0<f i)then some (.bool ?j7)else none) (List.range r.n) (by
  intro i hi;have u2:∀(k:D->D->M (SL D)),yG (.tuple [.bool ?j7,iN (f i)]) k=k (.bool ?j7) (iN<|f i):=λk=>id rfl
  rw[u2,Zw,e_,a_];by_cases h:0<f i
  ·rw[ap ?jl,ap ?jl]
  ·rw[ba ?jl,ba ?jl]),a_]
 have e2:((List.range r.n).filterMap λi=>if decide (0<f i)=true then some (PyData.bool ?j7)else none)=(((List.range r.n).filter λi=>decide<|0<f i).map λi=>r.sy.getD i false).map PyData.bool:=by
  induction List.range r.n with
  | nil=>rfl
  | cons p l ih =>
   by_cases h:0<f p
   ·simp[h];simpa using ih
   ·simp[h];simpa using ih
 rw[e2,cG (by
  rw[u_,u_]
  exact di (tu _ _) (by simpa using hn)),a_,a_,L4.allB,e_]
 unfold uK
 cases (List.all _ id)
 ·rw[ba ?C,L4.anyB,e_]
  cases (List.any _ id)<;>rfl
 ·rfl
theorem inB(bs:Re Bool):bc (.bool false) (.list ?jm)=some (bs.all id)/\lK (.bool true) (.list ?jm)=some (bs.any id):=by
 have lay:∀b,lG (.bool b) ?jm=true:=λb=>by
  unfold lG;rw[n4 λd hd=>by let{c,_,rfl}:=List.mem_map.mp hd;rfl];rfl
 constructor
 ·rw[Fh,show iE (.bool false) (.list ?jm)=if lG (.bool false) ?jm then some (!((bs.map PyData.bool).any λy=>PyData.eqv y<|.bool false))else none from rfl,ap<|lay _];congr 1;clear lay
  induction bs with
  | nil=>rfl
  | cons b bs ih =>
   rw[aw,jm,<-ih]
   cases b<;>rfl
 ·rw[NO,show xF (.bool true) (.list ?jm)=if lG (.bool true) ?jm then some ((bs.map PyData.bool).any λy=>PyData.eqv y<|.bool true)else none from rfl,ap<|lay _];congr 1;clear lay
  induction bs with
  | nil=>rfl
  | cons b bs ih =>
   rw[aw,sO,ih]
   cases b<;>rfl
theorem zD(w:Wf r)(f:Nat->Nat)(hn:r.n<=1000):dM r.d (.tuple<|fJ r.n f)=.ret (uK<|((List.range r.n).filter λi=>decide<|0<f i).map λi=>r.sy.getD i false):=by
 unfold dM
 rw[bx,jJ,e_,a_,fV _ ?A,e_,a_,dn  (g:=λi=>if decide (0<f i)then some (.bool ?j7)else none) (List.range r.n) (by
  intro i hi;have hi:=List.mem_range.mp hi;rw[bx,vB hi,e_,a_,L4.Zw,e_,a_];by_cases h:0<f i
  ·rw[ap ?A,ap ?jl,bx,Ii,e_,a_,bx,NI PyData.bool r.sy i false (by rw[w.sy];exact hi),e_,a_]
  ·rw[ba ?A,ba ?jl]),a_]
 have e2:((List.range r.n).filterMap λi=>if decide (0<f i)=true then some (PyData.bool ?j7)else none)=(((List.range r.n).filter λi=>decide<|0<f i).map λi=>r.sy.getD i false).map PyData.bool:=by
  induction List.range r.n with
  | nil=>rfl
  | cons p l ih =>
   by_cases h:0<f p
   ·simp[h];simpa using ih
   ·simp[h];simpa using ih
 rw[e2,cG (by
  rw[u_,u_]
  exact di (tu _ _) (by simpa using hn)),a_,a_,(inB _).1,e_]
 unfold uK
 cases (List.all _ id)
 ·rw[ba ?C,(inB _).2,e_]
  cases (List.any _ id)<;>rfl
 ·rfl
def Ej(w:Wf r)(hc:c.length=r.n)(hn:r.n<=1000):pK r.d ?jC=.ret (sd r c)/\dM r.d ?jC=.ret (sd r c):=by
 rw[wJ hc];exact{Ha w (fl c) hn,zD w (fl c) hn}
def bg(r:Rl)(cs:Re Nat):Re Nat:=tab r.n<|cnt<|iY<|r.st.zip cs
def GD(w:Wf r)(cs:Re Nat)(hn:r.n<=1000):qT r.d (cT cs)=.ret (cT ?qD):=by
 unfold qT;rw[bx,jJ,e_,a_,Fl _ _ ?A,e_,a_,Ck,bx,kB,e_,a_,BK,e_,DQ];refine(d0  (F:=λpre=>(fJ r.n (cnt<|iY pre),())) (r.st.zip cs) ?_).trans ?_
 ·intro p x t Uz kn;have hx:=w.st _ (sD<|show x∈r.st.zip cs by rw[Uz];simp).1;unfold tF;rw[J6,m6 hx,e_,a_,Od,e_,a_,qF _ hx,e_,a_,uJ,BY]
 ·rfl
theorem yl(w:Wf r)(cs:Re Nat)(hl:cs.length=r.st.length)(h4:cs.length<=4)(hn:r.n<=1000):dU r.d (cT cs)=.ret (cT ?qD):=by
 unfold dU;have z0:aW (λd2=>M.ret<|some<|.int 0) ((List.range r.n).map iN)=.ret (fJ r.n<|cnt<|iY []):=by
  rw[fQ   (List.range r.n) λ_ _=>rfl];congr 1;unfold fJ tab;rw[ic];exact im λi _=>rfl
 have ln:dm [cT cs]=some (iN cs.length):=by
  show some (PyData.int<|(cs.map iN).length)=_;rw[u_]
 rw[bx,jJ,e_,a_,fV _ ?A,e_,a_,z0,a_,cG (by simp[fJ,tab];lia),a_,ln,e_,a_,fV _ ?A,e_];refine wB (R:=λm=>m=M.ret (cT ?qD)) (P:=λj s=>s=(r.d,cT cs,fJ r.n (cnt<|iY<|(r.st.zip cs).take j),())) _ _ ?_ (rfl) ?_
 ·rintro j s d hd rfl kn hk;let{rfl,hj}:=xq hd;have hs:j<r.st.length:=by lia
  have hz:j<(r.st.zip cs).length:=by rw[List.length_zip];lia
  unfold j5;have i1:aD (.tuple<|r.st.map iN) (iN j)=some (iN r.st[j]):=by rw[bx,(p9 iN r.st j hs)]
  have i2:aD (cT cs) (iN j)=some (iN cs[j]):=by rw[bx,(p9 iN cs j hj)]
  have hx:=w.st _<|ib hs;rw[bx,kB,e_,a_,i1,e_,a_,n8,m6 hx,e_,a_,i2,e_,a_,DL,e_,a_,qF _ hx,e_];refine hk _ ?_;rw[List.take_succ_eq_append_getElem hz,uJ,BY,List.getElem_zip]
 ·rintro s rfl;unfold j6;rw[Cr,e_,u_,jA,se (by rw[List.length_zip];lia)];rfl
def BX(n:Nat):∀l:Re Nat,(∀x∈l,x<n)->sumF n (cnt l)=l.length
 | [],_=>by
  have:∀n,sumF n (cnt [])=0:=λn=>by
   induction n with
   | zero=>rfl
   | succ n ih=>rw[jg,ih];rfl
  exact this n
 | x::l,h=>by
  have e:cnt (x::l)=λi=>cnt l i+if x=i then 1 else 0:=by
   funext i;show(x::l).count i=l.count i+_;rw[List.count_cons];by_cases q:x=i<;>simp
  rw[e,ji,jh,BX n l λy hy=>h y (by simp[hy]),ap<|h x ?E];rfl
theorem xm:∀l:Re (Nat×Nat),(iY l).length=(l.map (·.2)).sum
 | []=>rfl
 | p::l=>by
  have ih:=xm l;unfold iY at ih ⊢;rw[dD,xP,List.length_replicate,ih];rfl
def Au:∀(a b:Re Nat),b.length=a.length->((a.zip b).map (·.2)).sum=b.sum
 | [],[],_=>rfl
 | a::as,b::bs,h=>by
  have:=Au as bs ?jl;simp  [List.zip_cons_cons,aw,hV];lia
theorem mV(r:Rl)(cs:Re Nat):(bg r cs).length=r.n:=db _ _
def GC(w:Wf r)(cs:Re Nat)(hl:cs.length=r.st.length):(bg r cs).sum=cs.sum:=by
 unfold bg;rw[vA,BX,xm]
 ·exact Au _ _ hl
 ·intro x hx;let{p,hp,hx}:=List.mem_flatMap.mp hx;rw[List.eq_of_mem_replicate hx];exact w.st _ (sD hp).1
def hs(c s:Re Nat):Nat:=(s.map<|fl c).sum
def Qs.tr(c:Re Nat):Qs->Bool
 | .least s n=>decide<|n<=hs c s
 | .more a b=>decide<|hs c b<hs c a
 | .rest s m r=>decide<|hs c s % m=r
 | .neg q=>!q.tr c
def AF(ns:Re Nat)(h:∀c∈ns,c<=1000)(hl:ns.length<=10):e6 [.list (ns.map iN)]=some (iN ns.sum):=by
 have e1:intsOf (ns.map iN)=some (ns.map λ(n:Nat)=>(n:Int)):=by
  have:=AO<|ns.map λ(n:Nat)=>(n);rw[ic]at this;exact this
 have e3:∀l:Re Nat,(l.map λ(n:Nat)=>(n:Int)).sum=((l.sum)):=by
  intro l
  induction l with
  | nil=>rfl
  | cons a l ih=>rw[aw,hV,hV,ih,Int.natCast_add]
 have e2:rj (ns.map λ(n:Nat)=>(n))=true:=by
  unfold rj;rw[am,su,aQ];refine{λx hx=>?_,by rw[u_];exact di hl ?C};let{c,hc,rfl}:=List.mem_map.mp hx;have:=h c hc;rw[aQ];exact di this ?C
 unfold e6;unfold bF;dsimp only;rw[e1];dsimp only;rw[ap e2,e3]
theorem yu{s:Re Nat}(hb:∀x,fl c x<=1000)(h:∀x∈s,x<c.length)(hl:s.length<=4):(bd (bd (bd (oM<|bZ<|.tuple ?jN) λl3=>bd (aW (λd1=>bd (oM<|aD ?jC d1) λx2=>.ret<|some x2) l3) cp) λl4=>.ret<|PyData.list l4) λx5=>oM<|e6 [x5])=.ret (iN<|hs c s):=by
 have hc:aW (λd1=>bd (oM<|aD ?jC d1) λx2=>.ret<|some x2) ?jN=.ret ((s.map<|fl c).map iN):=by
  rw[fQ   s λx hx=>by
   have hx:=h x hx;rw[bx,(p9 iN c x hx),e_];show M.ret (some<|iN c[x])=.ret (some<|iN<|c.getD x 0);rw[fu,ax hx]
   rfl,ic]
  rfl
 rw[G9,e_,a_,hc,a_,cG ?jd,a_,a_,AF _ (λy hy=>by let{x,_,rfl}:=List.mem_map.mp hy;exact hb x) ?jd];rfl
def FT{s:Re Nat}(hb:∀x,fl c x<=1000)(h:∀x∈s,x<c.length)(hl:s.length<=4):fR (.tuple ?jN) ?jC=.ret (iN<|hs c s):=by
 unfold fR;rw[yu hb h hl,a_]
def NX(a b:Nat):vW (iN a) (iN b)=some (decide<|b<=a):=by
 show some (decide<|(b:Int)<=(a))=_;congr 1;rw[ku,aQ,aQ];omega
theorem zQ(a b:Nat):eX (iN a) (iN b)=some (decide<|b<a):=by
 show some (decide<|(b:Int)<(a))=_;congr 1;rw[ku,aQ,aQ];omega
theorem vv:bp (.str "least") (.str "not")=some false/\bp (.str "least") (.str "both")=some false/\bp (.str "least") (.str "either")=some false/\bp (.str "least") (.str "least")=some true:=by decide +kernel
theorem vq:bp (.str "more") (.str "not")=some false/\bp (.str "more") (.str "both")=some false/\bp (.str "more") (.str "either")=some false/\bp (.str "more") (.str "least")=some false/\bp (.str "more") (.str "more")=some true:=by decide +kernel
theorem vp:bp (.str "rest") (.str "not")=some false/\bp (.str "rest") (.str "both")=some false/\bp (.str "rest") (.str "either")=some false/\bp (.str "rest") (.str "least")=some false/\bp (.str "rest") (.str "more")=some false:=by decide +kernel
theorem w_not:bp (.str "not") (.str "not")=some true:=by decide +kernel
theorem vy(b:Bool):iX (.bool b)=some b:=id rfl
def PL(b:Bool):asB (.bool b)=.ret b:=id rfl
def Y2{α:Type}(a b:α):(if false=true then a else b)=b:=rfl
theorem yr{k:Nat}{c:Re Nat}(hc:c.length=k)(hb:∀x,fl c x<=1000):∀(i j:Nat) (q:Qs),q.ok k j->j<i->oH i q.d ?jC=.ret (.bool<|q.tr c)
 | 0,j,q,_,h=>by omega
 | i+1,j,q,h,hj=>by
  show pL (oH i) q.d ?jC=_;unfold pL;have sx:∀{s:Re Nat},g_ k s->fR (.tuple ?jN) ?jC=.ret (iN<|hs c s):=λh=>FT hb (λx hx=>by rw[hc];exact h.2 x hx) h.1
  cases q with
  | least s n =>
   have h:=by cases j<;>exact h
   rw[show(Qs.least s n).d=.tuple [.str "least",.tuple ?jN,iN n]from rfl];simp  [bx,jJ,kB,wu,e_,a_,vv,Y2,zd,sx h.1,NX];rfl
  | more a b =>
   have h:=by cases j<;>exact h
   rw[show(Qs.more a b).d=.tuple [.str "more",.tuple (a.map iN),.tuple (b.map iN)]from rfl];simp  [bx,jJ,kB,wu,e_,a_,vq,Y2,zd,sx h.1,sx h.2.1,zQ];rfl
  | rest s m r =>
   have h:g_ k s/\2<=m/\m<=3/\r<m:=by cases j<;>exact h
   rw[show(Qs.rest s m r).d=.tuple [.str "rest",.tuple ?jN,iN m,iN r]from rfl];simp  [bx,jJ,kB,wu,Ii,e_,a_,vp,Y2,sx h.1,Nv _ m ?S,Wz];rfl
  | neg q =>
   cases j with
   | zero=>exact h.elim
   | succ j =>
    have ih:=yr hc hb i j q h ?S;rw[show q.neg.d=.tuple [.str "not",q.d]from rfl];simp![bx,jJ,kB,e_,a_,w_not,zd,ih,vy];rfl
theorem p7{k:Nat}{c:Re Nat}(hc:c.length=k)(hb:∀x,fl c x<=1000):∀(i j:Nat) (q:Qs),q.ok k j->j<i->df i q.d ?jC=.ret (.bool<|q.tr c)
 | 0,j,q,_,h=>by omega
 | i+1,j,q,h,hj=>by
  show il (df i) q.d ?jC=_;unfold il;have sx:∀{s:Re Nat},g_ k s->(bd (bd (bd (oM<|bZ<|.tuple ?jN) λl3=>bd (aW (λd1=>bd (oM<|aD ?jC d1) λx2=>.ret<|some x2) l3) cp) λl4=>.ret<|PyData.list l4) λx5=>oM<|e6 [x5])=.ret (iN<|hs c s):=λh=>yu hb (λx hx=>by rw[hc];exact h.2 x hx) h.1
  cases q with
  | least s n =>
   have h:=by cases j<;>exact h
   rw[show(Qs.least s n).d=.tuple [.str "least",.tuple ?jN,iN n]from rfl];rw[bx,jJ,e_,a_,vv.1,e_,a_,Y2,bx,kB,e_,a_,sx h.1,a_,a_,vv.2.2.2,e_,a_,bx,wu,e_,a_,NX,e_,a_];rfl
  | more a b =>
   have h:=by cases j<;>exact h
   rw[show(Qs.more a b).d=.tuple [.str "more",.tuple (a.map iN),.tuple (b.map iN)]from rfl];rw[bx,jJ,e_,a_,vq.1,e_,a_,Y2,bx,kB,e_,a_,sx h.1,a_,a_,vq.2.2.2.1,e_,a_,Y2,a_,vq.2.2.2.2,e_,a_,bx,wu,e_,a_,sx h.2.1,a_,zQ,e_,a_];rfl
  | rest s m r =>
   have h:g_ k s/\2<=m/\m<=3/\r<m:=by cases j<;>exact h
   rw[show(Qs.rest s m r).d=.tuple [.str "rest",.tuple ?jN,iN m,iN r]from rfl];rw[bx,jJ,e_,a_,vp.1,e_,a_,Y2,bx,kB,e_,a_,sx h.1,a_,a_,vp.2.2.2.1,e_,a_,Y2,a_,vp.2.2.2.2,e_,a_,Y2,bx,wu,e_,a_,Nv _ m ?S,e_,a_,bx,Ii,e_,a_,Wz,e_,a_];rfl
  | neg q =>
   cases j with
   | zero=>exact h.elim
   | succ j =>
    have ih:=p7 hc hb i j q h ?S;rw[show q.neg.d=.tuple [.str "not",q.d]from rfl];simp![bx,jJ,kB,e_,a_,w_not,zd,ih,vy];rfl
abbrev vG(g:Re Nat->Re ?L):Re Nat->D:=λx=>.list<|(g x).map cT
def jq(c:Re Nat)(g:Re Nat->Re ?L)(x:Re Nat):Re Nat->Re ?L:=λy=>if y=x then g y++[c]else g y
def oj(r:Rl)(g:Re Nat->Re ?L)(c:Re Nat):Re Nat->Re ?L:=((bV r c).map (·.2)).foldl (jq c) g
def fD(r:Rl)(F:Re ?L):Re Nat->Re ?L:=F.foldl (oj r) λ_=>[]
theorem uW(v:Re Nat->D)(hv:∀c,v c=.list []):∀(F2 F1:Re ?L),(F1++F2).Nodup->(F1++F2).length<=1000->(F2.map cT).foldl iw (some<|F1.map<|kE v)=some ((F1++F2).map<|kE v)
 | [],F1,_,_=>by rw[je];rfl
 | c::F2,F1,nd,hl=>by
  have hc:=λh=>by
   have:=(List.nodup_append.mp nd).2.2 c h c ?E;exact this rfl
  have e:iw (some<|F1.map<|kE v) ?jC=some ((F1++[c]).map<|kE v):=by
   unfold iw;dsimp only;rw[lp,ba hc];rw[ap (be (by rw[u_];rw[xP,f8]at hl;lia)),gi];show some (F1.map (kE v)++[(cT c,PyData.list [])])=some (F1.map (kE v)++[(cT c,v c)]);rw[hv]
  rw[aw,ng,e];have:=uW v hv F2 (F1++[c]) (by simpa using nd) (by simpa using hl);rw[this];simp
def IY{g:Re Nat->Re ?L}{x:Re Nat}(hx:x∈F)(hl:(g x).length<90000):oZ (F.map<|kE<|vG g) ?jC (cT x)=some (F.map<|kE<|vG<|jq c g x):=by
 unfold oZ;rw[lp,ap hx];dsimp only;rw[ap (by rw[dZ,Bool.true_and,aQ,u_];exact hl)];congr 1;unfold oY;rw[ap]
 ·rw[ic];refine im λy hy=>?_
  show(if gP (cT y) (cT x)=true then(cT y,PyData.list ((g x).map cT++[cT c]))else(cT y,vG g y))=(cT y,vG (jq c g x) y);rw[n6];by_cases e:y=x
  ·subst e;rw[ap ?E];show _=(cT y,PyData.list ((if y=y then g y++[c]else g y).map cT));rw[ap rfl,gi];rfl
  ·rw[ba (by simpa using e)];show _=(cT y,PyData.list ((if y=x then g y++[c]else g y).map cT));rw[ba e]
 ·rw[List.any_map];exact List.any_eq_true.mpr {x,hx,by show gP (cT x) (cT x)=true;rw[n6];simp}
theorem yf(c:Re Nat)(g:Re Nat->Re ?L)(x y:Re Nat):(jq c g x y).length<=(g y).length+1:=by
 unfold jq;split
 ·simp
 ·lia
theorem sG{F:Re ?L}{c:Re Nat}:∀(ls:Re ?jt) (g:Re Nat->Re ?L) (N:Nat),(∀p∈ls,p.2∈F)->(∀y,(g y).length<=N)->N+ls.length<90000 ->
  (ls.map ld).foldl (gI ?jC) (some<|F.map<|kE<|vG g)=some (F.map (kE (vG ((ls.map (·.2)).foldl (jq c) g))))/\∀y,((ls.map (·.2)).foldl (jq c) g y).length<=N+ls.length
 | [],g,N,_,hN,_=>{rfl,hN}
 | p::ls,g,N,hp,hN,hl=>by
  rw[f8]at hl;have e:gI ?jC (some<|F.map<|kE<|vG g) (ld p)=some (F.map<|kE<|vG<|jq c g p.2):=IY (hp p ?E) (by have:=hN p.2;lia);let{h1,h2}:=sG ls (jq c g p.2) (N+1) (λq hq=>hp q (by simp[hq])) (λy=>by have:=yf c g p.2 y;have:=hN y;lia) ?A;rw[aw,ng,e,aw,ng,f8];exact{h1,λy=>by have:=h2 y;lia}
theorem rX{r:Rl}{F:Re ?L}(cl:∀c∈F,∀p∈bV r c,p.2∈F)(hL:∀c∈F,(bV r c).length<=60):∀(F2:Re ?L) (g:Re Nat->Re ?L) (N:Nat),(∀c∈F2,c∈F)->(∀y,(g y).length<=N)->N+60*F2.length<90000 ->
  (F2.map ?ju).foldl cK (some<|F.map<|kE<|vG g)=some (F.map<|kE<|vG<|F2.foldl (oj r) g)
 | [],g,N,_,_,_=>rfl
 | c::F2,g,N,hc,hN,hl=>by
  rw[f8]at hl;have h60:=hL c<|hc c ?E;let{h1,h2}:=sG   (bV r c) g N (cl c<|hc c ?E) hN ?A;have e:cK (some<|F.map<|kE<|vG g) (kE (vL r) c)=some (F.map<|kE<|vG<|oj r g c):=h1;rw[aw,ng,e];exact rX cl hL F2 _ (N+60) (λc' h=>hc c' (by simp[h])) (λy=>by have:=h2 y;unfold oj;lia) ?A
def GE(ne:F≠[])(nd:F.Nodup)(hl:F.length<=900)(cl:∀c∈F,∀p∈bV r c,p.2∈F)(hL:∀c∈F,(bV r c).length<=60):fS (.dict<|F.map ?ju)=.ret (.dict ?X):=by
 have k0:p8 (F.map ?ju)=some ?j6:=by
  cases F with
  | nil=>exact absurd rfl ne
  | cons c F =>
   unfold p8;rw[aw];dsimp only;rw[ap<|dZ c,<-aw,wt]
 have e1:=uW (λ_=>.list []) ?T F [] ((nd)) ?jd;have e2:=rX cl hL F (λ_=>[]) 0 (λ_ h=>h) (λ_=>ai _) ?A;have e3:wN (F.map ?ju)=some ?X:=by
  unfold wN;rw[wt,show(some [])=some (([]).map<|kE λ_=>.list [])from rfl,e1];exact e2
 unfold fS wM;dsimp only;rw[k0];rw[e3];rfl
theorem xZ{c:Re Nat}{g:Re Nat->Re ?L}{c' y:Re Nat}:∀(xs:Re ?L) (g:Re Nat->Re ?L),c'∈xs.foldl (jq c) g y↔c'∈g y\/(c'=c/\y∈xs)
 | [],g=>by simp
 | x::xs,g=>by
  rw[ng,xZ (g:=g) xs];unfold jq;by_cases e:y=x
  ·rw[ap e];constructor
   ·rintro(h|⟨h1,h2⟩)
    ·let h||h:=List.mem_append.mp h
     ·exact .inl h
     ·exact .inr {List.mem_singleton.mp h,by simp[e]}
    ·exact .inr {h1,by simp[h2]}
   ·rintro(h|⟨h1,_⟩)
    ·exact .inl<|aR _ h
    ·exact .inl (eE _ (by simp[h1]))
  ·simp[e]
theorem xY{r:Rl}{c' y:Re Nat}:∀(F:Re ?L) (g:Re Nat->Re ?L),c'∈F.foldl (oj r) g y↔c'∈g y\/(c'∈F/\∃k,(k,y)∈bV r c')
 | [],g=>by simp
 | c::F,g=>by
  rw[ng,xY F];unfold oj;rw[xZ (g:=g)];constructor
  ·rintro((h|⟨rfl,h⟩)|⟨h1,h2⟩)
   ·exact .inl h
   ·let{p,hp,rfl}:=List.mem_map.mp h;exact .inr {by simp,p.1,hp}
   ·exact .inr {by simp[h1],h2}
  ·rintro(h|⟨h1,k,h2⟩)
   ·exact .inl<|.inl h
   ·let rfl||h1:=List.mem_cons.mp h1
    ·exact .inl<|.inr {rfl,List.mem_map.mpr {_,h2,rfl}}
    ·exact .inr {h1,k,h2}
def Sr{y:Re Nat}:c∈fD r F y↔c∈F/\∃k,(k,y)∈bV r c:=by
 unfold fD;rw[xY];simp
def C4(r:Rl)(l:Re Nat):(bV r l).length<=l.length*l.length:=by
 have h1:∀(a:Nat) (bs:Re Nat),(bs.flatMap<|cell r l a).length<=bs.length:=by
  intro a bs
  induction bs with
  | nil=>simp
  | cons b bs ih =>
   rw[dD,xP,f8];have:=oC r l a b;lia
 have hr:=oW l;have h2:∀ps:Re (Nat×Nat),(ps.flatMap λp=>((rooms l).drop p.2).flatMap<|cell r l p.1).length<=ps.length*l.length:=by
  intro ps
  induction ps with
  | nil=>simp
  | cons p ps ih =>
   rw[dD,xP,f8];have:=h1 p.1<|(rooms l).drop p.2;rw[rV]at this;lia
 have:=h2 (rooms l).zipIdx;rw[wP]at this;exact di this<|Nat.mul_le_mul_right _ hr
inductive UP(r:Rl)(Gs:Re ?L):Re Nat->Prop
 | goal {c:Re Nat}:c∈Gs->UP r Gs c
 | step {c c':Re Nat} {k:Nat}:Goes r c k c'->UP r Gs c'->UP r Gs c
abbrev vN(v:Re Nat->Nat):Re Nat->D:=λc=>iN<|v c
def HY(a b:Nat):eW (iN a) (iN b)=some (decide<|a<b):=by
 show zh (.int _) (.int _)=_;rw[L4.ltI];congr 1;rw[ku,aQ,aQ];omega
def EE(h:c∉A)(hl:A.length<=90000)(n:Nat):ii true (A.map ?jS) ?jC (iN n)=some ((A++[c]).map<|kE<|vN λy=>if y=c then n else v y):=by
 have e:=im λy hy=>by
  show(cT y,iN (v y))=(cT y,iN (if y=c then n else v y));have ne:¬ y=c:=λz=>h<|z▸hy
  rw[ba ne]
 rw[e];have:=kh (vN λy=>if y=c then n else v y) h hl;rw[show vN (λy=>if y=c then n else v y) c=iN n from by show iN (if c=c then n else v c)=_;rw[ap rfl]]at this;exact this
def cZ(r:Rl)(Gs A:Re ?L)(v:Re Nat->Nat):Prop:=(∀c∈Gs,v c=0)/\∀c∈A,c∈Gs\/∃k c',Goes r c k c'/\c'∈A/\v c=v c'+1
theorem zV{kn3:D×Re ?M×Re D×D×Unit->M D}{B pl:D}{here:Re Nat}{k:D×Re ?M×Re D×D×D×Unit->M D}:∀(L A:Re ?L) (v:Re Nat->Nat),here∈A->A.length+L.length<=90000 ->
  ∃v',cD (λ(U3:D×Re ?M×Re D×D×D×Unit) d17 kn=>ja kn3 U3.1 U3.2.1 U3.2.2.1 U3.2.2.2.1 U3.2.2.2.2.1 d17 kn) ?jY (B,A.map ?jS,A.map cT,pl,cT here,()) k=k (B,(bh A L).map (kE<|vN v'),(bh A L).map cT,pl,cT here,())/\(∀y∈A,v' y=v y)/\∀y∈bh A L,y∈A\/v' y=v here+1
 | [],A,v,_,_=>{v,rfl,λ_ _=>rfl,λ_ h=>.inl h}
 | c::L,A,v,hh,hl=>by
  rw[f8]at hl;rw[aw,cD];unfold ja;rw[hG,e_,a_,gw];by_cases h:c∈A
  ·rw[be h,ap h];exact zV (kn3:=kn3) L A v hh ?A
  ·rw[bi h,ba h];let{v',e,g1,g2}:=zV (kn3:=kn3)   (k:=k) L (A++[c]) (λy=>if y=c then v here+1 else v y) (aR _ hh) ?jd;have hn:∀y∈A,y≠c:=λy hy z=>h<|z▸hy
   refine{v',?_,λy hy=>(g1 y<|aR _ hy).trans<|ba<|hn y hy,λy hy=>?_}
   rotate_left
   ·rw[ba<|hn here hh]at g2;let q||q:=g2 y hy
    ·let q||q:=List.mem_append.mp q
     ·exact .inl q
     ·have:=by simpa using q
      subst this;exact .inr<|(g1 y ?E).trans<|ap rfl
    ·exact .inr q
   rw[<-e];rw[lP _ hh,e_,a_,show bE (vN v here) (.int 1)=some (iN<|v here+1)from DL (v here) 1,e_,a_,EE h ?A,e_,mY _ _ ?qv,e_,gi (f:=cT)];rfl
noncomputable abbrev uG:D×Re ?M×Re D×D×Unit->(D×Re ?M×Re D×D×Unit->M D)->M D:=λYG kn=>dC YG.1 YG.2.1 YG.2.2.1 YG.2.2.2.1 kn
def F4{i:Nat}(v:Re Nat->Nat)(r_:i<A.length)(hF:A[i]∈F)(hl:A.length+(fD r F A[i]).length<=90000)(kn:D×Re ?M×Re D×D×Unit->M D) :
  ∃v',dC (.dict ?X) (A.map ?jS) (A.map cT) (iN i) kn=kn (.dict ?X,(bh A ?qV).map (kE<|vN v'),(bh A ?qV).map cT,iN ?jx,())/\(∀y∈A,v' y=v y)/\∀y∈bh A ?qV,y∈A\/v' y=v A[i]+1:=by
 unfold dC;have ll:dm [.list (A.map cT)]=some (iN A.length):=by rw[L4.Uv,u_]
 have ix:aD (.list<|A.map cT) (iN i)=some (cT A[i]):=by rw[n8,(uY cT A i r_)]
 rw[ll,e_,a_,HY,e_,a_,be r_,ix,e_,a_,lP _ hF,e_,a_,oV,e_,Nf];let{v',e,g}:=zV     ?qV A v (ib r_) hl;refine{v',e.trans ?_,g};unfold lZ;rw[JY,e_,a_]
section
variable (w:Wf r) (fit:∀c∈F,c.length=r.n) (hF:F.length<=900) (hg:∀y∈F,(fD r F y).length<=60000) (UX:∀c∈F,∀k c',Goes r c k c'->c'∈F)
include w fit hF hg UX
theorem yA:∀(fuel i:Nat) (A:Re ?L) (v:Re Nat->Nat),A.Nodup->(∀c∈A,c∈F)->(∀c∈Gs,c∈A)->(∀c∈A,UP r Gs c)->cZ r Gs A v->i<=A.length->(∀(j:Nat) (h:j<A.length),j<i->∀c∈F,∀k,Goes r c k A[j]->c∈A)->F.length<fuel+i ->
  ∃(A':Re ?L) (v':Re Nat->Nat),bG uG fuel (.dict ?X,A.map ?jS,A.map cT,iN i,())=.ret (.dict<|A'.map<|kE<|vN v')/\(∀c,c∈A'↔c∈F/\UP r Gs c)/\cZ r Gs A' v'
 | 0,i,A,v,nd,sub,_,_,_,hi,_,hf=>by
  have:=cC nd sub;lia
 | fuel+1,i,A,v,nd,sub,g0,bk,rk,hi,cl,hf=>by
  have hle:=cC nd sub;rw[bG];by_cases r_:i<A.length
  ·have hm:=ib r_;have hF':=sub _ hm;have hgl:=hg _ hF';let{v',e,k1,k2}:=F4 (r:=r) v r_ hF' ?A λs'=>bG uG fuel s';have e':uG (.dict ?X,A.map ?jS,A.map cT,iN i,()) (λs'=>bG uG fuel s')=_:=e;rw[e'];let{E,ee}:=jS ?qV A;have mem:∀x,x∈bh A ?qV↔x∈A\/x∈fD r F A[i]:=λx=>dc _ _ x
   refine yA fuel ?jx (bh A ?qV) v' (gS _ _ nd) (λc hc=>?_) (λc hc=>(mem c).mpr<|.inl<|g0 c hc) (λc hc=>?_) {λc hc=>(k1 c<|g0 c hc).trans<|rk.1 c hc,λc hc=>?_} (by rw[ee,xP];lia) (λj h hj c hc k g=>?_) ?A
   ·rcases(mem c).mp hc with h|h
    ·exact sub c h
    ·exact(Sr.mp h).1
   ·rcases(mem c).mp hc with h|h
    ·exact bk c h
    ·let{h1,k,h2}:=Sr.mp h;exact .step ((eO w<|fit c h1).mp h2)<|bk _ hm
   ·by_cases hA:c∈A
    ·let q||{k,c',q1,q2,q3}:=rk.2 c hA
     ·exact .inl q
     ·exact .inr {k,c',q1,(mem c').mpr<|.inl q2,by rw[k1 c hA,k1 c' q2,q3]}
    ·let{h1,k,h2}:=Sr.mp<|((mem c).mp hc).resolve_left hA;exact .inr {k,A[i],(eO w<|fit c h1).mp h2,(mem _).mpr<|.inl hm,by rw[(k2 c hc).resolve_left hA,k1 _ hm]}
   ·have Xa:j<A.length:=by lia
    have ej:=by
     have:(bh A ?qV)[j]? = A[j]?:=by rw[ee,pr Xa]
     rw[ax h,ax Xa]at this;exact Option.some.inj this
    rw[ej]at g;by_cases e:j=i
    ·subst e;exact(mem c).mpr<|.inr<|Sr.mpr {hc,k,(eO w<|fit c hc).mpr g}
    ·exact(mem c).mpr<|.inl<|cl j Xa ?A c hc k g
  ·have ll:dm [.list (A.map cT)]=some (iN A.length):=by rw[L4.Uv,u_]
   have e':uG (.dict ?X,A.map ?jS,A.map cT,iN i,()) (λs'=>bG uG fuel s')=.ret (.dict<|A.map ?jS):=by
    show dC _ _ _ _ _=_;unfold dC;rw[ll,e_,a_,HY,e_,bi r_];rfl
   rw[e'];refine{A,v,rfl,λc=>{λhc=>{sub c hc,bk c hc},λ⟨h1,h2⟩=>?_},rk};have go:∀c,UP r Gs c->c∈F->c∈A:=by
    intro c h
    induction h with
    | goal h=>intro _;exact g0 _ h
    | @step c c' k g b ih =>
     intro hc;have Ta:=ih<|UX c hc k c' g;let{j,hj,e}:=ou Ta;exact cl j hj ?A c hc k (by rw[e];exact g)
   exact go c h2 h1
def F7(sub:∀c∈Gs,c∈F)(nd:Gs.Nodup):∃(A:Re ?L) (v:Re Nat->Nat),eJ (.dict ?X) (.list<|Gs.map cT)=.ret (.dict<|A.map ?jS)/\(∀c,c∈A↔c∈F/\UP r Gs c)/\cZ r Gs A v:=by
 have hl:=cC nd sub;unfold eJ;rw[oV,e_,a_];have h0:cH (λ(Sq) d22 kn=>jc Sq.1 Sq.2.1 Sq.2.2.1 d22 kn) (Gs.map cT) (.dict ?X,.list (Gs.map cT),[],()) (λSq=>fY Sq.1 Sq.2.1 Sq.2.2.1)=fY (.dict ?X) (.list<|Gs.map cT) (Gs.map<|kE<|vN λ_=>0):=by
  refine(d0  (F:=λpre=>(PyData.dict ?X,PyData.list (Gs.map cT),pre.map (kE<|vN λ_=>0),())) Gs ?_).trans rfl;intro p x t Uz kn;unfold jc;have hx:=λz=>by
   rw[Uz]at nd;exact(List.nodup_append.mp nd).2.2 x z x ?E rfl
  have hp:p.length<=90000:=by rw[Uz,xP]at hl;lia
  rw[show(.int 0)=vN (λ_=>0) x from rfl,kh _ hx hp,e_,a_]
 rw[h0];unfold fY;rw[show lU [.list (Gs.map cT)]=some (Gs.map cT)from rfl,e_,Mk];exact yA w fit hF hg UX 10000 0 Gs (λ_=>0) nd sub (λ_ h=>h) (λc h=>.goal h) {λ_ _=>rfl,λ_ h=>.inl h} ?U (λj h z=>absurd z<|Nat.not_lt_zero _) ?A
end
def NL(v:Re Nat->D)(F:Re ?L)(c:Re Nat):lK ?jC (.dict ?je)=some (decide<|c∈F):=by
 show(if keyOk ?je ?jC then some (gz ?je ?jC).isSome else none)=_;rw[ap<|sK v F c,lp];by_cases h:c∈F
 ·rw[ap h,be h];rfl
 ·rw[ba h,bi h];rfl
def Hn(hl:A.length<=90000):ii true (A.map ?jP) ?jC (.bool true)=some ((bh A [c]).map ?jP):=by
 have e:bh A [c]=if c∈A then A else A++[c]:=rfl;rw[e];by_cases h:c∈A
 ·rw[ap h];unfold ii;rw[ap (by rw[am,aQ,u_];exact{dZ c,yi hl ?C})];congr 1;unfold oY;rw[ap (by rw[List.any_map];exact List.any_eq_true.mpr {c,h,by show gP ?jC ?jC=true;rw[n6];simp}),ic];refine im λy _=>?_
  show(if gP (cT y) ?jC=true then(cT y,PyData.bool true)else(cT y,PyData.bool true))=_;split<;>rfl
 ·rw[ba h];exact kh vT h hl
def into(r:Rl)(A:Re ?L)(c:Re Nat):Bool:=(bH r c r.ms.zipIdx).any λp=>decide<|p.2∈A
def turn(r:Rl)(A:Re ?L)(c:Re Nat):Re ?L:=if into r A c then bh A [c]else A
def Vc:into r A c=true↔∃k c',Goes r c k c'/\c'∈A:=by
 unfold into;rw[List.any_eq_true];constructor
 ·rintro⟨⟨k,c'⟩,h1,h2⟩;exact{k,c',E_.mp h1,by simpa using h2}
 ·rintro⟨k,c',h1,h2⟩;exact{(k,c'),E_.mpr h1,by simpa using h2}
def HQ(ps:Re ?jt):cI (.list ?qN) (.list [])=some (!ps.isEmpty):=by
 have hl:PyData.canLayAll0 ?qN=true:=n4 λd hd=>by
  let{p,_,rfl}:=List.mem_map.mp hd;show(PyData.canLay0 (iN p.1)&&(PyData.canLay0 (cT p.2)&&true))=true;rw[show PyData.canLay0 (cT p.2)=PyData.canLayAll0 (p.2.map iN)from rfl,sI];rfl
 have hd:PyData.depthAll ?qN<=2:=kF λd hd=>by
  let{p,_,rfl}:=List.mem_map.mp hd;have:PyData.depthAll (p.2.map iN)<=0:=kF λd hd=>by
   let{x,_,rfl}:=List.mem_map.mp hd;exact ai _
  simp  [PyData.depthAll,cT,PyData.depth];omega
 have h2:(PyData.list ?qN).depth<=1000:=by simp  [PyData.depth];omega
 unfold cI uh;rw[ap (by simp[PyData.canLay0,hl,h2,PyData.canLayAll0])]
 cases ps<;>simp[PyData.eqv,PyData.eqvAll]
def IM{m:D}{Uw kn:D×Re ?M×D×Unit->M D}(hc:c∈F)(hs:(bH r c r.ms.zipIdx).length<=1000)(hl:A.length<=90000):fm Uw (.dict ?jg) (A.map ?jP) m ?jC kn=kn (.dict ?jg,(turn r A c).map ?jP,m,()):=by
 unfold fm;have e1:aW (λVv=>bd (bd (oM<|aD Vv<|.int 1) λS7=>oM<|lK S7<|.dict<|A.map ?jP) λUN=>if UN then .ret (some Vv)else .ret none) ((bH r c r.ms.zipIdx).map ld)=.ret (((bH r c r.ms.zipIdx).filter λp=>decide<|p.2∈A).map ld):=by
  rw[dn  (g:=λp=>if decide (p.2∈A)then some (ld p)else none) (bH r c r.ms.zipIdx) λp _=>by
   rw[ld1,e_,a_,NL,e_,a_]
   split<;>rfl]
  congr 1
  induction bH r c r.ms.zipIdx with
  | nil=>rfl
  | cons p l ih =>
   rw[u8,kj];by_cases h:p.2∈A
   ·simp![h,decide_true,zd,aw];rw[ih]
   ·simp![h,jk];exact ih
 rw[lP _ hc,e_,a_,oV,e_,a_,e1,a_,cG (by rw[u_];exact di (tu _ _) hs),a_,a_,HQ,e_,a_];have ee:(!((bH r c r.ms.zipIdx).filter λp=>decide<|p.2∈A).isEmpty)=into r A c:=by
  unfold into
  induction bH r c r.ms.zipIdx with
  | nil=>rfl
  | cons p l ih =>
   rw[kj,sO];by_cases h:p.2∈A
   ·simp[h]
   ·simp![h,jk,Bool.false_or];exact ih
 rw[ee];unfold turn;split
 ·rw[Hn hl,e_,a_]
 ·rfl
theorem xb:A.length<=(turn r A c).length/\(turn r A c).length<=A.length+1:=by
 unfold turn;have e:bh A [c]=if c∈A then A else A++[c]:=rfl;rw[e];split
 ·split
  ·lia
  ·simp
 ·lia
def pass(r:Rl)(F A:Re ?L):Re ?L:=F.foldl (turn r) A
theorem yL{r:Rl}{F:Re ?L}{m:D}{Uw:D×Re ?M×D×Unit->M D}{k:D×Re ?M×D×Unit->M D}(hs:∀c∈F,(bH r c r.ms.zipIdx).length<=1000):∀(l A:Re ?L),(∀c∈l,c∈F)->A.length+l.length<=90000 ->
  cD (λ(TV:D×Re ?M×D×Unit) d23 kn=>fm Uw TV.1 TV.2.1 TV.2.2.1 d23 kn) (l.map cT) (.dict ?jg,A.map ?jP,m,()) k=k (.dict ?jg,(pass r l A).map ?jP,m,())
 | [],A,_,_=>rfl
 | c::l,A,hc,hl=>by
  rw[f8]at hl;rw[aw,cD];refine(IM (hc c ?E) (hs c<|hc c ?E) ?A).trans ?_;exact yL hs l (turn r A c) (λx hx=>hc x ?qA) (by have:=xb (r:=r) (A:=A) (c:=c);lia)
section
theorem xX{x:Re Nat}(h:x∈turn r A c):x∈A\/(x=c/\into r A c=true):=by
 unfold turn at h;split at h
 ·rename_i hi;rcases(dc _ _ _).mp h with h|h
  ·exact .inl h
  ·exact .inr {List.mem_singleton.mp h,hi}
 ·exact .inl h
def D8{x:Re Nat}(h:x∈A):x∈turn r A c:=by
 unfold turn;split
 ·exact(dc _ _ _).mpr<|.inl h
 ·exact h
def Bc:∀(l A:Re ?L),(∀c∈l,c∈F)->A.Nodup->(∀c∈A,c∈F)->(∀c∈A,UP r Gs c)->(pass r l A).Nodup/\(∀c∈A,c∈pass r l A)/\(∀c∈pass r l A,c∈F)/\(∀c∈pass r l A,UP r Gs c)/\A.length<=(pass r l A).length/\((pass r l A).length=A.length->pass r l A=A/\∀c∈l,into r A c=true->c∈A)
 | [],A,_,nd,sub,bk=>{nd,λ_ h=>h,sub,bk,ai _,λ_=>{rfl,λ_ h=>nomatch h}}
 | c::l,A,hc,nd,sub,bk=>by
  have nd1:(turn r A c).Nodup:=by
   unfold turn;split
   ·exact gS _ _ nd
   ·exact nd
  let{h1,h2,h3,h4,h5,h6}:=Bc l (turn r A c) (λx hx=>hc x ?qA) nd1 (λx hx=>by
   let h||{rfl,_}:=xX hx
   ·exact sub x h
   ·exact hc x ?E) (λx hx=>by
   let h||{rfl,h}:=xX hx
   ·exact bk x h
   ·let{k,c',g,Ta}:=Vc.mp h
    exact .step g<|bk c' Ta)
  have ht:=xb (r:=r) (A:=A) (c:=c);refine{h1,λx hx=>h2 x<|D8 hx,h3,h4,by show A.length<=(pass r l<|turn r A c).length;lia,λe=>?_};have e:(pass r l<|turn r A c).length=A.length:=e;have e1:turn r A c=A:=by
   have hlen:(turn r A c).length=A.length:=by lia
   unfold turn at hlen ⊢;split
   ·rename_i hi;rw[ap hi]at hlen;have e:bh A [c]=if c∈A then A else A++[c]:=rfl;rw[e]at hlen ⊢;split
    ·rfl
    ·rename_i hn;rw[ba hn]at hlen;simp at hlen
   ·rfl
  let{g1,g2}:=h6<|e.trans (congrArg List.length e1).symm;refine{by show pass r l (turn r A c)=A;rw[g1,e1],λx hx hi=>?_};rw[e1]at g2;let rfl||hx:=List.mem_cons.mp hx
  ·have:x∈turn r A x:=by
    unfold turn;rw[ap hi];exact(dc _ _ _).mpr<|.inr ?E
   rw[e1]at this;exact this
  ·exact g2 x hx hi
def Nw(m:Int)(n:Nat):eW (.int m) (iN n)=some (decide<|m<(n:Int)):=rfl
end
noncomputable abbrev uE:D×Re ?M×D×Unit->(D×Re ?M×D×Unit->M D)->M D:=λVU kn=>cX VU.1 VU.2.1 VU.2.2.1 kn
theorem qJ(v:Re Nat->D)(ne:F≠[]):vJ (.dict ?je)=some ?j6:=by
 show p8 ?je=_
 cases F with
 | nil=>exact absurd rfl ne
 | cons c F =>
  unfold p8;rw[aw];dsimp only;rw[ap<|dZ c,<-aw,wt]
theorem vQ(v:Re Nat->D):∀(Gs A:Re ?L),(A++Gs).Nodup->(A++Gs).length<=90000->ki true (A.map<|kE v) (Gs.map λc=>.tuple [cT c,v c])=some ((A++Gs).map<|kE v)
 | [],A,_,_=>by rw[je];rfl
 | c::Gs,A,nd,hl=>by
  have hc:=λh=>(List.nodup_append.mp nd).2.2 c h c ?E rfl
  have hp:=kh v hc (by rw[xP]at hl;lia);rw[aw,ki,hp];show ki true ((A++[c]).map<|kE v) _=_;rw[vQ v Gs (A++[c]) (by simpa using nd) (by simpa using hl)];simp
def DH(ne:F≠[])(hs:∀c∈F,(bH r c r.ms.zipIdx).length<=1000){m:Int}(r_:m<(A.length:Int))(hl:A.length+F.length<=90000)(kn:D×Re ?M×D×Unit->M D) :
  cX (.dict ?jg) (A.map ?jP) (.int m) kn=kn (.dict ?jg,(pass r F A).map ?jP,.int (A.length:Int),()):=by
 unfold cX;rw[nY,e_,a_,Nw,e_,be r_,qJ _ ne,e_,Nf];exact yL hs F A (λ_ h=>h) hl
section
variable (ne:F≠[]) (hF:F.length<=900) (hs:∀c∈F,(bH r c r.ms.zipIdx).length<=1000) (UX:∀c∈F,∀k c',Goes r c k c'->c'∈F)
include ne hF hs UX
theorem vj:∀(fuel:Nat) (A:Re ?L) (m:Int),A.Nodup->(∀c∈A,c∈F)->(∀c∈Gs,c∈A)->(∀c∈A,UP r Gs c)->m<=(A.length:Int)->(m=(A.length:Int)->∀c∈F,into r A c=true->c∈A)->F.length+(if m<(A.length:Int)then 1 else 0)<fuel+A.length ->
  ∃A':Re ?L,bG uE fuel (.dict ?jg,A.map ?jP,.int m,())=.ret (.dict<|A'.map ?jP)/\∀c,c∈A'↔c∈F/\UP r Gs c
 | 0,A,m,nd,sub,_,_,_,_,hf=>by
  have:=cC nd sub;lia
 | fuel+1,A,m,nd,sub,g0,bk,hm,cl,hf=>by
  have hle:=cC nd sub;rw[bG];by_cases r_:m<(A.length)
  ·have e':uE (.dict ?jg,A.map ?jP,.int m,()) (λs'=>bG uE fuel s')=bG uE fuel (.dict ?jg,(pass r F A).map ?jP,.int (A.length),()):=DH ne hs r_ ?A _;rw[e'];let{p1,p2,p3,p4,p5,p6}:=Bc    F A (λ_ h=>h) nd sub bk;refine vj fuel (pass r F A) (A.length) p1 p3 (λc h=>p2 c<|g0 c h) p4 ?A (λe=>?_) ?_
   ·let{q1,q2}:=p6 ?A;rw[q1];exact q2
   ·split
    ·lia
    ·lia
  ·have e':uE (.dict ?jg,A.map ?jP,.int m,()) (λs'=>bG uE fuel s')=.ret (.dict<|A.map ?jP):=by
    show cX _ _ _ _=_;unfold cX;rw[nY,e_,a_,Nw,e_,bi r_];rfl
   rw[e'];have cl:=cl ?S;refine{A,rfl,λc=>{λhc=>{sub c hc,bk c hc},λ⟨h1,h2⟩=>?_}};have go:∀c,UP r Gs c->c∈F->c∈A:=by
    intro c h
    induction h with
    | goal h=>intro _;exact g0 _ h
    | @step c c' k g b ih =>
     intro hc;exact cl c hc<|Vc.mpr {k,c',g,ih<|UX c hc k c' g}
   exact go c h2 h1
def B6(sub:∀c∈Gs,c∈F)(nd:Gs.Nodup):∃A:Re ?L,gp (.dict ?jg) (.list<|Gs.map cT)=.ret (.dict<|A.map ?jP)/\∀c,c∈A↔c∈F/\UP r Gs c:=by
 have hl:=cC nd sub;unfold gp;have e1:aW (λd1=>M.ret<|some<|.tuple [d1,(.bool true)]) (Gs.map cT)=.ret (Gs.map λc=>.tuple [cT c,.bool true]):=fQ   Gs λ_ _=>rfl
 have e2:yD true (.list<|Gs.map λc=>.tuple [cT c,.bool true])=some (Gs.map ?jP):=vQ vT Gs [] ((nd)) ?jd;rw[oV,e_,a_,e1,a_,cG ?jd,a_,a_,e2,e_,show vn (.int 1)=some (.int<|-1)from rfl,e_,Mk];exact vj ne hF hs UX 10000 Gs (-1) nd sub (λ_ h=>h) (λc h=>.goal h) ?A (λe=>by lia) (by split<;>lia)
end
inductive UO(r:Rl)(P:Re Nat->Prop):Re Nat->Prop
 | goal {c:Re Nat}:P c->UO r P c
 | step {c c':Re Nat} {k:Nat}:Goes r c k c'->UO r P c'->UO r P c
theorem wL{P:Re Nat->Prop}(h:∀c,c∈Gs↔P c)(c:Re Nat):UP r Gs c↔UO r P c:=by
 constructor
 ·intro b
  induction b with
  | goal q=>exact .goal<|(h _).mp q
  | step g _ ih=>exact .step g ih
 ·intro b
  induction b with
  | goal q=>exact .goal<|(h _).mpr q
  | step g _ ih=>exact .step g ih
def nq(r:Rl)(W:D)(c:Re Nat):Bool:=(cI (sd r c) W).getD false
abbrev wd(t:Bool):D:=.str<|if t then "yes" else "no"
def JH(r:Rl)(t:Bool)(c:Re Nat):cI (sd r c) (wd t)=some (nq r (wd t) c):=by
 unfold nq;have h:=Ei r c;generalize sd r c=x at h ⊢;let rfl||rfl||rfl:=h<;>cases t<;>decide +kernel
noncomputable def Lst(r:Rl)(U:Re Nat->Prop)(W:D)(c:Re Nat):Prop:=U c/\¬ UO r (λc'=>U c'/\¬ UO r (λx=>U x/\nq r W x=true) c') c
def BG{f:D->M D}{W:D}{h:Re Nat->Bool}(hl:F.length<=900)(e:∀c∈F,(bd (f ?jC) λx4=>oM<|cI x4 W)=.ret (h c)):(bd (aW (λd3=>bd (bd (f d3) λx4=>oM<|cI x4 W) λb5=>if b5 then .ret (some d3)else .ret none) ?j6) cp)=.ret ((F.filter h).map cT):=by
 rw[dn  (g:=λc=>if h c then some ?jC else none) F λc hc=>by
  rw[e c hc,a_]
  split<;>rfl,a_]
 have e2:(F.filterMap λc=>if h c=true then some ?jC else none)=(F.filter h).map cT:=by
  clear e hl
  induction F with
  | nil=>rfl
  | cons c F ih =>
   by_cases q:h c=true
   ·simp  [q,zd,aw];rw[ih]
   ·simp  [q];exact ih
 rw[e2,cG (by rw[u_];exact di (tu _ _) ?A)]
theorem nZ{v:Re Nat->D}(hl:F.length<=900):(bd (aW (λd4=>bd (oM<|bc d4<|.dict<|A.map<|kE v) λb5=>if b5 then .ret (some d4)else .ret none) ?j6) cp)=.ret ((F.filter λc=>!decide (c∈A)).map cT):=by
 rw[dn  (g:=λc=>if(!decide (c∈A))then some ?jC else none) F λc hc=>by
  rw[hG,e_,a_]
  split<;>rfl,a_]
 have e2:(F.filterMap λc=>if(!decide (c∈A))=true then some ?jC else none)=(F.filter λc=>!decide (c∈A)).map cT:=by
  clear hl
  induction F with
  | nil=>rfl
  | cons c F ih =>
   rw[u8,kj];by_cases q:(!decide (c∈A))=true
   ·simp![q,zd,aw];rw[ih]
   ·simp![q];exact ih
 rw[e2,cG (by rw[u_];exact di (tu _ _) ?A)]
theorem yd{A1 A2:Re ?L}{W:D}{U:Re Nat->Prop}(hU:∀c,c∈F↔U c)(h1:∀c,c∈A1↔c∈F/\UP r (F.filter<|nq r W) c)(h2:∀c,c∈A2↔c∈F/\UP r (F.filter λc=>!decide (c∈A1)) c)(c:Re Nat):c∈(F.filter λc=>!decide (c∈A2))↔Lst r U W c:=by
 have b1:∀c,UP r (F.filter<|nq r W) c↔UO r (λx=>U x/\nq r W x=true) c:=λc=>wL (λx=>by rw[tO,hU]) c
 have b2:∀c,UP r (F.filter λc=>!decide (c∈A1)) c↔UO r (λc'=>U c'/\¬ UO r (λx=>U x/\nq r W x=true) c') c:=λc=>wL (λx=>by
  rw[tO,nv,ug,h1,hU,b1];constructor
  ·rintro⟨p,q⟩;exact{p,λz=>q {p,z}}
  ·rintro⟨p,q⟩
   exact{p,λz=>q z.2}) c
 rw[tO,nv,ug,h2,hU,b2];constructor
 ·rintro⟨p,q⟩;exact{p,λz=>q {p,z}}
 ·rintro⟨p,q⟩;exact{p,λz=>q z.2}
theorem yz(c:Re Nat):∀(xs:Re ?L) (g:Re Nat->Re ?L) (y:Re Nat),(xs.foldl (jq c) g y).length<=(g y).length+xs.length
 | [],g,y=>by simp
 | x::xs,g,y=>by
  rw[ng,f8];have h1:=yz c xs (jq c g x) y;have h2:=yf c g x y;lia
theorem yx{r:Rl}{N:Nat}:∀(F:Re ?L) (g:Re Nat->Re ?L) (y:Re Nat),(∀c∈F,(bV r c).length<=N)->(F.foldl (oj r) g y).length<=(g y).length+N*F.length
 | [],g,y,_=>by simp
 | c::F,g,y,h=>by
  rw[ng,f8];have h1:=yx F (oj r g c) y λx hx=>h x ?qA
  have h2:=yz c ((bV r c).map (·.2)) g y;have h3:=h c ?E;rw[u_]at h2;unfold oj at h1 ⊢;lia
section
variable (w:Wf r) (hn:r.n<=5) (hm:r.ms.length<=90) (ne:F≠[]) (nd:F.Nodup) (hF:F.length<=900) (fit:∀c∈F,c.length=r.n) (UX:∀c∈F,∀k c',Goes r c k c'->c'∈F) {U:Re Nat->Prop} (hU:∀c,c∈F↔U c)
include w hn hm ne nd hF fit UX hU
theorem sB:(∀c∈F,(bV r c).length<=60)/\∀y∈F,(fD r F y).length<=60000:=by
 have h25:∀c∈F,(bV r c).length<=60:=λc hc=>by
  have:=C4 r c;rw[fit c hc]at this;have h5:=Nat.mul_le_mul hn hn;lia
 refine{h25,λy _=>?_};have:=yx   F (λ_=>[]) y h25;unfold fD;simp  [yT]at this;lia
theorem vk(t:Bool):gk r.d (.dict<|F.map ?ju) (.bool t)=.ret (.list<|(F.filter<|nq r<|wd t).map cT):=by
 unfold gk;have f0:=BG  (f:=λd=>pK r.d d) (W:=wd t)  hF λc hc=>by
  rw[(Ej w (fit c hc) ?A).1,a_,JH,e_]
 have hw:(bd (oM<|iX<|.bool t) λb1=>if b1 then(.ret<|.str "yes")else .ret (.str "no"))=.ret (wd t):=by cases t<;>rfl
 rw[hw,a_,qJ _ ne,e_,a_,f0,a_,a_]
theorem yM:fS (.dict<|F.map ?ju)=.ret (.dict ?X) :=
 GE ne nd hF (λc hc p hp=>UX c hc p.1 p.2<|(eO w<|fit c hc).mp hp) (sB w hn hm ne nd hF fit UX hU).1
theorem sQ(t:Bool):∃(A:Re ?L) (v:Re Nat->Nat),eJ (.dict ?X) (.list<|(F.filter<|nq r<|wd t).map cT)=.ret (.dict<|A.map ?jS)/\(∀c,c∈A↔c∈F/\UP r (F.filter<|nq r<|wd t) c)/\cZ r (F.filter<|nq r<|wd t) A v :=
 F7 w fit hF (sB w hn hm ne nd hF fit UX hU).2 UX  (λc hc=>(List.mem_filter.mp hc).1)<|(List.filter_sublist).nodup nd
def HZ(t:Bool):∃L:Re ?L,lD r.d (.dict<|F.map ?ju) (.bool t)=.ret (.list ?jY)/\L.Nodup/\∀c,c∈L↔Lst r U (wd t) c:=by
 let{A1,v1,e1,m1,_}:=sQ w hn hm ne nd hF fit UX hU t;have ndf:∀p ,(F.filter p).Nodup:=λp=>(List.filter_sublist).nodup nd
 let{A2,v2,e2,m2,_}:=F7 w fit hF (sB w hn hm ne nd hF fit UX hU).2 UX  (λc hc=>(List.mem_filter.mp hc).1)<|ndf _;refine{F.filter λc=>!decide (c∈A2),?_,ndf _,yd hU m1 m2};unfold lD;rw[yM w hn hm ne nd hF fit UX hU,a_,vk w hn hm ne nd hF fit UX hU,a_,e1,a_,qJ _ ne,e_,a_,nZ hF,a_,a_,e2,a_];rw[a_,nZ hF,a_,a_]
end
inductive Yo(r:Rl):Re Nat->Re Nat->Re Nat->Prop
 | nil (c:Re Nat):Yo r c [] c
 | cons {c c1 c':Re Nat} {k:Nat} {ks:Re Nat}:Goes r c k c1->Yo r c1 ks c'->Yo r c (k::ks) c'
theorem Yo.snoc{c1:Re Nat}{k:Nat}(h:Yo r c ks c1)(g:Goes r c1 k c'):Yo r c (ks++[k]) c':=by
 induction h with
 | nil c=>exact .cons g<|.nil _
 | cons a _ ih=>exact .cons a<|ih g
inductive Bk(r:Rl)(v:Re Nat->D)(c0:Re Nat)(F:Re ?L):Re Nat->Re ?jt->Prop
 | nil:v c0=.none->Bk r v c0 F c0 []
 | snoc {h c:Re Nat} {k:Nat} {ps:Re (Nat×Re Nat)}:Bk r v c0 F h ps->h∈F->Goes r h k c->v c=.tuple [cT h,ld (k,c)]->Bk r v c0 F c (ps++[(k,c)])
theorem Bk.mono{v v':Re Nat->D}{F':Re ?L}(hv:∀x∈F,v' x=v x)(hF:∀x∈F,x∈F')(b:Bk r v c0 F c ps):c∈F->Bk r v' c0 F' c ps:=by
 induction b with
 | nil e=>exact λhc=>.nil<|(hv _ hc).trans e
 | snoc b hh g e ih=>exact λhc=>.snoc (ih hh) (hF _ hh) g<|(hv _ hc).trans e
theorem Bk.pth{v:Re Nat->D}(b:Bk r v c0 F c ps):Yo r c0 (ps.map (·.1)) c:=by
 induction b with
 | nil e=>exact .nil _
 | snoc b hh g e ih=>rw[gi];exact ih.snoc g
noncomputable abbrev MB:D×Re D×D×Unit->(D×Re D×D×Unit->M D)->M D:=λUq kn=>eU Uq.1 Uq.2.1 Uq.2.2.1 kn
def Kp{v:Re Nat->D}(b:Bk r v c0 F c ps):∀(acc:Re ?jt) (fuel:Nat),ps.length<fuel->acc.length+ps.length<=90000 ->
  bG MB fuel (.dict ?je,acc.map ld,v c,())=.ret (.list<|ps.map ld++acc.reverse.map ld):=by
 induction b with
 | nil e =>
  intro acc fuel hf hl;obtain⟨fuel,rfl⟩:∃n,fuel=n+1:={fuel - 1,by lia};rw[e];show eU _ (acc.map ld) .none _=_;unfold eU;unfold qe;rw[show jv [.list (acc.map ld)]=some (acc.map ld).reverse from rfl,e_,a_,<-List.map_reverse];rfl
 | @snoc h c k ps b hh g e ih =>
  intro acc fuel hf hl;rw[xP,wn]at hf hl;obtain⟨fuel,rfl⟩:∃n,fuel=n+1:={fuel - 1,by lia};have:=ih (acc++[(k,c)]) fuel ?A (by rw[xP,wn];lia);rw[e];show eU (.dict ?je) (acc.map ld) (.tuple [cT h,ld (k,c)]) _=_;unfold eU;have i1:aD (.tuple [cT h,ld (k,c)]) (.int 1)=some (ld (k,c)):=rfl;have i0:aD (.tuple [cT h,ld (k,c)]) (.int 0)=some (cT h):=rfl;rw[show fM (.tuple [cT h,ld (k,c)]) .none=some true from rfl,e_,a_,i1,e_,a_,mY _ _ ?qv,e_,a_,i0,e_,a_,lP v hh,e_];rw[gi]at this;refine Eq.trans this ?_;simp
def Et{v:Re Nat->D}(b:Bk r v c0 F c ps)(hc:c∈F)(hl:ps.length<=900):oE (.dict ?je) ?jC=.ret (.list ?qN):=by
 unfold oE;rw[lP v hc,e_,a_,Mk];have:=Kp b [] 10000 ?A ?jd;simpa using this
noncomputable def Good(r:Rl)(c0:Re Nat)(F:Re ?L)(v:Re Nat->D):Prop:=F.Nodup/\c0∈F/\∀c∈F,∃ps,Bk r v c0 F c ps/\ps.length<F.length
theorem Good.add{v:Re Nat->D}{h:Re Nat}{k:Nat}(q:Good r c0 F v)(hh:h∈F)(g:Goes r h k c)(hc:c∉F):Good r c0 (F++[c]) (λx=>if x=c then .tuple [cT h,ld (k,c)]else v x)/\F.map (kE v)=F.map (kE λx=>if x=c then .tuple [cT h,ld (k,c)]else v x):=by
 let{nd,h0,al}:=q;have ag:∀x∈F,(if x=c then PyData.tuple [cT h,ld (k,c)]else v x)=v x:=λx hx=>ba λ(z:x=c)=>hc<|z▸hx
 have mono:∀x∈F,∀ps,Bk r v c0 F x ps->Bk r (λx=>if x=c then .tuple [cT h,ld (k,c)]else v x) c0 (F++[c]) x ps:=λx hx ps b=>b.mono ag (λy hy=>aR _ hy) hx
 refine{{?_,aR _ h0,λx hx=>?_},?_}
 ·rw[vd];exact{nd,by simp,λa ha b hb=>by rw[List.mem_singleton.mp hb];exact λz=>hc<|z▸ha}
 ·rw[xP,wn];let hx||hx:=List.mem_append.mp hx
  ·let{ps,b,l}:=al x hx;exact{ps,mono x hx ps b,by lia}
  ·rw[List.mem_singleton.mp hx];let{ps,b,l}:=al h hh;exact{ps++[(k,c)],.snoc (mono h hh ps b) (aR _ hh) g<|ap rfl,by rw[xP,wn];lia}
 ·refine im λx hx=>?_
  show(cT x,v x)=(cT x,if x=c then _ else v x);rw[ag x hx]
section
variable (w:Wf r) (Ub:c0.length=r.n) {Rs:Re ?L} (mem:∀c,c∈Rs↔SJ r c0 c) (hB:Rs.length<=900)
include w Ub mem hB
def GW{R:M D->Prop}{v:Re Nat->D}{h:Re Nat}(q:Good r c0 F v)(sub:∀c∈F,c∈Rs)(hh:h∈F)(L G i:D)(kn3:D×D×Re ?M×Re D×D×Unit->M D)(k:D×D×Re ?M×Re D×D×D×Unit->M D)
  (hk:∀F' v',Good r c0 F' v'->(∃E,F'=F++E)->(∀c∈F',c∈Rs)->(∀p∈bV r h,p.2∈F')->R (k (L,G,F'.map (kE v'),F'.map cT,i,cT h,()))) :
  R (cH (λSH ZJ kn=>kH kn3 SH.1 SH.2.1 SH.2.2.1 SH.2.2.2.1 SH.2.2.2.2.1 SH.2.2.2.2.2.1 ZJ kn) ((bV r h).map ld) (L,G,F.map (kE v),F.map cT,i,cT h,()) k):=by
 have hhl:=(((mem h).mp<|sub h hh).fit w Ub).1;refine wB  (P:=λj s=>∃F' v',s=(L,G,F'.map (kE v'),F'.map cT,i,cT h,())/\Good r c0 F' v'/\(∃E,F'=F++E)/\(∀c∈F',c∈Rs)/\(∀p∈(bV r h).take j,p.2∈F')) _ _ ?_ {F,v,rfl,q,{[],(je _).symm},sub,λp hp=>by simp at hp} ?_
 ·rintro j s d hd ⟨F',v',rfl,q',⟨E,hE⟩,Um,Wl⟩ kn Yj;rw[ue]at hd;let{p,hp,rfl}:=Option.map_eq_some_iff.mp hd;have pm:=ul hp;have g:=(eO w hhl).mp pm;have tk:(bV r h).take ?qI=(bV r h).take j++[p]:=by
   rw[List.take_add_one,hp];rfl
  have hle:=cC q'.1 Um;unfold kH;rw[ld1,e_,a_,hG,e_,a_];by_cases VD:p.2∈F'
  ·rw[be VD];refine Yj _ {F',v',rfl,q',{E,hE},Um,λx hx=>?_};rw[tk]at hx;let hx||hx:=List.mem_append.mp hx
   ·exact Wl x hx
   ·rw[List.mem_singleton.mp hx];exact VD
  ·let{q2,e2}:=q'.add    (by rw[hE];exact aR _ hh) g VD;have pt:=kh (λx=>if x=p.2 then .tuple [cT h,ld p]else v' x) VD ?A;rw[ap rfl]at pt;rw[bi VD,a_,e2,pt,e_,a_,a_,mY _ _ ?qv,e_];have:=Yj (L,G,(F'++[p.2]).map (kE λx=>if x=p.2 then .tuple [cT h,ld p]else v' x),(F'++[p.2]).map cT,i,cT h,()) {F'++[p.2],_,rfl,q2,{E++[p.2],by rw[hE,wa]},λx hx=>?_,λx hx=>?_}
   ·rw[gi (f:=cT)]at this;exact this
   ·let hx||hx:=List.mem_append.mp hx
    ·exact Um x hx
    ·rw[List.mem_singleton.mp hx];exact(mem _).mpr<|.step ((mem h).mp<|sub h hh) g
   ·rw[tk]at hx;let hx||hx:=List.mem_append.mp hx
    ·exact aR _<|Wl x hx
    ·rw[List.mem_singleton.mp hx];simp
 ·rintro s ⟨F',v',rfl,q',hE,Um,Wl⟩;rw[u_,List.take_length]at Wl;exact hk F' v' q' hE Um Wl
def v3(r:Rl)(c0 goal:Re Nat)(m:M D):Prop:=∃ps:Re ?jt,m=.ret (.list ?qN)/\Yo r c0 (ps.map (·.1)) goal/\ps.length<=900
noncomputable abbrev Jg:D×D×Re ?M×Re D×D×Unit->(D×D×Re ?M×Re D×D×Unit->M D)->M D:=λRw kn=>iL Rw.1 Rw.2.1 Rw.2.2.1 Rw.2.2.2.1 Rw.2.2.2.2.1 kn
def DU{F0:Re ?L}(h0:∀c,c∈F0↔c∈Rs){goal:Re Nat}(hg:SJ r c0 goal):∀(fuel i:Nat) (F:Re ?L) (v:Re Nat->D),Good r c0 F v->(∀c∈F,c∈Rs)->i<=F.length ->
  (∀(j:Nat) (h:j<F.length),j<i->F[j]≠goal/\∀k c,Goes r F[j] k c->c∈F)->Rs.length<fuel+i ->
  v3 r c0 goal (bG Jg fuel (.dict (F0.map ?ju),.dict ([goal].map ?jP),F.map (kE v),F.map cT,iN i,()))
 | 0,i,F,v,q,sub,hi,_,hf=>by
  have:=cC q.1 sub;lia
 | fuel+1,i,F,v,q,sub,hi,cl,hf=>by
  have hle:=cC q.1 sub;have r_:i<F.length:=by
   let h||h:=Nat.lt_or_ge i F.length
   ·exact h
   ·have all:∀c,SJ r c0 c->c∈F:=λc hc=>by
     induction hc with
     | refl=>exact q.2.1
     | step _ g ih =>
      let{j,hj,e}:=ou ih;exact(cl j hj ?A).2 _ _<|e▸g
    let{j,hj,e}:=ou<|all goal hg;exact absurd e (cl j hj ?A).1
  have ix:aD (.list ?j6) (iN i)=some (cT F[i]):=by
   rw[n8,(uY cT F i r_)]
  show v3 r c0 goal<|iL _ _ ?je ?j6 (iN i) λs'=>bG Jg fuel s';unfold iL;rw[ix,e_,a_,hG vT,e_,a_];by_cases hgo:F[i]=goal
  ·rw[be (by rw[hgo];exact List.mem_singleton.mpr rfl),ba ?C];unfold qd;let{ps,b,l}:=q.2.2 F[i]<|ib r_;rw[ix,e_,a_,Et b (ib r_) ?A];exact{ps,rfl,hgo▸b.pth,by lia}
  ·have VD:=(h0 _).mpr<|sub _<|ib r_;rw[bi λz=>hgo<|List.mem_singleton.mp z,a_,lP (vL r) VD,e_,a_,show bZ (vL r F[i])=some ((bV r F[i]).map ld)from rfl,e_];refine GW w Ub mem hB q sub (ib r_) _ _ _ _ _ λF' v' q' hE Um Wl=>?_
   let{E,hE}:=hE;have hfl:=(((mem _).mp<|sub _<|ib r_).fit w Ub).1;refine DU h0 hg fuel ?jx F' v' q' Um (by rw[hE,xP];lia) (λj h hji=>?_) ?A;have at':∀(h':j<F.length),F'[j]=F[j]:=λh'=>by
    simp  [hE];exact List.getElem_append_left h'
   let lt||ge:=Nat.lt_or_ge j i
   ·rw[at' ?A];refine{(cl j ?A lt).1,λk c g=>?_};rw[hE];exact aR _<|(cl j ?A lt).2 k c g
   ·have:j=i:=by lia
    subst this;rw[at' r_];exact{hgo,λk c g=>Wl (k,c)<|(eO w hfl).mpr g}
def DV{F0:Re ?L}(h0:∀c,c∈F0↔c∈Rs){goal:Re Nat}(hg:SJ r c0 goal):v3 r c0 goal (oD (.dict<|F0.map ?ju) (cT c0)<|.dict [(cT goal,.bool true)]):=by
 unfold oD jo;rw[dZ];rw[Mk];refine DU w Ub mem hB h0 hg 10000 0 [c0] (λ_=>.none) {by simp,List.mem_singleton.mpr rfl,λc hc=>?_} (λc hc=>?_) ?U (λj h z=>absurd z<|Nat.not_lt_zero _) ?A
 ·rw[List.mem_singleton.mp hc];exact{[],.nil rfl,by simp}
 ·rw[List.mem_singleton.mp hc];exact(mem _).mpr .refl
end
structure Gv(r:Rl)(cs:Re Nat):Prop where
 w:Wf r
 sm:Sml r
 Xz:r.ms.length<=30
 s1:1<=r.st.length
 s4:r.st.length<=4
 len:cs.length=r.st.length
 pos:1<=cs.sum
 Y3:cs.sum<=5
structure Rc(r:Rl)(cs:Re Nat)(F:Re ?L):Prop where
 nd:F.Nodup
 mem:∀c,c∈F↔SJ r ?qD c
 len:F.length<=63
 all:iu r.d (cT ?qD)=.ret (.dict ?jg)
theorem Gv.reach(V:Gv r cs):∃F,Rc r cs F:=by
 have w:=V.w;have n5:=V.sm.n5;have hs:=GC w cs V.len;have h4:=V.Y3;have bound:∀F:Re ?L,F.Nodup->(∀x∈F,x.length=r.n/\x.sum=(bg r cs).sum)->F.length<=126:=λF nd hF =>
  di (cC nd  λx hx=>pE _ _ x (hF x hx).1 (hF x hx).2)<|LT r.n ?A _ ?A
 let{F,nd,mem,hl,e2}:=Mb w (by have:=V.Xz;lia) (mV r cs) 126 ?A bound;exact{F,nd,mem,zU w V.sm (mV r cs) ?A nd λc hc=>(mem c).mp hc,e2}
theorem mK{x:Nat}:∀{c:Re Nat},x∈c->x<=c.sum
 | a::c,h=>by
  rw[hV];let rfl||h:=List.mem_cons.mp h
  ·lia
  ·have:=mK h;lia
def JU(c:Re Nat)(x:Nat):fl c x<=c.sum:=by
 unfold fl;rw[fu]
 cases e:c[x]? with
 | none=>exact ac _
 | some y=>exact mK<|ul e
structure Fc(r:Rl)(c0:Re Nat)(F:Re ?L):Prop where
 ne:F≠[]
 nd:F.Nodup
 len:F.length<=63
 fit:∀c∈F,c.length=r.n
 cl:∀c∈F,∀k c',Goes r c k c'->c'∈F
 mem:∀c,c∈F↔SJ r c0 c
theorem Gv.fc(V:Gv r cs)(nd:F.Nodup)(len:F.length<=63)(mem:∀c,c∈F↔SJ r ?qD c):Fc r ?qD F where
 ne:=λz=>by
  have:=(mem ?qD).mpr .refl;rw[z]at this
  cases this
 nd:=nd
 len:=len
 fit:=λc hc=>(((mem c).mp hc).fit V.w<|mV r cs).1
 cl:=λc hc k c' g=>(mem c').mpr<|.step ((mem c).mp hc) g
 mem:=mem
abbrev DN(r:Rl)(q:Qs)(cs c:Re Nat):Prop:=Lst r (SJ r ?qD) (wd<|q.tr cs) c
def Av(t:Bool):(bd (bd (M.ret<|.bool t) λx3=>oM<|qr [x3]) λx4=>oM<|aD (PyData.list [(.str "no"),(.str "yes")]) x4)=.ret (wd t):=by cases t<;>rfl
section
variable (V:Gv r cs) {q:Qs} (hq:q.ok r.st.length 1)
include V
theorem yk:dU r.d (cT cs)=.ret (cT ?qD):=yl V.w cs V.len (by have:=V.s4;have:=V.len;lia) (by have:=V.sm.n5;lia)
include hq
theorem yh:df 8 q.d (cT cs)=.ret (.bool<|q.tr cs):=p7 V.len (λx=>by have:=JU cs x;have:=V.Y3;lia) 8 1 q hq ?C
variable (C:Rc r cs F)
include C
theorem zE:∃L:Re ?L,iO r.d q.d (cT cs)=.ret (.list ?jY)/\∀c,c∈L↔DN r q cs c:=by
 have w:=V.w;have n5:=V.sm.n5;have hl:=C.len;have K:=V.fc C.nd C.len C.mem;have hs:∀c∈F,(bH r c r.ms.zipIdx).length<=1000:=λc _=>by
  have:=jj r c r.ms.zipIdx;rw[wP]at this;have:=V.Xz;lia
 have ndf:∀p ,(F.filter p).Nodup:=λp=>(List.filter_sublist).nodup C.nd
 let{A1,e1,m1}:=B6 K.ne ?A hs K.cl  (λc hc=>(List.mem_filter.mp hc).1)<|ndf _;let{A2,e2,m2}:=B6 K.ne ?A hs K.cl  (λc hc=>(List.mem_filter.mp hc).1)<|ndf _;refine{F.filter λc=>!decide (c∈A2),?_,yd C.mem m1 m2};have f0:=BG (F:=F) (f:=λd=>dM r.d d) (W:=wd (q.tr cs))  ?A λc hc=>by
  rw[(Ej w (K.fit c hc) ?A).2,a_,JH,e_]
 unfold iO;rw[yk V,a_,C.all,a_,yh V hq,Av,a_,qJ _ K.ne,e_,a_,f0,a_,a_,e1,a_];rw[a_,nZ ?A,a_,a_,e2,a_,a_,nZ ?A,a_,a_]
end
abbrev ky(l:Re Nat):Re Int:=l.map λx:Nat=>(x:Int)
theorem ww:∀p:Re Nat,intsOf (p.map iN)=some (ky p)
 | []=>rfl
 | a::p=>by
  show(match intsOf (p.map iN)with|some l=>some<|(a:Int)::l|none=>none)=_;rw[ww p];rfl
def FD{a b:Re Nat}(h:ky a=ky b):a=b:=(qV λx y (h)=>by lia).mp h
def Gk:∀a b:Re Nat,HT.lexLt (cE<|a.map iN) (cE<|b.map iN)=HT.lexLt (ky a) (ky b)
 | [],[]=>rfl
 | [],_::_=>rfl
 | _::_,[]=>rfl
 | x::a,y::b=>by
  show HT.lexLt (1::(x)::cE (a.map iN)) (1::(y)::cE (b.map iN))=HT.lexLt ((x)::ky a) ((y)::ky b);rw[Xl,ap rfl,Xl,Xl,Gk a b]
def Aj(ne:∀c∈L,c≠[])(hl:L.length<=63)(nd:L.Nodup):∃S:Re ?L,jK yF [.list ?jY]=some (S.map cT)/\S.Perm L/\S.Pairwise λa b=>HT.lexLt (ky a) (ky b)=true:=by
 have ok:OkN yF ?jY:={rfl,λd hd=>by
  let{c,hc,rfl}:=List.mem_map.mp hd;refine{{_,rfl,λk x hx=>?_},di (cy (n:=1) λd hd=>by let{i,_,rfl}:=List.mem_map.mp hd;simp[PyData.depth]) ?C,?_}
  ·let{n,_,rfl}:=List.mem_map.mp<|ul hx;exact{_,rfl}
  ·cases c with
   | nil=>exact absurd rfl<|ne _ hc
   | cons a c=>exact{_,_,rfl}}
 let{S,p,e}:=HW<|bM ?jY;refine{S,?_,p,?_}
 ·show(@ite _ (OkN yF ?jY) (Classical.propDecidable _) (some<|dX ?jY) none)=_;rw[ap ok,e]
 ·have hs:=gN ?jY;rw[<-e,vc]at hs;refine(hs.and<|p.nodup_iff.mpr nd).imp λ{a b} ⟨h1,h2⟩=>?_
  unfold sr at h1;rw[nv,show HT.lexLt (enc<|cT b) (enc<|cT a)=_ from Gk b a]at h1
  cases h:HT.lexLt (ky a) (ky b)with
  | true=>rfl
  | false=>exact absurd (FD<|C1 h h1) h2
abbrev T6(v:Re Nat->Nat)(c:Re Nat):D:=.tuple [cT c,iN (v c)]
abbrev pap(cs ks:Re Nat)(L:Re ?L)(v:Re Nat->Nat):D:=.tuple [cT cs,cT ks,.tuple ?jH]
structure Pap(r:Rl)(q:Qs)(cs ks:Re Nat)(L:Re ?L)(v:Re Nat->Nat):Prop where
 go:∃c∈L,Yo r ?qD ks c
 kl:ks.length<=900
 ll:L.length<=63
 so:L.Pairwise λa b=>HT.lexLt (ky a) (ky b)=true
 rc:∀c∈L,SJ r ?qD c
 cl:∀c∈L,∀k c',Goes r c k c'->c'∈L
 n0:∀c∈L,v c=0->nq r (wd<|q.tr cs) c=true
 s:∀c∈L,0<v c->∃k c',Goes r c k c'/\v c'<v c
def Pd(ps:Re ?jt):aW (λd5=>bd (oM<|aD d5<|.int 0) λx6=>M.ret<|some x6) ?qN=.ret ((ps.map (·.1)).map iN):=by
 rw[fQ   ps λp _=>rfl,ic];rfl
theorem Lst.next{W:D}{k:Nat}(h:Lst r (SJ r c0) W c)(g:Goes r c k c'):Lst r (SJ r c0) W c':={.step h.1 g,λz=>h.2<|.step g z}
def n9(r:Rl)(q:Qs)(cs:Re Nat)(m:M D):Prop:=((∀c,¬ DN r q cs c)/\m=.ret .none)\/((∃c,DN r q cs c)/\∃ks L v,m=.ret ?qO/\Pap r q cs ks L v)
section
variable (V:Gv r cs) (C:Rc r cs F) {q:Qs} (hq:q.ok r.st.length 1)
include V C hq
def Gf(limit:Nat):(limit<F.length/\ju r.d q.d (cT cs) (iN limit)=.bad)\/(F.length<=limit/\n9 r q cs (ju r.d q.d (cT cs)<|iN limit)):=by
 have w:=V.w;have n1:=w.n1;have n5:=V.sm.n5;have Xz:=V.Xz;have hl:=C.len;unfold ju;rw[GD w cs ?A,a_];let{h1,F',pm,e}||{h1,e}:=Ip w ?A ?A (mV r cs) C.nd C.mem ?A limit
 ·refine .inr {h1,?_};have Ut:∀c,c∈F'↔SJ r ?qD c:=λc=>by rw[pm.mem_iff,C.mem]
  have K:=V.fc (pm.symm.nodup C.nd) (by rw[pm.length_eq];lia) Ut;have hF:=K.len;let{L',e2,nd2,m2}:=HZ w n5 ?A K.ne K.nd ?A K.fit K.cl Ut<|q.tr cs;rw[e,a_,yr V.len (λx=>by have:=JU cs x;have:=V.Y3;lia) 8 1 q hq ?C,a_,e2,a_];rw[show dm [.list (L'.map cT)]=some (iN L'.length)from by rw[L4.Uv,u_],e_,a_,show bp (iN L'.length) (.int 0)=_ from Wz L'.length 0,e_,a_]
  cases L' with
  | nil=>exact .inl {λc hc=>(by have:=(m2 c).mpr hc;cases this),rfl}
  | cons c1 L1 =>
   have sub:=λc hc=>(Ut c).mpr ((m2 c).mp hc).1
   have hL:=di (cC nd2 sub) hF;let{ps,e3,pth,pl}:=DV w (mV r cs) Ut ?A  (λ_=>Iff.rfl) ((m2 c1).mp ?E).1;let{A,v,e4,mA,rk}:=sQ w n5 ?A K.ne K.nd ?A K.fit K.cl Ut<|q.tr cs;let{S,e5,p5,so}:=Aj  (λc hc z=>by have:=K.fit c<|sub c hc;rw[z]at this;simp at this;lia) hL nd2;have mS:∀c,c∈S↔DN r q cs c:=λc=>by rw[p5.mem_iff,m2]
   have inA:=λc hc=>(mA c).mpr {(Ut c).mpr ((mS c).mp hc).1,(wL (λx=>by rw[tO,Ut]) c).mpr<|Classical.byContradiction λz=>((mS c).mp hc).2<|.goal {((mS c).mp hc).1,z}}
   have lS:S.length<=63:=by rw[p5.length_eq];exact hL
   refine .inr {{c1,(m2 c1).mp ?E},ps.map (·.1),S,v,?_,{c1,p5.mem_iff.mpr ?E,pth},by simpa using pl,lS,so,λc hc=>((mS c).mp hc).1,λc hc k c' g=>(mS c').mpr<|((mS c).mp hc).next g,λc hc z=>?_,λc hc z=>?_}
   ·have ix:aD (.list<|(c1::L1).map cT) (.int 0)=some (cT c1):=by rw[n8,show fO (.list<|(c1::L1).map cT) (.int 0)=_ from uY cT (c1::L1) 0 ?E];rfl
    have ok:jo (cT c1) (M.ret<|PyData.dict [(cT c1,.bool true)])=.ret (.dict [(cT c1,.bool true)]):=by unfold jo;rw[dZ]
    have cm:aW (λW5=>bd (bd (oM<|aD (.dict<|A.map ?jS) W5) λU0=>.ret<|.tuple [W5,U0]) λTQ=>.ret<|some TQ) (S.map cT)=.ret (S.map<|T6 v):=fQ   S λc hc=>by rw[lP _<|inA c hc,e_,a_,a_]
    rw[ba ?E,ix,e_,nxR,a_,ok,a_,e3,a_,oV,e_,a_,Pd,a_,cG ?jd,a_,a_];rw[yM w n5 ?A K.ne K.nd ?A K.fit K.cl Ut,a_,vk w n5 ?A K.ne K.nd ?A K.fit K.cl Ut,a_,e4,a_,e5,e_,a_,a_,oV,e_,a_,cm,a_,cG ?jd,a_,a_,Cr,e_,a_,Cr,e_,a_,a_]
   ·rcases rk.2 c (inA c hc)with g|⟨k,c',_,_,g⟩
    ·exact(List.mem_filter.mp g).2
    ·lia
   ·rcases rk.2 c (inA c hc)with g|⟨k,c',g1,_,g⟩
    ·have:=rk.1 c g;lia
    ·exact{k,c',g1,by lia}
 ·exact .inl {h1,by rw[e];rfl}
end
abbrev sE(p:Nat×Re Nat):D×D:=(iN p.1,cT p.2)
def FI(a b:Nat):gP (iN a) (iN b)=decide (a=b):=by
 exact decide_eq_decide.mpr ?A
def AU:∀(ps qs:Re ?jt),((qs++ps).map (·.1)).Nodup->(qs++ps).length<=90000->ki false (qs.map sE) ?qN=some ((qs++ps).map sE)
 | [],qs,_,_=>by rw[je];rfl
 | p::ps,qs,nd,hl=>by
  have e:qs++p::ps=(qs++[p])++ps:=by simp
  have h1:ii false (qs.map sE) (iN p.1) (cT p.2)=some ((qs++[p]).map sE):=by
   unfold ii;rw[ap,rQ,gi]
   ·rfl
   ·intro x hx;let{q,hq,rfl}:=List.mem_map.mp hx;rw[(FI q.1 p.1),ug];rw[gi,vd]at nd;exact nd.2.2 q.1 (List.mem_map.mpr {q,hq,rfl}) p.1 ?E
   ·rw[xP]at hl;rw[am,aQ,u_];exact{rfl,yi (show qs.length<=90000 by lia) ?C}
  show(ii false (qs.map sE) (iN p.1)<|cT p.2).bind (λes1=>ki false es1 ?qN)=_;rw[h1,e];exact AU ps (qs++[p]) (e▸nd)<|e▸hl
theorem rB(r:Rl)(l:Re Nat):∀ps:Re (Mt×Nat),List.Sublist ((bH r l ps).map (·.1)) (ps.map (·.2))
 | []=>.slnil
 | p::ps=>by
  have ih:=rB r l ps;unfold bH at ih ⊢;rw[dD];split
  ·exact .cons_cons _ ih
  ·exact .cons _ ih
theorem pQ(r:Rl)(l:Re Nat):((bH r l r.ms.zipIdx).map (·.1)).Nodup:=by
 refine(rB r l _).nodup ?_;rw[(List.zipIdx_map_snd 0 r.ms)];exact List.nodup_range'
def LO(r:Rl)(l:Re Nat)(hm:r.ms.length<=90000):yD false (vS r l)=some ((bH r l r.ms.zipIdx).map sE):=by
 have h:=jj r l r.ms.zipIdx;rw[wP]at h;exact AU (bH r l r.ms.zipIdx) [] (pQ r l) (by rw[List.nil_append];lia)
theorem yq(ps:Re ?jt)(k:Nat):keyOk (ps.map sE) ?j5=true:=by
 unfold keyOk;rw[si];right;rw[am,su];refine{rfl,λx hx=>?_};let{q,_,rfl}:=List.mem_map.mp hx;rfl
def BC{k:Nat}{c:Re Nat}:∀(ps:Re ?jt),(ps.map (·.1)).Nodup->(k,c)∈ps->gz (ps.map sE) ?j5=some ?jC
 | [],_,h=>(nomatch h)
 | q::ps,nd,h=>by
  rw[aw,oB]at nd;unfold gz;rw[aw,ir,(FI q.1 k)];let rfl||h:=List.mem_cons.mp h
  ·rw[be rfl];rfl
  ·rw[bi λ(z:q.1=k)=>nd.1<|z▸List.mem_map.mpr {(k,c),h,rfl}];exact BC ps nd.2 h
def LL(L:Re ?L):bp (.list ?jY) (.list [])=some L.isEmpty:=by
 have h:=zl L;unfold cI at h;unfold bp;split at h
 ·rename_i hc;rw[ap hc];have t:=congrArg (λb=>!b)<|Option.some.inj h;simp  [Bool.not_not]at t;rw[t]
 ·cases h
theorem nh(ns:Re Nat)(h:∀c∈ns,c<=1000)(hl:ns.length<=10):e6 [cT ns]=some (iN ns.sum):=by
 have:=AF ns h hl;exact this
def Fa(n:Nat):cA (iN n)=.ret (.bool true):=id rfl
def O1(n:Nat):eW (iN n) (.int 0)=some false:=(HY n 0).trans ?E
theorem tf(hc:c.length=n)(hn:n<=10)(h1:1<=c.sum)(h2:c.sum<=1000):cO ?jC (iN n)=.ret (.bool true):=by
 have hb:∀x∈c,x<=1000:=λx hx=>di (mK hx) h2
 have cm:aW (λd5=>bd (bd (bd (bd (cA d5) λx6=>oM<|iX x6) λb7=>.ret<|!b7) λb8=>if b8 then .ret true else oM (eW d5<|.int 0)) λb9=>if b9 then .ret (some d5)else .ret none) (c.map iN)=.ret []:=by
  rw[dn   c λx _=>rfl];simp
 unfold cO;rw[show kC "tuple" ?jC=some true from rfl,e_,a_,a_,ba ?C,yc,u_,hc,e_,a_,L4.neI,e_,a_];rw[ba ?E,G9,e_,a_,cm,a_,cG ?E,a_,a_,show cI ?qd ?qd=some false from rfl,e_,a_,ba ?C,nh c hb ?A,e_,a_,show eX (iN c.sum) (.int 0)=_ from zQ c.sum 0,e_,a_,a_,be ?A]
def Lh(a b:Re Nat):eW (cT a) (cT b)=some (HT.lexLt (ky a)<|ky b):=by
 show(match intsOf (a.map iN),intsOf (b.map iN)with|some m,some n=>some<|HT.lexLt m n|_,_=>none)=_;rw[ww,ww]
section
variable (V:Gv r cs) {q:Qs} (hq:q.ok r.st.length 1) (P:Pap r q cs ks L v)
include V hq P
theorem Pap.fit(hc:c∈L):c.length=r.n/\c.sum=cs.sum:=by
 let{a,b}:=(P.rc c hc).fit V.w<|mV r cs;exact{a,b.trans<|GC V.w cs V.len}
def Hj{k:Nat}(hk:k<L.length):eD r.d (.tuple ?jH) ?j5 (iN cs.sum)=.ret (.bool false):=by
 let{f1,f2}:=P.fit V hq<|ib hk;have n5:=V.sm.n5;have p1:=V.pos;have p4:=V.Y3;have ix:∀(j:Nat) (h:j<L.length),aD (.tuple ?jH) (iN j)=some (T6 v L[j]):=λj h=>by rw[bx,(p9 (T6 v) L j h)]
 unfold eD;rw[ix k hk,e_,a_,show kC "tuple" (T6 v L[k])=some true from rfl,e_,a_,a_,ba ?C,show dm [T6 v L[k]]=some (.int 2)from rfl,e_,a_,show cI (.int 2) (.int 2)=some false from rfl,e_,a_,ba ?C,bx,jJ,e_,a_,bx,jJ,e_,a_];rw[tf f1 ?A ?A ?A,a_,vy,e_,a_,a_,ba ?C,a_,nh _ (λx hx=>di (mK hx) ?A) ?A,e_,a_,f2,(L4.neI _ _),e_,a_];rw[ba ?E,bx,kB,e_,a_,Fa,a_,vy,e_,a_,a_,ba ?C,a_,O1,e_,a_,ba ?C,show eX ?j5 (.int 0)=_ from zQ k 0,e_,a_];by_cases h0:0<k
 ·have hk1:k - 1<L.length:=by lia
  have so:=List.pairwise_iff_getElem.mp P.so (k - 1) k hk1 hk ?A;rw[be h0,show gJ ?j5 (.int 1)=_ from Oz k 1 ?A,e_,a_,ix (k - 1) hk1,e_,a_,bx,jJ,e_,a_,a_,Lh,so,e_,a_];rfl
 ·rw[bi h0,ba ?C,a_,a_]
def LN{k:Nat}(hk:k<L.length)(kn:D×D×Re ?M×D×Unit->M D):fj r.d (.tuple ?jH) (L.map ?jS) (wd (q.tr cs)) ?j5 kn=kn (r.d,.tuple ?jH,L.map ?jS,wd (q.tr cs),()):=by
 have hm:=ib hk;let{f1,f2}:=P.fit V hq hm;have n5:=V.sm.n5;have Xz:=V.Xz;have sl:=jj r L[k] r.ms.zipIdx;rw[wP]at sl;generalize hc:L[k]=c at *;have ix:aD (.tuple ?jH) ?j5=some (T6 v c):=by rw[bx,show fO (.tuple ?jH) ?j5=_ from p9 (T6 v) L k hk,hc]
 unfold fj;rw[ix,e_,a_,show(yG (T6 v c):(D->D->M D)->M D)=λf=>f ?jC (iN (v c))from id rfl];dsimp only;rw[rA V.w f1 ?A,a_,oV,e_,a_,E0,a_,cG ?jd,a_,a_];generalize hB:(bH r c r.ms.zipIdx).map (·.2)=B;have bl:B.length<=30:=by rw[<-hB,u_];lia
 have bm:∀c',c'∈B↔∃j,Goes r c j c':=λc'=>by
  rw[<-hB,List.mem_map];constructor
  ·rintro⟨⟨j,x⟩,h,rfl⟩;exact{j,E_.mp h}
  ·rintro⟨j,h⟩;exact{(j,c'),E_.mpr h,rfl}
 have inL:∀c'∈B,c'∈L:=λc' h=>by
  let{j,g}:=(bm c').mp h;exact P.cl c hm j c' g
 have e0:(B.filter λc'=>!decide (c'∈L))=[]:=List.filter_eq_nil_iff.mpr λc' h=>by simp[inL c' h]
 have e1:aW (λd49=>bd (bd (oM (aD (PyData.dict (L.map ?jS)) d49)) λx50=>oM (eW x50 (iN (v c)))) λb51=>if b51 then .ret (some d49)else .ret none) (B.map cT)=.ret ((B.filter λc'=>decide (v c'<v c)).map cT):=by
  rw[dn  (g:=λc'=>if decide (v c'<v c)then some (cT c')else none) B λc' h=>by
   rw[lP _ (inL c' h),e_,a_,(HY _ _),e_,a_]
   split<;>rfl]
  refine congrArg M.ret ?_;clear e0 inL bm bl hB
  induction B with
  | nil=>rfl
  | cons a B ih =>
   rw[u8,kj,ih]
   cases decide (v a<v c)<;>rfl
 rw[oV,e_,a_,nZ ?A,a_,a_,e0,show cI (PyData.list (([]).map cT)) (.list [])=some false from rfl,e_,a_,ba ?C,a_,e1,a_,cG (by rw[u_];exact di (tu _ _) ?A),a_,a_];rw[show bp (iN (v c)) (.int 0)=_ from Wz _ 0,e_,a_,show eX (iN (v c)) (.int 0)=_ from zQ _ 0,e_,a_,LL,e_];by_cases h0:v c=0
 ·have hz:=P.n0 c hm h0;have eq:bp (sd r c) (wd (q.tr cs))=some false:=by
   have h:=Ei r c;unfold nq at hz;generalize sd r c=x at h hz ⊢;revert hz;let rfl||rfl||rfl:=h<;>cases q.tr cs<;>decide +kernel
  rw[be h0,ap rfl,(Ej V.w f1 ?A).2,a_,eq,e_,a_,ba ?C,bi ?A,ba ?C,a_,ba ?C]
 ·let{j,c',g,lt}:=P.s c hm ?A;have ne:(B.filter λc'=>decide (v c'<v c)).isEmpty=false:=by
   rw[Bool.eq_false_iff];intro z;rw[List.isEmpty_iff,List.filter_eq_nil_iff]at z;exact z c' ((bm c').mpr {j,g}) (by simpa using lt)
  rw[bi h0,ba ?C,a_,ba ?C,be ?A,ap rfl,ne,a_,ba ?C]
end
section
variable (V:Gv r cs) {q:Qs} (hq:q.ok r.st.length 1) (P:Pap r q cs ks L v)
include V hq P
def Dm:fk r.d q.d ?qO=.ret .none:=by
 have w:=V.w;have n5:=V.sm.n5;have Xz:=V.Xz;have p1:=V.pos;have p4:=V.Y3;have ll:=P.ll;have kl:=P.kl;have sl:=V.len;have s4:=V.s4;have tt:∀l:Re D,kC "tuple" (.tuple l)=some true:=λl=>id rfl
 have ss:e6 [cT cs]=some (iN cs.sum):=nh cs (λx hx=>di (mK hx) ?A) ?A;let{c1,hc1,pth}:=P.go;have nd:L.Nodup:=P.so.imp λh z=>by rw[z,Xx]at h;cases h
 unfold fk;rw[tt,e_,a_,a_,ba ?C,show dm [pap cs ks L v]=some (.int 3)from rfl,e_,a_,show cI (.int 3) (.int 3)=some false from by decide +kernel,e_,a_,ba ?C,bx,jJ,e_,a_,bx,kB,e_,a_,yc,u_,e_,a_,tf sl ?A ?A ?A,a_,vy,e_,a_,a_,ba ?C,show(dg ?qO:(D->D->D->M D)->M D)=λf=>f (cT cs) (cT ks) (.tuple ?jH)from id rfl];dsimp only;rw[ss,e_,a_,show eX (iN cs.sum) (.int 60)=_ from zQ cs.sum 60,e_,a_,bi ?A,ba ?C,tt,e_,a_,a_,ba ?C,tt,e_,a_,a_,yk V,a_,yc,u_,e_,a_,fV _ ?A,e_];refine wB (R:=λm=>m=M.ret PyData.none) (P:=λj s=>∃c,s=(r.d,q.d,cT cs,cT ks,.tuple ?jH,cT c,())/\SJ r ?qD c/\Yo r c (ks.drop j) c1) _ _ ?_ {_,rfl,.refl,pth} ?_
 ·rintro j s d hd ⟨c,rfl,hr,hp⟩ kn Yj;let{rfl,hj}:=xq hd;rw[li hj]at hp;have ixk:aD (cT ks) (iN j)=some (iN ks[j]):=by rw[bx,(p9 iN ks j hj)]
  generalize ks[j]=k at hp ixk
  cases hp with
  | @cons _ c' _ _ _ g hp =>
  have ge:=BC _ (pQ r c) (E_.mpr g);have ni:bc ?j5 (.dict ?jB)=some false:=by
   show(if keyOk ?jB ?j5 then some (!(gz ?jB ?j5).isSome)else none)=_;rw[ap (yq _ k),ge];rfl
  have ix:aD (.dict ?jB) ?j5=some (cT c'):=by
   show(if keyOk ?jB ?j5 then gz ?jB ?j5 else none)=_;rw[ap (yq _ k),ge]
  unfold iS;rw[rA w (hr.fit w (mV r cs)).1 ?A,a_,LO r c ?A,e_,a_,ixk,e_,a_,Fa,a_,vy,e_,a_,a_,ba ?C,a_,ni,e_,a_,a_,ix,e_];exact Yj _ {c',rfl,.step hr g,hp}
 ·rintro s ⟨c,rfl,hr,hp⟩;rw[u_,jA,wv]at hp
  cases hp
  unfold iU;rw[yc,u_,e_,a_,fV _ ?A,e_];refine(d0  (F:=λ_=>(r.d,q.d,cT cs,PyData.tuple ?jH,cT c1,())) (List.range L.length) λp i t hp kn=>?_).trans ?_
  ·have hi:i<L.length:=List.mem_range.mp (by rw[hp];simp);unfold iR;rw[ss,e_,a_,Hj V hq P hi,a_,vy,e_,a_,ba ?C]
  ·unfold iT;rw[show z9 true (.tuple ?jH)=some (L.map ?jS)from vQ (vN v) L [] ((nd)) ?jd,e_,a_,hG,be hc1,e_,a_,yh V hq,Av,a_,yc,u_,e_,a_,fV _ ?A,e_];refine(d0  (F:=λ_=>(r.d,PyData.tuple ?jH,L.map ?jS,wd (q.tr cs),())) (List.range L.length) λp i t hp kn=>?_).trans rfl;exact LN V hq P (List.mem_range.mp (by rw[hp];simp)) kn
end
def mW:Nat->Nat->Re ?L
 | 0,_=>[]
 | 1,h=>[[h]]
 | k+2,h=>(List.range<|h+1).flatMap λm=>(mW (k+1)<|h - m).map (m :: ·)
def LZ{k:Nat}(k1:1<=k)(k4:k<=2)(h1:1<=h)(h3:h<=5):e9 8 ?j5 (iN h)=.ret (.list<|(mW k h).map cT):=by
 rcases(by lia:k=1\/k=2)with rfl|rfl<;>rcases(by lia:h=1\/h=2\/h=3\/h=4\/h=5)with rfl|rfl|rfl|rfl|rfl<;>(simp  [e9,kU,jY,Nf];kernel_rfl)
def j9(most:Nat):Nat->Re ?L
 | 0=>[[]]
 | k+1=>(j9 most k).flatMap λr=>(List.range<|most - r.sum+1).map λm=>r++[m]
def allB(k most:Nat):Re ?L:=(List.range most).flatMap λh=>mW k<|h+1
def CC:∀k,k<3->∀most,most<6->∀h,h<5->(!decide (h<most) || !decide (1<=k)||((j9 most k).filter (λc=>decide<|c.sum=h+1)==mW k (h+1)&&decide ((j9 most k).length<=900)&&(j9 most k).all λc=>decide (c.length<=10)&&decide (c.sum<=5)))=true:=by decide +kernel
def Es{k:Nat}(hk:k<3)(hm:most<6)(h3:h<5)(hh:h<most)(k1:1<=k):(j9 most k).filter (λc=>decide<|c.sum=h+1)=mW k (h+1)/\(j9 most k).length<=900/\∀c∈j9 most k,c.length<=10/\c.sum<=5:=by
 have:=CC k hk most hm h h3;rw[be hh,be k1]at this;simpa[and_assoc]using this
theorem oK:∀k,k<3->∀h,h<5->1<=k->(∀c∈mW k (h+1),c.length=k/\c.sum=h+1)/\(mW k<|h+1).length<=63/\(mW k<|h+1).Pairwise λa b=>HT.lexLt (ky a) (ky b)=true:=by decide +kernel
def Cs(ne:∀c∈L,c≠[])(hl:L.length<=63)(so:L.Pairwise λa b=>HT.lexLt (ky a) (ky b)=true):jK yF [.list ?jY]=some ?jY:=by
 let{S,e,p,so'}:=Aj ne hl (so.imp λh z=>by rw[z,Xx]at h;cases h);rw[e,(p.eq_of_pairwise  (λa b _ _ h1 h2=>FD<|C1 h2 h1) (so'.imp λh=>Bo h)<|so.imp λh=>Bo h)]
def C7{k:Nat}(k1:1<=k)(k4:k<=2)(h1:1<=most)(h3:most<=5):cP ?j5 (iN most)=.ret (.list<|(allB k most).map cT):=by
 have e:cP ?j5 (iN most)=dN (iN most) (.list<|(j9 most k).map cT):=by
  rcases(by lia:k=1\/k=2)with rfl|rfl<;>rcases(by lia:most=1\/most=2\/most=3\/most=4\/most=5)with rfl|rfl|rfl|rfl|rfl<;>(simp![cP,gn,Nf];kernel_rfl)
 rw[e];unfold dN;have rg:(bd (oM<|bE (iN most)<|.int 1) λx2=>oM<|jL [.int 1,x2])=.ret ((List.range most).map λh=>iN<|h+1):=by
  rcases(by lia:most=1\/most=2\/most=3\/most=4\/most=5)with rfl|rfl|rfl|rfl|rfl<;>kernel_rfl
 rw[rg,a_];refine(d0 (e:=λh=>iN<|h+1) (F:=λpre=>(PyData.list ((j9 most k).map cT),(pre.flatMap λh=>mW k<|h+1).map cT,())) (List.range most) λp h t hp kn=>?_).trans rfl;have hh:h<most:=List.mem_range.mp (by rw[hp];simp);let{a1,a6,a7}:=Es (k:=k) ?A ?A ?A hh k1;let{a2,a5,a4}:=oK k ?A h ?A k1;dsimp only;unfold gm;have cm:aW (λd5=>bd (bd (oM<|e6 [d5]) λx6=>oM<|bp x6<|iN<|h+1) λb7=>if b7 then .ret (some d5)else .ret none) ((j9 most k).map cT)=.ret ((mW k<|h+1).map cT):=by
  rw[<-a1,dn (e:=cT) (g:=λc=>if decide (c.sum=h+1)then some ?jC else none) _ λc hc=>by
   rw[nh c (λx hx=>di (mK hx) (by have:=(a7 c hc).2;lia)) (a7 c hc).1,e_,a_,show bp (iN c.sum) (iN<|h+1)=_ from Wz _ _,e_,a_]
   split<;>rfl]
  refine congrArg M.ret ?_;generalize j9 most k=R
  induction R with
  | nil=>rfl
  | cons a R ih =>
   rw[u8,kj,ih]
   cases decide (a.sum=h+1)<;>rfl
 rw[oV,e_,a_,cm,a_,cG ?jd,a_,a_,Cs (λc hc z=>by have:=(a2 c hc).2;rw[z]at this;simp at this) a5 a4,e_,a_];have hs:∀p:Re Nat,(∀x∈p,x<5)->(p.flatMap λh=>mW k<|h+1).length<=63*p.length:=λp hx=>by
  induction p with
  | nil=>simp
  | cons a p ih =>
   have h1:=(oK k ?A a (hx a ?E) k1).2.1;have h2:=ih λx hy=>hx x (by simp[hy])
   rw[dD,xP,f8];lia
 have hl:p.length<=5:=by
  have:=congrArg List.length hp;simp at this;lia
 have:=hs p λx hx=>by
  have:x<most:=List.mem_range.mp (by rw[hp];simp[hx]);lia
 rw[Gb _ _ (by simp![u_];lia),e_];simp
def stN(s r n:Nat):Re Nat:=(List.range s).map λk=>n / 4 / (if k=0 then 1 else r) % r
def syN(r n:Nat):Re Bool:=(List.range r).map λk=>n / (if k=0 then 1 else 2) % 2==1
def iH(r:Nat)(st:Re Nat)(m:D)(sy:Re Bool):D:=.tuple [iN r,.tuple (st.map iN),m,.tuple (sy.map PyData.bool)]
def prN(r:Nat):Re (Nat×Nat):=if r=1 then[(0,0)]else[(0,0),(0,1),(1,1)]
def grow(ps:Re (Nat×Nat))(p:Nat×Nat)(told:Re (Re<|Nat×Nat×Nat×Nat)):Re (Re<|Nat×Nat×Nat×Nat):=told++told.flatMap λm=>(ps.filter λt=>t≠p).map λt=>m++[(p.1,p.2,t.1,t.2)]
def uI(r:Nat):Re (Re<|Nat×Nat×Nat×Nat):=(prN r).foldl (λtold p=>grow (prN r) p told) [[]]
def zB(m:Re (Nat×Nat×Nat×Nat)):D:=.tuple<|m.map mD
def starts(s r:Nat):Re ?L:=if r=1 then[List.replicate s 0]else if s=1 then[[0],[1]]else[[0,0],[0,1],[1,0],[1,1]]
def zJ(r:Nat):Re (Re Bool):=if r=1 then[[false],[true]]else[[false,false],[false,true],[true,false],[true,true]]
def cS(s r:Nat):Re D:=(List.range 64).flatMap λn=>(uI r).map λm=>iH r (stN s r n) (zB m)<|syN r n
noncomputable def Yl(s r:Nat):Re D:=(starts s r).flatMap λst=>(uI r).flatMap λm=>(zJ r).map λsy=>iH r st (zB m) sy
theorem ro(x y:D):eS x y=bd (oM<|bO [y]) λl1=>cD (λVW d13 kn=>bd (oM<|bZ VW.2.1) λl3=>cD (λUq d11 YS=>kI kn Uq.1 Uq.2.1 d11 YS) l3 (VW.1,[],()) λUq=>kL kn Uq.1 Uq.2.1) l1 (x,(PyData.list [(.tuple [])]),()) λVW=>kM VW.1 VW.2.1:=by
 unfold eS kJ;simp  [Nf]
def Hg:cq (iN 1) (iN 1)=cR (iN 1) (Yl 1 1):=by
 unfold cq eC d7 dP dq;simp  [Nf,ro];kernel_rfl
def He:cq (iN 2) (iN 1)=cR (iN 1) (Yl 2 1):=by
 unfold cq eC d7 dP dq;simp  [Nf,ro];kernel_rfl
def Hf:cq (iN 1) (iN 2)=cR (iN 2) (Yl 1 2):=by
 unfold cq eC d7 dP dq;simp  [Nf,ro];kernel_rfl
def Hd:cq (iN 2) (iN 2)=cR (iN 2) (Yl 2 2):=by
 unfold cq eC d7 dP dq;simp  [Nf,ro];kernel_rfl
def NB:bK (iN 1) (iN 1)=cu (iN 1) (iN 1) (.list<|(uI 1).map zB) (cS 1 1):=by
 unfold bK dw dz;simp  [Nf];kernel_rfl
def Nz:bK (iN 2) (iN 1)=cu (iN 2) (iN 1) (.list<|(uI 1).map zB) (cS 2 1):=by
 unfold bK dw dz;simp  [Nf];kernel_rfl
def NA:bK (iN 1) (iN 2)=cu (iN 1) (iN 2) (.list<|(uI 2).map zB) (cS 1 2):=by
 unfold bK dw dz;simp  [Nf];kernel_rfl
def Ny:bK (iN 2) (iN 2)=cu (iN 2) (iN 2) (.list<|(uI 2).map zB) (cS 2 2):=by
 unfold bK dw dz;simp  [Nf];kernel_rfl
def smI:D->Bool
 | .int i=>decide (0<=i)&&decide (i<=9)
 | _=>false
def smB:D->Bool
 | .bool _=>true
 | _=>false
def smT(p:D->Bool):D->Bool
 | .tuple xs=>xs.all p
 | _=>false
def pS(d:D):Bool:=(match d with
 | .tuple [a,b,c,e]=>smI a&&smT smI b&&smT (smT smI) c&&smT smB e
 | _=>false)&&decide (d.depth<=10)&&decide (sz d<=60)
theorem yY{d:D}(h:smI d=true):fits .i d/\Sm d:=by
 cases d<;>first|(cases h)|skip
 rename_i i;have h:(decide (0<=i)&&decide (i<=9))=true:=h;rw[am,aQ,aQ]at h;exact{{i,rfl},show i.natAbs<10^19 by omega}
def Kh{d:D}(h:smB d=true):fits .b d/\Sm d:=by
 cases d<;>first|(cases h)|skip
 exact{{_,rfl},trivial}
theorem vH{p:D->Bool}{s:Sh}(hp:∀x,p x=true->fits s x/\Sm x){d:D}(h:smT p d=true):fits (.f λ_=>s) d/\Sm d:=by
 cases d<;>first|(cases h)|skip
 rename_i xs;have h:xs.all p=true:=h;rw[su]at h;exact{{xs,rfl,λk x hx=>(hp x<|h x<|ul hx).1},tN λx hx=>(hp x<|h x hx).2}
theorem rG{d:D}(h:pS d=true):fits (.f gX) d/\d.depth<=10/\(∃x r,d=.tuple (x::r))/\Sm d/\sz d<=60:=by
 unfold pS at h;rw[am,am,aQ,aQ]at h;let{{h1,h2},h3}:=h;split at h1
 ·rw[am,am,am]at h1;let{{{ha,hb},hc},he}:=h1;have fa:=yY ha;have fb:=vH  (λ_=>yY) hb;have fc:=vH  (λ_=>vH λ_=>yY) hc;have fe:=vH  (λ_=>Kh) he;refine{{_,rfl,λk x hx=>?_},h2,{_,_,rfl},{fa.2,fb.2,fc.2,fe.2,trivial},h3}
  match k,hx with
  | 0,hx=>cases hx;exact fa.1
  | 1,hx=>cases hx;exact fb.1
  | 2,hx=>cases hx;exact fc.1
  | 3,hx=>cases hx;exact fe.1
  | k+4,hx=>simp at hx
 ·cases h1
def La{l:Re D}(h:l.all pS=true):OkN gX l:={rfl,λd hd=>by
 have:=rG<|List.all_eq_true.mp h d hd
 exact{this.1,by omega,this.2.2.1}}
theorem okX{r:Nat}(hs:s=1\/s=2)(hr:r=1\/r=2):(cS s r).all pS=true:=by
 let rfl||rfl:=hs<;>let rfl||rfl:=hr<;>decide +kernel
theorem okY{r:Nat}(hs:s=1\/s=2)(hr:r=1\/r=2):(Yl s r).all pS=true:=by
 let rfl||rfl:=hs<;>let rfl||rfl:=hr<;>decide +kernel
theorem zw{a b:Re Nat}(h:a.map iN=b.map iN):a=b:=by
 refine qV  (λx y e=>?_) |>.mp h;injection e with e;omega
theorem wm{a b:Re Bool}(h:a.map PyData.bool=b.map PyData.bool):a=b :=
 qV  (λx y e=>by injection e) |>.mp h
def Lg{a b:Mt}(h:mD a=mD b):a=b:=by
 let{a1,a2,a3,a4}:=a;let{rfl,rfl,rfl,rfl}:=h;rfl
def HS{a b:Re Mt}(h:zB a=zB b):a=b:=by
 injection h with h;exact(qV  λx y e=>Lg e).mp h
theorem vO{r:Nat}{st st':Re Nat}{m m':Re Mt}{sy sy':Re Bool}(h:iH r st (zB m) sy=iH r st' (zB m') sy'):st=st'/\m=m'/\sy=sy':=by
 unfold iH at h;simp  [PyData.tuple.injEq,List.cons.injEq,and_true,true_and]at h;exact{zw h.1,HS h.2.1,wm h.2.2}
def Ld{r:Nat}(hr:r=1\/r=2):(uI r).Nodup:=by let rfl||rfl:=hr<;>decide +kernel
def MC{r:Nat}(hs:s=1\/s=2)(hr:r=1\/r=2):(starts s r).Nodup:=by let rfl||rfl:=hs<;>let rfl||rfl:=hr<;>decide +kernel
def MA{r:Nat}(hr:r=1\/r=2):(zJ r).Nodup:=by let rfl||rfl:=hr<;>decide +kernel
def Po{r:Nat}(hs:s=1\/s=2)(hr:r=1\/r=2):(Yl s r).Pairwise (· ≠ ·):=by
 unfold Yl;rw[List.pairwise_flatMap];refine{λst _=>?_,(MC hs hr).imp λ{a b} VF x hx y hy e=>?_}
 ·rw[List.pairwise_flatMap];refine{λm _=>?_,(Ld hr).imp λ{a b} VF x hx y hy e=>?_}
  ·rw[vc];exact(MA hr).imp λ{a b} VF e=>VF (vO e).2.2
  ·let{sy,_,rfl}:=List.mem_map.mp hx;let{sy',_,rfl}:=List.mem_map.mp hy;exact VF (vO e).2.1
 ·let{m,_,hx}:=List.mem_flatMap.mp hx;let{sy,_,rfl}:=List.mem_map.mp hx;let{m',_,hy}:=List.mem_flatMap.mp hy;let{sy',_,rfl}:=List.mem_map.mp hy;exact VF (vO e).1
def On{r:Nat}(hs:s=1\/s=2)(hr:r=1\/r=2):∀n∈List.range 64,stN s r n∈starts s r/\syN r n∈zJ r:=by
 let rfl||rfl:=hs<;>let rfl||rfl:=hr<;>decide +kernel
def Oo{r:Nat}(hs:s=1\/s=2)(hr:r=1\/r=2):∀st∈starts s r,∀sy∈zJ r,∃n,n∈List.range 64/\stN s r n=st/\syN r n=sy:=by
 let rfl||rfl:=hs<;>let rfl||rfl:=hr<;>decide +kernel
def El{r:Nat}(hs:s=1\/s=2)(hr:r=1\/r=2)(d:D):d∈cS s r↔d∈Yl s r:=by
 constructor
 ·intro h;let{n,hn,h}:=List.mem_flatMap.mp h;let{m,hm,rfl}:=List.mem_map.mp h;let{h1,h2}:=On hs hr n hn;exact List.mem_flatMap.mpr {_,h1,List.mem_flatMap.mpr {m,hm,List.mem_map.mpr {_,h2,rfl}}}
 ·intro h;let{st,V5,h}:=List.mem_flatMap.mp h;let{m,hm,h}:=List.mem_flatMap.mp h;let{sy,hsy,rfl}:=List.mem_map.mp h;let{n,hn,e1,e2}:=Oo hs hr st V5 sy hsy;exact List.mem_flatMap.mpr {n,hn,List.mem_map.mpr {m,hm,by rw[e1,e2]}}
theorem pP{R:D->D->Prop}(irr:∀x,¬R x x)(asy:∀x y,R x y->¬R y x):∀{a b:Re D},a.Pairwise R->b.Pairwise R->(∀x,x∈a↔x∈b)->a=b
 | [],[],_,_,_=>rfl
 | [],y::b,_,_,h=>by have:=(h y).mpr da;cases this
 | x::a,[],_,_,h=>by have:=(h x).mp da;cases this
 | x::a,y::b,ha,hb,h=>by
  rw[List.pairwise_cons]at ha hb;have e:x=y:=by
   rcases List.mem_cons.mp ((h x).mp da)with e|h1
   ·exact e
   ·rcases List.mem_cons.mp ((h y).mpr da)with e|h2
    ·exact e.symm
    ·exact(asy _ _ (hb.1 x h1)<|ha.1 y h2).elim
  subst e;rw[pP irr asy ha.2 hb.2 λz=>?_];constructor
  ·intro hz;rcases List.mem_cons.mp ((h z).mp<|xO _ hz)with e|h1
   ·subst e;exact(irr _<|ha.1 _ hz).elim
   ·exact h1
  ·intro hz;rcases List.mem_cons.mp ((h z).mpr<|xO _ hz)with e|h1
   ·subst e;exact(irr _<|hb.1 _ hz).elim
   ·exact h1
def ltN(x y:D):Prop:=HT.lexLt (enc x) (enc y)=true
def JK{x y:D}(hx:fits (.f gX) x)(hy:fits (.f gX) y)(h:sr x y=true)(ne:x≠y):ltN x y:=by
 unfold ltN
 cases e:HT.lexLt (enc x) (enc y)with
 | true=>rfl
 | false =>
  exfalso;refine ne<|Fz hx hy h ?_;unfold sr;rw[e];rfl
theorem zX:∀(s:Sh) {x y:D},fits s x->fits s y->(PyData.eqv x y=true↔x=y)
 | .i,x,y,hx,hy=>by
  let{a,rfl}:=hx;let{b,rfl}:=hy;rw[show PyData.eqv (.int a) (.int b)=(a==b) by simp[PyData.eqv]];simp
 | .b,x,y,hx,hy=>by
  let{a,rfl}:=hx;let{b,rfl}:=hy;rw[show PyData.eqv (.bool a) (.bool b)=(a==b) by simp[PyData.eqv]];simp
 | .f g,x,y,hx,hy=>by
  let{xs,rfl,hx}:=hx;let{ys,rfl,hy}:=hy;rw[show PyData.eqv (.tuple xs) (.tuple ys)=PyData.eqvAll xs ys by simp[PyData.eqv]];have go:∀(xs ys:Re D) (k:Nat),(∀j x,xs[j]? = some x->fits (g<|k+j) x)->(∀j x,ys[j]? = some x->fits (g<|k+j) x)->(PyData.eqvAll xs ys=true↔xs=ys):=by
   intro xs
   induction xs with
   | nil=>intro ys k hx hy;cases ys<;>simp[PyData.eqvAll]
   | cons x xs ih =>
    intro ys k hx hy
    cases ys with
    | nil=>simp[PyData.eqvAll]
    | cons y ys =>
     have ih':=ih ys (k+1) (λj z hz=>by have:=hx ?qI z<|(hz);rwa [show k+?qI=k+1+j by omega]at this) (λj z hz=>by have:=hy ?qI z<|(hz);rwa [show k+?qI=k+1+j by omega]at this);have e:=zX (g<|k+0) (hx 0 x rfl)<|hy 0 y rfl;rw[show PyData.eqvAll (x::xs) (y::ys)=(PyData.eqv x y&&PyData.eqvAll xs ys) by simp[PyData.eqvAll],am,e,ih',List.cons.injEq]
  have:=go xs ys 0 (by simpa using hx) (by simpa using hy);rw[this];simp
def news(l:Re D):Re D:=(List.range l.length).filterMap λk=>if(decide (k=0) || !PyData.eqv (l.getD (k - 1) .none) (l.getD k .none))=true then some (l.getD k .none)else none
theorem mem_getD{l:Re D}{k:Nat}(h:k<l.length):l.getD k .none∈l:=by
 rw[fu,ax h];exact ib _
theorem xN{l:Re D}(hf:∀d∈l,fits (.f gX) d)(hs:l.Pairwise λx y=>sr x y=true):(news l).Pairwise ltN:=by
 unfold news;rw[List.pairwise_filterMap];refine tj (λ{j k} hj hk hjk x hx y hy=>?_) List.pairwise_lt_range;have hk:=List.mem_range.mp hk;split at hx
 ·split at hy
  ·rename_i c2
   cases hx;cases hy
   rw[si,aQ]at c2;let c2||c2:=c2
   ·omega
   have c2:l.getD (k - 1) .none≠l.getD k .none:=λe=>by
    rw[(zX _ (hf _<|mem_getD ?S)<|hf _<|mem_getD hk).mpr e]at c2
    cases c2
   have le:∀a b ,a<b->b<l.length->sr (l.getD a .none) (l.getD b .none)=true:=λa b VF hb=>by
    have:=List.pairwise_iff_getElem.mp hs a b ?S hb VF;rw[fu,fu,ax ?S,ax hb];exact this
   have l1:=le (k - 1) k ?S hk;have s1:=JK (hf _<|mem_getD ?S) (hf _<|mem_getD hk) l1 c2;by_cases h:j=k - 1
   ·rw[h];exact s1
   ·have l2:=le j (k - 1) ?S ?S;unfold ltN at s1 ⊢;unfold sr at l2;rw[nv]at l2
    cases e:HT.lexLt (enc<|l.getD j .none) (enc<|l.getD (k - 1) .none)with
    | true=>exact Fp e s1
    | false=>rw[C1 e l2];exact s1
  ·cases hy
 ·cases hx
def Fq{l:Re D}(hf:∀d∈l,fits (.f gX) d)(d:D):d∈news l↔d∈l:=by
 unfold news;rw[List.mem_filterMap];constructor
 ·rintro⟨k,hk,h⟩;split at h
  ·cases h;exact mem_getD<|List.mem_range.mp hk
  ·cases h
 ·intro h;have h:∃j,j<l.length/\l.getD j .none=d:=by
   let{j,hj,e}:=ou h;exact{j,hj,by rw[fu,ax hj];exact e}
  let{j,hj,e}:=h
  induction j with
  | zero=>exact{0,List.mem_range.mpr hj,by rw[ap ?E,e]}
  | succ j ih =>
   cases c:PyData.eqv (l.getD j .none) (l.getD ?qI .none)with
   | true =>
    have c':=(zX _ (hf _<|mem_getD ?S)<|hf _<|mem_getD hj).mp c;exact ih ?S (by rw[c',e])
   | false=>exact{j+1,List.mem_range.mpr hj,by rw[ap (by rw[show j+1 - 1=j from rfl,c];simp),e]}
def Al{r:Nat}(hs:s=1\/s=2)(hr:r=1\/r=2):news (dX<|cS s r)=dX (Yl s r):=by
 have fx:=λd hd=>(rG<|List.all_eq_true.mp (okX hs hr) d hd).1
 have fy:=λd hd=>(rG<|List.all_eq_true.mp (okY hs hr) d hd).1
 refine pP  (λx h=>?_) (λx y h1 h2=>?_) (xN (λd hd=>fx d<|(bM _).mem_iff.mp hd)<|gN _) ?_ λd=>?_
 ·unfold ltN at h;rw[Xx]at h;cases h
 ·unfold ltN at h1 h2;rw[Bo h1]at h2;cases h2
 ·have nd:=((bM<|Yl s r).pairwise_iff λ{x y} h=>h.symm).mpr<|Po hs hr;refine tj (λ{x y} hx hy h=>JK (fy x<|(bM _).mem_iff.mp hx) (fy y<|(bM _).mem_iff.mp hy) h.1 h.2)<|(gN<|Yl s r).and nd
 ·rw[Fq λd hd=>fx d<|(bM _).mem_iff.mp hd,(bM _).mem_iff,(bM _).mem_iff];exact El hs hr d
def EC{l:Re D}(h:l.all pS=true):jK gX [.list l]=some (dX l):=by
 exact ap<|La h
theorem zb{r:Nat}(hs:s=1\/s=2)(hr:r=1\/r=2):cq (iN s) (iN r)=.ret (.list<|dX<|Yl s r):=by
 have e:cq (iN s) (iN r)=cR (iN r) (Yl s r):=by
  let rfl||rfl:=hs<;>let rfl||rfl:=hr
  ·exact Hg
  ·exact Hf
  ·exact He
  ·exact Hd
 rw[e];unfold cR;rw[EC<|okY hs hr,e_,a_,a_]
def O2{r:Nat}(hs:s=1\/s=2)(hr:r=1\/r=2):(cS s r).length<=1728:=by
 let rfl||rfl:=hs<;>let rfl||rfl:=hr<;>decide +kernel
def Nx{r:Nat}(hs:s=1\/s=2)(hr:r=1\/r=2):(Yl s r).length=if r=1 then 2 else if s=1 then 216 else 432:=by
 let rfl||rfl:=hs<;>let rfl||rfl:=hr<;>decide +kernel
def FJ{l:Re D}{k:Nat}(h:k<l.length):aD (.list l) ?j5=some (l.getD k .none):=by
 refine(oN l k h).trans ?_;rw[fu,ax h];rfl
def Nu{l:Re D}(hl:l.all pS=true){x y:D}(hx:x∈l)(hy:y∈l):cI x y=some (!PyData.eqv x y):=by
 have a:=rG<|List.all_eq_true.mp hl x hx;have b:=rG<|List.all_eq_true.mp hl y hy;refine ap ?_;unfold uh;rw[Gc _ a.1,Gc _ b.1,be ?S];rfl
theorem yj{r:Nat}(hs:s=1\/s=2)(hr:r=1\/r=2):bK (iN s) (iN r)=.ret (.list (dX (Yl s r))):=by
 have e:bK (iN s) (iN r)=cu (iN s) (iN r) (.list ((uI r).map zB)) (cS s r):=by
  let rfl||rfl:=hs<;>let rfl||rfl:=hr
  ·exact NB
  ·exact NA
  ·exact Nz
  ·exact Ny
 rw[e];unfold cu;rw[EC (okX hs hr),e_,a_,a_];have hl:(dX (cS s r)).length<=1728:=by rw[(bM _).length_eq];exact O2 hs hr
 have j_:(dX (cS s r)).all pS=true:=by
  rw[su];intro d hd;exact List.all_eq_true.mp (okX hs hr) d ((bM _).mem_iff.mp hd)
 have nw:=Al hs hr;generalize hL:dX (cS s r)=L at hl j_ nw
 have cc:=dn  (g:=λk=>if(decide (k=0) || !PyData.eqv (L.getD (k - 1) .none) (L.getD k .none))=true then some (L.getD k .none)else none) (step:=λUh=>bd (bd (oM (bp Uh (.int 0))) λYb=>if Yb then .ret true else bd (bd (oM (gJ Uh (.int 1))) λSl=>oM (aD (PyData.list L) Sl)) λSK=>bd (oM (aD (PyData.list L) Uh)) λTp=>oM (cI SK Tp)) λUN=>if UN then bd (oM (aD (PyData.list L) Uh)) λS7=>.ret (some S7)else .ret none) (List.range L.length) (λk hk=>by
  have hk:=List.mem_range.mp hk;have e0:bp ?j5 (.int 0)=some (decide (k=0)):=Wz k 0;rw[e0,e_,a_];by_cases h:k=0
  ·subst h;rw[ap ?C,a_,ap rfl,FJ hk,e_,a_,ap ?E]
  ·rw[ba (by simp[h]),Jf k ?S,e_,a_,FJ ?S,e_,a_,FJ hk,e_,a_,Nu j_ (mem_getD ?S) (mem_getD hk),e_,a_,bi h]
   cases PyData.eqv (L.getD (k - 1) .none) (L.getD k .none)
   ·rw[ap ?C,a_,ap ?C]
   ·rw[ba ?C,ba ?C])
 rw[L4.Uv,e_,a_,fV _ ?S,e_,a_,cc,a_];have e2:(List.range L.length).filterMap (λk=>if(decide (k=0) || !PyData.eqv (L.getD (k - 1) .none) (L.getD k .none))=true then some (L.getD k .none)else none)=dX (Yl s r):=nw;rw[e2,cG (by rw[(bM _).length_eq,Nx hs hr];split<;>(try split)<;>omega),a_,a_]
def mtB(n:Nat)(m:Mt):Bool:=decide (m.1<=m.2.1)&&decide (m.2.1<n)&&decide (m.2.2.1<n)&&decide (m.2.2.2<n)&&decide (m.2.2≠(m.1,m.2.1))&&decide (m.2.2≠(m.2.1,m.1))
def oA(m m':Mt):Bool:=decide (m.1<m'.1)||decide (m.1=m'.1)&&decide (m.2.1<m'.2.1)
def msB(n:Nat):Re Mt->Bool
 | []=>true
 | m::l=>mtB n m&&l.all (oA m)&&msB n l
def JJ{n:Nat}:∀{l:Re Mt},msB n l=true->(∀m∈l,T4 n m)/\l.Pairwise λm m'=>plt (m.1,m.2.1) (m'.1,m'.2.1)
 | [],_=>{λ_ h=>(nomatch h),.nil}
 | m::l,h=>by
  rw[msB,am,am,su]at h;let{h1,h2}:=JJ h.2;refine{λx hx=>?_,.cons (λx hx=>?_) h2}
  ·let rfl||hx:=List.mem_cons.mp hx
   ·have:=h.1.1;simp  [mtB,am,aQ]at this;exact{this.1.1.1.1.1,this.1.1.1.1.2,this.1.1.1.2,this.1.1.2,this.1.2,this.2}
   ·exact h1 x hx
  ·have:=h.1.2 x hx;simp  [oA,si,am,aQ]at this;exact this
def vx(s r:Nat):Re Rl:=(starts s r).flatMap λst=>(uI r).flatMap λm=>(zJ r).map λsy=>{r,st,m,sy}
def rlB(s:Nat)(r:Rl):Bool:=decide (1<=r.n)&&decide (r.n<=2)&&r.st.all (λx=>decide<|x<r.n)&&decide (r.sy.length=r.n)&&msB r.n r.ms&&decide (r.ms.length<=30)&&decide (r.st.length=s)
def Pp(s r:Nat):Yl s r=(vx s r).map Rl.d:=by
 unfold Yl vx;simp  [List.map_flatMap,ic];rfl
def Og{r:Nat}(hs:s=1\/s=2)(hr:r=1\/r=2):(vx s r).all (rlB s)=true:=by
 let rfl||rfl:=hs<;>let rfl||rfl:=hr<;>decide +kernel
structure Rg(s:Nat)(r:Rl):Prop where
 w:Wf r
 n2:r.n<=2
 Xz:r.ms.length<=30
 st:r.st.length=s
def MR(h:rlB s r=true):Rg s r:=by
 unfold rlB at h;simp  [am,aQ,su]at h;let{{{{{{h1,h2},h3},h4},h5},h6},h7}:=h;let{a,b}:=JJ h5;exact{{h1,h3,h4,a,b},h2,h6,h7}
def CB{r:Nat}(hs:s=1\/s=2)(hr:r=1\/r=2):∃Rs:Re Rl,dX (Yl s r)=Rs.map Rl.d/\(∀x∈Rs,Rg s x)/\Rs.length<=432:=by
 let{Rs,p,e}:=HW  (by rw[Pp];exact bM<|(vx s r).map Rl.d:(dX<|Yl s r).Perm ((vx s r).map Rl.d));refine{Rs,e.symm,λx hx=>MR<|List.all_eq_true.mp (Og hs hr) x<|p.mem_iff.mp hx,?_};have h1:(dX<|Yl s r).length=Rs.length:=by rw[<-e,u_]
 rw[<-h1,(bM _).length_eq,Nx hs hr];split<;>(try split)<;>lia
theorem Rg.gv(s1:1<=s)(s2:s<=2)(G:Rg s r)(len:cs.length=s)(pos:1<=cs.sum)(Y3:cs.sum<=5):Gv r cs:={G.w,G.n2,G.Xz,G.st▸s1,by have:=G.st;lia,len.trans G.st.symm,pos,Y3}
open Classical in
noncomputable def gM(r:Rl)(q:Qs)(cs:Re Nat):Bool:=decide<|∃c,DN r q cs c
theorem sV(r:Rl)(q:Qs)(cs:Re Nat):gM r q cs=true↔∃c,DN r q cs c:=by
 unfold gM;simp
noncomputable def OfR(r:Rl)(q:Qs)(f:SL ?L)(K m:M D):Prop:=match f with
 | none=>m=K
 | some cs=>∃ks L v,m=.ret ?qO/\Pap r q cs ks L v
theorem yP{k:Nat}(k1:1<=k)(k4:k<=2)(h3:most<=5)(h:cs∈allB k most):cs.length=k/\1<=cs.sum/\cs.sum<=most:=by
 let{x,hx,hc}:=List.mem_flatMap.mp h;have hx:=List.mem_range.mp hx;have:=(oK k ?A x ?A k1).1 cs hc;lia
section
variable (s1:1<=s) (s2:s<=2) (G:Rg s r) {q:Qs} (hq:q.ok s 1)
include s1 s2 G hq
def JG(kn3:D×D×D×Unit->M D):∀bs:Re ?L,(∀cs∈bs,Gv r cs)->OfR r q (bs.find?<|gM r q) (kn3 (r.d,q.d,.int 1000,())) (cD (λ(Ts:D×D×D×Unit) d12 kn=>iM kn3 Ts.1 Ts.2.1 Ts.2.2.1 d12 kn) (bs.map cT) (r.d,q.d,.int 1000,()) λTs=>kQ kn3 Ts.1 Ts.2.1 Ts.2.2.1)
 | [],_=>rfl
 | cs::bs,h=>by
  have ih:=JG kn3 bs λx hx=>h x ?qA
  have V:=h cs ?E;let{F,C}:=V.reach;have hl:=C.len;rw[aw,cD];unfold iM;rw[ir];let{h1,e}||{h1,e}:=Gf V C (G.st.symm▸hq) 1000
  ·lia
  ·have e':n9 r q cs (ju r.d q.d (cT cs)<|.int 1000):=e;let{h2,e}||{h2,ks,L,v,e,P}:=e'
   ·rw[show gM r q cs=false from Bool.eq_false_iff.mpr λz=>by let{c,hc}:=(sV r q cs).mp z;exact h2 c hc,e];exact ih
   ·rw[(sV r q cs).mpr h2,e,a_,show fM ?qO .none=some true from rfl,e_];exact{ks,L,v,rfl,P}
def MM(h3:h<5)(kn:D×D×D×Unit->M D):gj r.d q.d (.int 1000) (iN<|h+1) kn=cD (λ(Ts:D×D×D×Unit) d12 kn'=>iM kn Ts.1 Ts.2.1 Ts.2.2.1 d12 kn') ((mW s<|h+1).map cT) (r.d,q.d,.int 1000,()) (λTs=>kQ kn Ts.1 Ts.2.1 Ts.2.2.1):=by
 unfold gj;rw[bx,kB,e_,a_,yc,u_,e_,a_,G.st,LZ s1 s2 ?A ?A,a_,oV,e_,a_,Nf]
def E9:∀hs:Re Nat,(∀h∈hs,h<5)->OfR r q ((hs.flatMap λh=>mW s<|h+1).find?<|gM r q) (.ret .none) (cD (λ(Rr:D×D×D×Unit) Vv kn=>gj Rr.1 Rr.2.1 Rr.2.2.1 Vv kn) (hs.map λh=>iN<|h+1) (r.d,q.d,.int 1000,()) λRr=>kR Rr.1 Rr.2.1 Rr.2.2.1)
 | [],_=>rfl
 | h::hs,hh=>by
  have ih:=E9 hs λx hx=>hh x ?qA
  have h3:=hh h ?E;rw[aw,cD,dD,List.find?_append];rw[MM s1 s2 G hq h3];have:=JG s1 s2 G hq (λs'=>cD (λ(Rr) Vv kn=>gj Rr.1 Rr.2.1 Rr.2.2.1 Vv kn) (hs.map λh=>iN<|h+1) s' λRr=>kR Rr.1 Rr.2.1 Rr.2.2.1) (mW s<|h+1) λcs hc=>by
   have:=(oK _ ?A h h3 s1).1 cs hc;exact G.gv s1 s2 this.1 ?A ?A
  cases hf:(mW s<|h+1).find? (gM r q)with
  | none=>rw[hf]at this;unfold OfR at this;rw[this];exact ih
  | some cs=>rw[hf]at this;exact this
def MQ(h1:1<=most)(h3:most<=5):(bd (oM<|bE (iN most)<|.int 1) λx2=>oM<|jL [.int 1,x2])=.ret ((List.range most).map λh=>iN<|h+1):=by
 rcases(by lia:most=1\/most=2\/most=3\/most=4\/most=5)with rfl|rfl|rfl|rfl|rfl<;>kernel_rfl
def Ge(h1:1<=most)(h3:most<=5):OfR r q ((allB s most).find?<|gM r q) (.ret .none) (oI r.d q.d (iN most)<|.int 1000):=by
 unfold oI;rw[MQ s1 s2 G hq h1 h3,Nf];exact E9 s1 s2 G hq (List.range most) λh hh=>by have:=List.mem_range.mp hh;lia
def BQ:∀bs:Re ?L,(∀cs∈bs,Gv r cs)->cD (λ(s8:D×D×Unit) d9 kn=>iq s8.1 s8.2.1 d9 kn) (bs.map cT) (r.d,q.d,()) (λs8=>kW s8.1 s8.2.1)=.ret (.bool (bs.find?<|gM r q).isSome)
 | [],_=>rfl
 | cs::bs,h=>by
  have ih:=BQ bs λx hx=>h x ?qA
  have V:=h cs ?E;let{F,C}:=V.reach;let{L,e,m}:=zE V (G.st.symm▸hq) C;have hb:(!L.isEmpty)=gM r q cs:=by
   rw[ku,sV];constructor
   ·intro h
    cases L with
    | nil=>cases h
    | cons x L=>exact{x,(m x).mp ?E}
   ·rintro⟨x,hx⟩
    cases L with
    | nil=>have:=(m x).mpr hx;cases this
    | cons y L=>rfl
  rw[aw,cD];unfold iq;rw[e,a_,zl,hb,e_,ir]
  cases gM r q cs with
  | true=>rfl
  | false=>exact ih
def IB(h1:1<=most)(h3:most<=5):iQ r.d q.d (iN most)=.ret (.bool ((allB s most).find?<|gM r q).isSome):=by
 unfold iQ;rw[bx,kB,e_,a_,yc,u_,e_,a_,G.st,C7 s1 s2 h1 h3,a_,oV,e_,Nf];exact BQ s1 s2 G hq _ λcs hc=>by let{a,b,c}:=yP s1 s2 h3 hc;exact G.gv s1 s2 a b ?A
end
inductive F2(R:Rl->D->Prop):Re Rl->Re D->Prop
 | nil:F2 R [] []
 | cons {r:Rl} {d:D} {rs:Re Rl} {ds:Re D}:R r d->F2 R rs ds->F2 R (r::rs) (d::ds)
theorem F2.len{R:Rl->D->Prop}{rs:Re Rl}{ds:Re D}(h:F2 R rs ds):ds.length=rs.length:=by
 induction h with
 | nil=>rfl
 | cons _ _ ih=>simp[ih]
def sJ(q:Qs)(most:Nat)(r:Rl)(d:D):Prop:=∃cs ks L v,d=pap cs ks L v/\Gv r cs/\Pap r q cs ks L v/\cs.sum<=most
noncomputable def gf(s:Nat)(q:Qs)(most:Nat)(r:Rl):Bool:=((allB s most).find?<|gM r q).isSome
section
variable (s1:1<=s) (s2:s<=2) {q:Qs} (hq:q.ok s 1) (h1:1<=most) (h3:most<=5)
include s1 s2 hq h1 h3
def qX(s:Nat)(q:Qs)(most:Nat)(Rs:Re Rl)(acc:Re D)(m:M D):Prop :=
 (∃r0,Rs.find? (λr=>!gf s q most r)=some r0/\m=.ret (.tuple [.str "rule",r0.d]))\/(Rs.find? (λr=>!gf s q most r)=none/\∃ps,F2 (sJ q most) Rs ps/\m=.ret (.tuple [.str "none",.tuple (acc++ps)]))
def Bh:∀(Rs:Re Rl) (acc:Re D),(∀r∈Rs,Rg s r)->acc.length+Rs.length<=1000->qX s q most Rs acc (cD (λ(s9:D×D×Re D×Unit) Uh kn=>jO s9.1 s9.2.1 s9.2.2.1 Uh kn) (Rs.map Rl.d) (q.d,iN most,acc,()) λs9=>oF s9.1 s9.2.1 s9.2.2.1)
 | [],acc,_,_=>.inr {rfl,[],.nil,by rw[je];exact rfl}
 | r::Rs,acc,h,hl=>by
  have G:=h r ?E;have o:=Ge s1 s2 G hq h1 h3;have ea:gf s q most r=((allB s most).find?<|gM r q).isSome:=rfl;unfold qX;rw[aw,cD,ir];unfold jO
  cases hf:(allB s most).find? (gM r q)with
  | none =>
   rw[hf]at o ea;unfold OfR at o;rw[o,a_,show xE (PyData.none) .none=some true from rfl,e_,ea];exact .inl {r,rfl,rfl}
  | some cs =>
   rw[hf]at o ea;let{ks,L,v,o,P}:=o;let{a,b,c}:=yP s1 s2 h3<|ur hf;rw[o,a_,show xE ?qO .none=some false from rfl,e_,mY _ _ ?A,e_,ea];rcases Bh Rs (acc++[pap cs ks L v]) (λx hx=>h x ?qA) (by simp at hl ⊢;lia)with ⟨r0,e,m⟩|⟨e,ps,f,m⟩
   ·exact .inl {r0,e,m}
   ·exact .inr {e,pap cs ks L v::ps,.cons {cs,ks,L,v,rfl,G.gv s1 s2 a b ?A,P,c} f,m.trans ?E}
theorem rH{t:D}:∀(Rs:Re Rl) (r0:Rl),(∀r∈Rs,Rg s r)->Rs.find? (λr=>!gf s q most r)=some r0->(∃x,jW [r0.d]=some x/\bp x x=some true) ->
  cD (λ(Rw:D×D×D×Unit) W5 kn=>gH Rw.1 Rw.2.1 Rw.2.2.1 W5 kn) (Rs.map Rl.d) (q.d,.tuple [t,r0.d],iN most,()) (λRw=>j4 Rw.1 Rw.2.1 Rw.2.2.1)=.ret (.bool true)
 | [],_,_,h,_=>by cases h
 | r::Rs,r0,h,hf,hx=>by
  rw[aw,cD];unfold gH;rw[IB s1 s2 (h r ?E) hq h1 h3,a_,vy,e_,a_,a_];rw[ir]at hf;have ea:gf s q most r=((allB s most).find?<|gM r q).isSome:=rfl;rw[ea]at hf
  cases hb:((allB s most).find?<|gM r q).isSome with
  | false =>
   rw[hb]at hf
   cases hf
   let{x,e1,e2}:=hx;rw[ap ?C,bx,kB,e_,a_,e1,e_,a_,a_,e2,e_,a_,a_]
  | true =>
   rw[hb]at hf;exact rH Rs r0 (λx hx=>h x ?qA) hf hx
theorem rJ:∀(Rs:Re Rl) (ps:Re D),F2 (sJ q most) Rs ps->(∀r∈Rs,Rg s r) ->
  cD (λ(Xq:D×D×Unit) d39 kn=>gG Xq.1 Xq.2.1 d39 kn) (mh (Rs.map Rl.d) ps) (q.d,iN most,()) (λXq=>j3 Xq.1 Xq.2.1)=.ret (.bool true)
 | _,_,.nil,_=>rfl
 | r::Rs,d::ps,.cons ⟨cs,ks,L,v,e,V,P,c⟩ f,h=>by
  subst e;rw[aw,show mh (r.d::Rs.map Rl.d) (pap cs ks L v::ps)=.tuple [r.d,pap cs ks L v]::mh (Rs.map Rl.d) ps from rfl,cD];unfold gG;have hq':=(h r ?E).st.symm▸hq;have sl:=V.len;have s4:=V.s4;have ss:=nh cs (λx hx=>di (mK hx) ?A) ?A;rw[show(yG<|.tuple [r.d,pap cs ks L v])=λg=>g r.d ?qO from id rfl];dsimp only;rw[Dm V hq' P,a_,show fM (PyData.none) .none=some false from rfl,e_,a_,bx,jJ,e_,a_,ss,e_,a_,zQ,e_,bi ?A];exact rJ Rs ps f λx hx=>h x ?qA
end
def Fj(l:Re Nat):(PyData.tuple ?jM).depth<=2:=cy  λd hd=>by let{i,_,rfl}:=List.mem_map.mp hd;simp[PyData.depth]
def HR(l:Re Nat):L4.sz (.tuple ?jM)=l.length+1:=by
 show 1+VR ?jM=_;rw[m9 (B:=1) λi=>rfl];lia
def Om:L4.Rh "not" = true:=by decide +kernel
def J4:L4.Rh "least" = true:=by decide +kernel
def Mn:L4.Rh "more" = true:=by decide +kernel
def Mm:L4.Rh "rest" = true:=by decide +kernel
def bz:Nat->Nat
 | 0=>20
 | i+1=>2*bz i+5
def OQ{k:Nat}(hk:k<=4):∀(i:Nat) (q:Qs),q.ok k i->L4.Sm q.d/\L4.sz q.d<=bz i/\q.d.depth<=i+4:=by
 have sn:∀{s:Re Nat},g_ k s->L4.Sm (.tuple ?jN)/\L4.sz (.tuple ?jN)<=5/\(PyData.tuple ?jN).depth<=2:=λh=>{AH λx hx=>by have:=h.2 x hx;lia,by rw[HR];have:=h.1;lia,Fj _}
 have i1:∀n ,n<=100->L4.Sm (iN n):=λn h=>by simp  [L4.Sm];omega
 have b0:∀i,20<=bz i:=λi=>by
  induction i with
  | zero=>decide
  | succ i ih=>show 20<=2*bz i+5;lia
 intro i q
 induction q generalizing i with
 | least s n =>
  intro h;have h:g_ k s/\1<=n/\n<=3:=by cases i<;>exact h
  let{a1,a2,a3}:=sn h.1;have:=b0 i;refine{({J4,by simpa only[L4.Sm]using a1,by simpa only[L4.Sm]using i1 n ?A,trivial}),by simp  [Qs.d,L4.sz,L4.VR]at a2 ⊢;lia,cy  λd hd=>?_};simp  [xt,xM,xy]at hd;let rfl||rfl||rfl:=hd
  ·simp[PyData.depth]
  ·lia
  ·simp[PyData.depth]
 | more a b =>
  intro h;have h:=by cases i<;>exact h
  let{a1,a2,a3}:=sn h.1;let{c1,c2,c3}:=sn h.2.1;have:=b0 i;refine{({Mn,by simpa only[L4.Sm]using a1,by simpa only[L4.Sm]using c1,trivial}),by simp  [Qs.d,L4.sz,L4.VR]at a2 c2 ⊢;lia,cy  λd hd=>?_};simp  [xt,xM,xy]at hd;let rfl||rfl||rfl:=hd
  ·simp[PyData.depth]
  ·lia
  ·lia
 | rest s m r =>
  intro h;have h:g_ k s/\2<=m/\m<=3/\r<m:=by cases i<;>exact h
  let{a1,a2,a3}:=sn h.1;have:=b0 i;refine{({Mm,by simpa only[L4.Sm]using a1,by simpa only[L4.Sm]using i1 m ?A,by simpa only[L4.Sm]using i1 r ?A,trivial}),by simp  [Qs.d,L4.sz,L4.VR]at a2 ⊢;lia,cy  λd hd=>?_};simp  [xt,xM,xy]at hd;let rfl||rfl||rfl||rfl:=hd
  ·simp[PyData.depth]
  ·lia
  ·simp[PyData.depth]
  ·simp[PyData.depth]
 | neg q ih =>
  intro h
  cases i with
  | zero=>exact h.elim
  | succ i =>
   let{a1,a2,a3}:=ih i h;refine{({Om,a1,trivial}),by simp  [Qs.d,L4.sz,L4.VR,bz]at a2 ⊢;lia,di (cy (n:=i+4) λd hd=>?_) ?A};simp  [xt,xM,xy]at hd;let rfl||rfl:=hd
   ·simp[PyData.depth]
   ·lia
def Kq(r:Rl):r.d.depth<=20:=by
 refine cy  λd hd=>?_
 simp  [xt,List.mem_nil_iff,xy]at hd;let rfl||rfl||rfl||rfl:=hd
 ·simp[PyData.depth]
 ·exact di (cy (n:=1) λd hd=>by let{i,_,rfl}:=List.mem_map.mp hd;simp[PyData.depth]) ?A
 ·exact di (cy (n:=5) λd hd=>by let{i,_,rfl}:=List.mem_map.mp hd;simp[PyData.depth,PyData.depthAll]) ?A
 ·exact di (cy (n:=1) λd hd=>by let{i,_,rfl}:=List.mem_map.mp hd;simp[PyData.depth]) ?A
def Kx{k:Nat}(hk:k<=4){q:Qs}(hq:q.ok k 1):∃x,jW [q.d]=some x/\cI x x=some false:=by
 let{a1,a2,a3}:=OQ hk 1 q hq;refine{_,Jp a1 ?_ ?_,Lc a1}
 ·simp  [bz]at a2;lia
 ·lia
def Ks(s2:s<=2)(G:Rg s r):∃x,jW [r.d]=some x/\bp x x=some true:=by
 have a1:=MP G.w (by have:=G.n2;lia);refine{_,Jp a1 ?_ ?_,LK a1}
 ·have h1:=MO r;have h3:=G.w.sy;have:=G.n2;have:=G.Xz;have:=G.st;lia
 ·have:=Kq r;lia
section
variable {r:Nat} (hs:s=1\/s=2) (hr:r=1\/r=2) {q:Qs} (hq:q.ok s 1) (h1:1<=most) (h3:most<=5) {Rs:Re Rl} (eR:dX (Yl s r)=Rs.map Rl.d) (hR:∀x∈Rs,Rg s x) (lR:Rs.length<=432)
include hs hq h1 h3 hR lR
def Ez{m:M D}(h:qX s q most Rs [] m):∃told,m=.ret told/\dS q.d (.list<|Rs.map Rl.d) told (iN most)=.ret (.bool true):=by
 have s1:1<=s:=by lia
 have s2:s<=2:=by lia
 have two:cI (.int 2) (.int 2)=some false:=rfl;let{r0,hf,e}||{hf,ps,f,e}:=h
 ·refine{_,e,?_};unfold dS;rw[show kC "tuple" (.tuple [.str "rule",r0.d])=some true from rfl,e_,a_,a_,ba ?C,show dm [.tuple [.str "rule",r0.d]]=some (.int 2)from rfl,e_,a_,two,e_,a_,ba ?C,bx,jJ,e_,a_,show bc (.str "rule") (.tuple [.str "rule",.str "none"])=some false from by decide +kernel,e_,a_,a_,show bp (.str "rule") (.str "rule")=some true from by decide +kernel,e_,oV,e_,Nf];exact rH s1 s2 hq h1 h3 Rs r0 hR hf<|Ks s2<|hR r0<|ur hf
 ·refine{_,e,?_};have fl:=f.len;unfold dS;rw[List.nil_append,show kC "tuple" (.tuple [.str "none",.tuple ps])=some true from rfl,e_,a_,a_,ba ?C,show dm [.tuple [.str "none",.tuple ps]]=some (.int 2)from rfl,e_,a_,two,e_,a_,ba ?C,bx,jJ,e_,a_,show bc (.str "none") (.tuple [.str "rule",.str "none"])=some false from by decide +kernel,e_,a_,ba ?C,a_,show bp (.str "none") (.str "rule")=some false from by decide +kernel,e_,a_,ba ?C,bx,kB,e_,a_,show kC "tuple" (.tuple ps)=some true from rfl,e_,a_,a_,ba ?C,a_,yc,fl,e_,a_,L4.Uv,e_,a_,(L4.neI _ _),e_,a_,ba ?E,a_];rw[show JV [.list (Rs.map Rl.d),.tuple ps]=some (mh (Rs.map Rl.d) ps)from rfl,e_,Nf];exact rJ s1 s2 hq h1 h3 Rs ps f hR
include hr eR
def HP:qX s q most Rs [] (js q.d (iN s) (iN r)<|iN most):=by
 unfold js;rw[zb hs hr,a_,oV,e_,Nf,eR];exact Bh ?A ?A hq h1 h3 Rs [] hR ?jd
end
def JN{r:Nat}{f:Re D}(hf:Fd T f)(hT:T<=800000)(hs:s=1\/s=2)(hr:r=1\/r=2)(h1:1<=most)(h3:most<=5)(RY:D×Unit->M D)(S:D):jt RY S f (iN r) (iN s) (iN most)=RY (S,()):=by
 let{q,f',e,hq,_}:=xu hf ?A (show 1<=s by lia) ?A;let{Rs,eR,hR,lR}:=CB hs hr;let{x,hx,hx2}:=Kx  ?A hq;let{t,e1,e2}:=Ez hs hq h1 h3 hR lR<|HP hs hr hq h1 h3 eR hR lR;unfold jt;rw[e,a_];rw[hx,e_,a_,yj hs hr,a_,e1,a_,eR,e2,a_,vy,e_,a_,a_,ba ?C,a_,hx2,e_,a_,ba ?C]
def Py : @oG = @jt:=rfl
def mP(J:Re D->D->D->D->M D)(d:D)(f:Re D)(x5 R9:D):M D :=
 bd (aF f<|.int 5) λZ1=>bd (oM<|bE (.int 1) Z1.1) λSK=>bd (oM<|bp d<|.int 2) λZb=>if Zb then bd (aF Z1.2<|.int 3) λZ0=>bd (oM<|bp Z0.1<|.int 0) λZa=>if Za then
  dg (.tuple [(.int 2),(.int 2),(.int 2)]) λy16 y17 y18=>J Z0.2 y16 y17 y18
  else
  J Z0.2 x5 R9 SK else J Z1.2 x5 R9 SK
def Jb{J:Re D->D->D->D->M D}{k r:Nat}{f:Re D}{R:M D}(hf:Fd T f)(hT:T<=800000)(hs:s=1\/s=2)(hr:r=1\/r=2)
  (hJ:∀f' s r most,Fd (T+2) f'->(s=1\/s=2)->(r=1\/r=2)->1<=most->most<=5->J f' (iN r) (iN s) (iN most)=R):mP J ?j5 f (iN r) (iN s)=R:=by
 let{a,f1,e1,ha,Xc}:=e7 (m:=5) hf ?A ?A ?A;let{b,f2,e2,hb,Xb}:=e7 (m:=3) Xc ?A ?A ?A;have e1:aF f (.int 5)=.ret (iN a,f1):=e1;have e2:aF f1 (.int 3)=.ret (iN b,f2):=e2;unfold mP;rw[e1,a_];rw[show bE (.int 1) (iN a)=some (iN<|1+a)from DL 1 a,e_,a_,show bp ?j5 (.int 2)=_ from Wz k 2,e_,a_];by_cases h:k=2
 ·rw[be h,e2,a_];rw[show bp (iN b) (.int 0)=_ from Wz b 0,e_];by_cases h2:b=0
  ·rw[be h2];exact hJ f2 2 2 2 Xb (.inr rfl) (.inr rfl) ?A ?A
  ·rw[bi h2];exact hJ f2 s r (1+a) Xb hs hr ?A ?A
 ·rw[bi h];exact hJ f1 s r (1+a) (Xc.le ?A) hs hr ?A ?A
def Kg(b:Nat)(K:D->M D):(bd (oM<|bp (iN b)<|.int 0) λb8=>bd (oM<|qr [(.bool b8)]) λx9=>bd (oM<|bE (.int 1) x9) K)=K (iN<|1+if b=0 then 1 else 0):=by
 rw[show bp (iN b) (.int 0)=_ from Wz b 0,e_,a_];by_cases h:b=0
 ·rw[be h,ap h,show qr [.bool true]=some (iN 1)from rfl,e_,a_,show bE (.int 1) (iN 1)=some (iN<|1+1)from DL 1 1,e_,a_]
 ·rw[bi h,ba h,show qr [.bool false]=some (iN 0)from rfl,e_,a_,show bE (.int 1) (iN 0)=some (iN<|1+0)from DL 1 0,e_,a_]
def Ll(ns:Re Int)(hn:ns.length<=63)(k:Nat)(hk:k<3)(RY:D×Unit->M D)(kk:RY (.list ?jf,())=.ret (.bool true)):tE (.list ?jf) ?j5 RY=.ret (.bool true):=by
 let{f0,e0,hf0}:=Iu ns k ?A hn;let{a,f1,e1,ha,Xc}:=e7 (m:=3) hf0 ?A ?A ?A;have e1:aF f0 (.int 3)=.ret (iN a,f1):=e1;unfold tE;rw[e0,a_,e1];have two:∀uZ K2:D->M D,(bd (oM<|aD (PyData.list [(.int 1),(.int 2),(.int 2)])<|iN a) λx5=>bd (oM<|bp x5<|.int 1) λb6=>if b6 then uZ x5 else K2 x5)=if a=0 then uZ (iN 1)else K2 (iN 2):=λK1 K2=>by
  rcases(by lia:a=0\/a=1\/a=2)with rfl|rfl|rfl<;>kernel_rfl
 refine(two _ _).trans ?_;split
 ·let{b,f2,e2,hb,Xb}:=e7 (m:=2) Xc ?A ?A ?A;have e2:aF f1 (.int 2)=.ret (iN b,f2):=e2;rw[e2,a_];refine(Kg b _).trans ?_;exact Jb  Xb ?A (by split<;>lia) (.inl rfl) λf' s r most hf' hs hr h1 h3=>(JN hf' ?A hs hr h1 h3 RY _).trans kk
 ·exact Jb  Xc ?A (.inl rfl) (.inr rfl) λf' s r most hf' hs hr h1 h3=>(JN hf' ?A hs hr h1 h3 RY _).trans kk
theorem main:∀ns:Re Int,ns.length<=63->lA (.list ?jf)=.ret (.bool true):=by
 intro ns hn;unfold lA;rw[show bO [.int 3]=some ((List.range 3).map iN)from fV 3 ?A,e_];refine Iq (P:=λi s=>s=(PyData.list ?jf,())) _ 0 _ _ ?_ rfl ?_
 ·rintro j s d hd _ hj rfl kn Yj;let{k,hk,rfl}:=List.mem_map.mp hd;exact Ll ns hn k (List.mem_range.mp hk) kn<|Yj _ rfl
 ·rintro s rfl;rfl
end ZM
namespace PySem.W.Fast
def tw7495661426935448466:=()
def tw3970873600086749391:=()
def tw9532657129180258728:=()
def tw682448339617367063:=()
def tw4730122048778433704:=()
def tw5697984132189839536:=()
def tw5349771774960411592:=()
def tw832864912695330622:=()
def tw14646766849500483713:=()
def tw11927393298784080568:=()
def tw2258712283942571143:=()
def tw2094946872565981625:=()
def tw12743919204569832056:=()
def tw9390246970156456225:=()
def tw2793573246230771297:=()
def tw15510629566133759454:=()
def tw9434276636769758321:=()
def tw17169013481150592424:=()
def tw17778275060346256446:=()
def tw7201152350834051773:=()
def tw7720362580625774878:=()
def tw10648282142584855046:=()
def tw10192251774270484940:=()
def tw11441923021783345346:=()
def tw1633537807121730348:=()
def tw14564124084668466514:=()
def tw10194109636598331774:=()
def tw6163887177617810918:=()
def tw2137663821014143541:=()
def tw12322133039966814378:=()
def tw6773849453052813870:=()
def tw13478459446058292178:=()
def tw10645939353228559318:=()
def tw5751665772178707973:=()
def tw4221697302153344490:=()
def tw15551189374971249253:=()
def tw6863644688085881826:=()
def tw17621492616084316417:=()
def tw825149505155317543:=()
def tw15017040555693498967:=()
def tw7839784109621303335:=()
def tw11503523584616121006:=()
def tw2168604842773521415:=()
def tw8255161139563959688:=()
def tw8400261689702631585:=()
def tw2457554966990777808:=()
def tw2474840080968817281:=()
def tw6842337520390742190:=()
def tw3862260028235914392:=()
def tw1603537367066288607:=()
def tw6351305296046740244:=()
def tw12449443924136484167:=()
def tw5959340282159320560:=()
def tw4558949648317442071:=()
def tw3056203844487414790:=()
def tw14652852161921686157:=()
def tw6046613126434083065:=()
def tw6247183594235770249:=()
def tw12171099724681498032:=()
def tw8553712270852987280:=()
def tw10235422409563147610:=()
def tw3159624881992951390:=()
def tw2588101081003558266:=()
def tw18193913840700240066:=()
def tw343451930633365816:=()
def tw5844290992238075997:=()
def tw10287850047164558472:=()
def tw11112123716644446449:=()
def tw9593269307803771637:=()
def tw17408986316003389617:=()
def tw7821414300114331310:=()
def tw1759846928082025918:=()
def tw14128171625321185310:=()
def tw7461245338245320088:=()
def tw6374912001608654287:=()
def tw2513865339576915714:=()
def tw4007256782873009245:=()
def tw5430647635396792967:=()
def tw10449233832905127649:=()
def tw3193506115909902964:=()
def tw12305399623703733121:=()
def tw409144641658825019:=()
def tw4298226863427078744:=()
def tw6454268654913152140:=()
def tw2867475811928211382:=()
def tw6307724351993084060:=()
def tw7990307317429876196:=()
def tw2797805818212299618:=()
def tw15916842274816321356:=()
def tw11854743869196366959:=()
def tw16434591101441706174:=()
def tw13313733420207175036:=()
def tw16476780633379342774:=()
def tw10959018566249736166:=()
def tw13367806733915200176:=()
def tw10700215084739823426:=()
def tw6885462910403269762:=()
def tw7454261404127179248:=()
def tw13806656941588775132:=()
def tw7381543687944442926:=()
def tw4151736067741625999:=()
def tw5764016835138403453:=()
def tw393810123600620093:=()
def tw1581431130060386084:=()
def tw9621389382212203871:=()
def tw8154976780558705599:=()
def tw15325198056530125414:=()
def tw12310630740702169585:=()
def tw16482717949271958563:=()
def tw1284999575738565514:=()
def tw7549364545558909530:=()
def tw6013434431882452274:=()
def tw6499131452035596988:=()
def tw5708013159956795320:=()
def tw382926723101322366:=()
def tw15144745892486902475:=()
def tw6322055398120161772:=()
def tw9471153736791234167:=()
def tw17645687893297071633:=()
def tw6062587102952809812:=()
def tw6989519347993410892:=()
def tw15257112808425159803:=()
def tw10316212463122224871:=()
def tw3891067180075140705:=()
def tw12092545258802013872:=()
end PySem.W.Fast
namespace ZM
open PySem PySem.Spec PyProof.Rows L2 L3 L4
theorem all_mk{l:PySem.W.OpenLaw}{w:TW}{K:Fg}{h:Wp}{mg:R1}{fa:Tl}(X:K.In h)(G:h.Ns mainGlobals mg)(hfa:mg "law"=some (.ref fa))(B:BN K mg) :
  ∃fd:FuncData,(∀(s:Tk) (v:SZ),BindsTo s fd {[v],[]} [("_law_script",v)])/\∀base:Wp,K.In base->base.Ns mainGlobals mg->RC l.prog w K mg base (qL l.prog w) 14 fa fd ["_law_script"] (pN K 1 v5):=by
 let{f,fd,a,F}:=B.zaE
 cases hfa.symm.trans a
 refine{fd,λs v=>?_,λbase _ _=>LE B F};let{_,_,_,_,_,_,_,_,_,rfl,_}:=F.ex;exact .of_eq rfl
theorem walk{l:PySem.W.OpenLaw}{q:TD}{loose:Re Str}{XP:(Str->SL SZ)->Wp->Prop}{YP:TW->Wp->Prop}{d:DefRec}{K:Params->Fg}(main:∀ns:Re Int,ns.length<=63->lA (.list ?jf)=.ret (.bool true))(hn:l.most=some 63)(hdf:d.params.defaults=[])
  (hY:∀(w:TW) (h:Wp),YP w h->(K w.params).In h)
  (F:∀(w:TW) (mg:R1) (fa:Tl) (h:Wp),(K w.params).In h->h.Ns mainGlobals mg->mg d.name=some (.ref fa) ->
   ∃fd:FuncData,(∀(s:Tk) (u:SZ),BindsTo s fd {[u],[]} [("_law_script",u)])/\∀base:Wp,(K w.params).In base->base.Ns mainGlobals mg->RC l.prog w (K w.params) mg base (qL l.prog w) 14 fa fd ["_law_script"] (pN (K w.params) 1 v5)) :
  PySem.W.WalkO q loose XP YP l.row.toRowW d [] (λf vs=>PySem.call f vs) :=
 L2.Yu (n:=63) (k:=14) (x := "_law_script") (CX:=λw=>qL l.prog w) (sp:=λw=>pN (K w.params) 1 v5) hn ?C hdf {rfl,by decide,by decide,rfl} hY F (λw H a ns hl _ hS=>C6 hS<|main ns hl) λ_ _ _ _ _ ⟨_,_,_,_,_,_,_,_,_,_,z⟩=>z
end ZM
open PySem PySem.W PyProof.Rows L4
set_option maxRecDepth 100000 in
set_option maxHeartbeats 0 in
theorem PySem.Challenge.cw_passersby_k45_none_answers_holds : PySem.Challenge.rw_passersby_k45_none_answers.Holds := by
 w_on;o_law;k_head;(case hw=>w_witness2)
 k_fill
 refine ZM.walk (l:=PySem.Challenge.rw_passersby_k45_none_answers) ZM.main rfl rfl (λw h Y=>PySem.W.kIn_of Y) ?F
 case F =>
  intro w mg fa h KX G hmg;refine' ZM.all_mk KX G hmg {(N8 KX G ?bz),(Px KX G ?a0 ?l0 ?c0 ?k0),(Px KX G ?a1 ?l1 ?c1 ?k1),(Px KX G ?a2 ?l2 ?c2 ?k2),(Px KX G ?a3 ?l3 ?c3 ?k3),(Px KX G ?a4 ?l4 ?c4 ?k4),(Px KX G ?a5 ?l5 ?c5 ?k5),(Px KX G ?a6 ?l6 ?c6 ?k6),(Px KX G ?a7 ?l7 ?c7 ?k7),(Px KX G ?a8 ?l8 ?c8 ?k8),(Px KX G ?a9 ?l9 ?c9 ?k9),(Px KX G ?a10 ?l10 ?c10 ?k10),(Px KX G ?a11 ?T9 ?c11 ?k11),(Px KX G ?a12 ?U_ ?c12 ?k12),(Px KX G ?a13 ?XB ?c13 ?k13),(Px KX G ?a14 ?WO ?c14 ?k14),(FZ KX G ?a15 ?l15 ?c15 ?k15 ?d15 ?e15 ?r15),(Px KX G ?a16 ?l16 ?c16 ?k16),(FZ KX G ?a17 ?WN ?c17 ?k17 ?d17 ?e17 ?r17),(Px KX G ?a18 ?V4 ?c18 ?k18),(Px KX G ?a19 ?l19 ?c19 ?k19),(Px KX G ?a20 ?l20 ?c20 ?k20),(Px KX G ?a21 ?YO ?c21 ?k21),(Px KX G ?a22 ?l22 ?c22 ?k22),(Px KX G ?a23 ?l23 ?c23 ?k23),(Px KX G ?a24 ?l24 ?c24 ?k24),(Px KX G ?a25 ?Yh ?c25 ?k25),(Px KX G ?a26 ?l26 ?c26 ?k26),(Px KX G ?a27 ?l27 ?c27 ?k27),(Px KX G ?a28 ?l28 ?c28 ?k28),(Px KX G ?a29 ?l29 ?c29 ?k29),(Px KX G ?a30 ?l30 ?c30 ?k30),(Px KX G ?a31 ?l31 ?c31 ?k31),(Px KX G ?a32 ?l32 ?c32 ?k32),(Px KX G ?a33 ?l33 ?c33 ?k33),(Px KX G ?a34 ?l34 ?c34 ?k34),(Px KX G ?a35 ?l35 ?c35 ?k35),(Px KX G ?a36 ?l36 ?c36 ?k36),(Px KX G ?a37 ?l37 ?c37 ?k37),(Px KX G ?a38 ?l38 ?c38 ?k38),(Px KX G ?a39 ?l39 ?c39 ?k39),(Px KX G ?a40 ?l40 ?c40 ?k40)}
  (case a0|l0|c0|k0|a1|l1|c1|k1|a2|l2|c2|k2|a3|l3|c3|k3|a4|l4|c4|k4|a5|l5|c5|k5|a6|l6|c6|k6|a7|l7|c7|k7|a8|l8|c8|k8|a9|l9|c9|k9|a10|l10|c10|k10|a11|T9|c11|k11|a12|U_|c12|k12|a13|XB|c13|k13|a14|WO|c14|k14|a15|l15|c15|k15|d15=>k_is)
  (case e15=>rfl)
  (case r15=>exact{_,rfl})
  (case a16|l16|c16|k16|a17|WN|c17|k17|d17=>k_is)
  (case e17=>rfl)
  (case r17=>exact{_,rfl})
  (case a18|V4|c18|k18|a19|l19|c19|k19|a20|l20|c20|k20|a21|YO|c21|k21|a22|l22|c22|k22|a23|l23|c23|k23|a24|l24|c24|k24|a25|Yh|c25|k25|a26|l26|c26|k26|a27|l27|c27|k27|a28|l28|c28|k28|a29|l29|c29|k29|a30|l30|c30|k30|a31|l31|c31|k31|a32|l32|c32|k32|a33|l33|c33|k33|a34|l34|c34|k34|a35|l35|c35|k35|a36|l36|c36|k36|a37|l37|c37|k37|a38|l38|c38|k38|a39|l39|c39|k39|a40|l40|c40|k40=>k_is)
  (case bz=>kernel_rfl)
