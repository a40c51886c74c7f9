import PyProof.Rows.All
import Wide.All
import OpenK.AllK
import Wide.FinOn
import Lean
import PyProof.EqAt
import PyProof.EqKinds
import PyProof.TupleCall
import PySem.Challenge.RW_passersby_k08_questions_as_texts
noncomputable section
set_option Elab.async false
set_option linter.all false
set_option maxRecDepth 100000
noncomputable def zza:=@PySem.wpAny_bind
noncomputable def zzb:=@PySem.wpAny_pure
noncomputable def zzc:=@PySem.Heap.get?_push_of_some
noncomputable def zzd:=@List.length_map
noncomputable def zze:=@PySem.Heap.get?_push_size
noncomputable def zzg:=@List.mem_cons_of_mem
noncomputable def zzi:=@decide_eq_true_eq
namespace L2
open PySem PySem.Spec PyProof.Rows
noncomputable abbrev Key:=Sum Int Str
noncomputable def Vm_:Key->Value->Bool
 | .inl k,v=>Value.isInt k v
 | .inr x,v=>Value.isStrOf x v
noncomputable def keyH(w:World):Key->Int
 | .inl k=>hashInt k
 | .inr x=>hashStr w x
theorem zX_:∀{k:Key} {v:Value},Vm_ k v=true->(∃i t,k=Sum.inl i/\v=Value.int i t)\/(∃x t,k=Sum.inr x/\v=Value.str x t)
 | .inl i,v,h=>by
  obtain⟨t,e⟩:=Value.isInt_shape (k:=i) (v:=v) h
  exact .inl ⟨i,t,rfl,e⟩
 | .inr x,v,h=>by
  obtain⟨t,e⟩:=Value.isStrOf_shape (x:=x) (v:=v) h
  exact .inr ⟨x,t,rfl,e⟩
theorem Ww_(i:Int)(t:Tok):Vm_ (.inl i) (.int i t)=true:=by simp[Vm_,Value.isInt]
theorem Wv_(x:Str)(t:Tok):Vm_ (.inr x) (.str x t)=true:=by simp[Vm_,Value.isStrOf]
theorem zcY_(a b:Int):decide ((Sum.inl a:Key)=Sum.inl b)=(a==b):=by
 by_cases e:a=b
 ·subst e;simp
 ·have h:¬ (Sum.inl a:Key)=Sum.inl b:=λq=>e (Sum.inl.inj q)
  rw[decide_eq_false h]
  exact(beq_eq_false_iff_ne.mpr e).symm
theorem zcV_(a b:Str):decide ((Sum.inr a:Key)=Sum.inr b)=decide (a=b):=by
 by_cases e:a=b
 ·subst e;simp
 ·have h:¬ (Sum.inr a:Key)=Sum.inr b:=λq=>e (Sum.inr.inj q)
  rw[decide_eq_false h,decide_eq_false e]
theorem zcX_(a:Int)(b:Str):decide ((Sum.inl a:Key)=Sum.inr b)=false:=decide_eq_false (λq=>nomatch q)
theorem zcW_(a:Str)(b:Int):decide ((Sum.inr a:Key)=Sum.inl b)=false:=decide_eq_false (λq=>nomatch q)
def jk_(prog:Program)(w:World):PySem.KeyKind prog w Key where
 is:=Vm_
 hash:=keyH w
 inj:=λv a b ha hb=>by
  rcases zX_ ha with ⟨i,t,rfl,rfl⟩|⟨x,t,rfl,rfl⟩
  ·rcases zX_ hb with ⟨j,u,rfl,e⟩|⟨y,u,rfl,e⟩
   ·injection e with e1 _;rw[e1]
   ·exact nomatch e
  ·rcases zX_ hb with ⟨j,u,rfl,e⟩|⟨y,u,rfl,e⟩
   ·exact nomatch e
   ·injection e with e1 _;rw[e1]
 byValue:=λk v h=>by
  rcases zX_ h with ⟨i,t,rfl,rfl⟩|⟨x,t,rfl,rfl⟩<;>rfl
 pyHash:=λhv h=>by
  rcases zX_ hv with ⟨i,t,rfl,rfl⟩|⟨x,t,rfl,rfl⟩
  ·exact wpAny_pyHash_int h
  ·exact wpAny_pyHash_str h
 eqBool:=λhu hv h=>by
  rcases zX_ hu with ⟨i,t,rfl,rfl⟩|⟨x,t,rfl,rfl⟩
  ·rcases zX_ hv with ⟨j,u,rfl,rfl⟩|⟨y,u,rfl,rfl⟩
   ·rw[zcY_]at h;exact wpAny_eqBool_int h
   ·rw[zcX_]at h;exact SeqAt.EqAt.int_str i t y u _ _ _ _ h
  ·rcases zX_ hv with ⟨j,u,rfl,rfl⟩|⟨y,u,rfl,rfl⟩
   ·rw[zcW_]at h;exact SeqAt.EqAt.str_int x t j u _ _ _ _ h
   ·rw[zcV_]at h;exact wpAny_eqBool_str h
 «strs»:=λk x t v h=>by
  rcases zX_ h with ⟨i,u,rfl,e⟩|⟨y,u,rfl,e⟩
  ·exact nomatch e
  ·injection e with e1 _
   subst e1
   cases v<;>rfl
theorem YY_(prog:Program)(w:World)(i:Int)(t:Tok):(jk_ prog w).is (.inl i) (.int i t)=true:=Ww_ i t
theorem YX_(prog:Program)(w:World)(x:Str)(t:Tok):(jk_ prog w).is (.inr x) (.str x t)=true:=Wv_ x t
inductive V where
 | non|bl (b:Bool)|int (i:Int)|str (x:Str)|byt (b:Array UInt8)|flt (b:UInt64)|ref (a:Addr)|ty (n:String)
 deriving DecidableEq
noncomputable def RelV:V->Value->Prop
 | .non,u=>u=Value.none
 | .bl b,u=>u=Value.bool b
 | .int i,u=>∃t,u=Value.int i t
 | .str x,u=>∃t,u=Value.str x t
 | .byt b,u=>∃t,u=Value.bytes b t
 | .flt b,u=>∃t,u=Value.float b t
 | .ref a,u=>u=Value.ref a
 | .ty n,u=>u=Value.type n
abbrev Vals:List V->List Value->Prop:=Paired RelV
theorem Vals.length{xs:List V}{us:List Value}(r:Vals xs us):xs.length=us.length:=Paired.length r
theorem Vals.get:∀{xs:List V} {us:List Value} {i:Nat} {x:V},Vals xs us->xs[i]? = some x->∃u,us[i]? = some u/\RelV x u
 | _,_,_,_,.nil,e=>by simp at e
 | _,_,0,_,.cons r _,e=>by simp at e;subst e;exact⟨_,rfl,r⟩
 | _,_,i+1,x,.cons _ t,e=>by
  obtain⟨u,h1,h2⟩:=Vals.get (i:=i) (x:=x) t (by simpa using e)
  exact⟨u,by simpa using h1,h2⟩
theorem Vals.set{x:V}{u:Value}(r:RelV x u):∀{xs:List V} {us:List Value} (i:Nat),Vals xs us->Vals (xs.set i x) (us.set i u)
 | _,_,_,.nil=>.nil
 | _,_,0,.cons _ t=>.cons r t
 | _,_,i+1,.cons q t=>.cons q (Vals.set r i t)
theorem Vals.append:∀{xs ys:List V} {us ws:List Value},Vals xs us->Vals ys ws->Vals (xs++ys) (us++ws):=by
 intro xs ys us ws h s
 induction h with
 | nil=>exact s
 | cons r _ ih=>exact .cons r ih
theorem Vals.take:∀{xs:List V} {us:List Value} (n:Nat),Vals xs us->Vals (xs.take n) (us.take n)
 | _,_,0,_=>.nil
 | _,_,_+1,.nil=>.nil
 | _,_,n+1,.cons r t=>.cons r (Vals.take n t)
theorem Vals.drop:∀{xs:List V} {us:List Value} (n:Nat),Vals xs us->Vals (xs.drop n) (us.drop n)
 | _,_,0,r=>r
 | _,_,_+1,.nil=>.nil
 | _,_,n+1,.cons _ t=>Vals.drop n t
noncomputable def RelO:Option V->Option Value->Prop
 | some v,some u=>RelV v u
 | none,none=>True
 | _,_=>False
def KV{κ:Type}:List (κ×V)->List (κ×Value)->Prop:=Paired λ(p:κ×V) (q:κ×Value)=>p.1=q.1/\RelV p.2 q.2
noncomputable def kV:Key->V
 | .inl i=>.int i
 | .inr x=>.str x
inductive HO where
 | lst (xs:List V)
 | tup (xs:List V)
 | dK (kvs:List (Key×V))|dT (kvs:List (List Key×V))
 | set (S:Int->Bool) (n:Nat)
 | ins (C dx:Addr) (fs:List (Str×V))
 | own (x:Addr)
 | xd (fs:List (Str×V))
 | met (f x:Addr)
 | rng (lo hi:Int)
 | frz (o:Obj) (u:HO)
 | tbl (ps:Array Value)
 | ext (φ:Heap->Prop)
noncomputable abbrev Hp:=Addr->Option HO
noncomputable def upd(H:Hp)(a:Addr)(o:HO):Hp:=λb=>if b=a then some o else H b
theorem zw_{H:Hp}{a:Addr}{o:HO}:upd H a o a=some o:=by unfold upd;rw[if_pos rfl]
theorem zo_{H:Hp}{a b:Addr}{o:HO}(h:b≠a):upd H a o b=H b:=by unfold upd;rw[if_neg h]
theorem zB_{H:Hp}{a b:Addr}{o:HO}(h:H a=some o)(h':H b=none):a≠b:=by
 intro e;subst e;rw[h]at h';cases h'
section
variable (P:Program)(w:World)
def _root_.L2.TupN(h:Heap)(a:Addr):Prop:=∃o,h.get? a=some o/\o.dict=none
theorem _root_.L2.TupN.new(h:Heap)(items:Array Value):TupN (h.push { cls:=.type "tuple",data:=.seq items }) h.objs.size:=⟨_,zze _ rfl,rfl⟩
def ObjOk(H:Hp)(h:Heap)(a:Addr):HO->Prop
 | .lst xs=>xs.length<=sizeLine/\∃(its:List Value) (n:Nat),Vals xs its/\h.get? a=some { cls:=.type "list",data:=.seq its.toArray n }
 | .tup xs=>xs.length<=sizeLine/\∃its:List Value,Vals xs its/\IsTup h a its.toArray/\TupN h a
 | .dK kvs=>kvs.length<=sizeLine/\(a==sysModules)=false/\∃vs,KV kvs vs/\h.DictOf (jk_ P w) a vs
 | .dT kvs=>kvs.length<=sizeLine/\(a==sysModules)=false/\∃xs:List (List Key×Addr×Value),
   Paired (λ(p:List Key×V) (q:List Key×Addr×Value)=>p.1=q.1/\H q.2.1=some (.tup (p.1.map kV))/\RelV p.2 q.2.2) kvs xs /\
   ∃o es ep,h.get? a=some o/\o.ExactDict/\o.data=.dict es ep/\es.toList=xs.map (entryOfKey (tupleKind (jk_ P w)))/\(xs.map (·.1)).Nodup
 | .set S n=>h.SetOf (intKind P w) a S n
 | .ins C dx fs=>H dx=some (.own a)/\fs.length<=1000/\dx≠a/\h.get? a=some (PySem.W.instObj C dx) /\
   ∃mA,h.Ns1 dx mA/\(∀f,RelO (fs.lookup f) (mA f))/\PySem.Within mA (fs.map (·.1))
 | .own _=>∃o,h.get? a=some o
 | .xd fs=>∃mA,h.Ns1 a mA/\∀f,RelO (fs.lookup f) (mA f)
 | .rng lo hi=>∃t u v,h.get? a=some { cls:=.type "range",data:=.fields #[.int lo t,.int hi u,.int 1 v] }
 | .frz o u=>h.get? a=some o/\ObjOk H h a u
 | .tbl ps=>h.get? a=some { cls:=.none,data:=.fields ps }
 | .met f x=>h.get? a=some (PySem.W.methodObj (.ref f) (.ref x))
 | .ext φ=>φ h/\(∃o,h.get? a=some o)/\∀h1 h2:Heap,φ h1->(∀o,h1.get? a=some o->h2.get? a=some o)->φ h2
def HOk(H:Hp)(h:Heap):Prop:=∀a o,H a=some o->ObjOk P w H h a o
end
section
variable {P:Program}{w:World}{H H':Hp}{h h':Heap}{a:Addr}{o:HO}
theorem ObjOk.lt(x:ObjOk P w H h a o):a<h.objs.size:=by
 cases o with
 | lst xs=>obtain⟨_,_,_,_,e⟩:=x;exact Heap.lt_size e
 | tup xs=>obtain⟨_,_,_,p⟩:=x;exact p.1.lt
 | dK kvs=>obtain⟨_,_,_,_,o,_,_,e,_⟩:=x;exact Heap.lt_size e
 | dT kvs=>obtain⟨_,_,_,_,o,_,_,e,_⟩:=x;exact Heap.lt_size e
 | set S n=>obtain⟨o,_,_,_,e,_⟩:=x;exact Heap.lt_size e
 | ins C dx fs=>obtain⟨_,_,_,e,_⟩:=x;exact Heap.lt_size e
 | own y=>obtain⟨_,e⟩:=x;exact Heap.lt_size e
 | xd fs=>obtain⟨_,⟨_,_,_,e,_⟩,_⟩:=x;exact Heap.lt_size e
 | rng lo hi=>obtain⟨_,_,_,e⟩:=x;exact Heap.lt_size e
 | frz ob u=>obtain⟨e,_⟩:=x;exact Heap.lt_size e
 | tbl ps=>exact Heap.lt_size (show h.get? a=some _ from x)
 | met f y=>exact Heap.lt_size (show h.get? a=some _ from x)
 | ext φ=>obtain⟨_,⟨_,e⟩,_⟩:=x;exact Heap.lt_size e
theorem Paired.mapP{α β:Type}{F G:α->β->Prop}:∀{l₁:List α} {l₂:List β},Paired F l₁ l₂->(∀a b,F a b->G a b)->Paired G l₁ l₂:=by
 intro l₁ l₂ h f
 induction h with
 | nil=>exact .nil
 | cons r _ ih=>exact .cons (f _ _ r) ih
theorem ObjOk.stay(x:ObjOk P w H h a o)(k:∀b u,(b=a\/H b=some (.own a))->h.get? b=some u->h'.get? b=some u)
  (ho:∀b,H b=some (.own a)->H' b=some (.own a)) (ht:∀b xs,H b=some (.tup xs)->H' b=some (.tup xs)):ObjOk P w H' h' a o:=by
 induction o with
 | lst xs=>obtain⟨z,its,n,r,e⟩:=x;exact⟨z,its,n,r,k _ _ (.inl rfl) e⟩
 | tup xs=>obtain⟨z,its,r,⟨ob,e,c⟩,ob2,e2,c2⟩:=x;exact⟨z,its,r,⟨ob,k _ _ (.inl rfl) e,c⟩,ob2,k _ _ (.inl rfl) e2,c2⟩
 | dK kvs=>obtain⟨z,y,vs,r,ob,es,ep,e,c⟩:=x;exact⟨z,y,vs,r,ob,es,ep,k _ _ (.inl rfl) e,c⟩
 | dT kvs =>
  obtain⟨z,y,xs,r,ob,es,ep,e,c⟩:=x
  exact⟨z,y,xs,Paired.mapP r λp q z=>⟨z.1,ht _ _ z.2.1,z.2.2⟩,ob,es,ep,k _ _ (.inl rfl) e,c⟩
 | set S n=>obtain⟨ob,es,ep,t,e,c⟩:=x;exact⟨ob,es,ep,t,k _ _ (.inl rfl) e,c⟩
 | ins C dx fs =>
  obtain⟨d,z,ne,e,mA,⟨od,es,ep,e2,c⟩,r⟩:=x
  exact⟨ho _ d,z,ne,k _ _ (.inl rfl) e,mA,⟨od,es,ep,k _ _ (.inr d) e2,c⟩,r⟩
 | own y=>obtain⟨ob,e⟩:=x;exact⟨ob,k _ _ (.inl rfl) e⟩
 | xd fs=>obtain⟨mA,⟨od,es,ep,e,c⟩,r⟩:=x;exact⟨mA,⟨od,es,ep,k _ _ (.inl rfl) e,c⟩,r⟩
 | rng lo hi=>obtain⟨t,u,v,e⟩:=x;exact⟨t,u,v,k _ _ (.inl rfl) e⟩
 | frz ob u ih=>obtain⟨e,q⟩:=x;exact⟨k _ _ (.inl rfl) e,ih q⟩
 | tbl ps =>
  have e:h.get? a=some { cls:=.none,data:=.fields ps }:=x
  show h'.get? a=some { cls:=.none,data:=.fields ps }
  exact k a _ (.inl rfl) e
 | met f y =>
  have e:h.get? a=some (PySem.W.methodObj (.ref f) (.ref y)):=x
  show h'.get? a=some (PySem.W.methodObj (.ref f) (.ref y))
  exact k a _ (.inl rfl) e
 | ext φ=>obtain⟨p,⟨o,e⟩,st⟩:=x;exact⟨st _ _ p λo q=>k _ _ (.inl rfl) q,⟨o,k _ _ (.inl rfl) e⟩,st⟩
theorem HOk.lt(x:HOk P w H h)(e:H a=some o):a<h.objs.size:=(x a o e).lt
theorem HOk.fresh(x:HOk P w H h)(e:h.objs.size<=a):H a=none:=by
 cases q:H a with
 | none=>rfl
 | some u=>exact absurd (Nat.lt_of_lt_of_le (x.lt q) e) (Nat.lt_irrefl _)
theorem HOk.kept(x:HOk P w H h)(k:∀b u,h.get? b=some u->h'.get? b=some u):HOk P w H h':=λa o e =>
 (x a o e).stay (λb u _ q=>k b u q) (λ_ q=>q) λ_ _ q=>q
theorem HOk.laid(x:HOk P w H h)(k:∀b u,h.get? b=some u->h'.get? b=some u)(hp:h.objs.size<=a)(new:ObjOk P w (upd H a o) h' a o):HOk P w (upd H a o) h':=λb u e=>by
 have hn:=x.fresh hp
 by_cases hb:b=a
 ·subst hb;rw[zw_]at e;cases e;exact new
 ·rw[zo_ hb]at e
  exact(x b u e).stay (λc v _ q=>k c v q) (λc q=>by rw[zo_ (zB_ q hn)];exact q) λc xs q=>by rw[zo_ (zB_ q hn)];exact q
end
def Rd(H:Hp)(a:Addr)(u:HO):Prop:=H a=some u\/∃o,H a=some (.frz o u)
theorem Rd.ok{P:Program}{w:World}{H:Hp}{h:Heap}{a:Addr}{u:HO}(r:Rd H a u)(x:HOk P w H h):ObjOk P w H h a u:=by
 rcases r with r|⟨o,r⟩
 ·exact x a u r
 ·obtain⟨_,q⟩:=x a _ r
  exact q
noncomputable def Mut:Option HO->Prop
 | some (.lst _)=>True
 | some (.dK _)=>True
 | some (.dT _)=>True
 | some (.set _ _)=>True
 | some (.ins _ _ _)=>True
 | some (.ext _)=>True
 | _=>False
section
variable {P:Program}{w:World}{H:Hp}{h h':Heap}{x e:Addr}{o':HO}
theorem HOk.write(ok:HOk P w H h)(mu:Mut (H x))(he:e=x\/H e=some (.own x))(k:∀b u,b≠e->h.get? b=some u->h'.get? b=some u)(heo:∃u,h'.get? e=some u)
  (new:ObjOk P w (upd H x o') h' x o'):HOk P w (upd H x o') h':=λb u q=>by
 have nown:∀c y,H c=some (.own y)->c≠x:=λc y r z=>by subst z;rw[r]at mu;exact mu
 have ntup:∀c xs,H c=some (.tup xs)->c≠x:=λc xs r z=>by subst z;rw[r]at mu;exact mu
 by_cases hb:b=x
 ·subst hb;rw[zw_]at q;cases q;exact new
 ·rw[zo_ hb]at q
  by_cases hbe:b=e
  ·have q':H b=some (.own x):=by
    rcases he with z|z
    ·exact absurd (hbe.trans z) hb
    ·rw[hbe];exact z
   rw[q]at q';cases q'
   obtain⟨v,hv⟩:=heo
   exact⟨v,by rw[hbe];exact hv⟩
  ·refine(ok b u q).stay (λc v hc r=>k c v ?_ r) (λc r=>by rw[zo_ (nown c b r)];exact r) λc xs r=>by rw[zo_ (ntup c xs r)];exact r
   rcases hc with rfl|hc
   ·exact hbe
   ·rintro rfl
    rcases he with z|z
    ·exact nown c b hc z
    ·rw[hc]at z;cases z;exact hb rfl
end
structure Un(fs ex:List Addr)(H H':Hp)(h h':Heap):Prop where
 keep:∀b o,h.get? b=some o->H b=none->b∉fs->b∉ex->h'.get? b=some o
 slot:∀b o,h.get? b=some o->H b=none->b∈fs->b∉ex->∃sl,h'.get? b=some { o with slots:=sl }
 free:∀b o,h.get? b=some o->H b=none->b∉ex->H' b=none
 there:∀b o,h.get? b=some o->b∉ex->∃o',h'.get? b=some o'
 tups:∀b xs,H b=some (.tup xs)->H' b=some (.tup xs)
 frzs:∀b o u,H b=some (.frz o u)->H' b=some (.frz o u)
 tbls:∀b ps,H b=some (.tbl ps)->∃more,H' b=some (.tbl (ps++more))
section
variable {fs fs' ex ex':List Addr}{H H1 H2:Hp}{h h1 h2 h':Heap}{a x e:Addr}{o:HO}
theorem Un.any(u:Un fs ex H H1 h h1){b:Addr}{ob:Obj}(q:h.get? b=some ob)(n:H b=none)(hx:b∉ex):∃sl,h1.get? b=some { ob with slots:=sl }:=by
 by_cases hb:b∈fs
 ·exact u.slot b ob q n hb hx
 ·exact⟨ob.slots,u.keep b ob q n hb hx⟩
theorem Un.kept(k:∀b u,h.get? b=some u->h'.get? b=some u):Un fs ex H H h h' :=
 ⟨λb ob q _ _ _=>k b ob q,λb ob q _ _ _=>⟨ob.slots,k b ob q⟩,λ_ _ _ n _=>n,λb ob q _=>⟨ob,k b ob q⟩,λ_ _ q=>q,λ_ _ _ q=>q,λ_ ps q=>⟨#[],by rw[q];simp⟩⟩
theorem Un.refl:Un fs ex H H h h:=Un.kept λ_ _ q=>q
theorem Un.laid(k:∀b u,h.get? b=some u->h'.get? b=some u)(hp:h.objs.size<=a)(hn:H a=none):Un fs ex H (upd H a o) h h' where
 keep:=λb u q _ _ _=>k b u q
 slot:=λb u q _ _ _=>⟨u.slots,k b u q⟩
 free:=λb u q n _=>by rw[zo_ (Nat.ne_of_lt (Nat.lt_of_lt_of_le (Heap.lt_size q) hp))];exact n
 there:=λb u q _=>⟨u,k b u q⟩
 tups:=λb xs q=>by rw[zo_ (zB_ q hn)];exact q
 frzs:=λb u xs q=>by rw[zo_ (zB_ q hn)];exact q
 tbls:=λb ps q=>⟨#[],by rw[zo_ (zB_ q hn),q];simp⟩
theorem Un.write(mu:Mut (H x))(he:e=x\/H e=some (.own x))(k:∀b u,b≠e->h.get? b=some u->h'.get? b=some u)(heo:∃u,h'.get? e=some u):Un fs ex H (upd H x o) h h':=by
 have hx:∀b,H b=none->b≠x:=λb n z=>by subst z;rw[n]at mu;exact mu
 have hb:∀b,H b=none->b≠e:=λb n z=>by
  subst z
  rcases he with r|r
  ·exact hx b n r
  ·rw[n]at r;cases r
 have hm:∀b u,H b=some u->¬ Mut (some u)->b≠x:=λb u q nm z=>by subst z;rw[q]at mu;exact nm mu
 refine⟨λb u q n _ _=>k b u (hb b n) q,λb u q n _ _=>⟨u.slots,k b u (hb b n) q⟩,λb u q n _=>by rw[zo_ (hx b n)];exact n,λb u q _=>?_,
  λb xs q=>by rw[zo_ (hm b _ q λz=>z)];exact q,λb u xs q=>by rw[zo_ (hm b _ q λz=>z)];exact q,λb ps q=>⟨#[],by rw[zo_ (hm b _ q λz=>z),q];simp⟩⟩
 by_cases hbe:b=e
 ·subst hbe;exact heo
 ·exact⟨u,k b u hbe q⟩
end
noncomputable def trk(h:Heap)(H:Hp):List Addr:=(List.range h.objs.size).filter λa=>(H a).isSome
def hidT(h:Heap)(H:Hp):Heap:=PySem.W.hideAll h (trk h H)
theorem WF_(h:Heap)(H:Hp):(hidT h H).objs.size=h.objs.size:=PySem.W.hideAll_size _ _
theorem XJ_{h:Heap}{H:Hp}{b:Addr}{o:Obj}(e:h.get? b=some o)(n:H b=none):(hidT h H).get? b=some o :=
 PySem.W.hideAll_get _ e λhm=>by
  have q:(H b).isSome=true:=(List.mem_filter.mp hm).2
  rw[n]at q;simp at q
theorem zbh_{h:Heap}{H:Hp}{b:Addr}{o:Obj}(e:(hidT h H).get? b=some o):h.get? b=some o/\H b=none:=by
 have e':h.get? b=some o:=PySem.W.of_hideAll (trk h H) e
 refine⟨e',?_⟩
 cases q:H b with
 | none=>rfl
 | some x =>
  have hm:b∈trk h H:=List.mem_filter.mpr ⟨List.mem_range.mpr (Heap.lt_size e'),by simp[q]⟩
  have z:(hidT h H).get? b=none:=PySem.W.hideAll_none (trk h H) hm
  rw[z]at e;cases e
structure Mod(K:PySem.W.Frag)(mg:Str->Option Value)(base:Heap):Prop where
 kin:K.In base
 glob:base.Ns mainGlobals mg
 blt:∃mb,base.Ns builtinsNs mb/\∀x:Str,x ≠ "__name__" -> mb x=bootBuiltins x
 nolimit:base.NoLimit
structure Cx where
 prog:Program
 w:World
 K:PySem.W.Frag
 mg:Str->Option Value
 base:Heap
 A:Around
 N:List Str
 s₀:Shared
 H₀:Hp
 env:Env
 outer:List Env
 stack:List Env
 ex:List Addr
 fn:Str->Bool
 calm:Bool
 pn:List (Addr×Obj)
 xe:Value->Shared->Prop
noncomputable def frs(l:List Env):List Addr:=l.filterMap (·.frame)
abbrev Cx.fs(X:Cx):List Addr:=frs X.outer
def Vis(sc:Scope)(x:Str):Prop:=sc.names.lookup x=some .local\/sc.names.lookup x=some .cell\/sc.names.lookup x=some .free
def Loc(sc:Scope)(x:Str):Prop:=sc.names.lookup x=some .local\/sc.names.lookup x=some .cell
def Look(env:Env)(h:Heap)(m:Str->Option Value)(x:Str)(u:Value):Prop :=
 (env.kindOf x=some .local/\m x=some u)\/((env.kindOf x=some .cell\/env.kindOf x=some .free)/\∃c,env.cells.lookup x=some c/\h.IsCell c (some u))
structure Cx.Ok(X:Cx):Prop where
 mod:Mod X.K X.mg X.base
 kind:X.env.scope.kind=.function
 glob:X.env.globals=mainGlobals
 blt:X.env.builtins=builtinsNs
 above:X.s₀.heap.objs.size<=X.env.locals
 inj:∀x y c,X.env.cells.lookup x=some c->X.env.cells.lookup y=some c->x=y
 has:∀x,(X.env.kindOf x=some .cell\/X.env.kindOf x=some .free)->∃c,X.env.cells.lookup x=some c
 cab:∀x c,X.fn x=true->X.env.cells.lookup x=some c->X.s₀.heap.objs.size<=c
 hd:X.calm=true->X.A.handled=none
 frames:X.A.frames=some X.stack
 stk:X.stack=X.outer\/(X.stack=X.env::X.outer/\X.env.frame=some X.env.locals)
 exf:∀b∈X.ex,b≠X.env.locals/\∀x c,X.env.cells.lookup x=some c->c≠b
 bs:∀b o,X.base.get? b=some o->X.s₀.heap.get? b=some o/\X.H₀ b=none
 bsz:X.base.objs.size<=X.s₀.heap.objs.size
 noex:∀b o,X.base.get? b=some o->b∉X.ex
 exfs:∀b∈X.ex,b∉X.fs
 funs:X.s₀.heap.FunFrames X.base X.outer
 frf:∀b∈X.fs,X.H₀ b=none
structure Inv(X:Cx)(pins:List (Addr×Obj))(σ:List (Option V))(H:Hp)(s:Shared):Prop where
 ok:X.Ok
 os:s.os=X.s₀.os
 bare:AllBare s.gens
 base:Un X.fs X.ex X.H₀ H X.s₀.heap s.heap
 loc:∃m,s.heap.Ns X.env.locals m/\∀(i:Nat) (x:Str) (v:V),X.N[i]? = some x->σ[i]? = some (some v)->Vis X.env.scope x->∃u,RelV v u/\Look X.env s.heap m x u
 cell:∀x c,X.env.cells.lookup x=some c->∃v,s.heap.IsCell c v
 free:H X.env.locals=none
 freeC:∀x c,X.env.cells.lookup x=some c->H c=none
 pin:∀p∈X.pn++pins,s.heap.get? p.1=some p.2/\H p.1=none/\p.1≠X.env.locals/\p.1∉X.fs/\∀v,p.2.data≠.cell v
 hok:HOk X.prog X.w H s.heap
 len:σ.length=X.N.length
section
variable {X:Cx}{pins:List (Addr×Obj)}{σ:List (Option V)}{H H':Hp}{s:Shared}{h':Heap}
theorem Cx.Ok.nofr(ok:X.Ok){b:Addr}{o:Obj}(e:X.base.get? b=some o):b∉X.fs:=λhb=>by
 have:=(ok.funs.mem hb).1
 rw[e]at this;cases this
theorem Inv.bs(I:Inv X pins σ H s):∀b o,X.base.get? b=some o->s.heap.get? b=some o/\H b=none:=λb o e =>
 ⟨I.base.keep b o (I.ok.bs b o e).1 (I.ok.bs b o e).2 (I.ok.nofr e) (I.ok.noex b o e),I.base.free b o (I.ok.bs b o e).1 (I.ok.bs b o e).2 (I.ok.noex b o e)⟩
theorem Inv.bk(I:Inv X pins σ H s):∀b o,X.base.get? b=some o->s.heap.get? b=some o:=λb o e=>(I.bs b o e).1
theorem Inv.mod(I:Inv X pins σ H s):Mod X.K X.mg X.base:=I.ok.mod
theorem Inv.kIn(I:Inv X pins σ H s):X.K.In s.heap:=I.ok.mod.kin.keeps I.bk
theorem Inv.lt(I:Inv X pins σ H s):X.env.locals<s.heap.objs.size:=let ⟨_,hn,_⟩:=I.loc;hn.lt
theorem Inv.sz(I:Inv X pins σ H s):X.s₀.heap.objs.size<=s.heap.objs.size:=Nat.le_trans I.ok.above (Nat.le_of_lt I.lt)
theorem Inv.nofs(I:Inv X pins σ H s){a:Addr}(h:s.heap.objs.size<=a):a∉X.fs:=λhb=>by
 obtain⟨_,o,ho,_⟩:=I.ok.funs.mem hb
 exact absurd (Nat.lt_of_lt_of_le (Heap.lt_size ho) (Nat.le_trans I.sz h)) (Nat.lt_irrefl _)
theorem Inv.cne(I:Inv X pins σ H s):∀x c,X.env.cells.lookup x=some c->c≠X.env.locals:=λx c e z=>by
 obtain⟨v,o,ho,hd⟩:=I.cell x c e
 obtain⟨m,⟨o',es,ep,ho',hd',_⟩,_⟩:=I.loc
 rw[z,ho']at ho;cases ho;rw[hd']at hd;cases hd
theorem Inv.funs(I:Inv X pins σ H s):s.heap.FunFrames X.base X.outer:=by
 have all:∀(l:List Env),(∀b∈frs l,b∈X.fs)->X.s₀.heap.FunFrames X.base l->s.heap.FunFrames X.base l:=by
  intro l
  induction l with
  | nil=>intro _ _;trivial
  | cons env r ih =>
   intro hs hl
   obtain⟨hk,⟨L,o,hf,hn,ho,hd⟩,hr⟩:=hl
   have hL:L∈X.fs:=hs L (by unfold frs;rw[List.filterMap_cons,hf];exact List.mem_cons_self)
   obtain⟨sl,e⟩:=I.base.slot L o ho (I.ok.frf L hL) hL λz=>I.ok.exfs L z hL
   exact⟨hk,⟨L,_,hf,hn,e,hd⟩,ih (λb hb=>hs b (by unfold frs;rw[List.filterMap_cons,hf];exact zzg _ hb)) hr⟩
 exact all X.outer (λ_ hb=>hb) I.ok.funs
theorem Inv.stack(I:Inv X pins σ H s):s.heap.FunFrames X.base X.stack:=by
 rcases I.ok.stk with e|⟨e,hf⟩
 ·rw[e];exact I.funs
 ·rw[e]
  obtain⟨m,hn,_⟩:=I.loc
  refine .cons (by rw[I.ok.kind];decide) hf hn ?_ I.funs
  exact Heap.get?_none_of_le (Nat.le_trans I.ok.bsz I.ok.above)
theorem Inv.stkSub(I:Inv X pins σ H s):∀b∈frs X.stack,b∈X.env.locals::X.fs:=λb hb=>by
 rcases I.ok.stk with e|⟨e,hf⟩
 ·rw[e]at hb;exact zzg _ hb
 ·rw[e]at hb
  unfold frs at hb
  rw[List.filterMap_cons,hf]at hb
  exact hb
theorem Inv.stkFree(I:Inv X pins σ H s):∀b∈frs X.stack,H b=none:=λb hb=>by
 rcases List.mem_cons.mp (I.stkSub b hb)with e|hb
 ·rw[e];exact I.free
 ·obtain⟨_,o,ho,_⟩:=I.ok.funs.mem hb
  exact I.base.free b o ho (I.ok.frf b hb) λz=>I.ok.exfs b z hb
theorem Inv.step{g':Array GenState}{t':Nat}{d':Drawn}{ch:List Addr}(I:Inv X pins σ H s)
  (hch:∀b∈ch,(b∈X.ex\/X.s₀.heap.objs.size<=b)/\b≠X.env.locals/\(∀x c,X.env.cells.lookup x=some c->c≠b)/\∀p∈X.pn++pins,p.1≠b)
  (keep:∀b o,b≠X.env.locals->b∉X.fs->b∉ch->s.heap.get? b=some o->H b=none->h'.get? b=some o)
  (slot:∀b o,b≠X.env.locals->b∈X.fs->b∉ch->s.heap.get? b=some o->H b=none->∃sl,h'.get? b=some { o with slots:=sl }) (free:∀b o,b∉ch->s.heap.get? b=some o->H b=none->H' b=none)
  (there:∀b o,b∉ch->s.heap.get? b=some o->∃o',h'.get? b=some o')
  (tups:∀b xs,H b=some (.tup xs)->H' b=some (.tup xs)) (frzs:∀b o u,H b=some (.frz o u)->H' b=some (.frz o u)) (tbls:∀b ps,H b=some (.tbl ps)->∃more,H' b=some (.tbl (ps++more)))
  (ns:∀m,s.heap.Ns X.env.locals m->h'.Ns X.env.locals m) (hok:HOk X.prog X.w H' h') (hg:AllBare g') :
  Inv X pins σ H' { s with heap:=h',gens:=g',drawn:=d',toks:=t' }:=by
 have neL:∀b o,X.s₀.heap.get? b=some o->b≠X.env.locals:=λb o e=>Nat.ne_of_lt (Nat.lt_of_lt_of_le (Heap.lt_size e) I.ok.above)
 have neC:∀b o,X.s₀.heap.get? b=some o->b∉X.ex->b∉ch:=λb o e hx hb=>by
  rcases(hch b hb).1 with z|z
  ·exact hx z
  ·exact absurd (Nat.lt_of_lt_of_le (Heap.lt_size e) z) (Nat.lt_irrefl _)
 have cellK:∀x c,X.env.cells.lookup x=some c->∀v,s.heap.IsCell c v->h'.IsCell c v:=λx c e v ⟨o,ho,hd⟩=>by
  have nch:c∉ch:=λz=>(hch c z).2.2.1 x c e rfl
  by_cases hc:c∈X.fs
  ·obtain⟨sl,q⟩:=slot c o (I.cne x c e) hc nch ho (I.freeC x c e)
   exact⟨_,q,hd⟩
  ·exact⟨o,keep c o (I.cne x c e) hc nch ho (I.freeC x c e),hd⟩
 refine⟨I.ok,I.os,hg,⟨λb o e n hb hx=>?_,λb o e n hb hx=>?_,λb o e n hx=>?_,λb o e hx=>?_,λb xs e=>tups b xs (I.base.tups b xs e),λb o xs e=>frzs b o xs (I.base.frzs b o xs e),λb ps e=>?_⟩,?_,λx c e=>?_,?_,λx c e=>?_,λp hp=>?_,hok,I.len⟩
 ·exact keep b o (neL b o e) hb (neC b o e hx) (I.base.keep b o e n hb hx) (I.base.free b o e n hx)
 ·obtain⟨sl,e1⟩:=I.base.slot b o e n hb hx
  obtain⟨sl',e2⟩:=slot b _ (neL b o e) hb (neC b o e hx) e1 (I.base.free b o e n hx)
  exact⟨sl',e2⟩
 ·obtain⟨o',e1⟩:=I.base.there b o e hx
  exact free b o' (neC b o e hx) e1 (I.base.free b o e n hx)
 ·obtain⟨o',e1⟩:=I.base.there b o e hx
  exact there b o' (neC b o e hx) e1
 ·obtain⟨m1,e1⟩:=I.base.tbls b ps e
  obtain⟨m2,e2⟩:=tbls b _ e1
  exact⟨m1++m2,by rw[e2,Array.append_assoc]⟩
 ·obtain⟨m,hn,hl⟩:=I.loc
  refine⟨m,ns m hn,λi x v e1 e2 e3=>?_⟩
  obtain⟨u,r,l⟩:=hl i x v e1 e2 e3
  refine⟨u,r,?_⟩
  rcases l with l|⟨k,c,e,z⟩
  ·exact .inl l
  ·exact .inr ⟨k,c,e,cellK x c e _ z⟩
 ·obtain⟨v,z⟩:=I.cell x c e
  exact⟨v,cellK x c e v z⟩
 ·obtain⟨m,⟨o,_,_,ho,_⟩,_⟩:=I.loc
  exact free _ o (λz=>(hch _ z).2.1 rfl) ho I.free
 ·obtain⟨v,o,ho,hd⟩:=I.cell x c e
  exact free c o (λz=>(hch c z).2.2.1 x c e rfl) ho (I.freeC x c e)
 ·obtain⟨e,n,ne,nf,d⟩:=I.pin p hp
  have nch:p.1∉ch:=λz=>(hch p.1 z).2.2.2 p hp rfl
  exact⟨keep p.1 p.2 ne nf nch e n,free p.1 p.2 nch e n,ne,nf,d⟩
theorem Inv.un{t':Nat}(I:Inv X pins σ H s)(u:Un X.fs [] H H' s.heap h')(hok:HOk X.prog X.w H' h'):Inv X pins σ H' { s with heap:=h',toks:=t' }:=by
 obtain⟨m,⟨o,es,ep,ho,r⟩,_⟩:=id I.loc
 obtain⟨sl,hL⟩:=u.any ho I.free (by simp)
 exact I.step (g':=s.gens) (d':=s.drawn) (ch:=[]) (λ_ z=>nomatch z) (λb o _ hb _ e n=>u.keep b o e n hb (by simp)) (λb o _ hb _ e n=>u.slot b o e n hb (by simp)) (λb o _ e n=>u.free b o e n (by simp)) (λb o _ e=>u.there b o e (by simp)) u.tups u.frzs u.tbls (λm' hm=>by
  obtain⟨o',es',ep',ho',r'⟩:=hm
  rw[ho]at ho';cases ho'
  exact⟨_,es',ep',hL,r'⟩) hok I.bare
theorem Inv.call{g':Array GenState}{t':Nat}{d':Drawn}{ch:List Addr}(I:Inv X pins σ H s)(u:Un (frs X.stack) ch H H' s.heap h')(hok:HOk X.prog X.w H' h')(hg:AllBare g')
  (hch:∀b∈ch,(b∈X.ex\/X.s₀.heap.objs.size<=b)/\b≠X.env.locals/\(∀x c,X.env.cells.lookup x=some c->c≠b)/\∀p∈X.pn++pins,p.1≠b) :
  Inv X pins σ H' { s with heap:=h',gens:=g',drawn:=d',toks:=t' }:=by
 obtain⟨m,⟨o,es,ep,ho,r⟩,_⟩:=id I.loc
 obtain⟨sl,hL⟩:=u.any ho I.free λz=>(hch _ z).2.1 rfl
 exact I.step (ch:=ch) hch (λb o hL hb hc e n=>u.keep b o e n (λz=>(List.mem_cons.mp (I.stkSub b z)).elim hL hb) hc) (λb o _ _ hc e n=>u.any e n hc) (λb o hc e n=>u.free b o e n hc) (λb o hc e=>u.there b o e hc) u.tups u.frzs u.tbls (λm' hm=>by
  obtain⟨o',es',ep',ho',r'⟩:=hm
  rw[ho]at ho';cases ho'
  exact⟨_,es',ep',hL,r'⟩) hok hg
theorem Inv.turned{t':Nat}{it:Addr}(I:Inv X pins σ H s)(k:∀b o,b≠it->s.heap.get? b=some o->h'.get? b=some o)(hn:H it=none)(hL:it≠X.env.locals)
  (h1:it∈X.ex\/X.s₀.heap.objs.size<=it) (h2:∀x c,X.env.cells.lookup x=some c->c≠it) (h3:∀p∈X.pn++pins,p.1≠it):Inv X pins σ H { s with heap:=h',toks:=t' }:=by
 have nit:∀b u,H b=some u->b≠it:=λb u e z=>by rw[z,hn]at e;cases e
 refine I.step (g':=s.gens) (d':=s.drawn) (ch:=[it]) (λb hb=>?_) (λb o _ _ hc e _=>k b o (λz=>hc (by simp[z])) e) (λb o _ _ hc e _=>⟨o.slots,k b o (λz=>hc (by simp[z])) e⟩) (λ_ _ _ _ n=>n)
  (λb o hc e=>⟨o,k b o (λz=>hc (by simp[z])) e⟩) (λ_ _ e=>e) (λ_ _ _ e=>e) (λb ps e=>⟨#[],by rw[e];simp⟩) (λm hm=>?_) (λb u e=>?_) I.bare
 ·have e:b=it:=by simpa using hb
  subst e
  exact⟨h1,hL,h2,h3⟩
 ·obtain⟨o,es,ep,ho,r⟩:=hm
  exact⟨o,es,ep,k _ o (Ne.symm hL) ho,r⟩
 ·refine(I.hok b u e).stay (λc v hc q=>k c v ?_ q) (λ_ q=>q) λ_ _ q=>q
  rcases hc with z|z
  ·rw[z];exact nit b u e
  ·exact nit c _ z
theorem Inv.tok(I:Inv X pins σ H s)(t:Nat):Inv X pins σ H { s with toks:=t }:=I.un (h':=s.heap) (t':=t) Un.refl I.hok
theorem Inv.kept{t':Nat}(I:Inv X pins σ H s)(k:∀b u,s.heap.get? b=some u->h'.get? b=some u):Inv X pins σ H { s with heap:=h',toks:=t' }:=I.un (Un.kept k) (I.hok.kept k)
theorem Inv.laid{a:Addr}{o:HO}{t':Nat}(I:Inv X pins σ H s)(k:∀b u,s.heap.get? b=some u->h'.get? b=some u)(hp:s.heap.objs.size<=a)(new:ObjOk X.prog X.w (upd H a o) h' a o) :
  Inv X pins σ (upd H a o) { s with heap:=h',toks:=t' }:=I.un (Un.laid k hp (I.hok.fresh hp)) (I.hok.laid k hp new)
theorem Inv.write{x e:Addr}{o:HO}{t':Nat}(I:Inv X pins σ H s)(mu:Mut (H x))(he:e=x\/H e=some (.own x))(k:∀b u,b≠e->s.heap.get? b=some u->h'.get? b=some u)(heo:∃u,h'.get? e=some u)
  (new:ObjOk X.prog X.w (upd H x o) h' x o):Inv X pins σ (upd H x o) { s with heap:=h',toks:=t' }:=I.un (Un.write mu he k heo) (I.hok.write mu he k heo new)
theorem Inv.pins_of{pins':List (Addr×Obj)}(I:Inv X pins σ H s)(h:∀p∈pins',s.heap.get? p.1=some p.2/\H p.1=none/\p.1≠X.env.locals/\p.1∉X.fs/\∀v,p.2.data≠.cell v):Inv X pins' σ H s :=
 ⟨I.ok,I.os,I.bare,I.base,I.loc,I.cell,I.free,I.freeC,λp hp=>(List.mem_append.mp hp).elim (λz=>I.pin p (List.mem_append_left _ z)) (h p),I.hok,I.len⟩
theorem Qz_{N:List Str}(hN:N.Nodup){i j:Nat}{x:Str}(a:N[i]? = some x)(b:N[j]? = some x):i=j:=by
 obtain⟨h1,e1⟩:=List.getElem?_eq_some_iff.mp a
 obtain⟨h2,e2⟩:=List.getElem?_eq_some_iff.mp b
 exact(List.getElem_inj hN).mp (e1.trans e2.symm)
theorem UR_{M:Model}{A:Around}{E:Value->Shared->Prop}{i:Nat}{x:Str}{v:V}{u:Value}{Q:Unit->Shared->Prop}(I:Inv X pins σ H s)(hN:X.N.Nodup)(hi:X.N[i]? = some x)(hx:Loc X.env.scope x)(r:RelV v u)
  (h:∀s',Inv X pins (σ.set i (some v)) H s'->(∃a,Heap.SameBut a s.heap s'.heap/\(a=X.env.locals\/X.env.cells.lookup x=some a))->Q () s') (hf:X.fn x=true\/X.env.scope.names.lookup x=some .local:=by first|exact .inl rfl|exact .inr rfl|assumption):wpAny M A (storeName X.env x u) Q E s:=by
 obtain⟨m,hn,hl⟩:=id I.loc
 have hcls:(X.env.scope.kind==.class||(X.env.scope.kind==.module&&X.env.locals != X.env.globals))=false:=by rw[I.ok.kind];rfl
 have hiσ:i<σ.length:=by rw[I.len];exact(List.getElem?_eq_some_iff.mp hi).1
 have cne:=I.cne
 have tracked:∀{a:Addr} {h':Heap},(∃o,s.heap.get? a=some o/\H a=none)->Heap.SameBut a s.heap h'->HOk X.prog X.w H h':=λ{a h'} ha hs b ob e=>by
  obtain⟨_,_,hfree⟩:=ha
  refine(I.hok b ob e).stay (λc w' hc q=>(hs.2 c ?_).trans q) (λ_ q=>q) λ_ _ q=>q
  rintro rfl
  rcases hc with rfl|hc
  ·rw[hfree]at e;cases e
  ·rw[hfree]at hc;cases hc
 rcases hx with hk|hk
 ·refine wpAny_storeName_local hk hn (λh' hn' hs=>?_) hcls
  obtain⟨oL,_,_,hoL,_⟩:=id hn
  refine h _ ⟨I.ok,I.os,I.bare,⟨λb o e n hb hx=>?_,λb o e n hb hx=>?_,I.base.free,λb o e hx=>?_,I.base.tups,I.base.frzs,I.base.tbls⟩,⟨_,hn',λj y v' e1 e2 e3=>?_⟩,λy c e=>?_,I.free,I.freeC,λp hp=>?_,tracked ⟨oL,hoL,I.free⟩ hs,by simpa using I.len⟩ ⟨_,hs,.inl rfl⟩
  ·exact(hs.2 b (Nat.ne_of_lt (Nat.lt_of_lt_of_le (Heap.lt_size e) I.ok.above))).trans (I.base.keep b o e n hb hx)
  ·obtain⟨sl,e1⟩:=I.base.slot b o e n hb hx
   exact⟨sl,(hs.2 b (Nat.ne_of_lt (Nat.lt_of_lt_of_le (Heap.lt_size e) I.ok.above))).trans e1⟩
  ·obtain⟨o',e1⟩:=I.base.there b o e hx
   exact⟨o',(hs.2 b (Nat.ne_of_lt (Nat.lt_of_lt_of_le (Heap.lt_size e) I.ok.above))).trans e1⟩
  ·by_cases hj:j=i
   ·subst hj
    rw[hi]at e1;cases e1
    rw[List.getElem?_set_self hiσ]at e2
    cases e2
    exact⟨u,r,.inl ⟨hk,by simp⟩⟩
   ·rw[List.getElem?_set_ne (Ne.symm hj)]at e2
    obtain⟨u',r',q⟩:=hl j y v' e1 e2 e3
    refine⟨u',r',?_⟩
    rcases q with ⟨k,e⟩|⟨k,c,e,z⟩
    ·refine .inl ⟨k,?_⟩
     have:y≠x:=λe=>hj (Qz_ hN e1 (e▸hi))
     simp[this,e]
    ·exact .inr ⟨k,c,e,z.sameBut hs (cne y c e)⟩
  ·obtain⟨w',z⟩:=I.cell y c e
   exact⟨w',z.sameBut hs (cne y c e)⟩
  ·obtain⟨e,n,ne,nf,d⟩:=I.pin p hp
   exact⟨(hs.2 p.1 ne).trans e,n,ne,nf,d⟩
 ·have hfn:X.fn x=true:=by
   rcases hf with z|z
   ·exact z
   ·rw[z]at hk;cases hk
  obtain⟨c,hc⟩:=I.ok.has x (.inl hk)
  obtain⟨w',z⟩:=I.cell x c hc
  refine wpAny_storeName_cell I.ok.kind hk hc z (λh' hc' hs=>?_)
  obtain⟨oc,hoc,hocd⟩:=id z
  refine h { s with heap:=h' } ⟨I.ok,I.os,I.bare,⟨λb o e n hb hx=>?_,λb o e n hb hx=>?_,I.base.free,λb o e hx=>?_,I.base.tups,I.base.frzs,I.base.tbls⟩,⟨m,hn.sameBut hs (Ne.symm (cne x c hc)),λj y v' e1 e2 e3=>?_⟩,λy c' e=>?_,I.free,I.freeC,λp hp=>?_,tracked ⟨oc,hoc,I.freeC x c hc⟩ hs,by simpa using I.len⟩ ⟨c,hs,.inr hc⟩
  ·exact(hs.2 b (Nat.ne_of_lt (Nat.lt_of_lt_of_le (Heap.lt_size e) (I.ok.cab x c hfn hc)))).trans (I.base.keep b o e n hb hx)
  ·obtain⟨sl,e1⟩:=I.base.slot b o e n hb hx
   exact⟨sl,(hs.2 b (Nat.ne_of_lt (Nat.lt_of_lt_of_le (Heap.lt_size e) (I.ok.cab x c hfn hc)))).trans e1⟩
  ·obtain⟨o',e1⟩:=I.base.there b o e hx
   exact⟨o',(hs.2 b (Nat.ne_of_lt (Nat.lt_of_lt_of_le (Heap.lt_size e) (I.ok.cab x c hfn hc)))).trans e1⟩
  ·by_cases hj:j=i
   ·subst hj
    rw[hi]at e1;cases e1
    rw[List.getElem?_set_self hiσ]at e2
    cases e2
    exact⟨u,r,.inr ⟨.inl hk,c,hc,hc'⟩⟩
   ·rw[List.getElem?_set_ne (Ne.symm hj)]at e2
    obtain⟨u',r',q⟩:=hl j y v' e1 e2 e3
    refine⟨u',r',?_⟩
    rcases q with q|⟨k,c',e,z'⟩
    ·exact .inl q
    ·refine .inr ⟨k,c',e,z'.sameBut hs ?_⟩
     rintro rfl
     exact hj (Qz_ hN e1 (I.ok.inj _ _ _ e hc▸hi))
  ·by_cases hcc:c'=c
   ·subst hcc;exact⟨_,hc'⟩
   ·obtain⟨w2,z2⟩:=I.cell y c' e
    exact⟨w2,z2.sameBut hs hcc⟩
  ·obtain⟨e,n,ne,nf,d⟩:=I.pin p hp
   refine⟨(hs.2 p.1 ?_).trans e,n,ne,nf,d⟩
   intro q
   rw[q,hoc]at e
   have q':oc=p.2:=Option.some.inj e
   exact d w' (by rw[<-q'];exact hocd)
theorem Ql_{M:Model}{A:Around}{E:Value->Shared->Prop}{i:Nat}{x:Str}{v:V}{u:Value}{Q:Unit->Shared->Prop}(I:Inv X pins σ H s)(hN:X.N.Nodup)(hi:X.N[i]? = some x)(hx:Loc X.env.scope x)(r:RelV v u)
  (h:∀s',Inv X pins (σ.set i (some v)) H s'->Q () s') (hf:X.fn x=true\/X.env.scope.names.lookup x=some .local:=by first|exact .inl rfl|exact .inr rfl|assumption):wpAny M A (storeName X.env x u) Q E s :=
 UR_ I hN hi hx r (λs' I' _=>h s' I') hf
theorem Inv.call'{s':Shared}{ch:List Addr}(I:Inv X pins σ H s)(ho:s'.os=s.os)(u:Un (frs X.stack) ch H H' s.heap s'.heap)(hok:HOk X.prog X.w H' s'.heap)(hg:AllBare s'.gens)
  (hch:∀b∈ch,(b∈X.ex\/X.s₀.heap.objs.size<=b)/\b≠X.env.locals/\(∀x c,X.env.cells.lookup x=some c->c≠b)/\∀p∈X.pn++pins,p.1≠b):Inv X pins σ H' s':=by
 obtain⟨h',g',d',t',o'⟩:=s'
 have e:o'=s.os:=ho
 subst e
 exact I.call (g':=g') (t':=t') (d':=d') u hok hg hch
end
noncomputable abbrev XK:=Value->Option Addr->Hp->Prop
noncomputable abbrev St:=List (Option V)
noncomputable abbrev VK:=V->Hp->Prop
noncomputable abbrev TE:=St->Hp->VK->Prop
noncomputable abbrev TT:=St->Hp->(Bool->Hp->Prop)->Prop
noncomputable abbrev TA:=St->Hp->(List V->Hp->Prop)->Prop
structure Ends where
 nx:St->Hp->Prop
 rt:VK
 bk:St->Hp->Prop:=λ_ _=>False
 ct:St->Hp->Prop:=λ_ _=>False
noncomputable abbrev TS:=Ends->St->Hp->Prop
def EP(X:Cx)(pins:List (Addr×Obj))(σ:St)(Q:VK)(u:Value)(s':Shared):Prop:=∃v H',Inv X pins σ H' s'/\RelV v u/\Q v H'
def TP(X:Cx)(pins:List (Addr×Obj))(σ:St)(Q:Bool->Hp->Prop)(b:Bool)(s':Shared):Prop:=∃H',Inv X pins σ H' s'/\Q b H'
def AP(X:Cx)(pins:List (Addr×Obj))(σ:St)(Q:List V->Hp->Prop)(us:List Value)(s':Shared):Prop:=∃vs H',Inv X pins σ H' s'/\Vals vs us/\Q vs H'
def SP(X:Cx)(pins:List (Addr×Obj))(D:Ends)(f:Flow)(s':Shared):Prop :=
 match f with
 | .next=>∃σ' H',Inv X pins σ' H' s'/\D.nx σ' H'
 | .brk=>∃σ' H',Inv X pins σ' H' s'/\D.bk σ' H'
 | .cont=>∃σ' H',Inv X pins σ' H' s'/\D.ct σ' H'
 | .ret u=>∃v σ' H',Inv X pins σ' H' s'/\RelV v u/\D.rt v H'
def PE(X:Cx)(e:Expr)(t:TE):Prop :=
 ∀(pins:List (Addr×Obj)) (s:Shared) (σ:St) (H:Hp) (Q:VK),Inv X pins σ H s->t σ H Q->wpAny (model X.prog X.w) X.A (eval e X.env) (EP X pins σ Q) X.xe s
def PT(X:Cx)(e:Expr)(t:TT):Prop :=
 ∀(pins:List (Addr×Obj)) (s:Shared) (σ:St) (H:Hp) (Q:Bool->Hp->Prop),Inv X pins σ H s->t σ H Q->wpAny (model X.prog X.w) X.A (isTrue e X.env (eval e X.env)) (TP X pins σ Q) X.xe s
def PW(X:Cx)(e:Expr)(t:TT):Prop :=
 ∀(whole:Sem Value) (pins:List (Addr×Obj)) (s:Shared) (σ:St) (H:Hp) (Q:Bool->Hp->Prop),Inv X pins σ H s->t σ H Q->wpAny (model X.prog X.w) X.A (isTrue e X.env whole) (TP X pins σ Q) X.xe s
def PA(X:Cx)(es:List Expr)(t:TA):Prop :=
 ∀(pos:Pos) (pins:List (Addr×Obj)) (s:Shared) (σ:St) (H:Hp) (Q:List V->Hp->Prop),Inv X pins σ H s->t σ H Q->wpAny (model X.prog X.w) X.A (spliced (backTo pos (starEach es X.env))) (AP X pins σ Q) X.xe s
def PS(X:Cx)(st:Stmt)(t:TS):Prop :=
 ∀(pins:List (Addr×Obj)) (s:Shared) (σ:St) (H:Hp) (D:Ends),Inv X pins σ H s->t D σ H->wpAny (model X.prog X.w) X.A (exec st X.env) (SP X pins D) X.xe s
def PSs(X:Cx)(st:List Stmt)(t:TS):Prop :=
 ∀(pins:List (Addr×Obj)) (s:Shared) (σ:St) (H:Hp) (D:Ends),Inv X pins σ H s->t D σ H->wpAny (model X.prog X.w) X.A (execs st X.env) (SP X pins D) X.xe s
theorem thn{α:Type}{t:Sem α}{Q Q':α->Shared->Prop}{M:Model}{A:Around}{E:Value->Shared->Prop}{s:Shared}(h:wpAny M A t Q E s)(hQ:∀a s,Q a s->Q' a s):wpAny M A t Q' E s:=wpAny_mono h hQ λ_ _ x=>x
section
variable {X:Cx}
noncomputable def tVar(i:Nat):TE:=λσ H Q=>∃v,σ[i]? = some (some v)/\Q v H
noncomputable def tC(v:V):TE:=λ_ H Q=>Q v H
theorem j2_{i:Nat}{x:Str}{pos:Pos}(hN:X.N[i]? = some x)(hv:Vis X.env.scope x)(hd:(x==("__debug__" : Str))=false:=by decide)(hcd:(x==("__classdict__" : Str))=false:=by decide):PE X (.Name x pos) (tVar i):=by
 intro pins s σ H Q I h
 obtain⟨v,e,h⟩:=h
 obtain⟨m,hn,hl⟩:=I.loc
 obtain⟨u,r,l⟩:=hl i x v hN e hv
 have fin:EP X pins σ Q u s:=⟨v,H,I,r,h⟩
 rcases l with ⟨hk,hm⟩|⟨hk,c,hc,hcell⟩
 ·exact wpAny_Name (wpAny_loadName_local I.ok.kind hk hn hm fin) hd
 ·rcases hk with hk|hk
  ·exact wpAny_Name (wpAny_loadName_cell I.ok.kind hk hc hcell fin) hd
  ·exact wpAny_Name (wpAny_loadName_free I.ok.kind hk hc hcell fin hcd) hd
theorem zcs_{i j pos}:PE X (.Constant (.int i) j pos) (tC (.int i)):=λ_ _ _ H _ I h=>wpAny_Constant_int ⟨.int i,H,I.tok _,⟨_,rfl⟩,h⟩
theorem zeg_{b j pos}:PE X (.Constant (.bool b) j pos) (tC (.bl b)):=λ_ _ _ H _ I h=>Constant_bool ⟨.bl b,H,I,rfl,h⟩
theorem zcp_{j pos}:PE X (.Constant .none j pos) (tC .non):=λ_ _ _ H _ I h=>Constant_none ⟨.non,H,I,rfl,h⟩
theorem zcl_{x j pos}:PE X (.Constant (.str x) j pos) (tC (.str x)):=λ_ _ _ H _ I h=>Calls.Constant_str ⟨.str x,H,I.tok _,⟨_,rfl⟩,h⟩
def Gl(X:Cx)(x:Str):Prop:=X.env.kindOf x=some .globalImplicit
theorem Uy_{E:Value->Shared->Prop}{pins:List (Addr×Obj)}{s:Shared}{σ:St}{H:Hp}{x:Str}{u:Value}{pos:Pos}{Q:Value->Shared->Prop}(I:Inv X pins σ H s)(hg:Gl X x)(hm:X.mg x=some u)(h:Q u s)
  (hd:(x==("__debug__" : Str))=false:=by decide):wpAny (model X.prog X.w) X.A (eval (.Name x pos) X.env) Q E s :=
 Calls.Name_function_global I.ok.kind hg (Calls.loadGlobal_global (by rw[I.ok.glob];exact I.mod.glob.keeps I.bk) hm h) hd
theorem Yk_{E:Value->Shared->Prop}{pins:List (Addr×Obj)}{s:Shared}{σ:St}{H:Hp}{x:Str}{u:Value}{pos:Pos}{Q:Value->Shared->Prop}(I:Inv X pins σ H s)(hg:Gl X x)(hm:X.mg x=none)(hv:bootBuiltins x=some u)(h:Q u s)
  (hn:x ≠ "__name__":=by decide) (hd:(x==("__debug__" : Str))=false:=by decide):wpAny (model X.prog X.w) X.A (eval (.Name x pos) X.env) Q E s:=by
 obtain⟨mb,h1,h2⟩:=I.mod.blt
 exact Calls.Name_function_global I.ok.kind hg (Calls.loadGlobal_builtin (by rw[I.ok.glob];exact I.mod.glob.keeps I.bk) hm (by rw[I.ok.blt];exact h1.keeps I.bk) ((h2 x hn).trans hv) h) hd
theorem Wb_{x:Str}{v:V}{u:Value}{pos:Pos}(hg:Gl X x)(hm:X.mg x=some u)(r:RelV v u)(hd:(x==("__debug__" : Str))=false:=by decide):PE X (.Name x pos) (tC v) :=
 λ_ _ _ H _ I h=>Uy_ I hg hm ⟨v,H,I,r,h⟩ hd
theorem zaY_{x:Str}{v:V}{u:Value}{pos:Pos}(hg:Gl X x)(hm:X.mg x=none)(hv:bootBuiltins x=some u)(r:RelV v u)(hn:x ≠ "__name__":=by decide)(hd:(x==("__debug__" : Str))=false:=by decide):PE X (.Name x pos) (tC v) :=
 λ_ _ _ H _ I h=>Yk_ I hg hm hv ⟨v,H,I,r,h⟩ hn hd
variable {a b:Expr}{ta tb:TE}{pos:Pos}
variable {tA tB':TT}{rest:List Expr}
noncomputable def tAnd(t u:TT):TT:=λσ H Q=>t σ H λc H1=>if c=true then u σ H1 Q else Q false H1
noncomputable def tOr(t u:TT):TT:=λσ H Q=>t σ H λc H1=>if c=true then Q true H1 else u σ H1 Q
noncomputable def tNot(t:TT):TT:=λσ H Q=>t σ H λc H1=>Q (!c) H1
theorem zaQ_(ha:PT X a tA):PW X (.BoolOp .And [a] pos) tA:=by
 intro wh pins s σ H Q I h
 refine isTrue_and (thn (ha pins s σ H Q I h) λc s1 e=>?_)
 cases c with
 | true=>exact isTrue_and_nil e
 | false=>exact e
theorem zcf_(ha:PT X a tA):PW X (.BoolOp .Or [a] pos) tA:=by
 intro wh pins s σ H Q I h
 refine isTrue_or (thn (ha pins s σ H Q I h) λc s1 e=>?_)
 cases c with
 | false=>exact isTrue_or_nil e
 | true=>exact e
theorem zcg_(ha:PT X a tA)(hb:PW X (.BoolOp .And (b::rest) pos) tB'):PW X (.BoolOp .And (a::b::rest) pos) (tAnd tA tB'):=by
 intro wh pins s σ H Q I h
 refine isTrue_and (thn (ha pins s σ H _ I h) λc s1 ⟨H1,I1,q1⟩=>?_)
 cases c with
 | true=>exact hb wh pins s1 σ H1 Q I1 q1
 | false=>exact⟨H1,I1,q1⟩
theorem zea_(ha:PT X a tA)(hb:PW X (.BoolOp .Or (b::rest) pos) tB'):PW X (.BoolOp .Or (a::b::rest) pos) (tOr tA tB'):=by
 intro wh pins s σ H Q I h
 refine isTrue_or (thn (ha pins s σ H _ I h) λc s1 ⟨H1,I1,q1⟩=>?_)
 cases c with
 | true=>exact⟨H1,I1,q1⟩
 | false=>exact hb wh pins s1 σ H1 Q I1 q1
theorem X4_(ha:PT X a tA):PT X (.UnaryOp .Not a pos) (tNot tA):=by
 intro pins s σ H Q I h
 exact isTrue_not (ha pins s σ H (λc H1=>Q (!c) H1) I h)
noncomputable def zdL_(ta tb:TE):TE:=λσ H Q=>ta σ H λx H1=>∃c,x=.bl c/\if c=true then tb σ H1 Q else Q (.bl false) H1
noncomputable def zdH_(ta:TE):TE:=λσ H Q=>ta σ H λx H1=>∃c,x=.bl c/\Q (.bl (!c)) H1
theorem zcn_{op}{t:TE}(h:PE X a t):PE X (.BoolOp op [a] pos) t:=λpins s σ H Q I hw=>BoolOp_one (h pins s σ H Q I hw)
theorem zcu_(ha:PE X a ta)(hb:PE X (.BoolOp .And (b::rest) pos) tb):PE X (.BoolOp .And (a::b::rest) pos) (zdL_ ta tb):=by
 intro pins s σ H Q I h
 refine BoolOp_and (thn (ha pins s σ H _ I h) λv s1 ⟨x,H1,I1,r1,q1⟩=>?_)
 obtain⟨c,rfl,q1⟩:=q1
 cases r1
 refine wpAny_truthy_bool ?_
 cases c with
 | true=>exact hb pins s1 σ H1 Q I1 q1
 | false=>exact⟨.bl false,H1,I1,rfl,q1⟩
theorem zco_(ha:PE X a ta):PE X (.UnaryOp .Not a pos) (zdH_ ta):=by
 intro pins s σ H Q I h
 refine UnaryOp_ (thn (ha pins s σ H _ I h) λv s1 ⟨x,H1,I1,r1,q1⟩=>?_)
 obtain⟨c,rfl,q1⟩:=q1
 cases r1
 exact not_of (wpAny_truthy_bool ⟨.bl (!c),H1,I1,rfl,q1⟩)
noncomputable def tIf(t:TT)(ta tb:TE):TE:=λσ H Q=>t σ H λc H1=>if c=true then ta σ H1 Q else tb σ H1 Q
theorem Qv_{c:Expr}(hc:PT X c tA)(ha:PE X a ta)(hb:PE X b tb):PE X (.IfExp c a b pos) (tIf tA ta tb):=by
 intro pins s σ H Q I h
 refine wpAny_IfExp (thn (hc pins s σ H _ I h) λd s1 ⟨H1,I1,q1⟩=>?_)
 cases d with
 | true=>exact ha pins s1 σ H1 Q I1 q1
 | false=>exact hb pins s1 σ H1 Q I1 q1
end
def SqL(K:PySem.W.Frag)(H:Hp)(a:Addr)(xs:List V):Prop :=
 Rd H a (.lst xs) \/
  ∃(o:Obj) (its:Array Value) (n:Nat),K.lookup a=some o/\o.cls=.type "list" /\ o.dict=none/\o.data=.seq its n/\its.size<=sizeLine/\Vals xs its.toList
def SqT(K:PySem.W.Frag)(H:Hp)(a:Addr)(xs:List V):Prop :=
 Rd H a (.tup xs) \/
  ∃(o:Obj) (its:Array Value) (n:Nat),K.lookup a=some o/\o.cls=.type "tuple" /\ o.data=.seq its n/\its.size<=sizeLine/\Vals xs its.toList
noncomputable def absV:Value->Option V
 | .none=>some .non
 | .bool b=>some (.bl b)
 | .int i _=>some (.int i)
 | .str x _=>some (.str x)
 | .bytes b _=>some (.byt b)
 | .float b _=>some (.flt b)
 | .ref a=>some (.ref a)
 | .type n=>some (.ty n)
 | _=>none
theorem RelV.abs{x:V}{u:Value}(r:RelV x u):absV u=some x:=by
 cases x with
 | non=>cases r;rfl
 | bl _=>cases r;rfl
 | int _=>obtain⟨t,rfl⟩:=r;rfl
 | str _=>obtain⟨t,rfl⟩:=r;rfl
 | byt _=>obtain⟨t,rfl⟩:=r;rfl
 | flt _=>obtain⟨t,rfl⟩:=r;rfl
 | ref _=>cases r;rfl
 | ty _=>cases r;rfl
theorem RelV.inj{x y:V}{u:Value}(r:RelV x u)(q:RelV y u):x=y:=Option.some.inj (r.abs.symm.trans q.abs)
theorem Vals.inj:∀{xs ys:List V} {us:List Value},Vals xs us->Vals ys us->xs=ys:=by
 intro xs ys us h
 induction h generalizing ys with
 | nil=>intro h2;cases h2;rfl
 | cons r _ ih =>
  intro h2
  cases h2 with
  | cons r' t'=>rw[r.inj r',ih t']
section
variable {X:Cx}{pins:List (Addr×Obj)}{σ:St}{H:Hp}{s:Shared}{a:Addr}{xs ys:List V}
theorem SqT.of{K:PySem.W.Frag}(h:H a=some (.tup xs)):SqT K H a xs:=.inl (.inl h)
theorem Inv.list(I:Inv X pins σ H s)(h:SqL X.K H a xs):∃its:List Value,Vals xs its/\PlainL s.heap a its.toArray/\xs.length<=sizeLine:=by
 rcases h with h|⟨o,its,n,hk,hc,hd,hs,hz,r⟩
 ·obtain⟨z,its,n,r,e⟩:=h.ok I.hok
  exact⟨its,r,⟨_,n,e,rfl,rfl,rfl⟩,z⟩
 ·refine⟨its.toList,r,⟨o,n,I.kIn a o hk,hc,hd,by simpa using hs⟩,?_⟩
  have e:=r.length
  simp only[Array.length_toList]at e
  lia
theorem Inv.tuple(I:Inv X pins σ H s)(h:SqT X.K H a xs):∃its:List Value,Vals xs its/\IsTup s.heap a its.toArray/\xs.length<=sizeLine:=by
 rcases h with h|⟨o,its,n,hk,hc,hs,hz,r⟩
 ·obtain⟨z,its,r,p⟩:=h.ok I.hok
  exact⟨its,r,p.1,z⟩
 ·refine⟨its.toList,r,⟨o,I.kIn a o hk,hc,n,by simpa using hs⟩,?_⟩
  have e:=r.length
  simp only[Array.length_toList]at e
  lia
theorem Inv.list_inj(I:Inv X pins σ H s)(h:SqL X.K H a xs)(h':SqL X.K H a ys):xs=ys:=by
 obtain⟨its,r,⟨o,n,e,_,_,d⟩,_⟩:=I.list h
 obtain⟨its',r',⟨o',n',e',_,_,d'⟩,_⟩:=I.list h'
 rw[e]at e';cases e'
 rw[d]at d'
 injection d' with d1 _
 have:its=its':=by simpa using congrArg Array.toList d1
 subst this
 exact r.inj r'
theorem Inv.tuple_inj(I:Inv X pins σ H s)(h:SqT X.K H a xs)(h':SqT X.K H a ys):xs=ys:=by
 obtain⟨its,r,⟨o,e,_,n,d⟩,_⟩:=I.tuple h
 obtain⟨its',r',⟨o',e',_,n',d'⟩,_⟩:=I.tuple h'
 rw[e]at e';cases e'
 rw[d]at d'
 injection d' with d1 _
 have:its=its':=by simpa using congrArg Array.toList d1
 subst this
 exact r.inj r'
end
section
variable {X:Cx}{st:Stmt}{rest:List Stmt}{t u:TS}{e:Expr}{te:TE}{pos:Pos}
noncomputable def zdI_:TS:=λD σ H=>D.nx σ H
noncomputable def tSeq(t u:TS):TS:=λD σ H=>t { D with nx:=u D } σ H
theorem V3_:PSs X [] zdI_:=λ_ _ σ H _ I h=>wpAny_execs_nil ⟨σ,H,I,h⟩
theorem Um_(h1:PS X st t)(h2:PSs X rest u):PSs X (st::rest) (tSeq t u):=by
 intro pins s σ H D I h
 refine wpAny_execs_cons (thn (h1 pins s σ H { D with nx:=u D } I h) λf s1 q=>?_)
 cases f with
 | next =>
  obtain⟨σ',H',I',q⟩:=q
  exact h2 pins s1 σ' H' D I' q
 | ret v=>exact q
 | brk=>exact q
 | cont=>exact q
theorem zaS_(h1:PS X st t):PSs X [st] t:=by
 intro pins s σ H D I h
 refine wpAny_execs_cons (thn (h1 pins s σ H D I h) λf s1 q=>?_)
 cases f with
 | next=>exact wpAny_execs_nil q
 | ret v=>exact q
 | brk=>exact q
 | cont=>exact q
theorem Inv.quiet{pins:List (Addr×Obj)}{σ:St}{H:Hp}{s:Shared}(I:Inv X pins σ H s):interactive X.env=false:=by simp[interactive,I.ok.kind]
noncomputable def zdJ_(te:TE):TS:=λD σ H=>te σ H λ_ H1=>D.nx σ H1
theorem V6_(he:PE X e te)(hs:swapsWith e none pos.line X.env=pure false:=by rfl):PS X (.Expr e pos) (zdJ_ te):=by
 intro pins s σ H D I h
 exact wpAny_Expr_any (thn (he pins s σ H _ I h) λv s1 ⟨x,H1,I1,r1,q1⟩=>⟨σ,H1,I1,q1⟩) I.quiet hs
noncomputable def tRet(te:TE):TS:=λD σ H=>te σ H D.rt
theorem X6_(he:PE X e te):PS X (.Return (some e) pos) (tRet te):=by
 intro pins s σ H D I h
 exact wpAny_Return_some (thn (he pins s σ H _ I h) λv s1 ⟨x,H1,I1,r1,q1⟩=>⟨x,σ,H1,I1,r1,q1⟩)
noncomputable def tIfS(c:TT)(t u:TS):TS:=λD σ H=>c σ H λb H1=>if b=true then t D σ H1 else u D σ H1
theorem zed_{c:Expr}{a b:List Stmt}{tc:TT}(hc:PT X c tc)(ha:PSs X a t)(hb:PSs X b u):PS X (.If c a b pos) (tIfS tc t u):=by
 intro pins s σ H D I h
 refine wpAny_If (thn (hc pins s σ H _ I h) λd s1 ⟨H1,I1,q1⟩=>?_)
 cases d with
 | true=>exact ha pins s1 σ H1 D I1 q1
 | false=>exact hb pins s1 σ H1 D I1 q1
end
noncomputable abbrev TG:=V->St->Hp->(St->Hp->Prop)->Prop
def PG(X:Cx)(target:Expr)(t:TG):Prop :=
 ∀(pins:List (Addr×Obj)) (s:Shared) (σ:St) (H:Hp) (v:V) (u:Value) (Q:St->Hp->Prop),Inv X pins σ H s->RelV v u->t v σ H Q ->
  wpAny (model X.prog X.w) X.A (assign target X.env u) (λ_ s'=>∃σ' H',Inv X pins σ' H' s'/\Q σ' H') X.xe s
noncomputable abbrev TSet:=V->V->V->Hp->(Hp->Prop)->Prop
def PSet(X:Cx)(t:TSet):Prop :=
 ∀(pins:List (Addr×Obj)) (s:Shared) (σ:St) (H:Hp) (o i v:V) (ov iv u:Value) (Q:Hp->Prop),Inv X pins σ H s->RelV o ov->RelV i iv->RelV v u->t o i v H Q ->
  wpAny (model X.prog X.w) X.A (setItem ov iv u) (λ_ s'=>∃H',Inv X pins σ H' s'/\Q H') X.xe s
section
variable {X:Cx}{pos:Pos}
noncomputable def WH_(i:Nat):TG:=λv σ H Q=>Q (σ.set i (some v)) H
theorem zaW_{i:Nat}{x:Str}(hN:X.N.Nodup)(hi:X.N[i]? = some x)(hx:Loc X.env.scope x)(hf:X.fn x=true\/X.env.scope.names.lookup x=some .local:=by first|exact .inl rfl|exact .inr rfl|assumption):PG X (.Name x pos) (WH_ i):=by
 intro pins s σ H v u Q I r h
 exact wpAny_assign_Name (Ql_ I hN hi hx r (λs' I'=>⟨_,H,I',h⟩) hf)
noncomputable def gSub(to ti:TE)(t:TSet):TG:=λv σ H Q=>to σ H λo H1=>ti σ H1 λi H2=>t o i v H2 λH3=>Q σ H3
theorem zck_{o i:Expr}{to ti:TE}{t:TSet}(ho:PE X o to)(hi:PE X i ti)(hs:PSet X t)
  (ha:∀v,assign (.Subscript o i pos) X.env v=(do
   let ov <-holding [v] (eval o X.env)
   let iv <-holding [v,ov] (eval i X.env)
   standAt pos
   holding [v,ov,iv] (setItem ov iv v)
   release [v,ov,iv] []):=by intro _;rfl):PG X (.Subscript o i pos) (gSub to ti t):=by
 intro pins s σ H v u Q I r h
 rw[ha]
 refine zza (wpAny_holding (thn (ho pins s σ H _ I h) λov s1 ⟨x,H1,I1,r1,q1⟩=>?_))
 refine zza (wpAny_holding (thn (hi pins s1 σ H1 _ I1 q1) λiv s2 ⟨y,H2,I2,r2,q2⟩=>?_))
 refine zza (wpAny_standAt (zza (wpAny_holding (thn (hs pins s2 σ H2 x y v ov iv u _ I2 r1 r2 r q2) λ_ s3 ⟨H3,I3,q3⟩=>?_))))
 exact wpAny_release ⟨σ,H3,I3,q3⟩
noncomputable def tAsg(te:TE)(g:TG):TS:=λD σ H=>te σ H λx H1=>g x σ H1 D.nx
theorem zcj_{tg e:Expr}{te:TE}{g:TG}(he:PE X e te)(hg:PG X tg g)(hs:swapsWithSole [tg] e pos.line X.env=pure false:=by rfl)(hw:swappedStores [tg] e X.env=pure none:=by rfl)
  (h1:(assignEach [tg] X.env).map (·.2)=[assign tg X.env]:=by rfl):PS X (.Assign [tg] e pos) (tAsg te g):=by
 intro pins s σ H D I h
 refine wpAny_Assign_stores (thn (he pins s σ H _ I h) λv s1 ⟨x,H1,I1,r1,q1⟩=>?_) hs hw
 rw[h1]
 exact thn (hg pins s1 σ H1 x v _ I1 r1 q1) λ_ s2 q=>q
theorem V4_{i:Nat}{x:Str}{e:Expr}{te:TE}{pos':Pos}(hN:X.N.Nodup)(hi:X.N[i]? = some x)(hx:Loc X.env.scope x)(he:PE X e te)(hs:swapsWith e (some (.Name x pos')) pos.line X.env=pure false:=by rfl)(hf:X.fn x=true\/X.env.scope.names.lookup x=some .local:=by first|exact .inl rfl|exact .inr rfl|assumption) :
  PS X (.Assign [.Name x pos'] e pos) (tAsg te (WH_ i)):=by
 intro pins s σ H D I h
 refine wpAny_Assign_Name (thn (he pins s σ H _ I h) λv s1 ⟨y,H1,I1,r1,q1⟩=>?_) hs
 exact Ql_ I1 hN hi hx r1 (λs2 I2=>⟨_,H1,I2,q1⟩) hf
end
structure It where
 go:Nat->Hp->Prop
 yld:Nat->Hp->V->Hp->Prop
 stop:Nat->Hp->Prop
def FpOk(X:Cx)(pins:List (Addr×Obj))(H:Hp)(b:Addr):Prop :=
 H b=none/\b≠X.env.locals/\b∉X.fs/\(b∈X.ex\/X.s₀.heap.objs.size<=b)/\(∀x c,X.env.cells.lookup x=some c->c≠b)/\∀p∈X.pn++pins,p.1≠b
theorem Inv.fpOk{X:Cx}{pins:List (Addr×Obj)}{σ:St}{H H':Hp}{s:Shared}{b:Addr}(I:Inv X pins σ H s)(hb:s.heap.objs.size<=b)(hn:H' b=none):FpOk X pins H' b:=by
 refine⟨hn,Nat.ne_of_gt (Nat.lt_of_lt_of_le I.lt hb),I.nofs hb,.inr (Nat.le_trans I.sz hb),λx c e z=>?_,λp hp z=>?_⟩
 ·obtain⟨v,q⟩:=I.cell x c e
  exact absurd (Nat.lt_of_lt_of_le q.lt (by rw[z];exact hb)) (Nat.lt_irrefl _)
 ·exact absurd (Nat.lt_of_lt_of_le (Heap.lt_size (I.pin p hp).1) (by rw[z];exact hb)) (Nat.lt_irrefl _)
structure Turn(P:Program)(w:World)(K:PySem.W.Frag)(tg:Expr)(J:It)(fp:List Addr)(it:Addr)(tn:Nat->Heap->Prop):Prop where
 mem:it∈fp
 obj:∀i h,tn i h->∀b∈fp,∃o,h.get? b=some o/\∀v,o.data≠.cell v
 keep:∀i h h',tn i h->(∀b∈fp,∀o,h.get? b=some o->h'.get? b=some o)->tn i h'
 item:∀(X:Cx),X.prog=P->X.w=w->X.K=K->X.calm=true->∀(i:Nat) (pins:List (Addr×Obj)) (s:Shared) (σ:St) (H:Hp) (E:Value->Shared->Prop),Inv X pins σ H s->(∀b∈fp,FpOk X pins H b)->tn i s.heap->J.go i H ->
  wpAny (model P w) X.A (pyNext (.ref it)) (λr s1=>∃u,r=some u /\
   wpAny (model P w) X.A (letOwnedTupleGo tg (.ref it) u) (λ_ s2=>∃x H',Inv X pins σ H' s2/\RelV x u/\J.yld i H x H'/\tn (i+1) s2.heap/\∀b∈fp,H' b=none) E s1) E s
 done:∀(X:Cx),X.prog=P->X.w=w->X.K=K->X.calm=true->∀(i:Nat) (pins:List (Addr×Obj)) (s:Shared) (σ:St) (H:Hp) (E:Value->Shared->Prop),Inv X pins σ H s->(∀b∈fp,FpOk X pins H b)->tn i s.heap->J.stop i H ->
  wpAny (model P w) X.A (pyNext (.ref it)) (λr s1=>r=none/\Inv X pins σ H s1) E s
 self:∀(A:Around) (i:Nat) (s:Shared) (Q:Value->Shared->Prop) (E:Value->Shared->Prop),tn i s.heap->Q (.ref it) s->wpAny (model P w) A (pyIter (.ref it)) Q E s
noncomputable abbrev TI:=St->Hp->(It->Hp->Prop)->Prop
def PIE(X:Cx)(pins:List (Addr×Obj))(σ:St)(tg:Expr)(R:It->Hp->Prop)(itv:Value)(s2:Shared):Prop :=
 ∃(it:Addr) (fp:List Addr) (tn:Nat->Heap->Prop) (J:It) (H':Hp),itv=.ref it/\Inv X pins σ H' s2/\Turn X.prog X.w X.K tg J fp it tn/\tn 0 s2.heap/\(∀b∈fp,FpOk X pins H' b)/\R J H'
def PI(X:Cx)(tg iter:Expr)(wi:TI):Prop :=
 ∀(pins:List (Addr×Obj)) (s:Shared) (σ:St) (H:Hp) (R:It->Hp->Prop),Inv X pins σ H s->wi σ H R ->
  wpAny (model X.prog X.w) X.A (eval iter X.env) (λv s1=>wpAny (model X.prog X.w) X.A (pyIter v) (PIE X pins σ tg R) X.xe s1) X.xe s
theorem XK_{M:Model}{A:Around}{E:Value->Shared->Prop}{s:Shared}{tg:Expr}{it:Addr}{u:Value}{o:Obj}{n:String}{vs:Array Value}{Q:Unit->Shared->Prop}(ho:s.heap.get? it=some o)(hc:o.cls=.type n)(hd:o.data=.fields vs)
  (hn:["enumerate", "zip", "dict_itemiterator", "dict_reverseitemiterator", "odict_iterator", "itertools.zip_longest", "itertools.pairwise"].contains n=false) (hQ:Q () s):wpAny M A (letOwnedTupleGo tg (.ref it) u) Q E s:=by
 unfold letOwnedTupleGo
 cases tg<;>first
  | exact zzb hQ
  | (cases u<;>first
     | exact zzb hQ
     | (refine zza (wpAny_load ho ?_)
        rw[hc,hd]
        show wpAny M A (if(["enumerate", "zip", "dict_itemiterator", "dict_reverseitemiterator", "odict_iterator", "itertools.zip_longest", "itertools.pairwise"].contains n&&vs[0]? == some (rawInt _))=true then _ else _) Q E s
        rw[if_neg (by intro h;rw[hn,Bool.false_and]at h;cases h)]
        exact zzb hQ))
noncomputable def Itl(K:PySem.W.Frag)(a:Addr):It :=
 ⟨λi H=>∃xs x,SqL K H a xs/\xs[i]? = some x,λi H x H'=>H'=H/\∀xs,SqL K H a xs->xs[i]? = some x,λi H=>∃xs,SqL K H a xs/\xs.length<=i⟩
noncomputable def Itt(K:PySem.W.Frag)(a:Addr):It :=
 ⟨λi H=>∃xs x,SqT K H a xs/\xs[i]? = some x,λi H x H'=>H'=H/\∀xs,SqT K H a xs->xs[i]? = some x,λi H=>∃xs,SqT K H a xs/\xs.length<=i⟩
noncomputable def Itr(lo:Int)(n:Nat):It:=⟨λi _=>i<n,λi H x H'=>H'=H/\x=.int (lo+i),λi _=>n<=i⟩
theorem VG_{P:Program}{w:World}{K:PySem.W.Frag}{tg:Expr}(a it:Addr):Turn P w K tg (Itl K a) [it] it (λi h=>h.IsListIter it a i) where
 mem:=by simp
 obj:=λi h st b hb=>by
  have e:b=it:=by simpa using hb
  subst e
  obtain⟨o,e,c,d⟩:=st
  exact⟨o,e,λv z=>by rw[d]at z;cases z⟩
 keep:=λi h h' st k=>st.at λo e=>k it (by simp) o e
 item:=by
  intro X hP hw hK hc i pins s σ H E I hf st hg
  subst hP hw hK
  obtain⟨xs,x,hq,hx⟩:=hg
  obtain⟨its,rv,p,hz⟩:=I.list hq
  obtain⟨u,hu,ru⟩:=rv.get hx
  obtain⟨f0,f1,f2,f3,f4,f5⟩:=hf it (by simp)
  refine wpAny_pyNext_list_item st p.isList (x:=u) (by simpa using hu) λh' st' sb=>?_
  have I1:Inv X pins σ H { s with heap:=h' }:=I.turned (t':=s.toks) (λb o hb e=>(sb.2 b hb).trans e) f0 f1 f3 f4 f5
  obtain⟨o,e,c,d⟩:=id st'
  exact⟨u,rfl,XK_ (s:={ s with heap:=h' }) e c d (by decide) ⟨x,H,I1,ru,⟨rfl,λys hy=>by rw[I.list_inj hy hq];exact hx⟩,st',λb hb=>(hf b hb).1⟩⟩
 done:=by
  intro X hP hw hK hc i pins s σ H E I hf st hg
  subst hP hw hK
  obtain⟨xs,hq,hx⟩:=hg
  obtain⟨its,rv,p,hz⟩:=I.list hq
  obtain⟨f0,f1,f2,f3,f4,f5⟩:=hf it (by simp)
  have hl:=rv.length
  exact wpAny_pyNext_list_end (I.ok.hd hc) st p.isList (by simp;lia) λh' eb=>⟨rfl,I.turned (t':=s.toks) (λb o hb e=>eb b o hb e) f0 f1 f3 f4 f5⟩
 self:=λ_ _ _ _ _ st h=>wpAny_pyIter_listiter st h
theorem QZ_{P:Program}{w:World}{K:PySem.W.Frag}{tg:Expr}(a it:Addr):Turn P w K tg (Itt K a) [it] it (λi h=>h.IsTupleIter it a i) where
 mem:=by simp
 obj:=λi h st b hb=>by
  have e:b=it:=by simpa using hb
  subst e
  obtain⟨o,e,c,d⟩:=st
  exact⟨o,e,λv z=>by rw[d]at z;cases z⟩
 keep:=λi h h' st k=>st.at λo e=>k it (by simp) o e
 item:=by
  intro X hP hw hK hc i pins s σ H E I hf st hg
  subst hP hw hK
  obtain⟨xs,x,hq,hx⟩:=hg
  obtain⟨its,rv,p,hz⟩:=I.tuple hq
  obtain⟨u,hu,ru⟩:=rv.get hx
  obtain⟨f0,f1,f2,f3,f4,f5⟩:=hf it (by simp)
  refine wpAny_pyNext_tuple_item st (show s.heap.IsTuple a its.toArray from p) (x:=u) (by simpa using hu) λh' st' sb=>?_
  have I1:Inv X pins σ H { s with heap:=h' }:=I.turned (t':=s.toks) (λb o hb e=>(sb.2 b hb).trans e) f0 f1 f3 f4 f5
  obtain⟨o,e,c,d⟩:=id st'
  exact⟨u,rfl,XK_ (s:={ s with heap:=h' }) e c d (by decide) ⟨x,H,I1,ru,⟨rfl,λys hy=>by rw[I.tuple_inj hy hq];exact hx⟩,st',λb hb=>(hf b hb).1⟩⟩
 done:=by
  intro X hP hw hK hc i pins s σ H E I hf st hg
  subst hP hw hK
  obtain⟨xs,hq,hx⟩:=hg
  obtain⟨its,rv,p,hz⟩:=I.tuple hq
  obtain⟨f0,f1,f2,f3,f4,f5⟩:=hf it (by simp)
  have hl:=rv.length
  exact wpAny_pyNext_tuple_end (I.ok.hd hc) st (show s.heap.IsTuple a its.toArray from p) (by simp;lia) λh' eb=>⟨rfl,I.turned (t':=s.toks) (λb o hb e=>eb b o hb e) f0 f1 f3 f4 f5⟩
 self:=λ_ _ _ _ _ st h=>wpAny_pyIter_tupleiter st h
theorem Q0_{P:Program}{w:World}{K:PySem.W.Frag}{tg:Expr}(it:Addr)(lo:Int)(n:Nat):Turn P w K tg (Itr lo n) [it] it (λi h=>IsRangeIter h it (lo+(i:Nat)*1) ((n:Int) - (i:Nat)) 1) where
 mem:=by simp
 obj:=λi h st b hb=>by
  have e:b=it:=by simpa using hb
  subst e
  exact⟨_,st,λv z=>by
   have z':Data.fields _=Data.cell v:=z
   cases z'⟩
 keep:=λi h h' st k=>k it (by simp) _ st
 item:=by
  intro X hP hw hK hc i pins s σ H E I hf st hg
  subst hP hw hK
  obtain⟨f0,f1,f2,f3,f4,f5⟩:=hf it (by simp)
  have W:=Walks.range (prog:=X.prog) (w:=X.w) (I.ok.hd hc) it lo 1 n
  refine W.item i s _ _ hg st λv h' tk hv st' kk=>?_
  obtain⟨t,rfl⟩:=hv
  have I1:Inv X pins σ H { s with heap:=h',toks:=tk }:=I.turned (λb o hb e=>kk b o (by simpa using hb) e) f0 f1 f3 f4 f5
  refine⟨_,rfl,XK_ (s:={ s with heap:=h',toks:=tk }) (n := "range_iterator") st' rfl rfl (by decide) ⟨.int (lo+i),H,I1,⟨t,?_⟩,⟨rfl,rfl⟩,st',λb hb=>(hf b hb).1⟩⟩
  rw[Int.mul_one]
 done:=by
  intro X hP hw hK hc i pins s σ H E I hf st hg
  subst hP hw hK
  obtain⟨f0,f1,f2,f3,f4,f5⟩:=hf it (by simp)
  exact wpAny_pyNext_range_end (I.ok.hd hc) st (by have:n<=i:=hg;lia) λh' eb=>⟨rfl,I.turned (t':=s.toks) (λb o hb e=>eb b o hb e) f0 f1 f3 f4 f5⟩
 self:=λ_ _ _ _ _ st h=>wpAny_pyIter_rangeiter st h
section
variable {X:Cx}{tg:Expr}
theorem Qt_{pins:List (Addr×Obj)}{σ:St}{H:Hp}{s:Shared}{R:It->Hp->Prop}{E:Value->Shared->Prop}{lo hi:Int}{t u v:Tok}{tk:Nat}(I:Inv X pins σ H s)(h1 : -(2^62)<=lo)(h2:lo<2^62)(h3 : -(2^62)<=hi)(h4:hi<2^62)
  (q:R (Itr lo (hi - lo).toNat) H):wpAny (model X.prog X.w) X.A (pyIter (.ref s.heap.objs.size)) (PIE X pins σ tg R) E { s with heap:=s.heap.push { cls:=.type "range",data:=.fields #[.int lo t,.int hi u,.int 1 v] },toks:=tk }:=by
 refine wpAny_pyIter_range (IsRange.new ..) (small_one h1 h2 h3 h4) ?_
 have I1:Inv X pins σ H { s with heap:=s.heap.push { cls:=.type "range",data:=.fields #[.int lo t,.int hi u,.int 1 v] },toks:=tk }:=I.kept λb o e=>zzc _ e
 refine⟨(s.heap.push { cls:=.type "range",data:=.fields #[.int lo t,.int hi u,.int 1 v] }).objs.size,[(s.heap.push { cls:=.type "range",data:=.fields #[.int lo t,.int hi u,.int 1 v] }).objs.size],_,_,H,rfl,
  I1.kept (t':=tk) λb o e=>zzc _ e,Q0_ _ lo (hi - lo).toNat,?_,λb hb=>?_,q⟩
 ·have e1:lo+((0:Nat):Int)*1=lo:=by simp
  have e2:(((hi - lo).toNat:Nat):Int) - ((0:Nat):Int)=Builtin.Range.rangeSize lo hi 1:=by rw[rangeSize_one];split<;>lia
  show IsRangeIter _ _ (lo+((0:Nat):Int)*1) ((((hi - lo).toNat:Nat):Int) - ((0:Nat):Int)) 1
  rw[e1,e2]
  exact zze _ rfl
 ·have e:b=(s.heap.push { cls:=.type "range",data:=.fields #[.int lo t,.int hi u,.int 1 v] }).objs.size:=by simpa using hb
  subst e
  exact I1.fpOk (Nat.le_refl _) (I1.hok.fresh (Nat.le_refl _))
def zew_(ta:TA):TI:=λσ H R=>ta σ H λvs H1=>∃j:Int,vs=[.int j] /\ -(2^62)<=j/\j<2^62/\R (Itr 0 j.toNat) H1
def zev_(ta:TA):TI:=λσ H R=>ta σ H λvs H1=>∃i j:Int,vs=[.int i,.int j]/\(-(2^62)<=i/\i<2^62 /\ -(2^62)<=j/\j<2^62)/\R (Itr i (j - i).toNat) H1
theorem V9_{a:Expr}{ta:TA}{p pos:Pos}(hg:Gl X "range")(hm:X.mg "range" = none)(ha:PA X [a] ta)(hs:starEach [a] X.env=[(false,eval a X.env)]:=by rfl):PI X tg (.Call (.Name "range" p) [a] [] pos) (zew_ ta):=by
 intro pins s σ H R I h
 refine Call_ (Yk_ I hg hm boot_range (PyProof.Rows.callWith_type1 (thn (ha pos pins s σ H _ I h) λus s1 ⟨vs,H1,I1,r1,q1⟩=>?_) hs rfl))
 obtain⟨j,e,q1,q2,q⟩:=q1
 subst e
 cases r1 with
 | cons r rr =>
  cases rr
  obtain⟨t,rfl⟩:=r
  exact call_range_1 (Qt_ I1 (by lia) (by lia) q1 q2 (by simpa using q))
theorem V8_{a b:Expr}{ta:TA}{p pos:Pos}(hg:Gl X "range")(hm:X.mg "range" = none)(ha:PA X [a,b] ta)(hs:starEach [a,b] X.env=[(false,eval a X.env),(false,eval b X.env)]:=by rfl)(hs2:starEach [b] X.env=[(false,eval b X.env)]:=by rfl) :
  PI X tg (.Call (.Name "range" p) [a,b] [] pos) (zev_ ta):=by
 intro pins s σ H R I h
 refine Call_ (Yk_ I hg hm boot_range (PyProof.Rows.callWith_type1 (thn (ha pos pins s σ H _ I h) λus s1 ⟨vs,H1,I1,r1,q1⟩=>?_) (by rw[hs,hs2]) (by rw[hs2];rfl)))
 obtain⟨i,j,e,⟨q1,q2,q3,q4⟩,q⟩:=q1
 subst e
 cases r1 with
 | cons r rr =>
  cases rr with
  | cons r' rr =>
   cases rr
   obtain⟨t,rfl⟩:=r
   obtain⟨t',rfl⟩:=r'
   exact call_range_2 (Qt_ I1 q1 q2 q3 q4 q)
noncomputable def tFor(wi:TI)(g:TG)(tb:TS):TS:=λD σ H=>wi σ H λJ H1=>∃W:Nat->Nat->St->Hp->Prop,(∃m,W 0 m σ H1)/\∀i m σ H,W i m σ H ->
 (J.stop i H/\D.nx σ H)\/(J.go i H/\∃N:St->Hp->Prop,(∀σ' H',N σ' H'->∃m',m'<m/\W (i+1) m' σ' H')/\∀x H',J.yld i H x H'->g x σ H' λσ2 H2=>tb { D with nx:=N,ct:=N,bk:=D.nx } σ2 H2)
noncomputable def UZ_(fp:List Addr)(h:Heap):List (Addr×Obj):=fp.filterMap λb=>(h.get? b).map λo=>(b,o)
theorem yf_{fp:List Addr}{h:Heap}{b:Addr}{o:Obj}(hb:b∈fp)(e:h.get? b=some o):(b,o)∈UZ_ fp h:=List.mem_filterMap.mpr ⟨b,hb,by rw[e];rfl⟩
theorem Wm_{fp:List Addr}{h:Heap}{p:Addr×Obj}(hp:p∈UZ_ fp h):p.1∈fp/\h.get? p.1=some p.2:=by
 obtain⟨b,hb,e⟩:=List.mem_filterMap.mp hp
 cases q:h.get? b with
 | none=>rw[q]at e;cases e
 | some o =>
  rw[q]at e
  have e':(b,o)=p:=Option.some.inj e
  subst e'
  exact⟨hb,q⟩
theorem Inv.pinned{pins:List (Addr×Obj)}{σ:St}{H:Hp}{s:Shared}{fp:List Addr}(I:Inv X pins σ H s)(hf:∀b∈fp,FpOk X pins H b)(ho:∀b∈fp,∃o,s.heap.get? b=some o/\∀v,o.data≠.cell v):Inv X (pins++UZ_ fp s.heap) σ H s :=
 I.pins_of λp hp=>(List.mem_append.mp hp).elim (λz=>I.pin p (List.mem_append_right _ z)) λz=>by
  obtain⟨hb,e⟩:=Wm_ z
  obtain⟨f0,f1,f2,_⟩:=hf p.1 hb
  obtain⟨o,e',d⟩:=ho p.1 hb
  rw[e]at e';cases e'
  exact⟨e,f0,f1,f2,d⟩
theorem Inv.unpinned{pins pl:List (Addr×Obj)}{σ:St}{H:Hp}{s:Shared}(I:Inv X (pins++pl) σ H s):Inv X pins σ H s:=I.pins_of λp hp=>I.pin p (List.mem_append_right _ (List.mem_append_left _ hp))
theorem zch_{iter:Expr}{body:List Stmt}{wi:TI}{g:TG}{tb:TS}{pos:Pos}(hp:PassesOwn (model X.prog X.w) X.A X.env X.xe)(hc:X.calm=true)(hi:PI X tg iter wi)(hg:PG X tg g)(hb:PSs X body tb)
  (hs:∀x,foldedSetIterable iter X.env x=pure x:=by intro _;rfl):PS X (.For tg iter body [] pos) (tFor wi g tb):=by
 intro pins s σ H D I h
 refine wpAny_For (thn (hi pins s σ H _ I h) λv s1 h1=>thn h1 λitv s2 h2=>?_) hs
 obtain⟨it,fp,tn,J,H2,e,I2,T,st2,f2,W,⟨m0,w0⟩,turn⟩:=h2
 subst e
 have stat:∀{H':Hp},(∀b∈fp,H' b=none)->∀b∈fp,FpOk X pins H' b:=λhn b hb=>⟨hn b hb,(f2 b hb).2⟩
 refine codeAny_forLoop_any (λn s'=>∃i σ' H',Inv X pins σ' H' s'/\tn i s'.heap/\(∀b∈fp,H' b=none)/\W i n σ' H') ?_ m0 ⟨0,σ,H2,I2,st2,λb hb=>(f2 b hb).1,w0⟩
 rintro n s3 ⟨i,σ3,H3,I3,st3,fr3,w3⟩
 rcases turn i n σ3 H3 w3 with ⟨stop,qn⟩|⟨go,N,hN,step⟩
 ·refine wpAny_passesOwn hp (thn (T.done X rfl rfl rfl hc i pins s3 σ3 H3 X.xe I3 (stat fr3) st3 stop) λr s4 ⟨hr,I4⟩=>?_)
  subst hr
  exact wpAny_execs_nil ⟨σ3,H3,I4,qn⟩
 ·refine wpAny_passesOwn hp (thn (T.item X rfl rfl rfl hc i pins s3 σ3 H3 X.xe I3 (stat fr3) st3 go) λr s4 ⟨u,hr,h4⟩=>?_)
  subst hr
  refine wpAny_passesOwn hp (thn h4 λ_ s5 ⟨x,H5,I5,r5,y5,st5,fr5⟩=>?_)
  have I5':=I5.pinned (stat fr5) (T.obj _ _ st5)
  refine wpAny_passesOwn hp (thn (hg _ s5 σ3 H5 x u _ I5' r5 (step x H5 y5)) λ_ s6 ⟨σ6,H6,I6,q6⟩=>?_)
  refine wpAny_passesOwn hp (thn (hb _ s6 σ6 H6 _ I6 q6) λf s7 q7=>?_)
  have again:∀{σ7:St} {H7:Hp},Inv X (pins++UZ_ fp s5.heap) σ7 H7 s7->N σ7 H7->∃m,m<n/\∃i σ' H',Inv X pins σ' H' s7/\tn i s7.heap/\(∀b∈fp,H' b=none)/\W i m σ' H':=λ{σ7 H7} I7 n7=>by
   obtain⟨m',hm,w7⟩:=hN σ7 H7 n7
   refine⟨m',hm,i+1,σ7,H7,I7.unpinned,T.keep _ _ _ st5 λb hb o e=>(I7.pin (b,o) (List.mem_append_right _ (List.mem_append_right _ (yf_ hb e)))).1,λb hb=>?_,w7⟩
   obtain⟨o,e,d⟩:=T.obj _ _ st5 b hb
   exact(I7.pin (b,o) (List.mem_append_right _ (List.mem_append_right _ (yf_ hb e)))).2.1
  cases f with
  | next=>obtain⟨σ7,H7,I7,n7⟩:=q7;exact again I7 n7
  | cont=>obtain⟨σ7,H7,I7,n7⟩:=q7;exact again I7 n7
  | brk=>obtain⟨σ7,H7,I7,q7⟩:=q7;exact⟨σ7,H7,I7.unpinned,q7⟩
  | ret v=>obtain⟨x7,σ7,H7,I7,r7,q7⟩:=q7;exact⟨x7,σ7,H7,I7.unpinned,r7,q7⟩
end
noncomputable abbrev R2:=V->V->Hp->VK->Prop
def OpR(X:Cx)(f:Value->Value->Sem Value)(r:R2):Prop :=
 ∀(pins:List (Addr×Obj)) (s:Shared) (σ:St) (H:Hp) (x y:V) (v u:Value) (Q:VK),Inv X pins σ H s->RelV x v->RelV y u->r x y H Q ->
  wpAny (model X.prog X.w) X.A (f v u) (EP X pins σ Q) X.xe s
def UnR(X:Cx)(f:Value->Sem Value)(r:V->Hp->VK->Prop):Prop :=
 ∀(pins:List (Addr×Obj)) (s:Shared) (σ:St) (H:Hp) (x:V) (v:Value) (Q:VK),Inv X pins σ H s->RelV x v->r x H Q ->
  wpAny (model X.prog X.w) X.A (f v) (EP X pins σ Q) X.xe s
def CallR(X:Cx)(f:Value)(r:List V->Hp->VK->Prop):Prop :=
 ∀(pins:List (Addr×Obj)) (s:Shared) (σ:St) (H:Hp) (xs:List V) (us:List Value) (Q:VK),Inv X pins σ H s->Vals xs us->r xs H Q ->
  wpAny (model X.prog X.w) X.A (call f us) (EP X pins σ Q) X.xe s
def TruR(X:Cx)(r:V->Hp->(Bool->Hp->Prop)->Prop):Prop :=
 ∀(pins:List (Addr×Obj)) (s:Shared) (σ:St) (H:Hp) (x:V) (v:Value) (Q:Bool->Hp->Prop),Inv X pins σ H s->RelV x v->r x H Q ->
  wpAny (model X.prog X.w) X.A (truthy v) (TP X pins σ Q) X.xe s
noncomputable def tOp(r:R2)(ta tb:TE):TE:=λσ H Q=>ta σ H λx H1=>tb σ H1 λy H2=>r x y H2 Q
noncomputable def tUn(r:V->Hp->VK->Prop)(ta:TE):TE:=λσ H Q=>ta σ H λx H1=>r x H1 Q
noncomputable def rI(C:Int->Int->Prop)(g:Int->Int->V):R2:=λx y H Q=>∃i j,x=.int i/\y=.int j/\C i j/\Q (g i j) H
noncomputable def rI0(g:Int->Int->V):R2:=λx y H Q=>∃i j,x=.int i/\y=.int j/\Q (g i j) H
def rU(g:Int->V):V->Hp->VK->Prop:=λx H Q=>∃i,x=.int i/\Q (g i) H
section
variable {X:Cx}{a b c:Expr}{ta tb tc:TE}{pos:Pos}
theorem binT(ha:PE X a ta)(hb:PE X b tb){pins:List (Addr×Obj)}{s:Shared}{σ:St}{H:Hp}{R:V->V->Hp->Prop}(I:Inv X pins σ H s)
  (h:ta σ H λx H1=>tb σ H1 λy H2=>R x y H2) {Q:Value->Shared->Prop} {f:Value->Value->Sem Value}
  (hf:∀v u s2 x y H2,Inv X pins σ H2 s2->RelV x v->RelV y u->R x y H2->wpAny (model X.prog X.w) X.A (f v u) Q X.xe s2) :
  wpAny (model X.prog X.w) X.A (eval a X.env) (λv s₁=>wpAny (model X.prog X.w) X.A (eval b X.env) (λu s₂=>wpAny (model X.prog X.w) X.A (f v u) Q X.xe s₂) X.xe s₁) X.xe s:=by
 refine thn (ha pins s σ H _ I h) λv s1 ⟨x,H1,I1,r1,q1⟩=>?_
 refine thn (hb pins s1 σ H1 _ I1 q1) λu s2 ⟨y,H2,I2,r2,q2⟩=>?_
 exact hf v u s2 x y H2 I2 r1 r2 q2
theorem zcm_{op:Operator}{r:R2}(ho:OpR X (binaryOp op) r)(ha:PE X a ta)(hb:PE X b tb):PE X (.BinOp a op b pos) (tOp r ta tb):=by
 intro pins s σ H Q I h
 exact wpAny_BinOp (binT ha hb I h λv u s2 x y H2 I2 rx ry q=>ho pins s2 σ H2 x y v u Q I2 rx ry q)
theorem zee_{op:UnaryOp}{r:V->Hp->VK->Prop}(ho:UnR X (unaryOp op) r)(ha:PE X a ta):PE X (.UnaryOp op a pos) (tUn r ta):=by
 intro pins s σ H Q I h
 exact UnaryOp_ (thn (ha pins s σ H _ I h) λv s1 ⟨x,H1,I1,r1,q1⟩=>ho pins s1 σ H1 x v Q I1 r1 q1)
theorem opI{f:Value->Value->Sem Value}{C:Int->Int->Prop}{g:Int->Int->Int}
  (rule:∀(i j:Int) (t u:Tok) (s:Shared) (Q:Value->Shared->Prop) (E:Value->Shared->Prop),C i j->Q (.int (g i j) s.toks) { s with toks:=s.toks+1 }->wpAny (model X.prog X.w) X.A (f (.int i t) (.int j u)) Q E s) :
  OpR X f (rI C λi j=>.int (g i j)):=by
 intro pins s σ H x y v u Q I rx ry h
 obtain⟨i,j,rfl,rfl,hc,q⟩:=h
 obtain⟨t,rfl⟩:=rx
 obtain⟨t',rfl⟩:=ry
 exact rule i j t t' s _ _ hc ⟨.int (g i j),H,I.tok _,⟨_,rfl⟩,q⟩
theorem opI0{f:Value->Value->Sem Value}{g:Int->Int->Int}
  (rule:∀(i j:Int) (t u:Tok) (s:Shared) (Q:Value->Shared->Prop) (E:Value->Shared->Prop),Q (.int (g i j) s.toks) { s with toks:=s.toks+1 }->wpAny (model X.prog X.w) X.A (f (.int i t) (.int j u)) Q E s) :
  OpR X f (rI0 λi j=>.int (g i j)):=by
 intro pins s σ H x y v u Q I rx ry h
 obtain⟨i,j,rfl,rfl,q⟩:=h
 obtain⟨t,rfl⟩:=rx
 obtain⟨t',rfl⟩:=ry
 exact rule i j t t' s _ _ ⟨.int (g i j),H,I.tok _,⟨_,rfl⟩,q⟩
theorem opB0{f:Value->Value->Sem Value}{g:Int->Int->Bool}
  (rule:∀(i j:Int) (t u:Tok) (s:Shared) (Q:Value->Shared->Prop) (E:Value->Shared->Prop),Q (.bool (g i j)) s->wpAny (model X.prog X.w) X.A (f (.int i t) (.int j u)) Q E s) :
  OpR X f (rI0 λi j=>.bl (g i j)):=by
 intro pins s σ H x y v u Q I rx ry h
 obtain⟨i,j,rfl,rfl,q⟩:=h
 obtain⟨t,rfl⟩:=rx
 obtain⟨t',rfl⟩:=ry
 exact rule i j t t' s _ _ ⟨.bl (g i j),H,I,rfl,q⟩
def CDiv(i j:Int):Prop:=0<j/\j<1073741824
def CPow(i j:Int):Prop:=0<=j/\j<=1000000/\i.natAbs<2^64
def CMul(i j:Int):Prop:=(-(2^64)<i/\i<2^64)\/(-(2^64)<j/\j<2^64)
theorem CMul.ok{i j:Int}(h:CMul i j):IntMulOk i j:=by
 rcases h with ⟨h1,h2⟩|⟨h1,h2⟩
 ·exact .of_left (intBits_le_64 h1 h2)
 ·exact .of_right (intBits_le_64 h1 h2)
theorem op_add:OpR X (binaryOp .Add) (rI0 λi j=>.int (i+j)):=opI0 λ_ _ _ _ _ _ _ q=>add_int q
theorem yN_:OpR X (binaryOp .Sub) (rI0 λi j=>.int (i - j)):=opI0 λ_ _ _ _ _ _ _ q=>sub_int q
theorem U3_:OpR X (binaryOp .Mult) (rI CMul λi j=>.int (i*j)):=opI λ_ _ _ _ _ _ _ hc q=>mul_int q hc.ok
theorem Wj_:OpR X (binaryOp .FloorDiv) (rI CDiv λi j=>.int (i / j)):=opI λi j _ _ _ _ _ hc q=>by
 have h1:(0:Int)<j:=hc.1
 have h2:j<1073741824:=hc.2
 exact floordiv_int (by lia) (by rw[Int.fdiv_eq_ediv_of_nonneg i (by lia)];exact q) (.inl (PyProof.noPylong_small (by lia)))
theorem Zv_:OpR X (binaryOp .Mod) (rI (λ_ j=>0<j) λi j=>.int (i % j)):=opI λi j _ _ _ _ _ hc q=>by
 have h1:(0:Int)<j:=hc
 exact mod_int' (by lia) (by rw[Int.fmod_eq_emod_of_nonneg i (by lia)];exact q)
theorem zcC_:OpR X (binaryOp .Pow) (rI CPow λi j=>.int (i^j.toNat)):=opI λ_ _ _ _ _ _ _ hc q=>pow_int_small hc.1 hc.2.1 hc.2.2 q
theorem unI{f:Value->Sem Value}{g:Int->Int}
  (rule:∀(i:Int) (t:Tok) (s:Shared) (Q:Value->Shared->Prop) (E:Value->Shared->Prop),Q (.int (g i) s.toks) { s with toks:=s.toks+1 }->wpAny (model X.prog X.w) X.A (f (.int i t)) Q E s) :
  UnR X f (rU λi=>.int (g i)):=by
 intro pins s σ H x v Q I rx h
 obtain⟨i,rfl,q⟩:=h
 obtain⟨t,rfl⟩:=rx
 exact rule i t s _ _ ⟨.int (g i),H,I.tok _,⟨_,rfl⟩,q⟩
theorem zbL_:UnR X (unaryOp .USub) (rU λi=>.int (-i)):=unI λ_ _ _ _ _ q=>neg_int q
end
section
variable {X:Cx}{a b c:Expr}{ta tb tc:TE}{pos:Pos}
theorem zaj_{pins:List (Addr×Obj)}{σ:St}{H:Hp}{s:Shared}{Q:VK}{k k':Bool}(I:Inv X pins σ H s)(q:Q (.bl k) H)(e:k=k'):EP X pins σ Q (.bool k') s:=by
 subst e
 exact⟨.bl k,H,I,rfl,q⟩
theorem zej_:OpR X (compareOp .Lt) (rI0 λi j=>.bl (decide (i<j))):=opB0 λ_ _ _ _ _ _ _ q=>lt_int q
theorem zek_:OpR X (compareOp .LtE) (rI0 λi j=>.bl (decide (i<=j))):=opB0 λ_ _ _ _ _ _ _ q=>le_int q
theorem Vb_:OpR X (compareOp .Gt) (rI0 λi j=>.bl (decide (j<i))):=opB0 λ_ _ _ _ _ _ _ q=>gt_int q
theorem zcG_:OpR X (compareOp .GtE) (rI0 λi j=>.bl (decide (j<=i))):=opB0 λ_ _ _ _ _ _ _ q=>ge_int q
theorem Wi_:OpR X (compareOp .In) (λx y H Q=>∃i j,x=.str i/\y=.str j/\Q (.bl (!(Builtin.Str.occurrences j i 0 j.length 1).isEmpty)) H):=by
 intro pins s σ H x y v u Q I rx ry h
 obtain⟨i,j,rfl,rfl,q⟩:=h
 obtain⟨t,rfl⟩:=rx
 obtain⟨t',rfl⟩:=ry
 exact in_str (zaj_ I q rfl)
theorem zcF_:OpR X (compareOp .Is) (λx y H Q=>y=.non/\Q (.bl (decide (x=.non))) H):=by
 intro pins s σ H x y v u Q I rx ry h
 obtain⟨rfl,q⟩:=h
 cases ry
 refine is_none_gen (zaj_ I q ?_)
 cases x<;>first
  | (cases rx;rfl)
  | (obtain⟨t,rfl⟩:=rx;rfl)
theorem OpR.or{f:Value->Value->Sem Value}{r r':R2}(h:OpR X f r)(h':OpR X f r'):OpR X f (λx y H Q=>r x y H Q\/r' x y H Q):=by
 intro pins s σ H x y v u Q I rx ry q
 rcases q with q|q
 ·exact h pins s σ H x y v u Q I rx ry q
 ·exact h' pins s σ H x y v u Q I rx ry q
theorem zaX_{op:CmpOp}{r:R2}(ho:OpR X (compareOp op) r)(ha:PE X a ta)(hb:PE X b tb)(hm:behindInMarks op b=false):PE X (.Compare a [op] [b] pos) (tOp r ta tb):=by
 intro pins s σ H Q I h
 exact wpAny_Compare1 (binT ha hb I h λv u s2 x y H2 I2 rx ry q=>ho pins s2 σ H2 x y v u Q I2 rx ry q) hm
noncomputable def zbP_(t:TE):TT:=λσ H Q=>t σ H λx H'=>∃k,x=.bl k/\Q k H'
theorem V2_{op:CmpOp}{r:R2}(ho:OpR X (compareOp op) r)(ha:PE X a ta)(hb:PE X b tb)(hm:behindInMarks op b=false):PT X (.Compare a [op] [b] pos) (zbP_ (tOp r ta tb)):=by
 intro pins s σ H Q I h
 refine wpAny_isTrue_Compare1 (thn (ha pins s σ H _ I h) λv s1 ⟨x,H1,I1,r1,q1⟩=>thn (hb pins s1 σ H1 _ I1 q1) λu s2 ⟨y,H2,I2,r2,q2⟩ =>
  thn (ho pins s2 σ H2 x y v u _ I2 r1 r2 q2) λc s3 ⟨z,H3,I3,r3,k,e,q3⟩=>?_) hm
 subst e
 cases r3
 exact wpAny_truthy_bool ⟨H3,I3,q3⟩
noncomputable def VJ_(r r':R2)(ta tb tc:TE):TE:=λσ H Q=>ta σ H λx H1=>tb σ H1 λy H2=>r x y H2 λz H3=>∃k,z=.bl k /\
 (if k=true then tc σ H3 λw' H4=>r' y w' H4 Q else Q (.bl false) H3)
theorem Xu_{op op':CmpOp}{r r':R2}(ho:OpR X (compareOp op) r)(ho':OpR X (compareOp op') r')(ha:PE X a ta)(hb:PE X b tb)(hc:PE X c tc)
  (hm:lastMarks [op,op'] [b,c]=false:=by with_unfolding_all rfl):PE X (.Compare a [op,op'] [b,c] pos) (VJ_ r r' ta tb tc):=by
 intro pins s σ H Q I h
 refine Compare_chain (thn (ha pins s σ H _ I h) λv s1 ⟨x,H1,I1,r1,q1⟩=>chain_link (thn (hb pins s1 σ H1 _ I1 q1) λu s2 ⟨y,H2,I2,r2,q2⟩ =>
  thn (ho pins s2 σ H2 x y v u _ I2 r1 r2 q2) λd s3 ⟨z,H3,I3,r3,k,e,q3⟩=>?_)) hm
 subst e
 cases r3
 refine wpAny_truthy_bool ?_
 cases k with
 | false=>exact ite_ff ⟨.bl false,H3,I3,rfl,q3⟩
 | true=>exact ite_tt (chain_last (thn (hc pins s3 σ H3 _ I3 q3) λw' s4 ⟨z',H4,I4,r4,q4⟩=>ho' pins s4 σ H4 y z' u w' Q I4 r2 r4 q4))
theorem Xp_{op op':CmpOp}{r r':R2}(ho:OpR X (compareOp op) r)(ho':OpR X (compareOp op') r')(ha:PE X a ta)(hb:PE X b tb)(hc:PE X c tc)
  (hm:lastMarks [op,op'] [b,c]=false:=by with_unfolding_all rfl):PT X (.Compare a [op,op'] [b,c] pos) (zbP_ (VJ_ r r' ta tb tc)):=by
 intro pins s σ H Q I h
 refine isTrue_chain (thn (ha pins s σ H _ I h) λv s1 ⟨x,H1,I1,r1,q1⟩=>test_link (thn (hb pins s1 σ H1 _ I1 q1) λu s2 ⟨y,H2,I2,r2,q2⟩ =>
  thn (ho pins s2 σ H2 x y v u _ I2 r1 r2 q2) λd s3 ⟨z,H3,I3,r3,k,e,q3⟩=>?_)) hm
 subst e
 cases r3
 refine wpAny_truthy_bool ?_
 cases k with
 | false =>
  obtain⟨k',e',q'⟩:=q3
  cases e'
  exact ite_ff ⟨H3,I3,q'⟩
 | true =>
  refine ite_tt (test_last (thn (hc pins s3 σ H3 _ I3 q3) λw' s4 ⟨z',H4,I4,r4,q4⟩=>thn (ho' pins s4 σ H4 y z' u w' _ I4 r2 r4 q4) λd' s5 ⟨z2,H5,I5,r5,k2,e2,q5⟩=>?_))
  subst e2
  cases r5
  exact wpAny_truthy_bool ⟨H5,I5,q5⟩
def TruV(K:PySem.W.Frag)(x:V)(H:Hp)(k:Bool):Prop :=
 match x with
 | .non=>k=false
 | .bl b=>k=b
 | .int i=>k=(i != 0)
 | .str y=>y.length<=sizeLine/\k=((y.length:Int) != 0)
 | .byt y=>y.size<=sizeLine/\k=((y.size:Int) != 0)
 | .ref p=>(∃xs,SqL K H p xs/\k = !xs.isEmpty)\/(∃xs,SqT K H p xs/\k = !xs.isEmpty)\/∃kvs,H p=some (.dK kvs)/\k = !kvs.isEmpty
 | _=>False
theorem Vr_{κ:Type}{kvs:List (κ×V)}{vs:List (κ×Value)}(r:KV kvs vs):(!vs.isEmpty) = !kvs.isEmpty:=by
 cases r<;>rfl
theorem JW_{xs:List V}{its:List Value}(r:Vals xs its):(!its.toArray.isEmpty) = !xs.isEmpty:=by
 cases r<;>simp
theorem Je_:(sizeLine:Nat)<2^63:=by rw[sizeLine_eq];decide
theorem zbN_:TruR X (λx H Q=>∃k,TruV X.K x H k/\Q k H):=by
 intro pins s σ H x v Q I rx h
 obtain⟨k,e,q⟩:=h
 have hl:=Je_
 have hs:sizeLine=16777216:=sizeLine_eq
 cases x with
 | non =>
  cases rx
  have e':k=false:=e
  subst e'
  exact truthy_none ⟨H,I,q⟩
 | bl b =>
  cases rx
  have e':k=b:=e
  subst e'
  exact wpAny_truthy_bool ⟨H,I,q⟩
 | int i =>
  obtain⟨t,rfl⟩:=rx
  have e':k=(i != 0):=e
  subst e'
  exact PySem.P.truthy_int ⟨H,I,q⟩
 | str y =>
  obtain⟨t,rfl⟩:=rx
  obtain⟨hy,e'⟩:y.length<=sizeLine/\k=((y.length:Int) != 0):=e
  subst e'
  exact PySem.P.truthy_str (by lia) ⟨H,I.tok _,q⟩
 | byt y =>
  obtain⟨t,rfl⟩:=rx
  obtain⟨hy,e'⟩:y.size<=sizeLine/\k=((y.size:Int) != 0):=e
  subst e'
  exact PySem.W.truthy_bytes (by lia) ⟨H,I.tok _,q⟩
 | ref p =>
  cases rx
  have e':(∃xs,SqL X.K H p xs/\k = !xs.isEmpty)\/(∃xs,SqT X.K H p xs/\k = !xs.isEmpty)\/∃kvs,H p=some (.dK kvs)/\k = !kvs.isEmpty:=e
  rcases e' with ⟨xs,hx,e'⟩|⟨xs,hx,e'⟩|⟨kvs,hx,e'⟩
  ·subst e'
   obtain⟨its,r,pl,hz⟩:=I.list hx
   have hlen:=r.length
   exact wpAny_truthy_list pl.isList (by simp only[List.size_toArray];lia) ⟨H,I.tok _,by rw[JW_ r];exact q⟩
  ·subst e'
   obtain⟨its,r,pl,hz⟩:=I.tuple hx
   have hlen:=r.length
   exact truthy_tuple pl (by simp only[List.size_toArray];lia) ⟨H,I.tok _,by rw[JW_ r];exact q⟩
  ·subst e'
   obtain⟨hz,hS,vs,r,m⟩:kvs.length<=sizeLine/\(p==sysModules)=false/\∃vs,KV kvs vs/\s.heap.DictOf (jk_ X.prog X.w) p vs:=I.hok p _ hx
   have hlen:kvs.length=vs.length:=Paired.length r
   exact wpAny_truthy_dict hS m (by lia) ⟨H,I.tok _,by rw[Vr_ r];exact q⟩
 | _=>exact(show False from e).elim
theorem Uk_(ha:PE X a ta)(he:∀whole,isTrue a X.env whole=(do let v <-whole;standAt a.pos;holding [v] (truthy v))) :
  PT X a (λσ H Q=>ta σ H λx H'=>∃k,TruV X.K x H' k/\Q k H'):=by
 intro pins s σ H Q I h
 exact isTrue_plain (thn (ha pins s σ H _ I h) λv s1 ⟨x,H1,I1,r1,q1⟩=>zbN_ pins s1 σ H1 x v Q I1 r1 q1) (he _)
theorem Vc_:OpR X (binaryOp .Add) (λx y H Q=>∃i j,x=.str i/\y=.str j/\i.length+j.length<=sizeLine/\Q (.str (i++j)) H):=by
 intro pins s σ H x y v u Q I rx ry h
 obtain⟨i,j,rfl,rfl,hz,q⟩:=h
 obtain⟨t,rfl⟩:=rx
 obtain⟨t',rfl⟩:=ry
 exact add_str (λt' tk=>⟨.str (i++j),H,I.tok _,⟨_,rfl⟩,q⟩) hz
theorem vals1{x:V}{us:List Value}(r:Vals [x] us):∃u,us=[u]/\RelV x u:=by
 cases r with
 | cons r1 r2=>cases r2;exact⟨_,rfl,r1⟩
theorem vals2{x y:V}{us:List Value}(r:Vals [x,y] us):∃u w',us=[u,w']/\RelV x u/\RelV y w':=by
 cases r with
 | cons r1 r2 =>
  cases r2 with
  | cons r3 r4=>cases r4;exact⟨_,_,rfl,r1,r3⟩
theorem QS_:CallR X (.builtin "abs") (λxs H Q=>∃i,xs=[.int i]/\Q (.int (if i<0 then -i else i)) H):=by
 intro pins s σ H xs us Q I r h
 obtain⟨i,rfl,q⟩:=h
 obtain⟨u,rfl,t,rfl⟩:=vals1 r
 exact call_abs_int λu tk=>⟨.int (if i<0 then -i else i),H,I.tok _,⟨_,rfl⟩,q⟩
theorem WR_(hc:X.calm=true):CallR X (.builtin "min") (λxs H Q=>∃i j,xs=[.int i,.int j]/\Q (.int (if j<i then j else i)) H):=by
 intro pins s σ H xs us Q I r h
 obtain⟨i,j,rfl,q⟩:=h
 obtain⟨u,w',rfl,⟨t,rfl⟩,⟨t',rfl⟩⟩:=vals2 r
 refine min_two_ints (I.ok.hd hc) λh' tk k=>⟨_,H,I.kept k,?_,q⟩
 by_cases hj:j<i
 ·rw[if_pos hj,if_pos hj];exact⟨_,rfl⟩
 ·rw[if_neg hj,if_neg hj];exact⟨_,rfl⟩
theorem WT_:CallR X (.type "int") (λxs H Q=>(∃i,xs=[.int i]/\Q (.int i) H)\/∃k,xs=[.bl k]/\Q (.int (if k then 1 else 0)) H):=by
 intro pins s σ H xs us Q I r h
 rcases h with ⟨i,rfl,q⟩|⟨k,rfl,q⟩
 ·obtain⟨u,rfl,t,rfl⟩:=vals1 r
  exact call_int_int ⟨.int i,H,I,⟨_,rfl⟩,q⟩
 ·obtain⟨u,rfl,r1⟩:=vals1 r
  cases r1
  exact call_int_bool ⟨.int (if k then 1 else 0),H,I.tok _,⟨_,rfl⟩,q⟩
theorem ua_:CallR X (.type "str") (λxs H Q=>∃i,xs=[.int i]/\i.natAbs.log2<1920/\Q (.str (toString i)) H):=by
 intro pins s σ H xs us Q I r h
 obtain⟨i,rfl,hz,q⟩:=h
 obtain⟨u,rfl,t,rfl⟩:=vals1 r
 exact PySem.P.str_of_int hz ⟨.str _,H,I.tok _,⟨_,rfl⟩,q⟩
end
structure ObjM(h:Heap)(x dx C:Addr)(mA:Str->Option Value):Prop where
 obj:h.get? x=some (PySem.W.instObj C dx)
 ns:h.Ns1 dx mA
 ne:dx≠x
theorem Yh_{h:Heap}{dx:Addr}{mA:Str->Option Value}(n:h.Ns1 dx mA):∃od,h.get? dx=some od/\∀name,PySem.W.lookIn name od=some (mA name):=by
 obtain⟨o,es,ep,ho,hd,hk,_,hm⟩:=n
 refine⟨o,ho,λname=>?_⟩
 have e:=hm name
 unfold nsFind findBy at e
 rw[<-Array.find?_toList]at e
 unfold PySem.W.lookIn
 rw[hd]
 dsimp only
 split
 ·rename_i y q
  rw[q]at e
  exact congrArg some e
 ·rename_i q
  rw[q]at e
  have a:es.toList.any (·.refKey)=false:=by
   rw[List.any_eq_false]
   intro y hy
   obtain⟨z,t,hkey⟩:=hk y (Array.mem_toList_iff.mp hy)
   simp[DictEntry.refKey,hkey]
  have a':¬ es.toList.any (·.refKey)=true:=by rw[a];exact Bool.false_ne_true
  rw[if_neg a']
  exact congrArg some e
theorem ObjM.look{h:Heap}{x dx C:Addr}{mA:Str->Option Value}(I:ObjM h x dx C mA):∃od,PySem.W.InstAt h x (PySem.W.instObj C dx) C (some od)/\∀name,PySem.W.lookIn name od=some (mA name) :=
 let ⟨od,ho,hl⟩:=Yh_ I.ns
 ⟨od,⟨I.obj,rfl,rfl,ho⟩,hl⟩
section
variable {prog:Program}{w:World}{A:Around}{E:Value->Shared->Prop}{s:Shared}{K:PySem.W.Frag}{x dx C f:Addr}{mA:Str->Option Value}{name:Str}{v:Value}
theorem zbt_{expr:Bool}{Q:Value->Shared->Prop}(X:K.In s.heap)(I:ObjM s.heap x dx C mA)(hg:PySem.W.plainGet K C name=true)(hh:PySem.W.hasDictIn K C=true)
  (ha:PySem.W.findIn K (.ref C) name=some none) (hv:mA name=some v) (hv':PySem.W.handedIn v=true) (h:Q v { s with toks:=s.toks+1 }) :
  wpAny (model prog w) A (getAttr (.ref x) name expr) Q E s:=by
 obtain⟨od,J,hl⟩:=I.look
 exact PySem.W.get_value X J (PySem.W.plainGet_of hg).1 (PySem.W.findObj_own hh ha rfl (by rw[hl,hv])) hv' h
theorem XL_{pl:Sem Bool}{Q:Value×List Value->Shared->Prop}(X:K.In s.heap)(I:ObjM s.heap x dx C mA)(hg:PySem.W.plainGet K C name=true)
  (hf:PySem.W.findIn K (.ref C) name=some (some (.ref f))) (ht:PySem.W.isFn K (.ref f)=true) (hv:mA name=none) (h:Q (.ref f,[.ref x]) s) :
  wpAny (model prog w) A (getMethod (.ref x) name pl) Q E s:=by
 obtain⟨od,J,hl⟩:=I.look
 exact PySem.W.method_fn X J (PySem.W.plainGet_of hg).1 (PySem.W.plainGet_of hg).2 hf (beq_iff_eq.mp ht) (by show(PySem.W.lookIn name od).map (·.isSome)=some false;rw[hl,hv];rfl) h
theorem zaH_{ns:List Str}{Q:Unit->Shared->Prop}(X:K.In s.heap)(I:ObjM s.heap x dx C mA)
  (hs:PySem.W.findIn K (.ref C) "__setattr__" = some (some (.builtin "object.__setattr__"))) (hp:PySem.W.plainOver K C=true) (ht:PySem.W.takerIn K C name=some none) (hh:PySem.W.hasDictIn K C=true)
  (hw:PySem.Within mA ns) (hsz:ns.length<=sizeLine)
  (h:∀h',ObjM h' x dx C (λy=>if y=name then some v else mA y)->Heap.SameBut dx s.heap h'->Q () { s with heap:=h',toks:=s.toks+2 }) :
  wpAny (model prog w) A (setAttr (.ref x) name v) Q E s:=by
 obtain⟨od,J,hl⟩:=I.look
 refine PySem.W.set_plain X J hs (PySem.W.osa_open (s:={ s with toks:=s.toks+1 }) (r:=none) X J hp ht λb=>?_)
 obtain⟨cd,hc,hd'⟩:=PySem.W.any_some hh
 have hx:s.heap.get? x=some ⟨.ref C,some dx,.plain,#[]⟩:=I.obj
 refine zza (zzb (zza (zza (wpAny_loadPart hx (zza (PySem.W.Looks.here (s:={ s with toks:=s.toks+1 }) (PySem.W.looks_clsIn X hc) ?_))))))
 rw[hd']
 refine zzb (a:=some dx) (zza (zzb (zza ?_)))
 refine wpAny_nsSet1 (s:={ s with toks:=s.toks+1 }) I.ns λh' hn2 hs2=>?_
 obtain⟨oD,esD,epD,hoD,hdD,hcD⟩:=hn2.count (PySem.Within.cons name v hw)
 refine zza (wpAny_lookBehind hoD (by rw[hdD];exact pastItsLine_dict (Nat.le_trans hcD (by rw[List.length_cons];lia))) ?_)
 exact zzb (h _ ⟨(hs2.2 _ (Ne.symm I.ne)).trans I.obj,hn2,I.ne⟩ hs2)
theorem Xz_{R:Result->Shared->Prop}{vs:List Value}{kw:List (Str×Value)}(X:K.In s.heap)(hm:PySem.W.makesIn K C=true)
  (hi:PySem.W.findIn K (.ref C) "__init__" = some (some (.ref f))) (hf:PySem.W.typeIn K (.ref f)=some (.type "function"))
  (h:codeAny (model prog w) (A.under (.builtin "type.__call__" ⟨.ref C::vs,kw⟩)) (.call (.ref f) ⟨.ref (s.heap.objs.size+1)::vs,kw⟩) (PySem.W.InitBack (s.heap.objs.size+1) R)
   { s with heap:=(s.heap.push PySem.W.emptyDict).push (PySem.W.instObj C s.heap.objs.size) }) :
  codeAny (model prog w) A (.call (.ref C) ⟨vs,kw⟩) R s:=by
 obtain⟨hh,g,d,t,os⟩:=s
 exact PySem.W.make_core (PySem.W.makes_of X hm) (PySem.W.looks_findIn X hi) (λself=>PySem.W.bind_fn X self hf) (.inl rfl) h
end
noncomputable def putF(f:Str)(v:V):List (Str×V)->List (Str×V)
 | []=>[(f,v)]
 | (g,x)::r=>if g=f then(g,v)::r else(g,x)::putF f v r
theorem yA_(f g:Str)(v:V):∀fs:List (Str×V),(putF f v fs).lookup g=if g=f then some v else fs.lookup g
 | []=>by
  show List.lookup g [(f,v)]=_
  by_cases h:g=f
  ·have hb:(g==f)=true:=beq_iff_eq.mpr h
   simp only[List.lookup,hb,if_pos h]
  ·have hb:(g==f)=false:=beq_eq_false_iff_ne.mpr h
   simp only[List.lookup,hb,if_neg h]
 | (k,x)::r=>by
  have ih:=yA_ f g v r
  rw[show putF f v ((k,x)::r)=(if k=f then(k,v)::r else(k,x)::putF f v r)from rfl]
  by_cases hk:k=f
  ·rw[if_pos hk]
   by_cases h:g=k
   ·have hb:(g==k)=true:=beq_iff_eq.mpr h
    simp only[List.lookup,hb,if_pos (h.trans hk)]
   ·have hb:(g==k)=false:=beq_eq_false_iff_ne.mpr h
    simp only[List.lookup,hb,if_neg (λe:g=f=>h (e.trans hk.symm))]
  ·rw[if_neg hk]
   by_cases h:g=k
   ·have hb:(g==k)=true:=beq_iff_eq.mpr h
    simp only[List.lookup,hb,if_neg (λe:g=f=>hk (h.symm.trans e))]
   ·have hb:(g==k)=false:=beq_eq_false_iff_ne.mpr h
    simp only[List.lookup,hb]
    exact ih
theorem u5_(f:Str)(v:V):∀fs:List (Str×V),f∈(putF f v fs).map (·.1)/\∀g,g∈fs.map (·.1)->g∈(putF f v fs).map (·.1)
 | []=>⟨by simp[putF],λg h=>by simp at h⟩
 | (k,x)::r=>by
  obtain⟨i1,i2⟩:=u5_ f v r
  rw[show putF f v ((k,x)::r)=(if k=f then(k,v)::r else(k,x)::putF f v r)from rfl]
  by_cases hk:k=f
  ·rw[if_pos hk]
   subst hk
   exact⟨by simp,λg h=>by simpa using h⟩
  ·rw[if_neg hk]
   refine⟨?_,λg h=>?_⟩
   ·rw[List.map_cons]
    exact zzg _ i1
   ·rw[List.map_cons]at h ⊢
    rcases List.mem_cons.mp h with e|e
    ·exact List.mem_cons.mpr (.inl e)
    ·exact zzg _ (i2 g e)
theorem Jf_(f:Str)(v:V):∀fs:List (Str×V),(putF f v fs).length<=fs.length+1
 | []=>by simp[putF]
 | (k,x)::r=>by
  have ih:=Jf_ f v r
  rw[show putF f v ((k,x)::r)=(if k=f then(k,v)::r else(k,x)::putF f v r)from rfl]
  by_cases hk:k=f
  ·rw[if_pos hk,List.length_cons,List.length_cons];lia
  ·rw[if_neg hk,List.length_cons,List.length_cons];lia
theorem RelO.some_of{v:V}{o:Option Value}(r:RelO (some v) o):∃u,o=some u/\RelV v u:=by
 cases o with
 | none=>exact(show False from r).elim
 | some u=>exact⟨u,rfl,r⟩
theorem RelO.none_of{o:Option Value}(r:RelO none o):o=none:=by
 cases o with
 | none=>rfl
 | some u=>exact(show False from r).elim
theorem WG_{v:V}{u:Value}(r:RelV v u):PySem.W.handedIn u=true:=by
 cases v with
 | non=>cases (show u=Value.none from r);rfl
 | bl b=>cases (show u=Value.bool b from r);rfl
 | int i=>obtain⟨t,e⟩:=(show ∃t,u=Value.int i t from r);cases e;rfl
 | str x=>obtain⟨t,e⟩:=(show ∃t,u=Value.str x t from r);cases e;rfl
 | byt b=>obtain⟨t,e⟩:=(show ∃t,u=Value.bytes b t from r);cases e;rfl
 | flt b=>obtain⟨t,e⟩:=(show ∃t,u=Value.float b t from r);cases e;rfl
 | ref a=>cases (show u=Value.ref a from r);rfl
 | ty n=>cases (show u=Value.type n from r);rfl
section
variable {P:Program}{w:World}{H H':Hp}{h h':Heap}{a C dx:Addr}{fs fs':List (Str×V)}
theorem Y2_(hok:HOk P w H h)(e:H a=some (.ins C dx fs)):∃mA,ObjM h a dx C mA/\(∀f,RelO (fs.lookup f) (mA f))/\PySem.Within mA (fs.map (·.1))/\fs.length<=1000/\H dx=some (.own a):=by
 obtain⟨d,z,ne,ob,mA,n,r,q⟩:=(show ObjOk P w H h a (.ins C dx fs)from hok a _ e)
 exact⟨mA,⟨ob,n,ne⟩,r,q,z,d⟩
end
structure Cls(K:PySem.W.Frag)(C:Addr):Prop where
 pg:PySem.W.plainGet K C Str.empty=true
 hd:PySem.W.hasDictIn K C=true
 po:PySem.W.plainOver K C=true
 sa:PySem.W.findIn K (.ref C) "__setattr__" = some (some (.builtin "object.__setattr__"))
theorem Cls.get{K:PySem.W.Frag}{C:Addr}(c:Cls K C)(f:Str):PySem.W.plainGet K C f=true:=c.pg
def NoAttr(K:PySem.W.Frag)(C:Addr)(f:Str):Prop:=PySem.W.findIn K (.ref C) f=some none
theorem NoAttr.taker{K:PySem.W.Frag}{C:Addr}{f:Str}(n:NoAttr K C f):PySem.W.takerIn K C f=some none:=by
 unfold PySem.W.takerIn
 rw[show PySem.W.findIn K (.ref C) f=some none from n]
 rfl
structure Meth(K:PySem.W.Frag)(C:Addr)(m:Str)(f:Addr):Prop where
 at_:PySem.W.findIn K (.ref C) m=some (some (.ref f))
 fn:PySem.W.isFn K (.ref f)=true
 kp:PySem.W.keepIn K (.ref f)=true
section
variable {X:Cx}{pins:List (Addr×Obj)}{σ:St}{H:Hp}{s:Shared}{a C dx:Addr}{fs:List (Str×V)}{f:Str}{v:V}{A:Around}{E:Value->Shared->Prop}
theorem J0_{b:Bool}{Q:Value->Shared->Prop}(I:Inv X pins σ H s)(e:H a=some (.ins C dx fs))(c:Cls X.K C)(n:NoAttr X.K C f)(l:fs.lookup f=some v)
  (h:∀u s',Inv X pins σ H s'->RelV v u->Q u s'):wpAny (model X.prog X.w) A (getAttr (.ref a) f b) Q E s:=by
 obtain⟨mA,O,r,_,_,_⟩:=Y2_ I.hok e
 obtain⟨u,hu,ru⟩:=RelO.some_of (v:=v) (o:=mA f) (by rw[<-l];exact r f)
 exact zbt_ I.kIn O (c.get f) c.hd n hu (WG_ ru) (h u _ (I.tok _) ru)
theorem JZ_{m:Str}{g:Addr}{pl:Sem Bool}{Q:Value×List Value->Shared->Prop}(I:Inv X pins σ H s)(e:H a=some (.ins C dx fs))(c:Cls X.K C)(k:Meth X.K C m g)(l:fs.lookup m=none)
  (h:Q (.ref g,[.ref a]) s):wpAny (model X.prog X.w) A (getMethod (.ref a) m pl) Q E s:=by
 obtain⟨mA,O,r,_,_,_⟩:=Y2_ I.hok e
 have hn:mA m=none:=RelO.none_of (by rw[<-l];exact r m)
 exact XL_ I.kIn O (c.get m) k.at_ k.fn hn h
theorem JN_{y:V}{u:Value}{Q:Unit->Shared->Prop}(I:Inv X pins σ H s)(e:H a=some (.ins C dx fs))(c:Cls X.K C)(n:NoAttr X.K C f)(hl:fs.length<1000)(ry:RelV y u)
  (h:∀s',Inv X pins σ (upd H a (.ins C dx (putF f y fs))) s'->Q () s'):wpAny (model X.prog X.w) A (setAttr (.ref a) f u) Q E s:=by
 obtain⟨mA,O,r,wi,_,ho⟩:=Y2_ I.hok e
 have hz:(fs.map (·.1)).length<=sizeLine:=by rw[zzd,sizeLine_eq];lia
 refine zaH_ I.kIn O c.sa c.po n.taker c.hd wi hz λh' O' sb=>h _ ?_
 have hd:∃o,h'.get? dx=some o:=let ⟨o,_,_,e',_⟩:=O'.ns;⟨o,e'⟩
 refine I.write (x:=a) (e:=dx) (by rw[e];exact True.intro) (.inr ho) (λb q hb z=>(sb.2 b hb).trans z) hd ?_
 refine⟨by rw[zo_ O.ne];exact ho,?_,O.ne,O'.obj,_,O'.ns,λg=>?_,λg hg=>?_⟩
 ·have:=Jf_ f y fs;lia
 ·show RelO ((putF f y fs).lookup g) (if g=f then some u else mA g)
  rw[yA_]
  by_cases q:g=f
  ·rw[if_pos q,if_pos q];exact ry
  ·rw[if_neg q,if_neg q];exact r g
 ·by_cases q:g=f
  ·rw[q];exact(u5_ f y fs).1
  ·refine(u5_ f y fs).2 g (wi g λz=>hg ?_)
   show(if g=f then some u else mA g)=none
   rw[if_neg q];exact z
theorem Inv.made(I:Inv X pins σ H s):Inv X pins σ (upd (upd H s.heap.objs.size (.own (s.heap.objs.size+1))) (s.heap.objs.size+1) (.ins C s.heap.objs.size []))
  { s with heap:=(s.heap.push PySem.W.emptyDict).push (PySem.W.instObj C s.heap.objs.size) }:=by
 have e1:(s.heap.push PySem.W.emptyDict).get? s.heap.objs.size=some PySem.W.emptyDict:=zze s.heap rfl
 have e2:((s.heap.push PySem.W.emptyDict).push (PySem.W.instObj C s.heap.objs.size)).get? (s.heap.objs.size+1)=some (PySem.W.instObj C s.heap.objs.size):=by
  have:=zze (s.heap.push PySem.W.emptyDict) (o:=PySem.W.instObj C s.heap.objs.size) rfl
  rwa [Heap.size_push]at this
 have e3:(s.heap.push PySem.W.emptyDict).Ns s.heap.objs.size (λ_=>none):=⟨PySem.W.emptyDict,#[],_,e1,rfl,(λe he=>absurd he (by simp)),λ_=>rfl⟩
 have I1:=I.laid (a:=s.heap.objs.size) (o:=.own (s.heap.objs.size+1)) (h':=s.heap.push PySem.W.emptyDict) (t':=s.toks) (λb u q=>zzc _ q) (Nat.le_refl _) ⟨_,e1⟩
 refine I1.laid (a:=s.heap.objs.size+1) (o:=.ins C s.heap.objs.size []) (t':=s.toks) (λb u q=>zzc _ q) (Nat.le_of_eq (Heap.size_push _ _)) ?_
 have ne:s.heap.objs.size≠s.heap.objs.size+1:=Nat.ne_of_lt (Nat.lt_succ_self _)
 refine⟨by rw[zo_ ne,zw_],Nat.zero_le _,ne,e2,λ_=>none,(Heap.Ns1.of_empty e3).at λo q=>zzc _ q,λ_=>True.intro,λy hy=>absurd rfl hy⟩
theorem zbE_{prog:Program}{w:World}{env:Env}{e:Expr}{f:Str}{pos:Pos}{s:Shared}{Q:Value->Shared->Prop}(hb:attributeBase e f env (eval e env)=eval e env)
  (h:wpAny (model prog w) A (eval e env) (λo s₁=>wpAny (model prog w) A (getAttr o f true) Q E s₁) E s):wpAny (model prog w) A (eval (.Attribute e f pos) env) Q E s :=
 Attribute_any_ h (by rw[arm_eval_Attribute,hb])
end
def tFld(K:PySem.W.Frag)(ta:TE)(f:Str):TE:=λσ H Q=>ta σ H λx H1=>∃a C dx fs v,x=.ref a/\H1 a=some (.ins C dx fs)/\Cls K C/\NoAttr K C f/\fs.lookup f=some v/\Q v H1
def sFld(K:PySem.W.Frag)(ta tv:TE)(f:Str):TS:=λD σ H=>tv σ H λy H1=>ta σ H1 λx H2=>∃a C dx fs,x=.ref a/\H2 a=some (.ins C dx fs)/\Cls K C/\NoAttr K C f/\fs.length<1000 /\
 D.nx σ (upd H2 a (.ins C dx (putF f y fs)))
def InOp(X:Cx)(op:Operator)(rd:V->V->Hp->VK->Prop):Prop :=
 ∀(pins:List (Addr×Obj)) (s:Shared) (σ:St) (H:Hp) (x y:V) (u v:Value) (Q:VK),Inv X pins σ H s->RelV x u->RelV y v->rd x y H Q->wpAny (model X.prog X.w) X.A (inplaceOp op u v) (EP X pins σ Q) X.xe s
def zaK_(K:PySem.W.Frag)(ta tv:TE)(rd:V->V->Hp->VK->Prop)(f:Str):TS:=λD σ H=>ta σ H λx H1=>∃a C dx fs v,x=.ref a/\H1 a=some (.ins C dx fs)/\Cls K C/\NoAttr K C f/\fs.lookup f=some v /\
 tv σ H1 λy H2=>rd v y H2 λz H3=>∃dx' fs',H3 a=some (.ins C dx' fs')/\fs'.length<1000/\D.nx σ (upd H3 a (.ins C dx' (putF f z fs')))
section
variable {X:Cx}{o e value:Expr}{f:Str}{pos pos' tpos:Pos}{ta tv:TE}
theorem zct_(he:PE X e ta)(hb:attributeBase e f X.env (eval e X.env)=eval e X.env):PE X (.Attribute e f pos) (tFld X.K ta f):=by
 intro pins s σ H Q I h
 refine zbE_ hb (thn (he pins s σ H _ I h) λu s1 ⟨x,H1,I1,rx,a,C,dx,fs,v,ex,ea,c,n,l,q⟩=>?_)
 subst ex
 obtain rfl:u=Value.ref a:=rx
 exact J0_ I1 ea c n l λu' s2 I2 ru=>⟨v,H1,I2,ru,q⟩
theorem zci_(ha:PE X o ta)(hv:PE X value tv)(hs:swapsWith value (some (.Attribute o f pos')) pos.line X.env=pure false):PS X (.Assign [.Attribute o f pos'] value pos) (sFld X.K ta tv f):=by
 intro pins s σ H D I h
 refine plainObj_wpAny_Assign_Attribute (thn (hv pins s σ H _ I h) λu s1 ⟨y,H1,I1,ry,q⟩=>thn (ha pins s1 σ H1 _ I1 q) λov s2 ⟨x,H2,I2,rx,a,C,dx,fs,ex,ea,c,n,l,q2⟩=>?_) hs
 subst ex
 obtain rfl:ov=Value.ref a:=rx
 exact JN_ I2 ea c n l ry λs3 I3=>⟨σ,_,I3,q2⟩
theorem V5_{op:Operator}{rd:V->V->Hp->VK->Prop}(ha:PE X o ta)(hv:PE X value tv)(hop:InOp X op rd):PS X (.AugAssign (.Attribute o f tpos) op value pos) (zaK_ X.K ta tv rd f):=by
 intro pins s σ H D I h
 refine wpAny_AugAssign_AttributeAny (thn (ha pins s σ H _ I h) λov s1 ⟨x,H1,I1,rx,a,C,dx,fs,v,ex,ea,c,n,l,q⟩=>?_)
 subst ex
 obtain rfl:ov=Value.ref a:=rx
 refine J0_ I1 ea c n l λu s2 I2 ru=>thn (hv pins s2 σ H1 _ I2 q) λw3 s3 ⟨y,H2,I3,ry,q3⟩=>thn (hop pins s3 σ H2 v y u w3 _ I3 ru ry q3) λw4 s4 ⟨z,H3,I4,rz,dx',fs',ea',l',q4⟩=>?_
 exact JN_ I4 ea' c n l' rz λs5 I5=>⟨σ,_,I5,q4⟩
noncomputable def rAdd:V->V->Hp->VK->Prop:=λx y H Q=>∃i j,x=.int i/\y=.int j/\Q (.int (i+j)) H
theorem zdf_:InOp X .Add rAdd:=by
 rintro pins s σ H x y u v Q I rx ry ⟨i,j,rfl,rfl,q⟩
 obtain⟨t,rfl⟩:=(show ∃t,u=Value.int i t from rx)
 obtain⟨t',rfl⟩:=(show ∃t',v=Value.int j t' from ry)
 exact PyProof.Rows.iadd_int ⟨.int (i+j),H,I.tok _,⟨_,rfl⟩,q⟩
end
structure Room(k:Nat)(A:Around):Prop where
 hd:A.handled=none
 dp:A.depth+3*k+5<recursionLimit
 un:A.units+16*k+1200<cLine
 gd:A.guards=some []
theorem Room.mono{j k:Nat}{A:Around}(r:Room k A)(h:j<=k):Room j A:=⟨r.hd,by have:=r.dp;lia,by have:=r.un;lia,r.gd⟩
theorem Room.deeper{k:Nat}{A:Around}(r:Room (k+1) A)(env:Env):Room k (A.deeper env) :=
 ⟨r.hd,by have:=r.dp;show A.depth+1+3*k+5<_;lia,by have:=r.un;show A.units+3+16*k+1200<_;lia,r.gd⟩
theorem Vh_{A:Around}{C:Addr}{us:List Value}{kw:List (Str×Value)}:(A.under (.builtin "type.__call__" ⟨.ref C::us,kw⟩)).depth=A.depth+1:=by
 first|rfl|simp[Around.under,Code.weight,Code.isCreation,Code.isGuard,Code.isCaller,Code.frames,Code.isFrame,guardIds]
theorem Vg_{A:Around}{C:Addr}{us:List Value}{kw:List (Str×Value)}:(A.under (.builtin "type.__call__" ⟨.ref C::us,kw⟩)).units=A.units+1:=by
 first|rfl|simp[Around.under,Code.cUnits,Code.frames,Code.isFrame]
theorem Room.make{k:Nat}{A:Around}(r:Room (k+1) A)(C:Addr)(us:List Value)(kw:List (Str×Value)):Room k (A.under (.builtin "type.__call__" ⟨.ref C::us,kw⟩)) :=
 ⟨r.hd,by have:=r.dp;rw[Vh_];lia,by have:=r.un;rw[Vg_];lia,by first|exact r.gd|simpa[Around.under,Code.isGuard,guardIds]using r.gd⟩
theorem Room.depth{k:Nat}{A:Around}(r:Room k A):A.depth<recursionLimit:=by have:=r.dp;lia
noncomputable def tNil:TA:=λ_ H Q=>Q [] H
noncomputable def zdK_(ta:TE)(tr:TA):TA:=λσ H Q=>ta σ H λx H1=>tr σ H1 λxs H2=>Q (x::xs) H2
section
variable {X:Cx}{e:Expr}{es:List Expr}{te:TE}{t:TA}{pos:Pos}
theorem Qw_:PA X [] tNil:=λ_ _ _ _ H Q I h=>Calls.spliced_nil ⟨[],H,I,.nil,h⟩
theorem yw_(ha:PE X e te)(hr:PA X es t)(hs:starEach (e::es) X.env=(false,eval e X.env)::starEach es X.env:=by rfl):PA X (e::es) (zdK_ te t):=by
 intro pos pins s σ H Q I h
 rw[hs]
 show wpAny _ _ (spliced ((false,eval e X.env)::backTo pos (starEach es X.env))) _ _ s
 refine Calls.spliced_cons (thn (ha pins s σ H _ I h) λu s1 ⟨x,H1,I1,r1,q1⟩=>?_)
 exact thn (hr pos pins s1 σ H1 _ I1 q1) λus s2 ⟨xs,H2,I2,r2,q2⟩=>⟨x::xs,H2,I2,.cons r1 r2,q2⟩
def tTup(t:TA):TE:=λσ H Q=>t σ H λxs H1=>xs.length<=sizeLine/\∀p,H1 p=none->Q (.ref p) (upd H1 p (.tup xs))
def tLst(t:TA):TE:=λσ H Q=>t σ H λxs H1=>xs.length<=sizeLine/\∀p,H1 p=none->Q (.ref p) (upd H1 p (.lst xs))
theorem X8_{x1}(h:PA X es t):PE X (.Tuple es x1 pos) (tTup t):=by
 intro pins s σ H Q I hq
 refine wpAny_Tuple_spliced (thn (h pos pins s σ H _ I hq) λus s1 ⟨xs,H1,I1,r,z,q⟩=>⟨by rw[<-r.length];exact z,?_⟩)
 have hf:H1 s1.heap.objs.size=none:=I1.hok.fresh (Nat.le_refl _)
 refine⟨.ref s1.heap.objs.size,upd H1 s1.heap.objs.size (.tup xs),I1.laid (t':=s1.toks) (λb u e=>zzc _ e) (Nat.le_refl _) ?_,rfl,q _ hf⟩
 exact⟨z,us,r,⟨_,zze _ rfl,rfl,_,rfl⟩,⟨_,zze _ rfl,rfl⟩⟩
theorem zcq_(h:PA X es t):PE X (.List es pos) (tLst t):=by
 intro pins s σ H Q I hq
 refine wpAny_List_spliced (thn (h pos pins s σ H _ I hq) λus s1 ⟨xs,H1,I1,r,z,q⟩=>⟨by rw[<-r.length];exact z,?_⟩)
 have hf:H1 s1.heap.objs.size=none:=I1.hok.fresh (Nat.le_refl _)
 refine⟨.ref s1.heap.objs.size,upd H1 s1.heap.objs.size (.lst xs),I1.laid (t':=s1.toks) (λb u e=>zzc _ e) (Nat.le_refl _) ?_,rfl,q _ hf⟩
 exact⟨z,us,0,r,zze _ rfl⟩
end
noncomputable abbrev Sp:=List V->Hp->VK->XK->Prop
noncomputable abbrev CXT:=List Env->Hp->Shared->XK->Value->Shared->Prop
structure Env0(P:Program)(w:World)(K:PySem.W.Frag)(mg:Str->Option Value)(base:Heap)(A:Around)(outer:List Env)(s:Shared)(H:Hp):Prop where
 frames:A.frames=some outer
 mod:Mod K mg base
 bs:∀b o,base.get? b=some o->s.heap.get? b=some o/\H b=none
 bsz:base.objs.size<=s.heap.objs.size
 funs:s.heap.FunFrames base outer
 frf:∀b∈frs outer,H b=none
 hok:HOk P w H s.heap
 bare:AllBare s.gens
def CE(outer:List Env)(P:Program)(w:World)(H:Hp)(s:Shared)(Q:VK)(u:Value)(s':Shared):Prop :=
 ∃v H',s'.os=s.os/\AllBare s'.gens/\Un (frs outer) [] H H' s.heap s'.heap/\HOk P w H' s'.heap/\RelV v u/\Q v H'
def CR(CX:CXT)(outer:List Env)(P:Program)(w:World)(H:Hp)(s:Shared)(Q:VK)(E:XK)(r:Result)(s':Shared):Prop :=
 match r with
 | .ok (.ret u)=>CE outer P w H s Q u s'
 | .ok _=>False
 | .error e=>CX outer H s E e s'
structure FnOk(P:Program)(w:World)(K:PySem.W.Frag)(mg:Str->Option Value)(base:Heap)(CX:CXT)(k:Nat)(f:Addr)(fd:FuncData)(ps:List Str)(sp:Sp):Prop where
 len:∀vs H Q E,sp vs H Q E->vs.length=ps.length
 run:∀(A:Around) (outer:List Env) (s:Shared) (H:Hp) (args:Args) (us:List Value) (vs:List V) (Q:VK) (E:XK),Room k A->Env0 P w K mg base A outer s H->BindsTo s fd args (ps.zip us)->Vals vs us->sp vs H Q E ->
  codeAny (model P w) A (.call (.ref f) args) (CR CX outer P w H s Q E) s
theorem Env0.make{P:Program}{w:World}{K:PySem.W.Frag}{mg:Str->Option Value}{base:Heap}{A:Around}{outer:List Env}{s:Shared}{H:Hp}(e:Env0 P w K mg base A outer s H)(C:Addr)(us:List Value)(kw:List (Str×Value)) :
  Env0 P w K mg base (A.under (.builtin "type.__call__" ⟨.ref C::us,kw⟩)) outer s H:=⟨by first|exact e.frames|(simpa[Around.under,Code.envs,Code.isFrame,pushEnvs]using e.frames),e.mod,e.bs,e.bsz,e.funs,e.frf,e.hok,e.bare⟩
section
variable {X:Cx}{pins:List (Addr×Obj)}{σ:St}{H:Hp}{s s':Shared}
theorem Inv.env0(I:Inv X pins σ H s):Env0 X.prog X.w X.K X.mg X.base X.A X.stack s H :=
 ⟨I.ok.frames,I.ok.mod,I.bs,Nat.le_trans I.ok.bsz I.sz,I.stack,I.stkFree,I.hok,I.bare⟩
theorem Inv.after{Q:VK}{u:Value}(I:Inv X pins σ H s)(h:CE X.stack X.prog X.w H s Q u s'):EP X pins σ Q u s':=by
 obtain⟨v,H',os,bare,un,hok,r,q⟩:=h
 obtain⟨hh,g,d,t,os'⟩:=s'
 obtain rfl:os'=s.os:=os
 exact⟨v,H',I.call (h':=hh) (g':=g) (d':=d) (t':=t) (ch:=[]) un hok bare (λb z=>absurd z (by simp)),r,q⟩
end
def Binds(K:PySem.W.Frag)(fd:FuncData)(ps:List Str)(ds:List Value):Prop :=
 ∀(s:Shared) (us:List Value),K.In s.heap->(us++ds).length=ps.length->BindsTo s fd ⟨us,[]⟩ (ps.zip (us++ds))
theorem Binds.all{K:PySem.W.Frag}{fd:FuncData}{ps:List Str}(h:∀us:List Value,us.length=ps.length->bindArgs fd ⟨us,[]⟩=pure (ps.zip us)):Binds K fd ps []:=λs us _ hl=>by
 rw[List.append_nil]at hl ⊢
 exact .of_eq (h us hl)
def zdy_(CX:CXT)(X:Cx)(E:XK):Prop:=∀(pins:List (Addr×Obj)) (σ:St) (H:Hp) (s:Shared) (e:Value) (s':Shared),Inv X pins σ H s->CX X.stack H s E e s'->X.xe e s'
section
variable {X:Cx}{CX:CXT}{k:Nat}{f C:Addr}{fd:FuncData}{ps:List Str}{sp:Sp}{dvs:List V}{ds:List Value}{E:XK}{x m:Str}{p pos apos:Pos}{e o:Expr}{es:List Expr}{ta:TE}{t:TA}
structure Mk(K:PySem.W.Frag)(C f:Addr):Prop where
 makes:PySem.W.makesIn K C=true
 init:PySem.W.findIn K (.ref C) "__init__" = some (some (.ref f))
 fn:PySem.W.isFn K (.ref f)=true
 kp:PySem.W.keepIn K (.ref C)=true
theorem run_make{pins:List (Addr×Obj)}{σ:St}{H:Hp}{s:Shared}{Q:VK}{us:List Value}{vs:List V}(M:Mk X.K C f)(F:FnOk X.prog X.w X.K X.mg X.base CX k f fd ps sp)(hr:Room (k+1) X.A)(hb:Binds X.K fd ps ds)(hd:Vals dvs ds)
  (hx:zdy_ CX X E) (I:Inv X pins σ H s) (r:Vals vs us)
  (h:∀x dx,H x=none->H dx=none->dx≠x->sp (.ref x::(vs++dvs)) (upd (upd H dx (.own x)) x (.ins C dx [])) (λv H2=>v=.non/\Q (.ref x) H2) E) :
  wpAny (model X.prog X.w) X.A (call (.ref C) us) (EP X pins σ Q) X.xe s:=by
 have hq:=h (s.heap.objs.size+1) s.heap.objs.size (I.hok.fresh (Nat.le_succ _)) (I.hok.fresh (Nat.le_refl _)) (Nat.ne_of_lt (Nat.lt_succ_self _))
 have I2:=Inv.made (C:=C) I
 have r2:Vals (V.ref (s.heap.objs.size+1)::(vs++dvs)) (Value.ref (s.heap.objs.size+1)::(us++ds)):=.cons rfl (r.append hd)
 have hl:(Value.ref (s.heap.objs.size+1)::us++ds).length=ps.length:=by
  have e:=r2.length
  rw[F.len _ _ _ _ hq]at e
  exact e.symm
 refine wpAny_call (Xz_ (f:=f) I.kIn M.makes M.init (beq_iff_eq.mp M.fn) (codeAny_mono (F.run _ X.stack _ _ ⟨Value.ref (s.heap.objs.size+1)::us,[]⟩ (Value.ref (s.heap.objs.size+1)::(us++ds)) _ _ E (hr.make C us [])
  (I2.env0.make C us []) (hb _ (Value.ref (s.heap.objs.size+1)::us) I2.kIn hl) r2 hq) λr s' hq'=>?_))
 cases r with
 | error e=>exact hx pins σ _ _ e s' I2 hq'
 | ok fl =>
  cases fl with
  | ret u =>
   obtain⟨v,H',I3,rv,ev,q3⟩:=I2.after hq'
   subst ev
   exact⟨rv,⟨V.ref (s.heap.objs.size+1),H',I3,rfl,q3⟩⟩
  | next=>exact False.elim hq'
  | brk=>exact False.elim hq'
  | cont=>exact False.elim hq'
end
structure FnScope(N P:List Str)(sc:Scope):Prop where
 kind:sc.kind=.function
 co:sc.isCoroutine=false
 gen:sc.isGenerator=false
 nd:N.Nodup
 pre:N.take P.length=P
 par:∀x∈P,sc.names.lookup x=some .local\/sc.names.lookup x=some .cell
 nofree:∀y∈sc.names,y.2≠.free
theorem YC_{kindOf:Str->Option NameKind}{x:Str}:∀{binds:List (Str×Value)} {m:Str->Option Value},(∀v,(x,v)∉binds)->bindL kindOf binds m x=m x
 | [],_,_=>rfl
 | (n,v)::r,m,h=>by
  unfold bindL
  rw[YC_ λw hw=>h w (zzg _ hw)]
  split
  ·have:x≠n:=by rintro rfl;exact h v List.mem_cons_self
   simp[this]
  ·rfl
theorem YE_{kindOf:Str->Option NameKind}{x:Str}:∀{binds:List (Str×Value)} {m:Str->Option Value},(∀v,(x,v)∉binds)->bindC kindOf binds m x=m x
 | [],_,_=>rfl
 | (n,v)::r,m,h=>by
  unfold bindC
  rw[YE_ λw hw=>h w (zzg _ hw)]
  split
  ·rfl
  ·have:x≠n:=by rintro rfl;exact h v List.mem_cons_self
   simp[this]
theorem YD_{kindOf:Str->Option NameKind}{x:Str}{v:Value}:∀{P:List Str} {vs:List Value} {i:Nat} {m:Str->Option Value},P.Nodup->P[i]? = some x->vs[i]? = some v->kindOf x=some .local ->
  bindL kindOf (P.zip vs) m x=some v
 | [],_,_,_,_,h,_,_=>by simp at h
 | _::_,[],_,_,_,_,h,_=>by simp at h
 | p::P,w::vs,0,m,nd,h1,h2,hk=>by
  simp at h1 h2;subst h1;subst h2
  show bindL kindOf ((p,w)::P.zip vs) m p=_
  unfold bindL
  rw[YC_ λv hv=>(List.nodup_cons.mp nd).1 (List.of_mem_zip hv).1,if_pos hk]
  simp
 | p::P,w::vs,i+1,m,nd,h1,h2,hk=>by
  show bindL kindOf ((p,w)::P.zip vs) m x=_
  unfold bindL
  exact YD_ (i:=i) (List.nodup_cons.mp nd).2 (by simpa using h1) (by simpa using h2) hk
theorem YF_{kindOf:Str->Option NameKind}{x:Str}{v:Value}:∀{P:List Str} {vs:List Value} {i:Nat} {m:Str->Option Value},P.Nodup->P[i]? = some x->vs[i]? = some v->kindOf x≠some .local ->
  bindC kindOf (P.zip vs) m x=some v
 | [],_,_,_,_,h,_,_=>by simp at h
 | _::_,[],_,_,_,_,h,_=>by simp at h
 | p::P,w::vs,0,m,nd,h1,h2,hk=>by
  simp at h1 h2;subst h1;subst h2
  show bindC kindOf ((p,w)::P.zip vs) m p=_
  unfold bindC
  rw[YE_ λv hv=>(List.nodup_cons.mp nd).1 (List.of_mem_zip hv).1,if_neg hk]
  simp
 | p::P,w::vs,i+1,m,nd,h1,h2,hk=>by
  show bindC kindOf ((p,w)::P.zip vs) m x=_
  unfold bindC
  exact YF_ (i:=i) (List.nodup_cons.mp nd).2 (by simpa using h1) (by simpa using h2) hk
noncomputable def start(N:List Str)(vs:List V):St:=vs.map some++List.replicate (N.length - vs.length) none
noncomputable def cxOf(CX:CXT)(P:Program)(w:World)(K:PySem.W.Frag)(mg:Str->Option Value)(base:Heap)(N:List Str)(qual:Str)(scope:Scope)(f:Addr)(cd:Value)(A:Around)(outer:List Env)(s:Shared)(H:Hp)(E:XK):Cx where
 prog:=P
 w:=w
 K:=K
 mg:=mg
 base:=base
 A:=A.deeper (envOfC qual scope s.heap.objs.size f cd)
 N:=N
 s₀:=s
 H₀:=H
 env:=envOfC qual scope s.heap.objs.size f cd
 outer:=outer
 stack:=envOfC qual scope s.heap.objs.size f cd::outer
 ex:=[]
 calm:=true
 fn:=λ_=>true
 pn:=[]
 xe:=λe s'=>wpAny (model P w) (A.deeper (envOfC qual scope s.heap.objs.size f cd)) (leaving (envOfC qual scope s.heap.objs.size f cd) e) (λ_ s''=>CX outer H s E e s'') (λe' s''=>CX outer H s E e' s'') s'
theorem QR_{sc:Scope}{n:Nat}{x:Str}(h:sc.names.lookup x=some .cell):∃c,(cellsFrom n sc.names []).lookup x=some c:=by
 have q:=PySem.W.cellsFrom_some sc.names n [] (.inl h)
 exact Option.isSome_iff_exists.mp q
theorem WD_{CX:CXT}{P:Program}{w:World}{K:PySem.W.Frag}{mg:Str->Option Value}{base:Heap}{N ps:List Str}{qual:Str}{scope:Scope}{f:Addr}{cd:Value}{A:Around}{outer:List Env}{s s1:Shared}{H:Hp}{E:XK}{us:List Value}{vs:List V}
  (S:FnScope N ps scope) (hd:A.handled=none) (e0:Env0 P w K mg base A outer s H) (hl:vs.length=ps.length) (r:Vals vs us)
  (x:InCallC s s.heap.objs.size (bindL (envOfC qual scope s.heap.objs.size f cd).kindOf (ps.zip us) λ_=>none) (cellsFrom (s.heap.objs.size+1) scope.names []) (bindC (envOfC qual scope s.heap.objs.size f cd).kindOf (ps.zip us) λ_=>none) s1) :
  Inv (cxOf CX P w K mg base N qual scope f cd A outer s H E) [] (start N vs) H s1:=by
 have hpl:ps.length<=N.length:=by have:=congrArg List.length S.pre;rw[List.length_take]at this;lia
 obtain⟨h1,tk,rfl,hk⟩:=x.done
 have noA:∀b:Addr,b∉(cxOf CX P w K mg base N qual scope f cd A outer s H E).ex:=λb z=>absurd (show b∈([]:List Addr)from z) (by simp)
 refine⟨⟨e0.mod,S.kind,rfl,rfl,Nat.le_refl _,λy z c h1 h2=>?_,λy hy=>?_,λy c _ h=>?_,λ_=>hd,Around.frames_deeper e0.frames,.inr ⟨rfl,rfl⟩,λb z=>absurd z (noA b),e0.bs,e0.bsz,λb _ _=>noA b,λb z=>absurd z (noA b),e0.funs,e0.frf⟩,
  rfl,e0.bare,Un.kept hk,⟨_,x.toInCall.ns,λi y v h1 h2 h3=>?_⟩,λy c h=>⟨_,x.cell y c h⟩,e0.hok.fresh (Nat.le_refl _),λy c h=>?_,λp hp=>absurd (show p∈([]:List (Addr×Obj))from hp) (by simp),e0.hok.kept hk,?_⟩
 ·exact name_of_addr x.apart (PySem.mem_of_lookup h1) (PySem.mem_of_lookup h2)
 ·have hy:scope.names.lookup y=some .cell\/scope.names.lookup y=some .free:=hy
  rcases hy with hy|hy
  ·exact QR_ hy
  ·exact absurd rfl (S.nofree _ (PySem.mem_of_lookup hy))
 ·exact Nat.le_of_lt (x.above y c (PySem.mem_of_lookup h))
 ·have hi:i<vs.length:=by
   unfold start at h2
   by_cases hi:i<vs.length
   ·exact hi
   ·rw[List.getElem?_append_right (by simpa using hi)]at h2
    rw[List.getElem?_replicate]at h2
    split at h2<;>cases h2
  have ha:vs[i]? = some v:=by
   unfold start at h2
   rw[List.getElem?_append_left (by simpa using hi),List.getElem?_map]at h2
   cases e:vs[i]? with
   | none=>rw[e]at h2;cases h2
   | some a=>rw[e]at h2;cases h2;rfl
  obtain⟨u,hu,rv⟩:=r.get ha
  have hp:ps[i]? = some y:=by
   rw[<-S.pre,List.getElem?_take_of_lt (by lia)];exact h1
  have ndP:ps.Nodup:=by rw[<-S.pre];exact S.nd.sublist (List.take_sublist _ _)
  refine⟨u,rv,?_⟩
  rcases S.par y (List.mem_of_getElem? hp)with k|k
  ·exact .inl ⟨k,YD_ ndP hp hu k⟩
  ·obtain⟨c,e⟩:=QR_ (n:=s.heap.objs.size+1) k
   refine .inr ⟨.inl k,c,e,?_⟩
   have q:=x.cell y c e
   rw[YF_ ndP hp hu (by show scope.names.lookup y≠_;rw[k];decide)]at q
   exact q
 ·exact e0.hok.fresh (Nat.le_of_lt (x.above y c (PySem.mem_of_lookup h)))
 ·unfold start
  show _=N.length
  rw[List.length_append,zzd,List.length_replicate]
  lia
theorem zex_{CX:CXT}{P:Program}{w:World}{K:PySem.W.Frag}{mg:Str->Option Value}{base:Heap}{k:Nat}{f:Addr}{name qual:Str}{params:Arguments}{body:List Stmt}{scope:Scope}{dV kV doc pm cdv ct oc:Value}{an od:Option Addr}
  {osl:Array (Option Value)} {N ps:List Str} {sp:Sp} (lk:K.lookup f=some ⟨oc,od,.func (PySem.W.fnOf name qual params body scope dV kV doc pm an cdv ct),osl⟩) (hcd:PySem.W.codeIn K cdv qual=true) (S:FnScope N ps scope)
  (len:∀vs H Q E,sp vs H Q E->vs.length=ps.length)
  (hbody:∀(A:Around) (outer:List Env) (s:Shared) (H:Hp) (vs:List V) (Q:VK) (E:XK),Room k (A.deeper (envOfC qual scope s.heap.objs.size f cdv))->sp vs H Q E ->
   ∃t,PSs (cxOf CX P w K mg base N qual scope f cdv A outer s H E) body t/\t { nx:=λ_ H'=>Q .non H',rt:=Q } (start N vs) H) :
  FnOk P w K mg base CX (k+1) f (PySem.W.fnOf name qual params body scope dV kV doc pm an cdv ct) ps sp:=by
 refine⟨len,λA outer s H args us vs Q E hr e0 hb r hsp=>?_⟩
 have hl:=len _ _ _ _ hsp
 have KX:K.In s.heap:=e0.mod.kin.keeps λb o e=>(e0.bs b o e).1
 have lim:s.heap.NoLimit:=e0.mod.nolimit.keeps λb o e=>(e0.bs b o e).1
 have hkind:∀y∈ps.zip us,scope.names.lookup y.1=some .local\/(scope.names.lookup y.1=some .cell/\((cellsFrom (s.heap.objs.size+1) scope.names []).lookup y.1).isSome=true):=λ⟨n,v⟩ hy=>by
  rcases S.par n (List.of_mem_zip hy).1 with q|q
  ·exact .inl q
  ·exact .inr ⟨q,PySem.W.cellsFrom_some _ _ _ (.inl q)⟩
 refine codeAny_call_function hr.depth (KX _ _ lk) rfl S.co S.gen rfl (PySem.W.codeRec_of KX hcd) (hb _ _ _ _ ?_)
 refine wpAny_newFunctionEnv_cells S.kind hkind λenv he s1 x=>?_
 subst he
 refine⟨lim.keeps x.toInCall.keep,codeAny_func ?_⟩
 obtain⟨t,ht,hq⟩:=hbody A outer s H vs Q E (hr.deeper _) hsp
 have I:Inv (cxOf CX P w K mg base N qual scope f cdv A outer s H E) [] (start N vs) H s1:=WD_ S hr.hd e0 hl r x
 refine wpAny_mono (ht [] s1 (start N vs) H _ I hq) (λfl s' hs=>?_) λe s' hs=>hs
 have fin:∀{σ':St} {H':Hp} {v:V} {u:Value},Inv (cxOf CX P w K mg base N qual scope f cdv A outer s H E) [] σ' H' s'->RelV v u->Q v H'->CE outer P w H s Q u s' :=
  λ{σ' H' v u} J rv q=>⟨v,H',J.os,J.bare,J.base,J.hok,rv,q⟩
 cases fl with
 | ret u =>
  obtain⟨v,σ',H',J,rv,q⟩:=hs
  exact fin J rv q
 | next =>
  obtain⟨σ',H',J,q⟩:=hs
  exact fin (v:=V.non) (u:=Value.none) J rfl q
 | brk =>
  obtain⟨_,_,_,q⟩:=hs
  exact False.elim q
 | cont =>
  obtain⟨_,_,_,q⟩:=hs
  exact False.elim q
section
variable {X:Cx}{x:Str}{p pos:Pos}{e:Expr}{es:List Expr}{t:TA}{id T:String}{r:List V->Hp->VK->Prop}
noncomputable def tCB(r:List V->Hp->VK->Prop)(t:TA):TE:=λσ H Q=>t σ H λvs H1=>r vs H1 Q
theorem Un_(hc:CallR X (.builtin id) r)(hg:Gl X x)(hm:X.mg x=none)(hv:bootBuiltins x=some (.builtin id))(ha:PA X (e::es) t)(hn:x ≠ "__name__":=by decide)(hdb:(x==("__debug__" : Str))=false:=by decide)
  (he:starEach (e::es) X.env=(false,eval e X.env)::starEach es X.env:=by rfl) (hpl:(backTo pos (starEach es X.env)).any (·.1)=false:=by rfl):PE X (.Call (.Name x p) (e::es) [] pos) (tCB r t):=by
 intro pins s σ H Q I h
 refine wpAny_Call_Name_kw (Yk_ I hg hm hv ?_ hn hdb)
 exact PyProof.Rows.callWith_builtin1 (thn (ha pos pins s σ H _ I h) λus s1 ⟨vs,H1,I1,r1,q1⟩=>hc pins s1 σ H1 vs us Q I1 r1 q1) he hpl
theorem Wd_(hc:CallR X (.type T) r)(hg:Gl X x)(hm:X.mg x=none)(hv:bootBuiltins x=some (.type T))(ha:PA X (e::es) t)(hn:x ≠ "__name__":=by decide)(hdb:(x==("__debug__" : Str))=false:=by decide)
  (he:starEach (e::es) X.env=(false,eval e X.env)::starEach es X.env:=by rfl) (hpl:(backTo pos (starEach es X.env)).any (·.1)=false:=by rfl):PE X (.Call (.Name x p) (e::es) [] pos) (tCB r t):=by
 intro pins s σ H Q I h
 refine wpAny_Call_Name_kw (Yk_ I hg hm hv ?_ hn hdb)
 exact PyProof.Rows.callWith_type1 (thn (ha pos pins s σ H _ I h) λus s1 ⟨vs,H1,I1,r1,q1⟩=>hc pins s1 σ H1 vs us Q I1 r1 q1) he hpl
end
end L2
namespace HT
open PySem PyProof.Rows
noncomputable def lexLt:List Int->List Int->Bool
 | [],[]=>false
 | [],_::_=>true
 | _::_,[]=>false
 | x::xs,y::ys=>if x=y then lexLt xs ys else decide (x<y)
theorem Vi_(x y:Int)(xs ys:List Int):lexLt (x::xs) (y::ys)=if x=y then lexLt xs ys else decide (x<y):=rfl
theorem Uw_:lexLt [] []=false:=rfl
theorem Jz_(y:Int)(ys:List Int):lexLt [] (y::ys)=true:=rfl
theorem JA_(x:Int)(xs:List Int):lexLt (x::xs) []=false:=rfl
theorem QL_(A:Around)(s:Shared)(a:Int)(t:Tok)(c:Int)(u:Tok):∃e,SeqAt.EqAt A s (.int a t) (.int c u) e/\(e=true↔a=c) :=
 ⟨(a==c),SeqAt.EqAt.int_int a t c u,by simp⟩
theorem Xm_(A:Around)(s:Shared)(a:Int)(t:Tok)(c:Int)(u:Tok)(prog:Program)(w:World)(E:Value->Shared->Prop)(Q:Value->Shared->Prop)(h:Q (.bool (decide (a<c))) s) :
  wpAny (model prog w) A (richCompare .Lt (.int a t) (.int c u)) Q E s :=
 (PyProof.Rows.lt_int h:wpAny (model prog w) A (compareOp .Lt (.int a t) (.int c u)) Q E s)
section
open PySem.SeqAt
open PySem.AutoSeq1 (wpAny_loadPart')
open PySem.MeetsSeq PySem.MeetsSeq2 PySem.MeetsSeq3
theorem Ub_(l b:Addr)(items items2:Array Value)(n n2:Nat)(dd dd2:Option Addr)(sl sl2:Array (Option Value))(ns ms:List Int)(hi:IntsAre items.toList ns)(hj:IntsAre items2.toList ms) :
  Meets (Builtin.«tuple.__lt__» ⟨[.ref l,.ref b],[]⟩)
   (λ_ R s=>s.heap.get? l=some { cls:=.type "tuple",dict:=dd,data:=.seq items n,slots:=sl }/\s.heap.get? b=some { cls:=.type "tuple",dict:=dd2,data:=.seq items2 n2,slots:=sl2 } /\
    R (.ok (.ret (.bool (lexLt ns ms)))) s) :=
 .of_wp λprog w A R s h=>by
  obtain⟨hp,g,d,tk,os⟩:=s;obtain⟨hl,hb,h⟩:=h
  have f2:=AutoSeq1.sub_tuple_tuple
  have z1:items.size=ns.length:=by rw[<-hi.length];simp
  have z2:items2.size=ms.length:=by rw[<-hj.length];simp
  wp_walk using wpAny_loadPart' hl,wpAny_loadPart' hb,wpAny_forIn_list _ (λrest b s'=>b.1=none/\s'=⟨hp,g,d,tk,os⟩/\∃(vs ws:List Value) (ns' ms':List Int),rest=vs.zip ws /\
   IntsAre vs ns'/\IntsAre ws ms'/\ns'.length+items2.size=ms'.length+items.size/\R (.ok (.ret (.bool (lexLt ns' ms')))) ⟨hp,g,d,tk,os⟩) _
  case turn =>
   rintro⟨y,x⟩ rest b s' ⟨hb',rfl,vs,ws,ns',ms',hz,hvi,hwi,hlen,hR⟩
   cases hvi with
   | nil=>rw[List.zip_nil_left]at hz;cases hz
   | cons a t hvi' =>
    cases hwi with
    | nil=>rw[List.zip_nil_right]at hz;cases hz
    | cons c u hwi' =>
     rw[List.zip_cons_cons]at hz
     injection hz with hyx hrest
     injection hyx with hy hx
     subst hy hx
     rw[Vi_]at hR
     simp only[List.length_cons]at hlen
     obtain⟨e,he,hiff⟩:=QL_ A.in1 ⟨hp,g,d,tk,os⟩ a t c u
     refine zza (he prog w _ _ ?_)
     cases e with
     | true =>
      rw[if_pos (hiff.mp rfl)]at hR
      wp_walk
      exact⟨rfl,rfl,_,_,_,_,hrest,hvi',hwi',by lia,hR⟩
     | false =>
      rw[if_neg (λq=>absurd (hiff.mpr q) Bool.false_ne_true)]at hR
      have hri:=Xm_ A.in1 ⟨hp,g,d,tk,os⟩ a t c u prog w
      wp_walk using hri
      exact⟨_,rfl,by simpa using hR⟩
  case fin =>
   rintro⟨b1,b2⟩ s' ⟨hb',rfl,vs,ws,ns',ms',hz,hvi,hwi,hlen,hR⟩
   simp only at hb'
   subst hb'
   have hv:lexLt ns' ms'=decide (items.size<items2.size):=by
    cases hvi with
    | nil =>
     cases hwi with
     | nil =>
      simp only[List.length_nil]at hlen
      rw[Uw_]
      exact(decide_eq_false (by lia)).symm
     | cons c u hw =>
      simp only[List.length_nil,List.length_cons]at hlen
      rw[Jz_]
      exact(decide_eq_true (by lia)).symm
    | cons a t hv =>
     cases hwi with
     | nil =>
      simp only[List.length_nil,List.length_cons]at hlen
      rw[JA_]
      exact(decide_eq_false (by lia)).symm
     | cons c u hw =>
      rw[List.zip_cons_cons]at hz
      cases hz
   rw[hv]at hR
   wp_walk
   exact⟨_,rfl,by simpa[Builtin.Tuple.tupleCompareSizes]using hR⟩
  case h =>
   exact⟨rfl,rfl,items.toList,items2.toList,ns,ms,rfl,hi,hj,by lia,h⟩
end
section
variable {prog:Program}{w:World}{A:Around}{E:Value->Shared->Prop}{s:Shared}
theorem lt_tupInts{l b:Addr}{items items2:Array Value}{ns ms:List Int}{Q:Value->Shared->Prop}(hl:IsTup s.heap l items)(hb:IsTup s.heap b items2)(hi:IntsAre items.toList ns)(hj:IntsAre items2.toList ms)
  (hu:A.units<cLine) (h:Q (.bool (lexLt ns ms)) s):wpAny (model prog w) A (compareOp .Lt (.ref l) (.ref b)) Q E s:=by
 obtain⟨⟨cls,dd,data,sl⟩,ho,hc,n,hd⟩:=id hl
 obtain⟨⟨cls2,dd2,data2,sl2⟩,ho2,hc2,n2,hd2⟩:=id hb
 simp only at hc hd hc2 hd2
 subst hc hd hc2 hd2
 exact richCompare_meets_room (op:=.Lt) ⟨_,ho,rfl⟩ ⟨_,ho2,rfl⟩ PySem.F.slot_tuple_lt PySem.F.entry_tuple_lt (PySem.F.args_tuple_lt_2 _ _) (Ub_ l b items items2 n n2 dd dd2 sl sl2 ns ms hi hj)
  ⟨ho,ho2,show Value.bool (lexLt ns ms)≠Value.notImplemented/\Q (.bool (lexLt ns ms)) s from⟨(λx=>nomatch x),h⟩⟩ hu
theorem cat_tup{t b:Addr}{vs ws:List Value}{Q:Value->Shared->Prop}(ht:IsTup s.heap t vs.toArray)(hb:IsTup s.heap b ws.toArray)(hv:vs≠[])
  (h1:ws=[]->Q (.ref t) s) (h2:ws≠[]->Q (.ref s.heap.objs.size) { s with heap:=s.heap.push { cls:=.type "tuple",data:=.seq (vs++ws).toArray } })
  (hsz:vs.length+ws.length<=sizeLine):wpAny (model prog w) A (binaryOp .Add (.ref t) (.ref b)) Q E s:=by
 obtain⟨⟨cls,dd,data,sl⟩,ho,hc,n,hd⟩:=id ht
 obtain⟨⟨cls2,dd2,data2,sl2⟩,ho2,hc2,n2,hd2⟩:=id hb
 simp only at hc hd hc2 hd2
 subst hc hd hc2 hd2
 have e:vs.toArray++ws.toArray=(vs++ws).toArray:=by simp
 by_cases hw:ws=[]
 ·exact concat_meets ⟨_,ho,rfl⟩ ⟨_,ho2,rfl⟩ noFill_tuple_add seq_tuple_add PySem.F.slot_tuple_add PySem.F.entry_tuple_add (PySem.F.args_tuple_add_2 _ _)
   (tuple_addW1 t b vs.toArray ws.toArray n n2 dd dd2 sl sl2 (by simpa using hv) (by simp[hw])) ⟨ho,ho2,h1 hw⟩
 ·refine concat_meets ⟨_,ho,rfl⟩ ⟨_,ho2,rfl⟩ noFill_tuple_add seq_tuple_add PySem.F.slot_tuple_add PySem.F.entry_tuple_add (PySem.F.args_tuple_add_2 _ _)
   (tuple_addW2 t b vs.toArray ws.toArray n n2 dd dd2 sl sl2 (by simpa using hv) (by simpa using hw) (by rw[List.size_toArray,List.size_toArray];exact hsz)) ⟨ho,ho2,?_⟩
  rw[e]
  exact h2 hw
noncomputable def sIx(n d:Nat):Option Int->Nat
 | none=>d
 | some v=>if v<0 then(v+(n:Int)).toNat else min v.toNat n
theorem zbU_(n d:Nat)(hd:d<=n)(o:Option Int):sIx n d o<=n:=by
 cases o with
 | none=>exact hd
 | some v =>
  show(if v<0 then(v+(n:Int)).toNat else min v.toNat n)<=n
  by_cases hv:v<0
  ·rw[if_pos hv];lia
  ·rw[if_neg hv];exact Nat.min_le_right _ _
theorem WP_(v:Int)(n d:Nat):(if v<0 then max (v+(n:Int)) 0 else min v (n:Int))=((sIx n d (some v):Nat):Int):=by
 show(if v<0 then max (v+(n:Int)) 0 else min v (n:Int))=(((if v<0 then(v+(n:Int)).toNat else min v.toNat n):Nat):Int)
 by_cases hv:v<0
 ·simp only[if_pos hv];lia
 ·simp only[if_neg hv];lia
theorem Vy_(lo hi:Option Int)(n:Nat):Builtin.Slice.sliceAdjust lo hi 1 (n:Int)=(((sIx n 0 lo:Nat):Int),((sIx n n hi:Nat):Int)):=by
 have h1:¬ ((1:Int)<0):=by lia
 unfold Builtin.Slice.sliceAdjust
 simp only[h1,if_false]
 refine Prod.ext ?_ ?_
 ·cases lo with
  | none=>rfl
  | some v=>exact WP_ v n 0
 ·cases hi with
  | none=>rfl
  | some v=>exact WP_ v n n
theorem Q9_(i j:Nat):Builtin.Slice.slicePlaces (i:Int) (j:Int) 1=j - i:=by
 unfold Builtin.Slice.slicePlaces
 have h1:(1:Int)>0:=by lia
 simp only[h1,if_true,Int.ediv_one]
 split<;>lia
theorem JM_{v:Value}{o:Option Int}{Q:Option Int->Shared->Prop}(p:IsPart v o)(h:Q o s):wpAny (model prog w) A (Builtin.Slice.slicePartIndex v) Q E s:=by
 cases p with
 | none=>exact slicePart_none h
 | int i t=>exact slicePart_int h
theorem uL_{sl:Addr}{vl vu:Value}{lo hi:Option Int}{n:Nat}{Q:Int×Int×Nat->Shared->Prop}(hs:s.heap.IsSliceOf sl vl vu .none)(pl:IsPart vl lo)(pu:IsPart vu hi)
  (h:Q (((sIx n 0 lo:Nat):Int),1,sIx n n hi - sIx n 0 lo) s):wpAny (model prog w) A (Builtin.Slice.sliceApplied (.ref sl) (pure (n:Int))) Q E s:=by
 obtain⟨os,hos,hcs,hds⟩:=id hs
 unfold Builtin.Slice.sliceApplied Builtin.Slice.sliceFields
 refine zza (zza (wpAny_field hos hds (x:=vl) rfl (zza (wpAny_field hos hds (x:=vu) rfl (zza (wpAny_field hos hds (x:=.none) rfl (zzb ?_)))))))
 refine zza (slicePart_none ?_)
 show wpAny _ _ (if((1:Int)==0)=true then _ else _) _ _ s
 rw[if_neg (by decide)]
 refine zza (JM_ pl (zza (JM_ pu (zza (zzb ?_)))))
 show wpAny _ _ (match Builtin.Slice.sliceAdjust lo hi 1 (n:Int)with|(lo,hi)=>pure (lo,(1:Int),Builtin.Slice.slicePlaces lo hi 1)) _ _ s
 rw[Vy_ lo hi n]
 show wpAny _ _ (pure (((sIx n 0 lo:Nat):Int),(1:Int),Builtin.Slice.slicePlaces ((sIx n 0 lo:Nat):Int) ((sIx n n hi:Nat):Int) 1)) _ _ s
 rw[Q9_]
 exact zzb h
theorem Xs_(xs:Array Value)(i k:Nat):((List.range k).filterMap λ(m:Nat)=>xs[((i:Int)+(m:Int)*1).toNat]?).toArray=((xs.toList.drop i).take k).toArray:=by
 have e:(λ(m:Nat)=>xs[((i:Int)+(m:Int)*1).toNat]?)=λm=>xs[i+m]?:=by
  funext m
  have:((i:Int)+(m:Int)*1).toNat=i+m:=by lia
  rw[this]
 rw[e]
 have:=pick_run xs i k
 rw[List.filterMap_map]at this
 have e2:((λx=>xs[x]?)∘λx=>i+x)=λm=>xs[i+m]?:=rfl
 rw[e2]at this
 rw[this]
theorem getItem_tuple_cut{t sl:Addr}{items:Array Value}{vl vu:Value}{lo hi:Option Int}{Q:Value->Shared->Prop}(ht:IsTup s.heap t items)(hs:s.heap.IsSliceOf sl vl vu .none)(pl:IsPart vl lo)(pu:IsPart vu hi)
  (hw:¬ (sIx items.size 0 lo=0/\sIx items.size items.size hi=items.size))
  (h:Q (.ref s.heap.objs.size) { s with heap:=s.heap.push { cls:=.type "tuple",data:=.seq ((items.toList.drop (sIx items.size 0 lo)).take (sIx items.size items.size hi - sIx items.size 0 lo)).toArray } })
  (hsz:items.size<=sizeLine):wpAny (model prog w) A (getItem (.ref t) (.ref sl)) Q E s:=by
 have htake:sizeOk (.seq ((items.toList.drop (sIx items.size 0 lo)).take (sIx items.size items.size hi - sIx items.size 0 lo)).toArray):=by
  show((items.toList.drop (sIx items.size 0 lo)).take (sIx items.size items.size hi - sIx items.size 0 lo)).toArray.size<=sizeLine
  rw[List.size_toArray,List.length_take,List.length_drop,Array.length_toList]
  lia
 have hj:sIx items.size items.size hi<=items.size:=zbU_ _ _ (Nat.le_refl _) hi
 obtain⟨os,hos,hcs,hds⟩:=id hs
 have hTs:s.TypeIs (.ref sl) "slice":=⟨os,hos,hcs⟩
 unfold getItem
 try with_reducible refine wpAny_holding ?_
 first|refine zza (zzb ?_)|skip
 refine zza (wpAny_sequenceKey ht.typeIs (by decide) ?_)
 refine zza (wpAny_callSpecial?_slot (name:=Str.ofString "__getitem__") ht.typeIs PyProof.Rows.slot_tuple_getitem
  (wpAny_call_entry PyProof.Rows.slot_tuple_getitem ht.typeIs entry_tuple_getitem ?_ (args_tuple_getitem _ _)))
 show wpAny _ _ (Builtin.Tuple.tupleItemsOf (.ref t) >>= _) _ _ s
 refine zza (tupleItemsOf_ ht ?_)
 refine zza (wpAny_typeOf hTs ?_)
 rw[if_pos (by decide)]
 refine zza (uL_ hs pl pu ?_)
 have hno:¬ ((((sIx items.size 0 lo:Nat):Int)==0&&(1:Int)==1&&(sIx items.size items.size hi - sIx items.size 0 lo)==items.size)=true):=by
  intro q
  rw[Bool.and_eq_true,Bool.and_eq_true]at q
  have q1:((sIx items.size 0 lo:Nat):Int)=0:=eq_of_beq q.1.1
  have q2:sIx items.size items.size hi - sIx items.size 0 lo=items.size:=eq_of_beq q.2
  exact hw ⟨by lia,by lia⟩
 show wpAny _ _ (if(((sIx items.size 0 lo:Nat):Int)==0&&(1:Int)==1&&(sIx items.size items.size hi - sIx items.size 0 lo)==items.size)=true then _ else _) _ _ s
 rw[if_neg hno,Xs_]
 first
  | exact zza (m:=Builtin.Tuple.tupleExact _) (wpAny_newObj_type (zzb ⟨_,rfl,zzb h⟩) htake)
  | exact zza (m:=Builtin.Tuple.tupleExact _) (wpAny_newObj_type (zza (zzb (zzb ⟨_,rfl,zzb h⟩))) htake)
  | exact zza (zza (m:=Builtin.Tuple.tupleExact _) (wpAny_newObj_type (zzb (zzb ⟨_,rfl,zzb h⟩)) htake))
  | exact zza (zza (m:=Builtin.Tuple.tupleExact _) (wpAny_newObj_type (zzb ⟨_,rfl,zzb h⟩) htake))
end
end HT
namespace L2
open PySem PySem.Spec PyProof.Rows
noncomputable abbrev TO:=St->Hp->(Option Int->Hp->Prop)->Prop
def PO(X:Cx)(e:Option Expr)(t:TO):Prop :=
 ∀(pins:List (Addr×Obj)) (s:Shared) (σ:St) (H:Hp) (Q:Option Int->Hp->Prop),Inv X pins σ H s->t σ H Q ->
  wpAny (model X.prog X.w) X.A (evalPart e X.env) (λu s'=>∃o H',Inv X pins σ H' s'/\IsPart u o/\Q o H') X.xe s
noncomputable def zaC_:TO:=λ_ H Q=>Q none H
noncomputable def zdG_(t:TE):TO:=λσ H Q=>t σ H λx H1=>∃i,x=.int i/\Q (some i) H1
theorem intsAre_of{ns:List Int}:∀{us:List Value},Vals (ns.map V.int) us->IntsAre us ns:=by
 induction ns with
 | nil=>intro us r;rw[List.map_nil]at r;cases r;exact .nil
 | cons n ns ih =>
  intro us r
  rw[List.map_cons]at r
  cases r with
  | cons r1 r2 =>
   obtain⟨t,e⟩:=r1
   subst e
   exact .cons n t (ih r2)
section
variable {X:Cx}{e:Expr}{te:TE}{lo hi:Option Expr}{tl th:TO}{pos p2:Pos}
theorem zaU_:PO X none zaC_:=by
 intro pins s σ H Q I h
 rw[evalPart_none]
 exact zzb ⟨none,H,I,.none,h⟩
theorem zaT_(h:PE X e te):PO X (some e) (zdG_ te):=by
 intro pins s σ H Q I hw
 rw[evalPart_some]
 refine thn (h pins s σ H _ I hw) λu s1 ⟨x,H1,I1,r1,q1⟩=>?_
 obtain⟨i,rfl,q⟩:=q1
 obtain⟨t,rfl⟩:=r1
 exact⟨some i,H1,I1,.int i t,q⟩
def SlR(X:Cx)(r:V->Option Int->Option Int->Hp->VK->Prop):Prop :=
 ∀(pins:List (Addr×Obj)) (s:Shared) (σ:St) (H:Hp) (x:V) (v vl vu:Value) (lo hi:Option Int) (sl:Addr) (Q:VK),Inv X pins σ H s->RelV x v->s.heap.IsSliceOf sl vl vu .none->IsPart vl lo->IsPart vu hi->r x lo hi H Q ->
  ∃T id,typeLookup (.type T) "__getitem__" = pure (some (.builtin id))/\s.TypeIs v T/\wpAny (model X.prog X.w) X.A (getItem v (.ref sl)) (EP X pins σ Q) X.xe s
theorem SlR.or{r r':V->Option Int->Option Int->Hp->VK->Prop}(h:SlR X r)(h':SlR X r'):SlR X (λx lo hi H Q=>r x lo hi H Q\/r' x lo hi H Q):=by
 intro pins s σ H x v vl vu lo hi sl Q I rx hs pl pu q
 rcases q with q|q
 ·exact h pins s σ H x v vl vu lo hi sl Q I rx hs pl pu q
 ·exact h' pins s σ H x v vl vu lo hi sl Q I rx hs pl pu q
noncomputable def tSl(r:V->Option Int->Option Int->Hp->VK->Prop)(te:TE)(tl th:TO):TE:=λσ H Q=>te σ H λx H1=>tl σ H1 λl H2=>th σ H2 λu H3=>r x l u H3 Q
theorem Xt_{r:V->Option Int->Option Int->Hp->VK->Prop}(hr:SlR X r)(he:PE X e te)(hl:PO X lo tl)(hu:PO X hi th):PE X (.Subscript e (.Slice lo hi none p2) pos) (tSl r te tl th):=by
 intro pins s σ H Q I h
 refine Subscript_ (thn (he pins s σ H _ I h) λv s1 ⟨x,H1,I1,r1,q1⟩=>?_)
 refine wpAny_Slice (thn (hl pins s1 σ H1 _ I1 q1) λvl s2 ⟨l,H2,I2,pl,q2⟩=>thn (hu pins s2 σ H2 _ I2 q2) λvu s3 ⟨u,H3,I3,pu,q3⟩=>?_)
 rw[evalPart_none]
 refine zzb ?_
 have I4:Inv X pins σ H3 { s3 with heap:=s3.heap.push { cls:=.type "slice",data:=.fields #[vl,vu,.none] } }:=I3.kept (t':=s3.toks) λb ob q=>zzc _ q
 obtain⟨T,id,hT,ht,hg⟩:=hr pins { s3 with heap:=s3.heap.push { cls:=.type "slice",data:=.fields #[vl,vu,.none] } } σ H3 x v vl vu l u s3.heap.objs.size Q I4 r1 (Heap.IsSliceOf.new ..) pl pu q3
 show wpAny (model X.prog X.w) X.A (subscriptTail e (.Slice lo hi none p2) v (.ref s3.heap.objs.size)) (EP X pins σ Q) X.xe { s3 with heap:=s3.heap.push { cls:=.type "slice",data:=.fields #[vl,vu,.none] } }
 exact tail_any (ops:=[.ref s3.heap.objs.size,v]) ht hT hg (by with_unfolding_all rfl)
def cutV(xs:List V)(lo hi:Option Int):List V:=(xs.drop (HT.sIx xs.length 0 lo)).take (HT.sIx xs.length xs.length hi - HT.sIx xs.length 0 lo)
theorem Jm_(xs:List V)(lo hi:Option Int):(cutV xs lo hi).length<=xs.length:=by
 unfold cutV
 rw[List.length_take,List.length_drop]
 lia
def rSlT(K:PySem.W.Frag):V->Option Int->Option Int->Hp->VK->Prop:=λx lo hi H Q=>∃a xs,x=.ref a/\SqT K H a xs /\
 ¬ (HT.sIx xs.length 0 lo=0/\HT.sIx xs.length xs.length hi=xs.length)/\∀p,H p=none->Q (.ref p) (upd H p (.tup (cutV xs lo hi)))
theorem sl_tup:SlR X (rSlT X.K):=by
 intro pins s σ H x v vl vu lo hi sl Q I rx hs pl pu h
 obtain⟨a,xs,rfl,hx,hw,q⟩:=h
 cases rx
 obtain⟨its,r,ht,hz⟩:=I.tuple hx
 have hlen:its.toArray.size=xs.length:=by rw[List.size_toArray];exact r.length.symm
 refine⟨"tuple",_,PyProof.Rows.slot_tuple_getitem.lookup,ht.typeIs,?_⟩
 refine HT.getItem_tuple_cut ht hs pl pu (by rw[hlen];exact hw) ?_ (by rw[hlen];exact hz)
 rw[hlen]
 refine⟨.ref s.heap.objs.size,_,I.laid (t':=s.toks) (o:=.tup (cutV xs lo hi)) (λb ob q=>zzc _ q) (Nat.le_refl _) ?_,rfl,q _ (I.hok.fresh (Nat.le_refl _))⟩
 exact⟨Nat.le_trans (Jm_ xs lo hi) hz,_,(r.drop (HT.sIx xs.length 0 lo)).take (HT.sIx xs.length xs.length hi - HT.sIx xs.length 0 lo),IsTup.new _ _,TupN.new _ _⟩
noncomputable def rLtT(K:PySem.W.Frag):R2:=λx y H Q=>∃a b ns ms,x=.ref a/\y=.ref b/\SqT K H a (ns.map V.int)/\SqT K H b (ms.map V.int)/\Q (.bl (HT.lexLt ns ms)) H
theorem zcD_(hu:X.A.units<cLine):OpR X (compareOp .Lt) (rLtT X.K):=by
 intro pins s σ H x y v u Q I rx ry h
 obtain⟨a,b,ns,ms,rfl,rfl,ha,hb,q⟩:=h
 cases rx
 cases ry
 obtain⟨its,r1,p1,_⟩:=I.tuple ha
 obtain⟨its2,r2,p2,_⟩:=I.tuple hb
 have i1:IntsAre its.toArray.toList ns:=intsAre_of r1
 have i2:IntsAre its2.toArray.toList ms:=intsAre_of r2
 exact HT.lt_tupInts p1 p2 i1 i2 hu ⟨.bl (HT.lexLt ns ms),H,I,rfl,q⟩
def zdZ_(K:PySem.W.Frag):R2:=λx y H Q=>∃a b xs ys,x=.ref a/\y=.ref b/\SqT K H a xs/\SqT K H b ys/\xs≠[]/\xs.length+ys.length<=sizeLine /\
 (ys=[]->Q (.ref a) H)/\(ys≠[]->∀p,H p=none->Q (.ref p) (upd H p (.tup (xs++ys))))
theorem Vals.nil_iff{xs:List V}{us:List Value}(r:Vals xs us):us=[]↔xs=[]:=by
 cases r with
 | nil=>simp
 | cons _ _=>simp
theorem zbc_:OpR X (binaryOp .Add) (zdZ_ X.K):=by
 intro pins s σ H x y v u Q I rx ry h
 obtain⟨a,b,xs,ys,rfl,rfl,ha,hb,hx,hz,q1,q2⟩:=h
 cases rx
 cases ry
 obtain⟨its,r1,p1,_⟩:=I.tuple ha
 obtain⟨its2,r2,p2,_⟩:=I.tuple hb
 refine HT.cat_tup p1 p2 (λz=>hx (r1.nil_iff.mp z)) (λz=>⟨.ref a,H,I,rfl,q1 (r2.nil_iff.mp z)⟩) (λz=>?_) (by rw[<-r1.length,<-r2.length];exact hz)
 refine⟨.ref s.heap.objs.size,_,I.laid (t':=s.toks) (o:=.tup (xs++ys)) (λb ob q=>zzc _ q) (Nat.le_refl _) ?_,rfl,q2 (λw=>z (r2.nil_iff.mpr w)) _ (I.hok.fresh (Nat.le_refl _))⟩
 exact⟨by rw[List.length_append];exact hz,_,r1.append r2,IsTup.new _ _,TupN.new _ _⟩
end
noncomputable def ixN(n:Nat)(i:Int):Option Nat:=if 0<=i then(if i<n then some i.toNat else none)else if -(n:Int)<=i then some (i+n).toNat else none
def atI{α:Type}(xs:List α)(i:Int):Option α:=(ixN xs.length i).bind λj=>xs[j]?
theorem Wz_{n:Nat}{i:Int}{j:Nat}(h:ixN n i=some j):seqIndex? i n=some j/\j<n /\ -(n:Int)<=i/\i<n:=by
 unfold ixN at h
 by_cases h0:0<=i
 ·rw[if_pos h0]at h
  by_cases h1:i<n
  ·rw[if_pos h1]at h
   have e:i.toNat=j:=Option.some.inj h
   exact⟨by rw[seqIndex_of h0 h1,e],by lia,by lia,h1⟩
  ·rw[if_neg h1]at h;cases h
 ·rw[if_neg h0]at h
  by_cases h1 : -(n:Int)<=i
  ·rw[if_pos h1]at h
   have e:(i+n).toNat=j:=Option.some.inj h
   exact⟨by rw[seqIndex_neg (by lia) h1,e],by lia,h1,by lia⟩
  ·rw[if_neg h1]at h;cases h
theorem Y9_{α:Type}{xs:List α}{i:Int}{v:α}(h:atI xs i=some v):∃j,seqIndex? i xs.length=some j/\xs[j]? = some v/\j<xs.length /\ -(xs.length:Int)<=i/\i<xs.length:=by
 unfold atI at h
 cases e:ixN xs.length i with
 | none=>rw[e]at h;cases h
 | some j =>
  rw[e]at h
  obtain⟨h1,h2,h3,h4⟩:=Wz_ e
  exact⟨j,h1,h,h2,h3,h4⟩
def Qb_(b:Expr):Prop:=∀o i,subscripted b false o i=operate [o,i] (getItem o i)
def IxR(X:Cx)(r:R2):Prop :=
 ∀(value slice:Expr) (pins:List (Addr×Obj)) (s:Shared) (σ:St) (H:Hp) (x y:V) (v u:Value) (Q:VK),Inv X pins σ H s->RelV x v->RelV y u->r x y H Q ->
  subscripted slice false v u=operate [v,u] (getItem v u)->wpAny (model X.prog X.w) X.A (subscriptTail value slice v u) (EP X pins σ Q) X.xe s
def MtR(X:Cx)(id:String)(r:V->List V->Hp->VK->Prop):Prop :=
 ∀(pins:List (Addr×Obj)) (s:Shared) (σ:St) (H:Hp) (x:V) (xs:List V) (v:Value) (us:List Value) (Q:VK),Inv X pins σ H s->RelV x v->Vals xs us->r x xs H Q ->
  wpAny (model X.prog X.w) X.A (call (.builtin id) (v::us)) (EP X pins σ Q) X.xe s
section
variable {X:Cx}{a b:Expr}{ta tb:TE}{pos:Pos}
theorem IxR.or{r r':R2}(h:IxR X r)(h':IxR X r'):IxR X (λx y H Q=>r x y H Q\/r' x y H Q):=by
 intro value slice pins s σ H x y v u Q I rx ry q hs
 rcases q with q|q
 ·exact h value slice pins s σ H x y v u Q I rx ry q hs
 ·exact h' value slice pins s σ H x y v u Q I rx ry q hs
theorem zcr_{r:R2}(hr:IxR X r)(ha:PE X a ta)(hb:PE X b tb)(hs:Qb_ b):PE X (.Subscript a b pos) (tOp r ta tb):=by
 intro pins s σ H Q I h
 exact Subscript_ (binT ha hb I h λv u s2 x y H2 I2 rx ry q=>hr a b pins s2 σ H2 x y v u Q I2 rx ry q (hs _ _))
def rIxL(K:PySem.W.Frag):R2:=λx y H Q=>∃p xs i v,x=.ref p/\y=.int i/\SqL K H p xs/\atI xs i=some v/\Q v H
def rIxT(K:PySem.W.Frag):R2:=λx y H Q=>∃p xs i v,x=.ref p/\y=.int i/\SqT K H p xs/\atI xs i=some v/\Q v H
def rIxS:R2:=λx y H Q=>∃z i c,x=.str z/\y=.int i/\z.length<=sizeLine/\atI z.cps.toList i=some c/\Q (.str ⟨#[c]⟩) H
theorem ix_list:IxR X (rIxL X.K):=by
 intro value slice pins s σ H x y v u Q I rx ry h hs
 obtain⟨p,xs,i,z,rfl,rfl,hq,he,q⟩:=h
 cases rx
 obtain⟨t,rfl⟩:=ry
 obtain⟨its,r,pl,hz⟩:=I.list hq
 obtain⟨j,h1,h2,h3,h4,h5⟩:=Y9_ he
 obtain⟨w,ew,rw'⟩:=r.get h2
 have hl:=r.length
 have hn:=Je_
 have fin:EP X pins σ Q w s:=⟨z,H,I,rw',q⟩
 by_cases h0:0<=i
 ·have hj:i.toNat=j:=by
   rw[seqIndex_of h0 h5]at h1
   exact Option.some.inj h1
  exact item_listR pl.isList h0 (by lia) (by rw[hj];simpa using ew) fin hs
 ·have hj:(i+(its.toArray.size:Int)).toNat=j:=by
   rw[seqIndex_neg (by lia) h4]at h1
   rw[List.size_toArray,<-hl]
   exact Option.some.inj h1
  exact subscriptTail_builtinR (x:=w) pl.isList.typeIs slot_list_getitem.lookup
   (wpAny_getItem_list_neg (Q:=λr s'=>r=w/\EP X pins σ Q r s') pl.isList (by lia) (by rw[List.size_toArray]<;>lia) (by lia) (by rw[hj];simpa using ew) ⟨rfl,fin⟩) hs
theorem ix_tup:IxR X (rIxT X.K):=by
 intro value slice pins s σ H x y v u Q I rx ry h hs
 obtain⟨p,xs,i,z,rfl,rfl,hq,he,q⟩:=h
 cases rx
 obtain⟨t,rfl⟩:=ry
 obtain⟨its,r,pl,hz⟩:=I.tuple hq
 obtain⟨j,h1,h2,h3,h4,h5⟩:=Y9_ he
 obtain⟨w,ew,rw'⟩:=r.get h2
 have hl:=r.length
 have hn:=Je_
 have fin:EP X pins σ Q w s:=⟨z,H,I,rw',q⟩
 exact subscriptTail_builtinR (x:=w) pl.typeIs slot_tuple_getitem.lookup
  (getItem_tuple (j:=j) (Q:=λr s'=>r=w/\EP X pins σ Q r s') pl (by lia) (by lia) (by rw[List.size_toArray,<-hl];exact h1) (by simpa using ew) ⟨rfl,fin⟩) hs
theorem zdc_:IxR X rIxS:=by
 intro value slice pins s σ H x y v u Q I rx ry h hs
 obtain⟨z,i,c,rfl,rfl,hz,he,q⟩:=h
 obtain⟨t,rfl⟩:=rx
 obtain⟨t',rfl⟩:=ry
 obtain⟨j,h1,h2,h3,h4,h5⟩:=Y9_ he
 have hl:z.cps.toList.length=z.length:=by simp[Str.length]
 rw[hl]at h1 h4 h5
 have hn:=Je_
 exact tail_any (typeIs_str s z t) slot_str_getitem.lookup (getItem_str (c:=c) (by
  have e1:decide (i < -(2^63:Int))=false:=decide_eq_false (by lia)
  have e2:decide (i>=2^63)=false:=decide_eq_false (by lia)
  rw[e1,e2,Bool.or_false]) (by rw[h1];simpa using h2) ⟨.str ⟨#[c]⟩,H,I.tok _,⟨_,rfl⟩,q⟩) hs
def rIx(K:PySem.W.Frag):R2:=λx y H Q=>rIxL K x y H Q\/rIxT K x y H Q\/rIxS x y H Q
theorem zdd_:IxR X (rIx X.K):=ix_list.or (ix_tup.or zdc_)
theorem Vf_(its:List Value)(n j:Nat)(u:Value):Obj.mapSeq (·.setIfInBounds j u) { cls:=.type "list",data:=.seq its.toArray n }={ cls:=.type "list",data:=.seq (its.set j u).toArray n }:=by
 simp[Obj.mapSeq]
theorem Inv.lst{pins:List (Addr×Obj)}{σ:St}{H:Hp}{s:Shared}{p:Addr}{xs:List V}(I:Inv X pins σ H s)(h:H p=some (.lst xs)) :
  ∃(its:List Value) (n:Nat),Vals xs its/\s.heap.get? p=some { cls:=.type "list",data:=.seq its.toArray n }/\xs.length<=sizeLine:=by
 obtain⟨z,its,n,r,e⟩:=I.hok p _ h
 exact⟨its,n,r,e,z⟩
theorem Inv.lstUpd{pins:List (Addr×Obj)}{σ:St}{H:Hp}{s:Shared}{p:Addr}{xs ys:List V}{its its':List Value}{n n':Nat}{f:Obj->Obj}(I:Inv X pins σ H s)(h:H p=some (.lst xs))
  (ho:s.heap.get? p=some { cls:=.type "list",data:=.seq its.toArray n }) (hf:f { cls:=.type "list",data:=.seq its.toArray n }={ cls:=.type "list",data:=.seq its'.toArray n' }) (r:Vals ys its') (hz:ys.length<=sizeLine) (t:Nat) :
  Inv X pins σ (upd H p (.lst ys)) { s with heap:=s.heap.update p f,toks:=t }:=by
 have e:(s.heap.update p f).get? p=some { cls:=.type "list",data:=.seq its'.toArray n' }:=by
  rw[Heap.get?_update_self f ho (by rw[hf]<;>rfl),hf]
 refine I.write (x:=p) (e:=p) (by rw[h];trivial) (.inl rfl) (λb u hb q=>(Heap.get?_update_other _ _ (Ne.symm hb)).trans q) ⟨_,e⟩ ?_
 exact⟨hz,its',n',r,e⟩
def zdY_:V->V->V->Hp->(Hp->Prop)->Prop:=λo i v H Q=>∃p xs k j,o=.ref p/\i=.int k/\H p=some (.lst xs)/\ixN xs.length k=some j/\Q (upd H p (.lst (xs.set j v)))
theorem set_list:PSet X zdY_:=by
 intro pins s σ H o i v ov iv u Q I ro ri rv h
 obtain⟨p,xs,k,j,rfl,rfl,hp,hj,q⟩:=h
 cases ro
 obtain⟨t,rfl⟩:=ri
 obtain⟨its,n,r,ho,hz⟩:=I.lst hp
 obtain⟨h1,h2,h3,h4⟩:=Wz_ hj
 have hl:=r.length
 have hn:=Je_
 have I':Inv X pins σ (upd H p (.lst (xs.set j v))) { s with heap:=s.heap.update p (Obj.mapSeq (·.setIfInBounds j u)) } :=
  I.lstUpd hp ho (Vf_ its n j u) (r.set rv j) (by rw[List.length_set];exact hz) s.toks
 by_cases h0:0<=k
 ·have hk:k.toNat=j:=by
   rw[seqIndex_of h0 h4]at h1
   exact Option.some.inj h1
  exact PySem.W.ki_setAt ho h0 (by lia) (by rw[List.size_toArray,<-hl];exact h4) (by rw[hk];exact⟨_,I',q⟩)
 ·have hk:(k+(its.toArray.size:Int)).toNat=j:=by
   rw[seqIndex_neg (by lia) h3]at h1
   rw[List.size_toArray,<-hl]
   exact Option.some.inj h1
  exact PySem.W.ki_setBack ho (by lia) (by rw[List.size_toArray,<-hl];exact h3) (by lia) (by rw[hk];exact⟨_,I',q⟩)
theorem US_(lo hi:Option Int)(n:Nat):(sliceBounds lo hi none n).1=((HT.sIx n 0 lo:Nat):Int)/\(sliceBounds lo hi none n).2.1=((HT.sIx n n hi:Nat):Int)/\(sliceBounds lo hi none n).2.2=1:=by
 refine⟨?_,?_,rfl⟩
 ·cases lo with
  | none=>simp[sliceBounds,HT.sIx]
  | some i =>
   simp only[sliceBounds,HT.sIx,Option.getD_none,show(1:Int)>0 by decide,if_true]
   by_cases h:i<0
   ·simp only[h,if_true]<;>lia
   ·simp only[h,if_false]<;>lia
 ·cases hi with
  | none=>simp[sliceBounds,HT.sIx]
  | some i =>
   simp only[sliceBounds,HT.sIx,Option.getD_none,show(1:Int)>0 by decide,if_true]
   by_cases h:i<0
   ·simp only[h,if_true]<;>lia
   ·simp only[h,if_false]<;>lia
theorem Uf_(its:List Value)(lo hi:Option Int):slicePick its.toArray lo hi none=((its.drop (HT.sIx its.length 0 lo)).take (HT.sIx its.length its.length hi - HT.sIx its.length 0 lo)).toArray:=by
 obtain⟨h1,h2,h3⟩:=US_ lo hi its.toArray.size
 unfold slicePick
 rw[h1,h2,h3]
 simp only[sliceRange_one,pick_run,List.size_toArray]<;>rfl
def rSlL(K:PySem.W.Frag):V->Option Int->Option Int->Hp->VK->Prop:=λx lo hi H Q=>∃a xs,x=.ref a/\SqL K H a xs/\∀p,H p=none->Q (.ref p) (upd H p (.lst (cutV xs lo hi)))
theorem zaG_:SlR X (rSlL X.K):=by
 intro pins s σ H x v vl vu lo hi sl Q I rx hs pl pu h
 obtain⟨a,xs,rfl,hx,q⟩:=h
 cases rx
 obtain⟨its,r,ht,hz⟩:=I.list hx
 have hlen:=r.length
 refine⟨"list",_,slot_list_getitem.lookup,ht.isList.typeIs,?_⟩
 refine wpAny_getItem_list_slice ht.isList hs pl pu .none (by simp) ?_ (by rw[List.size_toArray]<;>lia)
 rw[Uf_,<-hlen]
 refine⟨.ref s.heap.objs.size,_,I.laid (t':=s.toks) (o:=.lst (cutV xs lo hi)) (λb ob q=>zzc _ q) (Nat.le_refl _) ?_,rfl,q _ (I.hok.fresh (Nat.le_refl _))⟩
 exact⟨Nat.le_trans (Jm_ xs lo hi) hz,_,0,(r.drop (HT.sIx xs.length 0 lo)).take (HT.sIx xs.length xs.length hi - HT.sIx xs.length 0 lo),zze _ rfl⟩
theorem YB_:CallR X (.builtin "len") (λxs H Q=>∃p ys,xs=[.ref p]/\(SqL X.K H p ys\/SqT X.K H p ys)/\Q (.int ys.length) H):=by
 intro pins s σ H xs us Q I r h
 obtain⟨p,ys,rfl,hq,q⟩:=h
 obtain⟨u,rfl,rx⟩:=vals1 r
 cases rx
 have hn:=Je_
 rcases hq with hq|hq
 ·obtain⟨its,r',pl,hz⟩:=I.list hq
  have hlen:=r'.length
  exact Calls.call_len_list pl.isList (by simp only[List.size_toArray]<;>lia) ⟨.int ys.length,H,I.tok _,⟨s.toks+1,by rw[List.size_toArray,hlen]⟩,q⟩
 ·obtain⟨its,r',pl,hz⟩:=I.tuple hq
  have hlen:=r'.length
  exact len_tuple pl (by simp only[List.size_toArray]<;>lia) ⟨.int ys.length,H,I.tok _,⟨s.toks+1,by rw[List.size_toArray,hlen]⟩,q⟩
theorem YA_:CallR X (.builtin "len") (λxs H Q=>∃z,xs=[.str z]/\z.length<=sizeLine/\Q (.int z.length) H):=by
 intro pins s σ H xs us Q I r h
 obtain⟨z,rfl,hz,q⟩:=h
 obtain⟨u,rfl,t,rfl⟩:=vals1 r
 have hn:=Je_
 exact len_str (by lia) ⟨.int z.length,H,I.tok _,⟨_,rfl⟩,q⟩
theorem CallR.or{f:Value}{r r':List V->Hp->VK->Prop}(h:CallR X f r)(h':CallR X f r'):CallR X f (λxs H Q=>r xs H Q\/r' xs H Q):=by
 intro pins s σ H xs us Q I rs q
 rcases q with q|q
 ·exact h pins s σ H xs us Q I rs q
 ·exact h' pins s σ H xs us Q I rs q
theorem jA_:CallR X (.type "tuple") (λxs H Q=>∃p ys,xs=[.ref p]/\((SqL X.K H p ys/\∀l,H l=none->Q (.ref l) (upd H l (.tup ys)))\/(SqT X.K H p ys/\Q (.ref p) H))):=by
 intro pins s σ H xs us Q I r h
 obtain⟨p,ys,rfl,h⟩:=h
 obtain⟨u,rfl,rx⟩:=vals1 r
 cases rx
 rcases h with ⟨hq,q⟩|⟨hq,q⟩
 ·obtain⟨its,r',pl,hz⟩:=I.list hq
  have hlen:=r'.length
  refine call_tuple_list pl.isList (λh' kp=>?_) (by simp only[List.size_toArray]<;>lia)
  have I1:Inv X pins σ H { s with heap:=h' }:=I.kept (t':=s.toks) kp
  have I2:Inv X pins σ (upd H h'.objs.size (.tup ys)) { s with heap:=h'.push { cls:=.type "tuple",data:=.seq its.toArray } } :=
   I1.laid (t':=s.toks) (λb o e=>zzc _ e) (Nat.le_refl _) (show ObjOk X.prog X.w _ _ _ (.tup ys)from⟨hz,its,r',IsTup.new _ _,TupN.new _ _⟩)
  exact⟨.ref h'.objs.size,_,I2,rfl,q _ (I1.hok.fresh (Nat.le_refl _))⟩
 ·obtain⟨its,r',pl,hz⟩:=I.tuple hq
  exact call_tuple_same pl ⟨.ref p,H,I,rfl,q⟩
def tyV(K:PySem.W.Frag)(T:String)(x:V)(H:Hp):Prop:=match x with
 | .str _=>T = "str"
 | .int _=>T = "int"
 | .ref p=>(T = "list" /\ ∃xs,SqL K H p xs)\/(T = "tuple" /\ ∃o,K.lookup p=some o/\o.cls=.type "tuple" /\ o.dict=none) \/
   (T = "dict" /\ ((∃kvs,H p=some (.dK kvs))\/∃kvs,H p=some (.dT kvs)))\/(T = "set" /\ ∃S n,H p=some (.set S n))
 | _=>False
theorem X1_{pins:List (Addr×Obj)}{σ:St}{H:Hp}{s:Shared}{T:String}{x:V}{v:Value}(I:Inv X pins σ H s)(r:RelV x v)(ty:tyV X.K T x H) :
  s.TypeIs v T/\∀a,v=.ref a->∃ob,s.heap.get? a=some ob/\ob.dict=none:=by
 cases x with
 | str z =>
  obtain⟨t,rfl⟩:=r
  cases (show T = "str" from ty)
  exact⟨typeIs_str s z t,λ_ e=>nomatch e⟩
 | int i =>
  obtain⟨t,rfl⟩:=r
  cases (show T = "int" from ty)
  exact⟨typeIs_int s i t,λ_ e=>nomatch e⟩
 | ref p =>
  cases r
  rcases ty with ⟨rfl,xs,hq⟩|⟨rfl,o,hk,hc,hd⟩|⟨rfl,hk⟩|⟨rfl,S,n,hk⟩
  ·obtain⟨its,_,pl,_⟩:=I.list hq
   refine⟨pl.isList.typeIs,λa e=>?_⟩
   cases e
   obtain⟨o,n,e,c,hd,_⟩:=pl
   exact⟨o,e,hd⟩
  ·refine⟨⟨o,I.kIn p o hk,hc⟩,λa e=>?_⟩
   cases e
   exact⟨o,I.kIn _ o hk,hd⟩
  ·have z:∃o,s.heap.get? p=some o/\o.ExactDict:=by
    rcases hk with ⟨kvs,hk⟩|⟨kvs,hk⟩
    ·obtain⟨_,_,_,_,o,_,_,e,ex,_⟩:=I.hok p _ hk
     exact⟨o,e,ex⟩
    ·obtain⟨_,_,_,_,o,_,_,e,ex,_⟩:=I.hok p _ hk
     exact⟨o,e,ex⟩
   obtain⟨o,e,ex⟩:=z
   refine⟨⟨o,e,ex.1⟩,λa e2=>?_⟩
   cases e2
   exact⟨o,e,ex.2.1⟩
  ·obtain⟨o,_,_,_,e,ex,_⟩:=I.hok p _ hk
   refine⟨⟨o,e,ex.1⟩,λa e2=>?_⟩
   cases e2
   exact⟨o,e,ex.2.1⟩
 | _=>exact False.elim ty
noncomputable def tBM(K:PySem.W.Frag)(T:String)(r:V->List V->Hp->VK->Prop)(to:TE)(t:TA):TE:=λσ H Q=>to σ H λx H1=>tyV K T x H1/\t σ H1 λxs H2=>r x xs H2 Q
variable {o e:Expr}{es:List Expr}{to:TE}{t:TA}{name:Str}{apos cpos:Pos}{T id:String}{r:V->List V->Hp->VK->Prop}
theorem zef_(pa:PlainAttrs T)(slot:Slot T name id)(hty:typeOf (.builtin id)=pure (.type "method_descriptor"))(hm:MtR X id r)(ho:PE X o to)(ha:PA X (e::es) t)
  (hbase:attributeBase o name X.env (eval o X.env)=eval o X.env:=by rfl)
  (hfew:((backTo cpos (starEach (e::es) X.env)).all (λx=>!x.1)&&(backToKw cpos (keywordEach [] X.env)).all (λx=>x.1.isSome)
   && decide ((e::es).length+([]:List Keyword).length+(if([]:List Keyword).isEmpty then 0 else 1)<30))=true:=by rfl)
  (hline:(apos.endLine==cpos.line)=true:=by rfl) (hs:starEach (e::es) X.env=(false,eval e X.env)::starEach es X.env:=by rfl) (hplain:(backTo cpos (starEach es X.env)).any (·.1)=false:=by rfl) :
  PE X (.Call (.Attribute o name apos) (e::es) [] cpos) (tBM X.K T r to t):=by
 intro pins s σ H Q I h
 refine wpAny_Call_method_late hbase hfew hline rfl (thn (ho pins s σ H _ I h) λv s1 ⟨x,H1,I1,r1,ty,q1⟩=>?_)
 obtain⟨h1,h2⟩:=X1_ I1 r1 ty
 refine⟨T,id,pa,slot,hty,h1,h2,?_⟩
 have hA:=ha cpos pins s1 σ H1 _ I1 q1
 rw[hs]at hA ⊢
 refine Calls.callWith_builtin (by show(false||(backTo cpos (starEach es X.env)).any (·.1))=false;rw[hplain]<;>rfl) (Calls.evalArgs_plain ?_)
 exact thn hA λus s2 ⟨vs,H2,I2,r2,q2⟩=>hm pins s2 σ H2 x vs v us Q I2 r1 r2 q2
end
def MtM(X:Cx)(id:String)(r:V->List V->Hp->VK->Prop):Prop :=
 ∀(pins:List (Addr×Obj)) (s:Shared) (σ:St) (H:Hp) (x:V) (xs:List V) (v:Value) (us:List Value) (Q:VK),Inv X pins σ H s->RelV x v->Vals xs us->r x xs H Q ->
  wpAny (model X.prog X.w) X.A (call (.builtin id) (v::us)) (EP X pins σ Q) X.xe s
theorem Vals.one:∀{x:V} {us:List Value},Vals [x] us->∃u,us=[u]/\RelV x u:=by
 intro x us h
 cases h with
 | cons r t=>cases t;exact⟨_,rfl,r⟩
section
variable {X:Cx}{pins:List (Addr×Obj)}{σ:St}{H:Hp}{s:Shared}{l b:Addr}{xs ys zs:List V}
theorem Inv.lset{its its':List Value}{n:Nat}{f:Array Value->Array Value}{t':Nat}(I:Inv X pins σ H s)(hH:H l=some (.lst xs))
  (e:s.heap.get? l=some { cls:=.type "list",data:=.seq its.toArray n }) (hf:f its.toArray=its'.toArray) (hv:Vals ys its') (hz:ys.length<=sizeLine) :
  Inv X pins σ (upd H l (.lst ys)) { s with heap:=s.heap.update l (Obj.mapSeq f),toks:=t' }:=by
 have q:=PySem.IsL.update e f
 rw[hf]at q
 refine I.write (x:=l) (e:=l) (by rw[hH];exact trivial) (.inl rfl) (λb' u hb hu=>(Heap.get?_update_other s.heap (Obj.mapSeq f) (Ne.symm hb)).trans hu) ⟨_,q⟩ ?_
 exact⟨hz,its',_,hv,q⟩
theorem Inv.lstM(I:Inv X pins σ H s)(hH:H l=some (.lst xs)):xs.length<=sizeLine/\∃(its:List Value) (n:Nat),Vals xs its/\xs.length=its.length/\s.heap.get? l=some { cls:=.type "list",data:=.seq its.toArray n }:=by
 obtain⟨z,its,n,r,e⟩:=I.hok l _ hH
 exact⟨z,its,n,r,r.length,e⟩
end
section
variable {X:Cx}
def zaO_:V->List V->Hp->VK->Prop:=λx vs H Q=>∃l xs y,x=.ref l/\vs=[y]/\H l=some (.lst xs)/\xs.length<sizeLine/\Q .non (upd H l (.lst (xs++[y])))
theorem Wo_:MtM X "list.append" zaO_:=by
 intro pins s σ H x vs v us Q I rx rv h
 obtain⟨l,xs,y,rfl,rfl,hH,hz,q⟩:=h
 cases rx
 obtain⟨u,rfl,ru⟩:=rv.one
 obtain⟨z,its,n,r,hl,e⟩:=I.lstM hH
 refine call_meets F.slot_list_append ⟨_,e,rfl⟩ F.entry_list_append (F.args_list_append_2 _ _) (PySem.list_append l its.toArray n u (by rw[List.size_toArray];lia)) ⟨e,?_⟩
 refine⟨.non,_,I.lset (its':=its++[u]) hH e (by simp) (r.append (.cons ru .nil)) ?_,rfl,q⟩
 rw[List.length_append,List.length_singleton]
 lia
end
end L2
namespace Att
open PySem PySem.W PySem.Calls PyProof.Rows
theorem Ji_{P:Params}{h:Heap}:∀(ns:List Int) (vs:List Value),WellAll P h vs (ns.map WData.int)->IntsAre vs ns:=by
 intro ns
 induction ns with
 | nil =>
  intro vs w
  rw[List.map_nil]at w
  cases w
  exact .nil
 | cons n ns ih =>
  intro vs w
  rw[List.map_cons]at w
  cases w with
  | cons a b =>
   cases a
   exact .cons _ _ (ih _ b)
theorem VQ_{l:OpenLaw}{n:Nat}(hn:l.most=some n){P:Params}{h:Heap}{args:List WData}{vals:List Value}
  (hpre:l.row.toRowW.claim.pre args=true) (hwl:WellAll P h vals args) :
  ∃a vs ns,vals=[Value.ref a]/\args=[WData.list (ns.map WData.int)]/\h.get? a=some { cls:=.type "list",data:=.seq vs.toArray }/\IntsAre vs ns/\ns.length<=n:=by
 have hsh:WShape.hasAll [] args [.list .int]=true:=(pre_splitW hpre).1
 have hc:l.pre.holds [] { args:=args }=true:=(pre_splitW hpre).2
 obtain⟨d,r,rfl,h1,h2⟩:=hasAllW_cons hsh
 obtain rfl:=hasAllW_nil h2
 obtain⟨xs,rfl,h3⟩:=hasW_list h1
 obtain⟨ns,rfl⟩:=items_int h3
 have hlen:ns.length<=n:=by
  unfold OpenLaw.pre at hc
  have h4:(WTm.not (.lt (.lit (.int (n:Int))) (.len (.arg 0)))).holds [] { args:=[.list (ns.map .int)] }=true:=by
   have h4:=(holds_andW hc).1
   rw[hn]at h4
   exact h4
  have h5:=condW_of h4 (w_not (w_lt w_lit (w_len_list (w_arg rfl))))
  rw[zzd]at h5
  refine Nat.le_of_not_lt λq=>?_
  have q':(n:Int)<((ns.length:Nat):Int):=by lia
  first
   | (rw[decide_eq_true q']at h5;exact absurd h5 (by decide))
   | (simp at h5;lia)
 cases hwl with
 | cons w1 w2 =>
  cases w2
  cases w1 with
  | list ho hall=>exact⟨_,_,ns,rfl,rfl,ho,Ji_ ns _ hall,hlen⟩
theorem V7_(l:OpenLaw)(args:List WData):l.row.toRowW.claim.post args (.bool true) args=true :=
 postW_of (r:=l.row.toRowW) (X:=(true==true))
  (show WShape.has [] (.bool true) .bool=true by first|rfl|decide|simp[WShape.has,WShape.arms,WShape.armsAll])
  (show(WTm.eq .res (.lit (.bool true))).value [] { args:=args,res:=some (.bool true),after:=args }=some (.bool (true==true))from w_eq_bool (w_res rfl) w_lit) rfl
theorem attach_call{l:OpenLaw}{n:Nat}{q:Program}{loose:List Str}{XP:(Str->Option Value)->Heap->Prop}{YP:World->Heap->Prop}{d:DefRec}
  (hn:l.most=some n) (hdf:d.params.defaults=[])
  (call:∀(w:World) (s₀ s₁:Shared) (mg mb:Str->Option Value) (fa:Addr) (o:Obj) (pm cd doc:Value) (a:Addr) (vs:List Value) (ns:List Int),
   Ground q loose [] XP w s₀ mg mb s₁.heap->YP w s₁.heap ->
   s₁.heap.get? fa=some o->o.data=.func (docDef d.name d.params d.body d.scope pm cd doc)->s₁.heap.CodeRec cd d.name->mg d.name=some (.ref fa) ->
   s₁.heap.get? a=some { cls:=.type "list",data:=.seq vs.toArray }->IntsAre vs ns->ns.length<=n->s₁.gens = #[] ->
   codeAny (model l.prog w) callerA (.call (.ref fa) ⟨[.ref a],[]⟩) (λr s'=>r=.ok (.ret (.bool true))/\OldK s₁.heap s'.heap/\s'.os=s₁.os/\AllBare s'.gens) s₁) :
  WalkO q loose XP YP l.row.toRowW d [] (λf vs=>PySem.call f vs):=by
 intro w s₀ s₁ mg mb G Y fa o pm cd doc dV kV ho hd hcd hD hmg hg args vals as hpre hlay hrd hwl hlo
 obtain rfl:dV=.none:=Dflts.none hD hdf
 obtain rfl:kV=.none:=Dflts.noKw hD
 obtain⟨a,vs,ns,rfl,rfl,hobj,hints,hlen⟩:=VQ_ hn hpre hwl
 refine enter_call (codeAny_mono (call w s₀ s₁ mg mb fa o pm cd doc a vs ns G Y ho (fd_plain hd) hcd hmg hobj hints hlen hg) λr s' hq=>?_)
 obtain⟨rfl,h2,h3,h4⟩:=hq
 exact⟨.inl ⟨.bool true,.bool true,[],rfl,λ_=>rfl,.bool true,V7_ l _,λ_=>⟨List.Pairwise.nil,λ_ hm=>(nomatch hm)⟩⟩,h2,h3,h4⟩
end Att
namespace L2
open PySem PySem.Spec PyProof.Rows
theorem UO_:∀{vs:List Value} {ns:List Int},IntsAre vs ns->Vals (ns.map V.int) vs
 | _,_,.nil=>.nil
 | _,_,.cons n t h=>.cons ⟨t,rfl⟩ (UO_ h)
def Only(H:Hp):Prop:=∀b,H b=none\/∃o xs,H b=some (.frz o (.lst xs))
theorem XB_{P:Program}{w:World}{K:PySem.W.Frag}{mg mb:Str->Option Value}{CX:CXT}{k:Nat}{fa a:Addr}{fd:FuncData}{x:Str}{sp:Sp}{s₁:Shared}{vs:List Value}{ns:List Int}
  (KX:K.In s₁.heap) (hns:s₁.heap.Ns mainGlobals mg) (hb:s₁.heap.Ns builtinsNs mb) (hbb:∀x:Str,x ≠ "__name__" -> mb x=bootBuiltins x) (hlim:s₁.heap.NoLimit) (hg:s₁.gens = #[])
  (ha:s₁.heap.get? a=some { cls:=.type "list",data:=.seq vs.toArray }) (hi:IntsAre vs ns) (hl:ns.length<=sizeLine) (hr:Room k callerA)
  (F:∀base:Heap,K.In base->base.Ns mainGlobals mg->FnOk P w K mg base CX k fa fd [x] sp) (hbind:∀(s:Shared) (u:Value),BindsTo s fd ⟨[u],[]⟩ [(x,u)])
  (hsp:∀H:Hp,Only H->SqL K H a (ns.map V.int)->sp [.ref a] H (λv _=>v=.bl true) λ_ _ _=>False)
  (hCX:∀H e s',CX [] H s₁ (λ_ _ _=>False) e s'->False) :
  codeAny (model P w) callerA (.call (.ref fa) ⟨[.ref a],[]⟩) (λr s'=>r=.ok (.ret (.bool true))/\OldK s₁.heap s'.heap/\s'.os=s₁.os/\AllBare s'.gens) s₁:=by
 have rv:=UO_ hi
 have lenV:=hi.length
 have core:∀H:Hp,Only H->SqL K H a (ns.map V.int)->HOk P w H s₁.heap->(∀b,H b≠none->b=a)->(H a≠none->K.lookup a=none) ->
   codeAny (model P w) callerA (.call (.ref fa) ⟨[.ref a],[]⟩) (λr s'=>r=.ok (.ret (.bool true))/\OldK s₁.heap s'.heap/\s'.os=s₁.os/\AllBare s'.gens) s₁:=by
  intro H hO hS hok hA hK
  have base_of:∀{b:Addr} {o:Obj},s₁.heap.get? b=some o->H b=none->(hidT s₁.heap H).get? b=some o:=λe n=>XJ_ e n
  have noA:∀{b:Addr} {o:Obj} {es:Array DictEntry} {ep:Nat},s₁.heap.get? b=some o->o.data=.dict es ep->H b=none:=λ{b o es ep} e d=>by
   cases q:H b with
   | none=>rfl
   | some u =>
    have e':b=a:=hA b (by rw[q];simp)
    subst e'
    rw[ha]at e;cases e
    have d':Data.seq vs.toArray _=Data.dict es ep:=d
    cases d'
  have nsK:∀{b:Addr} {m:Str->Option Value},s₁.heap.Ns b m->(hidT s₁.heap H).Ns b m:=λ{b m} ⟨o,es,ep,e,d,r⟩=>⟨o,es,ep,base_of e (noA e d),d,r⟩
  have hKb:K.In (hidT s₁.heap H):=λb o e=>base_of (KX b o e) (by
   cases q:H b with
   | none=>rfl
   | some u =>
    have e':b=a:=hA b (by rw[q];simp)
    subst e'
    rw[hK (by rw[q];simp)]at e;cases e)
  have hM:Mod K mg (hidT s₁.heap H):=⟨hKb,nsK hns,⟨mb,nsK hb,hbb⟩,let ⟨mc,h1,h2⟩:=hlim;⟨mc,nsK h1,h2⟩⟩
  have e0:Env0 P w K mg (hidT s₁.heap H) callerA [] s₁ H:=⟨rfl,hM,λb o e=>zbh_ e,Nat.le_of_eq (WF_ _ _),trivial,λb hb=>absurd (show b∈([]:List Addr)from hb) (by simp),hok,.of_eq hg⟩
  refine codeAny_mono ((F _ hKb (nsK hns)).run callerA [] s₁ H ⟨[.ref a],[]⟩ [.ref a] [.ref a] _ _ hr e0 (hbind s₁ (.ref a)) (.cons rfl .nil) (hsp H hO hS)) λr s' h=>?_
  cases r with
  | error e=>exact(hCX H e s' h).elim
  | ok fl =>
   cases fl with
   | next=>exact False.elim h
   | brk=>exact False.elim h
   | cont=>exact False.elim h
   | ret u =>
    obtain⟨v,H',os,bare,un,hok',r',q⟩:=h
    have q':v=.bl true:=q
    subst q'
    obtain rfl:u=Value.bool true:=r'
    refine⟨rfl,OldK.of_keep λb o e=>?_,os,bare⟩
    cases q:H b with
    | none=>exact un.keep b o e q (by intro z;exact absurd (show b∈([]:List Addr)from z) (by simp)) (by simp)
    | some u =>
     rcases hO b with z|⟨ob,xs,z⟩
     ·rw[q]at z;cases z
     ·have z2:=un.frzs b ob _ z
      obtain⟨e1,_⟩:=hok b _ z
      obtain⟨e2,_⟩:=hok' b _ z2
      rw[e]at e1;cases e1
      exact e2
 cases hk:K.lookup a with
 | some o =>
  have e:=KX a o hk
  rw[ha]at e
  cases e
  refine core (λ_=>none) (λ_=>.inl rfl) (.inr ⟨_,vs.toArray,_,hk,rfl,rfl,rfl,by rw[List.size_toArray,lenV];exact hl,by simpa using rv⟩) (λb u z=>by have z':(none:Option HO)=some u:=z;cases z') (λb z=>absurd rfl z) λz=>absurd rfl z
 | none =>
  refine core (λb=>if b=a then some (.frz { cls:=.type "list",data:=.seq vs.toArray } (.lst (ns.map V.int)))else none) (λb=>?_) (.inl (.inr ⟨{ cls:=.type "list",data:=.seq vs.toArray },if_pos rfl⟩)) (λb u z=>?_) (λb z=>?_) λ_=>hk
  ·by_cases hb:b=a
   ·exact .inr ⟨_,_,if_pos hb⟩
   ·exact .inl (if_neg hb)
  ·by_cases hb:b=a
   ·have z':=(if_pos hb).symm.trans z
    cases z'
    subst hb
    exact⟨ha,by rw[zzd];exact hl,vs,_,rv,ha⟩
   ·have z':=(if_neg hb).symm.trans z
    cases z'
  ·by_cases hb:b=a
   ·exact hb
   ·exact absurd (if_neg hb) z
theorem walk_of{l:PySem.W.OpenLaw}{n k:Nat}{q:Program}{loose:List Str}{XP:(Str->Option Value)->Heap->Prop}{YP:World->Heap->Prop}{d:DefRec}{K:Params->PySem.W.Frag}{CX:World->CXT}{sp:World->Sp}{x:Str}
  (hn:l.most=some n) (hn2:n<=sizeLine) (hdf:d.params.defaults=[]) (hr:Room k callerA)
  (hY:∀(w:World) (h:Heap),YP w h->(K w.params).In h)
  (F:∀(w:World) (mg:Str->Option Value) (fa:Addr) (h:Heap),(K w.params).In h->h.Ns mainGlobals mg->mg d.name=some (.ref fa) ->
   ∃fd:FuncData,(∀(s:Shared) (u:Value),BindsTo s fd ⟨[u],[]⟩ [(x,u)]) /\
    ∀base:Heap,(K w.params).In base->base.Ns mainGlobals mg->FnOk l.prog w (K w.params) mg base (CX w) k fa fd [x] (sp w))
  (hsp:∀(w:World) (H:Hp) (a:Addr) (ns:List Int),ns.length<=n->Only H->SqL (K w.params) H a (ns.map V.int)->sp w [.ref a] H (λv _=>v=.bl true) λ_ _ _=>False)
  (hCX:∀(w:World) (H:Hp) (s:Shared) (e:Value) (s':Shared),CX w [] H s (λ_ _ _=>False) e s'->False) :
  PySem.W.WalkO q loose XP YP l.row.toRowW d [] (λf vs=>PySem.call f vs):=by
 refine Att.attach_call hn hdf λw s₀ s₁ mg mb fa o pm cd doc a vs ns G Y ho hd hcd hmg hobj hints hlen hg=>?_
 have KX:=hY w _ Y
 obtain⟨fd,hb,hF⟩:=F w mg fa _ KX G.T.g hmg
 exact XB_ KX G.T.g G.T.b G.T.builtins G.T.nolimit hg hobj hints (Nat.le_trans hlen hn2) hr hF hb (λH hO hS=>hsp w H a ns hlen hO hS) λH e s'=>hCX w H s₁ e s'
noncomputable def jT_(s:Stmt):Arguments:=match s with
 | .FunctionDef _ a _ _ _ _ _ _ _ _=>a
 | _=>{ posonlyargs:=[],args:=[],vararg:=none,kwonlyargs:=[],kw_defaults:=[],kwarg:=none,defaults:=[] }
noncomputable def z2_(s:Stmt):List Stmt:=match s with
 | .FunctionDef _ _ b _ _ _ _ _ _ _=>b
 | _=>[]
noncomputable def zd_(s:Stmt):Scope:=match s with
 | .FunctionDef _ _ _ _ _ _ sc _ _ _=>sc
 | _=>{ kind:=.function,names:=[],isGenerator:=false,isCoroutine:=false }
structure Fun(K:PySem.W.Frag)(x qual:Str)(st:Stmt)(f:Addr)(fd:FuncData):Prop where
 ex:∃(oc:Value) (od:Option Addr) (kV doc pm:Value) (an:Option Addr) (cdv ct:Value) (osl:Array (Option Value)),
  fd=PySem.W.fnOf x qual (jT_ st) (z2_ st) (zd_ st) .none kV doc pm an cdv ct/\K.lookup f=some ⟨oc,od,.func fd,osl⟩/\PySem.W.codeIn K cdv qual=true
 kp:PySem.W.keepIn K (.ref f)=true
section
variable {P:Program}{w:World}{K:PySem.W.Frag}{mg:Str->Option Value}{base:Heap}
theorem Fun.binds{x qual:Str}{st:Stmt}{f:Addr}{fd:FuncData}{ps:List Str}(F:Fun K x qual st f fd)
  (h:∀(kV doc pm:Value) (an:Option Addr) (cdv ct:Value) (us:List Value),us.length=ps.length->bindArgs (PySem.W.fnOf x qual (jT_ st) (z2_ st) (zd_ st) .none kV doc pm an cdv ct) ⟨us,[]⟩=pure (ps.zip us)):Binds K fd ps []:=by
 obtain⟨oc,od,kV,doc,pm,an,cdv,ct,osl,rfl,lk,hcd⟩:=F.ex
 exact .all (h kV doc pm an cdv ct)
theorem QI_{x qual:Str}{st:Stmt}{f:Addr}{oc:Value}{od an:Option Addr}{osl:Array (Option Value)}{kV doc pm cdv ct:Value}(l:K.lookup f=some ⟨oc,od,.func (PySem.W.fnOf x qual (jT_ st) (z2_ st) (zd_ st) .none kV doc pm an cdv ct),osl⟩)
  (c:PySem.W.codeIn K cdv qual=true) (k:PySem.W.keepIn K (.ref f)=true):Fun K x qual st f (PySem.W.fnOf x qual (jT_ st) (z2_ st) (zd_ st) .none kV doc pm an cdv ct):=⟨⟨oc,od,kV,doc,pm,an,cdv,ct,osl,rfl,l,c⟩,k⟩
end
theorem iteF{A B:Prop}(h:B):if false=true then A else B:=by
 rw[if_neg Bool.false_ne_true]
 exact h
theorem iteT{A B:Prop}(h:A):if true=true then A else B:=by
 rw[if_pos rfl]
 exact h
def Same(H H':Hp):Prop:=∀b o,H b=some o->H' b=some o
theorem Same.refl(H:Hp):Same H H:=λ_ _ h=>h
theorem Same.trans{H H1 H2:Hp}(a:Same H H1)(b:Same H1 H2):Same H H2:=λc o h=>b c o (a c o h)
theorem Same.free{H H':Hp}(e:Same H H'){l:Addr}(h:H' l=Option.none):H l=Option.none:=by
 cases q:H l with
 | none=>rfl
 | some o =>
  rw[e l o q]at h
  cases h
theorem Same.seq{K:PySem.W.Frag}{H H':Hp}{a:Addr}{xs:List V}(e:Same H H')(h:SqL K H a xs):SqL K H' a xs:=by
 rcases h with (h|⟨o,h⟩)|h
 ·exact .inl (.inl (e _ _ h))
 ·exact .inl (.inr ⟨o,e _ _ h⟩)
 ·exact .inr h
noncomputable def zE_(X:Cx)(N':List Str)(scope:Scope)(cl:List (Str×Addr))(s₂:Shared)(H₂:Hp)(fp:List Addr)(C:Addr):Cx :=
 { X with N:=N',s₀:=s₂,H₀:=H₂,env:=compEnvC scope cl C X.env,outer:=X.stack,ex:=fp,fn:=λ_=>false,pn:=[],xe:=λ_ _=>False }
noncomputable def lobj(ys:List Value)(k:Nat):Obj:={ cls:=.type "list",data:=.seq ys.toArray k }
section
variable {prog:Program}{w:World}{A:Around}{R:Result->Shared->Prop}{s:Shared}
theorem yi_{elt target iter:Expr}{ifs:List Expr}{scope:Scope}{pos:Pos}{it acc:Value}{env:Env}(I:Nat->Shared->Prop)
  (turn:∀n s,I n s->wpAny (model prog w) A (pyNext it) (λr s₁=>match r with
   | none=>R (.ok .next) s₁
   | some v=>wpAny (model prog w) A (letOwnedTupleGo target it v) (λ_ s₁'=>wpAny (model prog w) A (assign target env v) (λ_ s₂ =>
     wpAny (model prog w) A (forIn ifs true λc r=>if r=true then do let ok <-isTrue c env (eval c env);pure (ForInStep.yield ok)else pure (ForInStep.yield r)) (λok s₃ =>
      if ok=true then wpAny (model prog w) A (eval elt env) (λx s₄ =>
       wpAny (model prog w) A (call (.builtin "list.append") [acc,x]) (λ_ s₅=>∃m,m<n/\I m s₅) (λ_ _=>False) s₄) (λ_ _=>False) s₃
      else ∃m,m<n/\I m s₃) (λ_ _=>False) s₂) (λ_ _=>False) s₁') (λ_ _=>False) s₁) (λ_ _=>False) s)
  (n:Nat) (h:I n s) :
  codeAny (model prog w) A (.compLoop (.ListComp elt [⟨target,iter,ifs,0⟩] scope pos) 0 it acc env) R s:=by
 refine codeAny_loop rfl I (λn s hI=>?_) n h
 show wpAny _ A ((compTurn (.ListComp elt [⟨target,iter,ifs,0⟩] scope pos) 0 it acc env).onRaise (λx=>do noteFrame x env;theTreesLotGoes x)) _ _ s
 refine wpAny_noted ?_
 rw[compTurn_list]
 refine zza (wpAny_standAt (zza (wpAny_mono (turn n s hI) (λr s₁ h₁=>?_) λ_ _ h'=>h'.elim)))
 cases r with
 | none=>exact zzb h₁
 | some v =>
  refine zza (wpAny_mono h₁ (λ_ s₁' h₁'=>?_) λ_ _ h'=>h'.elim)
  refine zza (wpAny_mono h₁' (λ_ s₂ h₂=>zza (wpAny_mono h₂ (λok s₃ h₃=>?_) λ_ _ h'=>h'.elim)) λ_ _ h'=>h'.elim)
  cases ok with
  | false=>exact zzb ⟨rfl,h₃⟩
  | true =>
   exact zza (zza (wpAny_mono h₃ (λx s₄ h₄=>zza (wpAny_mono h₄ (λ_ s₅ h₅=>zzb (zzb ⟨rfl,h₅⟩)) λ_ _ h'=>h'.elim)) λ_ _ h'=>h'.elim))
end
def PTs(X:Cx)(ifs:List Expr)(t:TT):Prop :=
 ∀(pins:List (Addr×Obj)) (s:Shared) (σ:St) (H:Hp) (Q:Bool->Hp->Prop),Inv X pins σ H s->t σ H Q ->
  wpAny (model X.prog X.w) X.A (forIn ifs true λc r=>if r=true then do let ok <-isTrue c X.env (eval c X.env);pure (ForInStep.yield ok)else pure (ForInStep.yield r)) (TP X pins σ Q) X.xe s
theorem zaR_{X:Cx}:PTs X [] (λ_ H Q=>Q true H):=λ_ _ _ H _ I h=>wpAny_tests_nil ⟨H,I,h⟩
theorem V1_{X:Cx}{c:Expr}{t:TT}(h:PT X c t):PTs X [c] t:=λpins s σ H Q I q=>wpAny_tests_one (h pins s σ H Q I q)
theorem ui_{env:Env}:∀{names:List (Str×NameKind)} {x:Str},
  (names.map λ(n,k)=>if(k==NameKind.free&&env.scope.kind==.function&&env.kindOf n==some .cell)then(n,NameKind.cell)else(n,k)).lookup x
   = (names.lookup x).map λk=>if(k==NameKind.free&&env.scope.kind==.function&&env.kindOf x==some .cell)then NameKind.cell else k
 | [],_=>rfl
 | (n,k)::r,x=>by
  have ih:=@ui_ env r x
  show List.lookup x ((if(k==NameKind.free&&env.scope.kind==.function&&env.kindOf n==some .cell)=true then(n,NameKind.cell)else(n,k))::_)=_
  cases hx:x==n with
  | true =>
   have e:x=n:=by simpa using hx
   subst e
   by_cases hc:(k==NameKind.free&&env.scope.kind==.function&&env.kindOf x==some .cell)=true
   ·rw[if_pos hc];simp only[List.lookup_cons,hx,Option.map_some,if_pos hc]
   ·rw[if_neg hc];simp only[List.lookup_cons,hx,Option.map_some,if_neg hc]
  | false =>
   by_cases hc:(k==NameKind.free&&env.scope.kind==.function&&env.kindOf n==some .cell)=true
   ·rw[if_pos hc];simp only[List.lookup_cons,hx];exact ih
   ·rw[if_neg hc];simp only[List.lookup_cons,hx];exact ih
theorem Zm_{env:Env}:∀(names:List (Str×NameKind)) (acc:List (Str×Addr)),(∀x∈names,x.2=.free->∃c,env.cells.lookup x.1=some c) ->
  (∀x c,acc.lookup x=some c->env.cells.lookup x=some c) ->
  ∃cl,(forIn names acc λ(x:Str×NameKind) (cs:List (Str×Addr))=>(if(x.2==NameKind.free)=true then(do let c <-cellOf env x.1;pure (ForInStep.yield ((x.1,c)::cs)))else pure (ForInStep.yield cs):Sem (ForInStep (List (Str×Addr)))))=pure cl /\
   (∀x c,cl.lookup x=some c->env.cells.lookup x=some c)/\(∀x,(acc.lookup x).isSome->(cl.lookup x).isSome)/\∀x∈names,x.2=.free->(cl.lookup x.1).isSome
 | [],acc,_,ha=>⟨acc,rfl,ha,λ_ h=>h,λ_ h=>nomatch h⟩
 | (n,k)::r,acc,hn,ha=>by
  cases hk:(k==NameKind.free)with
  | true =>
   obtain⟨c,hc⟩:=hn (n,k) List.mem_cons_self (by simpa using hk)
   have ha':∀x d,((n,c)::acc).lookup x=some d->env.cells.lookup x=some d:=λx d e=>by
    rw[List.lookup_cons]at e
    cases q:x==n with
    | true =>
     rw[q]at e
     have:x=n:=by simpa using q
     subst this
     exact hc.trans e
    | false=>rw[q]at e;exact ha x d e
   obtain⟨cl,e,h1,h2,h3⟩:=Zm_ r ((n,c)::acc) (λx hx=>hn x (zzg _ hx)) ha'
   have grow:∀x,(acc.lookup x).isSome->(((n,c)::acc).lookup x).isSome:=λx hx=>by
    rw[List.lookup_cons]
    cases q:x==n with
    | true=>rfl
    | false=>exact hx
   refine⟨cl,?_,h1,λx hx=>h2 x (grow x hx),λx hx hf=>?_⟩
   ·rw[List.forIn_cons]
    have q:cellOf env n=pure c:=by
     unfold cellOf
     rw[hc]
    simp only[hk,if_true,q]
    exact e
   ·rcases List.mem_cons.mp hx with rfl|hx
    ·exact h2 _ (by simp[List.lookup_cons])
    ·exact h3 x hx hf
  | false =>
   obtain⟨cl,e,h1,h2,h3⟩:=Zm_ r acc (λx hx=>hn x (zzg _ hx)) ha
   refine⟨cl,?_,h1,h2,λx hx hf=>?_⟩
   ·rw[List.forIn_cons]
    simp only[hk,Bool.false_eq_true,if_false]
    exact e
   ·rcases List.mem_cons.mp hx with rfl|hx
    ·exfalso;have:k=.free:=hf;subst this;simp at hk
    ·exact h3 x hx hf
theorem J4_{env:Env}{scope:Scope}(h:∀x∈scope.names,x.2=.free->∃c,env.cells.lookup x.1=some c) :
  ∃cl,closureFor scope env=pure cl/\(∀x c,cl.lookup x=some c->env.cells.lookup x=some c)/\∀x∈scope.names,x.2=.free->(cl.lookup x.1).isSome:=by
 obtain⟨cl,e,h1,_,h3⟩:=Zm_ (env:=env) scope.names [] h (λx c e=>by simp at e)
 refine⟨cl,?_,h1,h3⟩
 unfold closureFor
 have q:(forIn scope.names [] λ(x:Str×NameKind) (cs:List (Str×Addr))=>(match x with|(name,kind)=>if(kind==NameKind.free)=true then(do let c <-cellOf env name;pure (ForInStep.yield ((name,c)::cs)))else pure (ForInStep.yield cs):Sem (ForInStep (List (Str×Addr)))))=pure cl:=e
 first
  | (simp only[];rw[q];rfl)
  | (show(do let cs <-_;pure cs)=_;rw[q];rfl)
  | (rw[show(forIn scope.names [] _)=pure cl from q];rfl)
structure CompOk(X:Cx)(N':List Str)(k:Nat)(scope:Scope):Prop where
 kind:scope.kind=.function
 len:N'.length=X.N.length+k
 nocell:∀y∈scope.names,y.2≠.cell
 names:∀y∈scope.names,y.2=.local->scope.names.lookup y.1=some .local
 outer:∀(i:Nat) x,i<X.N.length->N'[i]? = some x->(scope.names.lookup x).isSome->(scope.names.lookup x=some .free\/scope.names.lookup x=some .local\/scope.names.lookup x=some .cell)->X.N[i]? = some x/\scope.names.lookup x=some .free
 free:∀y∈scope.names,y.2=.free->X.env.kindOf y.1=some .cell\/X.env.kindOf y.1=some .free
def Xc_(wi:TI)(k:Nat)(g:TG)(tc:TT)(te:TE):TE:=λσ H Q=>wi σ H λJ H1=>∃W:Nat->Nat->List V->St->Hp->Prop,(∃m,W 0 m [] (σ++List.replicate k none) H1) /\
 ∀i m vs σ' H',W i m vs σ' H'->vs.length<=sizeLine /\
  ((J.stop i H'/\∀p,H' p=none->Q (.ref p) (upd H' p (.lst vs))) \/
   (J.go i H'/\∀x H2,J.yld i H' x H2->g x σ' H2 λσ3 H3=>tc σ3 H3 λb H4=>if b=true then te σ3 H4 λy H5=>∃m',m'<m/\W (i+1) m' (vs++[y]) σ3 H5 else ∃m',m'<m/\W (i+1) m' vs σ3 H4))
section
variable {X:Cx}{pins:List (Addr×Obj)}{σ:St}{H2:Hp}{s2:Shared}
theorem HOk.track{P:Program}{w:World}{H:Hp}{h:Heap}{D:Addr}{vs:List V}{ys:List Value}{k:Nat}(x:HOk P w H h)(hn:H D=none)(hl:vs.length<=sizeLine)(r:Vals vs ys)(e:h.get? D=some (lobj ys k)) :
  HOk P w (upd H D (.lst vs)) h:=λb u q=>by
 by_cases hb:b=D
 ·subst hb
  rw[zw_]at q
  cases q
  exact⟨hl,ys,k,r,e⟩
 ·rw[zo_ hb]at q
  exact(x b u q).stay (λ_ _ _ z=>z) (λc z=>by rw[zo_ (zB_ z hn)];exact z) λc xs z=>by rw[zo_ (zB_ z hn)];exact z
theorem Yu_{elt tg iter:Expr}{ifs:List Expr}{scope:Scope}{pos:Pos}{N':List Str}{k:Nat}{cl:List (Str×Addr)}{J:It}{fp:List Addr}{it:Addr}{tn:Nat->Heap->Prop}{g:TG}{tc:TT}{te:TE}{E:Value->Shared->Prop}
  {RR:Value->Addr->Result->Shared->Prop} {Q:VK}
  (hc:X.calm=true) (S:CompOk X N' k scope) (hcl:∀x c,cl.lookup x=some c->X.env.cells.lookup x=some c) (hcf:∀x∈scope.names,x.2=.free->(cl.lookup x.1).isSome)
  (I:Inv X pins σ H2 s2) (T:Turn X.prog X.w X.K tg J fp it tn) (st:tn 0 s2.heap) (ff:∀b∈fp,FpOk X pins H2 b)
  (hg:∀C,PG (zE_ X N' scope cl s2 H2 fp C) tg g) (ht:∀C,PTs (zE_ X N' scope cl s2 H2 fp C) ifs tc) (he:∀C,PE (zE_ X N' scope cl s2 H2 fp C) elt te)
  (rd:∃W:Nat->Nat->List V->St->Hp->Prop,(∃m,W 0 m [] (σ++List.replicate k none) H2) /\
   ∀i m vs σ' H',W i m vs σ' H'->vs.length<=sizeLine /\
    ((J.stop i H'/\∀p,H' p=none->Q (.ref p) (upd H' p (.lst vs))) \/
     (J.go i H'/\∀x H2,J.yld i H' x H2->g x σ' H2 λσ3 H3=>tc σ3 H3 λb H4=>if b=true then te σ3 H4 λy H5=>∃m',m'<m/\W (i+1) m' (vs++[y]) σ3 H5 else ∃m',m'<m/\W (i+1) m' vs σ3 H4)))
  (hRR:∀D C s' H',Inv X pins σ H' s'->(∃m,s'.heap.Ns C m)->FpOk X pins H' C->Q (.ref D) H'->RR (.ref D) C (.ok .next) s') :
  wpAny (model X.prog X.w) X.A (newList []) (λacc s₃=>wpAny (model X.prog X.w) X.A (newFunctionEnv scope X.env.globals cl [] X.env.qual none .none (some X.env)) (λcenv s₄ =>
   codeAny (model X.prog X.w) X.A (.compStart (.ListComp elt [⟨tg,iter,ifs,0⟩] scope pos) 0 (.ref it) acc { cenv with scope:=relabel scope X.env }) (RR acc cenv.locals) s₄) E s₃) E s2:=by
 obtain⟨W,⟨m0,w0⟩,turn⟩:=rd
 refine wpAny_newObj_type (wpAny_newFunctionEnv S.nocell (by intro y hy;simp at hy) (λh₁ hns₁ hsb₁=>?_) S.kind)
 dsimp only at hns₁ hsb₁ ⊢
 generalize hH2:s2.heap.push { cls:=.type "list",dict:=none,data:=.seq ([]:List Value).toArray }=G2 at hns₁ hsb₁ ⊢
 have hCs:G2.objs.size=s2.heap.objs.size+1:=by rw[<-hH2,Heap.size_push]
 have hDC:s2.heap.objs.size≠G2.objs.size:=by rw[hCs];exact Nat.ne_of_lt (Nat.lt_succ_self _)
 have hCle:s2.heap.objs.size<=G2.objs.size:=by rw[hCs];exact Nat.le_succ _
 have below:∀b,b<s2.heap.objs.size->b≠G2.objs.size/\b≠s2.heap.objs.size:=λb hb=>⟨by rw[hCs];exact Nat.ne_of_lt (Nat.lt_succ_of_lt hb),Nat.ne_of_lt hb⟩
 have old:∀b o,s2.heap.get? b=some o->h₁.get? b=some o:=λb o e=>hsb₁.extBut b o (below b (Heap.lt_size e)).1 (zzc _ (hH2▸zzc _ e))
 have hacc:h₁.get? s2.heap.objs.size=some (lobj [] 0):=hsb₁.extBut _ _ hDC (zzc _ (hH2▸zze _ rfl))
 generalize hDe:s2.heap.objs.size=D at *
 generalize hCe:G2.objs.size=C at *
 have fpD:FpOk X pins H2 D:=I.fpOk (by rw[hDe];exact Nat.le_refl _) (I.hok.fresh (by rw[hDe];exact Nat.le_refl _))
 have fpC:∀H',H' C=none->FpOk X pins H' C:=λH' hn=>I.fpOk (by rw[hDe];exact hCle) hn
 have hfpD:∀b∈fp,b<D:=λb hb=>by
  obtain⟨o,e,_⟩:=T.obj _ _ st b hb
  rw[<-hDe];exact Heap.lt_size e
 have nofr:∀b,D<=b->b∉frs X.stack:=λb hb hm=>by
  rcases List.mem_cons.mp (I.stkSub b hm)with e|hm
  ·have:=I.lt;rw[hDe]at this;rw[e]at hb;exact absurd (Nat.lt_of_lt_of_le this hb) (Nat.lt_irrefl _)
  ·exact I.nofs (by rw[hDe];exact hb) hm
 let X':=zE_ X N' scope cl s2 H2 fp C
 have cellLt:∀x c,cl.lookup x=some c->c<D:=λx c e=>by
  obtain⟨v,z⟩:=I.cell x c (hcl x c e)
  rw[<-hDe];exact z.lt
 have ok':X'.Ok:=by
  refine⟨I.ok.mod,S.kind,I.ok.glob,I.ok.blt,?_,λx y c e1 e2=>I.ok.inj x y c (hcl _ _ e1) (hcl _ _ e2),λx hx=>?_,λx c hf _=>(nomatch hf),I.ok.hd,I.ok.frames,.inl rfl,λb hb=>⟨?_,λx c e z=>?_⟩,I.bs,?_,λb o e hb=>?_,λb hb hm=>?_,I.stack,I.stkFree⟩
  ·show s2.heap.objs.size<=C
   rw[hDe];exact hCle
  ·have hx':(relabel scope X.env).names.lookup x=some .cell\/(relabel scope X.env).names.lookup x=some .free:=hx
   have e:=ui_ (env:=X.env) (names:=scope.names) (x:=x)
   have e':(relabel scope X.env).names.lookup x=(scope.names.lookup x).map λk=>if(k==NameKind.free&&X.env.scope.kind==.function&&X.env.kindOf x==some .cell)then NameKind.cell else k:=e
   rw[e']at hx'
   cases q:scope.names.lookup x with
   | none=>rw[q]at hx';rcases hx' with z|z<;>cases z
   | some kd =>
    have hmem:=PySem.mem_of_lookup q
    rw[q]at hx'
    have hkd:kd=.free:=by
     by_cases hz:kd=.free
     ·exact hz
     ·exfalso
      have hb:(kd==NameKind.free)=false:=by simpa using hz
      simp only[hb,Bool.false_and,Bool.false_eq_true,if_false,Option.map_some]at hx'
      rcases hx' with z|z
      ·exact S.nocell _ hmem (Option.some.inj z)
      ·exact hz (Option.some.inj z)
    exact Option.isSome_iff_exists.mp (hcf _ hmem hkd)
  ·exact Nat.ne_of_lt (Nat.lt_of_lt_of_le (hfpD b hb) hCle)
  ·exact(ff b hb).2.2.2.2.1 x c (hcl x c e) z
  ·exact Nat.le_trans I.ok.bsz I.sz
  ·obtain⟨_,_,_,hx,_⟩:=ff b hb
   rcases hx with hx|hx
   ·exact I.ok.noex b o e hx
   ·exact absurd (Nat.lt_of_lt_of_le (Heap.lt_size (I.ok.bs b o e).1) hx) (Nat.lt_irrefl _)
  ·obtain⟨_,hl,hfs,_⟩:=ff b hb
   rcases List.mem_cons.mp (I.stkSub b hm)with e|hm
   ·exact hl e
   ·exact hfs hm
 have lenσ:(σ++List.replicate k none).length=N'.length:=by rw[List.length_append,List.length_replicate,I.len,S.len]
 have I0:Inv X' [(D,lobj [] 0)] (σ++List.replicate k none) H2 { s2 with heap:=h₁,toks:=s2.toks+([]:List (Str×Value)).length }:=by
  refine⟨ok',rfl,I.bare,Un.kept old,⟨_,hns₁,λi x v e1 e2 e3=>?_⟩,λx c e=>?_,I.hok.fresh (by rw[hDe];exact hCle),λx c e=>I.freeC x c (hcl x c e),λp hp=>?_,I.hok.kept old,lenσ⟩
  ·have hi:i<σ.length:=by
    by_cases hi:i<σ.length
    ·exact hi
    ·rw[List.getElem?_append_right (Nat.not_lt.mp hi),List.getElem?_replicate]at e2
     split at e2<;>cases e2
   rw[List.getElem?_append_left hi]at e2
   have e':(relabel scope X.env).names.lookup x=(scope.names.lookup x).map λk=>if(k==NameKind.free&&X.env.scope.kind==.function&&X.env.kindOf x==some .cell)then NameKind.cell else k:=ui_ (env:=X.env) (names:=scope.names) (x:=x)
   have hsome:∃kd,scope.names.lookup x=some kd/\(kd=.free\/kd=.local\/kd=.cell):=by
    have e3':(relabel scope X.env).names.lookup x=some .local\/(relabel scope X.env).names.lookup x=some .cell\/(relabel scope X.env).names.lookup x=some .free:=e3
    rw[e']at e3'
    cases q:scope.names.lookup x with
    | none=>rw[q]at e3';rcases e3' with z|z|z<;>cases z
    | some kd =>
     refine⟨kd,rfl,?_⟩
     rw[q]at e3'
     by_cases hz:kd=.free
     ·exact .inl hz
     ·have hb:(kd==NameKind.free)=false:=by simpa using hz
      simp only[hb,Bool.false_and,Bool.false_eq_true,if_false,Option.map_some,Option.some.injEq]at e3'
      rcases e3' with z|z|z
      ·exact .inr (.inl z)
      ·exact .inr (.inr z)
      ·exact .inl z
   obtain⟨kd,hk1,hk2⟩:=hsome
   obtain⟨hN,hfree⟩:=S.outer i x (by rw[<-I.len];exact hi) e1 (by rw[hk1];rfl) (by rcases hk2 with z|z|z<;>subst z<;>simp[hk1])
   have hmem:=PySem.mem_of_lookup hfree
   have hko:=S.free _ hmem rfl
   have hkx:X.env.kindOf x=some .cell\/X.env.kindOf x=some .free:=hko
   obtain⟨m,hn,hl⟩:=I.loc
   obtain⟨u,r,lk⟩:=hl i x v hN e2 (by rcases hkx with z|z;exact .inr (.inl z);exact .inr (.inr z))
   refine⟨u,r,.inr ⟨?_,?_⟩⟩
   ·show(relabel scope X.env).names.lookup x=some .cell\/(relabel scope X.env).names.lookup x=some .free
    rw[e',hfree,Option.map_some]
    split
    ·exact .inl rfl
    ·exact .inr rfl
   ·rcases lk with ⟨kl,_⟩|⟨_,c,ec,hcell⟩
    ·rcases hkx with z|z<;>(rw[z]at kl;cases kl)
    ·obtain⟨c',ec'⟩:=Option.isSome_iff_exists.mp (hcf _ hmem rfl)
     have q:=hcl _ _ ec'
     rw[ec]at q
     cases q
     exact⟨c,ec',hcell.keeps old⟩
  ·obtain⟨v,z⟩:=I.cell x c (hcl x c e)
   exact⟨v,z.keeps old⟩
  ·have hp':p∈([]:List (Addr×Obj))++[(D,lobj [] 0)]:=hp
   have ep:p=(D,lobj [] 0):=by simpa using hp'
   subst ep
   exact⟨hacc,fpD.1,hDC,nofr D (Nat.le_refl _),λv z=>nomatch z⟩
 have stat:∀{H':Hp} {o:Obj},(∀b∈fp,H' b=none)->∀b∈fp,FpOk X' [(D,o)] H' b:=λ{H' o} hn b hb=>by
  refine⟨hn b hb,Nat.ne_of_lt (Nat.lt_of_lt_of_le (hfpD b hb) hCle),ok'.exfs b hb,.inl hb,λx c e z=>(ff b hb).2.2.2.2.1 x c (hcl x c e) z,λp hp=>?_⟩
  have hp':p∈([]:List (Addr×Obj))++[(D,o)]:=hp
  have ep:p=(D,o):=by simpa using hp'
  subst ep
  exact Nat.ne_of_gt (hfpD b hb)
 have loop:∀s₃:Shared,s₃={ s2 with heap:=h₁,toks:=s2.toks+([]:List (Str×Value)).length } ->
   codeAny (model X.prog X.w) X.A (.compLoop (.ListComp elt [⟨tg,iter,ifs,0⟩] scope pos) 0 (.ref it) (.ref D) (compEnvC scope cl C X.env)) (RR (.ref D) C) s₃:=by
  rintro s₃ rfl
  refine yi_ (λn s'=>∃i vs ys kk σ' H',Inv X' [(D,lobj ys kk)] σ' H' s'/\tn i s'.heap/\(∀b∈fp,H' b=none)/\Vals vs ys/\W i n vs σ' H') ?_ m0
   ⟨0,[],[],0,_,H2,I0,T.keep _ _ _ st λb _ o e=>old b o e,λb hb=>(ff b hb).1,.nil,w0⟩
  rintro n s3 ⟨i,vs,ys,kk,σ3,H3,I3,st3,fr3,rv,w3⟩
  obtain⟨hvl,hcase⟩:=turn i n vs σ3 H3 w3
  have pinD:∀{o:Obj} {σ' H' s'},Inv X' [(D,o)] σ' H' s'->s'.heap.get? D=some o/\H' D=none:=λJ=>⟨(J.pin _ (List.mem_append_right _ List.mem_cons_self)).1,(J.pin _ (List.mem_append_right _ List.mem_cons_self)).2.1⟩
  rcases hcase with ⟨stop,qn⟩|⟨go,step⟩
  ·refine thn (T.done X' rfl rfl rfl hc i _ s3 σ3 H3 (λ_ _=>False) I3 (stat fr3) st3 stop) λr s4 ⟨hr,I4⟩=>?_
   subst hr
   obtain⟨gD,nD⟩:=pinD I4
   obtain⟨m',hm',_⟩:=I4.loc
   have hC4:H3 C=none:=I4.free
   have u0:Un (frs X.stack) fp H2 H3 s2.heap s4.heap:=I4.base
   have neD:∀b o,s2.heap.get? b=some o->b≠D:=λb o e=>by rw[<-hDe];exact Nat.ne_of_lt (Heap.lt_size e)
   have u1:Un (frs X.stack) fp H2 (upd H3 D (.lst vs)) s2.heap s4.heap :=
    ⟨u0.keep,u0.slot,λb o e n hx=>by rw[zo_ (neD b o e)];exact u0.free b o e n hx,u0.there,
     λb xs e=>by have q:=u0.tups b xs e;rw[zo_ (zB_ q nD)];exact q,
     λb o u e=>by have q:=u0.frzs b o u e;rw[zo_ (zB_ q nD)];exact q,
     λb ps e=>by obtain⟨more,q⟩:=u0.tbls b ps e;exact⟨more,by rw[zo_ (zB_ q nD)];exact q⟩⟩
   have I5:Inv X pins σ (upd H3 D (.lst vs)) s4:=I.call' I4.os u1 (I4.hok.track nD hvl rv gD) I4.bare λb hb=>⟨(ff b hb).2.2.2.1,(ff b hb).2.1,(ff b hb).2.2.2.2.1,(ff b hb).2.2.2.2.2⟩
   exact hRR D C s4 _ I5 ⟨m',hm'⟩ (fpC _ (by rw[zo_ (Ne.symm hDC)];exact hC4)) (qn D nD)
  ·refine thn (T.item X' rfl rfl rfl hc i _ s3 σ3 H3 (λ_ _=>False) I3 (stat fr3) st3 go) λr s4 ⟨u,hr,h4⟩=>?_
   subst hr
   refine thn h4 λ_ s5 ⟨x,H5,I5,r5,y5,st5,fr5⟩=>?_
   have I5':=I5.pinned (stat fr5) (T.obj _ _ st5)
   refine thn (hg C _ s5 σ3 H5 x u _ I5' r5 (step x H5 y5)) λ_ s6 ⟨σ6,H6,I6,q6⟩=>?_
   refine thn (ht C _ s6 σ6 H6 _ I6 q6) λok s7 ⟨H7,I7,q7⟩=>?_
   have unpin:∀{σ' H' s'},Inv X' ([(D,lobj ys kk)]++UZ_ fp s5.heap) σ' H' s'->Inv X' [(D,lobj ys kk)] σ' H' s'/\tn (i+1) s'.heap/\∀b∈fp,H' b=none:=λ{σ' H' s'} J =>
    ⟨J.unpinned,T.keep _ _ _ st5 λb hb o e=>(J.pin (b,o) (List.mem_append_right _ (List.mem_append_right _ (yf_ hb e)))).1,λb hb=>by
     obtain⟨o,e,d⟩:=T.obj _ _ st5 b hb
     exact(J.pin (b,o) (List.mem_append_right _ (List.mem_append_right _ (yf_ hb e)))).2.1⟩
   cases ok with
   | false =>
    rw[if_neg Bool.false_ne_true]
    rw[if_neg Bool.false_ne_true]at q7
    obtain⟨m',hm',w7⟩:=q7
    obtain⟨J1,J2,J3⟩:=unpin I7
    exact⟨m',hm',i+1,vs,ys,kk,σ6,H7,J1,J2,J3,rv,w7⟩
   | true =>
    rw[if_pos rfl]
    rw[if_pos rfl]at q7
    refine thn (he C _ s7 σ6 H7 _ I7 q7) λuy s8 ⟨y,H8,I8,r8,m',hm',w8⟩=>?_
    obtain⟨J1,J2,J3⟩:=unpin I8
    obtain⟨gD,nD⟩:=pinD J1
    refine append_at (hsz:=by show ys.toArray.size<=sizeLine;rw[List.size_toArray,<-rv.length];exact hvl) gD λh9 hs9 hD9=>?_
    have J1':Inv X' [] σ6 H8 s8:=J1.pins_of λp hp=>nomatch hp
    have J9:Inv X' [] σ6 H8 { s8 with heap:=h9 }:=J1'.turned (t':=s8.toks) (it:=D) (λb o hb e=>hs9.extBut b o hb e) nD hDC (.inr (by show s2.heap.objs.size<=D;rw[hDe];exact Nat.le_refl _)) (λx c e=>Nat.ne_of_lt (cellLt x c e)) λp hp=>nomatch hp
    have eo:({ cls:=.type "list",data:=.seq (ys.toArray.push uy) (kk+1) }:Obj)=lobj (ys++[uy]) (kk+1):=by
     unfold lobj
     rw[List.push_toArray]
    refine⟨m',hm',i+1,vs++[y],ys++[uy],kk+1,σ6,H8,J9.pins_of λp hp=>?_,T.keep _ _ _ J2 λb hb o e=>hs9.extBut b o (Nat.ne_of_lt (hfpD b hb)) e,J3,rv.append (.cons r8 .nil),w8⟩
    have ep:p=(D,lobj (ys++[uy]) (kk+1)):=by simpa using hp
    subst ep
    exact⟨by show h9.get? D=_;rw[hD9,eo],nD,hDC,nofr D (Nat.le_refl _),λv z=>nomatch z⟩
 exact codeAny_compStart_list (loop _ rfl) (T.self _ 0 _ _ _ (T.keep _ _ _ st λb _ o e=>old b o e) (loop _ rfl))
end
section
variable {X:Cx}
theorem Wc_{elt tg iter:Expr}{ifs:List Expr}{scope:Scope}{pos:Pos}{N':List Str}{k:Nat}{wi:TI}{g:TG}{tc:TT}{te:TE}
  (hc:X.calm=true) (S:CompOk X N' k scope) (hcells:∀x∈scope.names,x.2=.free->∃c,X.env.cells.lookup x.1=some c) (hi:PI X tg iter wi)
  (hg:∀cl s H fp C,PG (zE_ X N' scope cl s H fp C) tg g) (ht:∀cl s H fp C,PTs (zE_ X N' scope cl s H fp C) ifs tc) (he:∀cl s H fp C,PE (zE_ X N' scope cl s H fp C) elt te)
  (hs:∀x,foldedSetIterable iter X.env x=pure x:=by intro _;rfl) :
  PE X (.ListComp elt [⟨tg,iter,ifs,0⟩] scope pos) (Xc_ wi k g tc te):=by
 intro pins s σ H Q I h
 obtain⟨cl,hclos,h1,h2⟩:=J4_ (env:=X.env) (scope:=scope) hcells
 rw[eval_ListComp]
 refine wpAny_comprehension_free (use:=none) rfl hs hclos S.kind S.names (thn (hi pins s σ H _ I h) λxv s1 h1'=>thn h1' λitv s2 h2'=>?_)
 obtain⟨it,fp,tn,J,H2,e,I2,T,st2,f2,rd⟩:=h2'
 subst e
 refine Yu_ hc S h1 h2 I2 T st2 f2 (λC=>hg _ _ _ _ C) (λC=>ht _ _ _ _ C) (λC=>he _ _ _ _ C) rd λD C s' H' I' ⟨m,hm⟩ fC q=>?_
 refine⟨m,hm,λh' hs'=>⟨.ref D,H',?_,rfl,q⟩⟩
 exact I'.turned (t':=s'.toks) (it:=C) (λb o hb e=>hs'.extBut b o hb e) fC.1 fC.2.1 fC.2.2.2.1 fC.2.2.2.2.1 fC.2.2.2.2.2
theorem JR_{elt tg iter:Expr}{ifs:List Expr}{scope:Scope}{pos pos' spos:Pos}{N':List Str}{k i:Nat}{y:Str}{wi:TI}{g:TG}{tc:TT}{te:TE}
  (hN:X.N.Nodup) (hy:X.N[i]? = some y) (hly:Loc X.env.scope y) (hfn:X.fn y=true\/X.env.scope.names.lookup y=some .local)
  (hc:X.calm=true) (S:CompOk X N' k scope) (hcells:∀x∈scope.names,x.2=.free->∃c,X.env.cells.lookup x.1=some c) (hi:PI X tg iter wi)
  (hg:∀cl s H fp C,PG (zE_ X N' scope cl s H fp C) tg g) (ht:∀cl s H fp C,PTs (zE_ X N' scope cl s H fp C) ifs tc) (he:∀cl s H fp C,PE (zE_ X N' scope cl s H fp C) elt te)
  (hsw:swapsWith (.ListComp elt [⟨tg,iter,ifs,0⟩] scope pos) (some (.Name y pos')) spos.line X.env=pure true)
  (hs:∀x,foldedSetIterable iter X.env x=pure x:=by intro _;rfl) :
  PS X (.Assign [.Name y pos'] (.ListComp elt [⟨tg,iter,ifs,0⟩] scope pos) spos) (tAsg (Xc_ wi k g tc te) (WH_ i)):=by
 intro pins s σ H D₀ I h
 obtain⟨cl,hclos,h1,h2⟩:=J4_ (env:=X.env) (scope:=scope) hcells
 rw[exec_Assign_Name_used _ _ _ _ hsw]
 refine zza (wpAny_standAt (zza ?_))
 show wpAny _ X.A (do let _ <-comprehension (.ListComp elt [⟨tg,iter,ifs,0⟩] scope pos) scope X.env _ (newList []) false (eval iter X.env) (some (assign (.Name y pos') X.env))) _ _ s
 refine zza (wpAny_mono (wpAny_comprehension_free (use:=some (assign (.Name y pos') X.env)) (Q:=λ_ s'=>SP X pins D₀ .next s') rfl hs hclos S.kind S.names
  (thn (hi pins s σ H _ I h) λxv s1 h1'=>thn h1' λitv s2 h2'=>?_)) (λ_ s' hq=>zzb (zzb hq)) λ_ _ e=>e)
 obtain⟨it,fp,tn,J,H2,e,I2,T,st2,f2,rd⟩:=h2'
 subst e
 refine Yu_ (Q:=λx H1=>WH_ i x σ H1 D₀.nx) hc S h1 h2 I2 T st2 f2 (λC=>hg _ _ _ _ C) (λC=>ht _ _ _ _ C) (λC=>he _ _ _ _ C) rd λD C s' H' I' ⟨m,hm⟩ fC q=>?_
 show wpAny _ X.A (assign (.Name y pos') X.env (.ref D)) _ _ _
 refine wpAny_assign_Name (UR_ I' hN hy hly (show RelV (.ref D) (.ref D)from rfl) (λs'' I'' ⟨a,hsb,ha⟩=>?_) hfn)
 have hCa:C≠a:=by
  rcases ha with rfl|ha
  ·exact fC.2.1
  ·exact λz=>fC.2.2.2.2.1 y a ha z.symm
 refine⟨m,hm.sameBut hsb hCa,λh' hs'=>⟨_,H',?_,q⟩⟩
 exact I''.turned (t':=s''.toks) (it:=C) (λb o hb e=>hs'.extBut b o hb e) fC.1 fC.2.1 fC.2.2.2.1 fC.2.2.2.2.1 fC.2.2.2.2.2
end
section
variable {κ:Type}[DecidableEq κ]
noncomputable def valV(kvs:List (κ×V))(k:κ):Option V:=(kvs.find? λkv=>decide (kv.1=k)).map (·.2)
theorem Qg_{p:κ×V}{r:List (κ×V)}{k:κ}(e:p.1=k):valV (p::r) k=some p.2:=by simp[valV,List.find?_cons,e]
theorem Qh_{p:κ×V}{r:List (κ×V)}{k:κ}(e:¬ p.1=k):valV (p::r) k=valV r k:=by simp[valV,List.find?_cons,e]
theorem RelO.isSome_eq{o:Option V}{u:Option Value}(r:RelO o u):o.isSome=u.isSome:=by
 cases o with
 | none=>cases u with
  | none=>rfl
  | some _=>exact(show False from r).elim
 | some _=>cases u with
  | none=>exact(show False from r).elim
  | some _=>rfl
theorem KV.val{kvs:List (κ×V)}{vs:List (κ×Value)}(r:KV kvs vs)(k:κ):RelO (valV kvs k) (valueAt vs k):=by
 unfold KV at r
 induction r with
 | nil=>exact True.intro
 | @cons p q ps qs h t ih =>
  obtain⟨h1,h2⟩:=h
  by_cases e:p.1=k
  ·have e':q.1=k:=h1.symm.trans e
   have b:valueAt (q::qs) k=some q.2:=by simp[valueAt,List.find?_cons,e']
   rw[Qg_ e,b];exact h2
  ·have e':¬ q.1=k:=λz=>e (h1.trans z)
   have b:valueAt (q::qs) k=valueAt qs k:=by simp[valueAt,List.find?_cons,e']
   rw[Qh_ e,b];exact ih
end
theorem XE_{P:Program}{w:World}{k:Key}{u:Value}(r:RelV (kV k) u):(jk_ P w).is k u=true:=by
 cases k with
 | inl i=>obtain⟨t,e⟩:=(show ∃t,u=Value.int i t from r);subst e;exact YY_ P w i t
 | inr x=>obtain⟨t,e⟩:=(show ∃t,u=Value.str x t from r);subst e;exact YX_ P w x t
theorem Yo_{P:Program}{w:World}:∀{ks:List Key} {us:List Value},Vals (ks.map kV) us->ItemsAre (jk_ P w) ks us
 | [],_,r=>by rw[List.map_nil]at r;cases r;exact .nil
 | k::ks,_,r=>by
  rw[List.map_cons]at r
  cases r with
  | cons h t=>exact .cons (XE_ h) (Yo_ t)
abbrev KT(H:Hp):List (List Key×V)->List (List Key×Addr×Value)->Prop:=Paired λp q=>p.1=q.1/\H q.2.1=some (.tup (p.1.map kV))/\RelV p.2 q.2.2
theorem KT.val{H:Hp}{kvs:List (List Key×V)}{xs:List (List Key×Addr×Value)}(r:KT H kvs xs)(k:List Key):RelO (valV kvs k) ((atKey xs k).map (·.2)):=by
 induction r with
 | nil=>exact True.intro
 | @cons p q ps qs h t ih =>
  obtain⟨h1,_,h2⟩:=h
  by_cases e:p.1=k
  ·have e':q.1=k:=h1.symm.trans e
   have b:atKey (q::qs) k=some q.2:=by simp[atKey,List.find?_cons,e']
   rw[Qg_ e,b];exact h2
  ·have e':¬ q.1=k:=λz=>e (h1.trans z)
   have b:atKey (q::qs) k=atKey qs k:=by simp[atKey,List.find?_cons,e']
   rw[Qh_ e,b];exact ih
section
variable {P:Program}{w:World}{H:Hp}{h:Heap}{a:Addr}
theorem zbY_{u:HO}(ok:HOk P w H h)(e:Rd H a u):ObjOk P w H h a u:=e.ok ok
theorem XO_{kvs:List (Key×V)}(ok:HOk P w H h)(e:Rd H a (.dK kvs)):kvs.length<=sizeLine/\(a==sysModules)=false/\∃vs,KV kvs vs/\h.DictOf (jk_ P w) a vs :=
 show ObjOk P w H h a (.dK kvs)from zbY_ ok e
theorem zdp_{kvs:List (Key×V)}(ok:HOk P w H h)(e:H a=some (.dK kvs)):kvs.length<=sizeLine/\(a==sysModules)=false/\∃vs,KV kvs vs/\h.DictOf (jk_ P w) a vs:=XO_ ok (.inl e)
theorem QF_{ks:List Key}(ok:HOk P w H h)(e:H a=some (.tup (ks.map kV))):(tupleKind (jk_ P w)).is h ks a:=by
 obtain⟨_,its,r,⟨o,h1,h2,n,h3⟩,_⟩:=(show ObjOk P w H h a (.tup (ks.map kV))from ok a _ e)
 exact⟨o,its.toArray,n,h1,h2,h3,by simpa using Yo_ r⟩
theorem XN_{kvs:List (List Key×V)}(ok:HOk P w H h)(e:Rd H a (.dT kvs)):kvs.length<=sizeLine/\(a==sysModules)=false /\
  ∃xs,KT H kvs xs/\h.DictOfH (tupleKind (jk_ P w)) a xs:=by
 obtain⟨z,y,xs,r,o,es,ep,h1,h2,h3,h4,h5⟩:=(show ObjOk P w H h a (.dT kvs)from zbY_ ok e)
 refine⟨z,y,xs,r,o,es,ep,h1,h2,h3,h4,λx hx=>?_,h5⟩
 have all:∀{l:List (List Key×V)} {m:List (List Key×Addr×Value)},KT H l m->∀x∈m,(tupleKind (jk_ P w)).is h x.1 x.2.1:=by
  intro l m q
  induction q with
  | nil=>intro x hx;exact nomatch hx
  | @cons p q ps qs hq t ih =>
   intro x hx
   rcases List.mem_cons.mp hx with e|hx
   ·subst e
    exact QF_ ok (by rw[<-hq.1];exact hq.2.1)
   ·exact ih x hx
 exact all r x hx
theorem zdo_{kvs:List (List Key×V)}(ok:HOk P w H h)(e:H a=some (.dT kvs)):kvs.length<=sizeLine/\(a==sysModules)=false /\
  ∃xs,KT H kvs xs/\h.DictOfH (tupleKind (jk_ P w)) a xs:=XN_ ok (.inl e)
end
def DGet(H:Hp)(a:Addr)(y:V)(r:Option V):Prop :=
 (∃kvs k,Rd H a (.dK kvs)/\y=kV k/\r=valV kvs k)\/∃kvs k b,Rd H a (.dT kvs)/\y=.ref b/\H b=some (.tup (k.map kV))/\r=valV kvs k
theorem DGet.k{H:Hp}{a:Addr}{kvs:List (Key×V)}{k:Key}(e:H a=some (.dK kvs)):DGet H a (kV k) (valV kvs k):=.inl ⟨kvs,k,.inl e,rfl,rfl⟩
theorem DGet.t{H:Hp}{a b:Addr}{kvs:List (List Key×V)}{k:List Key}(e:H a=some (.dT kvs))(eb:H b=some (.tup (k.map kV))):DGet H a (.ref b) (valV kvs k):=.inr ⟨kvs,k,b,.inl e,rfl,eb,rfl⟩
section
variable {X:Cx}{pins:List (Addr×Obj)}{σ:St}{H:Hp}{s:Shared}{a:Addr}{y v:V}{u r:Value}{o:Option V}{A:Around}{E:Value->Shared->Prop}
theorem WK_{Q:Value->Shared->Prop}(hu:A.units+1<cLine)(I:Inv X pins σ H s)(g:DGet H a y (some v))(ry:RelV y u)(h:∀w' s',Inv X pins σ H s'->RelV v w'->Q w' s') :
  wpAny (model X.prog X.w) A (getItem (.ref a) u) Q E s:=by
 rcases g with ⟨kvs,k,e,ey,l⟩|⟨kvs,k,b,e,ey,eb,l⟩
 ·subst ey
  obtain⟨z,hd,vs,rel,dd⟩:=XO_ I.hok e
  obtain⟨w',hw,rw'⟩:=RelO.some_of (v:=v) (o:=valueAt vs k) (by rw[l];exact rel.val k)
  exact wpAny_getItem_of (XE_ ry) dd.mapOf hw (h w' _ (I.tok _) rw')
 ·subst ey
  cases (show u=Value.ref b from ry)
  obtain⟨z,hd,xs,rel,dd⟩:=XN_ I.hok e
  obtain⟨w',hw,rw'⟩:=RelO.some_of (v:=v) (o:=(atKey xs k).map (·.2)) (by rw[l];exact rel.val k)
  obtain⟨p,hp,hp2⟩:=Option.map_eq_some_iff.mp hw
  refine wpAny_getItem_heap (tupleKind_room_in1 hu) (QF_ I.hok eb) dd hp ?_
  rw[hp2]
  exact h w' _ (I.tok _) rw'
theorem d_in{Q:Value->Shared->Prop}(hu:A.units+1<cLine)(I:Inv X pins σ H s)(g:DGet H a y o)(ry:RelV y u)(h:∀s',Inv X pins σ H s'->Q (.bool o.isSome) s') :
  wpAny (model X.prog X.w) A (compareOp .In u (.ref a)) Q E s:=by
 rcases g with ⟨kvs,k,e,ey,l⟩|⟨kvs,k,b,e,ey,eb,l⟩
 ·subst ey
  obtain⟨z,hd,vs,rel,dd⟩:=XO_ I.hok e
  refine wpAny_in_of (XE_ ry) hd dd.mapOf ?_
  rw[<-(rel.val k).isSome_eq,<-l]
  exact h _ (I.tok _)
 ·subst ey
  cases (show u=Value.ref b from ry)
  obtain⟨z,hd,xs,rel,dd⟩:=XN_ I.hok e
  refine wpAny_in_heap (tupleKind_room_in1 hu) (QF_ I.hok eb) hd dd ?_
  have q:=(rel.val k).isSome_eq
  rw[Option.isSome_map]at q
  rw[<-q,<-l]
  exact h _ (I.tok _)
end
theorem Y6_{X:Cx}{pins:List (Addr×Obj)}{σ:St}{H:Hp}{s:Shared}{a:Addr}{y:V}{o:Option V}(I:Inv X pins σ H s)(g:DGet H a y o):s.TypeIs (.ref a) "dict":=by
 rcases g with ⟨kvs,k,e,_,_⟩|⟨kvs,k,b,e,_,_,_⟩
 ·obtain⟨_,_,vs,_,dd⟩:=XO_ I.hok e
  exact dd.typeIs
 ·obtain⟨_,_,xs,_,dd⟩:=XN_ I.hok e
  exact dd.typeIs
end L2
namespace L4
open PySem PySem.Spec PyProof.Rows L2 PySem.W
def XO(e C:Addr)(dd:Option Addr):Heap->Prop:=λh=>∃oe,h.get? e=some oe/\oe.cls=.ref C/\oe.dict=dd/\PySem.W.notCls oe=true
def XD(dx:Addr)(fs:List (Str×V)):Heap->Prop:=λh=>∃mA,h.Ns1 dx mA/\PySem.Within mA (fs.map (·.1))/\∀f,RelO (fs.lookup f) (mA f)
noncomputable abbrev bmV:List Value:=[.type "ValueError",.type "Exception",.type "BaseException",.type "object"]
structure XC(K:Frag)(C D fI:Addr):Prop where
 obj:∃nm q N bs sn sub ab col dd k0 k1 k2 k3 k5,K.lookup C=some (excClassObj nm q C N bs (.ref D::bmV) true sn sub ab col dd k0 k1 k2 k3 k5 "ValueError.__new__")
 tl:tailIn K bmV (.ref D::bmV)=true
 ini:findIn K (.ref C) "__init__" = some (some (.ref fI))
 fn:typeIn K (.ref fI)=some (.type "function")
 sa:findIn K (.ref C) "__setattr__" = some (some (.builtin "object.__setattr__"))
 ga:findIn K (.ref C) "__getattribute__" = some (some (.builtin "BaseException.__getattribute__"))
 gr:findIn K (.ref C) "__getattr__" = some none
structure KC(K:Frag)(C:Addr):Prop where
 ha:findIn K (.ref C) "__class__" = some (some (.builtin "object.__class__"))
 hn:specialIn K (.builtin "object.__class__") "__get__" = some (some (.builtin "getset_descriptor.__get__"))
 htk:takesIn K (.builtin "object.__class__")=some true
noncomputable def tyOk(T:String):Bool:=T == "bool" || T == "int" || T == "str" || T == "list" || T == "tuple" || T == "dict"
structure XQ(K:Frag)(C:Addr)(x:Str):Prop where
 ns:nsIn K mainGlobals x=some (some (.ref C))
 xc:∃D fI,XC K C D fI
 kc:KC K C
 no:∀T,tyOk T=true->kitOne K (.ref C) (.type T)=some false
def FX(F:Hp)(dd:Option Addr)(fv:List (Str×V)):Prop:=(dd=none/\fv=[])\/∃dx,dd=some dx/\F dx=some (.ext (XD dx fv))
theorem FX.mono{F F':Hp}{dd:Option Addr}{fv:List (Str×V)}(e:Same F F')(h:FX F dd fv):FX F' dd fv:=h.imp id λ⟨dx,h1,h2⟩=>⟨dx,h1,e _ _ h2⟩
end L4
namespace L3
open PySem PySem.Spec PyProof.Rows L2
noncomputable abbrev D:=PyData
noncomputable abbrev Fg:=PySem.W.Frag
noncomputable def keyD:Key->D
 | .inl i=>.int i
 | .inr x=>.str x
noncomputable def keyT(k:List Key):D:=.tuple (k.map keyD)
mutual
inductive Rep(K:Fg)(F:Hp):V->D->Prop
 | non:Rep K F .non .none
 | bl (b):Rep K F (.bl b) (.bool b)
 | int (i):Rep K F (.int i) (.int i)
 | str (x):Rep K F (.str x) (.str x)
 | tup {a vs ds}:F a=some (.tup vs)->RepL K F vs ds->Rep K F (.ref a) (.tuple ds)
 | lst {a vs ds}:SqL K F a vs->RepL K F vs ds->Rep K F (.ref a) (.list ds)
 | dct {a kvs es}:F a=some (.dT kvs)->es.map (·.1)=kvs.map (λp=>keyT p.1)->RepL K F (kvs.map (·.2)) (es.map (·.2))->Rep K F (.ref a) (.dict es)
 | dck {a kvs es}:F a=some (.dK kvs)->es.map (·.1)=kvs.map (λp=>keyD p.1)->RepL K F (kvs.map (·.2)) (es.map (·.2))->Rep K F (.ref a) (.dict es)
 | exc {a C dd cl fv es}:F a=some (.ext (L4.XO a C dd))->L4.XQ K C cl->L4.FX F dd fv->es.map (·.1)=fv.map (λp=>.str p.1)->RepL K F (fv.map (·.2)) (es.map (·.2))->Rep K F (.ref a) (.dict ((.none,.str cl)::es))
 | fn {a f}:PySem.W.nsIn K mainGlobals f=some (some (.ref a))->Rep K F (.ref a) (.dict [(.bool true,.str f)])
inductive RepL(K:Fg)(F:Hp):List V->List D->Prop
 | nil:RepL K F [] []
 | cons {v d vs ds}:Rep K F v d->RepL K F vs ds->RepL K F (v::vs) (d::ds)
end
theorem yb_{K:Fg}{F F':Hp}{a:Addr}{xs:List V}(e:Same F F')(h:SqT K F a xs):SqT K F' a xs:=by
 rcases h with (h|⟨o,h⟩)|h
 ·exact .inl (.inl (e _ _ h))
 ·exact .inl (.inr ⟨o,e _ _ h⟩)
 ·exact .inr h
theorem Rep.mono{K:Fg}{F F':Hp}(e:Same F F'){v:V}{d:D}(h:Rep K F v d):Rep K F' v d :=
 Rep.rec (motive_1:=λv d _=>Rep K F' v d) (motive_2:=λvs ds _=>RepL K F' vs ds) .non .bl .int .str (λh _ r=>.tup (e _ _ h) r) (λh _ r=>.lst (e.seq h) r) (λh k _ r=>.dct (e _ _ h) k r) (λh k _ r=>.dck (e _ _ h) k r) (λh q f k _ r=>.exc (e _ _ h) q (f.mono e) k r) (λh=>.fn h) .nil (λ_ _ a b=>.cons a b) h
theorem RepL.mono{K:Fg}{F F':Hp}(e:Same F F'){vs:List V}{ds:List D}(h:RepL K F vs ds):RepL K F' vs ds:=by
 induction vs generalizing ds with
 | nil=>cases h;exact .nil
 | cons v vs ih=>cases h with
  | cons a b=>exact .cons (a.mono e) (ih b)
noncomputable def repI(K:Fg)(F:Hp):D->V->Prop
 | .none,v=>v=.non
 | .bool b,v=>v=.bl b
 | .int i,v=>v=.int i
 | .str x,v=>v=.str x
 | .tuple ds,v=>∃a vs,v=.ref a/\F a=some (.tup vs)/\RepL K F vs ds
 | .list ds,v=>∃a vs,v=.ref a/\SqL K F a vs/\RepL K F vs ds
 | _,_=>True
theorem Rep.inv{K:Fg}{F:Hp}{v:V}{d:D}(h:Rep K F v d):repI K F d v :=
 Rep.casesOn (motive_1:=λv d _=>repI K F d v) h rfl (λ_=>rfl) (λ_=>rfl) (λ_=>rfl) (λh r=>⟨_,_,rfl,h,r⟩) (λh r=>⟨_,_,rfl,h,r⟩) (λ_ _ _=>True.intro) (λ_ _ _=>True.intro) (λ_ _ _ _ _=>True.intro) (λ_=>True.intro)
theorem Rep.int_inv{K:Fg}{F:Hp}{v:V}{i:Int}(h:Rep K F v (.int i)):v=.int i:=h.inv
theorem Rep.bool_inv{K:Fg}{F:Hp}{v:V}{i:Bool}(h:Rep K F v (.bool i)):v=.bl i:=h.inv
theorem Rep.str_inv{K:Fg}{F:Hp}{v:V}{i:Str}(h:Rep K F v (.str i)):v=.str i:=h.inv
theorem Rep.tup_inv{K:Fg}{F:Hp}{v:V}{ds:List D}(h:Rep K F v (.tuple ds)):∃a vs,v=.ref a/\F a=some (.tup vs)/\RepL K F vs ds:=h.inv
theorem Rep.lst_inv{K:Fg}{F:Hp}{v:V}{ds:List D}(h:Rep K F v (.list ds)):∃a vs,v=.ref a/\SqL K F a vs/\RepL K F vs ds:=h.inv
noncomputable def zbW_(K:Fg)(F:Hp):List D->List V->Prop
 | [],vs=>vs=[]
 | d::ds,vs=>∃v us,vs=v::us/\Rep K F v d/\RepL K F us ds
theorem RepL.inv{K:Fg}{F:Hp}{vs:List V}{ds:List D}(h:RepL K F vs ds):zbW_ K F ds vs :=
 RepL.casesOn (motive_2:=λvs ds _=>zbW_ K F ds vs) h rfl (λa b=>⟨_,_,rfl,a,b⟩)
theorem RepL.one_inv{K:Fg}{F:Hp}{vs:List V}{d:D}(h:RepL K F vs [d]):∃v,vs=[v]/\Rep K F v d:=by
 obtain⟨v,us,rfl,a,b⟩:=(h.inv:∃v us,vs=v::us/\Rep K F v d/\RepL K F us [])
 obtain rfl:us=[]:=b.inv
 exact⟨v,rfl,a⟩
theorem RepL.two_inv{K:Fg}{F:Hp}{vs:List V}{d e:D}(h:RepL K F vs [d,e]):∃v u,vs=[v,u]/\Rep K F v d/\Rep K F u e:=by
 obtain⟨v,us,rfl,a,b⟩:=(h.inv:∃v us,vs=v::us/\Rep K F v d/\RepL K F us [e])
 obtain⟨u,rfl,c⟩:=b.one_inv
 exact⟨v,u,rfl,a,c⟩
theorem RepL.length{K:Fg}{F:Hp}:∀{vs ds},RepL K F vs ds->vs.length=ds.length
 | _,_,.nil=>rfl
 | _,_,.cons _ r=>by simp[RepL.length r]
theorem RepL.get{K:Fg}{F:Hp}:∀{vs ds} {i:Nat} {d:D},RepL K F vs ds->ds[i]? = some d->∃v,vs[i]? = some v/\Rep K F v d
 | _,_,_,_,.nil,e=>by simp at e
 | _,_,0,_,.cons h _,e=>by simp at e;subst e;exact⟨_,rfl,h⟩
 | _,_,i+1,d,.cons _ r,e=>by
  obtain⟨v,h1,h2⟩:=RepL.get (i:=i) (d:=d) r (by simpa using e)
  exact⟨v,by simpa using h1,h2⟩
theorem RepL.append{K:Fg}{F:Hp}{vs:List V}{ds:List D}{us:List V}{es:List D}(h:RepL K F vs ds)(s:RepL K F us es):RepL K F (vs++us) (ds++es):=by
 induction vs generalizing ds with
 | nil=>cases h;exact s
 | cons v vs ih=>cases h with
  | cons a b=>exact .cons a (ih b)
theorem RepL.take{K:Fg}{F:Hp}:∀{vs ds} (n:Nat),RepL K F vs ds->RepL K F (vs.take n) (ds.take n)
 | _,_,0,_=>.nil
 | _,_,_+1,.nil=>.nil
 | _,_,n+1,.cons h r=>.cons h (RepL.take n r)
theorem RepL.drop{K:Fg}{F:Hp}:∀{vs ds} (n:Nat),RepL K F vs ds->RepL K F (vs.drop n) (ds.drop n)
 | _,_,0,r=>r
 | _,_,_+1,.nil=>.nil
 | _,_,n+1,.cons _ r=>RepL.drop n r
theorem RepL.set{K:Fg}{F:Hp}{v:V}{d:D}(h:Rep K F v d):∀{vs ds} (i:Nat),RepL K F vs ds->RepL K F (vs.set i v) (ds.set i d)
 | _,_,_,.nil=>.nil
 | _,_,0,.cons _ r=>.cons h r
 | _,_,i+1,.cons q r=>.cons q (RepL.set h i r)
theorem RepL.ints{K:Fg}{F:Hp}:∀(ns:List Int),RepL K F (ns.map V.int) (ns.map PyData.int)
 | []=>.nil
 | n::r=>.cons (.int n) (RepL.ints r)
section
variable {X:Cx}{pins:List (Addr×Obj)}{σ:L2.St}{H:Hp}{s:Shared}
theorem UX_{u:List Value}(r:Vals [] u):∃as,ReadsAll s.heap u [] as:=by cases r;exact⟨_,.nil⟩
theorem JP_{v:V}{d:D}{vs:List V}{ds:List D}(h:d.canLay0=true->∀{u},RelV v u->∃as,Reads s.heap u d as)(t:PyData.canLayAll0 ds=true->∀{us},Vals vs us->∃as,ReadsAll s.heap us ds as)(c:PyData.canLayAll0 (d::ds)=true){us:List Value}(r:Vals (v::vs) us):∃as,ReadsAll s.heap us (d::ds) as:=by
 simp only[PyData.canLayAll0,Bool.and_eq_true]at c
 cases r with
 | cons r rr =>
  obtain⟨as,ra⟩:=h c.1 r
  obtain⟨bs,rb⟩:=t c.2 rr
  exact⟨_,.cons ra rb⟩
theorem VU_(I:Inv X pins σ H s){a:Addr}{vs:List V}{ds:List D}(hq:H a=some (.tup vs))(ih:PyData.canLayAll0 ds=true->∀{us},Vals vs us->∃as,ReadsAll s.heap us ds as)(c:(PyData.tuple ds).canLay0=true){u:Value}(r:RelV (.ref a) u):∃as,Reads s.heap u (.tuple ds) as:=by
 cases r
 obtain⟨its,rv,⟨o,e1,e2,n',e3⟩,hz⟩:=I.tuple (SqT.of hq)
 obtain⟨as,ra⟩:=ih (by simpa[PyData.canLay0]using c) rv
 exact⟨_,.tuple e1 e2 e3 (by simpa using ra)⟩
theorem VV_(I:Inv X pins σ H s){a:Addr}{vs:List V}{ds:List D}(hq:SqL X.K H a vs)(ih:PyData.canLayAll0 ds=true->∀{us},Vals vs us->∃as,ReadsAll s.heap us ds as)(c:(PyData.list ds).canLay0=true){u:Value}(r:RelV (.ref a) u):∃as,Reads s.heap u (.list ds) as:=by
 cases r
 obtain⟨its,rv,⟨o,n',e1,e2,e3,e4⟩,hz⟩:=I.list hq
 obtain⟨as,ra⟩:=ih (by simpa[PyData.canLay0]using c) rv
 exact⟨_,.list e1 e2 e4 (by simpa using ra)⟩
theorem yL_{es:List (D×D)}{P:Prop}(c:(PyData.dict es).canLay0=true):P:=by simp[PyData.canLay0]at c
theorem X2_(I:Inv X pins σ H s){v:V}{d:D}(h:Rep X.K H v d):d.canLay0=true->∀{u},RelV v u->∃as,Reads s.heap u d as :=
 Rep.rec (motive_1:=λv d _=>d.canLay0=true->∀{u},RelV v u->∃as,Reads s.heap u d as) (motive_2:=λvs ds _=>PyData.canLayAll0 ds=true->∀{us},Vals vs us->∃as,ReadsAll s.heap us ds as)
  (λ_ {_} r=>by cases r;exact⟨_,.none⟩) (λb _ {_} r=>by cases r;exact⟨_,.bool b⟩) (λi _ {_} r=>by obtain⟨t,rfl⟩:=r;exact⟨_,.int i t⟩) (λx _ {_} r=>by obtain⟨t,rfl⟩:=r;exact⟨_,.str x t⟩)
  (λhq _ ih=>VU_ I hq ih) (λhq _ ih=>VV_ I hq ih) (λ_ _ _ _ c=>yL_ c) (λ_ _ _ _ c=>yL_ c) (λ_ _ _ _ _ _ c=>yL_ c) (λ_ c=>yL_ c)
  (λ_ {_} r=>UX_ r) (λ_ _ a b=>JP_ a b) h
theorem zbX_(I:Inv X pins σ H s){vs:List V}{ds:List D}(h:RepL X.K H vs ds):PyData.canLayAll0 ds=true->∀{us},Vals vs us->∃as,ReadsAll s.heap us ds as:=by
 induction vs generalizing ds with
 | nil=>cases h;exact λ_ _ r=>UX_ r
 | cons v vs ih=>cases h with
  | cons a b=>exact JP_ (X2_ I a) (ih b)
end
theorem jP_{X:Cx}{pins:List (Addr×Obj)}{σ:L2.St}{H:Hp}{s:Shared}(I:Inv X pins σ H s) :
  (∀{v d},Rep X.K H v d->d.canLay0=true->∀{u},RelV v u->∃as,Reads s.heap u d as)/\(∀{vs ds},RepL X.K H vs ds->PyData.canLayAll0 ds=true->∀{us},Vals vs us->∃as,ReadsAll s.heap us ds as) :=
 ⟨λ{v d} h c {u} r=>X2_ I h c r,λ{vs ds} h c {us} r=>zbX_ I h c r⟩
noncomputable def isXe:List (D×D)->Bool
 | (.none,_)::_=>true
 | (.bool _,_)::_=>true
 | _=>false
noncomputable def isFn:D->Bool
 | .dict ((.bool _,_)::_)=>true
 | _=>false
inductive OC where
 | l (ds:List D)
 | t (es:List (D×D))
 | k (es:List (D×D))
 | i (x:Str) (ns:List Str) (ds:List D)
noncomputable def OC.isI:OC->Bool
 | .i _ _ _=>true
 | _=>false
inductive AV where
 | fz (d:D)
 | ol (c:OC)
 | op (c:OC)
noncomputable abbrev En:=List (Option AV)
inductive RV where
 | fz (d:D)
 | fr (c:OC)
 | bor (i:Nat)
noncomputable def NoTE:HO->Prop
 | .tup _=>False
 | .ext _=>False
 | _=>True
structure Gh where
 P:Nat->Option Addr
 O:Hp
 B:Hp
def Held(K:Fg)(F H:Hp)(a:Addr):OC->Prop
 | .l ds=>∃vs,H a=some (.lst vs)/\RepL K F vs ds
 | .t es=>∃kvs,H a=some (.dT kvs)/\es.map (·.1)=kvs.map (λp=>keyT p.1)/\RepL K F (kvs.map (·.2)) (es.map (·.2))
 | .k es=>∃kvs,H a=some (.dK kvs)/\es.map (·.1)=kvs.map (λp=>keyD p.1)/\RepL K F (kvs.map (·.2)) (es.map (·.2))
 | .i x ns ds=>∃C dx fs,H a=some (.ins C dx fs)/\PySem.W.nsIn K mainGlobals x=some (some (.ref C))/\fs.map (·.1)=ns/\RepL K F (fs.map (·.2)) ds
structure OwnAt(K:Fg)(G:Gh)(F H:Hp)(a:Addr)(c:OC):Prop where
 nf:F a=none
 no:G.O a=none
 he:Held K F H a c
def own(ρ:En)(i:Nat)(c:OC):Prop:=ρ[i]? = some (some (.ol c))\/ρ[i]? = some (some (.op c))
structure StOk(K:Fg)(G:Gh)(F:Hp)(σ:L2.St)(H:Hp)(ρ:En):Prop where
 fh:Same F H
 oh:Same G.O H
 fo:∀b o,G.O b=some o->F b=none/\NoTE o
 ln:σ.length=ρ.length
 fz:∀(i:Nat) (d:D),ρ[i]? = some (some (AV.fz d))->∃v,σ[i]? = some (some v)/\Rep K F v d
 ow:∀(i:Nat) (c:OC),own ρ i c->∃a:Addr,σ[i]? = some (some (V.ref a))/\OwnAt K G F H a c
 dj:∀(i j:Nat) (c e:OC) (a:Addr),own ρ i c->own ρ j e->σ[i]? = some (some (V.ref a))->σ[j]? = some (some (V.ref a))->i=j
 pp:∀(i:Nat) (a:Addr),G.P i=some a->σ[i]? = some (some (V.ref a))/\∃c,ρ[i]? = some (some (AV.op c))
 pq:∀(i:Nat) (c:OC),ρ[i]? = some (some (AV.op c))->∃a,G.P i=some a
 fb:Same G.B F
noncomputable def RVR(K:Fg)(G:Gh)(F:Hp)(σ:L2.St)(H:Hp)(ρ:En)(v:V):RV->Prop
 | .fz d=>Rep K F v d
 | .fr c=>∃a,v=.ref a/\OwnAt K G F H a c/\∀(i:Nat) (e:OC),own ρ i e->σ[i]? ≠ some (some (V.ref a))
 | .bor i=>∃c,own ρ i c/\σ[i]? = some (some v)
theorem Held.mono{K:Fg}{F F' H:Hp}{a:Addr}{c:OC}(e:Same F F')(h:Held K F H a c):Held K F' H a c:=by
 cases c with
 | l ds=>obtain⟨vs,h1,h2⟩:=h;exact⟨vs,h1,h2.mono e⟩
 | t es=>obtain⟨vs,h1,h2,h3⟩:=h;exact⟨vs,h1,h2,h3.mono e⟩
 | k es=>obtain⟨vs,h1,h2,h3⟩:=h;exact⟨vs,h1,h2,h3.mono e⟩
 | i x ns ds=>obtain⟨C,dx,fs,h1,h2,h3,h4⟩:=h;exact⟨C,dx,fs,h1,h2,h3,h4.mono e⟩
theorem Held.some{K:Fg}{F H:Hp}{a:Addr}{c:OC}(h:Held K F H a c):∃o,H a=some o:=by
 cases c with
 | l ds=>obtain⟨vs,h1,h2⟩:=h;exact⟨_,h1⟩
 | t es=>obtain⟨vs,h1,h2⟩:=h;exact⟨_,h1⟩
 | k es=>obtain⟨vs,h1,h2⟩:=h;exact⟨_,h1⟩
 | i x ns ds=>obtain⟨C,dx,fs,h1,_⟩:=h;exact⟨_,h1⟩
theorem Held.at{K:Fg}{F H H':Hp}{a:Addr}{c:OC}(h:Held K F H a c)(e:H' a=H a):Held K F H' a c:=by
 cases c with
 | l ds=>obtain⟨vs,h1,h2⟩:=h;exact⟨vs,e.trans h1,h2⟩
 | t es=>obtain⟨vs,h1,h2⟩:=h;exact⟨vs,e.trans h1,h2⟩
 | k es=>obtain⟨vs,h1,h2⟩:=h;exact⟨vs,e.trans h1,h2⟩
 | i x ns ds=>obtain⟨C,dx,fs,h1,h2⟩:=h;exact⟨C,dx,fs,e.trans h1,h2⟩
theorem yd_{F:Hp}{p:Addr}{o:HO}(h:F p=none):Same F (upd F p o):=λb u e=>by
 rw[zo_ (zB_ e h)]
 exact e
theorem yK_{F H:Hp}{p:Addr}{o:HO}(s:Same F H)(h:F p=none):Same F (upd H p o):=λb u e=>by
 rw[zo_ (zB_ e h)]
 exact s b u e
section
variable {K:Fg}{G:Gh}{F H:Hp}{σ:L2.St}{ρ:En}
theorem StOk.lay(S:StOk K G F σ H ρ){p:Addr}{o:HO}(hp:H p=none):StOk K G F σ (upd H p o) ρ:=by
 have fp:F p=none:=S.fh.free hp
 have op:G.O p=none:=S.oh.free hp
 refine⟨yK_ S.fh fp,yK_ S.oh op,S.fo,S.ln,S.fz,λi c h=>?_,S.dj,S.pp,S.pq,S.fb⟩
 obtain⟨a,e,oa⟩:=S.ow i c h
 refine⟨a,e,oa.nf,oa.no,oa.he.at ?_⟩
 obtain⟨u,hu⟩:=oa.he.some
 exact zo_ (zB_ hu hp)
theorem StOk.fresh_ne(S:StOk K G F σ H ρ){p:Addr}(hp:H p=none):∀(i:Nat) (e:OC),own ρ i e->σ[i]? ≠ some (some (V.ref p)):=λi e h q=>by
 obtain⟨a,e1,oa⟩:=S.ow i e h
 rw[e1]at q
 injection q with q;injection q with q;injection q with q
 subst q
 obtain⟨u,hu⟩:=oa.he.some
 rw[hp]at hu;cases hu
theorem StOk.freeze(S:StOk K G F σ H ρ){a:Addr}{o:HO}(ha:H a=some o)(fa:F a=none)(oa:G.O a=none)(ne:∀(i:Nat) (e:OC),own ρ i e->σ[i]? ≠ some (some (V.ref a))):StOk K G (upd F a o) σ H ρ:=by
 have sm:Same F (upd F a o):=yd_ fa
 refine⟨λb u e=>?_,S.oh,λb u e=>?_,S.ln,λi d h=>?_,λi c h=>?_,S.dj,S.pp,S.pq,S.fb.trans sm⟩
 ·by_cases hb:b=a
  ·subst hb;rw[zw_]at e;cases e;exact ha
  ·rw[zo_ hb]at e;exact S.fh b u e
 ·rw[zo_ (zB_ e oa)];exact S.fo b u e
 ·obtain⟨v,e,r⟩:=S.fz i d h;exact⟨v,e,r.mono sm⟩
 ·obtain⟨b,e,ob⟩:=S.ow i c h
  refine⟨b,e,?_,ob.no,ob.he.mono sm⟩
  rw[zo_ (λz=>ne i c h (by rw[e,z]))]
  exact ob.nf
theorem StOk.newTup(S:StOk K G F σ H ρ){p:Addr}{vs:List V}{ds:List D}(hp:H p=none)(r:RepL K F vs ds) :
  Same F (upd F p (.tup vs))/\StOk K G (upd F p (.tup vs)) σ (upd H p (.tup vs)) ρ/\Rep K (upd F p (.tup vs)) (.ref p) (.tuple ds):=by
 have fp:F p=none:=S.fh.free hp
 refine⟨yd_ fp,(S.lay hp).freeze zw_ fp (S.oh.free hp) (S.fresh_ne hp),?_⟩
 exact .tup zw_ (r.mono (yd_ fp))
theorem StOk.newLst(S:StOk K G F σ H ρ){p:Addr}{vs:List V}{ds:List D}(hp:H p=none)(r:RepL K F vs ds) :
  StOk K G F σ (upd H p (.lst vs)) ρ/\RVR K G F σ (upd H p (.lst vs)) ρ (.ref p) (.fr (.l ds)) :=
 ⟨S.lay hp,p,rfl,⟨S.fh.free hp,S.oh.free hp,vs,zw_,r⟩,S.fresh_ne hp⟩
theorem StOk.settle(S:StOk K G F σ H ρ){v:V}{ds:List D}(r:RVR K G F σ H ρ v (.fr (.l ds))) :
  ∃F',Same F F'/\StOk K G F' σ H ρ/\Rep K F' v (.list ds):=by
 obtain⟨a,rfl,oa,ne⟩:=r
 obtain⟨vs,h1,h2⟩:=oa.he
 exact⟨upd F a (.lst vs),yd_ oa.nf,S.freeze h1 oa.nf oa.no ne,.lst (.inl (.inl zw_)) (h2.mono (yd_ oa.nf))⟩
noncomputable def OC.d:OC->D
 | .l ds=>.list ds
 | .t es=>.dict es
 | .k es=>.dict es
 | .i _ _ _=>.none
theorem zbs_{a:Addr}{c:OC}(hI:c.isI=false)(h:Held K F H a c):∃o,H a=some o/\∀F',Same F F'->F' a=some o->Rep K F' (.ref a) c.d:=by
 cases c with
 | l ds=>obtain⟨vs,h1,h2⟩:=h;exact⟨_,h1,λF' s e=>.lst (.inl (.inl e)) (h2.mono s)⟩
 | t es=>obtain⟨vs,h1,h2,h3⟩:=h;exact⟨_,h1,λF' s e=>.dct e h2 (h3.mono s)⟩
 | k es=>obtain⟨vs,h1,h2,h3⟩:=h;exact⟨_,h1,λF' s e=>.dck e h2 (h3.mono s)⟩
 | i x ns ds=>cases hI
theorem StOk.store(S:StOk K G F σ H ρ){j:Nat}{v:V}{av:AV}(hj:∀c,ρ[j]? ≠ some (some (.op c)))(hl:j<ρ.length)
  (h:(∃d,av=.fz d/\Rep K F v d)\/∃c,av=.ol c/\RVR K G F σ H ρ v (.fr c)):StOk K G F (σ.set j (some v)) H (ρ.set j (some av)):=by
 have hls:j<σ.length:=by rw[S.ln];exact hl
 have ne:∀i,i≠j->(ρ.set j (some av))[i]? = ρ[i]?:=λi hi=>List.getElem?_set_ne (Ne.symm hi)
 have nes:∀i,i≠j->(σ.set j (some v))[i]? = σ[i]?:=λi hi=>List.getElem?_set_ne (Ne.symm hi)
 have atj:(ρ.set j (some av))[j]? = some (some av):=List.getElem?_set_self hl
 have atjs:(σ.set j (some v))[j]? = some (some v):=List.getElem?_set_self hls
 have owni:∀i c,i≠j->own (ρ.set j (some av)) i c->own ρ i c:=λi c hi h=>by
  unfold own at h ⊢
  rw[ne i hi]at h
  exact h
 refine⟨S.fh,S.oh,S.fo,by simpa using S.ln,λi d q=>?_,λi c q=>?_,λi k c e a q1 q2 e1 e2=>?_,λi a q=>?_,λi c q=>?_,S.fb⟩
 ·by_cases hi:i=j
  ·subst hi
   rw[atj]at q
   rcases h with ⟨d',rfl,r⟩|⟨c,rfl,_⟩
   ·cases q;exact⟨v,atjs,r⟩
   ·cases q
  ·rw[ne i hi]at q
   obtain⟨w,e,r⟩:=S.fz i d q
   exact⟨w,by rw[nes i hi];exact e,r⟩
 ·by_cases hi:i=j
  ·subst hi
   rcases h with ⟨d',rfl,r⟩|⟨c',rfl,a,rfl,oa,_⟩
   ·rcases q with q|q<;>(rw[atj]at q;cases q)
   ·rcases q with q|q
    ·rw[atj]at q;cases q;exact⟨a,atjs,oa⟩
    ·rw[atj]at q;cases q
  ·obtain⟨a,e,oa⟩:=S.ow i c (owni i c hi q)
   exact⟨a,by rw[nes i hi];exact e,oa⟩
 ·by_cases hi:i=j
  ·by_cases hk:k=j
   ·rw[hi,hk]
   ·exfalso
    subst hi
    rw[nes k hk]at e2
    rw[atjs]at e1
    injection e1 with e1;injection e1 with e1
    subst e1
    rcases h with ⟨d',rfl,r⟩|⟨c',rfl,a',e,oa,nn⟩
    ·rcases q1 with q|q<;>(rw[atj]at q;cases q)
    ·injection e with e;subst e
     exact nn k _ (owni k _ hk q2) e2
  ·by_cases hk:k=j
   ·exfalso
    subst hk
    rw[nes i hi]at e1
    rw[atjs]at e2
    injection e2 with e2;injection e2 with e2
    subst e2
    rcases h with ⟨d',rfl,r⟩|⟨c',rfl,a',e,oa,nn⟩
    ·rcases q2 with q|q<;>(rw[atj]at q;cases q)
    ·injection e with e;subst e
     exact nn i _ (owni i _ hi q1) e1
   ·rw[nes i hi]at e1
    rw[nes k hk]at e2
    exact S.dj i k _ _ a (owni i _ hi q1) (owni k _ hk q2) e1 e2
 ·obtain⟨q1,c,q2⟩:=S.pp i a q
  have hi:i≠j:=by rintro rfl;exact hj c q2
  exact⟨by rw[nes i hi];exact q1,c,by rw[ne i hi];exact q2⟩
 ·have hi:i≠j:=by
   rintro rfl
   rw[atj]at q
   rcases h with ⟨d',rfl,r⟩|⟨c',rfl,_⟩<;>cases q
  rw[ne i hi]at q
  exact S.pq i c q
theorem StOk.change(S:StOk K G F σ H ρ){j:Nat}{a:Addr}{c c':OC}{o:HO}(hj:own ρ j c)(ha:σ[j]? = some (some (.ref a)))(hh:Held K F (upd H a o) a c') :
  StOk K G F σ (upd H a o) (ρ.set j ((ρ[j]?.join).map fun | .op _=>.op c'|_=>.ol c')):=by
 obtain⟨b,e,ob⟩:=S.ow j c hj
 rw[ha]at e
 injection e with e;injection e with e;injection e with e
 subst e
 have hl:j<ρ.length:=by rcases hj with h|h<;>exact(List.getElem?_eq_some_iff.mp h).1
 generalize hav:((ρ[j]?.join).map λ(x:AV)=>match x with | .op _=>AV.op c'|_=>AV.ol c')=av
 have ne:∀i,i≠j->(ρ.set j av)[i]? = ρ[i]?:=λi hi=>List.getElem?_set_ne (Ne.symm hi)
 have atj:(ρ.set j av)[j]? = some av:=List.getElem?_set_self hl
 have owni:∀i e,i≠j->own (ρ.set j av) i e->own ρ i e:=λi c hi h=>by
  unfold own at h ⊢
  rw[ne i hi]at h
  exact h
 have kind:(ρ[j]? = some (some (.ol c))/\av=some (.ol c'))\/(ρ[j]? = some (some (.op c))/\av=some (.op c')):=by
  rcases hj with h|h
  ·exact .inl ⟨h,by rw[<-hav,h];rfl⟩
  ·exact .inr ⟨h,by rw[<-hav,h];rfl⟩
 have ownj:∀e,own (ρ.set j av) j e->e=c':=λe h=>by
  unfold own at h
  rw[atj]at h
  rcases kind with ⟨_,k⟩|⟨_,k⟩<;>rw[k]at h<;>rcases h with h|h<;>cases h<;>rfl
 refine⟨yK_ S.fh ob.nf,yK_ S.oh ob.no,S.fo,by simpa using S.ln,λi d q=>?_,λi e q=>?_,λi k c1 e1 b q1 q2=>?_,λi b q=>?_,λi e q=>?_,S.fb⟩
 ·by_cases hi:i=j
  ·subst hi
   rw[atj]at q
   rcases kind with ⟨_,k⟩|⟨_,k⟩<;>rw[k]at q<;>cases q
  ·rw[ne i hi]at q;exact S.fz i d q
 ·by_cases hi:i=j
  ·subst hi
   have:=ownj e q
   subst this
   exact⟨a,ha,ob.nf,ob.no,hh⟩
  ·have q':=owni i e hi q
   obtain⟨b',e',ob'⟩:=S.ow i e q'
   refine⟨b',e',ob'.nf,ob'.no,ob'.he.at (zo_ λz=>hi (S.dj i j _ _ a q' hj (by rw[e',z]) ha))⟩
 ·have o1:∃e,own ρ i e:=by
   by_cases hi:i=j
   ·exact⟨c,hi▸hj⟩
   ·exact⟨_,owni i _ hi q1⟩
  have o2:∃e,own ρ k e:=by
   by_cases hk:k=j
   ·exact⟨c,hk▸hj⟩
   ·exact⟨_,owni k _ hk q2⟩
  exact S.dj i k _ _ b o1.choose_spec o2.choose_spec
 ·obtain⟨q1,e,q2⟩:=S.pp i b q
  refine⟨q1,?_⟩
  by_cases hi:i=j
  ·subst hi
   rcases kind with ⟨k1,k⟩|⟨k1,k⟩
   ·rw[k1]at q2;cases q2
   ·exact⟨c',by rw[atj,k]⟩
  ·exact⟨e,by rw[ne i hi];exact q2⟩
 ·by_cases hi:i=j
  ·subst hi
   rcases kind with ⟨k1,k⟩|⟨k1,k⟩
   ·rw[atj,k]at q;cases q
   ·exact S.pq i c k1
  ·rw[ne i hi]at q;exact S.pq i e q
end
end L3
namespace L4
open PySem PySem.Spec PyProof.Rows L2 L3
def TbOf(h:Heap)(e b:Addr):Prop:=∃oe vs,h.get? e=some oe/\oe.data=.fields vs/\vs[1]? = some (.ref b)
structure Ent(fs:List Addr)(h h':Heap)(e T:Addr)(oe:Obj)(ts:Array Value):Prop where
 keep:∀b o,h.get? b=some o->b∉fs->b≠e->h'.get? b=some o
 slot:∀b o,h.get? b=some o->b≠e->∃sl,h'.get? b=some { o with slots:=sl }
 new:h.objs.size<=T
 exc:h'.get? e=some (oe.mapFields (·.setIfInBounds 1 (.ref T)))
 way:∃oT,h'.get? T=some oT/\oT.data=.fields ts
section
variable {M:Model}{A:Around}{E:Value->Shared->Prop}{s:Shared}{base:Heap}{env:Env}{outer:List Env}{L e:Addr}{oe:Obj}{vs:Array Value}
theorem J3_{top:Value}{nx:Bool}{Q:Unit->Shared->Prop}(hA:A.frames=some (env::outer))(hF:s.heap.FunFrames base (env::outer))(hL:env.frame=some L)
  (he:s.heap.get? e=some oe) (hd:oe.data=.fields vs) (hz:1<vs.size)
  (k:∀h' T ts,Ent (frs (env::outer)) s.heap h' e T oe ts->3<ts.size->ts[3]? = some (rawInt L)->Q () { s with heap:=h' }) :
  wpAny M A (do let a <-frameOf env;let pl <-entryPlaceOf L nx;let b <-EntryCells.newEntry top a .none (rawInt L) .none pl;setField (.ref e) 1 b) Q E s:=by
 have ne:e∉frs (env::outer):=λz=>by
  obtain⟨_,o,q,r⟩:=hF.mem z
  rw[he]at q;cases q
  exact r vs hd
 refine zza (wpAny_frameOf_fun hA hF hL λh1 so=>zza (wpAny_entryPlaceOf λpl ip=>?_))
 simp only[EntryCells.newEntry,newFields]
 refine zza (wpAny_newObj_type ?_ (ip.sizeOk5 _ _ _ _ _))
 generalize hts:([top,.ref L,.none,rawInt L,.none]++(if pl.isEmpty then List.replicate 6 Value.none else pl)).toArray=ts
 have z3:3<ts.size:=by
  rw[<-hts,List.size_toArray,List.length_append]
  simp only[List.length_cons,List.length_nil]
  lia
 have g3:ts[3]? = some (rawInt L):=by rw[<-hts];simp
 generalize htb:({ cls:=.type "traceback",dict:=none,data:=.fields ts }:Obj)=tb
 have fr:tb.isFreed=false:=by rw[<-htb];rfl
 have e1:h1.get? e=some oe:=by rw[so.2.1 e ne];exact he
 have lt:e<h1.objs.size:=Heap.lt_size e1
 refine wpAny_setField (zzc tb e1) hd hz ?_
 have hd':=Obj.data_mapFields hd (·.setIfInBounds 1 (Value.ref h1.objs.size))
 have up:∀b,b≠e->((h1.push tb).update e (Obj.mapFields (·.setIfInBounds 1 (.ref h1.objs.size)))).get? b=(h1.push tb).get? b:=λb hb=>Heap.get?_update_other _ _ (Ne.symm hb)
 refine k _ h1.objs.size ts ⟨λb o q nf nb=>?_,λb o q nb=>?_,by rw[so.1];exact Nat.le_refl _,?_,⟨tb,?_,?_⟩⟩ z3 g3
 ·exact(up b nb).trans (zzc _ ((so.2.1 b nf).trans q))
 ·obtain⟨sl,q'⟩:=so.2.2 b o q
  exact⟨sl,(up b nb).trans (zzc _ q')⟩
 ·exact Heap.get?_update_self _ (zzc tb e1) (Obj.isFreed_of_fields hd')
 ·exact(up _ (Nat.ne_of_gt lt)).trans (zze h1 fr)
 ·rw[<-htb]
end
structure XS(H:Hp)(h:Heap)(lo:Nat)(e C:Addr)(dd:Option Addr):Prop where
 yg:lo<=e
 trk:H e=some (.ext (XO e C dd))
 obj:∃oe vs,h.get? e=some oe/\oe.cls=.ref C/\oe.dict=dd/\oe.data=.fields vs/\1<vs.size /\
  (vs[1]? = some .none\/∃T oT ts,vs[1]? = some (.ref T)/\T≠e/\lo<=T/\H T=none/\h.get? T=some oT/\oT.data=.fields ts/\ts[3]? = some .none)
structure Mv(fs:List Addr)(h h':Heap)(e:Addr):Prop where
 keep:∀b o,h.get? b=some o->b∉fs->b≠e->¬ TbOf h e b->h'.get? b=some o
 slot:∀b o,h.get? b=some o->b≠e->¬ TbOf h e b->∃sl,h'.get? b=some { o with slots:=sl }
 there:∀b o,h.get? b=some o->∃o',h'.get? b=some o'
theorem WJ_(f:Array Value->Array Value)(o:Obj):(o.mapFields f).dict=o.dict:=by
 obtain⟨c,d,dt,sl⟩:=o
 cases dt<;>rfl
theorem zeo_{L:Addr}:¬ ((Value.none==rawInt L)=true):=by simp[rawInt]
section
variable {M:Model}{A:Around}{E:Value->Shared->Prop}{s:Shared}{base:Heap}{env:Env}{outer:List Env}{L e C:Addr}{dd:Option Addr}{H:Hp}{lo:Nat}{P:Program}{w:World}
theorem J1_{oe:Obj}{vs:Array Value}{h0:Heap}{T:Addr}{ts:Array Value}{Q:Unit->Shared->Prop}(en:Ent (frs (env::outer)) h0 s.heap e T oe ts)(hd:oe.data=.fields vs)(hz:1<vs.size)(z3:3<ts.size)(hh:e<h0.objs.size)
  (k:∀h',(∀b,b≠T->h'.get? b=s.heap.get? b)->(∃oT tz,h'.get? T=some oT/\oT.data=.fields tz/\tz[3]? = some .none)->Q () { s with heap:=h' }):wpAny M A (setFlight (.ref e) none) Q E s:=by
 obtain⟨oT,q1,q2⟩:=en.way
 have d':=Obj.data_mapFields hd (·.setIfInBounds 1 (Value.ref T))
 simp only[setFlight]
 refine zza (wpAny_field en.exc d' (x:=.ref T) (by simp[hz]) ?_)
 rw[if_pos (by simp)]
 refine wpAny_setField q1 q2 z3 (k _ (λb hb=>Heap.get?_update_other _ _ (Ne.symm hb)) ⟨_,_,Heap.get?_update_self _ q1 (Obj.isFreed_of_fields (Obj.data_mapFields q2 _)),Obj.data_mapFields q2 _,by simp[z3]⟩)
theorem Xx_{Q:Unit->Shared->Prop}(hA:A.frames=some (env::outer))(hF:s.heap.FunFrames base (env::outer))(hL:env.frame=some L)(hk:HOk P w H s.heap)(xs:XS H s.heap lo e C dd)
  (k:∀h',Mv (frs (env::outer)) s.heap h' e->XS H h' lo e C dd->(∀b,TbOf h' e b->s.heap.objs.size<=b)->Q () { s with heap:=h' }) :
  wpAny M A (noteFrame (.ref e) env) (λ_ s2=>wpAny M A (setFlight (.ref e) none) Q E s2) E s:=by
 obtain⟨oe,vs,he,hc,hdd,hd,hz,tb⟩:=xs.obj
 have elt:e<s.heap.objs.size:=Heap.lt_size he
 have hlo:lo<=s.heap.objs.size:=Nat.le_trans xs.yg (Nat.le_of_lt elt)
 simp only[noteFrame,hL]
 rcases tb with tb|⟨T,oT,ts,tb,hTe,hTl,hTn,hT,hTd,t3⟩
 ·refine zza (wpAny_field he hd tb ?_)
  rw[if_neg (by decide)]
  refine J3_ hA hF hL he hd hz λh1 T1 t1 en z3 g3=>?_
  refine J1_ (s:={ s with heap:=h1 }) en hd hz z3 elt λh2 same way=>?_
  have nT:∀b o,s.heap.get? b=some o->b≠T1:=λb o q=>Nat.ne_of_lt (Nat.lt_of_lt_of_le (Heap.lt_size q) en.new)
  have d1:=Obj.data_mapFields hd (·.setIfInBounds 1 (Value.ref T1))
  refine k h2 ⟨λb o q nf nb _=>?_,λb o q nb _=>?_,λb o q=>?_⟩ ⟨xs.yg,xs.trk,_,_,?_,?_,?_,d1,by simpa using hz,.inr ?_⟩ ?_
  ·rw[same b (nT b o q)];exact en.keep b o q nf nb
  ·obtain⟨sl,z⟩:=en.slot b o q nb
   exact⟨sl,by rw[same b (nT b o q)];exact z⟩
  ·by_cases nb:b=e
   ·subst nb;exact⟨_,by rw[same _ (nT _ o q)];exact en.exc⟩
   ·obtain⟨sl,z⟩:=en.slot b o q nb
    exact⟨_,by rw[same b (nT b o q)];exact z⟩
  ·rw[same e (nT e _ he)];exact en.exc
  ·rw[Obj.cls_mapFields];exact hc
  ·rw[WJ_];exact hdd
  ·obtain⟨o1,tz,w1,w2,w3⟩:=way
   exact⟨T1,o1,tz,by simp[hz],λz=>nT e _ he z.symm,Nat.le_trans hlo en.new,hk.fresh en.new,w1,w2,w3⟩
  ·intro b ⟨oe',vs',g1,g2,g3⟩
   rw[same e (nT e _ he),en.exc]at g1
   cases g1
   rw[d1]at g2
   cases g2
   have:Value.ref T1=Value.ref b:=by simpa[hz]using g3
   injection this with this
   rw[<-this]
   exact en.new
 ·refine zza (wpAny_field he hd tb ?_)
  rw[if_pos (by simp)]
  refine zza (wpAny_field hT hTd t3 ?_)
  rw[if_neg zeo_]
  have z3':3<ts.size:=(Array.getElem?_eq_some_iff.mp t3).1
  refine zza (wpAny_setField hT hTd z3' ?_)
  have off:∀b,b≠T->(s.heap.update T (Obj.mapFields (·.setIfInBounds 3 Value.none))).get? b=s.heap.get? b:=λb hb=>Heap.get?_update_other _ _ (Ne.symm hb)
  have hF':(s.heap.update T (Obj.mapFields (·.setIfInBounds 3 Value.none))).FunFrames base (env::outer):=hF.of_keeps λb o q r=>⟨o,(off b λz=>by subst z;rw[hT]at q;cases q;exact r ts hTd).trans q,rfl⟩
  have he':(s.heap.update T (Obj.mapFields (·.setIfInBounds 3 Value.none))).get? e=some oe:=(off e (Ne.symm hTe)).trans he
  have zz:(s.heap.update T (Obj.mapFields (·.setIfInBounds 3 Value.none))).objs.size=s.heap.objs.size:=Heap.size_update ..
  refine J3_ (s:={ s with heap:=s.heap.update T (Obj.mapFields (·.setIfInBounds 3 Value.none)) }) hA hF' hL he' hd hz λh1 T1 t1 en z3 g3=>?_
  refine J1_ (s:={ s with heap:=h1 }) en hd hz z3 (by rw[zz];exact elt) λh2 same way=>?_
  have nw:s.heap.objs.size<=T1:=by have:=en.new;rw[zz]at this;exact this
  have nT:∀b o,s.heap.get? b=some o->b≠T1:=λb o q=>Nat.ne_of_lt (Nat.lt_of_lt_of_le (Heap.lt_size q) nw)
  have isT:TbOf s.heap e T:=⟨oe,vs,he,hd,tb⟩
  have nTT:∀b,¬ TbOf s.heap e b->b≠T:=λb z q=>z (q▸isT)
  have d1:=Obj.data_mapFields hd (·.setIfInBounds 1 (Value.ref T1))
  have T0:(s.heap.update T (Obj.mapFields (·.setIfInBounds 3 Value.none))).get? T=some (oT.mapFields (·.setIfInBounds 3 Value.none)):=Heap.get?_update_self _ hT (Obj.isFreed_of_fields (Obj.data_mapFields hTd _))
  refine k h2 ⟨λb o q nf nb nt=>?_,λb o q nb nt=>?_,λb o q=>?_⟩ ⟨xs.yg,xs.trk,_,_,?_,?_,?_,d1,by simpa using hz,.inr ?_⟩ ?_
  ·rw[same b (nT b o q)];exact en.keep b o ((off b (nTT b nt)).trans q) nf nb
  ·obtain⟨sl,z⟩:=en.slot b o ((off b (nTT b nt)).trans q) nb
   exact⟨sl,by rw[same b (nT b o q)];exact z⟩
  ·by_cases nb:b=e
   ·subst nb;exact⟨_,by rw[same _ (nT _ o q)];exact en.exc⟩
   ·by_cases nt:b=T
    ·subst nt
     obtain⟨sl,z⟩:=en.slot b _ T0 nb
     exact⟨_,by rw[same b (nT b o q)];exact z⟩
    ·obtain⟨sl,z⟩:=en.slot b o ((off b nt).trans q) nb
     exact⟨_,by rw[same b (nT b o q)];exact z⟩
  ·rw[same e (nT e _ he)];exact en.exc
  ·rw[Obj.cls_mapFields];exact hc
  ·rw[WJ_];exact hdd
  ·obtain⟨o1,tz,w1,w2,w3⟩:=way
   exact⟨T1,o1,tz,by simp[hz],λz=>nT e _ he z.symm,Nat.le_trans hlo nw,hk.fresh nw,w1,w2,w3⟩
  ·intro b ⟨oe',vs',g1,g2,g3⟩
   rw[same e (nT e _ he),en.exc]at g1
   cases g1
   rw[d1]at g2
   cases g2
   have:Value.ref T1=Value.ref b:=by simpa[hz]using g3
   injection this with this
   rw[<-this]
   exact nw
theorem Vk_{Q:Unit->Shared->Prop}(hA:A.frames=some (env::outer))(hF:s.heap.FunFrames base (env::outer))(hL:env.frame=some L)(hk:HOk P w H s.heap)(xs:XS H s.heap lo e C dd)
  (k:∀h',Mv (frs (env::outer)) s.heap h' e->XS H h' lo e C dd->Q () { s with heap:=h' }):wpAny M A (leaving env (.ref e)) Q E s:=by
 unfold leaving
 exact zza (Xx_ hA hF hL hk xs λh' m x _=>k h' m x)
end
section
variable {fs:List Addr}{h h':Heap}{e C:Addr}{dd:Option Addr}{H:Hp}{lo:Nat}{P:Program}{w:World}
theorem XO.ok{H':Hp}(x:XO e C dd h):ObjOk P w H' h e (.ext (XO e C dd)):=by
 obtain⟨oe,q,r⟩:=x
 exact⟨⟨oe,q,r⟩,⟨oe,q⟩,λh1 h2 ⟨o,z,r⟩ k=>⟨o,k o z,r⟩⟩
theorem XS.xo(xs:XS H h lo e C dd):XO e C dd h:=by
 obtain⟨oe,vs,q,c,d,z,_⟩:=xs.obj
 exact⟨oe,q,c,d,by unfold PySem.W.notCls;rw[z]⟩
theorem XS.tb(xs:XS H h lo e C dd){b:Addr}(t:TbOf h e b):H b=none/\lo<=b/\b≠e/\∃oT ts,h.get? b=some oT/\oT.data=.fields ts:=by
 obtain⟨oe,vs,q,c,d,z,_,k⟩:=xs.obj
 obtain⟨oe',vs',q',z',k'⟩:=t
 rw[q]at q';cases q'
 rw[z]at z';cases z'
 rcases k with k|⟨T,oT,ts,k,ne,l,n,g,gd,_⟩
 ·rw[k]at k';cases k'
 ·rw[k]at k'
  cases k'
  exact⟨n,l,ne,oT,ts,g,gd⟩
theorem Mv.hok(m:Mv fs h h' e)(ok:HOk P w H h)(xs:XS H h lo e C dd)(xs':XS H h' lo e C dd)(hf:∀b∈fs,H b=none):HOk P w H h':=λa o q=>by
 by_cases ae:a=e
 ·subst ae
  rw[xs.trk]at q;cases q
  exact xs'.xo.ok
 ·refine(ok a o q).stay (λb u hb z=>?_) (λ_ z=>z) λ_ _ z=>z
  have hbH:∃v,H b=some v:=by
   rcases hb with rfl|hb
   ·exact⟨o,q⟩
   ·exact⟨_,hb⟩
  obtain⟨v,hv⟩:=hbH
  refine m.keep b u z (λy=>by rw[hf b y]at hv;cases hv) (λy=>?_) λy=>by rw[(xs.tb y).1]at hv;cases hv
  subst y
  rcases hb with rfl|hb
  ·exact ae rfl
  ·rw[xs.trk]at hb;cases hb
end
def CX1(P:Program)(w:World):CXT:=λouter H s E e s'=>∃a C dd H',e=.ref a/\s'.os=s.os/\AllBare s'.gens/\Un (frs outer) [] H H' s.heap s'.heap/\HOk P w H' s'.heap/\XS H' s'.heap s.heap.objs.size a C dd/\E (.ref C) dd H'
theorem zbk_{P:Program}{w:World}{K:Fg}{mg:Str->Option Value}{base:Heap}{N:List Str}{qual:Str}{scope:Scope}{f:Addr}{cd:Value}{A:Around}{outer:List Env}{s:Shared}{H:Hp}{E:XK}
  {pins:List (Addr×Obj)} {σ:L2.St} {H':Hp} {s':Shared} {a C:Addr} {dd:Option Addr} (I:Inv (cxOf (CX1 P w) P w K mg base N qual scope f cd A outer s H E) pins σ H' s') (xs:XS H' s'.heap s.heap.objs.size a C dd) (hE:E (.ref C) dd H') :
  (cxOf (CX1 P w) P w K mg base N qual scope f cd A outer s H E).xe (.ref a) s':=by
 have hF:=I.stack
 have hS:=I.stkFree
 refine Vk_ (base:=base) (L:=s.heap.objs.size) (P:=P) (w:=w) (s:=s') I.ok.frames hF rfl I.hok xs λh1 m xs1=>?_
 have un:Un (frs outer) [] H H' s.heap s'.heap:=I.base
 have lt:∀b o,s.heap.get? b=some o->b<s.heap.objs.size:=λb o q=>Heap.lt_size q
 have ne:∀b o,s.heap.get? b=some o->b≠a:=λb o q=>Nat.ne_of_lt (Nat.lt_of_lt_of_le (lt b o q) xs.yg)
 have nt:∀b o,s.heap.get? b=some o->¬ TbOf s'.heap a b:=λb o q z=>absurd (Nat.lt_of_lt_of_le (lt b o q) (xs.tb z).2.1) (Nat.lt_irrefl _)
 refine⟨a,C,dd,H',rfl,I.os,I.bare,⟨λb o q n hb hx=>?_,λb o q n hb hx=>?_,un.free,λb o q hx=>?_,un.tups,un.frzs,un.tbls⟩,m.hok I.hok xs xs1 hS,xs1,hE⟩
 ·refine m.keep b o (un.keep b o q n hb hx) (λz=>?_) (ne b o q) (nt b o q)
  rcases List.mem_cons.mp (I.stkSub b z)with y|y
  ·exact absurd (lt b o q) (by rw[y];exact Nat.lt_irrefl _)
  ·exact hb y
 ·obtain⟨sl,z⟩:=un.slot b o q n hb hx
  obtain⟨sl',z'⟩:=m.slot b _ z (ne b o q) (nt b o q)
  exact⟨sl',z'⟩
 ·obtain⟨o',z⟩:=un.there b o q hx
  exact m.there b o' z
end L4
namespace L4
open PySem PySem.Spec PyProof.Rows L2 L3 PySem.W
section
variable {prog:Program}{w:World}{A:Around}{E:Value->Shared->Prop}{s:Shared}{K:Frag}{x C D:Addr}{ox:Obj}{name:Str}{v:Value}{Q:Unit->Shared->Prop}
theorem Xh_{cd:ClassData}{bmB:List Value}(X:K.In s.heap)(hx:s.heap.get? x=some ox)(hc:ox.cls=.ref C)(hn:notCls ox=true)(hdn:ox.dict=none)(hs:findIn K (.ref C) "__setattr__" = some (some (.builtin "object.__setattr__")))
  (hcd:clsIn K C=some cd) (hm:cd.mro=.ref C::.ref D::[.type "ValueError",.type "Exception",.type "BaseException",.type "object"]) (hd:cd.hasDict=true) (hna:findIn K (.ref C) name=some none)
  (h:∀h' dx tk,s.heap.objs.size<=dx->h'.Ns1 dx (λy=>if y=name then some v else none)->h'.get? x=some { ox with dict:=some dx }->(∀b o,b≠x->s.heap.get? b=some o->h'.get? b=some o)->Q () { s with heap:=h',toks:=tk }) :
  wpAny (model prog w) A (setAttr (.ref x) name v) Q E s:=by
 obtain⟨hp,g,d,t,os⟩:=s
 obtain⟨oc,odi,oda,osl⟩:=ox
 dsimp only at hc hdn
 subst hc hdn
 have I:PySem.W.InstAt hp x ⟨.ref C,none,oda,osl⟩ C none:=⟨hx,rfl,hn,trivial⟩
 refine PySem.W.set_plain X I hs ?_
 have SF:=F.store_ValueError
 have L0:=I.type (M:=model prog w)
 have L1:=looks_findIn (M:=model prog w) X hna
 have L4:=looks_mroIn (M:=model prog w) (r:=true) X (C:=C) (base:=.type "object") (by unfold mroIn;rw[hcd,Option.bind_some,hm];rfl)
 have LC:=looks_clsIn (M:=model prog w) X hcd
 have pass:=SF.passes (.ref x)
 have ok:=SF.args (.ref x) (.str name t) v
 refine codeAny_call_builtin SF.slot.plain SF.entry ?_
 simp only[checkBuiltinCall,SF.kind,SF.split]
 refine zza ?_
 unfold isInstance
 refine zza (L0.at (L4.at ?_))
 have LM:Looks (model prog w) hp (mroOf (.ref C)) cd.mro:=(looks_clsIn X hcd).andThen .now
 rw[if_neg (by decide)]
 have run:∀A',wpAny (model prog w) A' (Builtin.«object.__setattr__» { pos:=[Value.ref x,Value.str name t,v] }) (λfin s'=>∃f,fin=.done (.ret f)/\Q () s') E ⟨hp,g,d,t+1,os⟩:=by
  intro A'
  unfold Builtin.«object.__setattr__»
  repeat (first|rw[refuse_eq]|with_reducible refine LM.at ?_|(rw[hm,refuseLoop_ref,refuseLoop_ref,pass])|with_reducible refine L0.at ?_|with_reducible refine L1.at ?_|(with_reducible refine LC.at ?_;rw[hd])|wp_step)
  have fin:wpAny (model prog w) A' (do
    let d <-alloc { cls:=Value.type "dict",data:=Data.dict #[] }
    update x λo=>{ cls:=o.cls,dict:=some d,data:=o.data,slots:=o.slots }
    dictMade (.ref C) x d)
    (λa s'=>wpAny (model prog w) A' (match a with
     | some d=>Builtin.ObjectAttr.storeInDict d (Value.str name t) name v
     | none=>Builtin.ObjectAttr.noDictFor (Value.ref x) (Value.ref C) name (none:Option Value).isSome) (λfin s'=>∃f,fin=Fin.done (Flow.ret f)/\Q () s') E s') E ⟨hp,g,d,t+1,os⟩:=by
   refine zza (wpAny_alloc' (zza (wpAny_update' (zzc _ hx) (zzb ?_))))
   have xs:x≠hp.objs.size:=Nat.ne_of_lt (Heap.lt_size hx)
   show wpAny _ _ (Builtin.ObjectAttr.storeInDict hp.objs.size (.str name t) name v) _ _ _
   have e0:((hp.push { cls:=.type "dict",data:=.dict #[] }).update x λo=>{ cls:=o.cls,dict:=some hp.objs.size,data:=o.data,slots:=o.slots }).get? hp.objs.size=some { cls:=.type "dict",data:=.dict #[] }:=by
    rw[Heap.get?_update_other _ _ xs];exact zze hp rfl
   have n0:((hp.push { cls:=.type "dict",data:=.dict #[] }).update x λo=>{ cls:=o.cls,dict:=some hp.objs.size,data:=o.data,slots:=o.slots }).Ns hp.objs.size (λ_=>none):=⟨_,#[],_,e0,rfl,λe he=>absurd he (by simp),λ_=>rfl⟩
   unfold Builtin.ObjectAttr.storeInDict Builtin.ObjectAttr.newKeyGuard
   refine zza (zzb (zza (wpAny_nsSet1 (Heap.Ns1.of_empty n0) λh' n1 sb=>?_)))
   obtain⟨oD,esD,epD,q1,q2,q3⟩:=n1.count (PySem.Within.cons name v PySem.Within.nil)
   refine zza (wpAny_lookBehind q1 (by rw[q2];exact pastItsLine_dict (Nat.le_trans q3 (show 1<=sizeLine+1 from by decide))) (zzb ⟨_,rfl,?_⟩))
   refine h h' hp.objs.size _ (Nat.le_refl _) n1 ?_ λb o nb q=>?_
   ·rw[sb.2 x xs]
    refine Heap.get?_update_self _ (zzc _ hx) ?_
    have fr:=(Heap.get?_some_iff.mp hx).2
    cases oda<;>first|rfl|exact fr
   ·rw[sb.2 b (Nat.ne_of_lt (Heap.lt_size q)),Heap.get?_update_other _ _ (Ne.symm nb)]
    exact zzc _ q
  cases oda<;>first|exact fin|cases hn
 have fin:wpAny (model prog w) A.in1 (Builtin.«object.__setattr__» { pos:=[Value.ref x,Value.str name t,v] }) (λfin s'=>match fin with
   | .done f=>(match (Except.ok f:Result)with | .ok (.ret v)=>Q () s' | .ok a=>False | .error e=>E e s')
   | .again c'=>c'.quiet=true/\codeAny (model prog w) A c' (λr s'=>match r with | .ok (.ret v)=>Q () s' | .ok a=>False | .error e=>E e s') s') E ⟨hp,g,d,t+1,os⟩ :=
  wpAny_mono (run _) (λf s' z=>by obtain⟨u,rfl,q⟩:=z;exact q) λ_ _ z=>z
 cases hsig:Manifest.signature? "object.__setattr__" with
 | none=>exact zzb fin
 | some sig =>
  simp only[argsOk,hsig]at ok
  show wpAny _ _ (Bind.checkArgs "object.__setattr__" sig ⟨[.ref x,.str name t,v],[]⟩) _ _ _
  rw[show Bind.checkArgs "object.__setattr__" sig ⟨[.ref x,.str name t,v],[]⟩=pure ()from ok]
  exact zzb fin
theorem Xg_{cd:ClassData}{dx:Addr}{mA:Str->Option Value}{ns:List Str}(X:K.In s.heap)(hx:s.heap.get? x=some ox)(hc:ox.cls=.ref C)(hn:notCls ox=true)(hdn:ox.dict=some dx)(hne:dx≠x)(hA:s.heap.Ns1 dx mA)(hw:PySem.Within mA ns)(hz:ns.length<=1000)(hs:findIn K (.ref C) "__setattr__" = some (some (.builtin "object.__setattr__")))
  (hcd:clsIn K C=some cd) (hm:cd.mro=.ref C::.ref D::[.type "ValueError",.type "Exception",.type "BaseException",.type "object"]) (hd:cd.hasDict=true) (hna:findIn K (.ref C) name=some none)
  (h:∀h' tk,h'.Ns1 dx (λy=>if y=name then some v else mA y)->(∀b o,b≠dx->s.heap.get? b=some o->h'.get? b=some o)->Q () { s with heap:=h',toks:=tk }) :
  wpAny (model prog w) A (setAttr (.ref x) name v) Q E s:=by
 obtain⟨hp,g,d,t,os⟩:=s
 obtain⟨oc,odi,oda,osl⟩:=ox
 dsimp only at hc hdn
 subst hc hdn
 obtain⟨od,qd⟩:∃od,hp.get? dx=some od:=by obtain⟨o,_,_,q,_⟩:=hA;exact⟨o,q⟩
 have I:PySem.W.InstAt hp x ⟨.ref C,some dx,oda,osl⟩ C (some od):=⟨hx,rfl,hn,qd⟩
 refine PySem.W.set_plain X I hs ?_
 have SF:=F.store_ValueError
 have L0:=I.type (M:=model prog w)
 have L1:=looks_findIn (M:=model prog w) X hna
 have L4:=looks_mroIn (M:=model prog w) (r:=true) X (C:=C) (base:=.type "object") (by unfold mroIn;rw[hcd,Option.bind_some,hm];rfl)
 have LC:=looks_clsIn (M:=model prog w) X hcd
 have pass:=SF.passes (.ref x)
 have ok:=SF.args (.ref x) (.str name t) v
 refine codeAny_call_builtin SF.slot.plain SF.entry ?_
 simp only[checkBuiltinCall,SF.kind,SF.split]
 refine zza ?_
 unfold isInstance
 refine zza (L0.at (L4.at ?_))
 have LM:Looks (model prog w) hp (mroOf (.ref C)) cd.mro:=(looks_clsIn X hcd).andThen .now
 rw[if_neg (by decide)]
 have run:∀A',wpAny (model prog w) A' (Builtin.«object.__setattr__» { pos:=[Value.ref x,Value.str name t,v] }) (λfin s'=>∃f,fin=.done (.ret f)/\Q () s') E ⟨hp,g,d,t+1,os⟩:=by
  intro A'
  have st:wpAny (model prog w) A' (Builtin.ObjectAttr.storeInDict dx (.str name t) name v) (λfin s'=>∃f,fin=.done (.ret f)/\Q () s') E ⟨hp,g,d,t+1,os⟩:=by
   unfold Builtin.ObjectAttr.storeInDict Builtin.ObjectAttr.newKeyGuard
   refine zza (zzb (zza (wpAny_nsSet1 hA λh' n1 sb=>?_)))
   obtain⟨oD,esD,epD,q1,q2,q3⟩:=n1.count (PySem.Within.cons name v hw)
   refine zza (wpAny_lookBehind q1 (by rw[q2];exact pastItsLine_dict (Nat.le_trans q3 (Nat.le_trans (Nat.succ_le_succ hz) (show 1001<=sizeLine+1 from by decide)))) (zzb ⟨_,rfl,?_⟩))
   exact h h' _ n1 λb o nb q=>(sb.2 b nb).trans q
  unfold Builtin.«object.__setattr__»
  repeat (first|with_reducible exact st|rw[refuse_eq]|with_reducible refine LM.at ?_|(rw[hm,refuseLoop_ref,refuseLoop_ref,pass])|with_reducible refine L0.at ?_|with_reducible refine L1.at ?_|(with_reducible refine LC.at ?_;rw[hd])|wp_step)
 have fin:wpAny (model prog w) A.in1 (Builtin.«object.__setattr__» { pos:=[Value.ref x,Value.str name t,v] }) (λfin s'=>match fin with
   | .done f=>(match (Except.ok f:Result)with | .ok (.ret v)=>Q () s' | .ok a=>False | .error e=>E e s')
   | .again c'=>c'.quiet=true/\codeAny (model prog w) A c' (λr s'=>match r with | .ok (.ret v)=>Q () s' | .ok a=>False | .error e=>E e s') s') E ⟨hp,g,d,t+1,os⟩ :=
  wpAny_mono (run _) (λf s' z=>by obtain⟨u,rfl,q⟩:=z;exact q) λ_ _ z=>z
 cases hsig:Manifest.signature? "object.__setattr__" with
 | none=>exact zzb fin
 | some sig =>
  simp only[argsOk,hsig]at ok
  show wpAny _ _ (Bind.checkArgs "object.__setattr__" sig ⟨[.ref x,.str name t,v],[]⟩) _ _ _
  rw[show Bind.checkArgs "object.__setattr__" sig ⟨[.ref x,.str name t,v],[]⟩=pure ()from ok]
  exact zzb fin
end
theorem WO_{K:Frag}{C D fI:Addr}(c:XC K C D fI):∃cd,PySem.W.clsIn K C=some cd/\cd.mro=.ref C::.ref D::bmV/\cd.hasDict=true:=by
 obtain⟨nm,q,N,bs,sn,sub,ab,col,dd,k0,k1,k2,k3,k5,lk⟩:=c.obj
 refine⟨_,by unfold PySem.W.clsIn;rw[lk],rfl,rfl⟩
section
variable {prog:Program}{w:World}{A:Around}{E:Value->Shared->Prop}{s:Shared}{K:Frag}{x C:Addr}{ox:Obj}{od:Option Obj}
theorem zby_{Q:Option Value->Shared->Prop}(X:K.In s.heap)(I:PySem.W.InstAt s.heap x ox C od)(hga:findIn K (.ref C) "__getattribute__" = some (some (.builtin "BaseException.__getattribute__")))(hgr:findIn K (.ref C) "__getattr__" = some none)(hb:mroIn K C (.type "BaseException")=some true)
  (hf:findObj K C od "__class__" = some (.bind (.builtin "getset_descriptor.__get__") (.builtin "object.__class__"))) (hm:mroIn K C (.type "object")=some true) (h:Q (some (.ref C)) { s with toks:=s.toks+1 }):wpAny (model prog w) A (getAttr? (.ref x) "__class__") Q E s:=by
 obtain⟨hp,g,d,t,os⟩:=s
 have L0:=I.type (M:=model prog w)
 have L1:=looks_findIn (M:=model prog w) X hga
 have L2:=looks_findIn (M:=model prog w) X hgr
 have L3:=looks_find (M:=model prog w) X I hf
 have L4:=looks_mroIn (M:=model prog w) X hb
 have bnd:=F.attr_ValueError.ga.bind (.ref x)
 have ok:=F.args_bexc_ga (.ref x) (.str "__class__" t)
 have kd:builtinKind "BaseException.__getattribute__" = some .slot:=by decide +kernel
 have sp:splitId "BaseException.__getattribute__" = some ("BaseException", "__getattribute__"):=by decide +kernel
 unfold getAttr? getAttrBy?
 refine zza (wpAny_mkText (zza (wpAny_attempt ?_)))
 unfold getAttrBy
 refine wpAny_holding (zza (L0.at (zza (L1.at ?_))))
 show wpAny _ _ (getAttrByItsOwn _ _ _ _ _ _) _ _ _
 unfold getAttrByItsOwn
 repeat (any_goals (first|assumption|with_reducible refine L0.at ?_|with_reducible refine L2.at ?_|wp_step))
 refine codeAny_call_builtin F.attr_ValueError.ga.plain F.entry_bexc_ga ?_
 simp only[checkBuiltinCall,kd,sp]
 refine zza ?_
 unfold isInstance
 refine zza (L0.at (L4.at ?_))
 repeat (any_goals (first|assumption|with_reducible refine L0.at ?_|with_reducible refine L3.at ?_|wp_step))
 refine class_get (s:=⟨hp,g,d,t+1,os⟩) (ox:=ox) (od:=od) X I hm ?_
 exact zzb (handed_on rfl (zzb h))
theorem XC_{D fI:Addr}(c:XC K C D fI)(hb:mroIn K C (.type "BaseException")=some true)
  (hf:findObj K C od "__class__" = some (.bind (.builtin "getset_descriptor.__get__") (.builtin "object.__class__"))) (hm:mroIn K C (.type "object")=some true) :
  KitX K (.ref x) (.ref C) (λh=>PySem.W.InstAt h x ox C od) where
 ty:=λ_ _ _ I=>I.type
 it:=λ_ _ X _=>by
  obtain⟨nm,q,N,bs,sn,sub,ab,col,dd,k0,k1,k2,k3,k5,ho⟩:=c.obj
  intro A' Q' E' s' k q
  unfold isType loadHead
  exact zza (wpAny_loadPart (k _ _ (X _ _ ho)) (zzb q))
 ne:=λh tp dd its n sl X htp=>by
  obtain⟨nm,q,N,bs,sn,sub,ab,col,dd',k0,k1,k2,k3,k5,ho⟩:=c.obj
  refine Bool.eq_false_iff.mpr λq=>?_
  have e:C=tp:=Value.ref.inj (beq_iff_eq.mp q)
  subst e
  have z:=(X _ _ ho).symm.trans htp
  injection z with z
  injection z with z1 z2 z3
  cases z3
 ca:=λX I k=>zby_ X I c.ga c.gr hb hf hm k
end
def XAt(H:Hp)(a C:Addr)(dd:Option Addr):Prop:=H a=some (.ext (XO a C dd))/\∀dx,dd=some dx->∃fv,H dx=some (.ext (XD dx fv))
theorem zbp_{X:Cx}{pins:List (Addr×Obj)}{σ:L2.St}{H:Hp}{s:Shared}{a C:Addr}{dd:Option Addr}(I:Inv X pins σ H s)(h:XAt H a C dd):∃ox od,PySem.W.InstAt s.heap a ox C od:=by
 obtain⟨h1,h2⟩:=h
 obtain⟨⟨oe,q1,q2,q3,q4⟩,_⟩:=I.hok a _ h1
 cases dd with
 | none=>exact⟨oe,none,q1,q2,q4,by rw[q3];trivial⟩
 | some dx =>
  obtain⟨fv,h2⟩:=h2 dx rfl
  obtain⟨⟨mA,na,wi,r⟩,_⟩:=I.hok dx _ h2
  obtain⟨od,z1,hlk⟩:=Yh_ na
  exact⟨oe,some od,q1,q2,q4,by rw[q3];exact z1⟩
theorem UB_{K:Frag}{C:Addr}{od:Option Obj}{name:Str}{a g:Value}(hc:(clsIn K C).isSome=true)(ha:findIn K (.ref C) name=some (some a))(hg:specialIn K a "__get__" = some (some g))(ht:takesIn K a=some true):findObj K C od name=some (.bind g a):=by
 obtain⟨cd,hc⟩:=Option.isSome_iff_exists.mp hc
 unfold findObj
 rw[hc,Option.bind_some,ha,Option.bind_some]
 simp[hg,ht]
section
variable {X:Cx}{pins:List (Addr×Obj)}{σ:L2.St}{H:Hp}{s:Shared}{a C D fI:Addr}{dd:Option Addr}{Q:Value->Shared->Prop}{E:Value->Shared->Prop}{b:Bool}
theorem Vl_(c:XC X.K C D fI)(kc:KC X.K C){ox:Obj}{od:Option Obj}:KitX X.K (.ref a) (.ref C) (λh=>PySem.W.InstAt h a ox C od):=by
 obtain⟨cd,k1,k2,k3⟩:=WO_ c
 refine XC_ c (by unfold PySem.W.mroIn;rw[k1,Option.bind_some,k2];rfl) (UB_ (by rw[k1];rfl) kc.ha kc.hn kc.htk) (by unfold PySem.W.mroIn;rw[k1,Option.bind_some,k2];rfl)
theorem Vq_(I:Inv X pins σ H s)(c:XC X.K C D fI)(kc:KC X.K C)(h:XAt H a C dd){cv:Value}(e:kitOne X.K (.ref C) cv=some b)(q:∀tk,Q (.bool b) { s with toks:=tk }) :
  wpAny (model X.prog X.w) X.A (call (.builtin "isinstance") [.ref a,cv]) Q E s:=by
 obtain⟨ox,od,It⟩:=zbp_ I h
 exact kia_one (Vl_ c kc) I.kIn It e (λz=>nomatch z) q
end
end L4
namespace L4
open PySem PySem.Spec PyProof.Rows L2 L3
structure Ex where
 cls:Str
 fs:List (Str×D)
inductive M(S:Type) where
 | ret (s:S)
 | exc (x:Ex)
 | bad
noncomputable def M.on{S T:Type}(m:M S)(x:Ex->M T)(k:S->M T):M T:=match m with
 | .ret s=>k s
 | .exc e=>x e
 | .bad=>.bad
def bd{S T:Type}(m:M S)(k:S->M T):M T:=m.on .exc k
noncomputable def oM{S:Type}(o:Option S):M S:=match o with
 | some s=>.ret s
 | none=>.bad
section
variable {S T U:Type}
@[simp] theorem zcI_(s:S)(x:Ex->M T)(k:S->M T):(M.ret s).on x k=k s:=rfl
@[simp] theorem y3_(s:S)(k:S->M T):bd (.ret s) k=k s:=rfl
end
noncomputable abbrev Pu(α:Type):=En->M α
def XR(K:Fg)(F:Hp)(C:Addr)(dd:Option Addr)(x:Ex):Prop:=XQ K C x.cls /\
 ∃fv,FX F dd fv/\Paired (λ(p:Str×V) (q:Str×D)=>p.1=q.1/\Rep K F p.2 q.2) fv x.fs
structure FzOk(K:Fg)(F:Hp)(σ:L2.St)(ρ:En):Prop where
 ln:σ.length=ρ.length
 fz:∀(i:Nat) (d:D),ρ[i]? = some (some (AV.fz d))->∃v,σ[i]? = some (some v)/\Rep K F v d
theorem _root_.L3.StOk.fzok{K:Fg}{G:Gh}{F F' H:Hp}{σ:L2.St}{ρ:En}(S:StOk K G F σ H ρ)(s:Same F F'):FzOk K F' σ ρ:=⟨S.ln,λi d q=>by
 obtain⟨v,e,r⟩:=S.fz i d q
 exact⟨v,e,r.mono s⟩⟩
structure GOk(G:Gh)(F H:Hp):Prop where
 fh:Same F H
 oh:Same G.O H
 fo:∀b o,G.O b=some o->F b=none/\NoTE o
 fb:Same G.B F
def XW(X:Cx)(G:Gh)(F:Hp)(ρ:En)(x:Ex):Prop:=∀F' H' s' a C dd pins σ,GOk G F' H'->FzOk X.K F' σ ρ->Inv X pins σ H' s'->XS H' s'.heap X.s₀.heap.objs.size a C dd->(∀p∈X.pn++pins,¬ TbOf s'.heap a p.1)->XR X.K F' C dd x->X.xe (.ref a) s'
theorem XW.mono{X:Cx}{G:Gh}{F F':Hp}{ρ:En}{x:Ex}(s:Same F F')(h:XW X G F ρ x):XW X G F' ρ x:=h
def W(X:Cx)(G:Gh)(F:Hp)(σ:L2.St)(ρ:En){α:Type}(m:M α)(C:α->Hp->Hp->Prop):Prop:=match m with
 | .ret a=>∀F' H',Same F F'->StOk X.K G F' σ H' ρ->C a F' H'
 | .exc x=>XW X G F ρ x
 | .bad=>False
section
variable {X:Cx}{G:Gh}{F F' H:Hp}{σ:L2.St}{ρ:En}{α β:Type}{m:M α}{k:α->M β}{C C':α->Hp->Hp->Prop}
theorem W.up{C:β->Hp->Hp->Prop}{m:M β}(s:Same F F')(h:W X G F σ ρ m C):W X G F' σ ρ m C:=by
 cases m with
 | ret a=>exact λF2 H2 s2 S2=>h F2 H2 (s.trans s2) S2
 | exc x=>exact XW.mono (X:=X) (G:=G) (ρ:=ρ) (x:=x) s h
 | bad=>exact h
theorem W.bind{C:β->Hp->Hp->Prop}(h:W X G F σ ρ (bd m k) C):W X G F σ ρ m λa F' H'=>W X G F' σ ρ (k a) C:=by
 cases m with
 | ret a=>exact λF2 H2 s2 S2=>W.up s2 h
 | exc x=>exact h
 | bad=>exact h
theorem W.imp(h:W X G F σ ρ m C)(w:∀a F' H',Same F F'->StOk X.K G F' σ H' ρ->C a F' H'->C' a F' H'):W X G F σ ρ m C':=by
 cases m with
 | ret a=>exact λF2 H2 s2 S2=>w a F2 H2 s2 S2 (h F2 H2 s2 S2)
 | exc x=>exact h
 | bad=>exact h
theorem W.opt{o:Option α}(h:W X G F σ ρ (oM o) C):∃a,o=some a/\∀F' H',Same F F'->StOk X.K G F' σ H' ρ->C a F' H':=by
 cases o with
 | none=>exact h.elim
 | some a=>exact⟨a,rfl,h⟩
end
@[irreducible] noncomputable def tSem(X:Cx)(e:Expr):TE:=λσ H Q=>∀(pins:List (Addr×Obj)) (s:Shared),Inv X pins σ H s->wpAny (model X.prog X.w) X.A (eval e X.env) (EP X pins σ Q) X.xe s
@[irreducible] noncomputable def Q1_(X:Cx)(e:Expr):TT:=λσ H Q=>∀(pins:List (Addr×Obj)) (s:Shared),Inv X pins σ H s->wpAny (model X.prog X.w) X.A (isTrue e X.env (eval e X.env)) (TP X pins σ Q) X.xe s
@[irreducible] noncomputable def VH_(X:Cx)(e:Expr):TT:=λσ H Q=>∀(whole:Sem Value) (pins:List (Addr×Obj)) (s:Shared),Inv X pins σ H s->wpAny (model X.prog X.w) X.A (isTrue e X.env whole) (TP X pins σ Q) X.xe s
@[irreducible] noncomputable def uR_(X:Cx)(es:List Expr):TA:=λσ H Q=>∀(pos:Pos) (pins:List (Addr×Obj)) (s:Shared),Inv X pins σ H s->wpAny (model X.prog X.w) X.A (spliced (backTo pos (starEach es X.env))) (AP X pins σ Q) X.xe s
section
variable {X:Cx}{e:Expr}{es:List Expr}{σ:L2.St}{H:Hp}
theorem zm_:PE X e (tSem X e):=λpins s σ H Q I h=>by unfold tSem at h;exact h pins s I
theorem uV_:PT X e (Q1_ X e):=λpins s σ H Q I h=>by unfold Q1_ at h;exact h pins s I
theorem VZ_:PW X e (VH_ X e):=λwh pins s σ H Q I h=>by unfold VH_ at h;exact h wh pins s I
theorem jW_:PA X es (uR_ X es):=λpos pins s σ H Q I h=>by unfold uR_ at h;exact h pos pins s I
theorem sem{t:TE}{Q:VK}(h:PE X e t)(q:t σ H Q):tSem X e σ H Q:=by unfold tSem;exact λpins s I=>h pins s σ H Q I q
theorem semT{t:TT}{Q:Bool->Hp->Prop}(h:PT X e t)(q:t σ H Q):Q1_ X e σ H Q:=by unfold Q1_;exact λpins s I=>h pins s σ H Q I q
theorem semW{t:TT}{Q:Bool->Hp->Prop}(h:PW X e t)(q:t σ H Q):VH_ X e σ H Q:=by unfold VH_;exact λwh pins s I=>h wh pins s σ H Q I q
theorem semA{t:TA}{Q:List V->Hp->Prop}(h:PA X es t)(q:t σ H Q):uR_ X es σ H Q:=by unfold uR_;exact λpos pins s I=>h pos pins s σ H Q I q
end
noncomputable def ownL(ρ:En)(i:Nat):Option (List D):=match ρ[i]? with
 | some (some (.ol (.l ds)))=>some ds
 | some (some (.op (.l ds)))=>some ds
 | _=>none
theorem ZR_{ρ:En}{i:Nat}{ds:List D}(h:ownL ρ i=some ds):own ρ i (.l ds):=by
 unfold ownL at h
 split at h
 ·rename_i q;cases h;exact .inl q
 ·rename_i q;cases h;exact .inr q
 ·cases h
def VO(K:Fg)(F:Hp)(σ:L2.St)(ρ:En)(v:V)(d:D):Prop:=Rep K F v d\/∃i c,own ρ i c/\σ[i]? = some (some v)/\d=c.d/\c.isI=false
inductive VOs(K:Fg)(F:Hp)(σ:L2.St)(ρ:En):List V->List D->Prop
 | nil:VOs K F σ ρ [] []
 | cons {v d vs ds}:VO K F σ ρ v d->VOs K F σ ρ vs ds->VOs K F σ ρ (v::vs) (d::ds)
theorem VO.mono{K:Fg}{F F':Hp}{σ:L2.St}{ρ:En}{v:V}{d:D}(s:Same F F')(h:VO K F σ ρ v d):VO K F' σ ρ v d:=h.imp (Rep.mono s) id
def OR(K:Fg)(F H:Hp)(v:V)(d:D):Prop:=Rep K F v d\/∃a c,v=.ref a/\d=c.d/\Held K F H a c/\c.isI=false
inductive ORs(K:Fg)(F H:Hp):List V->List D->Prop
 | nil:ORs K F H [] []
 | cons {v d vs ds}:OR K F H v d->ORs K F H vs ds->ORs K F H (v::vs) (d::ds)
theorem VO.or{K:Fg}{G:Gh}{F H:Hp}{σ:L2.St}{ρ:En}{v:V}{d:D}(S:StOk K G F σ H ρ)(h:VO K F σ ρ v d):OR K F H v d:=by
 rcases h with h|⟨i,c,ho,hv,rfl,hI⟩
 ·exact .inl h
 ·obtain⟨a,e1,oa⟩:=S.ow i _ ho
  rw[hv]at e1
  injection e1 with e1;injection e1 with e1
  exact .inr ⟨a,c,e1,rfl,oa.he,hI⟩
theorem VOs.ors{K:Fg}{G:Gh}{F H:Hp}{σ:L2.St}{ρ:En}(S:StOk K G F σ H ρ):∀{vs ds},VOs K F σ ρ vs ds->ORs K F H vs ds
 | _,_,.nil=>.nil
 | _,_,.cons h t=>.cons (h.or S) (t.ors S)
section
variable {K:Fg}{F H:Hp}{v:V}{ds:List D}
theorem OR.rep{d:D}(s:Same F H)(h:OR K F H v d):Rep K H v d:=by
 rcases h with h|⟨a,c,rfl,rfl,h1,hI⟩
 ·exact h.mono s
 ·obtain⟨o,e,r⟩:=zbs_ hI h1;exact r H s e
theorem OR.list(s:Same F H)(h:OR K F H v (.list ds)):∃a vs,v=.ref a/\SqL K H a vs/\RepL K F vs ds:=by
 rcases h with h|⟨a,c,e,e2,h1,hI⟩
 ·obtain⟨a,vs,e,h1,h2⟩:=h.lst_inv
  exact⟨a,vs,e,s.seq h1,h2⟩
 ·cases c<;>cases e2
  obtain⟨vs,h1,h2⟩:=h1
  exact⟨a,vs,e,.inl (.inl h1),h2⟩
theorem OR.tuple(s:Same F H)(h:OR K F H v (.tuple ds)):∃a vs,v=.ref a/\SqT K H a vs/\RepL K F vs ds:=by
 rcases h with h|⟨a,c,e,e2,h1,hI⟩
 ·obtain⟨a,vs,e,h1,h2⟩:=h.tup_inv
  exact⟨a,vs,e,SqT.of (s _ _ h1),h2⟩
 ·cases c<;>cases e2
theorem OR.tup'(h:OR K F H v (.tuple ds)):Rep K F v (.tuple ds):=by
 rcases h with h|⟨a,c,e,e2,h1,hI⟩
 ·exact h
 ·cases c<;>cases e2
theorem OR.int{i:Int}(h:OR K F H v (.int i)):v=.int i:=by
 rcases h with h|⟨a,c,e,e2,h1,hI⟩
 ·exact h.inv
 ·cases c<;>cases e2
theorem OR.bool{i:Bool}(h:OR K F H v (.bool i)):v=.bl i:=by
 rcases h with h|⟨a,c,e,e2,h1,hI⟩
 ·exact h.inv
 ·cases c<;>cases e2
theorem OR.str{i:Str}(h:OR K F H v (.str i)):v=.str i:=by
 rcases h with h|⟨a,c,e,e2,h1,hI⟩
 ·exact h.inv
 ·cases c<;>cases e2
theorem OR.none(h:OR K F H v .none):v=.non:=by
 rcases h with h|⟨a,c,e,e2,h1,hI⟩
 ·exact h.inv
 ·cases c with
  | i _ _ _=>cases hI
  | _=>cases e2
theorem z3_{vs:List V}{d:D}{ds:List D}(h:ORs K F H vs (d::ds)):∃v r,vs=v::r/\OR K F H v d/\ORs K F H r ds:=by
 cases h with|cons a b=>exact⟨_,_,rfl,a,b⟩
theorem jG_{vs:List V}(h:ORs K F H vs []):vs=[]:=by cases h;rfl
end
def AP(X:Cx)(e:Expr)(p:Pu D):Prop :=
 ∀(G:Gh) (F:Hp) (σ:L2.St) (H:Hp) (ρ:En) (Q:VK),StOk X.K G F σ H ρ->W X G F σ ρ (p ρ) (λd F' H'=>∀v,Rep X.K F' v d->Q v H')->tSem X e σ H Q
def AO(X:Cx)(e:Expr)(p:Pu D):Prop :=
 ∀(G:Gh) (F:Hp) (σ:L2.St) (H:Hp) (ρ:En) (Q:VK),StOk X.K G F σ H ρ->W X G F σ ρ (p ρ) (λd F' H'=>∀v,VO X.K F' σ ρ v d->Q v H')->tSem X e σ H Q
def AT(X:Cx)(e:Expr)(p:Pu Bool):Prop :=
 ∀(G:Gh) (F:Hp) (σ:L2.St) (H:Hp) (ρ:En) (Q:Bool->Hp->Prop),StOk X.K G F σ H ρ->W X G F σ ρ (p ρ) (λd F' H'=>Q d H')->Q1_ X e σ H Q
def AW(X:Cx)(e:Expr)(p:Pu Bool):Prop :=
 ∀(G:Gh) (F:Hp) (σ:L2.St) (H:Hp) (ρ:En) (Q:Bool->Hp->Prop),StOk X.K G F σ H ρ->W X G F σ ρ (p ρ) (λd F' H'=>Q d H')->VH_ X e σ H Q
def AB(X:Cx)(e:Expr)(p:Pu Bool):Prop :=
 ∀(G:Gh) (F:Hp) (σ:L2.St) (H:Hp) (ρ:En) (Q:VK),StOk X.K G F σ H ρ->W X G F σ ρ (p ρ) (λd F' H'=>Q (.bl d) H')->tSem X e σ H Q
def AA{α:Type}(X:Cx)(es:List Expr)(m:(List D->M α)->En->M α):Prop :=
 ∀(G:Gh) (F:Hp) (σ:L2.St) (H:Hp) (ρ:En) (Q:List V->Hp->Prop) (k:List D->M α) (C:α->Hp->Hp->Prop),StOk X.K G F σ H ρ->W X G F σ ρ (m k ρ) C ->
  (∀ds vs F' H',Same F F'->StOk X.K G F' σ H' ρ->vs.length=es.length->RepL X.K F' vs ds->W X G F' σ ρ (k ds) C->Q vs H')->uR_ X es σ H Q
def AAo{α:Type}(X:Cx)(es:List Expr)(m:(List D->M α)->En->M α):Prop :=
 ∀(G:Gh) (F:Hp) (σ:L2.St) (H:Hp) (ρ:En) (Q:List V->Hp->Prop) (k:List D->M α) (C:α->Hp->Hp->Prop),StOk X.K G F σ H ρ->W X G F σ ρ (m k ρ) C ->
  (∀ds vs F' H',Same F F'->StOk X.K G F' σ H' ρ->VOs X.K F' σ ρ vs ds->W X G F' σ ρ (k ds) C->Q vs H')->uR_ X es σ H Q
def Frs(K:Fg)(G:Gh)(F:Hp)(σ:L2.St)(H:Hp)(ρ:En)(v:V)(c:OC):Prop:=∃a,v=.ref a/\OwnAt K G F H a c/\∀(i:Nat) (e:OC),own ρ i e->σ[i]? ≠ some (some (V.ref a))
def AL(X:Cx)(e:Expr)(p:Pu (List D)):Prop :=
 ∀(G:Gh) (F:Hp) (σ:L2.St) (H:Hp) (ρ:En) (Q:VK),StOk X.K G F σ H ρ->W X G F σ ρ (p ρ) (λds F' H'=>∀v,Frs X.K G F' σ H' ρ v (.l ds)->Q v H')->tSem X e σ H Q
noncomputable def pVar(i:Nat):Pu D:=λρ=>match ρ[i]? with
 | some (some (.fz d))=>.ret d
 | _=>.bad
noncomputable def datO(c:OC):M D:=match c with
 | .i _ _ _=>.bad
 | c=>.ret c.d
def zcv_(i:Nat):Pu D:=λρ=>match ρ[i]? with
 | some (some (.ol c))=>datO c
 | some (some (.op c))=>datO c
 | _=>.bad
noncomputable def pCon(d:D):Pu D:=λ_=>.ret d
def pBin(f:D->D->Option D)(a b:Pu D):Pu D:=λρ=>bd (a ρ) λx=>bd (b ρ) λy=>oM (f x y)
def zcA_(f:D->D->Option Bool)(a b:Pu D):Pu Bool:=λρ=>bd (a ρ) λx=>bd (b ρ) λy=>oM (f x y)
def pUn(f:D->Option D)(a:Pu D):Pu D:=λρ=>bd (a ρ) λx=>oM (f x)
noncomputable abbrev Pa(α:Type):=(List D->M α)->En->M α
noncomputable def pNil{α:Type}:Pa α:=λk _=>k []
def zcx_{α:Type}(a:Pu D)(r:Pa α):Pa α:=λk ρ=>bd (a ρ) λx=>r (λxs=>k (x::xs)) ρ
noncomputable def fitM{S:Type}(ds:List S):M (List S):=if ds.length<=sizeLine then .ret ds else .bad
noncomputable def pTup(ps:Pa D):Pu D:=λρ=>ps (λds=>.ret (.tuple ds)) ρ
noncomputable def pLst(ps:Pa (List D)):Pu (List D):=λρ=>ps (λds=>.ret ds) ρ
theorem Yj_{n:Nat}(h:n<=1000):n<=sizeLine:=Nat.le_trans h (by decide)
def zcz_(f:List D->Option D)(ps:Pa D):Pu D:=λρ=>ps (λds=>oM (f ds)) ρ
def zcy_(f:List D->Option Bool)(ps:Pa Bool):Pu Bool:=λρ=>ps (λds=>oM (f ds)) ρ
def X9_(f:List D->Option (List D))(ps:Pa (List D)):Pu (List D):=λρ=>ps (λds=>oM (f ds)) ρ
def pB(p:Pu Bool):Pu D:=λρ=>bd (p ρ) λb=>.ret (.bool b)
def pZ(p:Pu (List D)):Pu D:=λρ=>bd (p ρ) λds=>.ret (.list ds)
noncomputable def asB(d:D):M Bool:=match d with
 | .bool b=>.ret b
 | _=>.bad
def pAsB(p:Pu D):Pu Bool:=λρ=>bd (p ρ) asB
noncomputable def truD:D->Option Bool
 | .none=>some false
 | .bool b=>some b
 | .int i=>some (i != 0)
 | .str x=>if x.length<=sizeLine then some ((x.length:Int) != 0)else none
 | .list ds=>some (!ds.isEmpty)
 | .tuple ds=>some (!ds.isEmpty)
 | .dict _=>none
def pTru(p:Pu D):Pu Bool:=λρ=>bd (p ρ) λd=>oM (truD d)
def pAnd(a b:Pu Bool):Pu Bool:=λρ=>bd (a ρ) λt=>if t then b ρ else .ret false
def pOr(a b:Pu Bool):Pu Bool:=λρ=>bd (a ρ) λt=>if t then .ret true else b ρ
def pNot(a:Pu Bool):Pu Bool:=λρ=>bd (a ρ) λt=>.ret (!t)
def pIf{α:Type}(c:Pu Bool)(a b:Pu α):Pu α:=λρ=>bd (c ρ) λt=>if t then a ρ else b ρ
def OpD(K:Fg)(r:R2)(f:D->D->Option D):Prop :=
 ∀(G:Gh) (F:Hp) (σ:L2.St) (H:Hp) (ρ:En) (x y:V) (dx dy:D) (res:D) (Q:VK),StOk K G F σ H ρ->OR K F H x dx->OR K F H y dy->f dx dy=some res ->
  (∀v F' H',Same F F'->StOk K G F' σ H' ρ->Rep K F' v res->Q v H')->r x y H Q
def OpB(K:Fg)(r:R2)(f:D->D->Option Bool):Prop :=
 ∀(G:Gh) (F:Hp) (σ:L2.St) (H:Hp) (ρ:En) (x y:V) (dx dy:D) (res:Bool) (Q:VK),StOk K G F σ H ρ->OR K F H x dx->OR K F H y dy->f dx dy=some res->Q (.bl res) H->r x y H Q
def UnD(K:Fg)(r:V->Hp->VK->Prop)(f:D->Option D):Prop :=
 ∀(G:Gh) (F:Hp) (σ:L2.St) (H:Hp) (ρ:En) (x:V) (dx:D) (res:D) (Q:VK),StOk K G F σ H ρ->OR K F H x dx->f dx=some res ->
  (∀v F' H',Same F F'->StOk K G F' σ H' ρ->Rep K F' v res->Q v H')->r x H Q
def JG_(K:Fg)(r:List V->Hp->VK->Prop)(f:List D->Option D):Prop :=
 ∀(G:Gh) (F:Hp) (σ:L2.St) (H:Hp) (ρ:En) (xs:List V) (ds:List D) (res:D) (Q:VK),StOk K G F σ H ρ->ORs K F H xs ds->f ds=some res ->
  (∀v F' H',Same F F'->StOk K G F' σ H' ρ->Rep K F' v res->Q v H')->r xs H Q
def QY_(K:Fg)(r:List V->Hp->VK->Prop)(f:List D->Option Bool):Prop :=
 ∀(G:Gh) (F:Hp) (σ:L2.St) (H:Hp) (ρ:En) (xs:List V) (ds:List D) (res:Bool) (Q:VK),StOk K G F σ H ρ->ORs K F H xs ds->f ds=some res->Q (.bl res) H->r xs H Q
section
variable {X:Cx}{e a b c:Expr}{es rest:List Expr}{p pa pb:Pu D}{ta tb tc:Pu Bool}{ps:Pa D}{pb':Pa Bool}{pl:Pa (List D)}{α:Type}{pα:Pa α}{qs:Pu (List D)}{pos:Pos}
theorem zdu_{i:Nat}{x:Str}(hN:X.N[i]? = some x)(hv:Vis X.env.scope x)(hd:(x==("__debug__" : Str))=false:=by decide)(hcd:(x==("__classdict__" : Str))=false:=by decide):AP X (.Name x pos) (pVar i) :=
 λG F σ H ρ Q S w=>sem (j2_ hN hv hd hcd)<|by
  unfold pVar at w
  split at w
  ·rename_i d q
   obtain⟨v,e1,r1⟩:=S.fz i d q
   exact⟨v,e1,w F H (Same.refl _) S v r1⟩
  ·exact w.elim
theorem Zs_{i:Nat}{x:Str}(hN:X.N[i]? = some x)(hv:Vis X.env.scope x)(hd:(x==("__debug__" : Str))=false:=by decide)(hcd:(x==("__classdict__" : Str))=false:=by decide):AO X (.Name x pos) (zcv_ i) :=
 λG F σ H ρ Q S w=>sem (j2_ hN hv hd hcd)<|by
  have go:∀c:OC,own ρ i c->W X G F σ ρ (datO c) (λd F' H'=>∀v,VO X.K F' σ ρ v d->Q v H')->tVar i σ H Q:=λc ho w=>by
   obtain⟨a,e1,oa⟩:=S.ow i _ ho
   cases c with
   | i _ _ _=>exact w.elim
   | _=>exact⟨_,e1,w F H (Same.refl _) S _ (.inr ⟨i,_,ho,e1,rfl,rfl⟩)⟩
  unfold zcv_ at w
  split at w
  ·rename_i ds q;exact go ds (.inl q) w
  ·rename_i ds q;exact go ds (.inr q) w
  ·exact w.elim
theorem ao(h:AP X e p):AO X e p:=λG F σ H ρ Q S w=>h G F σ H ρ Q S (w.imp λd F' H' _ _ q v r=>q v (.inl r))
theorem YK_{v:V}{d:D}(h:PE X e (tC v))(r:∀F,Rep X.K F v d):AP X e (pCon d) :=
 λG F σ H ρ Q S w=>sem h (w F H (Same.refl _) S v (r F))
theorem zf_{i j}:AP X (.Constant (.int i) j pos) (pCon (.int i)):=YK_ zcs_ λ_=>.int _
theorem Vx_{i j}:AP X (.Constant (.bool i) j pos) (pCon (.bool i)):=YK_ zeg_ λ_=>.bl _
theorem zS_{i j}:AP X (.Constant (.str i) j pos) (pCon (.str i)):=YK_ zcl_ λ_=>.str _
theorem J8_{j}:AP X (.Constant .none j pos) (pCon .none):=YK_ zcp_ λ_=>.non
theorem QU_{r:R2}{Q:VK}{G:Gh}{F H:Hp}{σ:L2.St}{ρ:En}{α:Type}{f:D->D->M α}{C:α->Hp->Hp->Prop}(ha:AO X a pa)(hb:AO X b pb)(S:StOk X.K G F σ H ρ)(w:W X G F σ ρ (bd (pa ρ) λx=>bd (pb ρ) λy=>f x y) C)
  (k:∀x y dx dy F' H',Same F F'->StOk X.K G F' σ H' ρ->OR X.K F' H' x dx->OR X.K F' H' y dy->W X G F' σ ρ (f dx dy) C->r x y H' Q):tOp r (tSem X a) (tSem X b) σ H Q :=
 ha G F σ H ρ _ S (w.bind.imp λdx F1 H1 s1 S1 w1 x hx=>hb G F1 σ H1 ρ _ S1 (w1.bind.imp λdy F2 H2 s2 S2 w2 y hy=>k x y dx dy F2 H2 (s1.trans s2) S2 ((hx.mono s2).or S2) (hy.or S2) w2))
theorem zz_{op:Operator}{r:R2}{f:D->D->Option D}(ho:OpR X (binaryOp op) r)(hf:OpD X.K r f)(ha:AO X a pa)(hb:AO X b pb):AP X (.BinOp a op b pos) (pBin f pa pb) :=
 λG F σ H ρ Q S w=>sem (zcm_ ho zm_ zm_) (QU_ ha hb S w λx y dx dy F' H' s' S' hx hy w'=>by
  obtain⟨res,e,k⟩:=w'.opt
  exact hf G F' σ H' ρ x y dx dy res Q S' hx hy e λv F2 H2 s2 S2 r2=>k F2 H2 s2 S2 v r2)
theorem uQ_{r:R2}{f:D->D->Option D}(hr:IxR X r)(hf:OpD X.K r f)(ha:AO X a pa)(hb:AO X b pb)(hs:Qb_ b):AP X (.Subscript a b pos) (pBin f pa pb) :=
 λG F σ H ρ Q S w=>sem (zcr_ hr zm_ zm_ hs) (QU_ ha hb S w λx y dx dy F' H' s' S' hx hy w'=>by
  obtain⟨res,e,k⟩:=w'.opt
  exact hf G F' σ H' ρ x y dx dy res Q S' hx hy e λv F2 H2 s2 S2 r2=>k F2 H2 s2 S2 v r2)
theorem W5_{op:CmpOp}{r:R2}{f:D->D->Option Bool}(ho:OpR X (compareOp op) r)(hf:OpB X.K r f)(ha:AO X a pa)(hb:AO X b pb)(hm:behindInMarks op b=false):AB X (.Compare a [op] [b] pos) (zcA_ f pa pb) :=
 λG F σ H ρ Q S w=>sem (zaX_ ho zm_ zm_ hm) (QU_ ha hb S w λx y dx dy F' H' s' S' hx hy w'=>by
  obtain⟨res,e,k⟩:=w'.opt
  exact hf G F' σ H' ρ x y dx dy res Q S' hx hy e (k F' H' (Same.refl _) S'))
theorem zF_{op:CmpOp}{r:R2}{f:D->D->Option Bool}(ho:OpR X (compareOp op) r)(hf:OpB X.K r f)(ha:AO X a pa)(hb:AO X b pb)(hm:behindInMarks op b=false):AT X (.Compare a [op] [b] pos) (zcA_ f pa pb) :=
 λG F σ H ρ Q S w=>semT (V2_ ho zm_ zm_ hm) (QU_ (Q:=λx H'=>∃k,x=.bl k/\Q k H') ha hb S w λx y dx dy F' H' s' S' hx hy w'=>by
  obtain⟨res,e,k⟩:=w'.opt
  exact hf G F' σ H' ρ x y dx dy res _ S' hx hy e ⟨res,rfl,k F' H' (Same.refl _) S'⟩)
theorem ap_b(h:AB X e ta):AP X e (pB ta):=λG F σ H ρ Q S w=>h G F σ H ρ Q S (w.bind.imp λb F' H' s1 S1 w1=>w1 F' H' (Same.refl _) S1 _ (.bl b))
theorem zeE_{op:UnaryOp}{r:V->Hp->VK->Prop}{f:D->Option D}(ho:UnR X (unaryOp op) r)(hf:UnD X.K r f)(ha:AO X a pa):AP X (.UnaryOp op a pos) (pUn f pa) :=
 λG F σ H ρ Q S w=>sem (zee_ ho zm_) (ha G F σ H ρ _ S (w.bind.imp λdx F1 H1 s1 S1 w1 x hx=>by
  obtain⟨res,e,k⟩:=w1.opt
  exact hf G F1 σ H1 ρ x dx res Q S1 (hx.or S1) e λv F2 H2 s2 S2 r2=>k F2 H2 s2 S2 v r2))
theorem ap_z(h:AL X e qs):AP X e (pZ qs):=λG F σ H ρ Q S w=>h G F σ H ρ Q S (w.bind.imp λds F' H' s1 S1 w1 v fr=>by
 obtain⟨F2,s2,S2,r2⟩:=S1.settle (v:=v) (ds:=ds) fr
 exact w1 F2 H' s2 S2 v r2)
theorem zn_:AA (α:=α) X [] pNil:=λG F σ H ρ Q k C S w kk=>semA Qw_ (kk [] [] F H (Same.refl _) S rfl .nil w)
theorem zh_(h:AP X e p)(hr:AA X es pα)(hs:starEach (e::es) X.env=(false,eval e X.env)::starEach es X.env):AA X (e::es) (zcx_ p pα) :=
 λG F σ H ρ Q k C S w kk=>semA (yw_ zm_ jW_ hs) (h G F σ H ρ _ S (w.bind.imp λd F1 H1 s1 S1 w1 v r1 =>
  hr G F1 σ H1 ρ _ _ C S1 w1 λds vs F2 H2 s2 S2 hl r2 w2=>kk (d::ds) (v::vs) F2 H2 (s1.trans s2) S2 (by simp[hl]) (.cons (r1.mono s2) r2) w2))
theorem zA_:AAo (α:=α) X [] pNil:=λG F σ H ρ Q k C S w kk=>semA Qw_ (kk [] [] F H (Same.refl _) S .nil w)
theorem zp_(h:AO X e p)(hr:AAo X es pα)(hs:starEach (e::es) X.env=(false,eval e X.env)::starEach es X.env):AAo X (e::es) (zcx_ p pα) :=
 λG F σ H ρ Q k C S w kk=>semA (yw_ zm_ jW_ hs) (h G F σ H ρ _ S (w.bind.imp λd F1 H1 s1 S1 w1 v r1 =>
  hr G F1 σ H1 ρ _ _ C S1 w1 λds vs F2 H2 s2 S2 r2 w2=>kk (d::ds) (v::vs) F2 H2 (s1.trans s2) S2 (.cons (r1.mono s2) r2) w2))
theorem W.fit{α:Type}{G:Gh}{F:Hp}{σ:L2.St}{ρ:En}{ds:List α}{C:List α->Hp->Hp->Prop}(h:W X G F σ ρ (fitM ds) C):ds.length<=sizeLine/\∀F' H',Same F F'->StOk X.K G F' σ H' ρ->C ds F' H':=by
 unfold fitM at h
 split at h
 ·exact⟨by assumption,h⟩
 ·exact h.elim
theorem yn_{x1}(h:AA X es ps)(hz:es.length<=1000):AP X (.Tuple es x1 pos) (pTup ps) :=
 λG F σ H ρ Q S w=>sem (X8_ jW_) (h G F σ H ρ _ _ _ S w λds vs F1 H1 s1 S1 hl r1 w1=>by
  refine⟨by rw[hl];exact Yj_ hz,λq hq=>?_⟩
  obtain⟨s2,S2,r2⟩:=S1.newTup hq r1
  exact w1 _ _ s2 S2 _ r2)
theorem yo_(h:AA X es pl)(hz:es.length<=1000):AL X (.List es pos) (pLst pl) :=
 λG F σ H ρ Q S w=>sem (zcq_ jW_) (h G F σ H ρ _ _ _ S w λds vs F1 H1 s1 S1 hl r1 w1=>by
  refine⟨by rw[hl];exact Yj_ hz,λq hq=>?_⟩
  obtain⟨S2,r2⟩:=S1.newLst hq r1
  exact w1 _ _ (Same.refl _) S2 _ r2)
theorem Y7_{r:List V->Hp->VK->Prop}{Q:VK}{G:Gh}{F H:Hp}{σ:L2.St}{ρ:En}{f:List D->M α}{C:α->Hp->Hp->Prop}(ha:AAo X es pα)(S:StOk X.K G F σ H ρ)(w:W X G F σ ρ (pα f ρ) C)
  (k:∀xs ds F' H',Same F F'->StOk X.K G F' σ H' ρ->ORs X.K F' H' xs ds->W X G F' σ ρ (f ds) C->r xs H' Q):tCB r (uR_ X es) σ H Q :=
 ha G F σ H ρ _ _ C S w λds xs F1 H1 s1 S1 hx w1=>k xs ds F1 H1 s1 S1 (hx.ors S1) w1
theorem zQ_{x:Str}{p:Pos}{id:String}{r:List V->Hp->VK->Prop}{f:List D->Option D}(hc:CallR X (.builtin id) r)(hf:JG_ X.K r f)(hg:Gl X x)(hm:X.mg x=none)(hv:bootBuiltins x=some (.builtin id))(ha:AAo X (e::es) ps)
  (hn:x ≠ "__name__") (hdb:(x==("__debug__" : Str))=false) (he:starEach (e::es) X.env=(false,eval e X.env)::starEach es X.env) (hpl:(backTo pos (starEach es X.env)).any (·.1)=false):AP X (.Call (.Name x p) (e::es) [] pos) (zcz_ f ps) :=
 λG F σ H ρ Q S w=>sem (Un_ hc hg hm hv jW_ hn hdb he hpl) (Y7_ ha S w λxs ds F' H' s' S' hx w'=>by
  obtain⟨res,e,k⟩:=w'.opt
  exact hf G F' σ H' ρ xs ds res Q S' hx e λv F2 H2 s2 S2 r2=>k F2 H2 s2 S2 v r2)
theorem QW_{x:Str}{p:Pos}{id:String}{r:List V->Hp->VK->Prop}{f:List D->Option Bool}(hc:CallR X (.builtin id) r)(hf:QY_ X.K r f)(hg:Gl X x)(hm:X.mg x=none)(hv:bootBuiltins x=some (.builtin id))(ha:AAo X (e::es) pb')
  (hn:x ≠ "__name__") (hdb:(x==("__debug__" : Str))=false) (he:starEach (e::es) X.env=(false,eval e X.env)::starEach es X.env) (hpl:(backTo pos (starEach es X.env)).any (·.1)=false):AB X (.Call (.Name x p) (e::es) [] pos) (zcy_ f pb') :=
 λG F σ H ρ Q S w=>sem (Un_ hc hg hm hv jW_ hn hdb he hpl) (Y7_ ha S w λxs ds F' H' s' S' hx w'=>by
  obtain⟨res,e,k⟩:=w'.opt
  exact hf G F' σ H' ρ xs ds res Q S' hx e (k F' H' (Same.refl _) S'))
theorem jh_{x:Str}{p:Pos}{T:String}{r:List V->Hp->VK->Prop}{f:List D->Option D}(hc:CallR X (.type T) r)(hf:JG_ X.K r f)(hg:Gl X x)(hm:X.mg x=none)(hv:bootBuiltins x=some (.type T))(ha:AAo X (e::es) ps)
  (hn:x ≠ "__name__") (hdb:(x==("__debug__" : Str))=false) (he:starEach (e::es) X.env=(false,eval e X.env)::starEach es X.env) (hpl:(backTo pos (starEach es X.env)).any (·.1)=false):AP X (.Call (.Name x p) (e::es) [] pos) (zcz_ f ps) :=
 λG F σ H ρ Q S w=>sem (Wd_ hc hg hm hv jW_ hn hdb he hpl) (Y7_ ha S w λxs ds F' H' s' S' hx w'=>by
  obtain⟨res,e,k⟩:=w'.opt
  exact hf G F' σ H' ρ xs ds res Q S' hx e λv F2 H2 s2 S2 r2=>k F2 H2 s2 S2 v r2)
theorem ZB_{K:Fg}{F:Hp}{vs:List V}{ds:List D}(h:RepL K F vs ds):(!vs.isEmpty) = !ds.isEmpty:=by cases h<;>rfl
theorem zan_(ha:AO X a pa)(he:∀whole,isTrue a X.env whole=(do let v <-whole;standAt a.pos;holding [v] (truthy v))):AT X a (pTru pa) :=
 λG F σ H ρ Q S w=>semT (Uk_ zm_ he) (ha G F σ H ρ _ S (w.bind.imp λx F1 H1 s1 S1 w1 v hv=>by
  obtain⟨bb,hb,k⟩:=w1.opt
  refine⟨bb,?_,k F1 H1 (Same.refl _) S1⟩
  have o:=hv.or S1
  cases x with
  | none=>rw[o.none];cases hb;exact rfl
  | bool i=>rw[o.bool];cases hb;exact rfl
  | int i=>rw[o.int];cases hb;exact rfl
  | str i =>
   rw[o.str]
   unfold truD at hb
   dsimp only at hb
   split at hb
   ·rename_i hl;cases hb;exact⟨hl,rfl⟩
   ·cases hb
  | list ds=>obtain⟨a,vs,rfl,h1,h2⟩:=o.list S1.fh;cases hb;exact .inl ⟨vs,h1,(ZB_ h2).symm⟩
  | tuple ds=>obtain⟨a,vs,rfl,h1,h2⟩:=o.tuple S1.fh;cases hb;exact .inr (.inl ⟨vs,h1,(ZB_ h2).symm⟩)
  | dict ds=>cases hb))
theorem at_b(ha:AB X a ta)(he:∀whole,isTrue a X.env whole=(do let v <-whole;standAt a.pos;holding [v] (truthy v))):AT X a ta :=
 λG F σ H ρ Q S w=>semT (Uk_ zm_ he) (ha G F σ H ρ _ S (w.imp λx F1 H1 s1 S1 w1=>⟨x,rfl,w1⟩))
theorem zbD_(ha:AT X a ta):AW X (.BoolOp .And [a] pos) ta:=λG F σ H ρ Q S w=>semW (zaQ_ uV_) (ha G F σ H ρ Q S w)
theorem YH_(ha:AT X a ta):AW X (.BoolOp .Or [a] pos) ta:=λG F σ H ρ Q S w=>semW (zcf_ uV_) (ha G F σ H ρ Q S w)
theorem zdq_(ha:AT X a ta)(hb:AW X (.BoolOp .And (b::rest) pos) tb):AW X (.BoolOp .And (a::b::rest) pos) (pAnd ta tb) :=
 λG F σ H ρ Q S w=>semW (zcg_ uV_ VZ_) (ha G F σ H ρ _ S (w.bind.imp λt F1 H1 s1 S1 w1=>by
  cases t with
  | true=>refine iteT ?_;exact hb G F1 σ H1 ρ Q S1 w1
  | false=>refine iteF ?_;exact w1 F1 H1 (Same.refl _) S1))
theorem YI_(ha:AT X a ta)(hb:AW X (.BoolOp .Or (b::rest) pos) tb):AW X (.BoolOp .Or (a::b::rest) pos) (pOr ta tb) :=
 λG F σ H ρ Q S w=>semW (zea_ uV_ VZ_) (ha G F σ H ρ _ S (w.bind.imp λt F1 H1 s1 S1 w1=>by
  cases t with
  | true=>refine iteT ?_;exact w1 F1 H1 (Same.refl _) S1
  | false=>refine iteF ?_;exact hb G F1 σ H1 ρ Q S1 w1))
theorem Vw_(h:AW X e ta):AT X e ta:=λG F σ H ρ Q S w=>semT (λpins s σ H Q I h=>VZ_ _ pins s σ H Q I h) (h G F σ H ρ Q S w)
theorem J6_(ha:AT X a ta):AT X (.UnaryOp .Not a pos) (pNot ta) :=
 λG F σ H ρ Q S w=>semT (X4_ uV_) (ha G F σ H ρ _ S (w.bind.imp λt F1 H1 s1 S1 w1=>w1 F1 H1 (Same.refl _) S1))
theorem zeJ_(h:AP X a pa):AB X a (pAsB pa):=λG F σ H ρ Q S w=>h G F σ H ρ Q S (w.bind.imp λd F1 H1 s1 S1 w1 v r=>by
 cases r with
 | bl b=>exact w1 F1 H1 (Same.refl _) S1
 | non=>exact w1.elim
 | int i=>exact w1.elim
 | str i=>exact w1.elim
 | tup _ _=>exact w1.elim
 | lst _ _=>exact w1.elim
 | dct _ _ _=>exact w1.elim
 | dck _ _ _=>exact w1.elim
 | exc _ _ _ _ _=>exact w1.elim
 | fn _=>exact w1.elim)
theorem zau_{op}(h:AB X a ta):AB X (.BoolOp op [a] pos) ta:=λG F σ H ρ Q S w=>sem (zcn_ zm_) (h G F σ H ρ Q S w)
theorem zav_(ha:AB X a ta)(hb:AB X (.BoolOp .And (b::rest) pos) tb):AB X (.BoolOp .And (a::b::rest) pos) (pAnd ta tb) :=
 λG F σ H ρ Q S w=>sem (zcu_ zm_ zm_) (ha G F σ H ρ _ S (w.bind.imp λt F1 H1 s1 S1 w1=>⟨t,rfl,by
  cases t with
  | true=>refine iteT ?_;exact hb G F1 σ H1 ρ Q S1 w1
  | false=>refine iteF ?_;exact w1 F1 H1 (Same.refl _) S1⟩))
theorem zdx_(ha:AB X a ta):AB X (.UnaryOp .Not a pos) (pNot ta) :=
 λG F σ H ρ Q S w=>sem (zco_ zm_) (ha G F σ H ρ _ S (w.bind.imp λt F1 H1 s1 S1 w1=>⟨t,rfl,w1 F1 H1 (Same.refl _) S1⟩))
theorem YJ_(hc:AT X c tc)(ha:AP X a pa)(hb:AP X b pb):AP X (.IfExp c a b pos) (pIf tc pa pb) :=
 λG F σ H ρ Q S w=>sem (Qv_ uV_ zm_ zm_) (hc G F σ H ρ _ S (w.bind.imp λt F1 H1 s1 S1 w1=>by
  cases t with
  | true=>refine iteT ?_;exact ha G F1 σ H1 ρ Q S1 w1
  | false=>refine iteF ?_;exact hb G F1 σ H1 ρ Q S1 w1))
end
noncomputable def Xy_(i j:Int):Bool:=(decide (-(2^64)<i)&&decide (i<2^64))||(decide (-(2^64)<j)&&decide (j<2^64))
noncomputable def z1_:D->D->Option D
 | .int i,.int j=>some (.int (i+j))
 | .str a,.str b=>if a.length+b.length<=sizeLine then some (.str (a++b))else none
 | .tuple a,.tuple b=>if a.length+b.length<=sizeLine then some (.tuple (a++b))else none
 | .list a,.list b=>if a.length+b.length<=sizeLine then some (.list (a++b))else none
 | _,_=>none
noncomputable def yh_:D->D->Option D
 | .int i,.int j=>some (.int (i - j))
 | _,_=>none
def yj_:D->D->Option D
 | .int i,.int j=>if Xy_ i j then some (.int (i*j))else none
 | _,_=>none
noncomputable def Wl_:D->D->Option D
 | .int i,.int j=>if decide (0<j)&&decide (j<1073741824)then some (.int (i / j))else none
 | _,_=>none
noncomputable def yx_:D->D->Option D
 | .int i,.int j=>if 0<j then some (.int (i % j))else none
 | _,_=>none
noncomputable def Wk_:D->D->Option D
 | .int i,.int j=>if decide (0<=j)&&decide (j<=1000000)&&decide (i.natAbs<2^64)then some (.int (i^j.toNat))else none
 | _,_=>none
noncomputable def zbe_:D->Option D
 | .int i=>some (.int (-i))
 | _=>none
noncomputable def opLt:D->D->Option Bool
 | .int i,.int j=>some (decide (i<j))
 | _,_=>none
noncomputable def opLe:D->D->Option Bool
 | .int i,.int j=>some (decide (i<=j))
 | _,_=>none
noncomputable def opGt:D->D->Option Bool
 | .int i,.int j=>some (decide (j<i))
 | _,_=>none
noncomputable def opGe:D->D->Option Bool
 | .int i,.int j=>some (decide (j<=i))
 | _,_=>none
def zcd_(K:Fg):R2:=λx y H Q=>∃a b xs ys,x=.ref a/\y=.ref b/\SqT K H a xs/\SqT K H b ys/\xs.length+ys.length<=sizeLine /\
 (xs=[]->Q (.ref b) H)/\(xs≠[]->ys=[]->Q (.ref a) H)/\(xs≠[]->ys≠[]->∀p,H p=none->Q (.ref p) (upd H p (.tup (xs++ys))))
theorem op_cat0{X:Cx}:OpR X (binaryOp .Add) (zcd_ X.K):=by
 intro pins s σ H x y v u Q I rx ry h
 obtain⟨a,b,xs,ys,rfl,rfl,ha,hb,hz,q0,q1,q2⟩:=h
 by_cases hx:xs=[]
 ·cases rx
  cases ry
  obtain⟨its,r1,p1,_⟩:=I.tuple ha
  obtain⟨its2,r2,p2,_⟩:=I.tuple hb
  have hv:its=[]:=r1.nil_iff.mpr hx
  obtain⟨⟨cls,dd,data,sl⟩,ho,hc,n,hd⟩:=id p1
  obtain⟨⟨cls2,dd2,data2,sl2⟩,ho2,hc2,n2,hd2⟩:=id p2
  simp only at hc hd hc2 hd2
  subst hc hd hc2 hd2
  exact concat_meets ⟨_,ho,rfl⟩ ⟨_,ho2,rfl⟩ noFill_tuple_add seq_tuple_add PySem.F.slot_tuple_add PySem.F.entry_tuple_add (PySem.F.args_tuple_add_2 _ _)
   (tuple_addW0 a b its.toArray its2.toArray n n2 dd dd2 sl sl2 (by simp[hv])) ⟨ho,ho2,⟨.ref b,H,I,rfl,q0 hx⟩⟩
 ·exact zbc_ pins s σ H _ _ v u Q I rx ry ⟨a,b,xs,ys,rfl,rfl,ha,hb,hx,hz,q1 hx,q2 hx⟩
section
variable {K:Fg}{X:Cx}
theorem noS{α:Type}{a:α}{P:Prop}(e:(none:Option α)=some a):P:=nomatch e
theorem okI{C:Int->Int->Prop}{g:Int->Int->V}{f:D->D->Option D}(h:∀dx dy res,f dx dy=some res->∃i j,dx=.int i/\dy=.int j/\C i j/\∀K F,Rep K F (g i j) res):OpD K (rI C g) f:=by
 intro G F σ H ρ x y dx dy res Q S ox oy e k
 obtain⟨i,j,rfl,rfl,hc,hr⟩:=h dx dy res e
 exact⟨i,j,ox.int,oy.int,hc,k _ F H (Same.refl _) S (hr K F)⟩
theorem okB{g:Int->Int->Bool}{f:D->D->Option Bool}(h:∀dx dy res,f dx dy=some res->∃i j,dx=.int i/\dy=.int j/\res=g i j):OpB K (rI0 λi j=>.bl (g i j)) f:=by
 intro G F σ H ρ x y dx dy res Q S ox oy e k
 obtain⟨i,j,rfl,rfl,rfl⟩:=h dx dy res e
 exact⟨i,j,ox.int,oy.int,k⟩
theorem yP_:OpD K (rI0 λi j=>.int (i - j)) yh_:=by
 intro G F σ H ρ x y dx dy res Q S ox oy e k
 cases dx<;>first|exact noS e|(cases dy<;>first|exact noS e|cases e)
 exact⟨_,_,ox.int,oy.int,k _ F H (Same.refl _) S (.int _)⟩
theorem zel_:OpB K (rI0 λi j=>.bl (decide (i<j))) opLt:=okB λdx dy res e=>by
 cases dx<;>first|exact noS e|(cases dy<;>first|exact noS e|cases e)
 exact⟨_,_,rfl,rfl,rfl⟩
theorem zem_:OpB K (rI0 λi j=>.bl (decide (i<=j))) opLe:=okB λdx dy res e=>by
 cases dx<;>first|exact noS e|(cases dy<;>first|exact noS e|cases e)
 exact⟨_,_,rfl,rfl,rfl⟩
theorem Vd_:OpB K (rI0 λi j=>.bl (decide (j<i))) opGt:=okB λdx dy res e=>by
 cases dx<;>first|exact noS e|(cases dy<;>first|exact noS e|cases e)
 exact⟨_,_,rfl,rfl,rfl⟩
theorem zcM_:OpB K (rI0 λi j=>.bl (decide (j<=i))) opGe:=okB λdx dy res e=>by
 cases dx<;>first|exact noS e|(cases dy<;>first|exact noS e|cases e)
 exact⟨_,_,rfl,rfl,rfl⟩
theorem zaf_:OpD K (rI CDiv λi j=>.int (i / j)) Wl_:=okI λdx dy res e=>by
 cases dx<;>first|exact noS e|(cases dy<;>try (exact noS e))
 rename_i i j
 dsimp only[Wl_]at e
 split at e
 ·rename_i hc
  cases e
  simp only[Bool.and_eq_true,zzi]at hc
  exact⟨i,j,rfl,rfl,hc,λ_ _=>.int _⟩
 ·cases e
theorem Zw_:OpD K (rI (λ_ j=>0<j) λi j=>.int (i % j)) yx_:=okI λdx dy res e=>by
 cases dx<;>first|exact noS e|(cases dy<;>try (exact noS e))
 rename_i i j
 dsimp only[yx_]at e
 split at e
 ·rename_i hc
  cases e
  exact⟨i,j,rfl,rfl,hc,λ_ _=>.int _⟩
 ·cases e
theorem zcJ_:OpD K (rI CPow λi j=>.int (i^j.toNat)) Wk_:=okI λdx dy res e=>by
 cases dx<;>first|exact noS e|(cases dy<;>try (exact noS e))
 rename_i i j
 dsimp only[Wk_]at e
 split at e
 ·rename_i hc
  cases e
  simp only[Bool.and_eq_true,zzi]at hc
  exact⟨i,j,rfl,rfl,⟨hc.1.1,hc.1.2,hc.2⟩,λ_ _=>.int _⟩
 ·cases e
theorem zcK_:UnD K (rU λi=>.int (-i)) zbe_:=by
 intro G F σ H ρ x dx res Q S ox e k
 cases dx<;>cases e
 exact⟨_,ox.int,k _ F H (Same.refl _) S (.int _)⟩
theorem Zu_{F:Hp}{vs:List V}{ds:List D}(r:RepL K F vs ds):vs=[]↔ds=[]:=by cases r<;>simp
def zcc_(K:Fg):R2:=λx y H Q=>∃l b xs zs,x=.ref l/\y=.ref b/\SqL K H l xs/\SqL K H b zs/\xs.length+zs.length<=sizeLine/\∀p,H p=none->Q (.ref p) (upd H p (.lst (xs++zs)))
theorem zbd_:OpR X (binaryOp .Add) (zcc_ X.K):=by
 intro pins s σ H x y v u Q I rx ry h
 obtain⟨l,b,xs,zs,rfl,rfl,hH,hB,hz,q⟩:=h
 cases rx
 cases ry
 obtain⟨its,r,pl,_⟩:=I.list hH
 obtain⟨its2,r2,pl2,_⟩:=I.list hB
 obtain⟨⟨cls,dd,data,sl⟩,ho,hc,n,hd⟩:=id pl.isList
 obtain⟨⟨cls2,dd2,data2,sl2⟩,ho2,hc2,n2,hd2⟩:=id pl2.isList
 simp only at hc hd hc2 hd2
 subst hc hd hc2 hd2
 have e:its.toArray++its2.toArray=(its++its2).toArray:=by simp
 refine concat_meets ⟨_,ho,rfl⟩ ⟨_,ho2,rfl⟩ noFill_list_add seq_list_add PySem.F.slot_list_add PySem.F.entry_list_add (PySem.F.args_list_add_2 _ _) (list_addW l b its.toArray its2.toArray n n2 dd dd2 sl sl2 (by rw[List.size_toArray,List.size_toArray,<-r.length,<-r2.length];exact hz)) ⟨ho,ho2,?_⟩
 rw[e]
 exact⟨.ref _,_,I.laid (t':=s.toks) (o:=.lst (xs++zs)) (λb ob q=>zzc _ q) (Nat.le_refl _) ⟨by rw[List.length_append];exact hz,_,0,r.append r2,zze _ rfl⟩,rfl,q _ (I.hok.fresh (Nat.le_refl _))⟩
noncomputable def zdX_:R2:=λx y H Q=>∃i j,x=.str i/\y=.str j/\i.length+j.length<=sizeLine/\Q (.str (i++j)) H
def zce_(K:Fg):R2:=λx y H Q=>rI0 (λi j=>.int (i+j)) x y H Q\/(zdX_ x y H Q\/(zcd_ K x y H Q\/zcc_ K x y H Q))
theorem zW_:OpR X (binaryOp .Add) (zce_ X.K):=op_add.or (OpR.or Vc_ (op_cat0.or zbd_))
theorem ju_:OpD K (zce_ K) z1_:=by
 intro G F σ H ρ x y dx dy res Q S ox oy e k
 cases dx<;>first|exact noS e|(cases dy<;>try (exact noS e))
 ·cases e;exact .inl ⟨_,_,ox.int,oy.int,k _ F H (Same.refl _) S (.int _)⟩
 ·dsimp only[z1_]at e
  split at e
  ·rename_i hz
   cases e
   exact .inr (.inl ⟨_,_,ox.str,oy.str,hz,k _ F H (Same.refl _) S (.str _)⟩)
  ·cases e
 ·dsimp only[z1_]at e
  split at e
  ·rename_i hz
   cases e
   obtain⟨a,vs,rfl,h1,h2⟩:=ox.list S.fh
   obtain⟨b,us,rfl,g1,g2⟩:=oy.list S.fh
   refine .inr (.inr (.inr ⟨a,b,vs,us,rfl,rfl,h1,g1,by rw[h2.length,g2.length];exact hz,λp hp=>?_⟩))
   obtain⟨S2,r2⟩:=S.newLst hp (h2.append g2)
   obtain⟨F2,s3,S3,r3⟩:=S2.settle r2
   exact k _ F2 _ s3 S3 r3
  ·cases e
 ·dsimp only[z1_]at e
  split at e
  ·rename_i hz
   cases e
   obtain⟨a,vs,rfl,h1,h2⟩:=ox.tuple S.fh
   obtain⟨b,us,rfl,g1,g2⟩:=oy.tuple S.fh
   refine .inr (.inr (.inl ⟨a,b,vs,us,rfl,rfl,h1,g1,by rw[h2.length,g2.length];exact hz,λz=>?_,λ_ z=>?_,λ_ _ p hp=>?_⟩))
   ·have z':=(Zu_ h2).mp z
    subst z'
    exact k _ F H (Same.refl _) S oy.tup'
   ·have z':=(Zu_ g2).mp z
    subst z'
    exact k _ F H (Same.refl _) S (by rw[List.append_nil];exact ox.tup')
   ·obtain⟨s2,S2,r2⟩:=S.newTup hp (h2.append g2)
    exact k _ _ _ s2 S2 r2
  ·cases e
theorem U5_:OpD K (rI CMul λi j=>.int (i*j)) yj_:=okI λdx dy res e=>by
 cases dx<;>first|exact noS e|(cases dy<;>try (exact noS e))
 rename_i i j
 dsimp only[yj_]at e
 split at e
 ·rename_i hc
  cases e
  unfold Xy_ at hc
  simp only[Bool.or_eq_true,Bool.and_eq_true,zzi]at hc
  exact⟨i,j,rfl,rfl,hc,λ_ _=>.int _⟩
 ·cases e
end
noncomputable def eqOk(d e:D):Bool:=d.canLay0&&e.canLay0&&decide (d.depth<=1000)
def opEq(d e:D):Option Bool:=if eqOk d e then some (PyData.eqv d e)else none
def opNe(d e:D):Option Bool:=if eqOk d e then some (!PyData.eqv d e)else none
noncomputable def inOk(d:D)(xs:List D):Bool:=PyData.canLayAll0 xs&&d.canLay0&&decide (d.depth<=1000)
noncomputable def zer_(i j:Str):Bool:=!(Builtin.Str.occurrences j i 0 j.length 1).isEmpty
def opIn(d c:D):Option Bool:=match c with
 | .list xs=>if inOk d xs then some (xs.any λy=>PyData.eqv y d)else none
 | .tuple xs=>if inOk d xs then some (xs.any λy=>PyData.eqv y d)else none
 | .str j=>match d with
  | .str i=>some (zer_ i j)
  | _=>none
 | _=>none
noncomputable def isNone:D->Bool
 | .none=>true
 | _=>false
noncomputable def zcH_(d e:D):Option Bool:=match e with
 | .none=>some (isNone d)
 | _=>none
noncomputable def rD2(K:Fg)(f:D->D->Option Bool):R2:=λx y H Q=>∃d e b,Rep K H x d/\Rep K H y e/\f d e=some b/\Q (.bl b) H
theorem jY_{K:Fg}{f:D->D->Option Bool}:OpB K (rD2 K f) f:=by
 intro G F σ H ρ x y dx dy res Q S ox oy e k
 exact⟨dx,dy,res,ox.rep S.fh,oy.rep S.fh,e,k⟩
theorem Rep.non_iff{K:Fg}{F:Hp}{v:V}{d:D}(r:Rep K F v d):(decide (v=.non))=isNone d:=by
 cases r<;>rfl
section
variable {X:Cx}
theorem js_(hu:X.A.units+1100<cLine):OpR X (compareOp .Eq) (rD2 X.K opEq):=by
 intro pins s σ H x y v u Q I rx ry ⟨d,e,b,r1,r2,ho,q⟩
 unfold opEq at ho
 split at ho
 case isFalse=>cases ho
 rename_i hc
 cases ho
 simp only[eqOk,Bool.and_eq_true,zzi]at hc
 obtain⟨as,ra⟩:=(jP_ I).1 r1 hc.1.1 rx
 obtain⟨bs,rb⟩:=(jP_ I).1 r2 hc.1.2 ry
 exact SeqAt.compareEq_reads ra rb hc.1.1 hc.1.2 (by have:=Nat.min_le_left d.depth e.depth;lia) ⟨.bl _,H,I,rfl,q⟩
theorem zaa_(hu:X.A.units+1100<cLine):OpR X (compareOp .NotEq) (rD2 X.K opNe):=by
 intro pins s σ H x y v u Q I rx ry ⟨d,e,b,r1,r2,ho,q⟩
 unfold opNe at ho
 split at ho
 case isFalse=>cases ho
 rename_i hc
 cases ho
 simp only[eqOk,Bool.and_eq_true,zzi]at hc
 obtain⟨as,ra⟩:=(jP_ I).1 r1 hc.1.1 rx
 obtain⟨bs,rb⟩:=(jP_ I).1 r2 hc.1.2 ry
 exact SeqAt.compareNe_reads ra rb hc.1.1 hc.1.2 (by have:=Nat.min_le_left d.depth e.depth;lia) ⟨.bl _,H,I,rfl,q⟩
theorem zcB_(hu:X.A.units+1100<cLine):OpR X (compareOp .In) (rD2 X.K opIn):=by
 intro pins s σ H x y v u Q I rx ry ⟨d,e,b,r1,r2,ho,q⟩
 unfold opIn at ho
 split at ho
 ·rename_i xs
  split at ho
  case isFalse=>cases ho
  rename_i hc
  cases ho
  simp only[inOk,Bool.and_eq_true,zzi]at hc
  obtain⟨as,ra⟩:=(jP_ I).1 r1 hc.1.2 rx
  obtain⟨bs,rb⟩:=(jP_ I).1 r2 (by simpa[PyData.canLay0]using hc.1.1) ry
  exact SeqAt.in_list_reads rb ra hc.1.1 hc.1.2 (by have:=Nat.min_le_right (PyData.depthAll xs) d.depth;lia) ⟨.bl _,H,I,rfl,q⟩
 ·rename_i xs
  split at ho
  case isFalse=>cases ho
  rename_i hc
  cases ho
  simp only[inOk,Bool.and_eq_true,zzi]at hc
  obtain⟨as,ra⟩:=(jP_ I).1 r1 hc.1.2 rx
  obtain⟨bs,rb⟩:=(jP_ I).1 r2 (by simpa[PyData.canLay0]using hc.1.1) ry
  exact SeqAt.in_tuple_reads rb ra hc.1.1 hc.1.2 (by have:=Nat.min_le_right (PyData.depthAll xs) d.depth;lia) ⟨.bl _,H,I,rfl,q⟩
 ·split at ho
  ·cases ho
   obtain rfl:=r1.str_inv;obtain rfl:=r2.str_inv
   exact Wi_ pins s σ H _ _ v u Q I rx ry ⟨_,_,rfl,rfl,q⟩
  ·cases ho
 ·cases ho
theorem zba_:OpR X (compareOp .Is) (rD2 X.K zcH_):=by
 intro pins s σ H x y v u Q I rx ry ⟨d,e,b,r1,r2,ho,q⟩
 unfold zcH_ at ho
 split at ho
 ·cases ho
  cases r2
  refine zcF_ pins s σ H x _ v u Q I rx ry ⟨rfl,?_⟩
  rw[Rep.non_iff r1]
  exact q
 ·cases ho
end
def opIx:D->D->Option D
 | .list ds,.int i=>atI ds i
 | .tuple ds,.int i=>atI ds i
 | .str z,.int i=>if z.length<=sizeLine then(atI z.cps.toList i).map λc=>.str ⟨#[c]⟩else none
 | _,_=>none
theorem WY_{K:Fg}{F:Hp}{vs:List V}{ds:List D}{i:Int}{d:D}(r:RepL K F vs ds)(h:atI ds i=some d):∃v,atI vs i=some v/\Rep K F v d:=by
 unfold atI at h ⊢
 rw[r.length]
 cases q:ixN ds.length i with
 | none=>rw[q]at h;cases h
 | some j =>
  rw[q]at h
  exact r.get (i:=j) h
theorem zen_{K:Fg}:OpD K (rIx K) opIx:=by
 intro G F σ H ρ x y dx dy res Q S ox oy e k
 cases dx<;>first|exact noS e|(cases dy<;>try (exact noS e))
 ·dsimp only[opIx]at e
  split at e
  ·rename_i hz
   obtain⟨c,hc,rfl⟩:=Option.map_eq_some_iff.mp e
   exact .inr (.inr ⟨_,_,c,ox.str,oy.int,hz,hc,k _ F H (Same.refl _) S (.str _)⟩)
  ·cases e
 ·obtain⟨a,vs,rfl,h1,h2⟩:=ox.list S.fh
  obtain⟨v,e1,e2⟩:=WY_ h2 e
  exact .inl ⟨a,vs,_,v,rfl,oy.int,h1,e1,k v F H (Same.refl _) S e2⟩
 ·obtain⟨a,vs,rfl,h1,h2⟩:=ox.tuple S.fh
  obtain⟨v,e1,e2⟩:=WY_ h2 e
  exact .inr (.inl ⟨a,vs,_,v,rfl,oy.int,h1,e1,k v F H (Same.refl _) S e2⟩)
theorem Vals.one{v:V}{us:List Value}(h:Vals [v] us):∃u,us=[u]/\RelV v u:=by
 cases h with|cons a b=>cases b;exact⟨_,rfl,a⟩
noncomputable def fLen:List D->Option D
 | [.list ds]=>some (.int ds.length)
 | [.tuple ds]=>some (.int ds.length)
 | [.str z]=>if z.length<=sizeLine then some (.int z.length)else none
 | _=>none
noncomputable def yY_:List D->Option D
 | [.list ds]=>some (.tuple ds)
 | [.tuple ds]=>some (.tuple ds)
 | _=>none
noncomputable def fAbs:List D->Option D
 | [.int i]=>some (.int (if i<0 then -i else i))
 | _=>none
noncomputable def WI_:List D->Option D
 | [.int i,.int j]=>some (.int (if j<i then j else i))
 | _=>none
def rLen(K:Fg):List V->Hp->VK->Prop:=λxs H Q=>(∃p ys,xs=[.ref p]/\(SqL K H p ys\/SqT K H p ys)/\Q (.int ys.length) H)\/∃z,xs=[.str z]/\z.length<=sizeLine/\Q (.int z.length) H
theorem je_{X:Cx}:CallR X (.builtin "len") (rLen X.K):=CallR.or YB_ YA_
theorem yk_{K:Fg}:JG_ K (rLen K) fLen:=by
 intro G F σ H ρ xs ds res Q S o e k
 unfold fLen at e
 split at e
 ·rename_i es
  cases e
  obtain⟨v,r,rfl,ho,hr⟩:=z3_ o
  obtain rfl:=jG_ hr
  obtain⟨a,vs,rfl,h1,h2⟩:=ho.list S.fh
  exact .inl ⟨a,vs,rfl,.inl h1,k _ F H (Same.refl _) S (by rw[h2.length];exact .int _)⟩
 ·rename_i es
  cases e
  obtain⟨v,r,rfl,ho,hr⟩:=z3_ o
  obtain rfl:=jG_ hr
  obtain⟨a,vs,rfl,h1,h2⟩:=ho.tuple S.fh
  exact .inl ⟨a,vs,rfl,.inr h1,k _ F H (Same.refl _) S (by rw[h2.length];exact .int _)⟩
 ·split at e
  ·rename_i hz
   cases e
   obtain⟨v,r,rfl,ho,hr⟩:=z3_ o
   obtain rfl:=jG_ hr
   exact .inr ⟨_,by rw[ho.str],hz,k _ F H (Same.refl _) S (.int _)⟩
  ·cases e
 ·cases e
theorem yO_{K:Fg}:JG_ K (λxs H Q=>∃p ys,xs=[.ref p]/\((SqL K H p ys/\∀l,H l=none->Q (.ref l) (upd H l (.tup ys)))\/(SqT K H p ys/\Q (.ref p) H))) yY_:=by
 intro G F σ H ρ xs ds res Q S o e k
 unfold yY_ at e
 split at e
 ·rename_i es
  cases e
  obtain⟨v,r,rfl,ho,hr⟩:=z3_ o
  obtain rfl:=jG_ hr
  obtain⟨a,vs,rfl,h1,h2⟩:=ho.list S.fh
  refine⟨a,vs,rfl,.inl ⟨h1,λl hl=>?_⟩⟩
  obtain⟨s2,S2,r2⟩:=S.newTup hl h2
  exact k _ _ _ s2 S2 r2
 ·rename_i es
  cases e
  obtain⟨v,r,rfl,ho,hr⟩:=z3_ o
  obtain rfl:=jG_ hr
  have ho:=ho.tup'
  cases ho with
  | tup h1 h2=>exact⟨_,_,rfl,.inr ⟨SqT.of (S.fh _ _ h1),k _ F H (Same.refl _) S (show Rep K F _ _ from .tup h1 h2)⟩⟩
 ·cases e
theorem zag_{K:Fg}:JG_ K (λxs H Q=>∃i,xs=[.int i]/\Q (.int (if i<0 then -i else i)) H) fAbs:=by
 intro G F σ H ρ xs ds res Q S o e k
 unfold fAbs at e
 split at e
 ·cases e
  obtain⟨v,r,rfl,ho,hr⟩:=z3_ o
  obtain rfl:=jG_ hr
  exact⟨_,by rw[ho.int],k _ F H (Same.refl _) S (show Rep K F _ _ from .int _)⟩
 ·cases e
theorem zbf_{K:Fg}:JG_ K (λxs H Q=>∃i j,xs=[.int i,.int j]/\Q (.int (if j<i then j else i)) H) WI_:=by
 intro G F σ H ρ xs ds res Q S o e k
 unfold WI_ at e
 split at e
 ·cases e
  obtain⟨v,r,rfl,ho,hr⟩:=z3_ o
  obtain⟨v2,r2,rfl,ho2,hr2⟩:=z3_ hr
  obtain rfl:=jG_ hr2
  exact⟨_,_,by rw[ho.int,ho2.int],k _ F H (Same.refl _) S (show Rep K F _ _ from .int _)⟩
 ·cases e
noncomputable def Z4_(d:D):Bool:=d.showable&&d.canLay0&&decide (d.depth<=1000)&&decide (d.shown.length<=sizeLine)
def Yt_:List D->Option D
 | [d]=>if Z4_ d then some (.str d.shown)else none
 | _=>none
def zbZ_(K:Fg):List V->Hp->VK->Prop:=λxs H Q=>∃v d,xs=[v]/\Rep K H v d/\Z4_ d=true/\Q (.str d.shown) H
theorem Up_{K:Fg}:JG_ K (zbZ_ K) Yt_:=by
 intro G F σ H ρ xs ds res Q S o e k
 unfold Yt_ at e
 split at e
 ·rename_i d
  split at e
  ·rename_i hc
   cases e
   obtain⟨v,r,rfl,ho,hr⟩:=z3_ o
   obtain rfl:=jG_ hr
   exact⟨v,d,rfl,ho.rep S.fh,hc,k _ F H (Same.refl _) S (.str _)⟩
  ·cases e
 ·cases e
theorem y1_{X:Cx}(hu:X.A.units+1100<cLine)(hg:X.A.guards=some []):CallR X (.builtin "repr") (zbZ_ X.K):=by
 intro pins s σ H xs us Q I r h0
 obtain⟨v,d,rfl,rp,hc,q⟩:=h0
 obtain⟨u,rfl,ru⟩:=Vals.one r
 simp only[Z4_,Bool.and_eq_true,zzi]at hc
 obtain⟨as,ra⟩:=(jP_ I).1 rp hc.1.1.2 ru
 have big:∀a,v=.ref a->wpAny (model X.prog X.w) X.A (call (.builtin "repr") [u]) (EP X pins σ Q) X.xe s:=λa e=>by
  subst e
  cases ru
  exact repr_of_reads' ra hc.1.1.1 (PyData.noDict_hsm (PyData.hasDict_of_canLay d hc.1.1.2)) hg (by lia) (λ_ _ e=>e) (λh' u tk hk=>⟨.str _,H,I.kept hk,⟨_,rfl⟩,q⟩) hc.2
 cases rp with
 | non=>cases ru;exact PySem.P.repr_of_none ⟨.str _,H,I.tok _,⟨_,rfl⟩,q⟩
 | bl b=>cases ru;exact PySem.P.repr_of_bool ⟨.str _,H,I.tok _,⟨_,rfl⟩,q⟩
 | int i=>obtain⟨t,rfl⟩:=ru;exact PySem.P.repr_of_int (by simpa[PyData.showable]using hc.1.1.1) ⟨.str _,H,I.tok _,⟨_,rfl⟩,q⟩
 | str x=>obtain⟨t,rfl⟩:=ru;exact PySem.P.repr_of_str ⟨.str _,H,I.tok _,⟨_,rfl⟩,q⟩ hc.2
 | tup h1 h2=>exact big _ rfl
 | lst h1 h2=>exact big _ rfl
 | dct h1 h2 h3=>exact big _ rfl
 | dck h1 h2 h3=>exact big _ rfl
 | exc _ _ _ _ _=>exact big _ rfl
 | fn _=>exact big _ rfl
noncomputable def tyD:D->String
 | .none => "NoneType"
 | .bool _ => "bool"
 | .int _ => "int"
 | .str _ => "str"
 | .list _ => "list"
 | .tuple _ => "tuple"
 | .dict es=>if isXe es then "" else "dict"
noncomputable def isS(T S:String):Bool:=S==T||(S == "bool" && T == "int")
def isT(T:String)(d:D):Bool:=isS T (tyD d)
noncomputable def intsOf:List D->Option (List Int)
 | []=>some []
 | .int i::r=>match intsOf r with
  | some l=>some (i::l)
  | none=>none
 | _=>none
theorem u7_:∀{ds:List D} {ns:List Int},intsOf ds=some ns->ds=ns.map PyData.int
 | [],ns,h=>by cases h;rfl
 | .int i::r,ns,h=>by
  dsimp only[intsOf]at h
  split at h
  ·rename_i l e;cases h;rw[u7_ e];rfl
  ·cases h
 | .none::_,_,h=>by cases h
 | .bool _::_,_,h=>by cases h
 | .str _::_,_,h=>by cases h
 | .list _::_,_,h=>by cases h
 | .tuple _::_,_,h=>by cases h
 | .dict _::_,_,h=>by cases h
theorem uU_{K:Fg}{F:Hp}:∀{vs:List V} {ns:List Int},RepL K F vs (ns.map PyData.int)->vs=ns.map V.int
 | _,[],h=>by cases h;rfl
 | _,n::r,h=>by
  cases h with
  | cons a b=>cases a;rw[uU_ b];rfl
noncomputable def kitT(S T:String):Option Bool:=if(Value.type S==Value.type T)=true then some true else if PySem.W.kitMeta T=true then(fastBuiltinMro S).map (·.contains (.type T))else none
theorem zbm_(K:Fg)(S T:String):PySem.W.kitOne K (.type S) (.type T)=kitT S T:=rfl
theorem zbl_:∀S∈["NoneType", "bool", "int", "str", "list", "tuple", "dict"],∀T∈["bool", "int", "str", "list", "tuple", "dict"],kitT S T=some (isS T S):=by decide +kernel
theorem zcU_(K:Fg){T:String}(h:tyOk T=true)(d:D)(hx:∀es,d=.dict es->isXe es=false):PySem.W.kitOne K (.type (tyD d)) (.type T)=some (isT T d):=by
 simp only[tyOk,Bool.or_eq_true,beq_iff_eq]at h
 rw[zbm_]
 refine zbl_ (tyD d) ?_ T (by rcases h with ((((rfl|rfl)|rfl)|rfl)|rfl)|rfl<;>simp)
 cases d with
 | dict es=>simp[tyD,hx es rfl]
 | _=>simp[tyD]
theorem WA_{kvs:List (List Key×V)}{es:List (D×D)}(h:es.map (·.1)=kvs.map (λp=>keyT p.1)):isXe es=false:=by
 cases es with
 | nil=>rfl
 | cons e r =>
  cases kvs with
  | nil=>cases h
  | cons k ks =>
   obtain⟨e1,e2⟩:=e
   simp only[List.map_cons,List.cons.injEq]at h
   rw[h.1]
   rfl
theorem WB_{kvs:List (Key×V)}{es:List (D×D)}(h:es.map (·.1)=kvs.map (λp=>keyD p.1)):isXe es=false:=by
 cases es with
 | nil=>rfl
 | cons e r =>
  cases kvs with
  | nil=>cases h
  | cons k ks =>
   obtain⟨e1,e2⟩:=e
   obtain⟨k1,k2⟩:=k
   simp only[List.map_cons,List.cons.injEq]at h
   rw[h.1]
   cases k1<;>rfl
theorem zaA_{T:String}(h:tyOk T=true):isS T "" = false:=by
 simp only[tyOk,Bool.or_eq_true,beq_iff_eq]at h
 rcases h with ((((rfl|rfl)|rfl)|rfl)|rfl)|rfl<;>rfl
theorem Vp_{X:Cx}{T:String}(hT:tyOk T=true){pins:List (Addr×Obj)}{σ:L2.St}{H:Hp}{s:Shared}{v:V}{d:D}{u:Value}{Q:Value->Shared->Prop}{E:Value->Shared->Prop}(I:Inv X pins σ H s)(rp:Rep X.K H v d)(nf:isFn d=false)(ru:RelV v u)
  (h:∀tk,Q (.bool (isT T d)) { s with toks:=tk }):wpAny (model X.prog X.w) X.A (call (.builtin "isinstance") [u,.type T]) Q E s:=by
 have ee:=zcU_ X.K hT d
 cases rp with
 | non =>
  have e:=ee λ_ z=>by cases z
  cases ru;exact PySem.W.kia_one PySem.W.kitx_none I.kIn True.intro e (λz=>nomatch z) h
 | bl y =>
  have e:=ee λ_ z=>by cases z
  cases ru;exact PySem.W.kia_one PySem.W.kitx_bool I.kIn True.intro e (λz=>nomatch z) h
 | int i =>
  have e:=ee λ_ z=>by cases z
  obtain⟨t,rfl⟩:=ru;exact PySem.W.kia_one PySem.W.kitx_int I.kIn True.intro e (λz=>nomatch z) h
 | str y =>
  have e:=ee λ_ z=>by cases z
  obtain⟨t,rfl⟩:=ru;exact PySem.W.kia_one PySem.W.kitx_str I.kIn True.intro e (λz=>nomatch z) h
 | lst h1 h2 =>
  have e:=ee λ_ z=>by cases z
  cases ru
  obtain⟨its,_,⟨o,n,e1,e2,_⟩,_⟩:=I.list h1
  exact PySem.W.kia_one PySem.W.kitx_list I.kIn ⟨o,e1,e2⟩ e (λz=>nomatch z) h
 | tup h1 h2 =>
  have e:=ee λ_ z=>by cases z
  cases ru
  obtain⟨its,_,⟨o,e1,e2,_⟩,_⟩:=I.tuple (SqT.of h1)
  exact PySem.W.kia_one PySem.W.kitx_tuple I.kIn ⟨o,e1,e2⟩ e (λz=>nomatch z) h
 | dct h1 h2 h3 =>
  have e:=ee λ_ z=>by cases z;exact WA_ h2
  rw[show tyD (.dict _) = "dict" from by simp[tyD,WA_ h2]]at e
  cases ru
  obtain⟨z,y,xs,kt,o,es,ep,g1,g2,_⟩:=zdo_ I.hok h1
  exact PySem.W.kia_one PySem.W.kitx_dict I.kIn ⟨o,g1,g2.1⟩ e (λz=>nomatch z) h
 | dck h1 h2 h3 =>
  have e:=ee λ_ z=>by cases z;exact WB_ h2
  rw[show tyD (.dict _) = "dict" from by simp[tyD,WB_ h2]]at e
  cases ru
  obtain⟨z,y,xs,kt,o,es,ep,g1,g2,_⟩:=zdp_ I.hok h1
  exact PySem.W.kia_one PySem.W.kitx_dict I.kIn ⟨o,g1,g2.1⟩ e (λz=>nomatch z) h
 | exc h1 q fx h2 h3 =>
  cases ru
  obtain⟨D,fI,xc⟩:=q.xc
  have at_:XAt H _ _ _:=⟨h1,λdx z=>by
   rcases fx with ⟨z',_⟩|⟨dx',z',y⟩
   ·rw[z']at z;cases z
   ·rw[z']at z;cases z;exact⟨_,y⟩⟩
  refine Vq_ I xc q.kc at_ (q.no T hT) ?_
  rw[show isT T (.dict ((.none,.str _)::_))=false from zaA_ hT]at h
  exact h
 | fn _=>cases nf
section
variable {K:Fg}{G:Gh}{F H:Hp}{σ:L2.St}{ρ ρ':En}
theorem _root_.L3.StOk.weak(S:StOk K G F σ H ρ)(hl:ρ'.length=ρ.length)(h:∀(i:Nat) (av:AV),ρ'[i]? = some (some av)->ρ[i]? = some (some av))(hp:∀(i:Nat) (c:OC),ρ[i]? = some (some (AV.op c))->ρ'[i]? = some (some (AV.op c))):StOk K G F σ H ρ':=by
 have ow':∀j c,own ρ' j c->own ρ j c:=λj c q=>q.imp (h _ _) (h _ _)
 refine⟨S.fh,S.oh,S.fo,S.ln.trans hl.symm,λj d q=>S.fz j d (h _ _ q),λj c q=>S.ow j c (ow' j c q),λj k c e a h1 h2=>S.dj j k c e a (ow' j c h1) (ow' k e h2),λj a q=>?_,λj c q=>S.pq j c (h _ _ q),S.fb⟩
 obtain⟨q1,c,q2⟩:=S.pp j a q
 exact⟨q1,c,hp _ _ q2⟩
theorem yg_{k:Nat}{i:Nat}{av:AV}(h:(ρ++List.replicate k none)[i]? = some (some av)):ρ[i]? = some (some av):=by
 by_cases hi:i<ρ.length
 ·rw[List.getElem?_append_left hi]at h;exact h
 ·rw[List.getElem?_append_right (Nat.not_lt.mp hi),List.getElem?_replicate]at h
  split at h<;>cases h
theorem _root_.L3.StOk.grow(S:StOk K G F σ H ρ)(k:Nat):StOk K G F (σ++List.replicate k none) H (ρ++List.replicate k none):=by
 have ap:∀{i:Nat} {v:V},σ[i]? = some (some v)->(σ++List.replicate k none)[i]? = some (some v):=λ{i v} e=>by
  rw[List.getElem?_append_left (List.getElem?_eq_some_iff.mp e).1];exact e
 have apr:∀{i:Nat} {v:AV},ρ[i]? = some (some v)->(ρ++List.replicate k none)[i]? = some (some v):=λ{i v} e=>by
  rw[List.getElem?_append_left (List.getElem?_eq_some_iff.mp e).1];exact e
 have ow':∀i c,own (ρ++List.replicate k none) i c->own ρ i c:=λi c h=>by
  rcases h with h|h
  ·exact .inl (yg_ h)
  ·exact .inr (yg_ h)
 refine⟨S.fh,S.oh,S.fo,by simp[S.ln],λi d h=>?_,λi c h=>?_,λi j c e a h1 h2 e1 e2=>?_,λi a h=>?_,λi c h=>S.pq i c (yg_ h),S.fb⟩
 ·obtain⟨v,e,r⟩:=S.fz i d (yg_ h);exact⟨v,ap e,r⟩
 ·obtain⟨a,e,oa⟩:=S.ow i c (ow' i c h);exact⟨a,ap e,oa⟩
 ·have o1:=ow' i c h1
  have o2:=ow' j e h2
  obtain⟨a1,q1,_⟩:=S.ow i c o1
  obtain⟨a2,q2,_⟩:=S.ow j e o2
  rw[ap q1]at e1;rw[ap q2]at e2
  injection e1 with e1;injection e2 with e2
  exact S.dj i j c e a o1 o2 (by rw[q1,e1]) (by rw[q2,e2])
 ·obtain⟨e,c,q⟩:=S.pp i a h;exact⟨ap e,c,apr q⟩
theorem _root_.L3.StOk.shrink(S:StOk K G F σ H ρ){n:Nat}(hn:n<=ρ.length)(hp:∀i a,G.P i=some a->i<n):StOk K G F (σ.take n) H (ρ.take n):=by
 have tk:∀{i:Nat} {v:AV},(ρ.take n)[i]? = some (some v)->i<n/\ρ[i]? = some (some v):=λ{i v} e=>by
  have hi:i<n:=by
   have:=(List.getElem?_eq_some_iff.mp e).1
   rw[List.length_take]at this;lia
  rw[List.getElem?_take_of_lt hi]at e
  exact⟨hi,e⟩
 have ow':∀i c,own (ρ.take n) i c->i<n/\own ρ i c:=λi c h=>by
  rcases h with h|h
  ·exact⟨(tk h).1,.inl (tk h).2⟩
  ·exact⟨(tk h).1,.inr (tk h).2⟩
 refine⟨S.fh,S.oh,S.fo,by simp[S.ln],λi d h=>?_,λi c h=>?_,λi j c e a h1 h2 e1 e2=>?_,λi a h=>?_,λi c h=>S.pq i c (tk h).2,S.fb⟩
 ·obtain⟨v,e,r⟩:=S.fz i d (tk h).2;exact⟨v,by rw[List.getElem?_take_of_lt (tk h).1];exact e,r⟩
 ·obtain⟨a,e,oa⟩:=S.ow i c (ow' i c h).2;exact⟨a,by rw[List.getElem?_take_of_lt (ow' i c h).1];exact e,oa⟩
 ·rw[List.getElem?_take_of_lt (ow' i c h1).1]at e1
  rw[List.getElem?_take_of_lt (ow' j e h2).1]at e2
  exact S.dj i j c e a (ow' i c h1).2 (ow' j e h2).2 e1 e2
 ·obtain⟨e,c,q⟩:=S.pp i a h
  exact⟨by rw[List.getElem?_take_of_lt (hp i a h)];exact e,c,by rw[List.getElem?_take_of_lt (hp i a h)];exact q⟩
end
theorem JJ_{α:Type}{l l':List α}{n:Nat}(h:∀j,j<n->l'[j]? = l[j]?)(hl:l.length=n):l'.take n=l:=by
 apply List.ext_getElem?
 intro i
 by_cases hi:i<n
 ·rw[List.getElem?_take_of_lt hi,h i hi]
 ·rw[List.getElem?_eq_none_iff.mpr (by rw[List.length_take];lia),List.getElem?_eq_none_iff.mpr (by lia)]
inductive Kd where
 | dead|f|o|p|t|k
 | i (x:Str) (ns:List Str)|j (x:Str) (ns:List Str)
@[reducible] noncomputable def SOf:List Kd->Type
 | []=>Unit
 | .dead::r=>SOf r
 | .f::r=>D×SOf r
 | .o::r=>List D×SOf r
 | .p::r=>List D×SOf r
 | .t::r=>List (D×D)×SOf r
 | .k::r=>List (D×D)×SOf r
 | .i _ _::r=>List D×SOf r
 | .j _ _::r=>List D×SOf r
noncomputable def rd:(sh:List Kd)->En->Option (SOf sh)
 | [],[]=>some ()
 | .dead::r,x::ρ=>match x with
  | some (.op _)=>none
  | _=>rd r ρ
 | .f::r,x::ρ=>match x with
  | some (.fz d)=>match rd r ρ with
   | some s=>some (d,s)
   | none=>none
  | _=>none
 | .o::r,x::ρ=>match x with
  | some (.ol (.l ds))=>match rd r ρ with
   | some s=>some (ds,s)
   | none=>none
  | _=>none
 | .p::r,x::ρ=>match x with
  | some (.op (.l ds))=>match rd r ρ with
   | some s=>some (ds,s)
   | none=>none
  | _=>none
 | .t::r,x::ρ=>match x with
  | some (.ol (.t ds))=>match rd r ρ with
   | some s=>some (ds,s)
   | none=>none
  | _=>none
 | .k::r,x::ρ=>match x with
  | some (.ol (.k ds))=>match rd r ρ with
   | some s=>some (ds,s)
   | none=>none
  | _=>none
 | .i y ns::r,x::ρ=>match x with
  | some (.ol (.i z ms ds))=>if z=y/\ms=ns then(match rd r ρ with
   | some s=>some (ds,s)
   | none=>none)else none
  | _=>none
 | .j y ns::r,x::ρ=>match x with
  | some (.op (.i z ms ds))=>if z=y/\ms=ns then(match rd r ρ with
   | some s=>some (ds,s)
   | none=>none)else none
  | _=>none
 | _,_=>none
noncomputable def wr:(sh:List Kd)->SOf sh->En
 | [],_=>[]
 | .dead::r,s=>none::wr r s
 | .f::r,s=>some (.fz s.1)::wr r s.2
 | .o::r,s=>some (.ol (.l s.1))::wr r s.2
 | .p::r,s=>some (.op (.l s.1))::wr r s.2
 | .t::r,s=>some (.ol (.t s.1))::wr r s.2
 | .k::r,s=>some (.ol (.k s.1))::wr r s.2
 | .i y ns::r,s=>some (.ol (.i y ns s.1))::wr r s.2
 | .j y ns::r,s=>some (.op (.i y ns s.1))::wr r s.2
def Wk(w ρ:En):Prop:=w.length=ρ.length/\(∀(i:Nat) (av:AV),w[i]? = some (some av)->ρ[i]? = some (some av))/\(∀(i:Nat) (c:OC),ρ[i]? = some (some (AV.op c))->w[i]? = some (some (AV.op c)))
theorem yq_{w ρ:En}{x:Option AV}(h:Wk w ρ):Wk (x::w) (x::ρ):=by
 refine⟨congrArg (· + 1) h.1,λi av q=>?_,λi c q=>?_⟩
 ·cases i with
  | zero=>exact q
  | succ i=>exact h.2.1 i av q
 ·cases i with
  | zero=>exact q
  | succ i=>exact h.2.2 i c q
theorem zay_{w ρ:En}{x:Option AV}(hx:∀c,x≠some (AV.op c))(h:Wk w ρ):Wk (none::w) (x::ρ):=by
 refine⟨congrArg (· + 1) h.1,λi av q=>?_,λi c q=>?_⟩
 ·cases i with
  | zero=>cases q
  | succ i=>exact h.2.1 i av q
 ·cases i with
  | zero=>exact absurd (Option.some.inj q) (hx c)
  | succ i=>exact h.2.2 i c q
theorem Jx_:∀(sh:List Kd) (ρ:En) (s:SOf sh),rd sh ρ=some s->Wk (wr sh s) ρ
 | [],[],s,h=>⟨rfl,λi av q=>q,λi c q=>q⟩
 | [],_::_,s,h=>by cases h
 | a::r,[],s,h=>by cases a<;>cases h
 | .dead::r,x::ρ,s,h=>by
  dsimp only[rd]at h
  split at h
  ·cases h
  ·rename_i hx
   exact zay_ hx (Jx_ r ρ s h)
 | .f::r,x::ρ,s,h=>by
  dsimp only[rd]at h
  split at h
  ·split at h
   ·rename_i s' e
    cases h
    exact yq_ (Jx_ r ρ s' e)
   ·cases h
  ·cases h
 | .o::r,x::ρ,s,h=>by
  dsimp only[rd]at h
  split at h
  ·split at h
   ·rename_i s' e
    cases h
    exact yq_ (Jx_ r ρ s' e)
   ·cases h
  ·cases h
 | .p::r,x::ρ,s,h=>by
  dsimp only[rd]at h
  split at h
  ·split at h
   ·rename_i s' e
    cases h
    exact yq_ (Jx_ r ρ s' e)
   ·cases h
  ·cases h
 | .t::r,x::ρ,s,h=>by
  dsimp only[rd]at h
  split at h
  ·split at h
   ·rename_i s' e
    cases h
    exact yq_ (Jx_ r ρ s' e)
   ·cases h
  ·cases h
 | .k::r,x::ρ,s,h=>by
  dsimp only[rd]at h
  split at h
  ·split at h
   ·rename_i s' e
    cases h
    exact yq_ (Jx_ r ρ s' e)
   ·cases h
  ·cases h
 | .i y ns::r,x::ρ,s,h=>by
  dsimp only[rd]at h
  split at h
  ·split at h
   ·rename_i hc
    split at h
    ·rename_i s' e
     cases h
     obtain⟨rfl,rfl⟩:=hc
     exact yq_ (Jx_ r ρ s' e)
    ·cases h
   ·cases h
  ·cases h
 | .j y ns::r,x::ρ,s,h=>by
  dsimp only[rd]at h
  split at h
  ·split at h
   ·rename_i hc
    split at h
    ·rename_i s' e
     cases h
     obtain⟨rfl,rfl⟩:=hc
     exact yq_ (Jx_ r ρ s' e)
    ·cases h
   ·cases h
  ·cases h
theorem _root_.L3.StOk.rd{K:Fg}{G:Gh}{F H:Hp}{σ:L2.St}{ρ:En}{sh:List Kd}{s:SOf sh}(S:StOk K G F σ H ρ)(h:L4.rd sh ρ=some s):StOk K G F σ H (wr sh s):=by
 obtain⟨h1,h2,h3⟩:=Jx_ sh ρ s h
 exact S.weak h1 h2 h3
noncomputable def rdk{S:Type}(sh:List Kd)(k:SOf sh->M S)(ρ:En):M S:=match rd sh ρ with
 | some s=>k s
 | none=>.bad
noncomputable abbrev Ev(S α:Type):=(Ex->En->M S)->(α->En->M S)->En->M S
structure KS(S:Type) where
 nx:En->M S
 rt:D->En->M S
 rl:List D->En->M S
 bk:En->M S
 ct:En->M S
 x:Ex->En->M S
def KOk{S:Type}(OK:M S->Prop):Prop:=¬ OK .bad
def XL{S:Type}(X:Cx)(OK:M S->Prop)(x:Ex->En->M S)(G:Gh):Prop:=∀F ρ e,OK (x e ρ)->XW X G F ρ e
def AE{S:Type}(X:Cx)(e:Expr)(m:Ev S D):Prop :=
 ∀(OK:M S->Prop) (x:Ex->En->M S) (k:D->En->M S) (G:Gh) (F:Hp) (σ:L2.St) (H:Hp) (ρ:En) (Q:VK),KOk OK->XL X OK x G->StOk X.K G F σ H ρ->OK (m x k ρ) ->
  (∀d v F' H' ρ',Same F F'->StOk X.K G F' σ H' ρ'->Rep X.K F' v d->OK (k d ρ')->Q v H')->tSem X e σ H Q
def AEt{S:Type}(X:Cx)(e:Expr)(m:Ev S Bool):Prop :=
 ∀(OK:M S->Prop) (x:Ex->En->M S) (k:Bool->En->M S) (G:Gh) (F:Hp) (σ:L2.St) (H:Hp) (ρ:En) (Q:Bool->Hp->Prop),KOk OK->XL X OK x G->StOk X.K G F σ H ρ->OK (m x k ρ) ->
  (∀d F' H' ρ',Same F F'->StOk X.K G F' σ H' ρ'->OK (k d ρ')->Q d H')->Q1_ X e σ H Q
def AEb{S:Type}(X:Cx)(e:Expr)(m:Ev S Bool):Prop :=
 ∀(OK:M S->Prop) (x:Ex->En->M S) (k:Bool->En->M S) (G:Gh) (F:Hp) (σ:L2.St) (H:Hp) (ρ:En) (Q:VK),KOk OK->XL X OK x G->StOk X.K G F σ H ρ->OK (m x k ρ) ->
  (∀d F' H' ρ',Same F F'->StOk X.K G F' σ H' ρ'->OK (k d ρ')->Q (.bl d) H')->tSem X e σ H Q
def AEa{S:Type}(X:Cx)(es:List Expr)(m:Ev S (List D)):Prop :=
 ∀(OK:M S->Prop) (x:Ex->En->M S) (k:List D->En->M S) (G:Gh) (F:Hp) (σ:L2.St) (H:Hp) (ρ:En) (Q:List V->Hp->Prop),KOk OK->XL X OK x G->StOk X.K G F σ H ρ->OK (m x k ρ) ->
  (∀ds vs F' H' ρ',Same F F'->StOk X.K G F' σ H' ρ'->vs.length=es.length->RepL X.K F' vs ds->OK (k ds ρ')->Q vs H')->uR_ X es σ H Q
def AEl{S:Type}(X:Cx)(e:Expr)(m:Ev S (List D)):Prop :=
 ∀(OK:M S->Prop) (x:Ex->En->M S) (k:List D->En->M S) (G:Gh) (F:Hp) (σ:L2.St) (H:Hp) (ρ:En) (Q:VK),KOk OK->XL X OK x G->StOk X.K G F σ H ρ->OK (m x k ρ) ->
  (∀ds v F' H' ρ',Same F F'->StOk X.K G F' σ H' ρ'->Frs X.K G F' σ H' ρ' v (.l ds)->OK (k ds ρ')->Q v H')->tSem X e σ H Q
def ePu{S α:Type}(p:Pu α):Ev S α:=λx k ρ=>(p ρ).on (λe=>x e ρ) (λa=>k a ρ)
section
variable {S α:Type}{X:Cx}{OK:M S->Prop}{x:Ex->En->M S}{k:α->En->M S}{G:Gh}{F:Hp}{σ:L2.St}{ρ:En}{p:Pu α}{C:α->Hp->Hp->Prop}
theorem W.of(hO:KOk OK)(hX:XL X OK x G)(h:OK (ePu p x k ρ))(w:∀a F' H',Same F F'->StOk X.K G F' σ H' ρ->OK (k a ρ)->C a F' H'):W X G F σ ρ (p ρ) C:=by
 unfold ePu at h
 cases hp:p ρ with
 | ret a=>rw[hp]at h;exact λF' H' s S'=>w a F' H' s S' h
 | exc e=>rw[hp]at h;exact hX F ρ e h
 | bad=>rw[hp]at h;exact hO h
end
section
variable {S:Type}{X:Cx}{e a b c:Expr}{es rest:List Expr}{p:Pu D}{pt:Pu Bool}{ps:Pu (List D)}{pos:Pos}
theorem zg_(h:AP X e p):AE (S:=S) X e (ePu p):=λOK x k G F σ H ρ Q hO hX St ok kk=>h G F σ H ρ Q St (W.of hO hX ok λd F' H' s S' o v r=>kk d v F' H' ρ s S' r o)
theorem z5_(h:AT X e pt):AEt (S:=S) X e (ePu pt):=λOK x k G F σ H ρ Q hO hX St ok kk=>h G F σ H ρ Q St (W.of hO hX ok λd F' H' s S' o=>kk d F' H' ρ s S' o)
theorem W4_(h:AL X e ps):AEl (S:=S) X e (ePu ps):=λOK x k G F σ H ρ Q hO hX St ok kk=>h G F σ H ρ Q St (W.of hO hX ok λd F' H' s S' o v r=>kk d v F' H' ρ s S' r o)
noncomputable def eZ(m:Ev S (List D)):Ev S D:=λx k ρ=>m x (λds ρ1=>k (.list ds) ρ1) ρ
def eAsB(m:Ev S D):Ev S Bool:=λx k ρ=>m x (λd ρ1=>(asB d).on (λe=>x e ρ1) (λb=>k b ρ1)) ρ
def eBin(f:D->D->Option D)(a b:Ev S D):Ev S D:=λx k ρ=>a x (λd ρ1=>b x (λd2 ρ2=>(oM (f d d2)).on (λe=>x e ρ2) (λr=>k r ρ2)) ρ1) ρ
def zeB_(f:D->D->Option Bool)(a b:Ev S D):Ev S Bool:=λx k ρ=>a x (λd ρ1=>b x (λd2 ρ2=>(oM (f d d2)).on (λe=>x e ρ2) (λr=>k r ρ2)) ρ1) ρ
noncomputable def eNil:Ev S (List D):=λ_ k ρ=>k [] ρ
noncomputable def zeA_(m:Ev S D)(ms:Ev S (List D)):Ev S (List D):=λx k ρ=>m x (λd ρ1=>ms x (λds ρ2=>k (d::ds) ρ2) ρ1) ρ
noncomputable def eTup(ms:Ev S (List D)):Ev S D:=λx k ρ=>ms x (λds ρ1=>k (.tuple ds) ρ1) ρ
noncomputable def eNot(a:Ev S Bool):Ev S Bool:=λx k ρ=>a x (λt ρ1=>k (!t) ρ1) ρ
noncomputable def eIf{α:Type}(c:Ev S Bool)(a b:Ev S α):Ev S α:=λx k ρ=>c x (λt ρ1=>if t then a x k ρ1 else b x k ρ1) ρ
theorem U2_{α:Type}{OK:M S->Prop}(hO:KOk OK){o:Option α}{x:Ex->M S}{k:α->M S}(h:OK ((oM o).on x k)):∃a,o=some a/\OK (k a):=by
 cases o with
 | none=>exact(hO h).elim
 | some a=>exact⟨a,rfl,h⟩
theorem zdk_{α:Type}{OK:M S->Prop}(hO:KOk OK){ds:List α}{x:Ex->M S}{k:List α->M S}(h:OK ((fitM ds).on x k)):ds.length<=sizeLine/\OK (k ds):=by
 unfold fitM at h
 split at h
 ·exact⟨by assumption,h⟩
 ·exact(hO h).elim
variable {ma mb m:Ev S D}{ta tb tc:Ev S Bool}{ms:Ev S (List D)}
theorem ae_z(h:AEl X e ms):AE X e (eZ ms):=λOK x k G F σ H ρ Q hO hX St ok kk=>h OK x _ G F σ H ρ Q hO hX St ok λds v F' H' ρ' s S' fr o=>by
 obtain⟨F2,s2,S2,r2⟩:=S'.settle (v:=v) (ds:=ds) fr
 exact kk _ v F2 H' ρ' (s.trans s2) S2 r2 o
theorem zas_(h:AE X e m):AEb X e (eAsB m):=λOK x k G F σ H ρ Q hO hX St ok kk=>h OK x _ G F σ H ρ Q hO hX St ok λd v F' H' ρ' s S' r o=>by
 cases r with
 | bl b=>exact kk b F' H' ρ' s S' o
 | non=>exact(hO o).elim
 | int i=>exact(hO o).elim
 | str i=>exact(hO o).elim
 | tup _ _=>exact(hO o).elim
 | lst _ _=>exact(hO o).elim
 | dct _ _ _=>exact(hO o).elim
 | dck _ _ _=>exact(hO o).elim
 | exc _ _ _ _ _=>exact(hO o).elim
 | fn _=>exact(hO o).elim
theorem Y5_{r:R2}{Q:VK}{OK:M S->Prop}{x:Ex->En->M S}{G:Gh}{F H:Hp}{σ:L2.St}{ρ:En}{f:D->D->En->M S}(ha:AE X a ma)(hb:AE X b mb)(hO:KOk OK)(hX:XL X OK x G)(St:StOk X.K G F σ H ρ)
  (ok:OK (ma x (λd ρ1=>mb x (λd2 ρ2=>f d d2 ρ2) ρ1) ρ)) (k:∀u v dx dy F' H' ρ',Same F F'->StOk X.K G F' σ H' ρ'->Rep X.K F' u dx->Rep X.K F' v dy->OK (f dx dy ρ')->r u v H' Q):tOp r (tSem X a) (tSem X b) σ H Q :=
 ha OK x _ G F σ H ρ _ hO hX St ok λd v F1 H1 ρ1 s1 S1 r1 o1=>hb OK x _ G F1 σ H1 ρ1 _ hO hX S1 o1 λd2 u F2 H2 ρ2 s2 S2 r2 o2=>k v u d d2 F2 H2 ρ2 (s1.trans s2) S2 (r1.mono s2) r2 o2
theorem YL_{op:Operator}{r:R2}{f:D->D->Option D}(ho:OpR X (binaryOp op) r)(hf:OpD X.K r f)(ha:AE X a ma)(hb:AE X b mb):AE X (.BinOp a op b pos) (eBin f ma mb) :=
 λOK x k G F σ H ρ Q hO hX St ok kk=>sem (zcm_ ho zm_ zm_) (Y5_ ha hb hO hX St ok λu v dx dy F' H' ρ' s S' r1 r2 o=>by
  obtain⟨res,e,o'⟩:=U2_ hO o
  exact hf G F' σ H' ρ' u v dx dy res Q S' (.inl r1) (.inl r2) e λw F2 H2 s2 S2 r3=>kk res w F2 H2 ρ' (s.trans s2) S2 r3 o')
theorem zeG_{r:R2}{f:D->D->Option D}(hr:IxR X r)(hf:OpD X.K r f)(ha:AE X a ma)(hb:AE X b mb)(hs:Qb_ b):AE X (.Subscript a b pos) (eBin f ma mb) :=
 λOK x k G F σ H ρ Q hO hX St ok kk=>sem (zcr_ hr zm_ zm_ hs) (Y5_ ha hb hO hX St ok λu v dx dy F' H' ρ' s S' r1 r2 o=>by
  obtain⟨res,e,o'⟩:=U2_ hO o
  exact hf G F' σ H' ρ' u v dx dy res Q S' (.inl r1) (.inl r2) e λw F2 H2 s2 S2 r3=>kk res w F2 H2 ρ' (s.trans s2) S2 r3 o')
theorem zbJ_{op:CmpOp}{r:R2}{f:D->D->Option Bool}(ho:OpR X (compareOp op) r)(hf:OpB X.K r f)(ha:AE X a ma)(hb:AE X b mb)(hm:behindInMarks op b=false):AEt X (.Compare a [op] [b] pos) (zeB_ f ma mb) :=
 λOK x k G F σ H ρ Q hO hX St ok kk=>semT (V2_ ho zm_ zm_ hm) (Y5_ (Q:=λx H'=>∃k,x=.bl k/\Q k H') ha hb hO hX St ok λu v dx dy F' H' ρ' s S' r1 r2 o=>by
  obtain⟨res,e,o'⟩:=U2_ hO o
  exact hf G F' σ H' ρ' u v dx dy res _ S' (.inl r1) (.inl r2) e ⟨res,rfl,kk res F' H' ρ' s S' o'⟩)
theorem zl_:AEa (S:=S) X [] eNil:=λOK x k G F σ H ρ Q hO hX St ok kk=>semA Qw_ (kk [] [] F H ρ (Same.refl _) St rfl .nil ok)
theorem zb_(h:AE X e m)(hr:AEa X es ms)(hs:starEach (e::es) X.env=(false,eval e X.env)::starEach es X.env):AEa X (e::es) (zeA_ m ms) :=
 λOK x k G F σ H ρ Q hO hX St ok kk=>semA (yw_ zm_ jW_ hs) (h OK x _ G F σ H ρ _ hO hX St ok λd v F1 H1 ρ1 s1 S1 r1 o1 =>
  hr OK x _ G F1 σ H1 ρ1 _ hO hX S1 o1 λds vs F2 H2 ρ2 s2 S2 hl r2 o2=>kk (d::ds) (v::vs) F2 H2 ρ2 (s1.trans s2) S2 (by simp[hl]) (.cons (r1.mono s2) r2) o2)
theorem ZC_{x1}(h:AEa X es ms)(hz:es.length<=1000):AE X (.Tuple es x1 pos) (eTup ms) :=
 λOK x k G F σ H ρ Q hO hX St ok kk=>sem (X8_ jW_) (h OK x _ G F σ H ρ _ hO hX St ok λds vs F1 H1 ρ1 s1 S1 hl r1 o1=>by
  refine⟨by rw[hl];exact Yj_ hz,λq hq=>?_⟩
  obtain⟨s2,S2,r2⟩:=S1.newTup hq r1
  exact kk _ _ _ _ ρ1 (s1.trans s2) S2 r2 o1)
theorem zbI_(ha:AEt X a ta):AEt X (.UnaryOp .Not a pos) (eNot ta) :=
 λOK x k G F σ H ρ Q hO hX St ok kk=>semT (X4_ uV_) (ha OK x _ G F σ H ρ _ hO hX St ok λt F1 H1 ρ1 s1 S1 o1=>kk (!t) F1 H1 ρ1 s1 S1 o1)
theorem zdv_(ha:AEb X a ta)(he:∀whole,isTrue a X.env whole=(do let v <-whole;standAt a.pos;holding [v] (truthy v))):AEt X a ta :=
 λOK x k G F σ H ρ Q hO hX St ok kk=>semT (Uk_ zm_ he) (ha OK x _ G F σ H ρ _ hO hX St ok λt F1 H1 ρ1 s1 S1 o1=>⟨t,rfl,kk t F1 H1 ρ1 s1 S1 o1⟩)
theorem zeH_(hc:AEt X c tc)(ha:AE X a ma)(hb:AE X b mb):AE X (.IfExp c a b pos) (eIf tc ma mb) :=
 λOK x k G F σ H ρ Q hO hX St ok kk=>sem (Qv_ uV_ zm_ zm_) (hc OK x _ G F σ H ρ _ hO hX St ok λt F1 H1 ρ1 s1 S1 o1=>by
  cases t with
  | true=>refine iteT ?_;exact ha OK x k G F1 σ H1 ρ1 Q hO hX S1 o1 λd v F2 H2 ρ2 s2 S2 r2 o2=>kk d v F2 H2 ρ2 (s1.trans s2) S2 r2 o2
  | false=>refine iteF ?_;exact hb OK x k G F1 σ H1 ρ1 Q hO hX S1 o1 λd v F2 H2 ρ2 s2 S2 r2 o2=>kk d v F2 H2 ρ2 (s1.trans s2) S2 r2 o2)
end
structure Walk(K:Fg)(J:It)(ds:List D)(F:Hp):Prop where
 go:∀(i:Nat) (G:Gh) (F2:Hp) (σ:L2.St) (H2:Hp) (ρ:En),Same F F2->StOk K G F2 σ H2 ρ->i<ds.length->J.go i H2
 yld:∀(i:Nat) (G:Gh) (F2:Hp) (σ:L2.St) (H2:Hp) (ρ:En) (x:V) (H3:Hp) (d:D),Same F F2->StOk K G F2 σ H2 ρ->ds[i]? = some d->J.yld i H2 x H3->∃F3,Same F2 F3/\StOk K G F3 σ H3 ρ/\Rep K F3 x d
 stop:∀(G:Gh) (F2:Hp) (σ:L2.St) (H2:Hp) (ρ:En),Same F F2->StOk K G F2 σ H2 ρ->J.stop ds.length H2
theorem VE_{K:Fg}{F:Hp}{a:Addr}{vs:List V}{ds:List D}(h:SqL K F a vs)(r:RepL K F vs ds):Walk K (Itl K a) ds F where
 go:=λi G F2 σ H2 ρ s S hi=>by
  have hi':i<vs.length:=by rw[r.length];exact hi
  exact⟨vs,vs[i],S.fh.seq (s.seq h),by simp[hi']⟩
 yld:=λi G F2 σ H2 ρ x H3 d s S hd ⟨e,q⟩=>by
  subst e
  obtain⟨v,e1,e2⟩:=r.get hd
  have:=q vs (S.fh.seq (s.seq h))
  rw[e1]at this
  cases this
  exact⟨F2,Same.refl _,S,e2.mono s⟩
 stop:=λG F2 σ H2 ρ s S=>⟨vs,S.fh.seq (s.seq h),by rw[r.length];exact Nat.le_refl _⟩
theorem W7_{K:Fg}{F:Hp}{a:Addr}{vs:List V}{ds:List D}(h:SqT K F a vs)(r:RepL K F vs ds):Walk K (Itt K a) ds F where
 go:=λi G F2 σ H2 ρ s S hi=>by
  have hi':i<vs.length:=by rw[r.length];exact hi
  exact⟨vs,vs[i],yb_ S.fh (yb_ s h),by simp[hi']⟩
 yld:=λi G F2 σ H2 ρ x H3 d s S hd ⟨e,q⟩=>by
  subst e
  obtain⟨v,e1,e2⟩:=r.get hd
  have:=q vs (yb_ S.fh (yb_ s h))
  rw[e1]at this
  cases this
  exact⟨F2,Same.refl _,S,e2.mono s⟩
 stop:=λG F2 σ H2 ρ s S=>⟨vs,yb_ S.fh (yb_ s h),by rw[r.length];exact Nat.le_refl _⟩
noncomputable def yM_(lo:Int)(n:Nat):List D:=(List.range n).map λ(i:Nat)=>PyData.int (lo+(i:Int))
theorem uy_(lo:Int)(n:Nat):(yM_ lo n).length=n:=by simp[yM_]
theorem JI_{K:Fg}{F:Hp}(lo:Int)(n:Nat):Walk K (Itr lo n) (yM_ lo n) F where
 go:=λi G F2 σ H2 ρ s S hi=>by rw[uy_]at hi;exact hi
 yld:=λi G F2 σ H2 ρ x H3 d s S hd ⟨e,q⟩=>by
  subst e q
  have e':(yM_ lo n)[i]? = some d:=hd
  unfold yM_ at e'
  rw[List.getElem?_map]at e'
  have hi:i<n:=by
   have:=(List.getElem?_eq_some_iff.mp hd).1
   rw[uy_]at this;exact this
  rw[List.getElem?_range hi]at e'
  cases e'
  exact⟨F2,Same.refl _,S,.int _⟩
 stop:=λG F2 σ H2 ρ s S=>by rw[uy_];exact Nat.le_refl _
@[irreducible] noncomputable def ZE_(X:Cx)(tg iter:Expr):TI:=λσ H R=>∀(pins:List (Addr×Obj)) (s:Shared),Inv X pins σ H s->wpAny (model X.prog X.w) X.A (eval iter X.env) (λv s1=>wpAny (model X.prog X.w) X.A (pyIter v) (PIE X pins σ tg R) X.xe s1) X.xe s
theorem U0_{X:Cx}{tg e:Expr}:PI X tg e (ZE_ X tg e):=λpins s σ H R I h=>by unfold ZE_ at h;exact h pins s I
theorem semI{X:Cx}{tg e:Expr}{σ:L2.St}{H:Hp}{R:It->Hp->Prop}{t:TI}(h:PI X tg e t)(q:t σ H R):ZE_ X tg e σ H R:=by unfold ZE_;exact λpins s I=>h pins s σ H R I q
def AI(X:Cx)(tg e:Expr)(p:Pu (List D)):Prop :=
 ∀(G:Gh) (F:Hp) (σ:L2.St) (H:Hp) (ρ:En) (R:It->Hp->Prop),StOk X.K G F σ H ρ->W X G F σ ρ (p ρ) (λds F' H'=>∀J,Walk X.K J ds F'->R J H')->ZE_ X tg e σ H R
def AEi{S:Type}(X:Cx)(tg e:Expr)(m:Ev S (List D)):Prop :=
 ∀(OK:M S->Prop) (x:Ex->En->M S) (k:List D->En->M S) (G:Gh) (F:Hp) (σ:L2.St) (H:Hp) (ρ:En) (R:It->Hp->Prop),KOk OK->XL X OK x G->StOk X.K G F σ H ρ->OK (m x k ρ) ->
  (∀ds J F' H' ρ',Same F F'->StOk X.K G F' σ H' ρ'->Walk X.K J ds F'->OK (k ds ρ')->R J H')->ZE_ X tg e σ H R
theorem J9_{S:Type}{X:Cx}{tg e:Expr}{ps:Pu (List D)}(h:AI X tg e ps):AEi (S:=S) X tg e (ePu ps):=λOK x k G F σ H ρ Q hO hX St ok kk=>h G F σ H ρ Q St (W.of hO hX ok λd F' H' s S' o v r=>kk d v F' H' ρ s S' r o)
noncomputable def seqD:D->Option (List D)
 | .list ds=>some ds
 | .tuple ds=>some ds
 | _=>none
noncomputable def yr_(i:Int):Bool:=decide (-(2^62)<=i)&&decide (i<2^62)
theorem jZ_{i:Int}(h:yr_ i=true) : -(2^62)<=i/\i<2^62:=by
 unfold yr_ at h
 simp only[Bool.and_eq_true,zzi]at h
 exact h
def jI_:List D->Option (List D)
 | [.int j]=>if yr_ j then some (yM_ 0 j.toNat)else none
 | _=>none
def yC_:List D->Option (List D)
 | [.int i,.int j]=>if yr_ i&&yr_ j then some (yM_ i (j - i).toNat)else none
 | _=>none
section
variable {S:Type}{X:Cx}{tg e a b:Expr}{pp:Pu D}{ps:Pa (List D)}{m:Ev S D}{ms:Ev S (List D)}{p pos:Pos}
theorem Xi_{F H:Hp}{v:V}{d:D}{ds:List D}{R:It->Hp->Prop}(s:Same F H)(r:Rep X.K F v d)(hd:seqD d=some ds)(k:∀J,Walk X.K J ds F->R J H) :
  (∃a,v=.ref a/\(∃xs,SqL X.K H a xs)/\R (Itl X.K a) H)\/∃a,v=.ref a/\(∃xs,SqT X.K H a xs)/\R (Itt X.K a) H:=by
 cases d with
 | list xs =>
  cases hd
  obtain⟨a,vs,rfl,h1,h2⟩:=r.lst_inv
  exact .inl ⟨_,rfl,⟨_,s.seq h1⟩,k _ (VE_ h1 h2)⟩
 | tuple xs =>
  cases hd
  obtain⟨a,vs,rfl,h1,h2⟩:=r.tup_inv
  exact .inr ⟨_,rfl,⟨_,SqT.of (s _ _ h1)⟩,k _ (W7_ (SqT.of h1) h2)⟩
 | _=>exact noS hd
theorem VY_{F H:Hp}{vs:List V}{ds out:List D}{R:It->Hp->Prop}(r:RepL X.K F vs ds)(h:jI_ ds=some out)(k:∀J,Walk X.K J out F->R J H):∃j,vs=[.int j] /\ -(2^62)<=j/\j<2^62/\R (Itr 0 j.toNat) H:=by
 unfold jI_ at h
 split at h
 ·rename_i j
  split at h
  ·rename_i hs
   cases h
   obtain⟨v,rfl,r1⟩:=r.one_inv
   obtain rfl:=r1.int_inv
   exact⟨j,rfl,(jZ_ hs).1,(jZ_ hs).2,k _ (JI_ 0 j.toNat)⟩
  ·cases h
 ·cases h
theorem VX_{F H:Hp}{vs:List V}{ds out:List D}{R:It->Hp->Prop}(r:RepL X.K F vs ds)(h:yC_ ds=some out)(k:∀J,Walk X.K J out F->R J H) :
  ∃i j,vs=[.int i,.int j]/\(-(2^62)<=i/\i<2^62 /\ -(2^62)<=j/\j<2^62)/\R (Itr i (j - i).toNat) H:=by
 unfold yC_ at h
 split at h
 ·rename_i i j
  split at h
  ·rename_i hs
   cases h
   rw[Bool.and_eq_true]at hs
   obtain⟨v,u,rfl,r1,r3⟩:=r.two_inv
   obtain rfl:=r1.int_inv
   obtain rfl:=r3.int_inv
   exact⟨i,j,rfl,⟨(jZ_ hs.1).1,(jZ_ hs.1).2,(jZ_ hs.2).1,(jZ_ hs.2).2⟩,k _ (JI_ i (j - i).toNat)⟩
  ·cases h
 ·cases h
theorem ur_(hg:Gl X "range")(hm:X.mg "range" = none)(ha:AA X [a] ps)(hs:starEach [a] X.env=[(false,eval a X.env)]):AI X tg (.Call (.Name "range" p) [a] [] pos) (X9_ jI_ ps) :=
 λG F σ H ρ R S w=>semI (V9_ hg hm jW_ hs) (ha G F σ H ρ _ _ _ S w λds vs F1 H1 s1 S1 _ r1 w1=>by
  obtain⟨out,hd,k⟩:=w1.opt
  exact VY_ r1 hd (k F1 H1 (Same.refl _) S1))
theorem W3_(hg:Gl X "range")(hm:X.mg "range" = none)(ha:AA X [a,b] ps)(hs:starEach [a,b] X.env=[(false,eval a X.env),(false,eval b X.env)])(hs2:starEach [b] X.env=[(false,eval b X.env)]):AI X tg (.Call (.Name "range" p) [a,b] [] pos) (X9_ yC_ ps) :=
 λG F σ H ρ R S w=>semI (V8_ hg hm jW_ hs hs2) (ha G F σ H ρ _ _ _ S w λds vs F1 H1 s1 S1 _ r1 w1=>by
  obtain⟨out,hd,k⟩:=w1.opt
  exact VX_ r1 hd (k F1 H1 (Same.refl _) S1))
end
noncomputable abbrev Tg(S:Type):=D->(En->M S)->En->M S
noncomputable def Yc_(ρ:En)(i:Nat):Bool:=decide (i<ρ.length)&&(match ρ[i]? with
 | some (some (.op _))=>false
 | _=>true)
theorem ye_{ρ:En}{i:Nat}(h:Yc_ ρ i=true):i<ρ.length/\∀c,ρ[i]? ≠ some (some (.op c)):=by
 unfold Yc_ at h
 rw[Bool.and_eq_true]at h
 refine⟨by simpa using h.1,λc e=>?_⟩
 rw[e]at h
 exact absurd h.2 (by simp)
@[irreducible] noncomputable def Q2_(X:Cx)(tg:Expr):TG:=λv σ H Q=>∀(pins:List (Addr×Obj)) (s:Shared) (u:Value),Inv X pins σ H s->RelV v u->wpAny (model X.prog X.w) X.A (assign tg X.env u) (λ_ s'=>∃σ' H',Inv X pins σ' H' s'/\Q σ' H') X.xe s
theorem U1_{X:Cx}{tg:Expr}:PG X tg (Q2_ X tg):=λpins s σ H v u Q I r h=>by unfold Q2_ at h;exact h pins s u I r
theorem semG{X:Cx}{tg:Expr}{t:TG}{v:V}{σ:L2.St}{H:Hp}{Q:L2.St->Hp->Prop}(h:PG X tg t)(q:t v σ H Q):Q2_ X tg v σ H Q:=by unfold Q2_;exact λpins s u I r=>h pins s σ H v u Q I r q
def AG{S:Type}(X:Cx)(n:Nat)(tg:Expr)(st:Tg S):Prop :=
 ∀(OK:M S->Prop) (k:En->M S) (G:Gh) (F:Hp) (σ:L2.St) (H:Hp) (ρ:En) (v:V) (d:D) (Q:L2.St->Hp->Prop),KOk OK->StOk X.K G F σ H ρ->Rep X.K F v d->OK (st d k ρ) ->
  (∀σ' ρ',StOk X.K G F σ' H ρ'->(∀j,j<n->σ'[j]? = σ[j]? /\ ρ'[j]? = ρ[j]?)->σ'.length=σ.length->ρ'.length=ρ.length->OK (k ρ')->Q σ' H)->Q2_ X tg v σ H Q
def gSet{S:Type}(i:Nat):Tg S:=λd k ρ=>match Yc_ ρ i with
 | true=>k (ρ.set i (some (.fz d)))
 | false=>.bad
section
variable {S:Type}{X:Cx}{pos:Pos}{n:Nat}
theorem z9_{i:Nat}{x:Str}(hn:n<=i)(hN:X.N.Nodup)(hi:X.N[i]? = some x)(hx:Loc X.env.scope x)(hf:X.fn x=true\/X.env.scope.names.lookup x=some .local):AG (S:=S) X n (.Name x pos) (gSet i):=by
 intro OK k G F σ H ρ v d Q hO S r ok kk
 unfold gSet at ok
 split at ok
 ·rename_i ho
  obtain⟨hl,hop⟩:=ye_ ho
  refine semG (zaW_ hN hi hx hf) ?_
  exact kk _ _ (S.store hop hl (.inl ⟨d,rfl,r⟩)) (λj hj=>⟨List.getElem?_set_ne (by lia),List.getElem?_set_ne (by lia)⟩) (by simp) (by simp) ok
 ·exact(hO ok).elim
end
noncomputable abbrev SM(S:Type):=KS S->En->M S
structure EOk{S:Type}(X:Cx)(OK:M S->Prop)(K:KS S)(G:Gh)(F:Hp)(E:Ends):Prop where
 nx:∀F' σ' H' ρ',Same F F'->StOk X.K G F' σ' H' ρ'->OK (K.nx ρ')->E.nx σ' H'
 rt:∀F' σ' H' ρ' d v,Same F F'->StOk X.K G F' σ' H' ρ'->Rep X.K F' v d->OK (K.rt d ρ')->E.rt v H'
 rl:∀F' σ' H' ρ' ds v,Same F F'->StOk X.K G F' σ' H' ρ'->Frs X.K G F' σ' H' ρ' v (.l ds)->OK (K.rl ds ρ')->E.rt v H'
 bk:∀F' σ' H' ρ',Same F F'->StOk X.K G F' σ' H' ρ'->OK (K.bk ρ')->E.bk σ' H'
 ct:∀F' σ' H' ρ',Same F F'->StOk X.K G F' σ' H' ρ'->OK (K.ct ρ')->E.ct σ' H'
theorem EOk.up{S:Type}{X:Cx}{OK:M S->Prop}{K:KS S}{G:Gh}{F F':Hp}{E:Ends}(h:EOk X OK K G F E)(s:Same F F'):EOk X OK K G F' E :=
 ⟨λF2 σ' H' ρ' s2=>h.nx F2 σ' H' ρ' (s.trans s2),λF2 σ' H' ρ' d v s2=>h.rt F2 σ' H' ρ' d v (s.trans s2),λF2 σ' H' ρ' d v s2=>h.rl F2 σ' H' ρ' d v (s.trans s2),λF2 σ' H' ρ' s2=>h.bk F2 σ' H' ρ' (s.trans s2),λF2 σ' H' ρ' s2=>h.ct F2 σ' H' ρ' (s.trans s2)⟩
@[irreducible] noncomputable def UP_(X:Cx)(st:Stmt):TS:=λE σ H=>∀(pins:List (Addr×Obj)) (s:Shared),Inv X pins σ H s->wpAny (model X.prog X.w) X.A (exec st X.env) (SP X pins E) X.xe s
@[irreducible] noncomputable def VI_(X:Cx)(sts:List Stmt):TS:=λE σ H=>∀(pins:List (Addr×Obj)) (s:Shared),Inv X pins σ H s->wpAny (model X.prog X.w) X.A (execs sts X.env) (SP X pins E) X.xe s
section
variable {X:Cx}{st:Stmt}{sts:List Stmt}{σ:L2.St}{H:Hp}{E:Ends}{t:TS}
theorem X5_:PS X st (UP_ X st):=λpins s σ H E I h=>by unfold UP_ at h;exact h pins s I
theorem uW_:PSs X sts (VI_ X sts):=λpins s σ H E I h=>by unfold VI_ at h;exact h pins s I
theorem semS(h:PS X st t)(q:t E σ H):UP_ X st E σ H:=by unfold UP_;exact λpins s I=>h pins s σ H E I q
theorem semB(h:PSs X sts t)(q:t E σ H):VI_ X sts E σ H:=by unfold VI_;exact λpins s I=>h pins s σ H E I q
end
def AS{S:Type}(X:Cx)(st:Stmt)(m:SM S):Prop :=
 ∀(OK:M S->Prop) (K:KS S) (G:Gh) (F:Hp) (σ:L2.St) (H:Hp) (ρ:En) (E:Ends),KOk OK->XL X OK K.x G->StOk X.K G F σ H ρ->OK (m K ρ)->EOk X OK K G F E->UP_ X st E σ H
def ASs{S:Type}(X:Cx)(st:List Stmt)(m:SM S):Prop :=
 ∀(OK:M S->Prop) (K:KS S) (G:Gh) (F:Hp) (σ:L2.St) (H:Hp) (ρ:En) (E:Ends),KOk OK->XL X OK K.x G->StOk X.K G F σ H ρ->OK (m K ρ)->EOk X OK K G F E->VI_ X st E σ H
section
variable {S:Type}
noncomputable def zdS_:SM S:=λK ρ=>K.nx ρ
noncomputable def sSeq(m n:SM S):SM S:=λK ρ=>m { K with nx:=λρ1=>n K ρ1 } ρ
noncomputable def sIf(c:Ev S Bool)(m n:SM S):SM S:=λK ρ=>c K.x (λb ρ1=>if b then m K ρ1 else n K ρ1) ρ
def sTo(sh:List Kd)(m:SM S):SM S:=λK ρ=>m { K with nx:=λρ1=>rdk sh (λs=>K.nx (wr sh s)) ρ1 } ρ
def sSet(i:Nat)(m:Ev S D):SM S:=λK ρ=>m K.x (λd ρ1=>match Yc_ ρ1 i with
 | true=>K.nx (ρ1.set i (some (.fz d)))
 | false=>.bad) ρ
def zdP_(i:Nat)(m:Ev S (List D)):SM S:=λK ρ=>m K.x (λds ρ1=>match Yc_ ρ1 i with
 | true=>K.nx (ρ1.set i (some (.ol (.l ds))))
 | false=>.bad) ρ
noncomputable def sRet(m:Ev S D):SM S:=λK ρ=>m K.x K.rt ρ
noncomputable def zdR_(m:Ev S (List D)):SM S:=λK ρ=>m K.x K.rl ρ
noncomputable def zdU_(m:Ev S D):SM S:=λK ρ=>m K.x (λ_ ρ1=>K.nx ρ1) ρ
noncomputable def setO(ρ:En)(i:Nat)(ds:List D):En:=match ρ[i]? with
 | some (some (.op _))=>ρ.set i (some (.op (.l ds)))
 | _=>ρ.set i (some (.ol (.l ds)))
def sMut(i:Nat)(f:List D->List D->Option (List D))(ms:Ev S (List D)):SM S:=λK ρ=>match ownL ρ i with
 | some _=>ms K.x (λas ρ1=>match ownL ρ1 i with
  | some ds=>(oM (f ds as)).on (λe=>K.x e ρ1) (λds'=>K.nx (setO ρ1 i ds'))
  | none=>.bad) ρ
 | none=>.bad
noncomputable def forC{T:Type}(step:T->D->(T->M S)->M S):List D->T->(T->M S)->M S
 | [],s,k=>k s
 | d::r,s,k=>step s d (λs'=>forC step r s' k)
@[reducible] def XA_(sh:List Kd)(K:KS S)(kn:SOf sh->M S):KS S:={ K with
  nx:=λρ3=>rdk sh kn ρ3
  ct:=λρ3=>rdk sh kn ρ3
  bk:=λρ3=>rdk sh (λs'=>K.nx (wr sh s')) ρ3 }
def sFor(sh:List Kd)(it:Ev S (List D))(t:Tg S)(mb:SM S):SM S:=λK ρ=>it K.x (λds ρ1=>rdk sh (λs=>forC (λs d kn=>t d (λρ2=>mb (XA_ sh K kn) ρ2) (wr sh s)) ds s (λs'=>K.nx (wr sh s'))) ρ1) ρ
end
theorem ZZ_(ρ:En)(i:Nat)(ds ds0:List D)(h:ownL ρ i=some ds0):setO ρ i ds=ρ.set i ((ρ[i]?.join).map fun | .op _=>.op (.l ds)|_=>.ol (.l ds)):=by
 unfold ownL at h
 unfold setO
 split at h
 ·rename_i q;rw[q];rfl
 ·rename_i q;rw[q];rfl
 ·cases h
theorem Z5_{S:Type}{OK:M S->Prop}(hO:KOk OK){sh:List Kd}{k:SOf sh->M S}{ρ:En}(h:OK (rdk sh k ρ)):∃s,rd sh ρ=some s/\OK (k s):=by
 unfold rdk at h
 split at h
 ·rename_i s e;exact⟨s,e,h⟩
 ·exact(hO h).elim
section
variable {S:Type}{X:Cx}{st:Stmt}{sts rest:List Stmt}{m n:SM S}{e c a b:Expr}{me:Ev S D}{mt:Ev S Bool}{ml:Ev S (List D)}{pos pos' tpos:Pos}
theorem zI_:ASs (S:=S) X [] zdS_:=λOK K G F σ H ρ E hO hX St ok eo=>semB V3_ (eo.nx F σ H ρ (Same.refl _) St ok)
theorem ze_(h1:AS X st m)(h2:ASs X rest n):ASs X (st::rest) (sSeq m n):=λOK K G F σ H ρ E hO hX St ok eo =>
 semB (Um_ X5_ uW_) (h1 OK { K with nx:=λρ1=>n K ρ1 } G F σ H ρ _ hO hX St ok ⟨λF' σ' H' ρ' s S' o=>h2 OK K G F' σ' H' ρ' E hO hX S' o (eo.up s),eo.rt,eo.rl,eo.bk,eo.ct⟩)
theorem zi_(h1:AS X st m):ASs X [st] m:=λOK K G F σ H ρ E hO hX St ok eo=>semB (zaS_ X5_) (h1 OK K G F σ H ρ E hO hX St ok eo)
theorem jU_{A B:List Stmt}(hc:AEt X c mt)(ha:ASs X A m)(hb:ASs X B n):AS X (.If c A B pos) (sIf mt m n):=λOK K G F σ H ρ E hO hX St ok eo =>
 semS (zed_ uV_ uW_ uW_) (hc OK K.x _ G F σ H ρ _ hO hX St ok λt F1 H1 ρ1 s1 S1 o1=>by
  cases t with
  | true=>exact ha OK K G F1 σ H1 ρ1 E hO hX S1 o1 (eo.up s1)
  | false=>exact hb OK K G F1 σ H1 ρ1 E hO hX S1 o1 (eo.up s1))
theorem zL_{sh:List Kd}(h:AS X st m):AS X st (sTo sh m):=λOK K G F σ H ρ E hO hX St ok eo =>
 h OK { K with nx:=λρ1=>rdk sh (λs=>K.nx (wr sh s)) ρ1 } G F σ H ρ E hO hX St ok ⟨λF' σ' H' ρ' s S' o=>by
  obtain⟨s',e',o'⟩:=Z5_ hO o
  exact eo.nx F' σ' H' _ s (S'.rd e') o',eo.rt,eo.rl,eo.bk,eo.ct⟩
theorem zv_(he:AE X e me):AS X (.Return (some e) pos) (sRet me):=λOK K G F σ H ρ E hO hX St ok eo =>
 semS (X6_ zm_) (he OK K.x K.rt G F σ H ρ _ hO hX St ok λd v F1 H1 ρ1 s1 S1 r1 o1=>eo.rt F1 σ H1 ρ1 d v s1 S1 r1 o1)
theorem zbF_(he:AEl X e ml):AS X (.Return (some e) pos) (zdR_ ml):=λOK K G F σ H ρ E hO hX St ok eo =>
 semS (X6_ zm_) (he OK K.x K.rl G F σ H ρ _ hO hX St ok λd v F1 H1 ρ1 s1 S1 r1 o1=>eo.rl F1 σ H1 ρ1 d v s1 S1 r1 o1)
theorem zR_{i:Nat}{x:Str}(hN:X.N.Nodup)(hi:X.N[i]? = some x)(hx:Loc X.env.scope x)(he:AE X e me)(hs:swapsWith e (some (.Name x pos')) pos.line X.env=pure false)(hf:X.fn x=true\/X.env.scope.names.lookup x=some .local) :
  AS X (.Assign [.Name x pos'] e pos) (sSet i me):=λOK K G F σ H ρ E hO hX St ok eo =>
 semS (V4_ hN hi hx zm_ hs hf) (he OK K.x _ G F σ H ρ _ hO hX St ok λd v F1 H1 ρ1 s1 S1 r1 o1=>by
  split at o1
  ·rename_i ho
   obtain⟨hl,hop⟩:=ye_ ho
   exact eo.nx F1 _ H1 _ s1 (S1.store hop hl (.inl ⟨d,rfl,r1⟩)) o1
  ·exact(hO o1).elim)
theorem W1_{i:Nat}{x:Str}(hN:X.N.Nodup)(hi:X.N[i]? = some x)(hx:Loc X.env.scope x)(he:AEl X e ml)(hs:swapsWith e (some (.Name x pos')) pos.line X.env=pure false)(hf:X.fn x=true\/X.env.scope.names.lookup x=some .local) :
  AS X (.Assign [.Name x pos'] e pos) (zdP_ i ml):=λOK K G F σ H ρ E hO hX St ok eo =>
 semS (V4_ hN hi hx zm_ hs hf) (he OK K.x _ G F σ H ρ _ hO hX St ok λd v F1 H1 ρ1 s1 S1 r1 o1=>by
  split at o1
  ·rename_i ho
   obtain⟨hl,hop⟩:=ye_ ho
   exact eo.nx F1 _ H1 _ s1 (S1.store hop hl (.inr ⟨.l d,rfl,r1⟩)) o1
  ·exact(hO o1).elim)
theorem yD_(he:AE X e me)(hs:swapsWith e none pos.line X.env=pure false):AS X (.Expr e pos) (zdU_ me):=λOK K G F σ H ρ E hO hX St ok eo =>
 semS (V6_ zm_ hs) (he OK K.x _ G F σ H ρ _ hO hX St ok λd v F1 H1 ρ1 s1 S1 r1 o1=>eo.nx F1 σ H1 ρ1 s1 S1 o1)
end
section
variable {S:Type}{X:Cx}{m n mb:SM S}{e c a b o:Expr}{me mi:Ev S D}{mt:Ev S Bool}{ml ms:Ev S (List D)}{pos pos' tpos apos cpos:Pos}
theorem zdr_{tg iter:Expr}{body:List Stmt}{sh:List Kd}{t:Tg S}(hp:PassesOwn (model X.prog X.w) X.A X.env X.xe)(hc:X.calm=true)(hi:AEi X tg iter ml)(hg:AG X 0 tg t)(hb:ASs X body mb)
  (hs:∀x,foldedSetIterable iter X.env x=pure x):AS X (.For tg iter body [] pos) (sFor sh ml t mb):=λOK K G F σ H ρ E hO hX St ok eo =>
 semS (zch_ hp hc U0_ U1_ uW_ hs) (hi OK K.x _ G F σ H ρ _ hO hX St ok λds J F1 H1 ρ1 s1 S1 wk o1=>by
  obtain⟨s0,e0,o0⟩:=Z5_ hO o1
  have S0:=S1.rd e0
  clear o1
  generalize hstep:(λ(s:SOf sh) d (kn:SOf sh->M S)=>t d (λρ2=>mb (XA_ sh K kn) ρ2) (wr sh s))=step at o0
  refine⟨λi m σ' H'=>∃F' s,m=ds.length - i/\i<=ds.length/\Same F1 F'/\StOk X.K G F' σ' H' (wr sh s)/\OK (forC step (ds.drop i) s (λs'=>K.nx (wr sh s'))),⟨ds.length,F1,s0,rfl,Nat.zero_le _,Same.refl _,S0,o0⟩,?_⟩
  rintro i m σ' H' ⟨F',s,rfl,hi,s2,S2,go⟩
  by_cases hlt:i<ds.length
  ·have ed:ds.drop i=ds[i]::ds.drop (i+1):=List.drop_eq_getElem_cons hlt
   rw[ed]at go
   dsimp only[forC]at go
   rw[<-hstep]at go
   have again:∀F5 σ5 H5 ρ5,Same F' F5->StOk X.K G F5 σ5 H5 ρ5->OK (rdk sh (λs'=>forC step (ds.drop (i+1)) s' λs'=>K.nx (wr sh s')) ρ5) ->
     ∃m',m'<ds.length - i/\∃F' s,m'=ds.length - (i+1)/\i+1<=ds.length/\Same F1 F'/\StOk X.K G F' σ5 H5 (wr sh s)/\OK (forC step (ds.drop (i+1)) s (λs'=>K.nx (wr sh s'))):=λF5 σ5 H5 ρ5 s5 S5 o5=>by
    obtain⟨s',e',o'⟩:=Z5_ hO o5
    exact⟨ds.length - (i+1),by omega,F5,s',rfl,hlt,s2.trans s5,S5.rd e',o'⟩
   refine .inr ⟨wk.go i G F' σ' H' _ s2 S2 hlt,λσ4 H4=>∃m',m'<ds.length - i/\∃F' s,m'=ds.length - (i+1)/\i+1<=ds.length/\Same F1 F'/\StOk X.K G F' σ4 H4 (wr sh s)/\OK (forC step (ds.drop (i+1)) s (λs'=>K.nx (wr sh s'))),λσ4 H4 h4=>h4,λx H2 y=>?_⟩
   obtain⟨F3,s3,S3,r3⟩:=wk.yld i G F' σ' H' _ x H2 ds[i] s2 S2 (by simp[hlt]) y
   refine hg OK _ G F3 σ' H2 (wr sh s) x ds[i] _ hO S3 r3 go λσ3 ρ3 S4 _ _ _ o4=>?_
   rw[hstep]at o4
   refine hb OK (XA_ sh K λs'=>forC step (ds.drop (i+1)) s' λs'=>K.nx (wr sh s')) G F3 σ3 H2 ρ3 _ hO hX S4 o4 ⟨λF5 σ5 H5 ρ5 s5 S5 o5=>?_,λF5 σ5 H5 ρ5 d v s5=>eo.rt F5 σ5 H5 ρ5 d v ((s1.trans (s2.trans s3)).trans s5),λF5 σ5 H5 ρ5 d v s5=>eo.rl F5 σ5 H5 ρ5 d v ((s1.trans (s2.trans s3)).trans s5),λF5 σ5 H5 ρ5 s5 S5 o5=>?_,λF5 σ5 H5 ρ5 s5 S5 o5=>?_⟩
   ·exact again F5 σ5 H5 ρ5 (s3.trans s5) S5 o5
   ·obtain⟨s',e',o'⟩:=Z5_ hO o5
    exact eo.nx F5 σ5 H5 _ ((s1.trans (s2.trans s3)).trans s5) (S5.rd e') o'
   ·exact again F5 σ5 H5 ρ5 (s3.trans s5) S5 o5
  ·have ei:i=ds.length:=by omega
   subst ei
   rw[List.drop_length]at go
   exact .inl ⟨wk.stop G F' σ' H' _ s2 S2,eo.nx F' σ' H' _ (s1.trans s2) S2 go⟩)
theorem Z6_{K:Fg}{G:Gh}{F H:Hp}{σ:L2.St}{ρ:En}{i:Nat}{ds:List D}(St:StOk K G F σ H ρ)(h:ownL ρ i=some ds):∃a vs,σ[i]? = some (some (.ref a))/\H a=some (.lst vs)/\RepL K F vs ds:=by
 obtain⟨a,ea,oa⟩:=St.ow i _ (ZR_ h)
 obtain⟨vs,h1,h2⟩:=oa.he
 exact⟨a,vs,ea,h1,h2⟩
theorem Wg_{K:Fg}{G:Gh}{F H:Hp}{σ:L2.St}{ρ:En}{i:Nat}{a:Addr}{ds ds':List D}{vs':List V}(St:StOk K G F σ H ρ)(h:ownL ρ i=some ds)(ha:σ[i]? = some (some (.ref a)))(r:RepL K F vs' ds') :
  StOk K G F σ (upd H a (.lst vs')) (setO ρ i ds'):=by
 rw[ZZ_ ρ i ds' ds h]
 exact St.change (ZR_ h) ha (c':=.l ds') ⟨_,zw_,r⟩
noncomputable def mApp(ds as:List D):Option (List D):=match as with
 | [d]=>if ds.length<sizeLine then some (ds++[d])else none
 | _=>none
theorem zds_{i:Nat}{x:Str}(hN:X.N[i]? = some x)(hv:Vis X.env.scope x)(he:AEa X [e] ms)
  (hbase:attributeBase (.Name x pos') "append" X.env (eval (.Name x pos') X.env)=eval (.Name x pos') X.env)
  (hfew:((backTo cpos (starEach [e] X.env)).all (λx=>!x.1)&&(backToKw cpos (keywordEach [] X.env)).all (λx=>x.1.isSome)
   && decide ([e].length+([]:List Keyword).length+(if([]:List Keyword).isEmpty then 0 else 1)<30))=true)
  (hline:(apos.endLine==cpos.line)=true) (hs:starEach [e] X.env=(false,eval e X.env)::starEach [] X.env) (hplain:(backTo cpos (starEach [] X.env)).any (·.1)=false)
  (hsw:swapsWith (.Call (.Attribute (.Name x pos') "append" apos) [e] [] cpos) none pos.line X.env=pure false) (hd:(x==("__debug__" : Str))=false:=by decide) (hcd:(x==("__classdict__" : Str))=false:=by decide) :
  AS X (.Expr (.Call (.Attribute (.Name x pos') "append" apos) [e] [] cpos) pos) (sMut i mApp ms):=λOK K G F σ H ρ E hO hX St ok eo =>
 semS (V6_ (zef_ PySem.F.plainAttrs_list PySem.F.slot_list_append PySem.F.type_list_append Wo_ (j2_ hN hv hd hcd) jW_ hbase hfew hline hs hplain) hsw) (by
  unfold sMut at ok
  split at ok
  case h_2=>exact(hO ok).elim
  ·rename_i ds0 h0
   obtain⟨a,vs0,ea,hh,_⟩:=Z6_ St h0
   refine⟨_,ea,.inl ⟨rfl,vs0,.inl (.inl hh)⟩,he OK K.x _ G F σ H ρ _ hO hX St ok λas ws F1 H1 ρ1 s1 S1 _ r1 o1=>?_⟩
   split at o1
   ·rename_i ds hds
    obtain⟨ds',hf,o2⟩:=U2_ hO o1
    obtain⟨a',vs,ea',hh',rv⟩:=Z6_ S1 hds
    rw[ea]at ea'
    injection ea' with ea';injection ea' with ea';injection ea' with ea'
    subst ea'
    unfold mApp at hf
    split at hf
    ·split at hf
     ·rename_i hz
      cases hf
      cases r1 with
      | cons ra rb =>
       cases rb
       refine⟨a,vs,_,rfl,rfl,hh',by rw[rv.length];exact hz,?_⟩
       exact eo.nx F1 σ _ _ s1 (Wg_ S1 hds ea (rv.append (.cons ra .nil))) o2
     ·cases hf
    ·cases hf
   ·exact(hO o1).elim)
end
theorem map_some_get{α:Type}{l:List α}{i:Nat}{x:α}:(l.map some)[i]? = some (some x)↔l[i]? = some x:=by
 rw[List.getElem?_map]
 cases l[i]? <;> simp
open Classical in
noncomputable def zD_(G:Gh)(σ:L2.St)(ρ:En)(H:Hp)(ex:Option Addr):Hp:=λb=>if(∃(i:Nat) (c:OC),own ρ i c/\σ[i]? = some (some (V.ref b)))/\some b≠ex then H b else G.O b
noncomputable def setC(ρ:En)(j:Nat)(c:OC):En:=ρ.set j ((ρ[j]?.join).map fun | .op _=>.op c|_=>.ol c)
section
variable {K:Fg}{G:Gh}{F F' H H':Hp}{σ:L2.St}{ρ:En}{vs:List V}{ds:List D}
theorem jp_{ex:Option Addr}(S:StOk K G F σ H ρ){b:Addr}{o:HO}(h:G.O b=some o):zD_ G σ ρ H ex b=some o:=by
 unfold zD_
 rw[if_neg]
 ·exact h
 ·rintro⟨⟨i,c,ho,e⟩,_⟩
  obtain⟨a,e',oa⟩:=S.ow i c ho
  rw[e]at e'
  injection e' with e';injection e' with e';injection e' with e'
  subst e'
  rw[oa.no]at h;cases h
theorem uF_{ex:Option Addr}{b:Addr}{i:Nat}{c:OC}(ho:own ρ i c)(e:σ[i]? = some (some (V.ref b)))(hx:some b≠ex):zD_ G σ ρ H ex b=H b:=by
 unfold zD_
 rw[if_pos ⟨⟨i,c,ho,e⟩,hx⟩]
theorem Yy_{ex:Option Addr}(S:StOk K G F σ H ρ):Same (zD_ G σ ρ H ex) H:=λb o h=>by
 unfold zD_ at h
 split at h
 ·exact h
 ·exact S.oh b o h
theorem _root_.L3.Held.notup{K:Fg}{F H:Hp}{a:Addr}{c:OC}{o:HO}(h:Held K F H a c)(e:H a=some o):NoTE o:=by
 cases c with
 | l ds=>obtain⟨vs,h1,_⟩:=h;rw[h1]at e;cases e;exact True.intro
 | t es=>obtain⟨vs,h1,_⟩:=h;rw[h1]at e;cases e;exact True.intro
 | k es=>obtain⟨vs,h1,_⟩:=h;rw[h1]at e;cases e;exact True.intro
 | i x ns ds=>obtain⟨C,dx,fs,h1,_⟩:=h;rw[h1]at e;cases e;exact True.intro
theorem Yz_{ex:Option Addr}(S:StOk K G F σ H ρ):∀b o,zD_ G σ ρ H ex b=some o->F b=none/\NoTE o:=λb o h=>by
 unfold zD_ at h
 split at h
 ·rename_i hc
  obtain⟨⟨i,c,ho,e⟩,_⟩:=hc
  obtain⟨a,e',oa⟩:=S.ow i c ho
  rw[e]at e'
  injection e' with e';injection e' with e';injection e' with e'
  subst e'
  exact⟨oa.nf,oa.he.notup h⟩
 ·exact S.fo b o h
theorem Jk_{i:Nat}{av:AV}(h:((ds.map AV.fz).map some)[i]? = some (some av)):∃d,av=.fz d/\ds[i]? = some d:=by
 rw[map_some_get,List.getElem?_map]at h
 cases q:ds[i]? with
 | none=>rw[q]at h;cases h
 | some d=>rw[q]at h;cases h;exact⟨d,rfl,rfl⟩
theorem yl_{i:Nat}{c:OC}(h:own ((ds.map AV.fz).map some) i c):False:=by
 rcases h with h|h<;>(obtain⟨d,z,_⟩:=Jk_ h;cases z)
theorem up_(S:StOk K G F σ H ρ)(r:RepL K F vs ds):StOk K ⟨λ_=>none,zD_ G σ ρ H none,F⟩ F (vs.map some) H ((ds.map AV.fz).map some):=by
 refine⟨S.fh,Yy_ S,Yz_ S,by simp[r.length],λi d h=>?_,λi c h=>(yl_ h).elim,λi j c e a h=>(yl_ h).elim,λi a h=>(nomatch h),λi c h=>?_,Same.refl _⟩
 ·obtain⟨d',z,e⟩:=Jk_ h
  cases z
  obtain⟨v,e1,e2⟩:=r.get e
  exact⟨v,map_some_get.mpr e1,e2⟩
 ·obtain⟨d',z,e⟩:=Jk_ h;cases z
theorem Zn_{avs':List AV}(S:StOk K G F σ H ρ)(s1:Same F F')(S1:StOk K ⟨λ_=>none,zD_ G σ ρ H none,F⟩ F' (vs.map some) H' (avs'.map some)) :
  StOk K G F' σ H' ρ/\∀v c,Frs K ⟨λ_=>none,zD_ G σ ρ H none,F⟩ F' (vs.map some) H' (avs'.map some) v c->Frs K G F' σ H' ρ v c:=by
 have oo:∀b,zD_ G σ ρ H none b=none->G.O b=none:=λb h=>by
  cases q:G.O b with
  | none=>rfl
  | some o=>rw[jp_ S q]at h;cases h
 refine⟨⟨S1.fh,λb o h=>S1.oh b o (jp_ S h),λb o h=>S1.fo b o (jp_ S h),S.ln,λi d h=>?_,λi c h=>?_,S.dj,S.pp,S.pq,S.fb.trans s1⟩,λv cc h=>?_⟩
 ·obtain⟨v,e,r⟩:=S.fz i d h;exact⟨v,e,r.mono s1⟩
 ·obtain⟨a,e,oa⟩:=S.ow i c h
  obtain⟨o,ho⟩:=oa.he.some
  have q:zD_ G σ ρ H none a=some o:=by rw[uF_ h e (by simp)];exact ho
  exact⟨a,e,(S1.fo a o q).1,oa.no,(oa.he.mono s1).at (by rw[S1.oh a o q,ho])⟩
 ·obtain⟨a,rfl,oa,_⟩:=h
  refine⟨a,rfl,⟨oa.nf,oo a oa.no,oa.he⟩,λi e ho q=>?_⟩
  obtain⟨a',e',oa'⟩:=S.ow i e ho
  rw[q]at e'
  injection e' with e';injection e' with e';injection e' with e'
  subst e'
  obtain⟨o,hh⟩:=oa'.he.some
  have:=oa.no
  rw[show(⟨λ_=>none,zD_ G σ ρ H none,F⟩:Gh).O a=zD_ G σ ρ H none a from rfl,uF_ ho q (by simp),hh]at this
  cases this
noncomputable def P1(a:Addr):Nat->Option Addr
 | 0=>some a
 | _=>none
theorem y2_{j:Nat}{c:OC}{a:Addr}(S:StOk K G F σ H ρ)(hj:own ρ j c)(ha:σ[j]? = some (some (V.ref a)))(r:RepL K F vs ds) :
  StOk K ⟨P1 a,zD_ G σ ρ H (some a),F⟩ F ((V.ref a::vs).map some) H ((AV.op c::ds.map AV.fz).map some):=by
 obtain⟨a',e',oa⟩:=S.ow j c hj
 rw[ha]at e'
 injection e' with e';injection e' with e';injection e' with e'
 subst e'
 have at0:∀i d,own ((AV.op c::ds.map AV.fz).map some) i d->i=0/\d=c:=λi d h=>by
  cases i with
  | zero=>rcases h with h|h<;>(simp at h);exact⟨rfl,h.symm⟩
  | succ i=>exact(yl_ (ds:=ds) (i:=i) (c:=d) (by unfold own at h ⊢;simpa using h)).elim
 refine⟨S.fh,Yy_ S,Yz_ S,by simp[r.length],λi d h=>?_,λi d h=>?_,λi k d e b h1 h2 _ _=>?_,λi b h=>?_,λi d h=>?_,Same.refl _⟩
 ·cases i with
  | zero=>simp at h
  | succ i =>
   obtain⟨d',z,e⟩:=Jk_ (ds:=ds) (i:=i) (av:=.fz d) (by simpa using h)
   cases z
   obtain⟨v,e1,e2⟩:=r.get e
   exact⟨v,by simpa using e1,e2⟩
 ·obtain⟨rfl,rfl⟩:=at0 i d h
  refine⟨a,rfl,oa.nf,?_,oa.he⟩
  show zD_ G σ ρ H (some a) a=none
  unfold zD_
  rw[if_neg (by simp)]
  exact oa.no
 ·rw[(at0 i d h1).1,(at0 k e h2).1]
 ·cases i with
  | zero=>cases h;exact⟨rfl,c,rfl⟩
  | succ i=>cases h
 ·cases i with
  | zero=>exact⟨a,rfl⟩
  | succ i =>
   obtain⟨d',z,e⟩:=Jk_ (ds:=ds) (i:=i) (av:=.op d) (by simpa using h)
   cases z
theorem Zo_{j:Nat}{c c':OC}{a:Addr}{l:List AV}(S:StOk K G F σ H ρ)(hj:own ρ j c)(ha:σ[j]? = some (some (V.ref a)))(s1:Same F F')
  (S1:StOk K ⟨P1 a,zD_ G σ ρ H (some a),F⟩ F' ((V.ref a::vs).map some) H' ((AV.op c'::l).map some)) :
  StOk K G F' σ H' (setC ρ j c')/\∀v cc,Frs K ⟨P1 a,zD_ G σ ρ H (some a),F⟩ F' ((V.ref a::vs).map some) H' ((AV.op c'::l).map some) v cc->Frs K G F' σ H' (setC ρ j c') v cc:=by
 have oo:∀b,zD_ G σ ρ H (some a) b=none->G.O b=none:=λb h=>by
  cases q:G.O b with
  | none=>rfl
  | some o=>rw[jp_ S q]at h;cases h
 obtain⟨a',e',oa⟩:=S.ow j c hj
 rw[ha]at e'
 injection e' with e';injection e' with e';injection e' with e'
 subst e'
 have hl:j<ρ.length:=by rcases hj with h|h<;>exact(List.getElem?_eq_some_iff.mp h).1
 generalize hav:((ρ[j]?.join).map λ(x:AV)=>match x with | .op _=>AV.op c'|_=>AV.ol c')=av
 have hset:setC ρ j c'=ρ.set j av:=by rw[<-hav];rfl
 rw[hset]
 have ne:∀i,i≠j->(ρ.set j av)[i]? = ρ[i]?:=λi hi=>List.getElem?_set_ne (Ne.symm hi)
 have atj:(ρ.set j av)[j]? = some av:=List.getElem?_set_self hl
 have kind:(ρ[j]? = some (some (.ol c))/\av=some (.ol c'))\/(ρ[j]? = some (some (.op c))/\av=some (.op c')):=by
  rcases hj with h|h
  ·exact .inl ⟨h,by rw[<-hav,h];rfl⟩
  ·exact .inr ⟨h,by rw[<-hav,h];rfl⟩
 have owni:∀i e,own (ρ.set j av) i e->(i=j/\e=c')\/(i≠j/\own ρ i e):=λi e h=>by
  by_cases hi:i=j
  ·subst hi
   unfold own at h
   rw[atj]at h
   rcases kind with ⟨_,k⟩|⟨_,k⟩<;>rw[k]at h<;>rcases h with h|h<;>cases h<;>exact .inl ⟨rfl,rfl⟩
  ·unfold own at h ⊢
   rw[ne i hi]at h
   exact .inr ⟨hi,h⟩
 have nea:∀i e b,i≠j->own ρ i e->σ[i]? = some (some (V.ref b))->b≠a:=λi e b hi ho q z=>by
  subst z
  exact hi (S.dj i j e c b ho hj q ha)
 have own1:OwnAt K ⟨P1 a,zD_ G σ ρ H (some a),F⟩ F' H' a c':=by
  obtain⟨b,e1,ob⟩:=S1.ow 0 c' (.inr rfl)
  have:V.ref a=V.ref b:=by simpa using e1
  injection this with this
  subst this
  exact ob
 refine⟨⟨S1.fh,λb o h=>S1.oh b o (jp_ S h),λb o h=>S1.fo b o (jp_ S h),by simpa using S.ln,λi d h=>?_,λi e h=>?_,λi k d e b h1 h2=>?_,λi b h=>?_,λi d h=>?_,S.fb.trans s1⟩,λv cc h=>?_⟩
 ·by_cases hi:i=j
  ·subst hi
   rw[atj]at h
   rcases kind with ⟨_,k⟩|⟨_,k⟩<;>rw[k]at h<;>cases h
  ·rw[ne i hi]at h
   obtain⟨v,e,r⟩:=S.fz i d h;exact⟨v,e,r.mono s1⟩
 ·rcases owni i e h with ⟨rfl,rfl⟩|⟨hi,ho⟩
  ·exact⟨a,ha,own1.nf,oa.no,own1.he⟩
  ·obtain⟨b,eb,ob⟩:=S.ow i e ho
   obtain⟨o,hh⟩:=ob.he.some
   have q:zD_ G σ ρ H (some a) b=some o:=by rw[uF_ ho eb (λz=>nea i e b hi ho eb (Option.some.inj z))];exact hh
   exact⟨b,eb,(S1.fo b o q).1,ob.no,(ob.he.mono s1).at (by rw[S1.oh b o q,hh])⟩
 ·have f:∀i e,own (ρ.set j av) i e->∃d,own ρ i d:=λi e h=>by
   rcases owni i e h with ⟨rfl,_⟩|⟨_,ho⟩
   ·exact⟨c,hj⟩
   ·exact⟨e,ho⟩
  exact S.dj i k _ _ b (f i d h1).choose_spec (f k e h2).choose_spec
 ·obtain⟨q1,e,q2⟩:=S.pp i b h
  refine⟨q1,?_⟩
  by_cases hi:i=j
  ·subst hi
   rcases kind with ⟨k1,k⟩|⟨k1,k⟩
   ·rw[k1]at q2;cases q2
   ·exact⟨c',by rw[atj,k]⟩
  ·exact⟨e,by rw[ne i hi];exact q2⟩
 ·by_cases hi:i=j
  ·subst hi
   rcases kind with ⟨k1,k⟩|⟨k1,k⟩
   ·rw[atj,k]at h;cases h
   ·exact S.pq i c k1
  ·rw[ne i hi]at h;exact S.pq i d h
 ·obtain⟨b,rfl,ob,nn⟩:=h
  refine⟨b,rfl,⟨ob.nf,oo b ob.no,ob.he⟩,λi e ho q=>?_⟩
  rcases owni i e ho with ⟨rfl,_⟩|⟨hi,ho'⟩
  ·rw[ha]at q
   injection q with q;injection q with q;injection q with q
   subst q
   exact nn 0 c' (.inr rfl) rfl
  ·obtain⟨b',eb,ob'⟩:=S.ow i e ho'
   rw[q]at eb
   injection eb with eb;injection eb with eb;injection eb with eb
   subst eb
   obtain⟨o,hh⟩:=ob'.he.some
   have:=ob.no
   rw[show(⟨P1 a,zD_ G σ ρ H (some a),F⟩:Gh).O b=zD_ G σ ρ H (some a) b from rfl,uF_ ho' q (λz=>nea i e b hi ho' q (Option.some.inj z)),hh]at this
   cases this
end
noncomputable abbrev fzs(ds:List D):En:=(ds.map AV.fz).map some
noncomputable def KD:KS D:=⟨λ_=>.ret .none,λd _=>.ret d,λ_ _=>.bad,λ_=>.bad,λ_=>.bad,λe _=>.exc e⟩
noncomputable def KL:KS (List D):=⟨λ_=>.bad,λ_ _=>.bad,λds _=>.ret ds,λ_=>.bad,λ_=>.bad,λe _=>.exc e⟩
noncomputable def at0{S:Type}(ρ:En)(k:List D->M S):M S:=match (ρ[0]? : Option (Option AV))with
 | some (some (AV.op (OC.l f)))=>k f
 | _=>.bad
def K1:KS (D×List D):=⟨λρ=>at0 ρ λf=>.ret (.none,f),λd ρ=>at0 ρ λf=>.ret (d,f),λ_ _=>.bad,λ_=>.bad,λ_=>.bad,λe _=>.exc e⟩
def EndM(K:Fg)(G:Gh)(E:XK){α:Type}(m:M α)(C:α->Prop):Prop:=match m with
 | .ret a=>C a
 | .exc x=>∀F' H' Cl dd,GOk G F' H'->XR K F' Cl dd x->E (.ref Cl) dd H'
 | .bad=>False
def spD(K:Fg)(n:Nat)(mf:List D->M D):Sp:=λvs H Q E=>∃G F ds,vs.length=n/\StOk K G F (vs.map some) H (fzs ds)/\EndM K G E (mf ds) λd=>∀v F' H',Same F F'->StOk K G F' (vs.map some) H' (fzs ds)->Rep K F' v d->Q v H'
def spL(K:Fg)(n:Nat)(mf:List D->M (List D)):Sp:=λvs H Q E=>∃G F ds,vs.length=n/\StOk K G F (vs.map some) H (fzs ds)/\EndM K G E (mf ds) λd=>∀v F' H',Same F F'->StOk K G F' (vs.map some) H' (fzs ds)->Frs K G F' (vs.map some) H' (fzs ds) v (.l d)->Q v H'
def sp1(K:Fg)(n:Nat)(mf:List D->List D->M (D×List D)):Sp:=λvs H Q E=>∃G F f ds,vs.length=n/\StOk K G F (vs.map some) H (some (.op (.l f))::fzs ds)/\EndM K G E (mf f ds) λr =>
 ∀v F' H',Same F F'->StOk K G F' (vs.map some) H' (some (.op (.l r.2))::fzs ds)->Rep K F' v r.1->Q v H'
section
variable {K:Fg}{G:Gh}{F F' H H':Hp}{vs:List V}{σ:L2.St}{ρ:En}{ds:List D}
theorem WU_(S:StOk K G F (vs.map some) H (fzs ds))(s1:Same F F')(S1:StOk K G F' σ H' ρ):StOk K G F' (vs.map some) H' (fzs ds):=by
 refine⟨S1.fh,S1.oh,S1.fo,S.ln,λi d q=>?_,λi c q=>(yl_ q).elim,λi j c e a q=>(yl_ q).elim,S.pp,S.pq,S1.fb⟩
 obtain⟨v,e,r⟩:=S.fz i d q
 exact⟨v,e,r.mono s1⟩
theorem zbC_{v:V}{c:OC}(S1:StOk K G F' σ H' ρ)(h:Frs K G F' σ H' ρ v c):Frs K G F' (vs.map some) H' (fzs ds) v c:=by
 obtain⟨a,rfl,oa,_⟩:=h
 exact⟨a,rfl,oa,λi e q=>(yl_ q).elim⟩
theorem own1{f:List D}{i:Nat}{c:OC}(h:own (some (.op (.l f))::fzs ds) i c):i=0/\c=.l f:=by
 cases i with
 | zero=>rcases h with h|h<;>simp at h;exact⟨rfl,h.symm⟩
 | succ i=>exact(yl_ (ds:=ds) (i:=i) (c:=c) (by unfold own at h ⊢;simpa using h)).elim
theorem zam_{f f':List D}(S:StOk K G F (vs.map some) H (some (.op (.l f))::fzs ds))(s1:Same F F')(S1:StOk K G F' σ H' ρ)(h0:ρ[0]? = some (some (.op (.l f')))) :
  StOk K G F' (vs.map some) H' (some (.op (.l f'))::fzs ds)/\∀v c,Frs K G F' σ H' ρ v c->Frs K G F' (vs.map some) H' (some (.op (.l f'))::fzs ds) v c:=by
 obtain⟨a,ha⟩:=S1.pq 0 _ h0
 obtain⟨e1,_⟩:=S1.pp 0 a ha
 obtain⟨e2,_⟩:=S.pp 0 a ha
 obtain⟨b,eb,ob⟩:=S1.ow 0 _ (.inr h0)
 rw[e1]at eb
 injection eb with eb;injection eb with eb;injection eb with eb
 subst eb
 have only:∀i b,G.P i=some b->i=0:=λi b h=>by
  obtain⟨_,c,q⟩:=S.pp i b h
  exact(own1 (.inr q)).1
 refine⟨⟨S1.fh,S1.oh,S1.fo,S.ln,λi d q=>?_,λi c q=>?_,λi j c e b q1 q2 _ _=>?_,λi b q=>?_,λi c q=>?_,S1.fb⟩,λv c h=>?_⟩
 ·cases i with
  | zero=>simp at q
  | succ i =>
   obtain⟨v,e,r⟩:=S.fz (i+1) d (by simpa using q)
   exact⟨v,e,r.mono s1⟩
 ·obtain⟨rfl,rfl⟩:=own1 q
  exact⟨a,e2,ob⟩
 ·rw[(own1 q1).1,(own1 q2).1]
 ·have:=only i b q
  subst this
  exact⟨(S.pp 0 b q).1,_,rfl⟩
 ·obtain⟨rfl,_⟩:=own1 (.inr q)
  exact⟨a,ha⟩
 ·obtain⟨b,rfl,ob2,nn⟩:=h
  refine⟨b,rfl,ob2,λi e q z=>?_⟩
  obtain⟨rfl,rfl⟩:=own1 q
  rw[e2]at z
  injection z with z;injection z with z;injection z with z
  subst z
  exact nn 0 _ (.inr h0) e1
end
section
variable {P:Program}{w:World}{K:Fg}{mg:Str->Option Value}{base:Heap}{x qual:Str}{st:Stmt}{f:Addr}{fd:FuncData}{N ps:List Str}{k:Nat}
theorem Qn_{vs:List V}{ds:List D}{G:Gh}{F H:Hp}(hl:vs.length=ps.length)(S0:StOk K G F (vs.map some) H (fzs ds)):StOk K G F (L2.start N vs) H (fzs ds++List.replicate (N.length - ps.length) none):=by
 have e0:L2.start N vs=vs.map some++List.replicate (N.length - ps.length) none:=by unfold L2.start;rw[hl]
 rw[e0]
 exact S0.grow _
theorem fn_x{sp:Sp}(Fn:Fun K x qual st f fd)(S:FnScope N ps (zd_ st))(len:∀vs H Q E,sp vs H Q E->vs.length=ps.length)
  (hbody:∀(cdv:Value) (A:Around) (outer:List Env) (s:Shared) (H:Hp) (vs:List V) (Q:VK) (E:XK),Room k (A.deeper (envOfC qual (zd_ st) s.heap.objs.size f cdv))->sp vs H Q E ->
   ∃t,PSs (cxOf (CX1 P w) P w K mg base N qual (zd_ st) f cdv A outer s H E) (z2_ st) t/\t { nx:=λ_ H'=>Q .non H',rt:=Q } (start N vs) H):FnOk P w K mg base (CX1 P w) (k+1) f fd ps sp:=by
 obtain⟨oc,od,kV,doc,pm,an,cdv,ct,osl,rfl,lk,hcd⟩:=Fn.ex
 exact zex_ lk hcd S len λA outer s H vs Q E hr hsp=>hbody cdv A outer s H vs Q E hr hsp
theorem XM_{α:Type}{C:α->Prop}{N:List Str}{qual:Str}{scope:Scope}{f:Addr}{cdv:Value}{A:Around}{outer:List Env}{s:Shared}{H F:Hp}{E:XK}{G:Gh}{ρ:En}{e:Ex}(h:EndM K G E (M.exc e:M α) C):XW (cxOf (CX1 P w) P w K mg base N qual scope f cdv A outer s H E) G F ρ e :=
 λF' H' s' a Cl dd pins σ g _ I xs _ xr=>zbk_ I xs (h F' H' Cl dd g xr)
theorem un_{mb:SM D}{mf:List D->M D}(Fn:Fun K x qual st f fd)(Sc:FnScope N ps (zd_ st))
  (hb:∀(cdv:Value) (A:Around) (outer:List Env) (s:Shared) (H:Hp) (E:XK),Room k (A.deeper (envOfC qual (zd_ st) s.heap.objs.size f cdv)) ->
   ASs (cxOf (CX1 P w) P w K mg base N qual (zd_ st) f cdv A outer s H E) (z2_ st) mb)
  (hm:∀ds,ds.length=ps.length->mf ds=mb KD (fzs ds++List.replicate (N.length - ps.length) none)):FnOk P w K mg base (CX1 P w) (k+1) f fd ps (spD K ps.length mf):=by
 refine fn_x Fn Sc (λvs H Q E h=>?_) (λcdv A outer s H vs Q E hr h=>?_)
 ·obtain⟨_,_,_,h1,_⟩:=h;exact h1
 ·obtain⟨G,F0,ds,h1,S0,e⟩:=h
  have hl:ds.length=ps.length:=by have:=S0.ln;simp at this;lia
  rw[hm ds hl]at e
  refine⟨_,uW_,hb cdv A outer s H E hr (λm=>EndM K G E m _) KD G F0 _ H _ _ (λz=>z) (λF ρ e z=>XM_ z) (Qn_ h1 S0) e ?_⟩
  exact⟨λF' σ' H' ρ' s S' o=>(by exact o .non F' H' s (WU_ S0 s S') .non),λF' σ' H' ρ' d' v s S' r o=>(by exact o v F' H' s (WU_ S0 s S') r),λF' σ' H' ρ' d' v s S' r o=>(o:False).elim,λF' σ' H' ρ' s S' o=>(o:False).elim,λF' σ' H' ρ' s S' o=>(o:False).elim⟩
theorem zdh_{mb:SM (List D)}{mf:List D->M (List D)}(Fn:Fun K x qual st f fd)(Sc:FnScope N ps (zd_ st))
  (hb:∀(cdv:Value) (A:Around) (outer:List Env) (s:Shared) (H:Hp) (E:XK),Room k (A.deeper (envOfC qual (zd_ st) s.heap.objs.size f cdv)) ->
   ASs (cxOf (CX1 P w) P w K mg base N qual (zd_ st) f cdv A outer s H E) (z2_ st) mb)
  (hm:∀ds,ds.length=ps.length->mf ds=mb KL (fzs ds++List.replicate (N.length - ps.length) none)):FnOk P w K mg base (CX1 P w) (k+1) f fd ps (spL K ps.length mf):=by
 refine fn_x Fn Sc (λvs H Q E h=>?_) (λcdv A outer s H vs Q E hr h=>?_)
 ·obtain⟨_,_,_,h1,_⟩:=h;exact h1
 ·obtain⟨G,F0,ds,h1,S0,e⟩:=h
  have hl:ds.length=ps.length:=by have:=S0.ln;simp at this;lia
  rw[hm ds hl]at e
  refine⟨_,uW_,hb cdv A outer s H E hr (λm=>EndM K G E m _) KL G F0 _ H _ _ (λz=>z) (λF ρ e z=>XM_ z) (Qn_ h1 S0) e ?_⟩
  exact⟨λF' σ' H' ρ' s S' o=>(o:False).elim,λF' σ' H' ρ' d' v s S' r o=>(o:False).elim,λF' σ' H' ρ' d' v s S' r o=>(by exact o v F' H' s (WU_ S0 s S') (zbC_ S' r)),λF' σ' H' ρ' s S' o=>(o:False).elim,λF' σ' H' ρ' s S' o=>(o:False).elim⟩
theorem zap_{S:Type}{ρ:En}{k:List D->M S}{K:Fg}{G:Gh}{E:XK}{C:S->Prop}(h:EndM K G E (at0 ρ k) C):∃f,ρ[0]? = some (some (AV.op (OC.l f)))/\EndM K G E (k f) C:=by
 unfold at0 at h
 split at h
 ·rename_i f q;exact⟨f,q,h⟩
 ·exact h.elim
theorem zaE_{vs:List V}{ds g:List D}{G:Gh}{F H:Hp}(hl:vs.length=ps.length)(S0:StOk K G F (vs.map some) H (some (.op (.l g))::fzs ds)):StOk K G F (L2.start N vs) H (some (.op (.l g))::fzs ds++List.replicate (N.length - ps.length) none):=by
 have e0:L2.start N vs=vs.map some++List.replicate (N.length - ps.length) none:=by unfold L2.start;rw[hl]
 rw[e0]
 exact S0.grow _
theorem Yq_{mb:SM (D×List D)}{mf:List D->List D->M (D×List D)}(Fn:Fun K x qual st f fd)(Sc:FnScope N ps (zd_ st))
  (hb:∀(cdv:Value) (A:Around) (outer:List Env) (s:Shared) (H:Hp) (E:XK),Room k (A.deeper (envOfC qual (zd_ st) s.heap.objs.size f cdv)) ->
   ASs (cxOf (CX1 P w) P w K mg base N qual (zd_ st) f cdv A outer s H E) (z2_ st) mb)
  (hm:∀g ds,ds.length+1=ps.length->mf g ds=mb K1 (some (.op (.l g))::fzs ds++List.replicate (N.length - ps.length) none)):FnOk P w K mg base (CX1 P w) (k+1) f fd ps (sp1 K ps.length mf):=by
 refine fn_x Fn Sc (λvs H Q E h=>?_) (λcdv A outer s H vs Q E hr h=>?_)
 ·obtain⟨_,_,_,_,h1,_⟩:=h;exact h1
 ·obtain⟨G,F0,g,ds,h1,S0,e⟩:=h
  have hl:ds.length+1=ps.length:=by have:=S0.ln;simp at this;lia
  rw[hm g ds hl]at e
  refine⟨_,uW_,hb cdv A outer s H E hr (λm=>EndM K G E m _) K1 G F0 _ H _ _ (λz=>z) (λF ρ e z=>XM_ z) (zaE_ h1 S0) e ?_⟩
  refine⟨λF' σ' H' ρ' s S' o=>?_,λF' σ' H' ρ' d' v s S' rv o=>?_,λF' σ' H' ρ' d' v s S' r o=>(o:False).elim,λF' σ' H' ρ' s S' o=>(o:False).elim,λF' σ' H' ρ' s S' o=>(o:False).elim⟩
  ·obtain⟨f',q,e'⟩:=zap_ o
   exact e' .non F' H' s (zam_ S0 s S' q).1 .non
  ·obtain⟨f',q,e'⟩:=zap_ o
   exact e' v F' H' s (zam_ S0 s S' q).1 rv
end
structure CF(P:Program)(w:World)(K:Fg)(mg:Str->Option Value)(base:Heap)(x:Str)(k:Nat)(sp:Sp):Prop where
 ex:∃(f:Addr) (fd:FuncData) (ps:List Str),FnOk P w K mg base (CX1 P w) k f fd ps sp/\mg x=some (.ref f)/\PySem.W.keepIn K (.ref f)=true/\L2.Binds K fd ps []
noncomputable def pFnD(mf:List D->M D)(ps:Pa D):Pu D:=λρ=>ps (λds=>mf ds) ρ
noncomputable def pFnL(mf:List D->M (List D))(ps:Pa (List D)):Pu (List D):=λρ=>ps (λds=>mf ds) ρ
section
variable {S:Type}
def eFnD(mf:List D->M D)(ms:Ev S (List D)):Ev S D:=λx k ρ=>ms x (λds ρ1=>(mf ds).on (λe=>x e ρ1) (λd=>k d ρ1)) ρ
def eFn1(mf:List D->List D->M (D×List D))(i:Nat)(ms:Ev S (List D)):Ev S D:=λx k ρ=>ms x (λds ρ1=>match ownL ρ1 i with
 | some f=>(mf f ds).on (λe=>x e ρ1) (λr=>k r.1 (setO ρ1 i r.2))
 | none=>.bad) ρ
end
noncomputable def EX(X:Cx)(G:Gh)(σ:L2.St):XK:=λc dd H'=>∃x ρ F1 F' C,c=.ref C/\XW X G F1 ρ x/\GOk G F' H'/\FzOk X.K F' σ ρ/\XR X.K F' C dd x
theorem XS.older{H:Hp}{h:Heap}{lo lo':Nat}{e C:Addr}{dd:Option Addr}(xs:XS H h lo e C dd)(hl:lo'<=lo):XS H h lo' e C dd:=by
 obtain⟨oe,vs,q,c,d,z,z1,k⟩:=xs.obj
 refine⟨Nat.le_trans hl xs.yg,xs.trk,oe,vs,q,c,d,z,z1,k.imp id ?_⟩
 rintro⟨T,oT,ts,k,ne,l,r⟩
 exact⟨T,oT,ts,k,ne,Nat.le_trans hl l,r⟩
def UK_(X:Cx)(σ:L2.St)(E:XK):Prop:=∀(pins:List (Addr×Obj)) (H:Hp) (s:Shared) (e:Value) (s':Shared),Inv X pins σ H s->CX1 X.prog X.w X.stack H s E e s'->X.xe e s'
theorem YS_{X:Cx}{G:Gh}{σ:L2.St}:UK_ X σ (EX X G σ):=λpins H s e s' I h=>by
 obtain⟨a,C,dd,H',rfl,ho,hb,un,hk,xs,x,ρ,F1,F',C',ec,xw,g,fz,xr⟩:=h
 cases ec
 refine xw F' H' s' a C dd pins σ g fz (I.call' ho un hk hb λb z=>absurd z (by simp)) (xs.older I.sz) (λp hp z=>?_) xr
 exact absurd (Nat.lt_of_lt_of_le (Heap.lt_size (I.pin p hp).1) (xs.tb z).2.1) (Nat.lt_irrefl _)
theorem EX.of{X:Cx}{G:Gh}{F F' H' H:Hp}{σ:L2.St}{ρ:En}{x:Ex}{C:Addr}{dd:Option Addr}{ex:Option Addr}{p:Nat->Option Addr}(S:StOk X.K G F σ H ρ)(xw:XW X G F ρ x)(g:GOk ⟨p,zD_ G σ ρ H ex,F⟩ F' H')(xr:XR X.K F' C dd x):EX X G σ (.ref C) dd H' :=
 ⟨x,ρ,F,F',C,rfl,xw,⟨g.fh,λb o h=>g.oh b o (jp_ S h),λb o h=>g.fo b o (jp_ S h),S.fb.trans g.fb⟩,S.fzok g.fb,xr⟩
section
variable {X:Cx}{k:Nat}{f:Addr}{fd:FuncData}{ps:List Str}{sp:Sp}{E:XK}{x:Str}{p pos:Pos}{e:Expr}{es:List Expr}{σ:L2.St}{H:Hp}{Q:VK}
theorem VT_{pins:List (Addr×Obj)}{s:Shared}{us:List Value}{vs:List V}(F:FnOk X.prog X.w X.K X.mg X.base (CX1 X.prog X.w) k f fd ps sp)(hr:Room k X.A)(hb:L2.Binds X.K fd ps [])(hx:UK_ X σ E)
  (I:Inv X pins σ H s) (r:Vals vs us) (h:sp vs H Q E):wpAny (model X.prog X.w) X.A (call (.ref f) us) (EP X pins σ Q) X.xe s:=by
 have hl:(us++[]).length=ps.length:=by rw[List.append_nil,<-r.length];exact F.len _ _ _ _ h
 have bb:=hb s us I.kIn hl
 rw[List.append_nil]at bb
 refine wpAny_call (codeAny_mono (F.run X.A X.stack s H ⟨us,[]⟩ us vs Q E hr I.env0 bb r h) λr s' hq=>?_)
 cases r with
 | error e=>exact hx pins H s e s' I hq
 | ok fl =>
  cases fl with
  | ret u=>exact I.after hq
  | next=>exact False.elim hq
  | brk=>exact False.elim hq
  | cont=>exact False.elim hq
theorem yI_(F:FnOk X.prog X.w X.K X.mg X.base (CX1 X.prog X.w) k f fd ps sp)(hr:Room k X.A)(hg:Gl X x)(hm:X.mg x=some (.ref f))(hk:PySem.W.keepIn X.K (.ref f)=true)(hb:L2.Binds X.K fd ps [])(hx:UK_ X σ E)
  (hdb:(x==("__debug__" : Str))=false) (he:starEach (e::es) X.env=(false,eval e X.env)::starEach es X.env) (hpl:(backTo pos (starEach es X.env)).any (·.1)=false)
  (h:uR_ X (e::es) σ H λvs H1=>sp vs H1 Q E):tSem X (.Call (.Name x p) (e::es) [] pos) σ H Q:=by
 unfold tSem
 intro pins s I
 unfold uR_ at h
 refine wpAny_Call_Name_kw (Uy_ I hg hm ?_ hdb)
 refine PySem.W.callWith_K (h₀:=X.base) I.ok.mod.kin hk (thn (h pos pins s I) λus s1 ⟨vs,H1,I1,r,q⟩=>⟨I1.kIn,?_⟩) he hpl
 exact VT_ F hr hb hx I1 r q
end
section
variable {S:Type}{X:Cx}{k n:Nat}{mf:List D->M D}{ml:List D->M (List D)}{m1:List D->List D->M (D×List D)}{m1L:List D->List D->M (List D×List D)}{x:Str}{p pos pn:Pos}{e:Expr}{es:List Expr}{ps:Pa D}{pl:Pa (List D)}{ms:Ev S (List D)}
theorem ya_(C:CF X.prog X.w X.K X.mg X.base x k (spD X.K n mf))(hr:Room k X.A)(hg:Gl X x)(ha:AA X (e::es) ps)(hn:(e::es).length=n)
  (hdb:(x==("__debug__" : Str))=false) (he:starEach (e::es) X.env=(false,eval e X.env)::starEach es X.env) (hpl:(backTo pos (starEach es X.env)).any (·.1)=false):AP X (.Call (.Name x p) (e::es) [] pos) (pFnD mf ps):=by
 obtain⟨f,fd,pl,Fn,h1,h2,h3⟩:=C.ex
 intro G F σ H ρ Q St w
 refine yI_ Fn hr hg h1 h2 h3 (YS_ (G:=G)) hdb he hpl ?_
 refine ha G F σ H ρ _ _ _ St w λds vs F1 H1 s1 S1 hl r1 w1=>?_
 show spD X.K n mf vs H1 Q (EX X G σ)
 cases hd:mf ds with
 | bad=>rw[hd]at w1;exact w1.elim
 | exc e =>
  rw[hd]at w1
  exact⟨_,F1,ds,hl.trans hn,up_ S1 r1,by rw[hd];exact λF' H' Cl dd g xr=>EX.of S1 w1 g xr⟩
 | ret d =>
  rw[hd]at w1
  refine⟨_,F1,ds,hl.trans hn,up_ S1 r1,?_⟩
  rw[hd]
  intro v F2 H2 s2 S2 r2
  obtain⟨S3,t3⟩:=Zn_ (avs':=ds.map AV.fz) S1 s2 S2
  exact w1 F2 H2 s2 S3 v r2
theorem zeF_(C:CF X.prog X.w X.K X.mg X.base x k (spL X.K n ml))(hr:Room k X.A)(hg:Gl X x)(ha:AA X (e::es) pl)(hn:(e::es).length=n)
  (hdb:(x==("__debug__" : Str))=false) (he:starEach (e::es) X.env=(false,eval e X.env)::starEach es X.env) (hpl:(backTo pos (starEach es X.env)).any (·.1)=false):AL X (.Call (.Name x p) (e::es) [] pos) (pFnL ml pl):=by
 obtain⟨f,fd,pz,Fn,h1,h2,h3⟩:=C.ex
 intro G F σ H ρ Q St w
 refine yI_ Fn hr hg h1 h2 h3 (YS_ (G:=G)) hdb he hpl ?_
 refine ha G F σ H ρ _ _ _ St w λds vs F1 H1 s1 S1 hl r1 w1=>?_
 show spL X.K n ml vs H1 Q (EX X G σ)
 cases hd:ml ds with
 | bad=>rw[hd]at w1;exact w1.elim
 | exc e =>
  rw[hd]at w1
  exact⟨_,F1,ds,hl.trans hn,up_ S1 r1,by rw[hd];exact λF' H' Cl dd g xr=>EX.of S1 w1 g xr⟩
 | ret d =>
  rw[hd]at w1
  refine⟨_,F1,ds,hl.trans hn,up_ S1 r1,?_⟩
  rw[hd]
  intro v F2 H2 s2 S2 r2
  obtain⟨S3,t3⟩:=Zn_ (avs':=ds.map AV.fz) S1 s2 S2
  exact w1 F2 H2 s2 S3 v (t3 v _ r2)
theorem VN_{ρ:En}{i:Nat}{f g:List D}(h:ownL ρ i=some g):setO ρ i f=setC ρ i (.l f):=ZZ_ ρ i f g h
theorem zeI_(C:CF X.prog X.w X.K X.mg X.base x k (spD X.K n mf))(hr:Room k X.A)(hg:Gl X x)(ha:AEa X (e::es) ms)(hn:(e::es).length=n)
  (hdb:(x==("__debug__" : Str))=false) (he:starEach (e::es) X.env=(false,eval e X.env)::starEach es X.env) (hpl:(backTo pos (starEach es X.env)).any (·.1)=false):AE X (.Call (.Name x p) (e::es) [] pos) (eFnD mf ms):=by
 obtain⟨f,fd,pl,Fn,h1,h2,h3⟩:=C.ex
 intro OK y kk G F σ H ρ Q hO hX St ok k2
 refine yI_ Fn hr hg h1 h2 h3 (YS_ (G:=G)) hdb he hpl ?_
 refine ha OK y _ G F σ H ρ _ hO hX St ok λds vs F1 H1 ρ1 s1 S1 hl r1 o1=>?_
 show spD X.K n mf vs H1 Q (EX X G σ)
 cases hd:mf ds with
 | bad=>rw[hd]at o1;exact(hO o1).elim
 | exc e =>
  rw[hd]at o1
  exact⟨_,F1,ds,hl.trans hn,up_ S1 r1,by rw[hd];exact λF' H' Cl dd g xr=>EX.of S1 (hX F1 ρ1 e o1) g xr⟩
 | ret d =>
  rw[hd]at o1
  refine⟨_,F1,ds,hl.trans hn,up_ S1 r1,?_⟩
  rw[hd]
  intro v F2 H2 s2 S2 r2
  obtain⟨S3,t3⟩:=Zn_ (avs':=ds.map AV.fz) S1 s2 S2
  exact k2 d v F2 H2 ρ1 (s1.trans s2) S3 r2 o1
theorem Vv_{i:Nat}{y:Str}{OK:M S->Prop}{z:Ex->En->M S}{kk:List D->En->M S}{G:Gh}{F H:Hp}{σ:L2.St}{ρ:En}{Q:List V->Hp->Prop}(hN:X.N[i]? = some y)(hv:Vis X.env.scope y)(hd:(y==("__debug__" : Str))=false)(hcd:(y==("__classdict__" : Str))=false)
  (ha:AEa X es ms) (he:starEach (.Name y pn::es) X.env=(false,eval (.Name y pn) X.env)::starEach es X.env) (hO:KOk OK) (hX:XL X OK z G) (St:StOk X.K G F σ H ρ) (ok:OK (ms z (λds ρ1=>match ownL ρ1 i with|some f=>kk (.list f::ds) ρ1|none=>.bad) ρ))
  (h0:(ownL ρ i).isSome=true)
  (k2:∀a f ds vs F' H' ρ',Same F F'->StOk X.K G F' σ H' ρ'->ownL ρ' i=some f->σ[i]? = some (some (V.ref a))->vs.length=es.length->RepL X.K F' vs ds->OK (kk (.list f::ds) ρ')->Q (.ref a::vs) H'):uR_ X (.Name y pn::es) σ H Q:=by
 obtain⟨f0,hf0⟩:=Option.isSome_iff_exists.mp h0
 obtain⟨a,_,ea,_,_⟩:=Z6_ St hf0
 refine semA (yw_ (j2_ hN hv hd hcd) jW_ he) ⟨_,ea,?_⟩
 refine ha OK z _ G F σ H ρ _ hO hX St ok λds vs F1 H1 ρ1 s1 S1 hl r1 o1=>?_
 split at o1
 ·rename_i f hf
  exact k2 a f ds vs F1 H1 ρ1 s1 S1 hf ea hl r1 o1
 ·exact(hO o1).elim
def ck{S α:Type}(i:Nat)(m:Ev S α):Ev S α:=λx k ρ=>match (ownL ρ i).isSome with
 | true=>m x k ρ
 | false=>.bad
theorem J5_{K:Fg}{G:Gh}{F H:Hp}{σ:L2.St}{ρ:En}{vs:List V}{ds f:List D}{j:Nat}{a:Addr}(S:StOk K G F σ H ρ)(hj:ownL ρ j=some f)(ha:σ[j]? = some (some (V.ref a)))(r:RepL K F vs ds) :
  StOk K ⟨P1 a,zD_ G σ ρ H (some a),F⟩ F ((V.ref a::vs).map some) H (some (.op (.l f))::fzs ds):=y2_ S (ZR_ hj) ha r
theorem ji_{i:Nat}{y:Str}(C:CF X.prog X.w X.K X.mg X.base x k (sp1 X.K n m1))(hr:Room k X.A)(hg:Gl X x)(hN:X.N[i]? = some y)(hv:Vis X.env.scope y)(ha:AEa X es ms)(hn:es.length+1=n)
  (hdb:(x==("__debug__" : Str))=false) (he:starEach (.Name y pn::es) X.env=(false,eval (.Name y pn) X.env)::starEach es X.env) (hpl:(backTo pos (starEach es X.env)).any (·.1)=false)
  (hd:(y==("__debug__" : Str))=false:=by decide) (hcd:(y==("__classdict__" : Str))=false:=by decide):AE X (.Call (.Name x p) (.Name y pn::es) [] pos) (ck i (eFn1 m1 i ms)):=by
 obtain⟨f,fd,pl,Fn,h1,h2,h3⟩:=C.ex
 intro OK z kk G F σ H ρ Q hO hX St ok k2
 unfold ck at ok
 split at ok
 case h_2=>exact(hO ok).elim
 rename_i h0
 refine yI_ Fn hr hg h1 h2 h3 (YS_ (G:=G)) hdb he hpl ?_
 refine Vv_ (OK:=OK) (z:=z) (kk:=λl ρ1=>match l with | .list f::ds=>(m1 f ds).on (λe=>z e ρ1) (λr=>kk r.1 (setO ρ1 i r.2))|_=>.bad) hN hv hd hcd ha he hO hX St ok h0 λa f ds vs F1 H1 ρ1 s1 S1 hf ea hl r1 o1=>?_
 have o1':OK ((m1 f ds).on (λe=>z e ρ1) (λr=>kk r.1 (setO ρ1 i r.2))):=o1
 show sp1 X.K n m1 (V.ref a::vs) H1 Q (EX X G σ)
 cases hd:m1 f ds with
 | bad=>rw[hd]at o1';exact(hO o1').elim
 | exc e =>
  rw[hd]at o1'
  exact⟨_,F1,f,ds,by simp[hl];exact hn,J5_ S1 hf ea r1,by rw[hd];exact λF' H' Cl dd g xr=>EX.of S1 (hX F1 ρ1 e o1') g xr⟩
 | ret r =>
  rw[hd]at o1'
  refine⟨_,F1,f,ds,by simp[hl];exact hn,J5_ S1 hf ea r1,?_⟩
  rw[hd]
  intro v F2 H2 s2 S2 r2
  obtain⟨S3,t3⟩:=Zo_ (c':=.l r.2) (l:=ds.map AV.fz) S1 (ZR_ hf) ea s2 S2
  rw[<-VN_ hf]at S3
  exact k2 r.1 v F2 H2 _ (s1.trans s2) S3 r2 o1'
end
theorem CF.zero{P:Program}{w:World}{K:Fg}{mg:Str->Option Value}{base:Heap}{x:Str}{f:Addr}{fd:FuncData}{ps:List Str}(k n:Nat)(h1:mg x=some (.ref f))(h2:PySem.W.keepIn K (.ref f)=true)(h3:L2.Binds K fd ps []) :
  CF P w K mg base x k (spD K n λ_=>.bad):=⟨f,fd,ps,⟨λvs H Q E h=>(by obtain⟨_,_,_,_,_,z⟩:=h;exact z.elim),λA outer s H args us vs Q E hr e0 hb hv h=>(by obtain⟨_,_,_,_,_,z⟩:=h;exact z.elim)⟩,h1,h2,h3⟩
theorem CF.zero1{P:Program}{w:World}{K:Fg}{mg:Str->Option Value}{base:Heap}{x:Str}{f:Addr}{fd:FuncData}{ps:List Str}(k n:Nat)(h1:mg x=some (.ref f))(h2:PySem.W.keepIn K (.ref f)=true)(h3:L2.Binds K fd ps []) :
  CF P w K mg base x k (sp1 K n λ_ _=>.bad):=⟨f,fd,ps,⟨λvs H Q E h=>(by obtain⟨_,_,_,_,_,_,z⟩:=h;exact z.elim),λA outer s H args us vs Q E hr e0 hb hv h=>(by obtain⟨_,_,_,_,_,_,z⟩:=h;exact z.elim)⟩,h1,h2,h3⟩
theorem zk_{k:Nat}{A:Around}(r:Room k A):A.units+1100<cLine:=by have:=r.un;lia
noncomputable def noX{S:Type}(m:M S):M S:=match m with
 | .ret s=>.ret s
 | _=>.bad
theorem uX_{S:Type}(s:S):noX (M.ret s)=.ret s:=rfl
def zC_(step:D->M (Option D)):List D->M (List D)
 | []=>.ret []
 | d::r=>bd (noX (step d)) λo=>bd (zC_ step r) λxs=>.ret (o.toList++xs)
theorem QO_{step:D->M (Option D)}:∀{ds:List D} {e:Ex},zC_ step ds≠.exc e
 | [],e,h=>by cases h
 | d::r,e,h=>by
  unfold zC_ at h
  cases hs:step d with
  | ret o =>
   rw[hs,uX_,y3_]at h
   cases hr:zC_ step r with
   | ret xs=>rw[hr]at h;cases h
   | exc e'=>exact QO_ hr
   | bad=>rw[hr]at h;cases h
  | exc e'=>rw[hs]at h;cases h
  | bad=>rw[hs]at h;cases h
def Xv_(k:Nat)(it:Pu (List D))(t:Tg (Option D))(pt:Pu Bool)(pe:Pu D):Pu (List D):=λρ=>bd (it ρ) λds =>
 bd (zC_ (λd=>t d (λρ1=>bd (pt ρ1) λb=>if b then bd (pe ρ1) λv=>.ret (some v)else .ret none) (ρ++List.replicate k none)) ds) fitM
def uD_{T:Type}(step:T->D->M (Option D×T)):List D->T->M (List D×T)
 | [],s=>.ret ([],s)
 | d::r,s=>bd (noX (step s d)) λp=>bd (uD_ step r p.2) λq=>.ret (p.1.toList++q.1,q.2)
theorem QN_{T:Type}{step:T->D->M (Option D×T)}:∀{ds:List D} {s:T} {e:Ex},uD_ step ds s≠.exc e
 | [],s,e,h=>by cases h
 | d::r,s,e,h=>by
  unfold uD_ at h
  cases hs:step s d with
  | ret o =>
   rw[hs,uX_,y3_]at h
   cases hr:uD_ step r o.2 with
   | ret xs=>rw[hr]at h;cases h
   | exc e'=>exact QN_ hr
   | bad=>rw[hr]at h;cases h
  | exc e'=>rw[hs]at h;cases h
  | bad=>rw[hs]at h;cases h
def zbx_{S:Type}(sh:List Kd)(k:Nat)(it:Ev S (List D))(t:Tg (Option D×SOf sh))(et:Ev (Option D×SOf sh) Bool)(ee:Ev (Option D×SOf sh) D):Ev S (List D):=λx kk ρ=>it x (λds ρ1=>rdk sh (λs =>
 (uD_ (λs d=>t d (λρ2=>et (λe _=>.exc e) (λb ρ3=>if b then ee (λe _=>.exc e) (λv ρ4=>rdk sh (λs'=>.ret (some v,s')) (ρ4.take sh.length)) ρ3 else rdk sh (λs'=>.ret (none,s')) (ρ3.take sh.length)) ρ2) (wr sh s++List.replicate k none)) ds s).on
  (λe=>x e ρ1) (λq=>(fitM q.1).on (λe=>x e ρ1) (λout=>kk out (wr sh q.2)))) ρ1) ρ
noncomputable def zeh_:Pu Bool:=λ_=>.ret true
def ATs(X:Cx)(ifs:List Expr)(p:Pu Bool):Prop :=
 ∀(G:Gh) (F:Hp) (σ:L2.St) (H:Hp) (ρ:En) (Q:Bool->Hp->Prop),StOk X.K G F σ H ρ->W X G F σ ρ (p ρ) (λd F' H'=>Q d H')->∀(pins:List (Addr×Obj)) (s:Shared),Inv X pins σ H s ->
  wpAny (model X.prog X.w) X.A (forIn ifs true λc r=>if r=true then do let ok <-isTrue c X.env (eval c X.env);pure (ForInStep.yield ok)else pure (ForInStep.yield r)) (TP X pins σ Q) X.xe s
theorem ul_{X:Cx}:ATs X [] zeh_:=λG F σ H ρ Q S w pins s I=>zaR_ pins s σ H Q I (w F H (Same.refl _) S)
theorem WX_{X:Cx}{c:Expr}{p:Pu Bool}(h:AT X c p):ATs X [c] p:=λG F σ H ρ Q S w pins s I=>V1_ uV_ pins s σ H Q I (h G F σ H ρ Q S w)
def AEts{S:Type}(X:Cx)(ifs:List Expr)(m:Ev S Bool):Prop :=
 ∀(OK:M S->Prop) (x:Ex->En->M S) (k:Bool->En->M S) (G:Gh) (F:Hp) (σ:L2.St) (H:Hp) (ρ:En) (Q:Bool->Hp->Prop),KOk OK->XL X OK x G->StOk X.K G F σ H ρ->OK (m x k ρ) ->
  (∀d F' H' ρ',Same F F'->StOk X.K G F' σ H' ρ'->OK (k d ρ')->Q d H')->∀(pins:List (Addr×Obj)) (s:Shared),Inv X pins σ H s ->
  wpAny (model X.prog X.w) X.A (forIn ifs true λc r=>if r=true then do let ok <-isTrue c X.env (eval c X.env);pure (ForInStep.yield ok)else pure (ForInStep.yield r)) (TP X pins σ Q) X.xe s
theorem zbH_{S:Type}{X:Cx}{ifs:List Expr}{p:Pu Bool}(h:ATs X ifs p):AEts (S:=S) X ifs (ePu p):=λOK x k G F σ H ρ Q hO hX St ok kk=>h G F σ H ρ Q St (W.of hO hX ok λd F' H' s S' o=>kk d F' H' ρ s S' o)
theorem XW_{S:Type}{X:Cx}{c:Expr}{m:Ev S Bool}(h:AEt X c m):AEts X [c] m:=λOK x k G F σ H ρ Q hO hX St ok kk pins s I=>V1_ uV_ pins s σ H Q I (h OK x k G F σ H ρ Q hO hX St ok kk)
theorem W.rets{X:Cx}{G:Gh}{F:Hp}{σ:L2.St}{ρ:En}{α:Type}{m:M α}{a:α}{C:α->Hp->Hp->Prop}(e:m=.ret a)(h:∀F' H',Same F F'->StOk X.K G F' σ H' ρ->C a F' H'):W X G F σ ρ m C:=by subst e;exact h
theorem X0_:∀(sh:List Kd) (s:SOf sh),(wr sh s).length=sh.length:=by
 intro sh
 induction sh with
 | nil=>intro s;rfl
 | cons a r ih=>intro s;cases a<;>simp[wr,ih]
inductive CIv{τ:Type}(K:Fg)(G:Gh)(σ:L2.St)(k:Nat)(ds:List D)(F1:Hp)(en:τ->En)(go:Nat->τ->List D->Prop)(out:List D):Nat->Nat->List V->L2.St->Hp->Prop
 | mk {i:Nat} {vs:List V} {σ':L2.St} {H':Hp} (F':Hp) (acc rest:List D) (s:τ) (hi:i<=ds.length) (s2:Same F1 F') (S2:StOk K G F' σ' H' (en s)) (kp:∀j,j<σ.length->σ'[j]? = σ[j]?) (hl:σ'.length=σ.length+k) (rp:RepL K F' vs acc) (g:go i s rest) (eo:out=acc++rest):CIv K G σ k ds F1 en go out i (ds.length - i) vs σ' H'
theorem CIv.on{τ:Type}{K:Fg}{G:Gh}{σ:L2.St}{k:Nat}{ds:List D}{F1:Hp}{en:τ->En}{go:Nat->τ->List D->Prop}{out:List D}{i:Nat}{vs:List V}{σ':L2.St}{H':Hp}(F':Hp)(acc rest:List D)(s:τ)(hi:i<ds.length)(s2:Same F1 F')(S2:StOk K G F' σ' H' (en s))(kp:∀j,j<σ.length->σ'[j]? = σ[j]?)(hl:σ'.length=σ.length+k)(rp:RepL K F' vs acc)(g:go (i+1) s rest)(eo:out=acc++rest):∃m',m'<ds.length - i/\CIv K G σ k ds F1 en go out (i+1) m' vs σ' H' :=
 ⟨ds.length - (i+1),by lia,⟨F',acc,rest,s,hi,s2,S2,kp,hl,rp,g,eo⟩⟩
theorem Vu_{step:D->M (Option D)}{d:D}{r rest:List D}(h:zC_ step (d::r)=.ret rest):∃o rest',step d=.ret o/\zC_ step r=.ret rest'/\rest=o.toList++rest':=by
 unfold zC_ at h
 cases hs:step d with
 | bad=>rw[hs]at h;cases h
 | exc e=>rw[hs]at h;cases h
 | ret o =>
  rw[hs,uX_,y3_]at h
  cases hr:zC_ step r with
  | bad=>rw[hr]at h;cases h
  | exc e=>rw[hr]at h;cases h
  | ret rest'=>rw[hr,y3_]at h;cases h;exact⟨o,rest',rfl,rfl,rfl⟩
theorem Vt_{T:Type}{step:T->D->M (Option D×T)}{d:D}{r rest:List D}{s sf:T}(h:uD_ step (d::r) s=.ret (rest,sf)):∃o sn rest',step s d=.ret (o,sn)/\uD_ step r sn=.ret (rest',sf)/\rest=o.toList++rest':=by
 unfold uD_ at h
 cases hs:step s d with
 | bad=>rw[hs]at h;cases h
 | exc e=>rw[hs]at h;cases h
 | ret o =>
  obtain⟨o,sn⟩:=o
  rw[hs,uX_,y3_]at h
  cases hr:uD_ step r sn with
  | bad=>rw[hr]at h;cases h
  | exc e=>rw[hr]at h;cases h
  | ret q'=>obtain⟨rest',sf'⟩:=q';rw[hr,y3_]at h;cases h;exact⟨o,sn,rest',rfl,hr,rfl⟩
theorem YG_{A B:Type}{m:M A}{f:A->M B}{b:B}(h:bd m f=.ret b):∃a,m=.ret a/\f a=.ret b:=by
 cases m with
 | bad=>cases h
 | exc e=>cases h
 | ret a=>exact⟨a,rfl,h⟩
section
variable {X:Cx}
def Q4_(X:Cx)(N':List Str)(scope:Scope)(tg:Expr):TG:=λv σ H Q=>∀cl s H0 fp C,Q2_ (zE_ X N' scope cl s H0 fp C) tg v σ H Q
def Q3_(X:Cx)(N':List Str)(scope:Scope)(ifs:List Expr):TT:=λσ H Q=>∀cl s0 H0 fp C,∀(pins:List (Addr×Obj)) (s:Shared),Inv (zE_ X N' scope cl s0 H0 fp C) pins σ H s ->
  wpAny (model X.prog X.w) (zE_ X N' scope cl s0 H0 fp C).A (forIn ifs true λc r=>if r=true then do let ok <-isTrue c (zE_ X N' scope cl s0 H0 fp C).env (eval c (zE_ X N' scope cl s0 H0 fp C).env);pure (ForInStep.yield ok)else pure (ForInStep.yield r)) (TP (zE_ X N' scope cl s0 H0 fp C) pins σ Q) (zE_ X N' scope cl s0 H0 fp C).xe s
def Q5_(X:Cx)(N':List Str)(scope:Scope)(e:Expr):TE:=λσ H Q=>∀cl s H0 fp C,tSem (zE_ X N' scope cl s H0 fp C) e σ H Q
variable {elt tg iter:Expr}{ifs:List Expr}{scope:Scope}{pos:Pos}{N':List Str}{k:Nat}
theorem WM_{it:Pu (List D)}{t:Tg (Option D)}{pt:Pu Bool}{pe:Pu D}{G:Gh}{F:Hp}{σ:L2.St}{H:Hp}{ρ:En}{Q:VK}(hi:AI X tg iter it)
  (hg:∀cl s H fp C,AG (zE_ X N' scope cl s H fp C) X.N.length tg t) (ht:∀cl s H fp C,ATs (zE_ X N' scope cl s H fp C) ifs pt) (he:∀cl s H fp C,AP (zE_ X N' scope cl s H fp C) elt pe)
  (hσ:σ.length=X.N.length) (St:StOk X.K G F σ H ρ) (w:W X G F σ ρ (Xv_ k it t pt pe ρ) λds F' H'=>∀v,Frs X.K G F' σ H' ρ v (.l ds)->Q v H') :
  Xc_ (ZE_ X tg iter) k (Q4_ X N' scope tg) (Q3_ X N' scope ifs) (Q5_ X N' scope elt) σ H Q:=by
 refine hi G F σ H ρ _ St (w.bind.imp λds F1 H1 s1 S1 w1 J wk=>?_)
 have hP:∀i a,G.P i=some a->i<σ.length:=λi a h=>(List.getElem?_eq_some_iff.mp (S1.pp i a h).1).1
 have hln:σ.length=ρ.length:=S1.ln
 have wc:=w1.bind
 revert wc
 generalize hstep:(λd=>t d (λρ1=>bd (pt ρ1) λb=>if b then bd (pe ρ1) λv=>.ret (some v)else .ret none) (ρ++List.replicate k none))=step
 intro wc
 cases hcc:zC_ step ds with
 | bad=>rw[hcc]at wc;exact wc.elim
 | exc e=>exact(QO_ hcc).elim
 | ret out =>
  rw[hcc]at wc
  have wf:∀F' H',Same F1 F'->StOk X.K G F' σ H' ρ->W X G F' σ ρ (fitM out) λds F' H'=>∀v,Frs X.K G F' σ H' ρ v (.l ds)->Q v H':=wc
  have hfit:out.length<=sizeLine:=(wf F1 H1 (Same.refl _) S1).fit.1
  have fin:∀F' H',Same F1 F'->StOk X.K G F' σ H' ρ->∀v,Frs X.K G F' σ H' ρ v (.l out)->Q v H':=λF' H' s' S'=>(wf F' H' s' S').fit.2 F' H' (Same.refl _) S'
  have grown:∀{F' H' σ' ρ'},StOk X.K G F' σ' H' ρ'->(∀j,j<σ.length->σ'[j]? = σ[j]? /\ ρ'[j]? = ρ[j]?)->σ'.length=σ.length+k->StOk X.K G F' σ' H' (ρ++List.replicate k none):=λ{F' H' σ' ρ'} S' kp hl=>by
   refine S'.weak (by have:=S'.ln;simp;lia) (λi av q=>?_) (λi c q=>?_)
   ·have q':=yg_ q
    have hi:i<σ.length:=by rw[hln];exact(List.getElem?_eq_some_iff.mp q').1
    rw[(kp i hi).2];exact q'
   ·obtain⟨a,ha⟩:=S'.pq i c q
    have hi:=hP i a ha
    rw[List.getElem?_append_left (by lia),<-(kp i hi).2]
    exact q
  refine⟨CIv X.K G σ k ds F1 (λ_:Unit=>ρ++List.replicate k none) (λi _ rest=>zC_ step (ds.drop i)=.ret rest) out,
   ⟨_,⟨F1,[],out,(),Nat.zero_le _,Same.refl _,S1.grow k,λj hj=>by rw[List.getElem?_append_left hj],by simp,.nil,hcc,rfl⟩⟩,?_⟩
  rintro i m vs σ' H' ⟨F',acc,rest,_,hi,s2,S2,kp,hlen,rp,go,eo⟩
  refine⟨by rw[rp.length];rw[eo,List.length_append]at hfit;lia,?_⟩
  by_cases hlt:i<ds.length
  ·refine .inr ⟨wk.go i G F' σ' H' _ s2 S2 hlt,λx H2 y cl s0 H0 fp C=>?_⟩
   obtain⟨F3,s3,S3,r3⟩:=wk.yld i G F' σ' H' _ x H2 ds[i] s2 S2 (List.getElem?_eq_getElem hlt) y
   rw[List.drop_eq_getElem_cons hlt]at go
   obtain⟨o,rest',hst,hr,er⟩:=Vu_ go
   subst er
   clear go
   rw[<-hstep]at hst
   refine hg cl s0 H0 fp C (λm=>m=.ret o) _ G F3 σ' H2 _ x ds[i] _ (λz=>nomatch z) S3 r3 hst λσ3 ρ3 S4 kp3 hl3 ml3 o4=>?_
   have kp':∀j,j<σ.length->σ3[j]? = σ[j]? /\ ρ3[j]? = ρ[j]?:=λj hj=>⟨((kp3 j (by lia)).1).trans (kp j hj),by rw[(kp3 j (by lia)).2,List.getElem?_append_left (by lia)]⟩
   obtain⟨b,hpt,o4⟩:=YG_ o4
   intro cl s0 H0 fp C
   refine ht cl s0 H0 fp C G F3 σ3 H2 ρ3 _ S4 (W.rets hpt λF5 H5 s5 S5=>?_)
   cases b with
   | true =>
    refine iteT ?_
    obtain⟨v,hpe,o5⟩:=YG_ (m:=pe ρ3) o4
    cases o5
    intro cl s0 H0 fp C
    refine he cl s0 H0 fp C G F5 σ3 H5 ρ3 _ S5 (W.rets hpe λF6 H6 s6 S6 u ru=>?_)
    exact CIv.on F6 (acc++[v]) rest' () hlt (((s2.trans s3).trans s5).trans s6) (grown S6 kp' (by lia)) (λj hj=>(kp' j hj).1) (by lia) ((rp.mono ((s3.trans s5).trans s6)).append (.cons ru .nil)) hr (by rw[eo];simp)
   | false =>
    refine iteF ?_
    have o4':(M.ret none:M (Option D))=M.ret o:=o4
    cases o4'
    exact CIv.on F5 acc rest' () hlt ((s2.trans s3).trans s5) (grown S5 kp' (by lia)) (λj hj=>(kp' j hj).1) (by lia) (rp.mono (s3.trans s5)) hr (by rw[eo];simp)
  ·have ei:i=ds.length:=by lia
   subst ei
   rw[List.drop_length]at go
   cases go
   rw[List.append_nil]at eo
   subst eo
   refine .inl ⟨wk.stop G F' σ' H' _ s2 S2,λp hp=>?_⟩
   have Ssh:=S2.shrink (n:=σ.length) (by simp;lia) hP
   have e1:σ'.take σ.length=σ:=JJ_ kp rfl
   have e2:(ρ++List.replicate k none).take σ.length=ρ:=by rw[hln,List.take_left]
   rw[e1,e2]at Ssh
   obtain⟨S5,r5⟩:=Ssh.newLst hp rp
   exact fin F' _ s2 S5 _ r5
theorem uJ_{it:Pu (List D)}{t:Tg (Option D)}{pt:Pu Bool}{pe:Pu D}(hc:X.calm=true)(Sc:CompOk X N' k scope)(hi:AI X tg iter it)
  (hg:∀cl s H fp C,AG (zE_ X N' scope cl s H fp C) X.N.length tg t) (ht:∀cl s H fp C,ATs (zE_ X N' scope cl s H fp C) ifs pt) (he:∀cl s H fp C,AP (zE_ X N' scope cl s H fp C) elt pe)
  (hs:∀x,foldedSetIterable iter X.env x=pure x):AL X (.ListComp elt [⟨tg,iter,ifs,0⟩] scope pos) (Xv_ k it t pt pe):=by
 intro G F σ H ρ Q St w;unfold tSem;intro pins s I
 refine Wc_ (wi:=ZE_ X tg iter) (g:=Q4_ X N' scope tg) (tc:=Q3_ X N' scope ifs) (te:=Q5_ X N' scope elt) hc Sc (λx hx hf=>I.ok.has x.1 (Sc.free x hx hf)) U0_
  (λcl s H fp C pins s' σ H v u Q I r h=>U1_ pins s' σ H v u Q I r (h cl _ _ fp C)) (λcl s H fp C pins s' σ H Q I h=>h cl _ _ fp C pins s' I) (λcl s H fp C pins s' σ H Q I h=>zm_ pins s' σ H Q I (h cl _ _ fp C)) hs pins s σ H Q I (WM_ hi hg ht he I.len St w)
theorem QM_{S:Type}{sh:List Kd}{it:Ev S (List D)}{t:Tg (Option D×SOf sh)}{et:Ev (Option D×SOf sh) Bool}{ee:Ev (Option D×SOf sh) D}{OK:M S->Prop}{x:Ex->En->M S}{kk:List D->En->M S}{G:Gh}{F:Hp}{σ:L2.St}{H:Hp}{ρ:En}{Q:VK}(hi:AEi X tg iter it)
  (hg:∀cl s H fp C,AG (zE_ X N' scope cl s H fp C) X.N.length tg t) (ht:∀cl s H fp C,AEts (zE_ X N' scope cl s H fp C) ifs et) (he:∀cl s H fp C,AE (zE_ X N' scope cl s H fp C) elt ee)
  (hσ:σ.length=X.N.length) (hO:KOk OK) (hX:XL X OK x G) (St:StOk X.K G F σ H ρ) (ok:OK (zbx_ sh k it t et ee x kk ρ)) (k2:∀ds v F' H' ρ',Same F F'->StOk X.K G F' σ H' ρ'->Frs X.K G F' σ H' ρ' v (.l ds)->OK (kk ds ρ')->Q v H') :
  Xc_ (ZE_ X tg iter) k (Q4_ X N' scope tg) (Q3_ X N' scope ifs) (Q5_ X N' scope elt) σ H Q:=by
 refine hi OK x _ G F σ H ρ _ hO hX St ok λds J F1 H1 ρ1 s1 S1 wk o1=>?_
 obtain⟨s0,e0,o0⟩:=Z5_ hO o1
 clear o1
 have S0:=S1.rd e0
 have hshl:sh.length=σ.length:=(X0_ sh s0).symm.trans S0.ln.symm
 have hlen0:∀s:SOf sh,(wr sh s).length=σ.length:=λs=>(X0_ sh s).trans hshl
 have hP:∀i a,G.P i=some a->i<σ.length:=λi a h=>(List.getElem?_eq_some_iff.mp (S1.pp i a h).1).1
 revert o0
 generalize hstep:(λ(s:SOf sh) d=>t d (λρ2=>et (λe _=>.exc e) (λb ρ3=>if b then ee (λe _=>.exc e) (λv ρ4=>rdk sh (λs'=>.ret (some v,s')) (ρ4.take sh.length)) ρ3 else rdk sh (λs'=>.ret (none,s')) (ρ3.take sh.length)) ρ2) (wr sh s++List.replicate k none))=step
 intro o0
 cases hcc:uD_ step ds s0 with
 | bad=>rw[hcc]at o0;exact(hO o0).elim
 | exc e=>exact(QN_ hcc).elim
 | ret q =>
  obtain⟨out,sf⟩:=q
  rw[hcc,zcI_]at o0
  obtain⟨hfit,o0⟩:=zdk_ hO o0
  have again:∀{F' H' σ' ρ'} {s':SOf sh},StOk X.K G F' σ' H' ρ'->(∀j,j<σ.length->σ'[j]? = σ[j]?)->σ'.length=σ.length+k->rd sh (ρ'.take sh.length)=some s'->StOk X.K G F' σ' H' (wr sh s'++List.replicate k none):=λ{F' H' σ' ρ' s'} S' kp hl e'=>by
   obtain⟨h1,h2,h3⟩:=Jx_ sh _ s' e'
   have hρ':ρ'.length=σ.length+k:=by rw[<-S'.ln];exact hl
   refine S'.weak (by simp[hlen0];lia) (λi av q=>?_) (λi c q=>?_)
   ·have q':=yg_ q
    have:=h2 i av q'
    have hi:i<sh.length:=by
     have:=(List.getElem?_eq_some_iff.mp this).1
     rw[List.length_take]at this;lia
    rw[List.getElem?_take_of_lt hi]at this
    exact this
   ·obtain⟨a,ha⟩:=S'.pq i c q
    have hi:=hP i a ha
    rw[List.getElem?_append_left (by rw[hlen0];exact hi)]
    exact h3 i c (by rw[List.getElem?_take_of_lt (by lia)];exact q)
  refine⟨CIv X.K G σ k ds F1 (λs=>wr sh s++List.replicate k none) (λi s rest=>uD_ step (ds.drop i) s=.ret (rest,sf)) out,
   ⟨_,⟨F1,[],out,s0,Nat.zero_le _,Same.refl _,S0.grow k,λj hj=>by rw[List.getElem?_append_left hj],by simp,.nil,hcc,rfl⟩⟩,?_⟩
  rintro i m vs σ' H' ⟨F',acc,rest,sc,hi,s2,S2,kp,hlen,rp,go,eo⟩
  refine⟨by rw[rp.length];rw[eo,List.length_append]at hfit;lia,?_⟩
  by_cases hlt:i<ds.length
  ·refine .inr ⟨wk.go i G F' σ' H' _ s2 S2 hlt,λx H2 y cl sx H0 fp C=>?_⟩
   obtain⟨F3,s3,S3,r3⟩:=wk.yld i G F' σ' H' _ x H2 ds[i] s2 S2 (List.getElem?_eq_getElem hlt) y
   rw[List.drop_eq_getElem_cons hlt]at go
   obtain⟨o,sn,rest',hst,hr,er⟩:=Vt_ go
   subst er
   clear go
   rw[<-hstep]at hst
   refine hg cl sx H0 fp C (λm=>m=.ret (o,sn)) _ G F3 σ' H2 _ x ds[i] _ (λz=>nomatch z) S3 r3 hst λσ3 ρ3 S4 kp3 hl3 ml3 o4=>?_
   have kp':∀j,j<σ.length->σ3[j]? = σ[j]?:=λj hj=>((kp3 j (by lia)).1).trans (kp j hj)
   intro cl sx H0 fp C
   refine ht cl sx H0 fp C (λm=>m=.ret (o,sn)) (λe _=>.exc e) _ G F3 σ3 H2 ρ3 _ (λz=>nomatch z) (λF ρ e z=>nomatch z) S4 o4 λb F5 H5 ρ5 s5 S5 o5=>?_
   cases b with
   | true =>
    refine iteT ?_
    intro cl sx H0 fp C
    refine he cl sx H0 fp C (λm=>m=.ret (o,sn)) (λe _=>.exc e) _ G F5 σ3 H5 ρ5 _ (λz=>nomatch z) (λF ρ e z=>nomatch z) S5 o5 λv u F6 H6 ρ6 s6 S6 ru o6=>?_
    obtain⟨s',e',o'⟩:=Z5_ (OK:=λm=>m=.ret (o,sn)) (λz=>nomatch z) o6
    cases o'
    exact CIv.on F6 (acc++[v]) rest' sn hlt (((s2.trans s3).trans s5).trans s6) (again S6 kp' (by lia) e') kp' (by lia) ((rp.mono ((s3.trans s5).trans s6)).append (.cons ru .nil)) hr (by rw[eo];simp)
   | false =>
    refine iteF ?_
    obtain⟨s',e',o'⟩:=Z5_ (OK:=λm=>m=.ret (o,sn)) (λz=>nomatch z) o5
    cases o'
    exact CIv.on F5 acc rest' sn hlt ((s2.trans s3).trans s5) (again S5 kp' (by lia) e') kp' (by lia) (rp.mono (s3.trans s5)) hr (by rw[eo];simp)
  ·have ei:i=ds.length:=by lia
   subst ei
   rw[List.drop_length]at go
   cases go
   rw[List.append_nil]at eo
   subst eo
   refine .inl ⟨wk.stop G F' σ' H' _ s2 S2,λp hp=>?_⟩
   have Ssh:=S2.shrink (n:=σ.length) (by simp[hlen0]) hP
   have e1:σ'.take σ.length=σ:=JJ_ kp rfl
   have e2:(wr sh sf++List.replicate k none).take σ.length=wr sh sf:=by rw[<-hlen0 sf,List.take_left]
   rw[e1,e2]at Ssh
   obtain⟨S5,r5⟩:=Ssh.newLst hp rp
   exact k2 _ _ F' _ _ (s1.trans s2) S5 r5 o0
theorem XX_{S:Type}{sh:List Kd}{it:Ev S (List D)}{t:Tg (Option D×SOf sh)}{et:Ev (Option D×SOf sh) Bool}{ee:Ev (Option D×SOf sh) D}(hc:X.calm=true)(Sc:CompOk X N' k scope)(hi:AEi X tg iter it)
  (hg:∀cl s H fp C,AG (zE_ X N' scope cl s H fp C) X.N.length tg t) (ht:∀cl s H fp C,AEts (zE_ X N' scope cl s H fp C) ifs et) (he:∀cl s H fp C,AE (zE_ X N' scope cl s H fp C) elt ee)
  (hs:∀x,foldedSetIterable iter X.env x=pure x):AEl X (.ListComp elt [⟨tg,iter,ifs,0⟩] scope pos) (zbx_ sh k it t et ee):=by
 intro OK x kk G F σ H ρ Q hO hX St ok k2;unfold tSem;intro pins s I
 refine Wc_ (wi:=ZE_ X tg iter) (g:=Q4_ X N' scope tg) (tc:=Q3_ X N' scope ifs) (te:=Q5_ X N' scope elt) hc Sc (λx hx hf=>I.ok.has x.1 (Sc.free x hx hf)) U0_
  (λcl s H fp C pins s' σ H v u Q I r h=>U1_ pins s' σ H v u Q I r (h cl _ _ fp C)) (λcl s H fp C pins s' σ H Q I h=>h cl _ _ fp C pins s' I) (λcl s H fp C pins s' σ H Q I h=>zm_ pins s' σ H Q I (h cl _ _ fp C)) hs pins s σ H Q I (QM_ hi hg ht he I.len hO hX St ok k2)
theorem J7_{S:Type}{pos' spos:Pos}{i:Nat}{y:Str}{it:Pu (List D)}{t:Tg (Option D)}{pt:Pu Bool}{pe:Pu D}
  (hN:X.N.Nodup) (hy:X.N[i]? = some y) (hly:Loc X.env.scope y) (hfn:X.fn y=true\/X.env.scope.names.lookup y=some .local) (hc:X.calm=true) (Sc:CompOk X N' k scope) (hi:AI X tg iter it)
  (hg:∀cl s H fp C,AG (zE_ X N' scope cl s H fp C) X.N.length tg t) (ht:∀cl s H fp C,ATs (zE_ X N' scope cl s H fp C) ifs pt) (he:∀cl s H fp C,AP (zE_ X N' scope cl s H fp C) elt pe)
  (hsw:swapsWith (.ListComp elt [⟨tg,iter,ifs,0⟩] scope pos) (some (.Name y pos')) spos.line X.env=pure true) (hs:∀x,foldedSetIterable iter X.env x=pure x) :
  AS (S:=S) X (.Assign [.Name y pos'] (.ListComp elt [⟨tg,iter,ifs,0⟩] scope pos) spos) (sSet i (ePu (pZ (Xv_ k it t pt pe)))):=by
 intro OK K G F σ H ρ E hO hX St ok eo;unfold UP_;intro pins s I
 refine JR_ (wi:=ZE_ X tg iter) (g:=Q4_ X N' scope tg) (tc:=Q3_ X N' scope ifs) (te:=Q5_ X N' scope elt) hN hy hly hfn hc Sc (λx hx hf=>I.ok.has x.1 (Sc.free x hx hf)) U0_
  (λcl s H fp C pins s' σ H v u Q I r h=>U1_ pins s' σ H v u Q I r (h cl _ _ fp C)) (λcl s H fp C pins s' σ H Q I h=>h cl _ _ fp C pins s' I) (λcl s H fp C pins s' σ H Q I h=>zm_ pins s' σ H Q I (h cl _ _ fp C)) hsw hs pins s σ H E I ?_
 refine WM_ hi hg ht he I.len St ?_
 have w:W X G F σ ρ (pZ (Xv_ k it t pt pe) ρ) (λd F' H'=>∀v,Rep X.K F' v d->WH_ i v σ H' E.nx):=W.of hO hX ok λd F' H' s S' o v r=>by
  have o':OK (match Yc_ ρ i with|true=>K.nx (ρ.set i (some (.fz d)))|false=>.bad):=o
  split at o'
  ·rename_i ho
   obtain⟨hl,hop⟩:=ye_ ho
   exact eo.nx F' _ H' _ s (S'.store hop hl (.inl ⟨d,rfl,r⟩)) o'
  ·exact(hO o').elim
 refine w.bind.imp λds F' H' s1 S1 w1 v fr=>?_
 obtain⟨F2,s2,S2,r2⟩:=S1.settle (v:=v) (ds:=ds) fr
 exact w1 F2 H' s2 S2 v r2
theorem Qa_{S:Type}{pos' spos:Pos}{i:Nat}{y:Str}{sh:List Kd}{it:Ev S (List D)}{t:Tg (Option D×SOf sh)}{et:Ev (Option D×SOf sh) Bool}{ee:Ev (Option D×SOf sh) D}
  (hN:X.N.Nodup) (hy:X.N[i]? = some y) (hly:Loc X.env.scope y) (hfn:X.fn y=true\/X.env.scope.names.lookup y=some .local) (hc:X.calm=true) (Sc:CompOk X N' k scope) (hi:AEi X tg iter it)
  (hg:∀cl s H fp C,AG (zE_ X N' scope cl s H fp C) X.N.length tg t) (ht:∀cl s H fp C,AEts (zE_ X N' scope cl s H fp C) ifs et) (he:∀cl s H fp C,AE (zE_ X N' scope cl s H fp C) elt ee)
  (hsw:swapsWith (.ListComp elt [⟨tg,iter,ifs,0⟩] scope pos) (some (.Name y pos')) spos.line X.env=pure true) (hs:∀x,foldedSetIterable iter X.env x=pure x) :
  AS X (.Assign [.Name y pos'] (.ListComp elt [⟨tg,iter,ifs,0⟩] scope pos) spos) (sSet i (eZ (zbx_ sh k it t et ee))):=by
 intro OK K G F σ H ρ E hO hX St ok eo;unfold UP_;intro pins s I
 refine JR_ (wi:=ZE_ X tg iter) (g:=Q4_ X N' scope tg) (tc:=Q3_ X N' scope ifs) (te:=Q5_ X N' scope elt) hN hy hly hfn hc Sc (λx hx hf=>I.ok.has x.1 (Sc.free x hx hf)) U0_
  (λcl s H fp C pins s' σ H v u Q I r h=>U1_ pins s' σ H v u Q I r (h cl _ _ fp C)) (λcl s H fp C pins s' σ H Q I h=>h cl _ _ fp C pins s' I) (λcl s H fp C pins s' σ H Q I h=>zm_ pins s' σ H Q I (h cl _ _ fp C)) hsw hs pins s σ H E I ?_
 refine QM_ hi hg ht he I.len hO hX St ok λds v F' H' ρ' s S' r o=>?_
 have o':OK (match Yc_ ρ' i with|true=>K.nx (ρ'.set i (some (.fz (.list ds))))|false=>.bad):=o
 split at o'
 ·rename_i ho
  obtain⟨hl,hop⟩:=ye_ ho
  obtain⟨F2,s2,S2,r2⟩:=S'.settle (v:=v) (ds:=ds) r
  exact eo.nx F2 _ H' _ (s.trans s2) (S2.store hop hl (.inl ⟨_,rfl,r2⟩)) o'
 ·exact(hO o').elim
end
end L4
namespace HT
open PySem PySem.Spec PyProof.Rows
section
variable {prog:Program}{w:World}{A:Around}{E:Value->Shared->Prop}{s:Shared}
theorem getItem_tuple_all{t sl:Addr}{items:Array Value}{vl vu:Value}{lo hi:Option Int}{Q:Value->Shared->Prop}(ht:IsTup s.heap t items)(hs:s.heap.IsSliceOf sl vl vu .none)(pl:IsPart vl lo)(pu:IsPart vu hi)
  (hw:sIx items.size 0 lo=0/\sIx items.size items.size hi=items.size) (h:Q (.ref t) s):wpAny (model prog w) A (getItem (.ref t) (.ref sl)) Q E s:=by
 obtain⟨os,hos,hcs,hds⟩:=id hs
 have hTs:s.TypeIs (.ref sl) "slice":=⟨os,hos,hcs⟩
 unfold getItem
 try with_reducible refine wpAny_holding ?_
 first|refine zza (zzb ?_)|skip
 refine zza (wpAny_sequenceKey ht.typeIs (by decide) ?_)
 refine zza (wpAny_callSpecial?_slot (name:=Str.ofString "__getitem__") ht.typeIs PyProof.Rows.slot_tuple_getitem
  (wpAny_call_entry PyProof.Rows.slot_tuple_getitem ht.typeIs entry_tuple_getitem ?_ (args_tuple_getitem _ _)))
 show wpAny _ _ (Builtin.Tuple.tupleItemsOf (.ref t) >>= _) _ _ s
 refine zza (tupleItemsOf_ ht ?_)
 refine zza (wpAny_typeOf hTs ?_)
 rw[if_pos (by decide)]
 refine zza (uL_ hs pl pu ?_)
 have hyes:((((sIx items.size 0 lo:Nat):Int)==0&&(1:Int)==1&&(sIx items.size items.size hi - sIx items.size 0 lo)==items.size)=true):=by
  rw[hw.1,hw.2]
  simp
 show wpAny _ _ (if(((sIx items.size 0 lo:Nat):Int)==0&&(1:Int)==1&&(sIx items.size items.size hi - sIx items.size 0 lo)==items.size)=true then _ else _) _ _ s
 rw[if_pos hyes]
 obtain⟨o,ho,hc,n,hd⟩:=id ht
 have hex:∀{Q':Bool->Shared->Prop},Q' true s->wpAny (model prog w) A.in1 (Builtin.Tuple.tupleIsExact (.ref t)) Q' E s:=λ{Q'} q=>by
  unfold Builtin.Tuple.tupleIsExact
  refine zza (wpAny_typeOf ht.typeIs (zzb ?_))
  exact q
 first
  | exact zza (hex (zza (wpAny_rule (zzb ⟨_,rfl,zzb h⟩))))
  | exact zza (zza (hex (zza (wpAny_rule (zzb (zzb ⟨_,rfl,zzb h⟩))))))
end
end HT
namespace L4
open PySem PySem.Spec PyProof.Rows L2 L3
def cutD(ds:List D)(lo hi:Option Int):List D:=(ds.drop (HT.sIx ds.length 0 lo)).take (HT.sIx ds.length ds.length hi - HT.sIx ds.length 0 lo)
theorem WL_{K:Fg}{F:Hp}{vs:List V}{ds:List D}(r:RepL K F vs ds)(lo hi:Option Int):RepL K F (cutV vs lo hi) (cutD ds lo hi):=by
 unfold cutV cutD
 rw[r.length]
 exact(r.drop _).take _
def rSlA(K:Fg):V->Option Int->Option Int->Hp->VK->Prop:=λx lo hi H Q=>∃a xs,x=.ref a/\SqT K H a xs/\(HT.sIx xs.length 0 lo=0/\HT.sIx xs.length xs.length hi=xs.length)/\Q x H
theorem sl_tupA{X:Cx}:SlR X (rSlA X.K):=by
 intro pins s σ H x v vl vu lo hi sl Q I rx hs pl pu h
 obtain⟨a,xs,rfl,hx,hw,q⟩:=h
 cases rx
 obtain⟨its,r,ht,hz⟩:=I.tuple hx
 have hlen:its.toArray.size=xs.length:=by rw[List.size_toArray];exact r.length.symm
 refine⟨"tuple",_,PyProof.Rows.slot_tuple_getitem.lookup,ht.typeIs,?_⟩
 exact HT.getItem_tuple_all ht hs pl pu (by rw[hlen];exact hw) ⟨.ref a,H,I,rfl,q⟩
noncomputable def pNoI:Pu (Option Int):=λ_=>.ret none
noncomputable def asI(d:D):M (Option Int):=match d with
 | .int i=>.ret (some i)
 | _=>.bad
def pInt(p:Pu D):Pu (Option Int):=λρ=>bd (p ρ) asI
def fCut(d:D)(lo hi:Option Int):Option D:=match d with
 | .tuple ds=>some (.tuple (cutD ds lo hi))
 | .list ds=>some (.list (cutD ds lo hi))
 | _=>none
def APo(X:Cx)(e:Option Expr)(p:Pu (Option Int)):Prop :=
 ∀(G:Gh) (F:Hp) (σ:L2.St) (H:Hp) (ρ:En) (Q:Option Int->Hp->Prop),StOk X.K G F σ H ρ->W X G F σ ρ (p ρ) (λd F' H'=>Q d H')->∀(pins:List (Addr×Obj)) (s:Shared),Inv X pins σ H s ->
  wpAny (model X.prog X.w) X.A (evalPart e X.env) (λu s'=>∃o H',Inv X pins σ H' s'/\IsPart u o/\Q o H') X.xe s
noncomputable def zdF_(X:Cx)(e:Option Expr):TO:=λσ H Q=>∀(pins:List (Addr×Obj)) (s:Shared),Inv X pins σ H s->wpAny (model X.prog X.w) X.A (evalPart e X.env) (λu s'=>∃o H',Inv X pins σ H' s'/\IsPart u o/\Q o H') X.xe s
theorem X7_{X:Cx}{e:Option Expr}:PO X e (zdF_ X e):=λpins s σ H Q I h=>h pins s I
section
variable {X:Cx}{e:Expr}{lo hi:Option Expr}{p:Pu D}{pl ph:Pu (Option Int)}{pos p2:Pos}
theorem ZW_:APo X none pNoI:=λG F σ H ρ Q S w pins s I=>zaU_ pins s σ H Q I (w F H (Same.refl _) S)
theorem ZV_(h:AP X e p):APo X (some e) (pInt p):=λG F σ H ρ Q S w pins s I=>zaT_ zm_ pins s σ H Q I (h G F σ H ρ _ S (w.bind.imp λd F1 H1 s1 S1 w1 v r=>by
 cases r with
 | int i=>exact⟨i,rfl,w1 F1 H1 (Same.refl _) S1⟩
 | bl b=>exact w1.elim
 | non=>exact w1.elim
 | str i=>exact w1.elim
 | tup _ _=>exact w1.elim
 | lst _ _=>exact w1.elim
 | dct _ _ _=>exact w1.elim
 | dck _ _ _=>exact w1.elim
 | exc _ _ _ _ _=>exact w1.elim
 | fn _=>exact w1.elim))
end
def Wf_(f g:D->D->Option Bool)(a b c:Pu D):Pu Bool:=λρ=>bd (a ρ) λx=>bd (b ρ) λy=>bd (oM (f x y)) λt=>if t then bd (c ρ) λz=>oM (g y z)else .ret false
section
variable {X:Cx}{a b c:Expr}{pa pb pc:Pu D}{op op':CmpOp}{r r':R2}{f g:D->D->Option Bool}{pos:Pos}
theorem QQ_{G:Gh}{F H:Hp}{σ:L2.St}{ρ:En}{Q:VK}(hf:OpB X.K r f)(hg:OpB X.K r' g)(ha:AO X a pa)(hb:AO X b pb)(hc:AO X c pc)(S:StOk X.K G F σ H ρ)(w:W X G F σ ρ (Wf_ f g pa pb pc ρ) λt F' H'=>Q (.bl t) H') :
  VJ_ r r' (tSem X a) (tSem X b) (tSem X c) σ H Q :=
 ha G F σ H ρ _ S (w.bind.imp λdx F1 H1 s1 S1 w1 x hx=>hb G F1 σ H1 ρ _ S1 (w1.bind.imp λdy F2 H2 s2 S2 w2 y hy=>by
  have w3:=w2.bind
  obtain⟨t,e,k⟩:=w3.opt
  refine hf G F2 σ H2 ρ x y dx dy t _ S2 ((hx.mono s2).or S2) (hy.or S2) e ⟨t,rfl,?_⟩
  have w4:=k F2 H2 (Same.refl _) S2
  cases t with
  | true =>
   refine iteT ?_
   exact hc G F2 σ H2 ρ _ S2 ((show W X G F2 σ ρ (bd (pc ρ) λz=>oM (g dy z)) _ from w4).bind.imp λdz F3 H3 s3 S3 w5 z hz=>by
    obtain⟨t',e',k'⟩:=w5.opt
    exact hg G F3 σ H3 ρ y z dy dz t' _ S3 ((hy.mono s3).or S3) (hz.or S3) e' (k' F3 H3 (Same.refl _) S3))
  | false =>
   refine iteF ?_
   exact(show W X G F2 σ ρ (.ret false) _ from w4) F2 H2 (Same.refl _) S2))
theorem XZ_(ho:OpR X (compareOp op) r)(ho':OpR X (compareOp op') r')(hf:OpB X.K r f)(hg:OpB X.K r' g)(ha:AO X a pa)(hb:AO X b pb)(hc:AO X c pc)(hm:lastMarks [op,op'] [b,c]=false):AB X (.Compare a [op,op'] [b,c] pos) (Wf_ f g pa pb pc) :=
 λG F σ H ρ Q S w=>sem (Xu_ ho ho' zm_ zm_ zm_ hm) (QQ_ hf hg ha hb hc S w)
theorem QV_(ho:OpR X (compareOp op) r)(ho':OpR X (compareOp op') r')(hf:OpB X.K r f)(hg:OpB X.K r' g)(ha:AO X a pa)(hb:AO X b pb)(hc:AO X c pc)(hm:lastMarks [op,op'] [b,c]=false):AT X (.Compare a [op,op'] [b,c] pos) (Wf_ f g pa pb pc) :=
 λG F σ H ρ Q S w=>semT (Xp_ ho ho' zm_ zm_ zm_ hm) (QQ_ (Q:=λx H'=>∃k,x=.bl k/\Q k H') hf hg ha hb hc S (w.imp λt F' H' _ _ q=>⟨t,rfl,q⟩))
end
noncomputable def Xw_(d e:D):Option Bool:=match d,e with
 | .bool a,.bool b=>some (a==b)
 | _,.none=>some (isNone d)
 | _,_=>none
section
variable {X:Cx}
theorem zbb_:OpR X (compareOp .Is) (rD2 X.K Xw_):=by
 intro pins s σ H x y v u Q I rx ry ⟨d,e,b,r1,r2,ho,q⟩
 unfold Xw_ at ho
 split at ho
 ·cases ho
  obtain rfl:=r1.bool_inv
  obtain rfl:=r2.bool_inv
  cases rx
  cases ry
  exact PyProof.Rows.is_bool ⟨.bl _,H,I,rfl,q⟩
 ·exact zba_ pins s σ H x y v u Q I rx ry ⟨d,.none,b,r1,r2,by rw[<-ho];rfl,q⟩
 ·cases ho
end
def isTo(T:String)(d:D):Option Bool:=if isFn d then none else some (isT T d)
def pIs(T:String)(p:Pu D):Pu Bool:=λρ=>bd (p ρ) λd=>oM (isTo T d)
def rIs2(K:Fg)(T:String):List V->Hp->VK->Prop:=λxs H Q=>∃v d,xs=[v,.ty T]/\Rep K H v d/\isFn d=false/\Q (.bl (isT T d)) H
theorem zbA_{X:Cx}{T:String}(hT:tyOk T=true):CallR X (.builtin "isinstance") (rIs2 X.K T):=by
 intro pins s σ H xs us Q I r h
 obtain⟨v,d,rfl,rp,nf,q⟩:=h
 obtain⟨u,w,rfl,ru,rw'⟩:=vals2 r
 cases rw'
 exact Vp_ hT I rp nf ru λtk=>⟨.bl _,H,I.tok tk,rfl,q⟩
section
variable {X:Cx}{e:Expr}{p:Pu D}{pos p1 p2:Pos}{T:String}{x:Str}
theorem XY_(hT:tyOk T=true)(hg:Gl X "isinstance")(hm:X.mg "isinstance" = none)(hgT:Gl X x)(hmT:X.mg x=none)(hv:bootBuiltins x=some (.type T))(ha:AO X e p)(hs:starEach [e,.Name x p2] X.env=(false,eval e X.env)::starEach [.Name x p2] X.env)(hs2:starEach [.Name x p2] X.env=(false,eval (.Name x p2) X.env)::starEach [] X.env)
  (hpl:(backTo pos (starEach [.Name x p2] X.env)).any (·.1)=false) (hn:x ≠ "__name__":=by decide) (hd:(x==("__debug__" : Str))=false:=by decide):AB X (.Call (.Name "isinstance" p1) [e,.Name x p2] [] pos) (pIs T p) :=
 λG F σ H ρ Q S w=>sem (Un_ (zbA_ hT) hg hm (by decide +kernel) (yw_ zm_ (yw_ (zaY_ hgT hmT hv (v:=.ty T) rfl hn hd) Qw_ hs2) hs) (by decide) (by decide) hs hpl) (ha G F σ H ρ _ S (w.bind.imp λd F1 H1 s1 S1 w1 v hv=>by
  obtain⟨b,hb,k⟩:=w1.opt
  unfold isTo at hb
  split at hb
  ·cases hb
  ·rename_i nf
   cases hb
   exact⟨v,d,rfl,(hv.or S1).rep S1.fh,by simpa using nf,k F1 H1 (Same.refl _) S1⟩))
end
noncomputable def boolsOf:List D->Option (List Bool)
 | []=>some []
 | .bool b::r=>match boolsOf r with
  | some l=>some (b::l)
  | none=>none
 | _=>none
theorem Zq_:∀{ds:List D} {bs:List Bool},boolsOf ds=some bs->ds=bs.map PyData.bool
 | [],_,h=>by cases h;rfl
 | .bool i::r,ns,h=>by
  dsimp only[boolsOf]at h
  split at h
  ·rename_i l e;cases h;rw[Zq_ e];rfl
  ·cases h
 | .none::_,_,h=>by cases h
 | .int _::_,_,h=>by cases h
 | .str _::_,_,h=>by cases h
 | .list _::_,_,h=>by cases h
 | .tuple _::_,_,h=>by cases h
 | .dict _::_,_,h=>by cases h
theorem Y8_(bs:List Bool):boolsOf (bs.map PyData.bool)=some bs:=by
 induction bs with
 | nil=>rfl
 | cons b r ih=>simp[boolsOf,ih]
theorem JO_{K:Fg}{F:Hp}:∀{vs:List V} {bs:List Bool},RepL K F vs (bs.map PyData.bool)->vs=bs.map V.bl
 | _,[],h=>by cases h;rfl
 | _,n::r,h=>by
  cases h with
  | cons a b=>cases a;rw[JO_ b];rfl
theorem y6_:∀{bs:List Bool} {us:List Value},Vals (bs.map V.bl) us->us=bs.map Value.bool
 | [],_,h=>by cases h;rfl
 | n::r,_,h=>by
  cases h with
  | cons a b=>cases a;rw[y6_ b];rfl
noncomputable def fAll:List D->Option Bool
 | [.list ds]=>(boolsOf ds).map λbs=>bs.all id
 | _=>none
noncomputable def fAny:List D->Option Bool
 | [.list ds]=>(boolsOf ds).map λbs=>bs.any id
 | _=>none
def UY_(K:Fg)(f:List Bool->Bool):List V->Hp->VK->Prop:=λxs H Q=>∃a bs,xs=[.ref a]/\SqL K H a (bs.map V.bl)/\Q (.bl (f bs)) H
theorem Qy_{K:Fg}{f:List Bool->Bool}{g:List D->Option Bool}(hg:∀l b,g l=some b->∃bs,l=[.list (bs.map PyData.bool)]/\b=f bs):QY_ K (UY_ K f) g:=by
 intro G F σ H ρ xs ds res Q S o e k
 obtain⟨bs,rfl,rfl⟩:=hg _ _ e
 obtain⟨v,r,rfl,ho,hr⟩:=z3_ o
 obtain rfl:=jG_ hr
 obtain⟨a,vs,rfl,h1,h2⟩:=ho.list S.fh
 rw[JO_ h2]at h1
 exact⟨a,bs,rfl,h1,k⟩
theorem zcO_{K:Fg}:QY_ K (UY_ K λbs=>bs.all id) fAll:=Qy_ λl b h=>by
 unfold fAll at h
 split at h
 ·obtain⟨bs,e,rfl⟩:=Option.map_eq_some_iff.mp h
  exact⟨bs,by rw[Zq_ e],rfl⟩
 ·cases h
theorem zcN_{K:Fg}:QY_ K (UY_ K λbs=>bs.any id) fAny:=Qy_ λl b h=>by
 unfold fAny at h
 split at h
 ·obtain⟨bs,e,rfl⟩:=Option.map_eq_some_iff.mp h
  exact⟨bs,by rw[Zq_ e],rfl⟩
 ·cases h
theorem Yn_{prog:Program}{w:World}{A:Around}{E:Value->Shared->Prop}{s:Shared}{l:Addr}{its:Array Value}{Q:Value->Shared->Prop}(hl:s.heap.IsList l its)
  (h:∀s₂:Shared,s₂={ s with heap:=s.heap.push { cls:=.type "list_iterator",data:=.fields #[.ref l,.int 0 0] } } ->
   (s₂.heap.IsListIter s.heap.objs.size l 0/\s₂.heap.IsList l its)->l≠s.heap.objs.size->Q (.ref s.heap.objs.size) s₂) :
  wpAny (model prog w) A (pyIter (.ref l)) Q E s:=by
 have hlt:l<s.heap.objs.size:=by obtain⟨_,e,_⟩:=hl;exact Heap.lt_size e
 exact wpAny_pyIter_list hl (h _ rfl ⟨⟨_,zze _ rfl,rfl,rfl⟩,hl.push _⟩ (Nat.ne_of_lt hlt))
theorem ZX_{prog:Program}{w:World}{A:Around}(bs:List Bool):TruthOf prog w A (λi v=>(bs.map Value.bool).toArray[i]? = some v) (λi=>bs.getD i false):=λi v s Q E hP hQ=>by
 dsimp only at hP hQ
 rw[List.getElem?_toArray,List.getElem?_map]at hP
 obtain⟨b,e,rfl⟩:=Option.map_eq_some_iff.mp hP
 rw[List.getD_eq_getElem?_getD,e]at hQ
 exact wpAny_truthy_bool hQ
theorem all_range(bs:List Bool):(List.range bs.length).all (λi=>bs.getD i false)=bs.all id:=by
 induction bs with
 | nil=>rfl
 | cons b r ih =>
  rw[List.length_cons,List.range_succ_eq_map,List.all_cons,List.all_map,List.all_cons]
  simp only[List.getD_cons_zero,id_eq]
  congr 1
theorem any_range(bs:List Bool):(List.range bs.length).any (λi=>bs.getD i false)=bs.any id:=by
 induction bs with
 | nil=>rfl
 | cons b r ih =>
  rw[List.length_cons,List.range_succ_eq_map,List.any_cons,List.any_map,List.any_cons]
  simp only[List.getD_cons_zero,id_eq]
  congr 1
theorem XR_{X:Cx}(hc:X.calm=true):CallR X (.builtin "all") (UY_ X.K λbs=>bs.all id):=by
 intro pins s σ H xs us Q I r h
 obtain⟨a,bs,rfl,hq,q⟩:=h
 obtain⟨u,rfl,ru⟩:=Vals.one r
 cases ru
 obtain⟨its,rv,pl,hz⟩:=I.list hq
 rw[y6_ rv]at pl
 refine call_all_walk (Yn_ pl.isList λs₂ e st hlI=>?_)
 subst e
 refine⟨_,_,_,_,_,_,_,rfl,Walks.list (A:=X.A.in1) (I.ok.hd hc) _ a hlI (bs.map Value.bool).toArray,st,ZX_ bs,λh' tk hk=>?_⟩
 refine⟨.bl (bs.all id),H,I.kept (old_kept hk),?_,q⟩
 show _=_
 rw[<-all_range bs]
 simp
theorem XQ_{X:Cx}(hc:X.calm=true):CallR X (.builtin "any") (UY_ X.K λbs=>bs.any id):=by
 intro pins s σ H xs us Q I r h
 obtain⟨a,bs,rfl,hq,q⟩:=h
 obtain⟨u,rfl,ru⟩:=Vals.one r
 cases ru
 obtain⟨its,rv,pl,hz⟩:=I.list hq
 rw[y6_ rv]at pl
 refine call_any_walk (Yn_ pl.isList λs₂ e st hlI=>?_)
 subst e
 refine⟨_,_,_,_,_,_,_,rfl,Walks.list (A:=X.A.in1) (I.ok.hd hc) _ a hlI (bs.map Value.bool).toArray,st,ZX_ bs,λh' tk hk=>?_⟩
 refine⟨.bl (bs.any id),H,I.kept (old_kept hk),?_,q⟩
 show _=_
 rw[<-any_range bs]
 simp
noncomputable def fInt:List D->Option D
 | [.int i]=>some (.int i)
 | [.bool b]=>some (.int (if b then 1 else 0))
 | _=>none
theorem zcL_{K:Fg}:JG_ K (λxs H Q=>(∃i,xs=[.int i]/\Q (.int i) H)\/∃k,xs=[.bl k]/\Q (.int (if k then 1 else 0)) H) fInt:=by
 intro G F σ H ρ xs ds res Q S o e k
 unfold fInt at e
 split at e
 ·cases e
  obtain⟨v,r,rfl,ho,hr⟩:=z3_ o
  obtain rfl:=jG_ hr
  exact .inl ⟨_,by rw[ho.int],k _ F H (Same.refl _) S (.int _)⟩
 ·cases e
  obtain⟨v,r,rfl,ho,hr⟩:=z3_ o
  obtain rfl:=jG_ hr
  exact .inr ⟨_,by rw[ho.bool],k _ F H (Same.refl _) S (.int _)⟩
 ·cases e
noncomputable def fStr:List D->Option D
 | [.int i]=>if i.natAbs.log2<1920 then some (.str (toString i))else none
 | _=>none
theorem Qx_{K:Fg}:JG_ K (λxs H Q=>∃i,xs=[.int i]/\i.natAbs.log2<1920/\Q (.str (toString i)) H) fStr:=by
 intro G F σ H ρ xs ds res Q S o e k
 unfold fStr at e
 split at e
 ·split at e
  ·rename_i hz
   cases e
   obtain⟨v,r,rfl,ho,hr⟩:=z3_ o
   obtain rfl:=jG_ hr
   exact⟨_,by rw[ho.int],hz,k _ F H (Same.refl _) S (.str _)⟩
  ·cases e
 ·cases e
theorem Zr_{X:Cx}{x:Str}{v:V}{u:Value}{d:D}{pos:Pos}(hg:Gl X x)(hm:X.mg x=some u)(r:RelV v u)(rp:∀F,Rep X.K F v d)(hd:(x==("__debug__" : Str))=false):AP X (.Name x pos) (pCon d) :=
 YK_ (Wb_ hg hm r hd) rp
section
variable {S:Type}
def putD(ds:List D)(j d:D):Option (List D):=match j with
 | .int k=>(ixN ds.length k).map λq=>ds.set q d
 | _=>none
def sPut(i:Nat)(mi me:Ev S D):SM S:=λK ρ=>me K.x (λd ρ1=>match ownL ρ1 i with
 | some _=>mi K.x (λj ρ2=>match ownL ρ2 i with
  | some ds=>(oM (putD ds j d)).on (λe=>K.x e ρ2) (λds'=>K.nx (setO ρ2 i ds'))
  | none=>.bad) ρ1
 | none=>.bad) ρ
variable {X:Cx}{a b e:Expr}{mi me:Ev S D}{pos pos' tpos apos cpos:Pos}{ml:Ev S (List D)}
theorem zar_{i:Nat}{x:Str}(hN:X.N[i]? = some x)(hv:Vis X.env.scope x)(hi:AE X b mi)(he:AE X e me)(ha:∀v,assign (.Subscript (.Name x pos') b tpos) X.env v=(do
   let ov <-holding [v] (eval (.Name x pos') X.env)
   let iv <-holding [v,ov] (eval b X.env)
   standAt tpos
   holding [v,ov,iv] (setItem ov iv v)
   release [v,ov,iv] []))
  (hs:swapsWithSole [.Subscript (.Name x pos') b tpos] e pos.line X.env=pure false) (hw:swappedStores [.Subscript (.Name x pos') b tpos] e X.env=pure none)
  (h1:(assignEach [.Subscript (.Name x pos') b tpos] X.env).map (·.2)=[assign (.Subscript (.Name x pos') b tpos) X.env])
  (hd:(x==("__debug__" : Str))=false:=by decide) (hcd:(x==("__classdict__" : Str))=false:=by decide):AS X (.Assign [.Subscript (.Name x pos') b tpos] e pos) (sPut i mi me):=λOK K G F σ H ρ E hO hX St ok eo =>
 semS (zcj_ zm_ (zck_ (j2_ hN hv hd hcd) zm_ set_list ha) hs hw h1) (he OK K.x _ G F σ H ρ _ hO hX St ok λd v F1 H1 ρ1 s1 S1 r1 o1=>by
  split at o1
  case h_2=>exact(hO o1).elim
  rename_i ds0 hd0
  obtain⟨a,vs0,ea,_,_⟩:=Z6_ S1 hd0
  refine⟨_,ea,hi OK K.x _ G F1 σ H1 ρ1 _ hO hX S1 o1 λj u F2 H2 ρ2 s2 S2 r2 o2=>?_⟩
  split at o2
  case h_2=>exact(hO o2).elim
  rename_i ds hds
  obtain⟨ds',hp,o3⟩:=U2_ hO o2
  obtain⟨a',vs,ea',hh,rv⟩:=Z6_ S2 hds
  rw[ea]at ea'
  injection ea' with ea';injection ea' with ea';injection ea' with ea'
  subst ea'
  unfold putD at hp
  split at hp
  ·rename_i k
   obtain⟨q,hq,rfl⟩:=Option.map_eq_some_iff.mp hp
   obtain rfl:=r2.int_inv
   refine⟨a,vs,k,q,rfl,rfl,hh,by rw[rv.length];exact hq,?_⟩
   exact eo.nx F2 σ _ _ (s1.trans s2) (Wg_ S2 hds ea (RepL.set (r1.mono s2) q rv)) o3
  ·cases hp)
end
noncomputable def kindB(k:NameKind):Option NameKind->Bool
 | some k'=>k==k'
 | none=>false
def WN_(N N':List Str)(k:Nat)(scope sc:Scope):Bool :=
 (scope.kind==.function)&&(N'.length==N.length+k)&&scope.names.all (λy=>y.2 != .cell)&&scope.names.all (λy=>y.2 != .local||kindB .local (scope.names.lookup y.1))
  && ((List.range N.length).all λi=>match N'[i]? with
   | some x=>!(kindB .free (scope.names.lookup x)||kindB .local (scope.names.lookup x)||kindB .cell (scope.names.lookup x))||(N[i]? == some x&&kindB .free (scope.names.lookup x))
   | none=>true)
  && scope.names.all (λy=>y.2 != .free||kindB .cell (sc.names.lookup y.1)||kindB .free (sc.names.lookup y.1))
theorem ZT_{k:NameKind}{o:Option NameKind}(h:kindB k o=true):o=some k:=by
 cases o with
 | none=>cases h
 | some k'=>simp[kindB]at h;rw[h]
theorem XD_{k:NameKind}{o:Option NameKind}(h:o=some k):kindB k o=true:=by subst h;simp[kindB]
theorem zT_{X:Cx}{N N':List Str}{k:Nat}{scope sc:Scope}(h:WN_ N N' k scope sc=true)(hN:X.N=N)(hs:X.env.scope=sc):CompOk X N' k scope:=by
 subst hN hs
 simp only[WN_,Bool.and_eq_true,List.all_eq_true,beq_iff_eq,Bool.or_eq_true,bne_iff_ne,ne_eq]at h
 obtain⟨⟨⟨⟨⟨h1,h2⟩,h3⟩,h4⟩,h5⟩,h6⟩:=h
 refine⟨h1,h2,λy hy=>h3 y hy,λy hy hl=>?_,λi x hi hx _ hk=>?_,λy hy hf=>?_⟩
 ·rcases h4 y hy with z|z
  ·exact absurd hl z
  ·exact ZT_ z
 ·have:=h5 i (List.mem_range.mpr hi)
  rw[hx]at this
  simp only[Bool.or_eq_true,Bool.not_eq_true',Bool.and_eq_true,beq_iff_eq]at this
  rcases this with z|⟨z1,z2⟩
  ·exfalso
   rcases hk with hk|hk|hk<;>simp[XD_ hk]at z
  ·exact⟨z1,ZT_ z2⟩
 ·rcases h6 y hy with (z|z)|z
  ·exact absurd hf z
  ·exact .inl (ZT_ z)
  ·exact .inr (ZT_ z)
theorem Ws_{K:Fg}{H:Hp}{a:Addr}{ns:List Int}{mf:List D->M D}(hS:SqL K H a (ns.map V.int))(h:mf [.list (ns.map PyData.int)]=.ret (.bool true)):spD K 1 mf [.ref a] H (λv _=>v=.bl true) λ_ _ _=>False:=by
 refine⟨⟨λ_=>none,λ_=>none,H⟩,H,[.list (ns.map PyData.int)],rfl,⟨Same.refl _,λb o z=>(nomatch z),λb o z=>(nomatch z),rfl,λi d z=>?_,λi c z=>(yl_ (ds:=[.list (ns.map PyData.int)]) z).elim,λi j c e a z=>(yl_ (ds:=[.list (ns.map PyData.int)]) z).elim,λi a z=>(nomatch z),λi c z=>?_,Same.refl _⟩,?_⟩
 ·obtain⟨d',e,q⟩:=Jk_ (ds:=[.list (ns.map PyData.int)]) z
  cases e
  cases i with
  | zero=>simp at q;subst q;exact⟨_,rfl,.lst hS (RepL.ints ns)⟩
  | succ i=>simp at q
 ·obtain⟨d',e,q⟩:=Jk_ (ds:=[.list (ns.map PyData.int)]) z
  cases e
 ·rw[h]
  intro v F' H' s S' r
  cases r
  rfl
end L4
namespace HT
end HT
namespace L4
open PySem PySem.Spec PyProof.Rows L2 L3
noncomputable def isStar:Expr->Bool
 | .Starred _ _=>true
 | _=>false
theorem za_{env:Env}:∀{e:Expr} {es:List Expr},isStar e=false->starEach (e::es) env=(false,eval e env)::starEach es env:=by
 intro e es h
 cases e<;>first|rfl|cases h
noncomputable def forS{S T:Type}:(T->D->(T->M S)->M S)->List D->T->(T->M S)->M S:=Classical.choose (⟨@forC S T,rfl⟩:∃f,f = @forC S T)
theorem Zk_{S T:Type} : @forS S T = @forC S T:=Classical.choose_spec (⟨@forC S T,rfl⟩:∃f,f = @forC S T)
section
variable {S:Type}
noncomputable def zaJ_(sh:List Kd)(it:Ev S (List D))(t:Tg S)(mb:SM S):SM S:=λK ρ=>it K.x (λds ρ1=>rdk sh (λs=>forS (λs d kn=>t d (λρ2=>mb (XA_ sh K kn) ρ2) (wr sh s)) ds s (λs'=>K.nx (wr sh s'))) ρ1) ρ
theorem Xj_(sh:List Kd)(it:Ev S (List D))(t:Tg S)(mb:SM S):zaJ_ sh it t mb=sFor sh it t mb:=by
 unfold zaJ_ sFor
 rw[Zk_]
variable {X:Cx}{mb:SM S}{c:Expr}{mt:Ev S Bool}{ml:Ev S (List D)}{pos:Pos}
theorem UI_{tg iter:Expr}{body:List Stmt}{sh:List Kd}{t:Tg S}(hp:PassesOwn (model X.prog X.w) X.A X.env X.xe)(hc:X.calm=true)(hi:AEi X tg iter ml)(hg:AG X 0 tg t)(hb:ASs X body mb)
  (hs:∀x,foldedSetIterable iter X.env x=pure x):AS X (.For tg iter body [] pos) (zaJ_ sh ml t mb):=by
 rw[Xj_]
 exact zdr_ hp hc hi hg hb hs
end
end L4
namespace HT
end HT
namespace PySem
end PySem
namespace L4
open PySem PySem.Spec PyProof.Rows L2 L3
noncomputable def u6_:D->Bool
 | .int _=>true
 | .str _=>true
 | _=>false
noncomputable def yU_:D->Bool
 | .tuple ds=>ds.all u6_
 | _=>false
noncomputable def Wt_:D->D->Bool
 | .int i,.int j=>decide (i=j)
 | .str i,.str j=>decide (i=j)
 | _,_=>false
noncomputable def Y1_:List D->List D->Bool
 | [],[]=>true
 | a::r,b::t=>Wt_ a b&&Y1_ r t
 | _,_=>false
noncomputable def keyQ:D->D->Bool
 | .tuple a,.tuple b=>Y1_ a b
 | a,b=>Wt_ a b
noncomputable def keyOk(es:List (D×D))(k:D):Bool:=(yU_ k&&es.all λp=>yU_ p.1)||(u6_ k&&es.all λp=>u6_ p.1)
theorem Wu_{es:List (D×D)}{k:D}(h:keyOk es k=true):isXe es=false:=by
 unfold isXe
 split
 ·simp[keyOk,yU_,u6_]at h
 ·simp[keyOk,yU_,u6_]at h
 ·rfl
noncomputable def getE(es:List (D×D))(k:D):Option D:=(es.find? λp=>keyQ p.1 k).map (·.2)
theorem QH_(a b:Key):Wt_ (keyD a) (keyD b)=decide (a=b):=by
 cases a<;>cases b<;>simp[Wt_,keyD]
theorem QG_:∀(a b:List Key),Y1_ (a.map keyD) (b.map keyD)=decide (a=b)
 | [],[]=>by simp[Y1_]
 | [],_::_=>by simp[Y1_]
 | _::_,[]=>by simp[Y1_]
 | x::xs,y::ys=>by
  simp only[List.map_cons,Y1_,QH_,QG_ xs ys]
  by_cases h:x=y<;>by_cases g:xs=ys<;>simp[h,g]
theorem zcZ_(a b:List Key):keyQ (keyT a) (keyT b)=decide (a=b):=QG_ a b
theorem zda_(a b:Key):keyQ (keyD a) (keyD b)=decide (a=b):=by
 have h:keyQ (keyD a) (keyD b)=Wt_ (keyD a) (keyD b):=by cases a<;>cases b<;>rfl
 rw[h];exact QH_ a b
theorem Jh_{d:D}(h:u6_ d=true):∃k,d=keyD k:=by
 cases d<;>first|exact⟨.inl _,rfl⟩|exact⟨.inr _,rfl⟩|cases h
theorem JV_:∀{ds:List D},ds.all u6_=true->∃k:List Key,ds=k.map keyD
 | [],_=>⟨[],rfl⟩
 | d::ds,h=>by
  rw[List.all_cons,Bool.and_eq_true]at h
  obtain⟨k,rfl⟩:=Jh_ h.1
  obtain⟨ks,rfl⟩:=JV_ h.2
  exact⟨k::ks,rfl⟩
theorem Yp_{d:D}(h:yU_ d=true):∃k,d=keyT k:=by
 cases d<;>first|cases h|skip
 obtain⟨k,rfl⟩:=JV_ h
 exact⟨k,rfl⟩
theorem XG_(k:Key):yU_ (keyD k)=false:=by cases k<;>rfl
theorem XH_(k:List Key):u6_ (keyT k)=false:=rfl
section
variable {K:Fg}{F H:Hp}{v:V}
theorem Ui_{k:Key}(r:Rep K F v (keyD k)):v=kV k:=by
 cases k with
 | inl i=>cases (show Rep K F v (.int i)from r);rfl
 | inr i=>cases (show Rep K F v (.str i)from r);rfl
theorem UW_:∀{vs:List V} {k:List Key},RepL K F vs (k.map keyD)->vs=k.map kV
 | _,[],r=>by rw[List.map_nil]at r;cases r;rfl
 | _,k::ks,r=>by
  rw[List.map_cons]at r
  cases r with
  | cons a b=>rw[Ui_ a,UW_ b];rfl
theorem Qs_{k:List Key}(r:Rep K F v (keyT k)):∃b,v=.ref b/\F b=some (.tup (k.map kV)):=by
 unfold keyT at r
 cases r with
 | tup h1 h2=>rw[UW_ h2]at h1;exact⟨_,rfl,h1⟩
def DT(K:Fg)(F H:Hp)(a:Addr)(es:List (D×D)):Prop:=∃kvs,H a=some (.dT kvs)/\es.map (·.1)=kvs.map (λp=>keyT p.1)/\RepL K F (kvs.map (·.2)) (es.map (·.2))
def DK(K:Fg)(F H:Hp)(a:Addr)(es:List (D×D)):Prop:=∃kvs,H a=some (.dK kvs)/\es.map (·.1)=kvs.map (λp=>keyD p.1)/\RepL K F (kvs.map (·.2)) (es.map (·.2))
theorem OR.dict{es:List (D×D)}(s:Same F H)(h:OR K F H v (.dict es))(hx:isXe es=false):∃a,v=.ref a/\(DT K F H a es\/DK K F H a es):=by
 rcases h with h|⟨a,c,e,e2,h1,hI⟩
 ·cases h with
  | dct h1 h2 h3=>exact⟨_,rfl,.inl ⟨_,s _ _ h1,h2,h3⟩⟩
  | dck h1 h2 h3=>exact⟨_,rfl,.inr ⟨_,s _ _ h1,h2,h3⟩⟩
  | exc _ _ _ _ _=>cases hx
  | fn _=>cases hx
 ·cases c<;>cases e2
  ·exact⟨a,e,.inl h1⟩
  ·exact⟨a,e,.inr h1⟩
theorem Y3_{κ:Type}[DecidableEq κ]{kd:κ->D}(inj:∀a b,keyQ (kd a) (kd b)=decide (a=b))(k:κ):∀{kvs:List (κ×V)} {es:List (D×D)},es.map (·.1)=kvs.map (λp=>kd p.1)->RepL K F (kvs.map (·.2)) (es.map (·.2)) ->
  (∃d v,getE es (kd k)=some d/\valV kvs k=some v/\Rep K F v d)\/(getE es (kd k)=none/\valV kvs k=none)
 | [],[],_,_=>.inr ⟨rfl,rfl⟩
 | [],_::_,e,_=>by simp at e
 | _::_,[],e,_=>by simp at e
 | p::kvs,q::es,e,r=>by
  simp only[List.map_cons,List.cons.injEq]at e
  cases r with
  | cons r1 r2 =>
   unfold getE valV
   rw[List.find?_cons,List.find?_cons,e.1,inj]
   by_cases h:p.1=k
   ·simp only[h,decide_true]
    exact .inl ⟨_,_,rfl,rfl,r1⟩
   ·simp only[h,decide_false]
    exact Y3_ inj k e.2 r2
end
def QX_(H:Hp)(a:Addr):Prop:=H a=some (.dT [])\/H a=some (.dK [])
theorem Vs_{X:Cx}{pins:List (Addr×Obj)}{σ:L2.St}{H:Hp}{s:Shared}{a:Addr}(I:Inv X pins σ H s)(h:QX_ H a) :
  s.heap.DictOfH (tupleKind (jk_ X.prog X.w)) a []/\s.heap.DictOf (jk_ X.prog X.w) a []/\(a==sysModules)=false:=by
 rcases h with h|h
 ·obtain⟨z,y,xs,kt,o,es,ep,h1,h2,h3,h4,h5,h6⟩:=zdo_ I.hok h
  cases kt
  have e0:es = #[]:=by
   have:es.toList=[]:=h4
   exact Array.toList_inj.mp this
  subst e0
  exact⟨⟨o,_,ep,h1,h2,h3,rfl,(λx hx=>by simp at hx),List.nodup_nil⟩,⟨o,_,ep,h1,h2,h3,λe he=>by simp at he,.nil,List.nodup_nil⟩,y⟩
 ·obtain⟨z,y,vs,kv,o,es,ep,h1,h2,h3,h4,h5,h6⟩:=zdp_ I.hok h
  cases kv
  have e0:es = #[]:=by
   have:es.toList=[]:=by
    generalize es.toList=l at h5
    cases h5
    rfl
   exact Array.toList_inj.mp this
  subst e0
  exact⟨⟨o,_,ep,h1,h2,h3,rfl,(λx hx=>by simp at hx),List.nodup_nil⟩,⟨o,_,ep,h1,h2,h3,λe he=>by simp at he,.nil,List.nodup_nil⟩,y⟩
theorem DT.empty{K:Fg}{F H:Hp}{a:Addr}(h:DT K F H a []):QX_ H a:=by
 obtain⟨kvs,h1,h2,_⟩:=h
 cases kvs with
 | nil=>exact .inl h1
 | cons _ _=>simp at h2
theorem DK.empty{K:Fg}{F H:Hp}{a:Addr}(h:DK K F H a []):QX_ H a:=by
 obtain⟨kvs,h1,h2,_⟩:=h
 cases kvs with
 | nil=>exact .inr h1
 | cons _ _=>simp at h2
def KeyV(H:Hp)(y:V):Prop:=(∃k,y=kV k)\/∃(b:Addr) (ks:List Key),y=.ref b/\H b=some (.tup (ks.map kV))
def DAsk(H:Hp)(a:Addr)(y:V)(o:Option V):Prop:=DGet H a y o\/(QX_ H a/\KeyV H y/\o=none)
theorem zaq_{K:Fg}{F H:Hp}{a:Addr}{y:V}{es:List (D×D)}{k:D}(s:Same F H)(h:DT K F H a es\/DK K F H a es)(r:Rep K F y k)(hk:keyOk es k=true) :
  (∃d v,getE es k=some d/\DAsk H a y (some v)/\Rep K F v d)\/(getE es k=none/\DAsk H a y none):=by
 unfold keyOk at hk
 rw[Bool.or_eq_true,Bool.and_eq_true,Bool.and_eq_true]at hk
 have kT:yU_ k=true->KeyV H y:=λh=>by
  obtain⟨ks,rfl⟩:=Yp_ h
  obtain⟨b,rfl,hb⟩:=Qs_ r
  exact .inr ⟨b,ks,rfl,s _ _ hb⟩
 have kK:u6_ k=true->KeyV H y:=λh=>by
  obtain⟨ks,rfl⟩:=Jh_ h
  exact .inl ⟨ks,Ui_ r⟩
 cases es with
 | nil =>
  refine .inr ⟨rfl,.inr ⟨?_,?_,rfl⟩⟩
  ·rcases h with h|h
   ·exact h.empty
   ·exact h.empty
  ·rcases hk with hk|hk
   ·exact kT hk.1
   ·exact kK hk.1
 | cons p es =>
  rcases h with ⟨kvs,h1,h2,h3⟩|⟨kvs,h1,h2,h3⟩
  ·rcases hk with ⟨hk,_⟩|⟨_,hk⟩
   ·obtain⟨ks,rfl⟩:=Yp_ hk
    obtain⟨b,rfl,hb⟩:=Qs_ r
    rcases Y3_ zcZ_ ks h2 h3 with ⟨d,v,e1,e2,e3⟩|⟨e1,e2⟩
    ·exact .inl ⟨d,v,e1,.inl (e2▸DGet.t h1 (s _ _ hb)),e3⟩
    ·exact .inr ⟨e1,.inl (e2▸DGet.t h1 (s _ _ hb))⟩
   ·exfalso
    cases kvs with
    | nil=>simp at h2
    | cons q kvs =>
     simp only[List.map_cons,List.cons.injEq]at h2
     rw[List.all_cons,h2.1,XH_,Bool.false_and]at hk
     cases hk
  ·rcases hk with ⟨_,hk⟩|⟨hk,_⟩
   ·exfalso
    cases kvs with
    | nil=>simp at h2
    | cons q kvs =>
     simp only[List.map_cons,List.cons.injEq]at h2
     rw[List.all_cons,h2.1,XG_,Bool.false_and]at hk
     cases hk
   ·obtain⟨ks,rfl⟩:=Jh_ hk
    obtain rfl:=Ui_ r
    rcases Y3_ zda_ ks h2 h3 with ⟨d,v,e1,e2,e3⟩|⟨e1,e2⟩
    ·exact .inl ⟨d,v,e1,.inl (e2▸DGet.k h1),e3⟩
    ·exact .inr ⟨e1,.inl (e2▸DGet.k h1)⟩
section
variable {X:Cx}{pins:List (Addr×Obj)}{σ:L2.St}{H:Hp}{s:Shared}{a:Addr}{y d:V}{u r:Value}{o:Option V}{A:Around}{E:Value->Shared->Prop}
theorem a_in{Q:Value->Shared->Prop}(hu:A.units+1<cLine)(I:Inv X pins σ H s)(g:DAsk H a y o)(ry:RelV y u)(h:∀s',Inv X pins σ H s'->Q (.bool o.isSome) s') :
  wpAny (model X.prog X.w) A (compareOp .In u (.ref a)) Q E s:=by
 rcases g with g|⟨e,k,rfl⟩
 ·exact d_in hu I g ry h
 ·obtain⟨h1,h2,hd⟩:=Vs_ I e
  rcases k with ⟨k,rfl⟩|⟨b,ks,rfl,hb⟩
  ·exact wpAny_in_of (XE_ ry) hd h2.mapOf (h _ (I.tok _))
  ·cases (show u=Value.ref b from ry)
   exact wpAny_in_heap (tupleKind_room_in1 hu) (QF_ I.hok hb) hd h1 (h _ (I.tok _))
end
def uA_(d c:D):Option Bool:=match c with
 | .dict es=>if keyOk es d then some (getE es d).isSome else none
 | _=>opIn d c
def zH_(x y:D):Option D:=match x with
 | .dict es=>if keyOk es y then getE es y else none
 | _=>opIx x y
noncomputable def rDin(neg:Bool):R2:=λx y H Q=>∃a o,y=.ref a/\DAsk H a x o/\Q (.bl (if neg then !o.isSome else o.isSome)) H
def rInA(K:Fg):R2:=λx y H Q=>rD2 K opIn x y H Q\/rDin false x y H Q
noncomputable def rDIx:R2:=λx y H Q=>∃a v,x=.ref a/\DGet H a y (some v)/\Q v H
def rIxA(K:Fg):R2:=λx y H Q=>rIx K x y H Q\/rDIx x y H Q
section
variable {X:Cx}
theorem Zc_(hu:X.A.units+1100<cLine):OpR X (compareOp .In) (rInA X.K):=OpR.or (zcB_ hu) (by
 intro pins s σ H x y v u Q I rx ry ⟨a,o,e,g,q⟩
 subst e
 obtain rfl:u=Value.ref a:=ry
 exact a_in (by lia) I g rx λs' I'=>⟨.bl _,H,I',rfl,q⟩)
theorem zbn_(hu:X.A.units+1100<cLine):IxR X rDIx:=by
 intro value slice pins s σ H x y v u Q I rx ry ⟨a,w,e,g,q⟩ hs
 subst e
 obtain rfl:v=Value.ref a:=rx
 have hT:s.TypeIs (.ref a) "dict":=Y6_ I g
 unfold subscriptTail
 refine zza ?_
 rw[getitemInPython_of_ne hT.not_modules]
 refine zza (wpAny_specialOf hT PySem.F.slot_dict_getitem.lookup ?_)
 have h₂:wpAny (model X.prog X.w) X.A (getItem (.ref a) u) (EP X pins σ Q) X.xe s:=WK_ (by lia) I g ry λw' s3 I3 rw'=>⟨w,H,I3,rw',q⟩
 have fin:wpAny (model X.prog X.w) X.A (subscripted slice false (.ref a) u) (λr s₃=>wpAny (model X.prog X.w) X.A (letTemporaryGo value (.ref a) r >>= λ_=>pure r) (EP X pins σ Q) X.xe s₃) X.xe s:=by
  rw[hs]
  exact wpAny_operating (wpAny_mono h₂ (λr s₃ h₃=>zza (wpAny_letTemporaryGo (zzb h₃))) λ_ _ x=>x)
 first
  | exact zzb (zza fin)
  | exact zza (zzb (zza fin))
  | exact zza fin
theorem jy_(hu:X.A.units+1100<cLine):IxR X (rIxA X.K):=IxR.or zdd_ (zbn_ hu)
theorem Yl_{K:Fg}{F H:Hp}{y:V}{es:List (D×D)}{k:D}(h:OR K F H y k)(hk:keyOk es k=true):Rep K F y k:=by
 rcases h with h|⟨a,c,e,e2,h1,hI⟩
 ·exact h
 ·exfalso
  subst e2
  unfold keyOk at hk
  cases c<;>simp[OC.d,yU_,u6_]at hk
theorem JU_{K:Fg}:OpB K (rInA K) uA_:=by
 intro G F σ H ρ x y dx dy res Q S ox oy e k
 unfold uA_ at e
 split at e
 ·rename_i es
  split at e
  case isFalse=>cases e
  rename_i hk
  cases e
  obtain⟨a,rfl,hh⟩:=oy.dict S.fh (Wu_ hk)
  rcases zaq_ S.fh hh (Yl_ ox hk) hk with ⟨d,v,e1,g,r⟩|⟨e1,g⟩
  ·exact .inr ⟨a,_,rfl,g,by rw[e1]at k;exact k⟩
  ·exact .inr ⟨a,_,rfl,g,by rw[e1]at k;exact k⟩
 ·exact .inl (jY_ G F σ H ρ x y dx dy res Q S ox oy e k)
theorem jt_{K:Fg}:OpD K (rIxA K) zH_:=by
 intro G F σ H ρ x y dx dy res Q S ox oy e k
 unfold zH_ at e
 split at e
 ·rename_i es
  split at e
  case isFalse=>cases e
  rename_i hk
  obtain⟨a,rfl,hh⟩:=ox.dict S.fh (Wu_ hk)
  rcases zaq_ S.fh hh (Yl_ oy hk) hk with ⟨d,v,e1,g,r⟩|⟨e1,g⟩
  ·rw[e1]at e
   cases e
   rcases g with g|⟨_,_,z⟩
   ·exact .inr ⟨a,v,rfl,g,k v F H (Same.refl _) S r⟩
   ·cases z
  ·rw[e1]at e;cases e
 ·exact .inl (zen_ G F σ H ρ x y dx dy res Q S ox oy e k)
end
end L4
namespace HT
open PySem PyProof.Rows
noncomputable def lexLe:List Int->List Int->Bool
 | [],[]=>true
 | [],_::_=>true
 | _::_,[]=>false
 | x::xs,y::ys=>if x=y then lexLe xs ys else decide (x<=y)
theorem Vj_(x y:Int)(xs ys:List Int):lexLe (x::xs) (y::ys)=if x=y then lexLe xs ys else decide (x<=y):=rfl
theorem Ux_:lexLe [] []=true:=rfl
theorem JB_(y:Int)(ys:List Int):lexLe [] (y::ys)=true:=rfl
theorem JC_(x:Int)(xs:List Int):lexLe (x::xs) []=false:=rfl
theorem Xn_(A:Around)(s:Shared)(a:Int)(t:Tok)(c:Int)(u:Tok)(prog:Program)(w:World)(E:Value->Shared->Prop)(Q:Value->Shared->Prop)(h:Q (.bool (decide (a<=c))) s) :
  wpAny (model prog w) A (richCompare .LtE (.int a t) (.int c u)) Q E s :=
 (PyProof.Rows.le_int h:wpAny (model prog w) A (compareOp .LtE (.int a t) (.int c u)) Q E s)
section
open PySem.SeqAt
open PySem.AutoSeq1 (wpAny_loadPart')
open PySem.MeetsSeq PySem.MeetsSeq2 PySem.MeetsSeq3
theorem Uc_(l b:Addr)(items items2:Array Value)(n n2:Nat)(dd dd2:Option Addr)(sl sl2:Array (Option Value))(ns ms:List Int)(hi:IntsAre items.toList ns)(hj:IntsAre items2.toList ms) :
  Meets (Builtin.«tuple.__le__» ⟨[.ref l,.ref b],[]⟩)
   (λ_ R s=>s.heap.get? l=some { cls:=.type "tuple",dict:=dd,data:=.seq items n,slots:=sl }/\s.heap.get? b=some { cls:=.type "tuple",dict:=dd2,data:=.seq items2 n2,slots:=sl2 } /\
    R (.ok (.ret (.bool (lexLe ns ms)))) s) :=
 .of_wp λprog w A R s h=>by
  obtain⟨hp,g,d,tk,os⟩:=s;obtain⟨hl,hb,h⟩:=h
  have f2:=AutoSeq1.sub_tuple_tuple
  have z1:items.size=ns.length:=by rw[<-hi.length];simp
  have z2:items2.size=ms.length:=by rw[<-hj.length];simp
  wp_walk using wpAny_loadPart' hl,wpAny_loadPart' hb,wpAny_forIn_list _ (λrest b s'=>b.1=none/\s'=⟨hp,g,d,tk,os⟩/\∃(vs ws:List Value) (ns' ms':List Int),rest=vs.zip ws /\
   IntsAre vs ns'/\IntsAre ws ms'/\ns'.length+items2.size=ms'.length+items.size/\R (.ok (.ret (.bool (lexLe ns' ms')))) ⟨hp,g,d,tk,os⟩) _
  case turn =>
   rintro⟨y,x⟩ rest b s' ⟨hb',rfl,vs,ws,ns',ms',hz,hvi,hwi,hlen,hR⟩
   cases hvi with
   | nil=>rw[List.zip_nil_left]at hz;cases hz
   | cons a t hvi' =>
    cases hwi with
    | nil=>rw[List.zip_nil_right]at hz;cases hz
    | cons c u hwi' =>
     rw[List.zip_cons_cons]at hz
     injection hz with hyx hrest
     injection hyx with hy hx
     subst hy hx
     rw[Vj_]at hR
     simp only[List.length_cons]at hlen
     obtain⟨e,he,hiff⟩:=QL_ A.in1 ⟨hp,g,d,tk,os⟩ a t c u
     refine zza (he prog w _ _ ?_)
     cases e with
     | true =>
      rw[if_pos (hiff.mp rfl)]at hR
      wp_walk
      exact⟨rfl,rfl,_,_,_,_,hrest,hvi',hwi',by lia,hR⟩
     | false =>
      rw[if_neg (λq=>absurd (hiff.mpr q) Bool.false_ne_true)]at hR
      have hri:=Xn_ A.in1 ⟨hp,g,d,tk,os⟩ a t c u prog w
      wp_walk using hri
      exact⟨_,rfl,by simpa using hR⟩
  case fin =>
   rintro⟨b1,b2⟩ s' ⟨hb',rfl,vs,ws,ns',ms',hz,hvi,hwi,hlen,hR⟩
   simp only at hb'
   subst hb'
   have hv:lexLe ns' ms'=decide (items.size<=items2.size):=by
    cases hvi with
    | nil =>
     cases hwi with
     | nil =>
      simp only[List.length_nil]at hlen
      rw[Ux_]
      exact(decide_eq_true (by lia)).symm
     | cons c u hw =>
      simp only[List.length_nil,List.length_cons]at hlen
      rw[JB_]
      exact(decide_eq_true (by lia)).symm
    | cons a t hv =>
     cases hwi with
     | nil =>
      simp only[List.length_nil,List.length_cons]at hlen
      rw[JC_]
      exact(decide_eq_false (by lia)).symm
     | cons c u hw =>
      rw[List.zip_cons_cons]at hz
      cases hz
   rw[hv]at hR
   wp_walk
   exact⟨_,rfl,by simpa[Builtin.Tuple.tupleCompareSizes]using hR⟩
  case h =>
   exact⟨rfl,rfl,items.toList,items2.toList,ns,ms,rfl,hi,hj,by lia,h⟩
end
section
variable {prog:Program}{w:World}{A:Around}{E:Value->Shared->Prop}{s:Shared}
theorem le_tupInts{l b:Addr}{items items2:Array Value}{ns ms:List Int}{Q:Value->Shared->Prop}(hl:IsTup s.heap l items)(hb:IsTup s.heap b items2)(hi:IntsAre items.toList ns)(hj:IntsAre items2.toList ms)
  (hu:A.units<cLine) (h:Q (.bool (lexLe ns ms)) s):wpAny (model prog w) A (compareOp .LtE (.ref l) (.ref b)) Q E s:=by
 obtain⟨⟨cls,dd,data,sl⟩,ho,hc,n,hd⟩:=id hl
 obtain⟨⟨cls2,dd2,data2,sl2⟩,ho2,hc2,n2,hd2⟩:=id hb
 simp only at hc hd hc2 hd2
 subst hc hd hc2 hd2
 exact richCompare_meets_room (op:=.LtE) ⟨_,ho,rfl⟩ ⟨_,ho2,rfl⟩ PySem.F.slot_tuple_le PySem.F.entry_tuple_le (PySem.F.args_tuple_le_2 _ _) (Uc_ l b items items2 n n2 dd dd2 sl sl2 ns ms hi hj)
  ⟨ho,ho2,show Value.bool (lexLe ns ms)≠Value.notImplemented/\Q (.bool (lexLe ns ms)) s from⟨(λx=>nomatch x),h⟩⟩ hu
end
end HT
namespace L4
open PySem PySem.Spec PyProof.Rows L2 L3
noncomputable def rLeT(K:PySem.W.Frag):R2:=λx y H Q=>∃a b ns ms,x=.ref a/\y=.ref b/\SqT K H a (ns.map V.int)/\SqT K H b (ms.map V.int)/\Q (.bl (HT.lexLe ns ms)) H
theorem zcE_{X:Cx}(hu:X.A.units<cLine):OpR X (compareOp .LtE) (rLeT X.K):=by
 intro pins s σ H x y v u Q I rx ry h
 obtain⟨a,b,ns,ms,rfl,rfl,ha,hb,q⟩:=h
 cases rx
 cases ry
 obtain⟨its,r1,p1,_⟩:=I.tuple ha
 obtain⟨its2,r2,p2,_⟩:=I.tuple hb
 have i1:IntsAre its.toArray.toList ns:=intsAre_of r1
 have i2:IntsAre its2.toArray.toList ms:=intsAre_of r2
 exact HT.le_tupInts p1 p2 i1 i2 hu ⟨.bl (HT.lexLe ns ms),H,I,rfl,q⟩
noncomputable def Uo_(x y:D):Option Bool:=match x,y with
 | .tuple a,.tuple b=>match intsOf a,intsOf b with
  | some m,some n=>some (HT.lexLe m n)
  | _,_=>none
 | x,y=>opLe x y
noncomputable def YT_(x y:D):Option Bool:=match x,y with
 | .tuple a,.tuple b=>match intsOf a,intsOf b with
  | some m,some n=>some (HT.lexLt m n)
  | _,_=>none
 | x,y=>opLt x y
def rLeA(K:Fg):R2:=λx y H Q=>rI0 (λi j=>.bl (decide (i<=j))) x y H Q\/rLeT K x y H Q
def rLtA(K:Fg):R2:=λx y H Q=>rI0 (λi j=>.bl (decide (i<j))) x y H Q\/rLtT K x y H Q
theorem JS_{X:Cx}(hu:X.A.units+1100<cLine):OpR X (compareOp .LtE) (rLeA X.K):=OpR.or zek_ (zcE_ (by lia))
theorem zab_{X:Cx}(hu:X.A.units+1100<cLine):OpR X (compareOp .Lt) (rLtA X.K):=OpR.or zej_ (zcD_ (by lia))
theorem JT_{K:Fg}:OpB K (rLeA K) Uo_:=by
 intro G F σ H ρ x y dx dy res Q S ox oy e k
 unfold Uo_ at e
 split at e
 ·rename_i a b
  split at e
  ·rename_i m n hm hn
   cases e
   obtain⟨p,vs,rfl,h1,h2⟩:=ox.tuple S.fh
   obtain⟨q,us,rfl,g1,g2⟩:=oy.tuple S.fh
   rw[u7_ hm]at h2
   rw[u7_ hn]at g2
   rw[uU_ h2]at h1
   rw[uU_ g2]at g1
   exact .inr ⟨p,q,m,n,rfl,rfl,h1,g1,k⟩
  ·cases e
 ·exact .inl (zem_ G F σ H ρ x y dx dy res Q S ox oy e k)
theorem zae_{K:Fg}:OpB K (rLtA K) YT_:=by
 intro G F σ H ρ x y dx dy res Q S ox oy e k
 unfold YT_ at e
 split at e
 ·rename_i a b
  split at e
  ·rename_i m n hm hn
   cases e
   obtain⟨p,vs,rfl,h1,h2⟩:=ox.tuple S.fh
   obtain⟨q,us,rfl,g1,g2⟩:=oy.tuple S.fh
   rw[u7_ hm]at h2
   rw[u7_ hn]at g2
   rw[uU_ h2]at h1
   rw[uU_ g2]at g1
   exact .inr ⟨p,q,m,n,rfl,rfl,h1,g1,k⟩
  ·cases e
 ·exact .inl (zel_ G F σ H ρ x y dx dy res Q S ox oy e k)
end L4
namespace PySem
end PySem
namespace HT
end HT
namespace L4
open PySem PySem.Spec PyProof.Rows L2 L3 PySem.W
section
variable {prog:Program}{w:World}{A:Around}{E:Value->Shared->Prop}{K:Frag}{C D fI:Addr}{h:Heap}{g:Array GenState}{d:Drawn}{t:Nat}{os:OsState}{rest:List Value}
noncomputable abbrev newX(h:Heap)(C:Addr)(rest:List Value):Heap:=(h.push { cls:=.type "tuple",data:=.seq rest.toArray }).push { cls:=.ref C,data:=.fields #[.ref h.objs.size,.none,.none,.none,.bool false,.none] }
theorem Yf_{b:Addr}{o:Obj}(q:h.get? b=some o):(newX h C rest).get? b=some o:=zzc _ (zzc _ q)
theorem Wn_:(newX h C rest).get? (h.objs.size+1)=some { cls:=.ref C,data:=.fields #[.ref h.objs.size,.none,.none,.none,.bool false,.none] }:=by
 have z:=zze (h.push { cls:=.type "tuple",data:=.seq rest.toArray }) (o:={ cls:=.ref C,data:=.fields #[.ref h.objs.size,.none,.none,.none,.bool false,.none] }) rfl
 rwa [Heap.size_push]at z
theorem Yg_(X:K.In h)(c:XC K C D fI){Q:Fin->Shared->Prop}(hz:rest.length<=sizeLine)
  (hq:wpAny (model prog w) A (call (.ref fI) (.ref (h.objs.size+1)::rest)) (λr s'=>r=.none/\Q (.done (.ret (.ref (h.objs.size+1)))) s') E ⟨newX h C rest,g,d,t,os⟩) :
  wpAny (model prog w) A (Builtin.«type.__call__» ⟨.ref C::rest,[]⟩) Q E ⟨h,g,d,t,os⟩:=by
 obtain⟨nm,q,N,bs,sn,sub,ab,col,dd,k0,k1,k2,k3,k5,lk⟩:=c.obj
 have hC:=X _ _ lk
 have T:OwnTail h bmV (.ref D::bmV):=tail_of_in X c.tl
 have B:=F.excBase_ValueError
 repeat (first|with_reducible refine wpAny_loadPart_at hC ?_|with_reducible refine wpAny_madeBy_exc hC ?_|wp_step)
 refine codeAny_call_builtin_code (Code.quiet_builtin _ B.quiet) (wpAny_check_new_subT B T hC (codeAny_exc_new_subT B T hC ?_ hz))
 show wpAny _ _ _ _ _ _
 have X1:K.In (newX h C rest):=X.keeps λb o z=>Yf_ z
 have LI:=looks_findIn (M:=model prog w) X1 c.ini
 have LB:=bind_fn (M:=model prog w) X1 (.ref (h.objs.size+1)) c.fn
 have hC1:=Yf_ (rest:=rest) (C:=C) hC
 have yes:(Value.ref C::.ref D::bmV).contains (.ref C)=true:=by simp
 unfold isInstance
 repeat (first|with_reducible refine wpAny_loadPart_at Wn_ ?_|(with_reducible refine wpAny_isSubtype_exc hC1 ?_;rw[yes])|wp_step)
 show wpAny _ _ (typeLookup (.ref C) _) _ _ _
 refine LI.at ?_
 refine wpAny_holding (zza (LB.at ?_))
 refine zza (wpAny_mono hq (λr s' z=>?_) λ_ _ z=>z)
 obtain⟨rfl,z⟩:=z
 wp_walk
 exact z
theorem call_exc(X:K.In h)(c:XC K C D fI){Q:Value->Shared->Prop}(hz:rest.length<=sizeLine)
  (hq:wpAny (model prog w) (A.under (.builtin "type.__call__" ⟨.ref C::rest,[]⟩)) (call (.ref fI) (.ref (h.objs.size+1)::rest)) (λr s'=>r=.none/\Q (.ref (h.objs.size+1)) s') E ⟨newX h C rest,g,d,t,os⟩) :
  wpAny (model prog w) A (call (.ref C) rest) Q E ⟨h,g,d,t,os⟩:=by
 obtain⟨nm,q,N,bs,sn,sub,ab,col,dd,k0,k1,k2,k3,k5,lk⟩:=c.obj
 have hC:=X _ _ lk
 have f1:=tc_lookup
 have f2:=tc_bind (.ref C)
 have ty:(⟨h,g,d,t,os⟩:Shared).TypeIs (.ref C) "type":=⟨_,hC,rfl⟩
 refine wpAny_call (codeAny_of_tree ?_)
 show wpAny _ _ (callAny (.ref C) _) _ _ _
 repeat (any_goals (first|assumption|with_reducible refine wpAny_loadPart_at hC ?_|wp_step))
 refine⟨rfl,codeAny_call_builtin_at (Code.quiet_builtin _ (by decide +kernel)) entry_typeCall (wpAny_check_type_call_sub hC (Yg_ X c hz ?_))⟩
 exact hq
end
end L4
namespace L4
open PySem PySem.Spec PyProof.Rows L2 L3
def XN(e C:Addr)(dd:Option Addr):Heap->Prop:=λh=>∃oe vs,h.get? e=some oe/\oe.cls=.ref C/\oe.dict=dd/\oe.data=.fields vs/\1<vs.size/\vs[1]? = some .none
section
variable {P:Program}{w:World}{h h':Heap}{e C dx:Addr}{dd:Option Addr}{H:Hp}{fs:List (Str×V)}
theorem XN.ok{H':Hp}(x:XN e C dd h):ObjOk P w H' h e (.ext (XN e C dd)):=by
 obtain⟨oe,vs,q,r⟩:=x
 exact⟨⟨oe,vs,q,r⟩,⟨oe,q⟩,λh1 h2 ⟨o,vs,z,r⟩ k=>⟨o,vs,k o z,r⟩⟩
theorem XD.ok{H':Hp}(x:XD dx fs h):ObjOk P w H' h dx (.ext (XD dx fs)):=by
 obtain⟨mA,n,r⟩:=x
 obtain⟨o,es,ep,q,z⟩:=id n
 exact⟨⟨mA,n,r⟩,⟨o,q⟩,λh1 h2 ⟨m,n,r⟩ k=>⟨m,n.at λo q=>k o q,r⟩⟩
theorem zdC_{fr:List Addr}{o1 o2:HO}(ea:∃φ,H e=some (.ext φ))(hd:h.objs.size<=dx)(hn:H dx=none)(heo:∃o,h'.get? e=some o)(k:∀b o,b≠e->h.get? b=some o->h'.get? b=some o):Un fr [] H (upd (upd H dx o1) e o2) h h':=by
 obtain⟨φ,ea⟩:=ea
 have nd:∀b o,h.get? b=some o->b≠dx:=λb o q=>Nat.ne_of_lt (Nat.lt_of_lt_of_le (Heap.lt_size q) hd)
 have ne:∀b,H b=none->b≠e:=λb n z=>by subst z;rw[ea]at n;cases n
 have kp:∀b u,H b=some u->(∀φ,u≠.ext φ)->(upd (upd H dx o1) e o2) b=some u:=λb u q nu=>by
  rw[zo_ (λz=>by subst z;rw[ea]at q;cases q;exact nu _ rfl),zo_ (λz=>by subst z;rw[hn]at q;cases q)]
  exact q
 refine⟨λb o q n _ _=>k b o (ne b n) q,λb o q n _ _=>⟨o.slots,k b o (ne b n) q⟩,λb o q n _=>?_,λb o q _=>?_,λb xs q=>kp b _ q (λ_ z=>by cases z),λb o u q=>kp b _ q (λ_ z=>by cases z),λb ps q=>⟨#[],?_⟩⟩
 ·rw[zo_ (ne b n),zo_ (nd b o q)];exact n
 ·by_cases z:b=e
  ·subst z;exact heo
  ·exact⟨o,k b o z q⟩
 ·rw[kp b _ q (λ_ z=>by cases z)];simp
theorem zdg_{o1 o2:HO}(ok:HOk P w H h)(ea:∃φ,H e=some (.ext φ))(hn:H dx=none)(k:∀b o,b≠e->h.get? b=some o->h'.get? b=some o)
  (h1:ObjOk P w (upd (upd H dx o1) e o2) h' dx o1) (h2:ObjOk P w (upd (upd H dx o1) e o2) h' e o2):HOk P w (upd (upd H dx o1) e o2) h':=λa o q=>by
 obtain⟨φ,ea⟩:=ea
 have kp:∀b u,H b=some u->(∀φ,u≠.ext φ)->(upd (upd H dx o1) e o2) b=some u:=λb u r nu=>by
  rw[zo_ (λz=>by subst z;rw[ea]at r;cases r;exact nu _ rfl),zo_ (λz=>by subst z;rw[hn]at r;cases r)]
  exact r
 by_cases z:a=e
 ·subst z;rw[zw_]at q;cases q;exact h2
 ·rw[zo_ z]at q
  by_cases y:a=dx
  ·subst y;rw[zw_]at q;cases q;exact h1
  ·rw[zo_ y]at q
   refine(ok a o q).stay (λb u hb r=>k b u (λx=>?_) r) (λb r=>kp b _ r (λ_ z=>by cases z)) λb xs r=>kp b _ r (λ_ z=>by cases z)
   subst x
   rcases hb with rfl|hb
   ·exact z rfl
   ·rw[ea]at hb;cases hb
end
section
variable {X:Cx}{pins:List (Addr×Obj)}{σ:L2.St}{H:Hp}{s:Shared}{e C D fI dx:Addr}{f:Str}{y:V}{u:Value}{A:Around}{E:Value->Shared->Prop}{fs:List (Str×V)}{Q:Unit->Shared->Prop}
theorem zdN_(I:Inv X pins σ H s)(ea:H e=some (.ext (XN e C none)))(c:XC X.K C D fI)(n:NoAttr X.K C f)(ry:RelV y u)
  (h:∀s' dx,H dx=none->dx≠e->Inv X pins σ (upd (upd H dx (.ext (XD dx [(f,y)]))) e (.ext (XN e C (some dx)))) s'->Q () s'):wpAny (model X.prog X.w) A (setAttr (.ref e) f u) Q E s:=by
 obtain⟨⟨oe,vs,q,q1,q2,q3,q4,q5⟩,_⟩:=I.hok e _ ea
 obtain⟨cd,k1,k2,k3⟩:=WO_ c
 refine Xh_ (bmB:=bmV) I.kIn q q1 (by unfold PySem.W.notCls;rw[q3]) q2 c.sa k1 k2 k3 n λh' dx tk hd ns he kp=>?_
 have hn:H dx=none:=I.hok.fresh hd
 have nx:dx≠e:=λz=>by subst z;rw[ea]at hn;cases hn
 have xn:XN e C (some dx) h':=⟨_,vs,he,q1,rfl,q3,q4,q5⟩
 have xd:XD dx [(f,y)] h':=by
  refine⟨_,ns,λg hg=>?_,λg=>?_⟩
  ·by_cases z:g=f
   ·subst z;exact List.mem_singleton.mpr rfl
   ·exact absurd (show(if g=f then some u else none)=none from if_neg z) hg
  ·by_cases z:g=f
   ·subst z
    rw[show List.lookup g [(g,y)]=some y by simp[List.lookup],show(if g=g then some u else none)=some u from if_pos rfl]
    exact ry
   ·rw[show List.lookup g [(f,y)]=none by simp[List.lookup,beq_eq_false_iff_ne.mpr z],show(if g=f then some u else none)=none from if_neg z]
    exact True.intro
 exact h _ dx hn nx (I.un (zdC_ ⟨_,ea⟩ hd hn ⟨_,he⟩ kp) (zdg_ I.hok ⟨_,ea⟩ hn kp xd.ok xn.ok))
theorem zdM_(I:Inv X pins σ H s)(ea:H e=some (.ext (XN e C (some dx))))(hd:H dx=some (.ext (XD dx fs)))(c:XC X.K C D fI)(n:NoAttr X.K C f)(hl:fs.length<=900)(ry:RelV y u)
  (h:∀s',Inv X pins σ (upd H dx (.ext (XD dx (putF f y fs)))) s'->Q () s'):wpAny (model X.prog X.w) A (setAttr (.ref e) f u) Q E s:=by
 obtain⟨⟨oe,vs,q,q1,q2,q3,q4,q5⟩,_⟩:=I.hok e _ ea
 obtain⟨⟨mA,na,wi,r⟩,_⟩:=I.hok dx _ hd
 obtain⟨cd,k1,k2,k3⟩:=WO_ c
 have ne:dx≠e:=λz=>by
  subst z
  obtain⟨o,es,ep,z1,z2,_⟩:=na
  rw[q]at z1;cases z1
  rw[q3]at z2;cases z2
 refine Xg_ (D:=D) I.kIn q q1 (by unfold PySem.W.notCls;rw[q3]) q2 ne na wi (by rw[zzd];omega) c.sa k1 k2 k3 n λh' tk ns kp=>?_
 have xd:XD dx (putF f y fs) h':=by
  refine⟨_,ns,λg hg=>?_,λg=>?_⟩
  ·by_cases z:g=f
   ·rw[z];exact(u5_ f y fs).1
   ·refine(u5_ f y fs).2 g (wi g λz'=>hg ?_)
    show(if g=f then some u else mA g)=none
    rw[if_neg z];exact z'
  ·show RelO ((putF f y fs).lookup g) (if g=f then some u else mA g)
   rw[yA_]
   by_cases z:g=f
   ·rw[if_pos z,if_pos z];exact ry
   ·rw[if_neg z,if_neg z];exact r g
 obtain⟨o',es',ep',z',_⟩:=id ns
 exact h _ (I.write (x:=dx) (e:=dx) (by rw[hd];exact True.intro) (.inl rfl) (λb o nb z=>kp b o nb z) ⟨o',z'⟩ xd.ok)
end
def sX1(C:Addr)(f:Str)(i:Nat):TS:=λD σ H=>∃e y,σ[0]? = some (some (.ref e))/\σ[i]? = some (some y)/\H e=some (.ext (XN e C none))/\∀dx,H dx=none->dx≠e->D.nx σ (upd (upd H dx (.ext (XD dx [(f,y)]))) e (.ext (XN e C (some dx))))
def sX2(C:Addr)(f:Str)(i:Nat):TS:=λD σ H=>∃e y dx fs,σ[0]? = some (some (.ref e))/\σ[i]? = some (some y)/\H e=some (.ext (XN e C (some dx)))/\H dx=some (.ext (XD dx fs))/\fs.length<=900/\D.nx σ (upd H dx (.ext (XD dx (putF f y fs))))
section
variable {X:Cx}{C D fI:Addr}{f:Str}{o value:Expr}{i:Nat}{pos pos':Pos}
theorem zec_(c:XC X.K C D fI)(n:NoAttr X.K C f)(ha:PE X o (tVar 0))(hv:PE X value (tVar i))(hs:swapsWith value (some (.Attribute o f pos')) pos.line X.env=pure false):PS X (.Assign [.Attribute o f pos'] value pos) (sX1 C f i):=by
 intro pins s σ H Dd I h
 obtain⟨e,y,h0,hi,he,k⟩:=h
 refine plainObj_wpAny_Assign_Attribute (thn (hv pins s σ H (λv H'=>v=y/\H'=H) I ⟨y,hi,rfl,rfl⟩) λu s1 ⟨y',H1,I1,ry,e1,e2⟩=>thn (ha pins s1 σ H1 (λv H'=>v=.ref e/\H'=H) (by rw[e2]at I1 ⊢;exact I1) ⟨_,h0,rfl,e2⟩) λov s2 ⟨x,H2,I2,rx,e3,e4⟩=>?_) hs
 subst e1 e2 e3 e4
 obtain rfl:ov=Value.ref e:=rx
 exact zdN_ I2 he c n ry λs3 dx hn ne I3=>⟨σ,_,I3,k dx hn ne⟩
theorem zeb_(c:XC X.K C D fI)(n:NoAttr X.K C f)(ha:PE X o (tVar 0))(hv:PE X value (tVar i))(hs:swapsWith value (some (.Attribute o f pos')) pos.line X.env=pure false):PS X (.Assign [.Attribute o f pos'] value pos) (sX2 C f i):=by
 intro pins s σ H Dd I h
 obtain⟨e,y,dx,fs,h0,hi,he,hd,hl,k⟩:=h
 refine plainObj_wpAny_Assign_Attribute (thn (hv pins s σ H (λv H'=>v=y/\H'=H) I ⟨y,hi,rfl,rfl⟩) λu s1 ⟨y',H1,I1,ry,e1,e2⟩=>thn (ha pins s1 σ H1 (λv H'=>v=.ref e/\H'=H) (by rw[e2]at I1 ⊢;exact I1) ⟨_,h0,rfl,e2⟩) λov s2 ⟨x,H2,I2,rx,e3,e4⟩=>?_) hs
 subst e1 e2 e3 e4
 obtain rfl:ov=Value.ref e:=rx
 exact zdM_ I2 he hd c n hl ry λs3 I3=>⟨σ,_,I3,k⟩
end
def spI(C:Addr)(fl:List Str):Sp:=λvs H Q _=>∃e args,vs=.ref e::args/\args.length=fl.length/\H e=some (.ext (XN e C none)) /\
 ((fl=[]/\Q .non H)\/(fl≠[]/\∀dx,H dx=none->dx≠e->Q .non (upd (upd H dx (.ext (XD dx (fl.zip args)))) e (.ext (XN e C (some dx))))))
section
variable {P:Program}{w:World}{K:Fg}{mg:Str->Option Value}{base:Heap}{qual:Str}{st:Stmt}{f:Addr}{fd:FuncData}{k:Nat}{C D:Addr}{f1 f2 q1 q2 self:Str}{a1 a2 a3 a4 b1 b2 b3 b4:Pos}
theorem zeq_(Fn:Fun K "__init__" qual st f fd)(Sc:FnScope [self,q1,q2] [self,q1,q2] (zd_ st))(hb:z2_ st=[.Assign [.Attribute (.Name self a1) f1 a2] (.Name q1 a3) a4,.Assign [.Attribute (.Name self b1) f2 b2] (.Name q2 b3) b4])(c:XC K C D f)(n:NoAttr K C f1)(n2:NoAttr K C f2)(ne12:f1≠f2)
  (v0:Vis (zd_ st) self:=by first|exact Or.inl rfl|exact Or.inr (Or.inl rfl)|exact Or.inr (Or.inr rfl)) (v1:Vis (zd_ st) q1:=by first|exact Or.inl rfl|exact Or.inr (Or.inl rfl)|exact Or.inr (Or.inr rfl)) (v2:Vis (zd_ st) q2:=by first|exact Or.inl rfl|exact Or.inr (Or.inl rfl)|exact Or.inr (Or.inr rfl))
  (d0:(self==("__debug__" : Str))=false:=by decide) (d1:(q1==("__debug__" : Str))=false:=by decide) (d2:(q2==("__debug__" : Str))=false:=by decide) (c0:(self==("__classdict__" : Str))=false:=by decide) (c1:(q1==("__classdict__" : Str))=false:=by decide) (c2:(q2==("__classdict__" : Str))=false:=by decide):FnOk P w K mg base (CX1 P w) (k+1) f fd [self,q1,q2] (spI C [f1,f2]):=by
 refine fn_x Fn Sc (λvs H Q E h=>?_) (λcdv A outer s H vs Q E hr h=>?_)
 ·obtain⟨e,args,rfl,hl,_⟩:=h;simp at hl ⊢;exact hl
 ·obtain⟨e,args,rfl,hl,he,h⟩:=h
  match args,hl with
  | [y,z],_ =>
   rw[hb]
   refine⟨_,Um_ (zec_ (i:=1) c n (j2_ rfl v0 d0 c0) (j2_ rfl v1 d1 c1) rfl) (Um_ (zeb_ (i:=2) c n2 (j2_ rfl v0 d0 c0) (j2_ rfl v2 d2 c2) rfl) V3_),e,y,rfl,rfl,he,λdx hn ne=>?_⟩
   rcases h with ⟨h,_⟩|⟨_,h⟩
   ·cases h
   ·refine⟨e,z,dx,[(f1,y)],rfl,rfl,zw_,by rw[zo_ ne,zw_],by simp,?_⟩
    have e1:putF f2 z [(f1,y)]=[(f1,y),(f2,z)]:=by
     show(if f1=f2 then(f1,z)::[]else(f1,y)::putF f2 z [])=_
     rw[if_neg ne12];rfl
    have e2:∀(a b:HO),upd (upd (upd H dx a) e b) dx (.ext (XD dx [(f1,y),(f2,z)]))=upd (upd H dx (.ext (XD dx [(f1,y),(f2,z)]))) e b:=λa b=>by
     funext q
     unfold upd
     by_cases q1:q=dx
     ·rw[if_pos q1]
      rw[if_neg (λz=>ne (q1▸z)),if_pos q1]
     ·rw[if_neg q1]
      by_cases q2:q=e
      ·rw[if_pos q2,if_pos q2]
      ·rw[if_neg q2,if_neg q2,if_neg q1,if_neg q1]
    rw[e1]
    show Q .non _
    rw[e2]
    exact h dx hn ne
end
section
variable {M:Model}{A:Around}{E:Value->Shared->Prop}{s:Shared}{env:Env}{K:Fg}{C D fI:Addr}
theorem YR_{x:Sem Value}{Q:Flow->Shared->Prop}(c:XC K C D fI)(hh:A.handled=none)
  (h:wpAny M A x (λv s1=>∃e oe vs,v=.ref e/\K.In s1.heap/\s1.heap.get? e=some oe/\oe.cls=.ref C/\oe.data=.fields vs/\vs[1]? = some .none/\E (.ref e) s1) E s) :
  wpAny M A (raiseStmt env (some x) none) Q E s:=by
 obtain⟨nm,q,N,bs,sn,sub,ab,col,dd,k0,k1,k2,k3,k5,lk⟩:=c.obj
 have isB:(Value.ref C::.ref D::bmV).contains (.type "BaseException")=true:=by rfl
 unfold raiseStmt
 refine zza (wpAny_mono h (λv s1 z=>?_) λ_ _ z=>z)
 obtain⟨e,oe,vs,rfl,X,he,hc,hd,h1,hE⟩:=z
 obtain⟨hp,g,d,t,os⟩:=s1
 have hC:=X _ _ lk
 repeat (first|(with_reducible refine wpAny_loadPart_at he ?_;rw[hc])|with_reducible refine wpAny_loadPart_at hC ?_|(with_reducible refine wpAny_isSubtype_exc hC ?_;rw[isB])|with_reducible refine wpAny_field he hd h1 ?_|wp_step)
 exact wpAny_raiseNew_none hh hE
end
def MadeX(H H':Hp)(e C:Addr)(fl:List Str)(vs:List V)(dd:Option Addr):Prop :=
 (fl=[]/\dd=none/\H'=upd H e (.ext (XN e C none)))\/(fl≠[]/\∃dx,dd=some dx/\H dx=none/\dx≠e/\H'=upd (upd (upd H e (.ext (XN e C none))) dx (.ext (XD dx (fl.zip vs)))) e (.ext (XN e C (some dx))))
section
variable {X:Cx}{pins:List (Addr×Obj)}{σ:L2.St}{H:Hp}{s:Shared}{C D fI:Addr}{fd:FuncData}{ps fl:List Str}{k:Nat}{us:List Value}{vs:List V}{Q:Value->Shared->Prop}{E:Value->Shared->Prop}
theorem XI_(I:Inv X pins σ H s):Inv X pins σ (upd H (s.heap.objs.size+1) (.ext (XN (s.heap.objs.size+1) C none))) { s with heap:=newX s.heap C us }:=by
 have I1:=I.kept (h':=s.heap.push { cls:=.type "tuple",data:=.seq us.toArray }) (t':=s.toks) λb u q=>zzc _ q
 refine I1.laid (a:=s.heap.objs.size+1) (t':=s.toks) (h':=newX s.heap C us) (λb u q=>zzc _ q) (Nat.le_of_eq (Heap.size_push _ _)) ?_
 exact XN.ok ⟨_,_,Wn_,rfl,rfl,rfl,(show 1<6 from by decide),rfl⟩
theorem VR_(c:XC X.K C D fI)(Fn:FnOk X.prog X.w X.K X.mg X.base (CX1 X.prog X.w) k fI fd ps (spI C fl))(hr:Room (k+1) X.A)(hb:L2.Binds X.K fd ps [])(I:Inv X pins σ H s)(r:Vals vs us)(hl:vs.length=fl.length)(hz:us.length<=sizeLine)
  (h:∀e dd H' s',s.heap.objs.size<=e->Inv X pins σ H' s'->MadeX H H' e C fl vs dd->H' e=some (.ext (XN e C dd))->Q (.ref e) s'):wpAny (model X.prog X.w) X.A (call (.ref C) us) Q E s:=by
 have I2:=XI_ (C:=C) (us:=us) I
 have hn:H (s.heap.objs.size+1)=none:=I.hok.fresh (Nat.le_succ _)
 obtain⟨hp,g,d,t,os⟩:=s
 have sp:∀E',spI C fl (V.ref (hp.objs.size+1)::vs) (upd H (hp.objs.size+1) (.ext (XN (hp.objs.size+1) C none))) (λv H'=>v=.non/\∃dd,MadeX H H' (hp.objs.size+1) C fl vs dd/\H' (hp.objs.size+1)=some (.ext (XN (hp.objs.size+1) C dd))) E':=by
  intro E'
  refine⟨_,vs,rfl,hl,zw_,?_⟩
  by_cases z:fl=[]
  ·exact .inl ⟨z,rfl,none,.inl ⟨z,rfl,rfl⟩,zw_⟩
  ·exact .inr ⟨z,λdx q ne=>⟨rfl,some dx,.inr ⟨z,dx,rfl,by rw[zo_ ne]at q;exact q,ne,rfl⟩,zw_⟩⟩
 have r2:Vals (V.ref (hp.objs.size+1)::vs) (Value.ref (hp.objs.size+1)::us):=.cons rfl r
 have hl2:((Value.ref (hp.objs.size+1)::us)++[]).length=ps.length:=by
  have e:=r2.length
  rw[Fn.len _ _ _ _ (sp λ_ _ _=>False)]at e
  rw[List.append_nil]
  exact e.symm
 refine call_exc I.kIn c hz (wpAny_call (codeAny_mono (Fn.run _ X.stack _ _ ⟨Value.ref (hp.objs.size+1)::us,[]⟩ (Value.ref (hp.objs.size+1)::us) _ _ (λ_ _ _=>False) (hr.make C us []) (I2.env0.make C us []) (by
  have:=hb _ (Value.ref (hp.objs.size+1)::us) I2.kIn hl2
  rw[List.append_nil]at this
  exact this) r2 (sp _)) λr s' q=>?_))
 cases r with
 | error e=>obtain⟨_,_,_,_,_,_,_,_,_,_,z⟩:=q;exact z.elim
 | ok fl' =>
  cases fl' with
  | ret u =>
   obtain⟨v,H',I3,rv,ev,dd,mk,he⟩:=I2.after q
   subst ev
   exact⟨rv,h _ dd H' s' (Nat.le_succ _) I3 mk he⟩
  | next=>exact False.elim q
  | brk=>exact False.elim q
  | cont=>exact False.elim q
end
structure CCl(P:Program)(w:World)(K:Fg)(mg:Str->Option Value)(base:Heap)(x:Str)(k:Nat)(fl:List Str):Prop where
 ex:∃C D fI fd ps,XC K C D fI/\FnOk P w K mg base (CX1 P w) k fI fd ps (spI C fl)/\L2.Binds K fd ps []/\mg x=some (.ref C)/\XQ K C x/\PySem.W.keepIn K (.ref C)=true/\(∀f∈fl,NoAttr K C f)/\PySem.W.exmOne K (.ref C) (.ref C)=some true
noncomputable def zbT_{S:Type}(x:Str)(fl:List Str)(ms:Ev S (List D)):SM S:=λK ρ=>ms K.x (λds ρ1=>K.x ⟨x,fl.zip ds⟩ ρ1) ρ
theorem zax_{K:Fg}{F:Hp}:∀{fl:List Str} {vs:List V} {ds:List D},RepL K F vs ds->fl.length=vs.length->Paired (λ(p:Str×V) (q:Str×D)=>p.1=q.1/\Rep K F p.2 q.2) (fl.zip vs) (fl.zip ds)
:=by
 intro fl vs ds r h
 induction vs generalizing fl ds with
 | nil=>cases r;rw[List.zip_nil_right,List.zip_nil_right];exact .nil
 | cons v vs ih=>cases r with
  | cons a b=>cases fl with
   | nil=>cases h
   | cons f fl=>exact .cons ⟨rfl,a⟩ (ih b (Nat.succ.inj h))
section
variable {X:Cx}{pins:List (Addr×Obj)}{σ:L2.St}{H H':Hp}{s:Shared}{e C:Addr}{dd:Option Addr}{fl:List Str}{vs:List V}{ds:List D}{G:Gh}{F:Hp}{ρ:En}{x:Str}
theorem Xo_(I:Inv X pins σ H' s)(hs:X.s₀.heap.objs.size<=e)(hn:H e=none)(mk:MadeX H H' e C fl vs dd)(he:H' e=some (.ext (XN e C dd)))(St:StOk X.K G F σ H ρ)(r:RepL X.K F vs ds)(hl:fl.length=vs.length)
  (hc:XQ X.K C x) (xw:XW X G F ρ ⟨x,fl.zip ds⟩):X.xe (.ref e) s:=by
 obtain⟨⟨oe,ws,q1,q2,q3,q4,q5,q6⟩,_⟩:=I.hok e _ he
 have I2:Inv X pins σ (upd H' e (.ext (XO e C dd))) s:=by
  have:=I.write (x:=e) (e:=e) (o:=.ext (XO e C dd)) (h':=s.heap) (t':=s.toks) (by rw[he];exact True.intro) (.inl rfl) (λb u _ z=>z) ⟨_,q1⟩ (XO.ok ⟨oe,q1,q2,q3,by unfold PySem.W.notCls;rw[q4]⟩)
  exact this
 have low:∀b u,b≠e->H b=some u->upd H' e (.ext (XO e C dd)) b=some u:=λb u ne z=>by
  rw[zo_ ne]
  rcases mk with ⟨_,_,rfl⟩|⟨_,dx,_,hd,_,rfl⟩
  ·rw[zo_ ne];exact z
  ·rw[zo_ ne,zo_ (λy=>by subst y;rw[hd]at z;cases z),zo_ ne];exact z
 have ne:∀b u,H b=some u->b≠e:=λb u z y=>by subst y;rw[hn]at z;cases z
 have xs:XS (upd H' e (.ext (XO e C dd))) s.heap X.s₀.heap.objs.size e C dd:=⟨hs,zw_,oe,ws,q1,q2,q3,q4,q5,.inl q6⟩
 have nt:∀b,¬ TbOf s.heap e b:=λb ⟨oe',vs',z1,z2,z3⟩=>by
  rw[q1]at z1;cases z1
  rw[q4]at z2;cases z2
  rw[q6]at z3;cases z3
 have fh0:Same F (upd H' e (.ext (XO e C dd))):=λb u z=>low b u (ne b u (St.fh b u z)) (St.fh b u z)
 have oh0:Same G.O (upd H' e (.ext (XO e C dd))):=λb u z=>low b u (ne b u (St.oh b u z)) (St.oh b u z)
 rcases mk with ⟨z,rfl,_⟩|⟨z,dx,rfl,hd,nx,rfl⟩
 ·subst z
  refine xw F _ s e C none pins σ ⟨fh0,oh0,St.fo,St.fb⟩ (St.fzok (Same.refl _)) I2 xs (λp _=>nt p.1) ⟨hc,[],.inl ⟨rfl,rfl⟩,.nil⟩
 ·have fd:F dx=none:=St.fh.free hd
  have od:G.O dx=none:=St.oh.free hd
  have sm:Same F (upd F dx (.ext (XD dx (fl.zip vs)))):=yd_ fd
  refine xw (upd F dx (.ext (XD dx (fl.zip vs)))) _ s e C (some dx) pins σ ⟨λb u z=>?_,oh0,λb u z=>?_,St.fb.trans sm⟩ (St.fzok sm) I2 xs (λp _=>nt p.1) ⟨hc,_,.inr ⟨dx,rfl,zw_⟩,zax_ (r.mono sm) hl⟩
  ·by_cases y:b=dx
   ·subst y
    rw[zw_]at z
    cases z
    rw[zo_ nx,zo_ nx,zw_]
   ·rw[zo_ y]at z
    exact fh0 b u z
  ·rw[zo_ (zB_ z od)]
   exact St.fo b u z
end
section
variable {S:Type}{X:Cx}{k:Nat}{x:Str}{fl:List Str}{p cpos pos:Pos}{e:Expr}{es:List Expr}{ms:Ev S (List D)}
theorem XU_(C:CCl X.prog X.w X.K X.mg X.base x k fl)(hr:Room (k+1) X.A)(hg:Gl X x)(ha:AEa X (e::es) ms)(hn:(e::es).length=fl.length)(hz:fl.length<=1000)
  (hdb:(x==("__debug__" : Str))=false) (he:starEach (e::es) X.env=(false,eval e X.env)::starEach es X.env) (hpl:(backTo cpos (starEach es X.env)).any (·.1)=false) :
  AS X (.Raise (some (.Call (.Name x p) (e::es) [] cpos)) none pos) (zbT_ x fl ms):=by
 obtain⟨Cl,D,fI,fd,ps,c,Fn,hb,hm,hc,kp,_⟩:=C.ex
 intro OK K G F σ H ρ E hO hX St ok eo
 unfold UP_
 intro pins s I
 rw[arm_exec_Raise]
 refine zza (wpAny_standAt (YR_ c hr.hd ?_))
 refine zza (wpAny_mono (wpAny_Call_Name_kw (Uy_ I hg hm (PySem.W.callWith_K (h₀:=X.base) I.ok.mod.kin kp (Q:=λv s1=>∃e oe vs,v=.ref e/\X.K.In s1.heap/\s1.heap.get? e=some oe/\oe.cls=.ref Cl/\oe.data=.fields vs/\vs[1]? = some .none/\X.xe (.ref e) s1) ?_ he hpl) hdb)) (λv s3 z=>zza (wpAny_standAt (zzb z))) λ_ _ z=>z)
 have ar:uR_ X (e::es) σ H λvs H1=>∃F1 ρ1 ds,StOk X.K G F1 σ H1 ρ1/\vs.length=(e::es).length/\RepL X.K F1 vs ds/\OK (K.x ⟨x,fl.zip ds⟩ ρ1) :=
  ha OK K.x _ G F σ H ρ _ hO hX St ok λds vs F1 H1 ρ1 s1 S1 hl r1 o1=>⟨F1,ρ1,ds,S1,hl,r1,o1⟩
 unfold uR_ at ar
 refine thn (ar cpos pins s I) λus s1 h0=>?_
 obtain⟨vs,H1,I1,rv,F1,ρ1,ds,S1,hl,r1,o1⟩:=h0
 refine⟨I1.kIn,?_⟩
 have hlv:vs.length=fl.length:=hl.trans hn
 refine VR_ (vs:=vs) c Fn hr hb I1 rv hlv (by rw[List.nil_append,<-rv.length,hlv];exact Yj_ hz) λa dd H2 s2 hs I2 mk hh=>?_
 obtain⟨⟨oe,ws,q1,q2,q3,q4,q5,q6⟩,_⟩:=I2.hok a _ hh
 exact⟨a,oe,ws,rfl,I2.kIn,q1,q2,q4,q6,Xo_ I2 (Nat.le_trans I1.sz hs) (I1.hok.fresh hs) mk hh S1 r1 hlv.symm hc (hX F1 ρ1 _ o1)⟩
end
theorem av{X:Cx}(i:Nat){x:Str}{pos:Pos}(hN:X.N[i]? = some x:=by rfl)(hv:Vis X.env.scope x:=by first|exact Or.inl rfl|exact Or.inr (Or.inl rfl)|exact Or.inr (Or.inr rfl))
  (hd:(x==("__debug__" : Str))=false:=by decide) (hcd:(x==("__classdict__" : Str))=false:=by decide):AP X (.Name x pos) (pVar i):=zdu_ hN hv hd hcd
inductive Ty where
 | tup|lst|str
noncomputable def Ty.s:Ty->String
 | .tup => "tuple"
 | .lst => "list"
 | .str => "str"
noncomputable def onT{S:Type}(t:Ty)(d:D)(m:M S):M S:=match t,d with
 | .tup,.tuple _=>m
 | .lst,.list _=>m
 | .str,.str _=>m
 | _,_=>.bad
def tyW(K:Fg)(T:String)(x:V)(H:Hp):Prop:=tyV K T x H\/(T = "tuple" /\ ∃p xs,x=.ref p/\H p=some (.tup xs))
theorem zbM_{X:Cx}{pins:List (Addr×Obj)}{σ:L2.St}{H:Hp}{s:Shared}{T:String}{x:V}{v:Value}(I:Inv X pins σ H s)(r:RelV x v)(ty:tyW X.K T x H) :
  s.TypeIs v T/\∀a,v=.ref a->∃ob,s.heap.get? a=some ob/\ob.dict=none:=by
 rcases ty with ty|⟨rfl,p,xs,rfl,h⟩
 ·exact X1_ I r ty
 ·cases r
  obtain⟨_,its,_,⟨o,e,c,_⟩,ob,e2,d⟩:=I.hok p _ h
  refine⟨⟨o,e,c⟩,λa q=>?_⟩
  cases q
  exact⟨ob,e2,d⟩
def zca_(K:Fg)(f:D->List D->Option D):V->List V->Hp->VK->Prop:=λx xs H Q=>∃G F σ ρ d ds res,StOk K G F σ H ρ/\OR K F H x d/\RepL K F xs ds/\f d ds=some res /\
 ∀y F' H',Same F F'->StOk K G F' σ H' ρ->Rep K F' y res->Q y H'
def X3_(K:Fg)(f:D->List D->Option (List D)):V->List V->Hp->VK->Prop:=λx xs H Q=>∃G F σ ρ d ds res,StOk K G F σ H ρ/\OR K F H x d/\RepL K F xs ds/\f d ds=some res /\
 ∀y F' H',Same F F'->StOk K G F' σ H' ρ->Frs K G F' σ H' ρ y (.l res)->Q y H'
noncomputable def tMt(K:Fg)(T:String)(r:V->List V->Hp->VK->Prop)(to:TE)(t:TA):TE:=λσ H Q=>to σ H λx H1=>tyW K T x H1/\t σ H1 λxs H2=>r x xs H2 Q
section
variable {X:Cx}{o e:Expr}{es:List Expr}{to:TE}{t:TA}{name:Str}{apos cpos:Pos}{T id:String}{r:V->List V->Hp->VK->Prop}
theorem Wa_(pa:PlainAttrs T)(slot:Slot T name id)(hty:typeOf (.builtin id)=pure (.type "method_descriptor"))(hm:MtR X id r)(ho:PE X o to)(ha:PA X (e::es) t)
  (hbase:attributeBase o name X.env (eval o X.env)=eval o X.env)
  (hfew:((backTo cpos (starEach (e::es) X.env)).all (λx=>!x.1)&&(backToKw cpos (keywordEach [] X.env)).all (λx=>x.1.isSome)
   && decide ((e::es).length+([]:List Keyword).length+(if([]:List Keyword).isEmpty then 0 else 1)<30))=true)
  (hline:(apos.endLine==cpos.line)=true) (hs:starEach (e::es) X.env=(false,eval e X.env)::starEach es X.env) (hplain:(backTo cpos (starEach es X.env)).any (·.1)=false) :
  PE X (.Call (.Attribute o name apos) (e::es) [] cpos) (tMt X.K T r to t):=by
 intro pins s σ H Q I h
 refine wpAny_Call_method_late hbase hfew hline rfl (thn (ho pins s σ H _ I h) λv s1 ⟨x,H1,I1,r1,ty,q1⟩=>?_)
 obtain⟨h1,h2⟩:=zbM_ I1 r1 ty
 refine⟨T,id,pa,slot,hty,h1,h2,?_⟩
 have hA:=ha cpos pins s1 σ H1 _ I1 q1
 rw[hs]at hA ⊢
 refine Calls.callWith_builtin (by show(false||(backTo cpos (starEach es X.env)).any (·.1))=false;rw[hplain]<;>rfl) (Calls.evalArgs_plain ?_)
 exact thn hA λus s2 ⟨vs,H2,I2,r2,q2⟩=>hm pins s2 σ H2 x vs v us Q I2 r1 r2 q2
end
def zei_(t:Ty)(f:D->List D->Option D)(po:Pu D)(ps:Pa D):Pu D:=λρ=>bd (po ρ) λd=>onT t d (ps (λds=>oM (f d ds)) ρ)
def zcw_(t:Ty)(f:D->List D->Option (List D))(po:Pu D)(ps:Pa (List D)):Pu (List D):=λρ=>bd (po ρ) λd=>onT t d (ps (λds=>oM (f d ds)) ρ)
theorem zad_{α:Type}{X:Cx}{G:Gh}{F H:Hp}{σ:L2.St}{ρ:En}{t:Ty}{d:D}{m:M α}{C:α->Hp->Hp->Prop}{v:V}(S:StOk X.K G F σ H ρ)(hv:VO X.K F σ ρ v d)(w:W X G F σ ρ (onT t d m) C) :
  tyW X.K t.s v H/\W X G F σ ρ m C:=by
 have o:=hv.or S
 cases t with
 | tup =>
  cases d with
  | tuple ds =>
   have r:=o.tup'
   cases r with
   | tup h1 h2=>exact⟨.inr ⟨rfl,_,_,rfl,S.fh _ _ h1⟩,w⟩
  | _=>exact False.elim w
 | lst =>
  cases d with
  | list ds =>
   obtain⟨a,vs,rfl,h1,h2⟩:=o.list S.fh
   exact⟨.inl (.inl ⟨rfl,_,h1⟩),w⟩
  | _=>exact False.elim w
 | str =>
  cases d with
  | str ds =>
   rw[o.str]
   exact⟨.inl rfl,w⟩
  | _=>exact False.elim w
section
variable {X:Cx}{o e:Expr}{es:List Expr}{name:Str}{apos cpos:Pos}{id:String}{po:Pu D}{ps:Pa D}{pl:Pa (List D)}{ty:Ty}
theorem yE_{f:D->List D->Option D}(pa:PlainAttrs ty.s)(slot:Slot ty.s name id)(hty:typeOf (.builtin id)=pure (.type "method_descriptor"))(hm:MtR X id (zca_ X.K f))(ho:AO X o po)(ha:AA X (e::es) ps)
  (hbase:attributeBase o name X.env (eval o X.env)=eval o X.env)
  (hfew:((backTo cpos (starEach (e::es) X.env)).all (λx=>!x.1)&&(backToKw cpos (keywordEach [] X.env)).all (λx=>x.1.isSome)
   && decide ((e::es).length+([]:List Keyword).length+(if([]:List Keyword).isEmpty then 0 else 1)<30))=true)
  (hline:(apos.endLine==cpos.line)=true) (hs:starEach (e::es) X.env=(false,eval e X.env)::starEach es X.env) (hplain:(backTo cpos (starEach es X.env)).any (·.1)=false) :
  AP X (.Call (.Attribute o name apos) (e::es) [] cpos) (zei_ ty f po ps) :=
 λG F σ H ρ Q S w=>sem (Wa_ pa slot hty hm zm_ jW_ hbase hfew hline hs hplain) (ho G F σ H ρ _ S (w.bind.imp λd F1 H1 s1 S1 w1 v hv=>by
  obtain⟨ht,w2⟩:=zad_ S1 hv w1
  refine⟨ht,ha G F1 σ H1 ρ _ _ _ S1 w2 λds vs F2 H2 s2 S2 _ r2 w3=>?_⟩
  obtain⟨res,e,k⟩:=w3.opt
  exact⟨G,F2,σ,ρ,d,ds,res,S2,(hv.mono s2).or S2,r2,e,λy F3 H3 s3 S3 r3=>k F3 H3 s3 S3 y r3⟩))
theorem W2_{f:D->List D->Option (List D)}(pa:PlainAttrs ty.s)(slot:Slot ty.s name id)(hty:typeOf (.builtin id)=pure (.type "method_descriptor"))(hm:MtR X id (X3_ X.K f))(ho:AO X o po)(ha:AA X (e::es) pl)
  (hbase:attributeBase o name X.env (eval o X.env)=eval o X.env)
  (hfew:((backTo cpos (starEach (e::es) X.env)).all (λx=>!x.1)&&(backToKw cpos (keywordEach [] X.env)).all (λx=>x.1.isSome)
   && decide ((e::es).length+([]:List Keyword).length+(if([]:List Keyword).isEmpty then 0 else 1)<30))=true)
  (hline:(apos.endLine==cpos.line)=true) (hs:starEach (e::es) X.env=(false,eval e X.env)::starEach es X.env) (hplain:(backTo cpos (starEach es X.env)).any (·.1)=false) :
  AL X (.Call (.Attribute o name apos) (e::es) [] cpos) (zcw_ ty f po pl) :=
 λG F σ H ρ Q S w=>sem (Wa_ pa slot hty hm zm_ jW_ hbase hfew hline hs hplain) (ho G F σ H ρ _ S (w.bind.imp λd F1 H1 s1 S1 w1 v hv=>by
  obtain⟨ht,w2⟩:=zad_ S1 hv w1
  refine⟨ht,ha G F1 σ H1 ρ _ _ _ S1 w2 λds vs F2 H2 s2 S2 _ r2 w3=>?_⟩
  obtain⟨res,e,k⟩:=w3.opt
  exact⟨G,F2,σ,ρ,d,ds,res,S2,(hv.mono s2).or S2,r2,e,λy F3 H3 s3 S3 r3=>k F3 H3 s3 S3 y r3⟩))
end
noncomputable def Itc(x:Str):It:=⟨λi _=>i<x.cps.size,λi H v H'=>H'=H/\∃c,x.cps[i]? = some c/\v=.str ⟨#[c]⟩,λi _=>x.cps.size<=i⟩
theorem W9_{P:Program}{w:World}{K:Fg}{tg:Expr}(it:Addr)(ty:String)(hty:ty = "str_ascii_iterator" \/ ty = "str_iterator")(x:Str)(t:Tok):Turn P w K tg (Itc x) [it] it (λi h=>h.IsStrIter it ty x t i) where
 mem:=by simp
 obj:=λi h st b hb=>by
  have e:b=it:=by simpa using hb
  subst e
  obtain⟨o,e,c,d⟩:=st
  exact⟨o,e,λv z=>by rw[d]at z;cases z⟩
 keep:=λi h h' st k=>by
  obtain⟨o,e,r⟩:=st
  exact⟨o,k it (by simp) o e,r⟩
 item:=by
  intro X hP hw hK hc i pins s σ H E I hf st hg
  subst hP hw hK
  obtain⟨f0,f1,f2,f3,f4,f5⟩:=hf it (by simp)
  have go:∀(W:Walks X.prog X.w X.A it [it] [it] x.cps.size (SignAt x) (λi h=>h.IsStrIter it ty x t i)),(∀o:Obj,o.cls=.type ty->True)->wpAny (model X.prog X.w) X.A (pyNext (.ref it)) (λr s1=>∃u,r=some u /\
   wpAny (model X.prog X.w) X.A (letOwnedTupleGo tg (.ref it) u) (λ_ s2=>∃y H',Inv X pins σ H' s2/\RelV y u/\(Itc x).yld i H y H'/\s2.heap.IsStrIter it ty x t (i+1)/\∀b∈[it],H' b=none) E s1) E s:=λW _=>by
   refine W.item i s _ _ hg st λv h' tk hv st' kk=>?_
   obtain⟨c,u,hc',rfl⟩:=hv
   have I1:Inv X pins σ H { s with heap:=h',toks:=tk }:=I.turned (λb o hb e=>kk b o (by simpa using hb) e) f0 f1 f3 f4 f5
   obtain⟨o,e,cl,d⟩:=id st'
   refine⟨_,rfl,XK_ (s:={ s with heap:=h',toks:=tk }) (n:=ty) e cl d ?_ ⟨.str ⟨#[c]⟩,H,I1,⟨u,rfl⟩,⟨rfl,c,hc',rfl⟩,st',λb hb=>(hf b hb).1⟩⟩
   rcases hty with rfl|rfl<;>decide
  rcases hty with rfl|rfl
  ·exact go (Walks.strAscii (I.ok.hd hc) it x t) λ_ _=>trivial
  ·exact go (Walks.strWide (I.ok.hd hc) it x t) λ_ _=>trivial
 done:=by
  intro X hP hw hK hc i pins s σ H E I hf st hg
  subst hP hw hK
  obtain⟨f0,f1,f2,f3,f4,f5⟩:=hf it (by simp)
  have hx:x.cps[i]? = none:=by
   have:x.cps.size<=i:=hg
   simp;omega
  rcases hty with rfl|rfl
  ·exact wpAny_pyNext_ascii_end (I.ok.hd hc) st hx λh' eb=>⟨rfl,I.turned (t':=s.toks) (λb o hb e=>eb b o hb e) f0 f1 f3 f4 f5⟩
  ·exact wpAny_pyNext_wide_end (I.ok.hd hc) st hx λh' eb=>⟨rfl,I.turned (t':=s.toks) (λb o hb e=>eb b o hb e) f0 f1 f3 f4 f5⟩
 self:=λ_ _ _ _ _ st h=>by
  rcases hty with rfl|rfl
  ·exact wpAny_pyIter_striter_ascii st h
  ·exact wpAny_pyIter_striter_wide st h
noncomputable def Yx_(x:Str):List D:=x.cps.toList.map λc=>.str ⟨#[c]⟩
theorem W8_{K:Fg}{F:Hp}(x:Str):Walk K (Itc x) (Yx_ x) F where
 go:=λi G F2 σ H2 ρ s S hi=>by
  unfold Yx_ at hi
  rw[zzd,Array.length_toList]at hi
  exact hi
 yld:=λi G F2 σ H2 ρ y H3 d s S hd ⟨e,c,hc,q⟩=>by
  subst e q
  unfold Yx_ at hd
  rw[List.getElem?_map,Array.getElem?_toList,hc]at hd
  cases hd
  exact⟨F2,Same.refl _,S,.str _⟩
 stop:=λG F2 σ H2 ρ s S=>by
  unfold Yx_
  rw[zzd,Array.length_toList]
  exact Nat.le_refl _
def seqS:D->Option (List D)
 | .str x=>some (Yx_ x)
 | d=>seqD d
def pItS(p:Pu D):Pu (List D):=λρ=>bd (p ρ) λd=>oM (seqS d)
def zeu_(K:Fg)(tl:TE):TI:=λσ H R=>tl σ H λx H1=>((∃a,x=.ref a/\(∃xs,SqL K H1 a xs)/\R (Itl K a) H1)\/∃a,x=.ref a/\(∃xs,SqT K H1 a xs)/\R (Itt K a) H1)\/∃y,x=.str y/\R (Itc y) H1
theorem zaV_{X:Cx}{tg l:Expr}{tl:TE}(hl:PE X l tl):PI X tg l (zeu_ X.K tl):=by
 intro pins s σ H R I h
 refine thn (hl pins s σ H _ I h) λv s1 ⟨x,H1,I1,r1,q1⟩=>?_
 rcases q1 with (⟨a,e,⟨xs,hq⟩,q⟩|⟨a,e,⟨xs,hq⟩,q⟩)|⟨x,e,q⟩
 ·subst e
  cases r1
  obtain⟨its,rv,p,hz⟩:=I1.list hq
  refine wpAny_pyIter_list p.isList ?_
  refine⟨s1.heap.objs.size,[s1.heap.objs.size],_,_,H1,rfl,I1.kept (t':=s1.toks) λb o e=>zzc _ e,VG_ a _,⟨_,zze _ rfl,rfl,rfl⟩,λb hb=>?_,q⟩
  have e:b=s1.heap.objs.size:=by simpa using hb
  subst e
  exact I1.fpOk (Nat.le_refl _) (I1.hok.fresh (Nat.le_refl _))
 ·subst e
  cases r1
  obtain⟨its,rv,p,hz⟩:=I1.tuple hq
  refine wpAny_pyIter_tuple (show s1.heap.IsTuple a its.toArray from p) ?_
  refine⟨s1.heap.objs.size,[s1.heap.objs.size],_,_,H1,rfl,I1.kept (t':=s1.toks) λb o e=>zzc _ e,QZ_ a _,⟨_,zze _ rfl,rfl,rfl⟩,λb hb=>?_,q⟩
  have e:b=s1.heap.objs.size:=by simpa using hb
  subst e
  exact I1.fpOk (Nat.le_refl _) (I1.hok.fresh (Nat.le_refl _))
 ·subst e
  obtain⟨t,rfl⟩:=r1
  have fin:∀(ty:String) (hty:ty = "str_ascii_iterator" \/ ty = "str_iterator") (o:Obj),o.isFreed=false->o.cls=.type ty->o.data=.fields #[.str x t,.int 0 0]->PIE X pins σ tg R (.ref s1.heap.objs.size) { s1 with heap:=s1.heap.push o }:=λty hty o hfr c d=>by
   refine⟨s1.heap.objs.size,[s1.heap.objs.size],_,_,H1,rfl,I1.kept (t':=s1.toks) λb o e=>zzc _ e,W9_ _ ty hty x t,⟨_,zze _ hfr,c,d⟩,λb hb=>?_,q⟩
   have e:b=s1.heap.objs.size:=by simpa using hb
   subst e
   exact I1.fpOk (Nat.le_refl _) (I1.hok.fresh (Nat.le_refl _))
  cases ha:x.cps.all (· < 128)
  ·exact wpAny_pyIter_wide ha (fin _ (.inr rfl) _ rfl rfl rfl)
  ·exact wpAny_pyIter_ascii ha (fin _ (.inl rfl) _ rfl rfl rfl)
theorem VP_{X:Cx}{F H:Hp}{v:V}{d:D}{ds:List D}{R:It->Hp->Prop}(s:Same F H)(r:Rep X.K F v d)(hd:seqS d=some ds)(k:∀J,Walk X.K J ds F->R J H) :
  ((∃a,v=.ref a/\(∃xs,SqL X.K H a xs)/\R (Itl X.K a) H)\/∃a,v=.ref a/\(∃xs,SqT X.K H a xs)/\R (Itt X.K a) H)\/∃y,v=.str y/\R (Itc y) H:=by
 cases d with
 | str x =>
  cases hd
  cases r
  exact .inr ⟨x,rfl,k _ (W8_ x)⟩
 | _=>exact .inl (Xi_ s r hd k)
theorem um_{X:Cx}{tg e:Expr}{pp:Pu D}(h:AP X e pp):AI X tg e (pItS pp):=λG F σ H ρ R S w=>semI (zaV_ zm_) (h G F σ H ρ _ S (w.bind.imp λd F1 H1 s1 S1 w1 v r1=>by
 obtain⟨ds,hd,k⟩:=w1.opt
 exact VP_ S1.fh r1 hd (k F1 H1 (Same.refl _) S1)))
noncomputable def zbv_:List D->Option D
 | [.str x]=>if decide (x.length<=640)then(PySem.intText? x).map PyData.int else none
 | l=>fInt l
def zcb_:List V->Hp->VK->Prop:=λxs H Q=>((∃i,xs=[.int i]/\Q (.int i) H)\/∃k,xs=[.bl k]/\Q (.int (if k then 1 else 0)) H)\/∃x n,xs=[.str x]/\x.length<=640/\PySem.intText? x=some n/\Q (.int n) H
theorem WS_{X:Cx}:CallR X (.type "int") zcb_:=by
 intro pins s σ H xs us Q I r h0
 rcases h0 with h0|⟨x,n,rfl,hl,hn,q⟩
 ·exact WT_ pins s σ H xs us Q I r h0
 ·obtain⟨u,rfl,ru⟩:=L2.Vals.one r
  obtain⟨t,rfl⟩:=ru
  exact PySem.W.KIN.call_text hn hl ⟨.int n,H,I.tok _,⟨_,rfl⟩,q⟩
theorem zbg_{K:Fg}:JG_ K zcb_ zbv_:=by
 intro G F σ H ρ xs ds res Q S o e k
 by_cases hd:∃x,ds=[.str x]
 ·obtain⟨x,rfl⟩:=hd
  have e':(if decide (x.length<=640)=true then(PySem.intText? x).map PyData.int else none)=some res:=e
  split at e'
  ·rename_i hl
   rw[zzi]at hl
   cases hn:PySem.intText? x with
   | none=>rw[hn]at e';cases e'
   | some n =>
    rw[hn]at e'
    cases e'
    obtain⟨v,r,rfl,ho,hr⟩:=z3_ o
    obtain rfl:=jG_ hr
    exact .inr ⟨x,n,by rw[ho.str],hl,hn,k _ F H (Same.refl _) S (.int _)⟩
  ·cases e'
 ·have e':fInt ds=some res:=by
   rw[<-e]
   unfold zbv_
   split
   ·rename_i x;exact absurd ⟨x,rfl⟩ hd
   ·rfl
  exact .inl (zcL_ G F σ H ρ xs ds res Q S o e' k)
theorem UN_:∀l:List (Str×Tok),Vals ((l.map (·.1)).map V.str) (strValues l)
 | []=>.nil
 | (x,t)::l=>.cons ⟨t,rfl⟩ (UN_ l)
theorem Qr_{K:Fg}{F:Hp}:∀l:List Str,RepL K F (l.map V.str) (l.map PyData.str)
 | []=>.nil
 | x::l=>.cons (.str x) (Qr_ l)
section
open Builtin Builtin.Str
theorem Xd_{prog:Program}{w:World}{A:Around}{E:Value->Shared->Prop}{s:Shared}{x y:Str}{t u:Tok}{Q:Value->Shared->Prop}(hy:(y.length==0)=false)
  (hq:∀(l:List (Str×Tok)) (k:Nat),l.map (·.1)=Txt.split x y->Q (.ref s.heap.objs.size) { s with toks:=k,heap:=s.heap.push { cls:=.type "list",data:=.seq (strValues l).toArray } })
  (hsz:x.length<=sizeLine) (hsz2:(partsBetween x (occurrences x y 0 x.length (x.length+1)) y.length).length<=sizeLine) :
  wpAny (model prog w) A (call (.builtin "str.split") [.str x t,.str y u]) Q E s:=by
 cases h1:(decide (x.length<y.length)||decide (strKind x<strKind y))
 ·cases hf:(occurrences x y 0 x.length (x.length+1)).isEmpty
  ·refine call_meets F.slot_str_split (typeIs_str _ _ _) F.entry_str_split (F.args_str_split_2 _ _) (meets_str_split_sep x y t u h1 hy hf hsz hsz2) ?_
   show wants Q E _ { s with toks:=_,heap:=s.heap.push { cls:=.type "list",data:=.seq (strsFrom s.toks (partsBetween x (occurrences x y 0 x.length (x.length+1)) y.length)).toArray } }
   rw[strsFrom_eq]
   exact hq (numbered s.toks _) _ ((numbered_texts _ _).trans ((if_neg (ne_true_of_eq_false h1)).trans (if_neg (ne_true_of_eq_false hf))).symm)
  ·exact call_meets F.slot_str_split (typeIs_str _ _ _) F.entry_str_split (F.args_str_split_2 _ _) (meets_str_split_not_found x y t u h1 hy hf)
    (hq [(x,t)] s.toks ((if_neg (ne_true_of_eq_false h1)).trans (if_pos hf)).symm)
 ·exact call_meets F.slot_str_split (typeIs_str _ _ _) F.entry_str_split (F.args_str_split_2 _ _) (meets_str_split_cannot_occur x y t u h1)
   (hq [(x,t)] s.toks (if_pos h1).symm)
noncomputable def Ue_(x y:Str):Bool:=!(y.length==0)&&decide (x.length<=sizeLine)&&decide ((partsBetween x (occurrences x y 0 x.length (x.length+1)) y.length).length<=sizeLine)&&decide ((Txt.split x y).length<=sizeLine)
end
def Ys_:D->List D->Option (List D)
 | .str x,[.str y]=>if Ue_ x y then some ((Txt.split x y).map PyData.str)else none
 | _,_=>none
theorem QB_{X:Cx}:MtR X "str.split" (X3_ X.K Ys_):=by
 intro pins s σ H x xs v us Q I rx rxs ⟨G,F,σ',ρ,d,ds,res,S,ho,hr,e,k⟩
 unfold Ys_ at e
 split at e
 case h_2=>cases e
 rename_i z y
 split at e
 case isFalse=>cases e
 rename_i hc
 cases e
 unfold Ue_ at hc
 rw[Bool.and_eq_true,Bool.and_eq_true,Bool.and_eq_true,zzi,zzi,zzi,Bool.not_eq_true']at hc
 obtain⟨⟨⟨h1,h2⟩,h3⟩,h4⟩:=hc
 rw[ho.str]at rx
 obtain⟨t,rfl⟩:=rx
 cases hr with
 | cons hy hn =>
  cases hn
  cases hy
  obtain⟨u,rfl,ru⟩:=vals1 rxs
  obtain⟨t2,rfl⟩:=ru
  refine Xd_ h1 (λl tk hl=>?_) h2 h3
  have hv:=UN_ l
  rw[hl]at hv
  refine⟨.ref s.heap.objs.size,upd H s.heap.objs.size (.lst ((Txt.split z y).map V.str)),I.laid (t':=tk) (λb o q=>zzc _ q) (Nat.le_refl _) ⟨by rw[zzd];exact h4,strValues l,0,hv,zze _ rfl⟩,rfl,?_⟩
  obtain⟨S2,r2⟩:=S.newLst (I.hok.fresh (Nat.le_refl _)) (Qr_ (Txt.split z y))
  exact k _ F _ (Same.refl _) S2 r2
noncomputable def strsOf:List D->Option (List Str)
 | []=>some []
 | .str x::r=>(strsOf r).map (x :: ·)
 | _::_=>none
theorem UQ_:∀{ds:List D} {xs:List Str},strsOf ds=some xs->ds=xs.map PyData.str
 | [],_,h=>by cases h;rfl
 | d::r,xs,h=>by
  cases d<;>first|(cases h;done)|skip
  rename_i x
  have h:(strsOf r).map (x :: ·)=some xs:=h
  cases e:strsOf r with
  | none=>rw[e]at h;cases h
  | some ys=>rw[e]at h;cases h;rw[UQ_ e];rfl
theorem JK_{K:Fg}{F:Hp}:∀{xs:List Str} {vs:List V} {its:List Value},RepL K F vs (xs.map PyData.str)->Vals vs its->∃l:List (Str×Tok),its=strValues l/\l.map (·.1)=xs
 | [],_,_,r,v=>by cases r;cases v;exact⟨[],rfl,rfl⟩
 | x::xs,_,_,r,v=>by
  cases r with
  | cons r1 r2 =>
   cases r1
   cases v with
   | cons v1 v2 =>
    obtain⟨t,rfl⟩:=v1
    obtain⟨l,e1,e2⟩:=JK_ r2 v2
    exact⟨(x,t)::l,by rw[e1];rfl,by rw[List.map_cons,e2]⟩
noncomputable def Jl_:D->List D->Option D
 | .str x,[.list ds]=>match strsOf ds with
  | some xs=>if JoinOk x xs then some (.str (Txt.join x xs))else none
  | none=>none
 | _,_=>none
theorem yz_{X:Cx}:MtR X "str.join" (zca_ X.K Jl_):=by
 intro pins s σ H x xs v us Q I rx rxs ⟨G,F,σ',ρ,d,ds,res,S,ho,hr,e,k⟩
 unfold Jl_ at e
 split at e
 case h_2=>cases e
 rename_i z es
 split at e
 case h_2=>cases e
 rename_i ts hts
 split at e
 case isFalse=>cases e
 rename_i hc
 cases e
 rw[ho.str]at rx
 obtain⟨t,rfl⟩:=rx
 cases hr with
 | cons hy hn =>
  cases hn
  obtain⟨u,rfl,ru⟩:=vals1 rxs
  cases hy with
  | lst h1 h2 =>
   cases ru
   obtain⟨its,rv,p,hz⟩:=I.list (S.fh.seq h1)
   rw[UQ_ hts]at h2
   obtain⟨l,e1,e2⟩:=JK_ h2 rv
   subst e1
   exact SC.join p.isList e2 hc λt' tk=>⟨.str _,H,I.tok tk,⟨t',rfl⟩,k _ F H (Same.refl _) S (.str _)⟩
noncomputable def cutS(x:Str)(lo hi:Option Int):Str:=if((Builtin.Str.strSliceIndices lo hi 1 x.length).length==x.length)=true then x else⟨((Builtin.Str.strSliceIndices lo hi 1 x.length).filterMap (x.cps[·]?)).toArray⟩
def rSlS:V->Option Int->Option Int->Hp->VK->Prop:=λv lo hi H Q=>∃x,v=.str x/\(cutS x lo hi).length<=sizeLine/\Q (.str (cutS x lo hi)) H
theorem We_{v:Value}{o:Option Int}(h:IsPart v o):∃p:Option (Int×Tok),v=partValue p/\p.map (·.1)=o:=by
 cases h with
 | none=>exact⟨none,rfl,rfl⟩
 | int i t=>exact⟨some (i,t),rfl,rfl⟩
theorem sl_str{X:Cx}:SlR X rSlS:=by
 intro pins s σ H x v vl vu lo hi sl Q I rx hs pl pu h
 obtain⟨z,rfl,hz,q⟩:=h
 obtain⟨t,rfl⟩:=rx
 obtain⟨l,rfl,el⟩:=We_ pl
 obtain⟨u,rfl,eu⟩:=We_ pu
 refine⟨"str",_,PySem.F.slot_str_getitem.lookup,typeIs_str _ _ _,?_⟩
 refine wpAny_getItem_str_slice (l:=l) (u:=u) (st:=none) hs rfl ?_
 have ep:slicePicked z l u none=Builtin.Str.strSliceIndices lo hi 1 z.length:=by
  unfold slicePicked
  rw[el,eu]
  rfl
 unfold sliceMade
 rw[ep]
 unfold cutS at q hz
 split
 ·rename_i c
  have c':((Builtin.Str.strSliceIndices lo hi 1 z.length).length==z.length)=true:=by
   rw[Bool.and_eq_true]at c;exact c.2
  rw[if_pos c']at q
  exact⟨.str z,H,I,⟨t,rfl⟩,q⟩
 ·rename_i c
  have c':¬ ((Builtin.Str.strSliceIndices lo hi 1 z.length).length==z.length)=true:=λh=>c (by rw[Bool.and_eq_true];exact⟨rfl,h⟩)
  rw[if_neg c']at q hz
  exact⟨hz,.str _,H,I.tok _,⟨_,rfl⟩,q⟩
def yZ_(d:D)(lo hi:Option Int):Option D:=match d with
 | .str x=>if decide ((cutS x lo hi).length<=sizeLine)then some (.str (cutS x lo hi))else none
 | _=>fCut d lo hi
def zaZ_(p:Pu D)(l h:Pu (Option Int)):Pu D:=λρ=>bd (p ρ) λd=>bd (l ρ) λlo=>bd (h ρ) λhi=>oM (yZ_ d lo hi)
section
variable {X:Cx}{e:Expr}{lo hi:Option Expr}{p:Pu D}{pl ph:Pu (Option Int)}{pos p2:Pos}
theorem y4_(he:AO X e p)(hl:APo X lo pl)(hh:APo X hi ph):AP X (.Subscript e (.Slice lo hi none p2) pos) (zaZ_ p pl ph) :=
 λG F σ H ρ Q S w=>sem (Xt_ (sl_str.or (sl_tup.or (sl_tupA.or zaG_))) zm_ X7_ X7_) (he G F σ H ρ _ S (w.bind.imp λd F1 H1 s1 S1 w1 x hx =>
  hl G F1 σ H1 ρ _ S1 (w1.bind.imp λlo F2 H2 s2 S2 w2=>hh G F2 σ H2 ρ _ S2 (w2.bind.imp λhi F3 H3 s3 S3 w3=>by
   obtain⟨res,hr,k⟩:=w3.opt
   have ox:=(hx.mono (s2.trans s3)).or S3
   cases d<;>try (cases hr;done)
   ·rename_i z
    have hr':(if decide ((cutS z lo hi).length<=sizeLine)=true then some (PyData.str (cutS z lo hi))else none)=some res:=hr
    split at hr'
    case isFalse=>cases hr'
    rename_i hz
    rw[zzi]at hz
    cases hr'
    exact .inl ⟨z,ox.str,hz,k F3 H3 (Same.refl _) S3 _ (.str _)⟩
   ·cases hr
    obtain⟨a,vs,rfl,h1,h2⟩:=ox.list S3.fh
    refine .inr (.inr (.inr ⟨a,vs,rfl,h1,λq hq=>?_⟩))
    obtain⟨S4,r4⟩:=S3.newLst hq (WL_ h2 lo hi)
    obtain⟨F5,s5,S5,r5⟩:=S4.settle r4
    exact k F5 _ s5 S5 _ r5
   ·rename_i ds
    cases hr
    obtain⟨a,vs,rfl,h1,h2⟩:=ox.tuple S3.fh
    by_cases hw:HT.sIx vs.length 0 lo=0/\HT.sIx vs.length vs.length hi=vs.length
    ·refine .inr (.inr (.inl ⟨a,vs,rfl,h1,hw,k F3 H3 (Same.refl _) S3 _ ?_⟩))
     have:cutD ds lo hi=ds:=by
      unfold cutD
      rw[<-h2.length,hw.1,hw.2]
      simp[h2.length]
     rw[this]
     exact ox.tup'
    ·refine .inr (.inl ⟨a,vs,rfl,h1,hw,λq hq=>?_⟩)
     obtain⟨s4,S4,r4⟩:=S3.newTup hq (WL_ h2 lo hi)
     exact k _ _ s4 S4 _ r4))))
end
end L4
namespace TS
end TS
namespace TS
end TS
namespace TS
end TS
namespace TS
end TS
namespace TS
end TS
namespace TS
end TS
namespace TS
end TS
namespace TS
end TS
namespace TS
end TS
namespace TS
end TS
namespace TS
end TS
namespace TS
end TS
namespace L4
open PySem PySem.Spec PyProof.Rows L2 L3
theorem lenS{α:Type}{us:List α}{n:Nat}(h:us.length=n+1):∃a r,us=a::r/\r.length=n:=by
 cases us with
 | nil=>exact absurd h (Nat.succ_ne_zero n).symm
 | cons a r=>exact⟨a,r,rfl,Nat.succ.inj h⟩
theorem len1{α:Type}{us:List α}(h:us.length=1):∃a0,us=[a0]:=by
 obtain⟨a0,r,rfl,h0⟩:=lenS h
 obtain rfl:=List.eq_nil_of_length_eq_zero h0
 exact⟨a0,rfl⟩
theorem len2{α:Type}{us:List α}(h:us.length=2):∃a0 a1,us=[a0,a1]:=by
 obtain⟨a0,r,rfl,h0⟩:=lenS h
 obtain⟨a1,rfl⟩:=len1 h0
 exact⟨a0,a1,rfl⟩
theorem len3{α:Type}{us:List α}(h:us.length=3):∃a0 a1 a2,us=[a0,a1,a2]:=by
 obtain⟨a0,r,rfl,h0⟩:=lenS h
 obtain⟨a1,a2,rfl⟩:=len2 h0
 exact⟨a0,a1,a2,rfl⟩
theorem len4{α:Type}{us:List α}(h:us.length=4):∃a0 a1 a2 a3,us=[a0,a1,a2,a3]:=by
 obtain⟨a0,r,rfl,h0⟩:=lenS h
 obtain⟨a1,a2,a3,rfl⟩:=len3 h0
 exact⟨a0,a1,a2,a3,rfl⟩
theorem bnd1{K:Fg}{x qual:Str}{st:Stmt}{f:Addr}{fd:FuncData}{p0:Str}(F:Fun K x qual st f fd)
  (h:∀(kV doc pm:Value) (an:Option Addr) (cdv ct:Value) (u0:Value),bindArgs (PySem.W.fnOf x qual (jT_ st) (z2_ st) (zd_ st) .none kV doc pm an cdv ct) ⟨[u0],[]⟩=pure (List.zip [p0] [u0])):Binds K fd [p0] [] :=
 F.binds λa b c d e g us hl=>by obtain⟨u0,rfl⟩:=len1 hl;exact h a b c d e g u0
theorem bnd2{K:Fg}{x qual:Str}{st:Stmt}{f:Addr}{fd:FuncData}{p0 p1:Str}(F:Fun K x qual st f fd)
  (h:∀(kV doc pm:Value) (an:Option Addr) (cdv ct:Value) (u0 u1:Value),bindArgs (PySem.W.fnOf x qual (jT_ st) (z2_ st) (zd_ st) .none kV doc pm an cdv ct) ⟨[u0,u1],[]⟩=pure (List.zip [p0,p1] [u0,u1])):Binds K fd [p0,p1] [] :=
 F.binds λa b c d e g us hl=>by obtain⟨u0,u1,rfl⟩:=len2 hl;exact h a b c d e g u0 u1
theorem bnd3{K:Fg}{x qual:Str}{st:Stmt}{f:Addr}{fd:FuncData}{p0 p1 p2:Str}(F:Fun K x qual st f fd)
  (h:∀(kV doc pm:Value) (an:Option Addr) (cdv ct:Value) (u0 u1 u2:Value),bindArgs (PySem.W.fnOf x qual (jT_ st) (z2_ st) (zd_ st) .none kV doc pm an cdv ct) ⟨[u0,u1,u2],[]⟩=pure (List.zip [p0,p1,p2] [u0,u1,u2])):Binds K fd [p0,p1,p2] [] :=
 F.binds λa b c d e g us hl=>by obtain⟨u0,u1,u2,rfl⟩:=len3 hl;exact h a b c d e g u0 u1 u2
theorem bnd4{K:Fg}{x qual:Str}{st:Stmt}{f:Addr}{fd:FuncData}{p0 p1 p2 p3:Str}(F:Fun K x qual st f fd)
  (h:∀(kV doc pm:Value) (an:Option Addr) (cdv ct:Value) (u0 u1 u2 u3:Value),bindArgs (PySem.W.fnOf x qual (jT_ st) (z2_ st) (zd_ st) .none kV doc pm an cdv ct) ⟨[u0,u1,u2,u3],[]⟩=pure (List.zip [p0,p1,p2,p3] [u0,u1,u2,u3])):Binds K fd [p0,p1,p2,p3] [] :=
 F.binds λa b c d e g us hl=>by obtain⟨u0,u1,u2,u3,rfl⟩:=len4 hl;exact h a b c d e g u0 u1 u2 u3
theorem zdA_{K:Fg}{C:Addr}(h:(["bool", "int", "str", "list", "tuple", "dict"].all λT=>PySem.W.kitOne K (.ref C) (.type T)==some false)=true):∀T,tyOk T=true->PySem.W.kitOne K (.ref C) (.type T)=some false:=λT hT=>by
 have h':∀T∈["bool", "int", "str", "list", "tuple", "dict"],PySem.W.kitOne K (.ref C) (.type T)=some false:=λT q=>by
  have:=List.all_eq_true.mp h T q
  simpa using this
 apply h'
 simp only[tyOk,Bool.or_eq_true,beq_iff_eq]at hT
 rcases hT with ((((rfl|rfl)|rfl)|rfl)|rfl)|rfl<;>simp
noncomputable def fnD(f:Str):D:=.dict [(.bool true,.str f)]
noncomputable def fnQ(d:D)(f:Str):Bool:=match d with
 | .dict [(.bool true,.str g)]=>g==f
 | _=>false
theorem zdj_{d:D}{f:Str}(h:fnQ d f=true):d=fnD f:=by
 unfold fnQ at h
 split at h
 ·rename_i g;have:g=f:=by simpa using h
  subst this;rfl
 ·cases h
theorem zey_{K:Fg}{F:Hp}{v:V}{f:Str}(r:Rep K F v (fnD f)):∃a,v=.ref a/\PySem.W.nsIn K mainGlobals f=some (some (.ref a)):=by
 unfold fnD at r
 cases r with
 | dct _ h _=>exact absurd (WA_ h) (by simp[isXe])
 | dck _ h _=>exact absurd (WB_ h) (by simp[isXe])
 | fn h=>exact⟨_,rfl,h⟩
theorem XV_{X:Cx}{f:Str}{p:Pos}(h:∃a,X.mg f=some (.ref a)/\PySem.W.nsIn X.K mainGlobals f=some (some (.ref a)))(hg:Gl X f)(hd:(f==("__debug__" : Str))=false):AP X (.Name f p) (pCon (fnD f)):=by
 obtain⟨a,h1,h2⟩:=h
 exact λG F σ H ρ Q S w=>sem (Wb_ (v:=.ref a) hg h1 rfl hd) (w F H (Same.refl _) S _ (.fn h2))
section
variable {α:Type}{l:List α}
theorem ln0(h:l.length=0):l=[]:=List.eq_nil_of_length_eq_zero h
theorem lnS{n:Nat}(h:l.length=n+1):∃a t,l=a::t/\t.length=n:=List.recOn (motive:=λl=>l.length=n+1->∃a t,l=a::t/\t.length=n) l (λh=>(Nat.succ_ne_zero n h.symm).elim) (λa t _ h=>⟨a,t,rfl,Nat.succ.inj h⟩) h
theorem ln1(h:l.length=1):∃a,l=[a]:=by obtain⟨a,t,e,q⟩:=lnS h;exact⟨a,by rw[e,ln0 q]⟩
theorem ln2(h:l.length=2):∃a b,l=[a,b]:=by obtain⟨a,t,rfl,q⟩:=lnS h;obtain⟨b,rfl⟩:=ln1 q;exact⟨a,b,rfl⟩
theorem ln3(h:l.length=3):∃a b c,l=[a,b,c]:=by obtain⟨a,t,rfl,q⟩:=lnS h;obtain⟨b,c,rfl⟩:=ln2 q;exact⟨a,b,c,rfl⟩
end
section
variable {K:Fg}{h:Heap}{mg:Str->Option Value}{x qual:Str}{st:Stmt}{f T:Addr}{oc:Value}{od an:Option Addr}{osl:Array (Option Value)}{kV doc pm cdv ct:Value}
def Fa(K:Fg)(x:Str)(st:Stmt):Prop:=∃f fd,PySem.W.nsIn K mainGlobals x=some (some (.ref f))/\Fun K x x st f fd
theorem uo_(a:PySem.W.nsIn K mainGlobals x=some (some (.ref f)))(l:K.lookup f=some ⟨oc,od,.func (PySem.W.fnOf x x (jT_ st) (z2_ st) (zd_ st) .none kV doc pm an cdv ct),osl⟩)
  (c:PySem.W.codeIn K cdv x=true) (k:PySem.W.keepIn K (.ref f)=true):Fa K x st:=⟨f,_,a,QI_ l c k⟩
def Xa(K:Fg)(x qual:Str)(st:Stmt)(fl:List Str):Prop:=∃C D f fd,PySem.W.nsIn K mainGlobals x=some (some (.ref C))/\Fun K "__init__" qual st f fd/\XC K C D f/\XQ K C x/\PySem.W.keepIn K (.ref C)=true/\(∀f∈fl,NoAttr K C f)/\PySem.W.exmOne K (.ref C) (.ref C)=some true
theorem zdB_{C D N:Addr}{nm qn:Str}{bs sb:List Value}{sn:List Str}{ab:Bool}{co:Option Bool}{dd:Option Addr}{k0 k1 k2 k3 k5:Option Value}{fl:List Str}
  (xa:PySem.W.nsIn K mainGlobals x=some (some (.ref C))) (xb:K.lookup C=some (excClassObj nm qn C N bs (.ref D::bmV) true sn sb ab co dd k0 k1 k2 k3 k5 "ValueError.__new__")) (xc:PySem.W.findIn K (.ref C) "__init__" = some (some (.ref f)))
  (xd:K.lookup f=some ⟨oc,od,.func (PySem.W.fnOf "__init__" qual (jT_ st) (z2_ st) (zd_ st) .none kV doc pm an cdv ct),osl⟩) (xe:PySem.W.codeIn K cdv qual=true) (xf:PySem.W.keepIn K (.ref f)=true) (xg:PySem.W.keepIn K (.ref C)=true)
  (xh:PySem.W.tailIn K bmV (.ref D::bmV)=true) (xi:PySem.W.typeIn K (.ref f)=some (.type "function")) (xj:PySem.W.findIn K (.ref C) "__setattr__" = some (some (.builtin "object.__setattr__"))) (xk:PySem.W.findIn K (.ref C) "__getattribute__" = some (some (.builtin "BaseException.__getattribute__")))
  (xl:PySem.W.findIn K (.ref C) "__getattr__" = some none) (xm:PySem.W.exmOne K (.ref C) (.ref C)=some true) (xp:PySem.W.findIn K (.ref C) "__class__" = some (some (.builtin "object.__class__"))) (xq:PySem.W.specialIn K (.builtin "object.__class__") "__get__" = some (some (.builtin "getset_descriptor.__get__")))
  (xr:PySem.W.takesIn K (.builtin "object.__class__")=some true) (xo:(["bool", "int", "str", "list", "tuple", "dict"].all λT=>PySem.W.kitOne K (.ref C) (.type T)==some false)=true) (xn:∀f∈fl,NoAttr K C f):Xa K x qual st fl :=
 ⟨C,D,f,_,xa,QI_ xd xe xf,⟨⟨nm,qn,N,bs,sn,sb,ab,co,dd,k0,k1,k2,k3,k5,xb⟩,xh,xc,xi,xj,xk,xl⟩,⟨xa,⟨_,_,⟨nm,qn,N,bs,sn,sb,ab,co,dd,k0,k1,k2,k3,k5,xb⟩,xh,xc,xi,xj,xk,xl⟩,⟨xp,xq,xr⟩,zdA_ xo⟩,xg,xn,xm⟩
theorem na0{C:Addr}:∀f∈([]:List Str),NoAttr K C f:=λ_ h=>(nomatch h)
theorem naC{C:Addr}{f:Str}{l:List Str}(h:PySem.W.findIn K (.ref C) f=some none)(t:∀f∈l,NoAttr K C f):∀g∈f::l,NoAttr K C g:=λg hg=>by
 rcases List.mem_cons.mp hg with rfl|hg
 ·exact h
 ·exact t g hg
noncomputable def isNN:Option (Option Value)->Bool
 | some none=>true
 | _=>false
theorem zeD_{l:List Str}(X:K.In h)(G:h.Ns mainGlobals mg)(z:(l.all λx=>isNN (PySem.W.nsIn K mainGlobals x))=true):∀x∈l,mg x=none:=λx hx=>by
 have q:=List.all_eq_true.mp z x hx
 generalize e:PySem.W.nsIn K mainGlobals x=o at q
 match o,q with
 | some none,_=>exact PySem.W.mg_none_of X G e
end
noncomputable def uj_:List Str->List D->Str->Option D
 | n::ns,d::ds,f=>if n=f then some d else uj_ ns ds f
 | _,_,_=>none
noncomputable def putA:List Str->Str->List Str
 | n::ns,f=>if n=f then n::ns else n::putA ns f
 | [],f=>[f]
noncomputable def putB:List Str->List D->Str->D->List D
 | n::ns,d::ds,f,e=>if n=f then e::ds else d::putB ns ds f e
 | [],_,_,e=>[e]
 | _::_,[],_,_=>[]
theorem Wp_{K:Fg}{F:Hp}{f:Str}{d:D}:∀{fs:List (Str×V)} {ns:List Str} {ds:List D},fs.map (·.1)=ns->RepL K F (fs.map (·.2)) ds->uj_ ns ds f=some d->∃v,fs.lookup f=some v/\Rep K F v d:=by
 intro fs
 induction fs with
 | nil=>intro ns ds h r e;subst h;cases ds<;>cases e
 | cons p fs ih =>
  obtain⟨n,v⟩:=p
  intro ns ds h r e
  subst h
  obtain⟨d0,r',rfl,rv,rr⟩:∃d0 r',ds=d0::r'/\Rep K F v d0/\RepL K F (fs.map (·.2)) r':=by
   cases r with|cons a b=>exact⟨_,_,rfl,a,b⟩
  rw[List.map_cons,uj_]at e
  rw[List.lookup_cons]
  by_cases h:n=f
  ·rw[if_pos h]at e
   cases e
   subst h
   simp only[beq_self_eq_true]
   exact⟨v,rfl,rv⟩
  ·rw[if_neg h]at e
   obtain⟨u,h1,h2⟩:=ih rfl rr e
   have hb:(f==n)=false:=beq_eq_false_iff_ne.mpr λz=>h z.symm
   simp only[hb]
   exact⟨u,h1,h2⟩
theorem Wq_{f:Str}:∀{fs:List (Str×V)},f∉fs.map (·.1)->fs.lookup f=none:=by
 intro fs
 induction fs with
 | nil=>intro _;rfl
 | cons p fs ih =>
  intro h
  rw[List.map_cons,List.mem_cons,not_or]at h
  rw[List.lookup_cons]
  have hb:(f==p.1)=false:=beq_eq_false_iff_ne.mpr h.1
  simp only[hb]
  exact ih h.2
theorem V0_{K:Fg}{F:Hp}{f:Str}{v:V}{d:D}(rv:Rep K F v d):∀{fs:List (Str×V)} {ns:List Str} {ds:List D},fs.map (·.1)=ns->RepL K F (fs.map (·.2)) ds->(putF f v fs).map (·.1)=putA ns f/\RepL K F ((putF f v fs).map (·.2)) (putB ns ds f d):=by
 intro fs
 induction fs with
 | nil=>intro ns ds h r;subst h;cases r;exact⟨rfl,.cons rv .nil⟩
 | cons p fs ih =>
  obtain⟨n,u⟩:=p
  intro ns ds h r
  subst h
  obtain⟨d0,r',rfl,ru,rr⟩:∃d0 r',ds=d0::r'/\Rep K F u d0/\RepL K F (fs.map (·.2)) r':=by
   cases r with|cons a b=>exact⟨_,_,rfl,a,b⟩
  obtain⟨h1,h2⟩:=ih rfl rr
  rw[List.map_cons,putA,putB,putF]
  by_cases h:n=f
  ·rw[if_pos h,if_pos h,if_pos h];exact⟨rfl,.cons rv rr⟩
  ·rw[if_neg h,if_neg h,if_neg h,List.map_cons,List.map_cons,h1]
   exact⟨rfl,.cons ru h2⟩
structure IC(K:Fg)(x:Str)(C:Addr):Prop where
 ns:PySem.W.nsIn K mainGlobals x=some (some (.ref C))
 cl:Cls K C
noncomputable def Jj_(x:Str)(o:Option (Option AV)):Option (List Str×List D):=match o with
 | some (some (.ol (.i y ns ds)))=>if y=x then some (ns,ds)else none
 | some (some (.op (.i y ns ds)))=>if y=x then some (ns,ds)else none
 | _=>none
theorem yV_{x:Str}{ρ:En}{i:Nat}{p:List Str×List D}(h:Jj_ x ρ[i]? = some p):own ρ i (.i x p.1 p.2):=by
 unfold Jj_ at h
 split at h
 ·rename_i q
  split at h
  ·rename_i e;cases h;subst e;exact .inl q
  ·cases h
 ·rename_i q
  split at h
  ·rename_i e;cases h;subst e;exact .inr q
  ·cases h
 ·cases h
theorem JX_{K:Fg}{G:Gh}{F H:Hp}{σ:L2.St}{ρ:En}{x:Str}{C:Addr}{i:Nat}{p:List Str×List D}(S:StOk K G F σ H ρ)(c:IC K x C)(h:Jj_ x ρ[i]? = some p) :
  ∃a dx fs,σ[i]? = some (some (V.ref a))/\H a=some (.ins C dx fs)/\fs.map (·.1)=p.1/\RepL K F (fs.map (·.2)) p.2:=by
 obtain⟨a,e,oa⟩:=S.ow i _ (yV_ h)
 obtain⟨C',dx,fs,h1,h2,h3,h4⟩:=oa.he
 have:=c.ns.symm.trans h2
 injection this with this;injection this with this;injection this with this
 subst this
 exact⟨a,dx,fs,e,h1,h3,h4⟩
def pFld(x:Str)(i:Nat)(f:Str):Pu D:=λρ=>match Jj_ x ρ[i]? with
 | some p=>oM (uj_ p.1 p.2 f)
 | none=>.bad
theorem Jo_{X:Cx}{x nm f:Str}{C:Addr}{i:Nat}{pos p:Pos}(c:IC X.K x C)(n:NoAttr X.K C f)(hN:X.N[i]? = some nm)(hv:Vis X.env.scope nm)(hb:attributeBase (.Name nm p) f X.env (eval (.Name nm p) X.env)=eval (.Name nm p) X.env)
  (hd:(nm==("__debug__" : Str))=false:=by decide) (hcd:(nm==("__classdict__" : Str))=false:=by decide):AP X (.Attribute (.Name nm p) f pos) (pFld x i f) :=
 λG F σ H ρ Q S w=>sem (zct_ (j2_ hN hv hd hcd) hb)<|by
  unfold pFld at w
  split at w
  ·rename_i q hq
   obtain⟨a,dx,fs,e1,e2,e3,e4⟩:=JX_ S c hq
   obtain⟨d,hd,k⟩:=w.opt
   obtain⟨v,h1,h2⟩:=Wp_ e3 e4 hd
   exact⟨_,e1,a,C,dx,fs,v,rfl,e2,c.cl,n,h1,k F H (Same.refl _) S v h2⟩
  ·exact w.elim
section
variable {S:Type}
def setN(x:Str)(ρ:En)(i:Nat)(p:List Str×List D)(f:Str)(d:D):En:=setC ρ i (.i x (putA p.1 f) (putB p.1 p.2 f d))
def zdQ_(x:Str)(i:Nat)(f:Str)(me:Ev S D):SM S:=λK ρ=>me K.x (λd ρ1=>match Jj_ x ρ1[i]? with
 | some p=>if p.1.length<900 then K.nx (setN x ρ1 i p f d)else .bad
 | none=>.bad) ρ
theorem WE_{K:Fg}{G:Gh}{F H:Hp}{σ:L2.St}{ρ:En}{x:Str}{C a dx:Addr}{fs:List (Str×V)}{i:Nat}{p:List Str×List D}{f:Str}{v:V}{d:D}(S:StOk K G F σ H ρ)(c:IC K x C)(h:Jj_ x ρ[i]? = some p)(ea:σ[i]? = some (some (V.ref a)))
  (e3:fs.map (·.1)=p.1) (e4:RepL K F (fs.map (·.2)) p.2) (rv:Rep K F v d):StOk K G F σ (upd H a (.ins C dx (putF f v fs))) (setN x ρ i p f d) :=
 S.change (yV_ h) ea ⟨C,dx,putF f v fs,zw_,c.ns,(V0_ rv e3 e4).1,(V0_ rv e3 e4).2⟩
theorem UH_{X:Cx}{x nm f:Str}{C:Addr}{i:Nat}{value:Expr}{me:Ev S D}{pos pos' p:Pos}(c:IC X.K x C)(n:NoAttr X.K C f)(hN:X.N[i]? = some nm)(hv:Vis X.env.scope nm)(he:AE X value me)
  (hs:swapsWith value (some (.Attribute (.Name nm p) f pos')) pos.line X.env=pure false) (hd:(nm==("__debug__" : Str))=false:=by decide) (hcd:(nm==("__classdict__" : Str))=false:=by decide) :
  AS X (.Assign [.Attribute (.Name nm p) f pos'] value pos) (zdQ_ x i f me):=λOK K G F σ H ρ E hO hX St ok eo =>
 semS (zci_ (j2_ hN hv hd hcd) zm_ hs) (he OK K.x _ G F σ H ρ _ hO hX St ok λd v F1 H1 ρ1 s1 S1 r1 o1=>by
  split at o1
  ·rename_i q hq
   split at o1
   ·rename_i hl
    obtain⟨a,dx,fs,e1,e2,e3,e4⟩:=JX_ S1 c hq
    exact⟨_,e1,a,C,dx,fs,rfl,e2,c.cl,n,by rw[<-zzd (f:=(·.1)),e3];lia,eo.nx F1 σ _ _ s1 (WE_ S1 c hq e1 e3 e4 r1) o1⟩
   ·exact(hO o1).elim
  ·exact(hO o1).elim)
noncomputable def augI(o:Option D)(k:Int->M S):M S:=match o with
 | some (.int a)=>k a
 | _=>.bad
noncomputable def onI(d:D)(k:Int->M S):M S:=match d with
 | .int b=>k b
 | _=>.bad
def zbV_(x:Str)(i:Nat)(f:Str)(me:Ev S D):SM S:=λK ρ=>match Jj_ x ρ[i]? with
 | some p=>augI (uj_ p.1 p.2 f) λa=>me K.x (λd ρ1=>onI d λb=>match Jj_ x ρ1[i]? with
  | some q=>if q.1.length<900 then K.nx (setN x ρ1 i q f (.int (a+b)))else .bad
  | none=>.bad) ρ
 | none=>.bad
theorem UJ_{X:Cx}{x nm f:Str}{C:Addr}{i:Nat}{value:Expr}{me:Ev S D}{pos tpos p:Pos}(c:IC X.K x C)(n:NoAttr X.K C f)(hN:X.N[i]? = some nm)(hv:Vis X.env.scope nm)(he:AE X value me)
  (hd:(nm==("__debug__" : Str))=false:=by decide) (hcd:(nm==("__classdict__" : Str))=false:=by decide) :
  AS X (.AugAssign (.Attribute (.Name nm p) f tpos) .Add value pos) (zbV_ x i f me):=λOK K G F σ H ρ E hO hX St ok eo =>
 semS (V5_ (j2_ hN hv hd hcd) zm_ zdf_) (by
  unfold zbV_ at ok
  split at ok
  case h_2=>exact(hO ok).elim
  rename_i q hq
  unfold augI at ok
  split at ok
  case h_2=>exact(hO ok).elim
  rename_i a0 ha
  obtain⟨a,dx,fs,e1,e2,e3,e4⟩:=JX_ St c hq
  obtain⟨v,h1,h2⟩:=Wp_ e3 e4 ha
  refine⟨_,e1,a,C,dx,fs,v,rfl,e2,c.cl,n,h1,he OK K.x _ G F σ H ρ _ hO hX St ok λd u F1 H1 ρ1 s1 S1 r1 o1=>?_⟩
  unfold onI at o1
  split at o1
  case h_2=>exact(hO o1).elim
  rename_i b
  split at o1
  case h_2=>exact(hO o1).elim
  rename_i q' hq'
  split at o1
  case isFalse=>exact(hO o1).elim
  rename_i hl
  obtain⟨a',dx',fs',e1',e2',e3',e4'⟩:=JX_ S1 c hq'
  rw[e1]at e1'
  injection e1' with e1';injection e1' with e1';injection e1' with e1'
  subst e1'
  have hv0:=h2.int_inv
  have hu0:=r1.int_inv
  subst hv0 hu0
  exact⟨a0,b,rfl,rfl,dx',fs',e2',by rw[<-zzd (f:=(·.1)),e3'];lia,eo.nx F1 σ _ _ s1 (WE_ S1 c hq' e1 e3' e4' (.int _)) o1⟩)
end
def spI1(K:Fg)(x:Str)(ns ms:List Str)(n:Nat)(mf:List D->List D->M (D×List D)):Sp:=λvs H Q E=>∃G F f ds,vs.length=n/\StOk K G F (vs.map some) H (some (.op (.i x ns f))::fzs ds)/\EndM K G E (mf f ds) λr =>
 ∀v F' H',Same F F'->StOk K G F' (vs.map some) H' (some (.op (.i x ms r.2))::fzs ds)->Rep K F' v r.1->Q v H'
noncomputable def atI0{S:Type}(x:Str)(ms:List Str)(ρ:En)(k:List D->M S):M S:=match (ρ[0]? : Option (Option AV))with
 | some (some (AV.op (OC.i y ns f)))=>if y=x/\ns=ms then k f else .bad
 | _=>.bad
def KI1(x:Str)(ms:List Str):KS (D×List D):=⟨λρ=>atI0 x ms ρ λf=>.ret (.none,f),λd ρ=>atI0 x ms ρ λf=>.ret (d,f),λ_ _=>.bad,λ_=>.bad,λ_=>.bad,λe _=>.exc e⟩
section
variable {K:Fg}{G:Gh}{F F' H H':Hp}{vs:List V}{σ:L2.St}{ρ:En}{ds:List D}
theorem Wh_{c0 c:OC}{i:Nat}(h:own (some (.op c0)::fzs ds) i c):i=0/\c=c0:=by
 cases i with
 | zero=>rcases h with h|h<;>simp at h;exact⟨rfl,h.symm⟩
 | succ i=>exact(yl_ (ds:=ds) (i:=i) (c:=c) (by unfold own at h ⊢;simpa using h)).elim
theorem WV_{c0 c':OC}(S:StOk K G F (vs.map some) H (some (.op c0)::fzs ds))(s1:Same F F')(S1:StOk K G F' σ H' ρ)(h0:ρ[0]? = some (some (.op c'))) :
  StOk K G F' (vs.map some) H' (some (.op c')::fzs ds):=by
 obtain⟨a,ha⟩:=S1.pq 0 _ h0
 obtain⟨e1,_⟩:=S1.pp 0 a ha
 obtain⟨e2,_⟩:=S.pp 0 a ha
 obtain⟨b,eb,ob⟩:=S1.ow 0 _ (.inr h0)
 rw[e1]at eb
 injection eb with eb;injection eb with eb;injection eb with eb
 subst eb
 have only:∀i b,G.P i=some b->i=0:=λi b h=>by
  obtain⟨_,c,q⟩:=S.pp i b h
  exact(Wh_ (.inr q)).1
 refine⟨S1.fh,S1.oh,S1.fo,S.ln,λi d q=>?_,λi c q=>?_,λi j c e b q1 q2 _ _=>?_,λi b q=>?_,λi c q=>?_,S1.fb⟩
 ·cases i with
  | zero=>simp at q
  | succ i =>
   obtain⟨v,e,r⟩:=S.fz (i+1) d (by simpa using q)
   exact⟨v,e,r.mono s1⟩
 ·obtain⟨rfl,rfl⟩:=Wh_ q
  exact⟨a,e2,ob⟩
 ·rw[(Wh_ q1).1,(Wh_ q2).1]
 ·have:=only i b q
  subst this
  exact⟨(S.pp 0 b q).1,_,rfl⟩
 ·obtain⟨rfl,_⟩:=Wh_ (.inr q)
  exact⟨a,ha⟩
end
theorem WZ_{S:Type}{x:Str}{ms:List Str}{ρ:En}{k:List D->M S}{K:Fg}{G:Gh}{E:XK}{C:S->Prop}(h:EndM K G E (atI0 x ms ρ k) C):∃f,ρ[0]? = some (some (AV.op (OC.i x ms f)))/\EndM K G E (k f) C:=by
 unfold atI0 at h
 split at h
 ·rename_i y ns f q
  split at h
  ·rename_i e;obtain⟨rfl,rfl⟩:=e;exact⟨f,q,h⟩
  ·exact h.elim
 ·exact h.elim
section
variable {P:Program}{w:World}{K:Fg}{mg:Str->Option Value}{base:Heap}{x qual:Str}{st:Stmt}{f:Addr}{fd:FuncData}{N ps:List Str}{k:Nat}{y:Str}{ns ms:List Str}
theorem yW_{mb:SM (D×List D)}{mf:List D->List D->M (D×List D)}(Fn:Fun K x qual st f fd)(Sc:FnScope N ps (zd_ st))
  (hb:∀(cdv:Value) (A:Around) (outer:List Env) (s:Shared) (H:Hp) (E:XK),Room k (A.deeper (envOfC qual (zd_ st) s.heap.objs.size f cdv)) ->
   ASs (cxOf (CX1 P w) P w K mg base N qual (zd_ st) f cdv A outer s H E) (z2_ st) mb)
  (hm:∀g ds,ds.length+1=ps.length->mf g ds=mb (KI1 y ms) (some (.op (.i y ns g))::fzs ds++List.replicate (N.length - ps.length) none)):FnOk P w K mg base (CX1 P w) (k+1) f fd ps (spI1 K y ns ms ps.length mf):=by
 refine fn_x Fn Sc (λvs H Q E h=>?_) (λcdv A outer s H vs Q E hr h=>?_)
 ·obtain⟨_,_,_,_,h1,_⟩:=h;exact h1
 ·obtain⟨G,F0,g,ds,h1,S0,e⟩:=h
  have hl:ds.length+1=ps.length:=by have:=S0.ln;simp at this;lia
  have e0:L2.start N vs=vs.map some++List.replicate (N.length - ps.length) none:=by unfold L2.start;rw[h1]
  have S1:StOk K G F0 (L2.start N vs) H (some (.op (.i y ns g))::fzs ds++List.replicate (N.length - ps.length) none):=by rw[e0];exact S0.grow _
  rw[hm g ds hl]at e
  refine⟨_,uW_,hb cdv A outer s H E hr (λm=>EndM K G E m _) (KI1 y ms) G F0 _ H _ _ (λz=>z) (λF ρ e z=>XM_ z) S1 e ?_⟩
  refine⟨λF' σ' H' ρ' s S' o=>?_,λF' σ' H' ρ' d' v s S' rv o=>?_,λF' σ' H' ρ' d' v s S' r o=>(o:False).elim,λF' σ' H' ρ' s S' o=>(o:False).elim,λF' σ' H' ρ' s S' o=>(o:False).elim⟩
  ·obtain⟨f',q,e'⟩:=WZ_ o
   exact e' .non F' H' s (WV_ S0 s S' q) .non
  ·obtain⟨f',q,e'⟩:=WZ_ o
   exact e' v F' H' s (WV_ S0 s S' q) rv
end
section
variable {S:Type}
def eFnI(x:Str)(ns ms:List Str)(mf:List D->List D->M (D×List D))(i:Nat)(me:Ev S (List D)):Ev S D:=λz k ρ=>match Jj_ x ρ[i]? with
 | some q=>if q.1=ns then me z (λds ρ1=>match Jj_ x ρ1[i]? with
  | some p=>if p.1=ns then(mf p.2 ds).on (λe=>z e ρ1) (λr=>k r.1 (setC ρ1 i (.i x ms r.2)))else .bad
  | none=>.bad) ρ else .bad
 | none=>.bad
variable {X:Cx}{k n:Nat}{mf:List D->List D->M (D×List D)}{x nm m:Str}{ns ms:List Str}{C:Addr}{p pos pn apos:Pos}{e:Expr}{es:List Expr}{me:Ev S (List D)}{i:Nat}
theorem UD_{OK:M S->Prop}{z:Ex->En->M S}{kk:D->En->M S}{G:Gh}{F F1 H1:Hp}{σ:L2.St}{ρ1:En}{Q:VK}{a:Addr}{vs:List V}{ds:List D}(hO:KOk OK)(hX:XL X OK z G)(s1:Same F F1)(S1:StOk X.K G F1 σ H1 ρ1)(hn:vs.length+1=n)(r1:RepL X.K F1 vs ds)(ea:σ[i]? = some (some (V.ref a)))
  (o1:OK (match Jj_ x ρ1[i]? with|some p=>if p.1=ns then(mf p.2 ds).on (λe=>z e ρ1) (λr=>kk r.1 (setC ρ1 i (.i x ms r.2)))else .bad|none=>.bad))
  (k2:∀d v F' H' ρ',Same F F'->StOk X.K G F' σ H' ρ'->Rep X.K F' v d->OK (kk d ρ')->Q v H'):spI1 X.K x ns ms n mf (V.ref a::vs) H1 Q (EX X G σ):=by
 split at o1
 case h_2=>exact(hO o1).elim
 rename_i q hq
 split at o1
 case isFalse=>exact(hO o1).elim
 rename_i hns
 have ho:=yV_ hq
 rw[hns]at ho
 cases hd:mf q.2 ds with
 | bad=>rw[hd]at o1;exact(hO o1).elim
 | exc e =>
  rw[hd]at o1
  exact⟨_,F1,q.2,ds,by simpa using hn,y2_ S1 ho ea r1,by rw[hd];exact λF' H' Cl dd g xr=>EX.of S1 (hX F1 ρ1 e o1) g xr⟩
 | ret r =>
  rw[hd]at o1
  refine⟨_,F1,q.2,ds,by simpa using hn,y2_ S1 ho ea r1,?_⟩
  rw[hd]
  intro v F2 H2 s2 S2 r2
  obtain⟨S3,t3⟩:=Zo_ (c':=.i x ms r.2) (l:=ds.map AV.fz) S1 ho ea s2 S2
  exact k2 r.1 v F2 H2 _ (s1.trans s2) S3 r2 o1
theorem zat_{g:Str}(Cf:CF X.prog X.w X.K X.mg X.base g k (spI1 X.K x ns ms n mf))(hr:Room k X.A)(hg:Gl X g)(hN:X.N[i]? = some nm)(hv:Vis X.env.scope nm)(ha:AEa X es me)(hn:es.length+1=n)
  (hdb:(g==("__debug__" : Str))=false) (he:starEach (.Name nm pn::es) X.env=(false,eval (.Name nm pn) X.env)::starEach es X.env) (hpl:(backTo pos (starEach es X.env)).any (·.1)=false)
  (hd:(nm==("__debug__" : Str))=false:=by decide) (hcd:(nm==("__classdict__" : Str))=false:=by decide):AE X (.Call (.Name g p) (.Name nm pn::es) [] pos) (eFnI x ns ms mf i me):=by
 obtain⟨f,fd,pl,Fn,h1,h2,h3⟩:=Cf.ex
 intro OK z kk G F σ H ρ Q hO hX St ok k2
 unfold eFnI at ok
 split at ok
 case h_2=>exact(hO ok).elim
 rename_i q0 hq0
 split at ok
 case isFalse=>exact(hO ok).elim
 obtain⟨a,ea,_⟩:=St.ow i _ (yV_ hq0)
 refine yI_ Fn hr hg h1 h2 h3 (YS_ (G:=G)) hdb he hpl ?_
 refine semA (yw_ (j2_ hN hv hd hcd) jW_ he) ⟨_,ea,?_⟩
 refine ha OK z _ G F σ H ρ _ hO hX St ok λds vs F1 H1 ρ1 s1 S1 hl r1 o1=>?_
 exact UD_ hO hX s1 S1 (by rw[hl];exact hn) r1 ea o1 k2
structure CM(P:Program)(w:World)(K:Fg)(mg:Str->Option Value)(base:Heap)(C:Addr)(m:Str)(k:Nat)(sp:Sp):Prop where
 ex:∃(f:Addr) (fd:FuncData) (ps:List Str),FnOk P w K mg base (CX1 P w) k f fd ps sp/\Meth K C m f/\L2.Binds K fd ps []
theorem uK_{pl:Sem Bool}(c:IC X.K x C)(Cm:CM X.prog X.w X.K X.mg X.base C m k (spI1 X.K x ns ms n mf))(hm:m∉ns)(hr:Room k X.A)(hN:X.N[i]? = some nm)(hv:Vis X.env.scope nm)(ha:AEa X (e::es) me)(hn:(e::es).length+1=n)
  (hst:starEach (e::es) X.env=(false,eval e X.env)::starEach es X.env) (hpl:(backTo pos (starEach es X.env)).any (·.1)=false)
  (ht:eval (.Call (.Attribute (.Name nm pn) m apos) (e::es) [] pos) X.env=(do
   let ov <-eval (.Name nm pn) X.env
   standAt apos.atName
   let (f,first) <-holding [ov] (getMethod ov m pl)
   callWith pos f first (backTo pos (starEach (e::es) X.env)) (backToKw pos (keywordEach [] X.env))))
  (hd:(nm==("__debug__" : Str))=false:=by decide) (hcd:(nm==("__classdict__" : Str))=false:=by decide):AE X (.Call (.Attribute (.Name nm pn) m apos) (e::es) [] pos) (eFnI x ns ms mf i me):=by
 obtain⟨f,fd,pl,Fn,h1,h3⟩:=Cm.ex
 intro OK z kk G F σ H ρ Q hO hX St ok k2
 unfold eFnI at ok
 split at ok
 case h_2=>exact(hO ok).elim
 rename_i q0 hq0
 split at ok
 case isFalse=>exact(hO ok).elim
 rename_i hns
 obtain⟨a,dx,fs,ea,eh,e3,e4⟩:=JX_ St c hq0
 have ar:uR_ X (e::es) σ H λvs H1=>spI1 X.K x ns ms n mf (V.ref a::vs) H1 Q (EX X G σ) :=
  ha OK z _ G F σ H ρ _ hO hX St ok λds vs F1 H1 ρ1 s1 S1 hl r1 o1=>UD_ hO hX s1 S1 (by rw[hl];exact hn) r1 ea o1 k2
 unfold uR_ at ar
 unfold tSem
 intro pins s I
 refine PySem.W.methodCall_KW (thn (j2_ hN hv hd hcd pins s σ H (λy H'=>y=.ref a/\H'=H) I ⟨_,ea,rfl,rfl⟩) λu s1 hh=>?_) ht
 obtain⟨y,H1,I1,rx,rfl,rfl⟩:=hh
 obtain rfl:u=Value.ref a:=rx
 refine JZ_ I1 eh c.cl h1 (Wq_ (by rw[e3,hns];exact hm)) ?_
 refine PySem.W.callWith_K (first:=[.ref a]) (h₀:=X.base) I.ok.mod.kin h1.kp (thn (ar pos pins s1 I1) λus s2 hh=>?_) hst hpl
 obtain⟨vs,H2,I2,r,q2⟩:=hh
 exact⟨I2.kIn,VT_ (us:=.ref a::us) (vs:=.ref a::vs) Fn hr h3 (YS_ (G:=G)) I2 (.cons rfl r) q2⟩
theorem zZ_{pl:Sem Bool}(c:IC X.K x C)(Cm:CM X.prog X.w X.K X.mg X.base C m k (spI1 X.K x ns ms 1 mf))(hm:m∉ns)(hr:Room k X.A)(hN:X.N[i]? = some nm)(hv:Vis X.env.scope nm)
  (ht:eval (.Call (.Attribute (.Name nm pn) m apos) [] [] pos) X.env=(do
   let ov <-eval (.Name nm pn) X.env
   standAt apos.atName
   let (f,first) <-holding [ov] (getMethod ov m pl)
   callWith pos f first (backTo pos (starEach [] X.env)) (backToKw pos (keywordEach [] X.env))))
  (hd:(nm==("__debug__" : Str))=false:=by decide) (hcd:(nm==("__classdict__" : Str))=false:=by decide):AE X (.Call (.Attribute (.Name nm pn) m apos) [] [] pos) (eFnI (S:=S) x ns ms mf i (λz k ρ=>k [] ρ)):=by
 obtain⟨f,fd,pl,Fn,h1,h3⟩:=Cm.ex
 intro OK z kk G F σ H ρ Q hO hX St ok k2
 unfold eFnI at ok
 split at ok
 case h_2=>exact(hO ok).elim
 rename_i q0 hq0
 split at ok
 case isFalse=>exact(hO ok).elim
 rename_i hns
 obtain⟨a,dx,fs,ea,eh,e3,e4⟩:=JX_ St c hq0
 have sp:=UD_ (Q:=Q) (vs:=[]) (ds:=[]) hO hX (Same.refl _) St (n:=1) rfl .nil ea ok k2
 unfold tSem
 intro pins s I
 refine PySem.W.methodCall_KW (thn (j2_ hN hv hd hcd pins s σ H (λy H'=>y=.ref a/\H'=H) I ⟨_,ea,rfl,rfl⟩) λu s1 hh=>?_) ht
 obtain⟨y,H1,I1,rx,rfl,rfl⟩:=hh
 obtain rfl:u=Value.ref a:=rx
 refine JZ_ I1 eh c.cl h1 (Wq_ (by rw[e3,hns];exact hm)) ?_
 exact PySem.W.callWith_K0 (first:=[.ref a]) I1.kIn h1.kp (VT_ (us:=[.ref a]) (vs:=[.ref a]) Fn hr h3 (YS_ (G:=G)) I1 (.cons rfl .nil) sp)
end
theorem CF.zeroI{P:Program}{w:World}{K:Fg}{mg:Str->Option Value}{base:Heap}{x y:Str}{ns ms:List Str}{f:Addr}{fd:FuncData}{ps:List Str}(k n:Nat)(h1:mg x=some (.ref f))(h2:PySem.W.keepIn K (.ref f)=true)(h3:L2.Binds K fd ps []) :
  CF P w K mg base x k (spI1 K y ns ms n λ_ _=>.bad):=⟨f,fd,ps,⟨λvs H Q E h=>(by obtain⟨_,_,_,_,_,_,z⟩:=h;exact z.elim),λA outer s H args us vs Q E hr e0 hb hv h=>(by obtain⟨_,_,_,_,_,_,z⟩:=h;exact z.elim)⟩,h1,h2,h3⟩
section
variable {K:Fg}{G:Gh}{F F' H H':Hp}{σ:L2.St}{ρ:En}
theorem jz_{α:Type}{l:List α}{a b:α}{i:Nat}(h:l[i]? = some a):(l++[b])[i]? = some a:=by
 rw[List.getElem?_append_left (List.getElem?_eq_some_iff.mp h).1]
 exact h
theorem StOk.more(S:StOk K G F σ H ρ){a:Addr}{c:OC}(oa:OwnAt K G F H a c)(ne:∀(i:Nat) (e:OC),own ρ i e->σ[i]? ≠ some (some (V.ref a))):StOk K G F (σ++[some (.ref a)]) H (ρ++[some (.ol c)]):=by
 have cut:∀i (av:AV),(ρ++[some (.ol c)])[i]? = some (some av)->ρ[i]? = some (some av)\/(i=ρ.length/\av=.ol c):=λi av h=>by
  rw[List.getElem?_append]at h
  split at h
  ·exact .inl h
  ·rename_i hi
   right
   have:i - ρ.length=0:=by
    have:=(List.getElem?_eq_some_iff.mp h).1
    simp at this
    lia
   rw[this]at h
   simp at h
   exact⟨by lia,h.symm⟩
 have cutO:∀i e,own (ρ++[some (.ol c)]) i e->own ρ i e\/(i=ρ.length/\e=c):=λi e h=>by
  rcases h with h|h
  ·rcases cut i _ h with q|⟨q,z⟩
   ·exact .inl (.inl q)
   ·injection z with z;exact .inr ⟨q,z⟩
  ·rcases cut i _ h with q|⟨q,z⟩
   ·exact .inl (.inr q)
   ·cases z
 have at':(σ++[some (V.ref a)])[ρ.length]? = some (some (V.ref a)):=by rw[<-S.ln];simp
 refine⟨S.fh,S.oh,S.fo,by simp[S.ln],λi d h=>?_,λi e h=>?_,λi j d e b h1 h2 q1 q2=>?_,λi b h=>?_,λi e h=>?_,S.fb⟩
 ·rcases cut i _ h with q|⟨_,z⟩
  ·obtain⟨v,e,r⟩:=S.fz i d q;exact⟨v,jz_ e,r⟩
  ·cases z
 ·rcases cutO i e h with q|⟨rfl,rfl⟩
  ·obtain⟨b,e1,ob⟩:=S.ow i e q;exact⟨b,jz_ e1,ob⟩
  ·exact⟨a,at',oa⟩
 ·have back:∀i e,own ρ i e->(σ++[some (V.ref a)])[i]? = some (some (V.ref b))->σ[i]? = some (some (V.ref b)):=λi e h q=>by
   obtain⟨b',e1,_⟩:=S.ow i e h
   rw[jz_ e1]at q
   rw[e1];exact q
  have no:∀i e,own ρ i e->(σ++[some (V.ref a)])[i]? = some (some (V.ref b))->(σ++[some (V.ref a)])[ρ.length]? = some (some (V.ref b))->False:=λi e h q1 q2=>by
   rw[at']at q2
   injection q2 with q2;injection q2 with q2
   rw[<-q2]at q1
   have:=back i e h (q2▸q1)
   exact ne i e h (q2▸this)
  rcases cutO i d h1 with z1|⟨z1,_⟩<;>rcases cutO j e h2 with z2|⟨z2,_⟩
  ·exact S.dj i j d e b z1 z2 (back i d z1 q1) (back j e z2 q2)
  ·subst z2;exact(no i d z1 q1 q2).elim
  ·subst z1;exact(no j e z2 q2 q1).elim
  ·rw[z1,z2]
 ·obtain⟨q1,e,q2⟩:=S.pp i b h;exact⟨jz_ q1,e,jz_ q2⟩
 ·rcases cut i _ h with q|⟨_,z⟩
  ·exact S.pq i e q
  ·cases z
theorem StOk.less{u:Option V}{av:AV}{a:Addr}{c:OC}(S:StOk K G F σ H ρ)(S':StOk K G F' (σ++[some (.ref a)]) H' (ρ++[some (.ol c)])):StOk K G F' σ H' ρ/\RVR K G F' σ H' ρ (.ref a) (.fr c):=by
 have at':(ρ++[some (AV.ol c)])[ρ.length]? = some (some (.ol c)):=by simp
 have ats:(σ++[some (V.ref a)])[ρ.length]? = some (some (V.ref a)):=by rw[<-S.ln];simp
 have up:∀i e,own ρ i e->own (ρ++[some (.ol c)]) i e:=λi e h=>h.imp (λq=>jz_ q) (λq=>jz_ q)
 have dn:∀i (v:V),i<ρ.length->(σ++[some (V.ref a)])[i]? = some (some v)->σ[i]? = some (some v):=λi v hi h=>by
  rw[List.getElem?_append_left (by rw[S.ln];exact hi)]at h
  exact h
 have lt:∀i (av:AV),ρ[i]? = some (some av)->i<ρ.length:=λi av h=>(List.getElem?_eq_some_iff.mp h).1
 have lo:∀i e,own ρ i e->i<ρ.length:=λi e h=>by rcases h with h|h<;>exact lt _ _ h
 refine⟨⟨S'.fh,S'.oh,S'.fo,S.ln,λi d h=>?_,λi e h=>?_,λi j d e b h1 h2 q1 q2=>S'.dj i j d e b (up i d h1) (up j e h2) (jz_ q1) (jz_ q2),S.pp,S.pq,S'.fb⟩,a,rfl,?_,λi e h q=>?_⟩
 ·obtain⟨v,e,r⟩:=S'.fz i d (jz_ h);exact⟨v,dn i v (lt _ _ h) e,r⟩
 ·obtain⟨b,e1,ob⟩:=S'.ow i e (up i e h);exact⟨b,dn i _ (lo _ _ h) e1,ob⟩
 ·obtain⟨b,e1,ob⟩:=S'.ow ρ.length c (.inl at')
  rw[ats]at e1
  injection e1 with e1;injection e1 with e1;injection e1 with e1
  subst e1
  exact ob
 ·have:=S'.dj i ρ.length e c a (up i e h) (.inl at') (jz_ q) ats
  have:=lo i e h
  lia
theorem VO_(c c':OC):setC (ρ++[some (.ol c)]) ρ.length c'=ρ++[some (.ol c')]:=by
 unfold setC
 simp
end
section
variable {X:Cx}{k:Nat}{f C:Addr}{fd:FuncData}{ps:List Str}{sp:Sp}
theorem VS_{pins:List (Addr×Obj)}{σ:L2.St}{H:Hp}{s:Shared}{Q:VK}{us:List Value}{vs:List V}(M:Mk X.K C f)(F:FnOk X.prog X.w X.K X.mg X.base (CX1 X.prog X.w) k f fd ps sp)(hr:Room (k+1) X.A)(hb:L2.Binds X.K fd ps [])
  (I:Inv X pins σ H s) (r:Vals vs us)
  (h:∀x dx,H x=none->H dx=none->dx≠x->sp (.ref x::vs) (upd (upd H dx (.own x)) x (.ins C dx [])) (λv H2=>v=.non/\Q (.ref x) H2) (λ_ _ _=>False)) :
  wpAny (model X.prog X.w) X.A (call (.ref C) us) (EP X pins σ Q) X.xe s:=by
 refine L2.run_make (dvs:=[]) (ds:=[]) M F hr hb .nil (E:=λ_ _ _=>False) (λpins σ H s e s' I h=>?_) I r λx dx h1 h2 h3=>by rw[List.append_nil];exact h x dx h1 h2 h3
 obtain⟨_,_,_,_,_,_,_,_,_,_,z⟩:=h
 exact z.elim
end
section
variable {S:Type}
noncomputable def newI(m:M (D×List D))(k:List D->M S):M S:=match m with
 | .ret (.none,f)=>k f
 | _=>.bad
def zdT_(j:Nat)(x:Str)(ms:List Str)(mf:List D->List D->M (D×List D))(me:Ev S (List D)):SM S:=λK ρ=>me K.x (λds ρ1=>newI (mf [] ds) λf=>match Yc_ ρ1 j with
 | true=>K.nx (ρ1.set j (some (.ol (.i x ms f))))
 | false=>.bad) ρ
structure CN(P:Program)(w:World)(K:Fg)(mg:Str->Option Value)(base:Heap)(C:Addr)(x:Str)(k:Nat)(sp:Sp):Prop where
 ex:∃(f:Addr) (fd:FuncData) (ps:List Str),FnOk P w K mg base (CX1 P w) k f fd ps sp/\Mk K C f/\L2.Binds K fd ps []/\mg x=some (.ref C)
variable {X:Cx}{k n j:Nat}{f C:Addr}{fd:FuncData}{ps:List Str}{mf:List D->List D->M (D×List D)}{x y:Str}{ms:List Str}{p pos pos' pos2:Pos}{e:Expr}{es:List Expr}{me:Ev S (List D)}
theorem zbG_(c:IC X.K x C)(Cn:CN X.prog X.w X.K X.mg X.base C x k (spI1 X.K x [] ms n mf))(hr:Room (k+1) X.A)(hg:Gl X x)
  (ha:AEa X (e::es) me) (hn:(e::es).length+1=n) (hdb:(x==("__debug__" : Str))=false) (he:starEach (e::es) X.env=(false,eval e X.env)::starEach es X.env) (hpl:(backTo pos2 (starEach es X.env)).any (·.1)=false)
  (hN:X.N.Nodup) (hi:X.N[j]? = some y) (hy:Loc X.env.scope y) (hs:swapsWith (.Call (.Name x p) (e::es) [] pos2) (some (.Name y pos')) pos.line X.env=pure false) (hf:X.fn y=true\/X.env.scope.names.lookup y=some .local) :
  AS X (.Assign [.Name y pos'] (.Call (.Name x p) (e::es) [] pos2) pos) (zdT_ j x ms mf me):=λOK K G F σ H ρ E hO hX St ok eo=>by
 obtain⟨f,fd,ps,Fn,Mf,hb,hm⟩:=Cn.ex
 refine semS (V4_ hN hi hy zm_ hs hf) ?_
 show tSem X (.Call (.Name x p) (e::es) [] pos2) σ H _
 unfold tSem
 intro pins s I
 have ar:uR_ X (e::es) σ H λvs H1=>∀a dx,H1 a=none->H1 dx=none->dx≠a->spI1 X.K x [] ms n mf (.ref a::vs) (upd (upd H1 dx (.own a)) a (.ins C dx [])) (λv H2=>v=.non/\E.nx (σ.set j (some (.ref a))) H2) (λ_ _ _=>False) :=
  ha OK K.x _ G F σ H ρ _ hO hX St ok λds vs F1 H1 ρ1 s1 S1 hl r1 o1=>by
   intro a dx h1 h2 h3
   unfold newI at o1
   split at o1
   case h_2=>exact(hO o1).elim
   rename_i g hd
   split at o1
   case h_2=>exact(hO o1).elim
   rename_i hok
   obtain⟨hlj,hop⟩:=ye_ hok
   have hx:(upd H1 dx (.own a)) a=none:=by rw[zo_ (Ne.symm h3)];exact h1
   have S2:StOk X.K G F1 σ (upd (upd H1 dx (.own a)) a (.ins C dx [])) ρ1:=(S1.lay h2).lay hx
   have oa:OwnAt X.K G F1 (upd (upd H1 dx (.own a)) a (.ins C dx [])) a (.i x [] []):=⟨S1.fh.free h1,S1.oh.free h1,C,dx,[],zw_,c.ns,rfl,.nil⟩
   have ne:∀(i:Nat) (e:OC),own ρ1 i e->σ[i]? ≠ some (some (V.ref a)):=S1.fresh_ne h1
   have S3:=StOk.more S2 oa ne
   have ho:own (ρ1++[some (.ol (.i x [] []))]) ρ1.length (.i x [] []):=.inl (by simp)
   have hs':(σ++[some (V.ref a)])[ρ1.length]? = some (some (V.ref a)):=by rw[<-S1.ln];simp
   refine⟨_,F1,[],ds,by rw[List.length_cons,hl];exact hn,y2_ S3 ho hs' r1,?_⟩
   rw[hd]
   intro v F2 H2 s2 S4 r2
   obtain⟨S5,_⟩:=Zo_ (c':=.i x ms g) (l:=ds.map AV.fz) S3 ho hs' s2 S4
   rw[VO_]at S5
   obtain⟨S6,r6⟩:=StOk.less (u:=none) (av:=.fz .none) S2 S5
   refine⟨r2.inv,eo.nx F2 _ H2 _ (s1.trans s2) (S6.store hop hlj (.inr ⟨.i x ms g,rfl,r6⟩)) o1⟩
 unfold uR_ at ar
 refine wpAny_Call_Name_kw (Uy_ I hg hm ?_ hdb)
 refine PySem.W.callWith_K (h₀:=X.base) I.ok.mod.kin Mf.kp (thn (ar pos2 pins s I) λus s1 hh=>?_) he hpl
 obtain⟨vs,H1,I1,r,q⟩:=hh
 exact⟨I1.kIn,VS_ Mf Fn hr hb I1 r q⟩
end
def TK(K:Fg)(g:Str)(ws:List Str):Prop:=∃a o its n,PySem.W.nsIn K mainGlobals g=some (some (.ref a))/\K.lookup a=some o/\o.cls=.type "tuple" /\ o.data=.seq its n/\Vals (ws.map V.str) its.toList
def ZS_(g:Str)(ws:List Str)(x y:D):Option Bool:=if fnQ y g&&inOk x (ws.map PyData.str)then some (!(ws.map PyData.str).any λz=>PyData.eqv z x)else none
theorem Xl_{h:Heap}:∀{ws:List Str} {us:List Value},Vals (ws.map V.str) us->∃as,ReadsAll h us (ws.map PyData.str) as:=by
 intro ws
 induction ws with
 | nil=>intro us r;cases r;exact⟨[],.nil⟩
 | cons w ws ih =>
  intro us r
  cases r with
  | cons a b =>
   obtain⟨t,rfl⟩:=a
   obtain⟨as,q⟩:=ih b
   exact⟨_,.cons (.str _ _) q⟩
theorem Va_{X:Cx}{g:Str}{ws:List Str}(hu:X.A.units+1100<cLine)(k:TK X.K g ws):OpR X (compareOp .NotIn) (rD2 X.K (ZS_ g ws)):=by
 intro pins s σ H x y v u Q I rx ry hh
 obtain⟨d,e,b,r1,r2,ho,q⟩:=hh
 unfold ZS_ at ho
 split at ho
 case isFalse=>cases ho
 rename_i hc
 cases ho
 rw[Bool.and_eq_true]at hc
 obtain⟨hf,hc⟩:=hc
 obtain rfl:=zdj_ hf
 obtain⟨a,e1,e2⟩:=zey_ r2
 subst e1
 obtain rfl:u=Value.ref a:=ry
 obtain⟨a',o,its,n,h1,h2,h3,h4,h5⟩:=k
 have:=e2.symm.trans h1
 injection this with this;injection this with this;injection this with this
 subst this
 simp only[inOk,Bool.and_eq_true,zzi]at hc
 obtain⟨as,ra⟩:=(jP_ I).1 r1 hc.1.2 rx
 obtain⟨bs,rb⟩:=Xl_ (h:=s.heap) h5
 refine SeqAt.notIn_tuple_reads (.tuple (I.kIn a o h2) h3 h4 rb) ra hc.1.1 hc.1.2 (by have:=Nat.min_le_right (PyData.depthAll (ws.map PyData.str)) d.depth;lia) ⟨.bl _,H,I,rfl,q⟩
section
variable {K:Fg}{x m qual:Str}{st:Stmt}{C f:Addr}{oc:Value}{od an:Option Addr}{osl:Array (Option Value)}{kV doc pm cdv ct:Value}
def Fm(K:Fg)(C:Addr)(m qual:Str)(st:Stmt):Prop:=∃f fd,Meth K C m f/\Fun K m qual st f fd
theorem Y4_(a:PySem.W.findIn K (.ref C) m=some (some (.ref f)))(l:K.lookup f=some ⟨oc,od,.func (PySem.W.fnOf m qual (jT_ st) (z2_ st) (zd_ st) .none kV doc pm an cdv ct),osl⟩)
  (c:PySem.W.codeIn K cdv qual=true) (k:PySem.W.keepIn K (.ref f)=true) (i:PySem.W.isFn K (.ref f)=true):Fm K C m qual st:=⟨f,_,⟨a,i,k⟩,QI_ l c k⟩
def Fi(K:Fg)(C:Addr)(qual:Str)(st:Stmt):Prop:=∃f fd,Mk K C f/\Fun K "__init__" qual st f fd
theorem zez_(a:PySem.W.findIn K (.ref C) "__init__" = some (some (.ref f)))(l:K.lookup f=some ⟨oc,od,.func (PySem.W.fnOf "__init__" qual (jT_ st) (z2_ st) (zd_ st) .none kV doc pm an cdv ct),osl⟩)
  (c:PySem.W.codeIn K cdv qual=true) (k:PySem.W.keepIn K (.ref f)=true) (i:PySem.W.isFn K (.ref f)=true) (mk:PySem.W.makesIn K C=true) (kp:PySem.W.keepIn K (.ref C)=true):Fi K C qual st:=⟨f,_,⟨mk,a,i,kp⟩,QI_ l c k⟩
def Ci(K:Fg)(x:Str)(C:Addr)(ns:List Str):Prop:=IC K x C/\∀f∈ns,NoAttr K C f
theorem zeC_{ns:List Str}(a:PySem.W.nsIn K mainGlobals x=some (some (.ref C)))(pg:PySem.W.plainGet K C Str.empty=true)(hd:PySem.W.hasDictIn K C=true)(po:PySem.W.plainOver K C=true)
  (sa:PySem.W.findIn K (.ref C) "__setattr__" = some (some (.builtin "object.__setattr__"))) (n:∀f∈ns,NoAttr K C f):Ci K x C ns:=⟨⟨a,⟨pg,hd,po,sa⟩⟩,n⟩
def Kc(K:Fg)(x:Str)(v:V):Prop:=∃u,PySem.W.nsIn K mainGlobals x=some (some u)/\RelV v u
theorem Vn_{u:Value}{v:V}(a:PySem.W.nsIn K mainGlobals x=some (some u))(r:RelV v u):Kc K x v:=⟨u,a,r⟩
theorem Vo_{h:Heap}{mg:Str->Option Value}{v:V}(X:K.In h)(G:h.Ns mainGlobals mg)(c:Kc K x v):∃u,mg x=some u/\RelV v u:=let ⟨u,a,r⟩:=c;⟨u,PySem.W.mg_of X G a,r⟩
theorem zdD_{a:Addr}{o:Obj}{its:Array Value}{n:Nat}{ws:List Str}(h1:PySem.W.nsIn K mainGlobals x=some (some (.ref a)))(h2:K.lookup a=some o)(h3:o.cls=.type "tuple")(h4:o.data=.seq its n)(h5:Vals (ws.map V.str) its.toList):TK K x ws:=⟨a,o,its,n,h1,h2,h3,h4,h5⟩
theorem zdE_{h:Heap}{mg:Str->Option Value}{ws:List Str}(X:K.In h)(G:h.Ns mainGlobals mg)(c:TK K x ws):∃a,mg x=some (.ref a)/\PySem.W.nsIn K mainGlobals x=some (some (.ref a)):=let ⟨a,_,_,_,h,_⟩:=c;⟨a,PySem.W.mg_of X G h,h⟩
end
end L4
set_option maxHeartbeats 8000000
namespace K08
open PySem PySem.Spec PyProof.Rows L2 L3 L4
noncomputable section
noncomputable def top(i:Nat):Stmt:=PySem.Challenge.pw_passersby_k08_questions_as_texts.main.body.getD i (.Pass ⟨0,0,0,0⟩)
noncomputable abbrev BL:List Str:=["range", "len", "tuple", "min", "abs", "repr", "isinstance", "all", "any", "int", "str", "bool"]
def BN(mg:Str->Option Value):Prop:=∀x∈BL,mg x=none
theorem BN.range{mg:Str->Option Value}(B:BN mg):mg "range" = none:=B _ (by decide)
theorem BN.len{mg:Str->Option Value}(B:BN mg):mg "len" = none:=B _ (by decide)
theorem BN.tuple{mg:Str->Option Value}(B:BN mg):mg "tuple" = none:=B _ (by decide)
theorem BN.min{mg:Str->Option Value}(B:BN mg):mg "min" = none:=B _ (by decide)
theorem BN.abs{mg:Str->Option Value}(B:BN mg):mg "abs" = none:=B _ (by decide)
theorem BN.repr{mg:Str->Option Value}(B:BN mg):mg "repr" = none:=B _ (by decide)
theorem BN.isinstance{mg:Str->Option Value}(B:BN mg):mg "isinstance" = none:=B _ (by decide)
theorem BN.all{mg:Str->Option Value}(B:BN mg):mg "all" = none:=B _ (by decide)
theorem BN.any{mg:Str->Option Value}(B:BN mg):mg "any" = none:=B _ (by decide)
theorem BN.int{mg:Str->Option Value}(B:BN mg):mg "int" = none:=B _ (by decide)
theorem BN.str{mg:Str->Option Value}(B:BN mg):mg "str" = none:=B _ (by decide)
theorem BN.bool{mg:Str->Option Value}(B:BN mg):mg "bool" = none:=B _ (by decide)
structure KX(K:Fg)(mg:Str->Option Value):Prop where
 t_QUESTION_WORDS:TK K "QUESTION_WORDS" ["least", "more", "rest", "both", "either", "not"]
 f_QUESTION_WORDS:∃a,mg "QUESTION_WORDS" = some (.ref a)/\PySem.W.nsIn K mainGlobals "QUESTION_WORDS" = some (some (.ref a))
structure KN(mg:Str->Option Value):Prop where
 MOST_QUESTIONS:∃u,mg "MOST_QUESTIONS" = some u/\RelV (.int 7) u
 MOST_WITHIN:∃u,mg "MOST_WITHIN" = some u/\RelV (.int 4) u
 MOST_LEAST:∃u,mg "MOST_LEAST" = some u/\RelV (.int 9) u
 MOST_REST:∃u,mg "MOST_REST" = some u/\RelV (.int 9) u
 FIGURES:∃u,mg "FIGURES" = some u/\RelV (.str "0123456789") u
 MOST_FIGURES:∃u,mg "MOST_FIGURES" = some u/\RelV (.int 9) u
section
variable {P:Program}{w:World}{K:Fg}{mg:Str->Option Value}{base:Heap}
noncomputable abbrev zc_:List Str:=["number", "words", "place", "asked"]
variable {CA_Row:Addr}
noncomputable def uE_(s:Stmt):List Stmt:=match s with
 | .ClassDef _ _ _ b _ _ _ _ _ _ _=>b
 | _=>[]
abbrev uw_:Stmt:=(uE_ (top 16)).getD 0 (.Pass ⟨0,0,0,0⟩)
theorem Jw_:FnScope ["self", "row", "word"] ["self", "row", "word"] (zd_ uw_):=⟨rfl,rfl,rfl,by decide +kernel,rfl,by decide +kernel,by decide +kernel⟩
theorem WQ_{Cl D f:Addr}{fd:FuncData}(Fn:Fun K "__init__" "NoText.__init__" uw_ f fd)(c:XC K Cl D f)(hm:mg "NoText" = some (.ref Cl))(hc:XQ K Cl "NoText")(kp:PySem.W.keepIn K (.ref Cl)=true)(na:∀f∈(["row", "word"]:List Str),NoAttr K Cl f)(ex:PySem.W.exmOne K (.ref Cl) (.ref Cl)=some true):CCl P w K mg base "NoText" 1 ["row", "word"] :=
 ⟨Cl,D,f,fd,["self", "row", "word"],c,zeq_ (k:=0) Fn Jw_ rfl c (na _ (by simp)) (na _ (by simp)) (by decide),(bnd3 Fn λ_ _ _ _ _ _ _ _ _=>rfl),hm,hc,kp,na,ex⟩
noncomputable abbrev Za_:Stmt:=top 1
noncomputable abbrev VA_:List Str:=["thing"]
theorem YP_:FnScope VA_ ["thing"] (zd_ Za_):=⟨rfl,rfl,rfl,by decide +kernel,rfl,by decide +kernel,by decide +kernel⟩
def Zp_(gaq:D):M D :=
 bd (bd (bd (oM (isTo "int" gaq)) λb2=>if b2 then bd (oM (isTo "bool" gaq)) λb1=>.ret (!b1)else .ret false) λb3=>.ret (.bool b3)) λx4=>.ret x4
def Jc_:List D->M D:=λl=>match l with
 | [gaq]=>Zp_ gaq
 | _=>.bad
set_option maxHeartbeats 4000000 in
theorem YV_{f:Addr}{fd:FuncData}(Fn:Fun K "is_whole" "is_whole" Za_ f fd)(hmg:mg "is_whole" = some (.ref f))(B:BN mg)(Kn:KN mg)(Kx:KX K mg):CF P w K mg base "is_whole" 1 (spD K 1 Jc_) :=
 ⟨f,fd,["thing"],un_ (k:=0) Fn YP_ (λcdv A outer s H E hr =>
 (zi_ (zv_ (zg_ (ap_b (zav_ (XY_ (T := "int") (by decide) rfl B.isinstance rfl B.int (by decide +kernel) (ao (av 0)) rfl rfl rfl) (zau_ (zdx_ (XY_ (T := "bool") (by decide) rfl B.isinstance rfl B.bool (by decide +kernel) (ao (av 0)) rfl rfl rfl)))))))))
 (λds hl=>(by obtain⟨gaq,rfl⟩:=ln1 hl;kernel_rfl)),hmg,Fn.kp,(bnd1 Fn λ_ _ _ _ _ _ _=>rfl)⟩
noncomputable abbrev ys_:Stmt:=top 2
noncomputable abbrev Qc_:List Str:=["thing", "least", "most"]
theorem UV_:FnScope Qc_ ["thing", "least", "most"] (zd_ ys_):=⟨rfl,rfl,rfl,by decide +kernel,rfl,by decide +kernel,by decide +kernel⟩
def uG_(gaq:D)(gaK:D)(gaX:D):M D :=
 bd (bd (bd (bd (Zp_ gaq) λx1=>asB x1) λb3=>if b3 then bd (oM (Uo_ gaK gaq)) λb2=>if b2 then oM (Uo_ gaq gaX)else .ret false else .ret false) λb4=>.ret (.bool b4)) λx5=>.ret x5
def Zx_:List D->M D:=λl=>match l with
 | [gaq,gaK,gaX]=>uG_ gaq gaK gaX
 | _=>.bad
set_option maxHeartbeats 4000000 in
theorem U6_{f:Addr}{fd:FuncData}(Fn:Fun K "is_within" "is_within" ys_ f fd)(hmg:mg "is_within" = some (.ref f))(B:BN mg)(Kn:KN mg)(Kx:KX K mg)(ga7:CF P w K mg base "is_whole" 1 (spD K 1 Jc_)):CF P w K mg base "is_within" 2 (spD K 3 Zx_) :=
 ⟨f,fd,["thing", "least", "most"],un_ (k:=1) Fn UV_ (λcdv A outer s H E hr =>
 (zi_ (zv_ (zg_ (ap_b (zav_ (zeJ_ (ya_ ga7 (hr.mono (by decide)) rfl (zh_ (av 0) zn_ (za_ rfl)) rfl (by decide) rfl rfl)) (zau_ (XZ_ (JS_ (zk_ hr)) (JS_ (zk_ hr)) JT_ JT_ (ao (av 1)) (ao (av 0)) (ao (av 2)) (by with_unfolding_all rfl)))))))))
 (λds hl=>(by obtain⟨gaq,gaK,gaX,rfl⟩:=ln3 hl;kernel_rfl)),hmg,Fn.kp,(bnd3 Fn λ_ _ _ _ _ _ _ _ _=>rfl)⟩
noncomputable abbrev yt_:Stmt:=top 3
noncomputable abbrev Qd_:List Str:=["sorts", "thing", "ahead", "sort"]
theorem sc_are_sorts:FnScope Qd_ ["sorts", "thing"] (zd_ yt_):=⟨rfl,rfl,rfl,by decide +kernel,rfl,by decide +kernel,by decide +kernel⟩
noncomputable def ym_(gaA:D)(gbe:D):M D :=
 .ret (.bool true)
def jQ_(gaA:D)(gbe:D)(d_:D)(kn5:D×D×Unit->M D):M D :=
 bd (bd (bd (bd (oM (z1_ gbe (.int 1))) λx6=>bd (oM (yh_ gaA (.int 1))) λx7=>uG_ d_ x6 x7) λx8=>oM (truD x8)) λb9=>.ret (!b9)) λb10=>if b10 then
  .ret (.bool false)
  else
  kn5 (gaA,d_,())
def uH_(gal:D)(gaq:D):M D :=
 bd (bd (oM (isTo "tuple" gaq)) λb1=>.ret (!b1)) λb2=>if b2 then
  .ret (.bool false)
  else
  bd (oM (zbe_ (.int 1))) λx3=>bd (oM (seqS gaq)) λl4=>forS (λs11 d12 kn=>jQ_ s11.1 s11.2.1 d12 kn) l4 (gal,x3,()) (λs11=>ym_ s11.1 s11.2.1)
def Zy_:List D->M D:=λl=>match l with
 | [gal,gaq]=>uH_ gal gaq
 | _=>.bad
set_option maxHeartbeats 4000000 in
theorem U7_{f:Addr}{fd:FuncData}(Fn:Fun K "are_sorts" "are_sorts" yt_ f fd)(hmg:mg "are_sorts" = some (.ref f))(B:BN mg)(Kn:KN mg)(Kx:KX K mg)(gaT:CF P w K mg base "is_within" 2 (spD K 3 Zx_)):CF P w K mg base "are_sorts" 3 (spD K 2 Zy_) :=
 ⟨f,fd,["sorts", "thing"],un_ (k:=2) Fn sc_are_sorts (λcdv A outer s H E hr =>
 (ze_ (jU_ (z5_ (J6_ (at_b (XY_ (T := "tuple") (by decide) rfl B.isinstance rfl B.tuple (by decide +kernel) (ao (av 1)) rfl rfl rfl) (λ_=>rfl))))
  (zi_ (zv_ (zg_ Vx_)))
  zI_)
  (ze_ (zL_ (sh:=[.f,.f,.f,.dead]) (zR_ (i:=2) sc_are_sorts.nd rfl (by first|exact Or.inl rfl|exact Or.inr rfl) (zg_ (zeE_ zbL_ zcK_ (ao zf_))) rfl (.inl rfl)))
  (ze_ (UI_ (sh:=[.f,.dead,.f,.dead]) PassesOwn.leaving rfl (J9_ (um_ (av 1))) (z9_ (i:=3) (Nat.zero_le _) sc_are_sorts.nd rfl (by first|exact Or.inl rfl|exact Or.inr rfl) (.inl rfl))
  (ze_ (jU_ (z5_ (J6_ (zan_ (ao (ya_ gaT (hr.mono (by decide)) rfl (zh_ (av 3) (zh_ (zz_ zW_ ju_ (ao (av 2)) (ao zf_)) (zh_ (zz_ yN_ yP_ (ao (av 0)) (ao zf_)) zn_ (za_ rfl)) (za_ rfl)) (za_ rfl)) rfl (by decide) rfl rfl)) (λ_=>rfl))))
  (zi_ (zv_ (zg_ Vx_)))
  zI_)
  (zi_ (zR_ (i:=2) sc_are_sorts.nd rfl (by first|exact Or.inl rfl|exact Or.inr rfl) (zg_ (av 3)) rfl (.inl rfl)))) (λ_=>rfl))
  (zi_ (zv_ (zg_ Vx_)))))))
 (λds hl=>(by obtain⟨gal,gaq,rfl⟩:=ln2 hl;kernel_rfl)),hmg,Fn.kp,(bnd2 Fn λ_ _ _ _ _ _ _ _=>rfl)⟩
noncomputable abbrev y9_:Stmt:=top 9
noncomputable abbrev Vz_:List Str:=["word"]
theorem YO_:FnScope Vz_ ["word"] (zd_ y9_):=⟨rfl,rfl,rfl,by decide +kernel,rfl,by decide +kernel,by decide +kernel⟩
def zG_(gav:D):M D :=
 bd (oM (uA_ gav (.tuple [(.str "both"),(.str "either")]))) λb1=>if b1 then
  .ret (.int 2)
  else
  bd (bd (oM (opEq gav (.str "not"))) λb2=>if b2 then .ret (.int 1)else .ret (.int 0)) λx3=>.ret x3
def j4_:List D->M D:=λl=>match l with
 | [gav]=>zG_ gav
 | _=>.bad
set_option maxHeartbeats 4000000 in
theorem YU_{f:Addr}{fd:FuncData}(Fn:Fun K "parts_of" "parts_of" y9_ f fd)(hmg:mg "parts_of" = some (.ref f))(B:BN mg)(Kn:KN mg)(Kx:KX K mg):CF P w K mg base "parts_of" 1 (spD K 1 j4_) :=
 ⟨f,fd,["word"],un_ (k:=0) Fn YO_ (λcdv A outer s H E hr =>
 (ze_ (jU_ (z5_ (zF_ (Zc_ (zk_ hr)) JU_ (ao (av 0)) (ao (yn_ (zh_ zS_ (zh_ zS_ zn_ (za_ rfl)) (za_ rfl)) (by decide +kernel))) rfl))
  (zi_ (zv_ (zg_ zf_)))
  zI_)
  (zi_ (zv_ (zg_ (YJ_ (zF_ (js_ (zk_ hr)) jY_ (ao (av 0)) (ao zS_) rfl) zf_ zf_))))))
 (λds hl=>(by obtain⟨gav,rfl⟩:=ln1 hl;kernel_rfl)),hmg,Fn.kp,(bnd1 Fn λ_ _ _ _ _ _ _=>rfl)⟩
noncomputable abbrev jO_:Stmt:=top 11
noncomputable abbrev yp_:List Str:=["numbers"]
theorem Z0_:FnScope yp_ ["numbers"] (zd_ jO_):=⟨rfl,rfl,rfl,by decide +kernel,rfl,by decide +kernel,by decide +kernel⟩
noncomputable abbrev N_shown_counts_0:List Str:=["numbers", "number"]
theorem yy_:N_shown_counts_0.Nodup:=by decide +kernel
def uk_(gaY:D):M D :=
 bd (onT .str (.str ",") (bd (bd (bd (oM (seqS gaY)) λl3=>bd (zC_ (λd1=>bd (oM (fStr [d1])) λx2=>.ret (some x2)) l3) fitM) λl4=>.ret (PyData.list l4)) λx5=>oM (Jl_ (.str ",") [x5]))) λx6=>.ret x6
def u1_:List D->M D:=λl=>match l with
 | [gaY]=>uk_ gaY
 | _=>.bad
set_option maxHeartbeats 4000000 in
theorem Z7_{f:Addr}{fd:FuncData}(Fn:Fun K "shown_counts" "shown_counts" jO_ f fd)(hmg:mg "shown_counts" = some (.ref f))(B:BN mg)(Kn:KN mg)(Kx:KX K mg):CF P w K mg base "shown_counts" 1 (spD K 1 u1_) :=
 ⟨f,fd,["numbers"],un_ (k:=0) Fn Z0_ (λcdv A outer s H E hr =>
 (zi_ (zv_ (zg_ (yE_ (ty:=.str) PySem.F.plainAttrs_str PySem.F.slot_str_join PySem.F.type_str_join yz_ (ao zS_) (zh_ (ap_z (uJ_ (N':=N_shown_counts_0) (k:=1) rfl (zT_ (N:=yp_) (sc:=(zd_ jO_)) (by decide +kernel) rfl rfl) (um_ (av 0)) (λcl s' H' fp C'=>(z9_ (i:=1) (show 1<=1 by decide) yy_ rfl (by first|exact Or.inl rfl|exact Or.inr rfl) (.inr rfl))) (λcl s' H' fp C'=>ul_) (λcl s' H' fp C'=>(jh_ ua_ Qx_ rfl B.str (by decide +kernel) (zp_ (ao (av 1)) zA_ (za_ rfl)) (by decide) (by decide) rfl rfl)) (λ_=>rfl))) zn_ (za_ rfl)) rfl rfl rfl rfl rfl)))))
 (λds hl=>(by obtain⟨gaY,rfl⟩:=ln1 hl;kernel_rfl)),hmg,Fn.kp,(bnd1 Fn λ_ _ _ _ _ _ _=>rfl)⟩
noncomputable abbrev uu_:Stmt:=top 12
noncomputable abbrev UL_:List Str:=["some"]
theorem Jv_:FnScope UL_ ["some"] (zd_ uu_):=⟨rfl,rfl,rfl,by decide +kernel,rfl,by decide +kernel,by decide +kernel⟩
def jb_(gbc:D):M D :=
 bd (bd (bd (oM (fLen [gbc])) λx1=>oM (opGt x1 (.int 0))) λb2=>if b2 then uk_ gbc else .ret (.str "-")) λx3=>.ret x3
def uh_:List D->M D:=λl=>match l with
 | [gbc]=>jb_ gbc
 | _=>.bad
set_option maxHeartbeats 4000000 in
theorem Jy_{f:Addr}{fd:FuncData}(Fn:Fun K "shown_sorts" "shown_sorts" uu_ f fd)(hmg:mg "shown_sorts" = some (.ref f))(B:BN mg)(Kn:KN mg)(Kx:KX K mg)(gaI:CF P w K mg base "shown_counts" 1 (spD K 1 u1_)):CF P w K mg base "shown_sorts" 2 (spD K 1 uh_) :=
 ⟨f,fd,["some"],un_ (k:=1) Fn Jv_ (λcdv A outer s H E hr =>
 (zi_ (zv_ (zg_ (YJ_ (zF_ Vb_ Vd_ (ao (zQ_ je_ yk_ rfl B.len PySem.boot_len (zp_ (ao (av 0)) zA_ (za_ rfl)) (by decide) (by decide) rfl rfl)) (ao zf_) rfl) (ya_ gaI (hr.mono (by decide)) rfl (zh_ (av 0) zn_ (za_ rfl)) rfl (by decide) rfl rfl) zS_)))))
 (λds hl=>(by obtain⟨gbc,rfl⟩:=ln1 hl;kernel_rfl)),hmg,Fn.kp,(bnd1 Fn λ_ _ _ _ _ _ _=>rfl)⟩
noncomputable abbrev zM_:Stmt:=top 13
noncomputable abbrev jV_:List Str:=["question", "word"]
theorem sc_shown_question:FnScope jV_ ["question"] (zd_ zM_):=⟨rfl,rfl,rfl,by decide +kernel,rfl,by decide +kernel,by decide +kernel⟩
noncomputable abbrev N_shown_question_0:List Str:=["question", "word", "part"]
theorem uZ_:N_shown_question_0.Nodup:=by decide +kernel
noncomputable abbrev N_shown_question_1:List Str:=["question", "word", "number"]
theorem uY_:N_shown_question_1.Nodup:=by decide +kernel
def zq_(self:D->M D)(gat:D):M D :=
 bd (oM (zH_ gat (.int 0))) λx1=>bd (bd (zG_ x1) λx2=>oM (opGt x2 (.int 0))) λb3=>if b3 then
  bd (onT .str (.str " ") (bd (bd (bd (bd (bd (bd (asI (.int 1)) λlo4=>oM (yZ_ gat lo4 none)) λx5=>oM (seqS x5)) λl8=>bd (zC_ (λd6=>bd (self d6) λx7=>.ret (some x7)) l8) fitM) λl9=>.ret (PyData.list l9)) λx10=>oM (z1_ (PyData.list [x1]) x10)) λx11=>oM (Jl_ (.str " ") [x11]))) λx12=>.ret x12
  else
  bd (oM (opEq x1 (.str "more"))) λb13=>if b13 then
  bd (onT .str (.str " ") (bd (bd (bd (bd (oM (zH_ gat (.int 1))) λx14=>jb_ x14) λx15=>bd (bd (oM (zH_ gat (.int 2))) λx16=>jb_ x16) λx17=>.ret [x1,x15,x17]) λl18=>.ret (PyData.list l18)) λx19=>oM (Jl_ (.str " ") [x19]))) λx20=>.ret x20
  else
  bd (onT .str (.str " ") (bd (bd (bd (bd (bd (oM (zH_ gat (.int 1))) λx21=>jb_ x21) λx22=>.ret [x1,x22]) λl23=>.ret (PyData.list l23)) λx30=>bd (bd (bd (bd (bd (asI (.int 2)) λlo24=>oM (yZ_ gat lo24 none)) λx25=>oM (seqS x25)) λl28=>bd (zC_ (λd26=>bd (oM (fStr [d26])) λx27=>.ret (some x27)) l28) fitM) λl29=>.ret (PyData.list l29)) λx31=>oM (z1_ x30 x31)) λx32=>oM (Jl_ (.str " ") [x32]))) λx33=>.ret x33
def zY_:Nat->D->M D
 | 0=>λ_=>.bad
 | i+1=>zq_ (zY_ i)
noncomputable def zK_(i:Nat):List D->M D:=λl=>match l with
 | [gat]=>zY_ i gat
 | _=>.bad
set_option maxHeartbeats 4000000 in
theorem Zl_{f:Addr}{fd:FuncData}(Fn:Fun K "shown_question" "shown_question" zM_ f fd)(B:BN mg)(Kn:KN mg)(Kx:KX K mg)(gao:CF P w K mg base "parts_of" 1 (spD K 1 j4_))(gan:CF P w K mg base "shown_sorts" 2 (spD K 1 uh_))(i:Nat)(Cself:CF P w K mg base "shown_question" (3+i) (spD K 1 (zK_ i))):FnOk P w K mg base (CX1 P w) (3+i+1) f fd ["question"] (spD K 1 (zK_ (i+1))) :=
 un_ (k:=3+i) Fn sc_shown_question (λcdv A outer s H E hr =>
 (ze_ (zL_ (sh:=[.f,.f]) (zR_ (i:=1) sc_shown_question.nd rfl (by first|exact Or.inl rfl|exact Or.inr rfl) (zg_ (uQ_ (jy_ (zk_ hr)) jt_ (ao (av 0)) (ao zf_) (λ_ _=>rfl))) rfl (.inl rfl)))
  (ze_ (jU_ (z5_ (zF_ Vb_ Vd_ (ao (ya_ gao (hr.mono (by omega)) rfl (zh_ (av 1) zn_ (za_ rfl)) rfl (by decide) rfl rfl)) (ao zf_) rfl))
  (zi_ (zv_ (zg_ (yE_ (ty:=.str) PySem.F.plainAttrs_str PySem.F.slot_str_join PySem.F.type_str_join yz_ (ao zS_) (zh_ (zz_ zW_ ju_ (ao (ap_z (yo_ (zh_ (av 1) zn_ (za_ rfl)) (by decide +kernel)))) (ao (ap_z (uJ_ (N':=N_shown_question_0) (k:=1) rfl (zT_ (N:=jV_) (sc:=(zd_ zM_)) (by decide +kernel) rfl rfl) (um_ (y4_ (ao (av 0)) (ZV_ zf_) ZW_)) (λcl s' H' fp C'=>(z9_ (i:=2) (show 2<=2 by decide) uZ_ rfl (by first|exact Or.inl rfl|exact Or.inr rfl) (.inr rfl))) (λcl s' H' fp C'=>ul_) (λcl s' H' fp C'=>(ya_ Cself (hr.mono (by omega)) rfl (zh_ (av 2) zn_ (za_ rfl)) rfl (by decide) rfl rfl)) (λ_=>rfl))))) zn_ (za_ rfl)) rfl rfl rfl rfl rfl))))
  zI_)
  (ze_ (jU_ (z5_ (zF_ (js_ (zk_ hr)) jY_ (ao (av 1)) (ao zS_) rfl))
  (zi_ (zv_ (zg_ (yE_ (ty:=.str) PySem.F.plainAttrs_str PySem.F.slot_str_join PySem.F.type_str_join yz_ (ao zS_) (zh_ (ap_z (yo_ (zh_ (av 1) (zh_ (ya_ gan (hr.mono (by omega)) rfl (zh_ (uQ_ (jy_ (zk_ hr)) jt_ (ao (av 0)) (ao zf_) (λ_ _=>rfl)) zn_ (za_ rfl)) rfl (by decide) rfl rfl) (zh_ (ya_ gan (hr.mono (by omega)) rfl (zh_ (uQ_ (jy_ (zk_ hr)) jt_ (ao (av 0)) (ao zf_) (λ_ _=>rfl)) zn_ (za_ rfl)) rfl (by decide) rfl rfl) zn_ (za_ rfl)) (za_ rfl)) (za_ rfl)) (by decide +kernel))) zn_ (za_ rfl)) rfl rfl rfl rfl rfl))))
  zI_)
  (zi_ (zv_ (zg_ (yE_ (ty:=.str) PySem.F.plainAttrs_str PySem.F.slot_str_join PySem.F.type_str_join yz_ (ao zS_) (zh_ (zz_ zW_ ju_ (ao (ap_z (yo_ (zh_ (av 1) (zh_ (ya_ gan (hr.mono (by omega)) rfl (zh_ (uQ_ (jy_ (zk_ hr)) jt_ (ao (av 0)) (ao zf_) (λ_ _=>rfl)) zn_ (za_ rfl)) rfl (by decide) rfl rfl) zn_ (za_ rfl)) (za_ rfl)) (by decide +kernel)))) (ao (ap_z (uJ_ (N':=N_shown_question_1) (k:=1) rfl (zT_ (N:=jV_) (sc:=(zd_ zM_)) (by decide +kernel) rfl rfl) (um_ (y4_ (ao (av 0)) (ZV_ zf_) ZW_)) (λcl s' H' fp C'=>(z9_ (i:=2) (show 2<=2 by decide) uY_ rfl (by first|exact Or.inl rfl|exact Or.inr rfl) (.inr rfl))) (λcl s' H' fp C'=>ul_) (λcl s' H' fp C'=>(jh_ ua_ Qx_ rfl B.str (by decide +kernel) (zp_ (ao (av 2)) zA_ (za_ rfl)) (by decide) (by decide) rfl rfl)) (λ_=>rfl))))) zn_ (za_ rfl)) rfl rfl rfl rfl rfl))))))))
 (λds hl=>(by obtain⟨gat,rfl⟩:=ln1 hl;kernel_rfl))
theorem Zd_{f:Addr}{fd:FuncData}(Fn:Fun K "shown_question" "shown_question" zM_ f fd)(hmg:mg "shown_question" = some (.ref f))(B:BN mg)(Kn:KN mg)(Kx:KX K mg)(gao:CF P w K mg base "parts_of" 1 (spD K 1 j4_))(gan:CF P w K mg base "shown_sorts" 2 (spD K 1 uh_))(i:Nat):CF P w K mg base "shown_question" (3+i) (spD K 1 (zK_ i)):=by
 induction i with
 | zero =>
  have e:zK_ 0=λ_=>.bad:=by
   funext l;unfold zK_;split<;>rfl
  rw[e]
  exact CF.zero (ps:=["question"]) _ _ hmg Fn.kp (bnd1 Fn λ_ _ _ _ _ _ _=>rfl)
 | succ i ih=>exact⟨f,fd,["question"],Zl_ Fn B Kn Kx gao gan i ih,hmg,Fn.kp,(bnd1 Fn λ_ _ _ _ _ _ _=>rfl)⟩
noncomputable abbrev uv_:Stmt:=top 21
noncomputable abbrev Jr_:List Str:=["word"]
theorem UU_:FnScope Jr_ ["word"] (zd_ uv_):=⟨rfl,rfl,rfl,by decide +kernel,rfl,by decide +kernel,by decide +kernel⟩
noncomputable abbrev N_number_of_0:List Str:=["word", "sign"]
theorem ZK_:N_number_of_0.Nodup:=by decide +kernel
def jK_(gav:D):M D :=
 bd (bd (bd (oM (fLen [gav])) λx1=>bd (oM (Uo_ (.int 1) x1)) λb2=>if b2 then oM (Uo_ x1 (.int 9))else .ret false) λb3=>.ret (!b3)) λb4=>if b4 then
  .ret .none
  else
  bd (bd (bd (bd (bd (oM (seqS gav)) λl8=>bd (zC_ (λd5=>bd (bd (oM (uA_ d5 (.str "0123456789"))) λb6=>.ret (.bool b6)) λx7=>.ret (some x7)) l8) fitM) λl9=>.ret (PyData.list l9)) λx10=>oM (fAll [x10])) λb11=>.ret (!b11)) λb12=>if b12 then
  .ret .none
  else
  bd (bd (bd (oM (zH_ gav (.int 0))) λx13=>oM (opEq x13 (.str "0"))) λb15=>if b15 then bd (oM (fLen [gav])) λx14=>oM (opGt x14 (.int 1))else .ret false) λb16=>if b16 then
  .ret .none
  else
  bd (oM (zbv_ [gav])) λx17=>.ret x17
def u2_:List D->M D:=λl=>match l with
 | [gav]=>jK_ gav
 | _=>.bad
set_option maxHeartbeats 4000000 in
theorem U4_{f:Addr}{fd:FuncData}(Fn:Fun K "number_of" "number_of" uv_ f fd)(hmg:mg "number_of" = some (.ref f))(B:BN mg)(Kn:KN mg)(Kx:KX K mg):CF P w K mg base "number_of" 1 (spD K 1 u2_) :=
 ⟨f,fd,["word"],un_ (k:=0) Fn UU_ (λcdv A outer s H E hr =>
 (ze_ (jU_ (z5_ (J6_ (QV_ (JS_ (zk_ hr)) (JS_ (zk_ hr)) JT_ JT_ (ao zf_) (ao (zQ_ je_ yk_ rfl B.len PySem.boot_len (zp_ (ao (av 0)) zA_ (za_ rfl)) (by decide) (by decide) rfl rfl)) (ao (Zr_ rfl Kn.MOST_FIGURES.choose_spec.1 Kn.MOST_FIGURES.choose_spec.2 (λ_=>.int _) (by decide))) (by with_unfolding_all rfl))))
  (zi_ (zv_ (zg_ J8_)))
  zI_)
  (ze_ (jU_ (z5_ (J6_ (at_b (QW_ (XR_ rfl) zcO_ rfl B.all (by decide +kernel) (zp_ (ao (ap_z (uJ_ (N':=N_number_of_0) (k:=1) rfl (zT_ (N:=Jr_) (sc:=(zd_ uv_)) (by decide +kernel) rfl rfl) (um_ (av 0)) (λcl s' H' fp C'=>(z9_ (i:=1) (show 1<=1 by decide) ZK_ rfl (by first|exact Or.inl rfl|exact Or.inr rfl) (.inr rfl))) (λcl s' H' fp C'=>ul_) (λcl s' H' fp C'=>(ap_b (W5_ (Zc_ (zk_ hr)) JU_ (ao (av 1)) (ao (Zr_ rfl Kn.FIGURES.choose_spec.1 Kn.FIGURES.choose_spec.2 (λ_=>.str _) (by decide))) rfl))) (λ_=>rfl)))) zA_ (za_ rfl)) (by decide) (by decide) rfl rfl) (λ_=>rfl))))
  (zi_ (zv_ (zg_ J8_)))
  zI_)
  (ze_ (jU_ (z5_ (Vw_ (zdq_ (zF_ (js_ (zk_ hr)) jY_ (ao (uQ_ (jy_ (zk_ hr)) jt_ (ao (av 0)) (ao zf_) (λ_ _=>rfl))) (ao zS_) rfl) (zbD_ (zF_ Vb_ Vd_ (ao (zQ_ je_ yk_ rfl B.len PySem.boot_len (zp_ (ao (av 0)) zA_ (za_ rfl)) (by decide) (by decide) rfl rfl)) (ao zf_) rfl)))))
  (zi_ (zv_ (zg_ J8_)))
  zI_)
  (zi_ (zv_ (zg_ (jh_ WS_ zbg_ rfl B.int (by decide +kernel) (zp_ (ao (av 0)) zA_ (za_ rfl)) (by decide) (by decide) rfl rfl))))))))
 (λds hl=>(by obtain⟨gav,rfl⟩:=ln1 hl;kernel_rfl)),hmg,Fn.kp,(bnd1 Fn λ_ _ _ _ _ _ _=>rfl)⟩
noncomputable abbrev j9_:Stmt:=top 22
noncomputable abbrev ZD_:List Str:=["word", "numbers"]
theorem sc_numbers_of:FnScope ZD_ ["word"] (zd_ j9_):=⟨rfl,rfl,rfl,by decide +kernel,rfl,by decide +kernel,by decide +kernel⟩
noncomputable abbrev N_numbers_of_0:List Str:=["word", "numbers", "part"]
theorem Zf_:N_numbers_of_0.Nodup:=by decide +kernel
def jR_(gav:D):M D :=
 bd (bd (bd (bd (bd (onT .str gav (oM (Ys_ gav [(.str ",")]))) λl1=>.ret (PyData.list l1)) λx2=>oM (seqS x2)) λl5=>bd (zC_ (λd3=>bd (jK_ d3) λx4=>.ret (some x4)) l5) fitM) λl6=>.ret (PyData.list l6)) λx7=>bd (bd (oM (uA_ .none x7)) λb8=>if b8 then .ret .none else oM (yY_ [x7])) λx9=>.ret x9
def yS_:List D->M D:=λl=>match l with
 | [gav]=>jR_ gav
 | _=>.bad
set_option maxHeartbeats 4000000 in
theorem Uq_{f:Addr}{fd:FuncData}(Fn:Fun K "numbers_of" "numbers_of" j9_ f fd)(hmg:mg "numbers_of" = some (.ref f))(B:BN mg)(Kn:KN mg)(Kx:KX K mg)(gax:CF P w K mg base "number_of" 1 (spD K 1 u2_)):CF P w K mg base "numbers_of" 2 (spD K 1 yS_) :=
 ⟨f,fd,["word"],un_ (k:=1) Fn sc_numbers_of (λcdv A outer s H E hr =>
 (ze_ (zL_ (sh:=[.dead,.f]) (J7_ (i:=1) sc_numbers_of.nd rfl (by first|exact Or.inl rfl|exact Or.inr rfl) (.inl rfl) (N':=N_numbers_of_0) (k:=1) rfl (zT_ (N:=ZD_) (sc:=(zd_ j9_)) (by decide +kernel) rfl rfl) (um_ (ap_z (W2_ (ty:=.str) PySem.F.plainAttrs_str PySem.F.slot_str_split PySem.F.type_str_split QB_ (ao (av 0)) (zh_ zS_ zn_ (za_ rfl)) rfl rfl rfl rfl rfl))) (λcl s' H' fp C'=>(z9_ (i:=2) (show 2<=2 by decide) Zf_ rfl (by first|exact Or.inl rfl|exact Or.inr rfl) (.inr rfl))) (λcl s' H' fp C'=>ul_) (λcl s' H' fp C'=>(ya_ gax (hr.mono (by decide)) rfl (zh_ (av 2) zn_ (za_ rfl)) rfl (by decide) rfl rfl)) rfl (λ_=>rfl)))
  (zi_ (zv_ (zg_ (YJ_ (zF_ (Zc_ (zk_ hr)) JU_ (ao J8_) (ao (av 1)) rfl) J8_ (jh_ jA_ yO_ rfl B.tuple (by decide +kernel) (zp_ (ao (av 1)) zA_ (za_ rfl)) (by decide) (by decide) rfl rfl)))))))
 (λds hl=>(by obtain⟨gav,rfl⟩:=ln1 hl;kernel_rfl)),hmg,Fn.kp,(bnd1 Fn λ_ _ _ _ _ _ _=>rfl)⟩
abbrev uf_:Stmt:=(uE_ (top 23)).getD 0 (.Pass ⟨0,0,0,0⟩)
noncomputable abbrev JF_:List Str:=["self", "number", "text"]
theorem Z3_:FnScope JF_ ["self", "number", "text"] (zd_ uf_):=⟨rfl,rfl,rfl,by decide +kernel,rfl,by decide +kernel,by decide +kernel⟩
def jg_(gaj:List D)(ga9:D)(gaS:D):M (D×List D) :=
 bd (bd (onT .str gaS (oM (Ys_ gaS [(.str " ")]))) λl1=>.ret (PyData.list l1)) λx2=>.ret (.none,(putB ["number", "words", "place"] (putB ["number", "words"] (putB ["number"] (putB [] gaj "number" ga9) "words" x2) "place" (.int 0)) "asked" (.int 0)))
def u3_:List D->List D->M (D×List D):=λgaj l=>match l with
 | [ga9,gaS]=>jg_ gaj ga9 gaS
 | _=>.bad
set_option maxHeartbeats 4000000 in
theorem Ja_{f:Addr}{fd:FuncData}(Fn:Fun K "__init__" "Row.__init__" uf_ f fd)(hmk:Mk K CA_Row f)(hmg:mg "Row" = some (.ref CA_Row))(B:BN mg)(Kn:KN mg)(Kx:KX K mg)(IC_Row:IC K "Row" CA_Row)(NF_Row:∀f∈zc_,NoAttr K CA_Row f):CN P w K mg base CA_Row "Row" 1 (spI1 K "Row" [] zc_ 3 u3_) :=
 ⟨f,fd,["self", "number", "text"],yW_ (y := "Row") (ns:=[]) (ms:=zc_) (k:=0) Fn Z3_ (λcdv A outer s H E hr =>
 (ze_ (zL_ (sh:=[.j "Row" ["number"],.dead,.f]) (UH_ (i:=0) IC_Row (NF_Row _ (by decide)) rfl (by first|exact Or.inl rfl|exact Or.inr (Or.inl rfl)|exact Or.inr (Or.inr rfl)) (zg_ (av 1)) rfl))
  (ze_ (zL_ (sh:=[.j "Row" ["number", "words"],.dead,.dead]) (UH_ (i:=0) IC_Row (NF_Row _ (by decide)) rfl (by first|exact Or.inl rfl|exact Or.inr (Or.inl rfl)|exact Or.inr (Or.inr rfl)) (zg_ (ap_z (W2_ (ty:=.str) PySem.F.plainAttrs_str PySem.F.slot_str_split PySem.F.type_str_split QB_ (ao (av 2)) (zh_ zS_ zn_ (za_ rfl)) rfl rfl rfl rfl rfl))) rfl))
  (ze_ (zL_ (sh:=[.j "Row" ["number", "words", "place"],.dead,.dead]) (UH_ (i:=0) IC_Row (NF_Row _ (by decide)) rfl (by first|exact Or.inl rfl|exact Or.inr (Or.inl rfl)|exact Or.inr (Or.inr rfl)) (zg_ zf_) rfl))
  (zi_ (UH_ (i:=0) IC_Row (NF_Row _ (by decide)) rfl (by first|exact Or.inl rfl|exact Or.inr (Or.inl rfl)|exact Or.inr (Or.inr rfl)) (zg_ zf_) rfl))))))
 (λg ds hl=>(by obtain⟨ga9,gaS,rfl⟩:=ln2 (Nat.succ.inj hl);kernel_rfl)),hmk,(bnd3 Fn λ_ _ _ _ _ _ _ _ _=>rfl),hmg⟩
abbrev uS_:Stmt:=(uE_ (top 23)).getD 1 (.Pass ⟨0,0,0,0⟩)
noncomputable abbrev YM_:List Str:=["self"]
theorem Ug_:FnScope YM_ ["self"] (zd_ uS_):=⟨rfl,rfl,rfl,by decide +kernel,rfl,by decide +kernel,by decide +kernel⟩
def z8_(gaj:List D):M (D×List D) :=
 bd (oM (uj_ zc_ gaj "number")) λx1=>bd (oM (uj_ zc_ gaj "place")) λx2=>.exc ⟨"NoText",[("row",x1),("word",x2)]⟩
def zP_:List D->List D->M (D×List D):=λgaj l=>match l with
 | []=>z8_ gaj
 | _=>.bad
set_option maxHeartbeats 4000000 in
theorem Us_{f:Addr}{fd:FuncData}(Fn:Fun K "refuse" "Row.refuse" uS_ f fd)(hme:Meth K CA_Row "refuse" f)(B:BN mg)(Kn:KN mg)(Kx:KX K mg)(IC_Row:IC K "Row" CA_Row)(NF_Row:∀f∈zc_,NoAttr K CA_Row f)(X_NoText:CCl P w K mg base "NoText" 1 ["row", "word"]):CM P w K mg base CA_Row "refuse" 3 (spI1 K "Row" zc_ zc_ 1 zP_) :=
 ⟨f,fd,["self"],yW_ (y := "Row") (ns:=zc_) (ms:=zc_) (k:=2) Fn Ug_ (λcdv A outer s H E hr =>
 (zi_ (XU_ X_NoText (hr.mono (by decide)) rfl (zb_ (zg_ (Jo_ (i:=0) IC_Row (NF_Row _ (by decide)) rfl (by first|exact Or.inl rfl|exact Or.inr (Or.inl rfl)|exact Or.inr (Or.inr rfl)) rfl)) (zb_ (zg_ (Jo_ (i:=0) IC_Row (NF_Row _ (by decide)) rfl (by first|exact Or.inl rfl|exact Or.inr (Or.inl rfl)|exact Or.inr (Or.inr rfl)) rfl)) zl_ (za_ rfl)) (za_ rfl)) rfl (by decide) (by decide) (za_ rfl) rfl)))
 (λg ds hl=>(by obtain rfl:=ln0 (Nat.succ.inj hl);kernel_rfl)),hme,(bnd1 Fn λ_ _ _ _ _ _ _=>rfl)⟩
abbrev ue_:Stmt:=(uE_ (top 23)).getD 2 (.Pass ⟨0,0,0,0⟩)
noncomputable abbrev JE_:List Str:=["self"]
theorem Z2_:FnScope JE_ ["self"] (zd_ ue_):=⟨rfl,rfl,rfl,by decide +kernel,rfl,by decide +kernel,by decide +kernel⟩
def jf_(gaj:List D):M (D×List D) :=
 bd (bd (bd (oM (uj_ zc_ gaj "place")) λx2=>bd (bd (oM (uj_ zc_ gaj "words")) λx1=>oM (fLen [x1])) λx3=>oM (YT_ x2 x3)) λb4=>.ret (.bool b4)) λx5=>.ret (x5,gaj)
def j5_:List D->List D->M (D×List D):=λgaj l=>match l with
 | []=>jf_ gaj
 | _=>.bad
set_option maxHeartbeats 4000000 in
theorem Z9_{f:Addr}{fd:FuncData}(Fn:Fun K "has_more" "Row.has_more" ue_ f fd)(hme:Meth K CA_Row "has_more" f)(B:BN mg)(Kn:KN mg)(Kx:KX K mg)(IC_Row:IC K "Row" CA_Row)(NF_Row:∀f∈zc_,NoAttr K CA_Row f):CM P w K mg base CA_Row "has_more" 1 (spI1 K "Row" zc_ zc_ 1 j5_) :=
 ⟨f,fd,["self"],yW_ (y := "Row") (ns:=zc_) (ms:=zc_) (k:=0) Fn Z2_ (λcdv A outer s H E hr =>
 (zi_ (zv_ (zg_ (ap_b (W5_ (zab_ (zk_ hr)) zae_ (ao (Jo_ (i:=0) IC_Row (NF_Row _ (by decide)) rfl (by first|exact Or.inl rfl|exact Or.inr (Or.inl rfl)|exact Or.inr (Or.inr rfl)) rfl)) (ao (zQ_ je_ yk_ rfl B.len PySem.boot_len (zp_ (ao (Jo_ (i:=0) IC_Row (NF_Row _ (by decide)) rfl (by first|exact Or.inl rfl|exact Or.inr (Or.inl rfl)|exact Or.inr (Or.inr rfl)) rfl)) zA_ (za_ rfl)) (by decide) (by decide) rfl rfl)) rfl))))))
 (λg ds hl=>(by obtain rfl:=ln0 (Nat.succ.inj hl);kernel_rfl)),hme,(bnd1 Fn λ_ _ _ _ _ _ _=>rfl)⟩
abbrev ud_:Stmt:=(uE_ (top 23)).getD 3 (.Pass ⟨0,0,0,0⟩)
noncomputable abbrev JD_:List Str:=["self"]
theorem Z1_:FnScope JD_ ["self"] (zd_ ud_):=⟨rfl,rfl,rfl,by decide +kernel,rfl,by decide +kernel,by decide +kernel⟩
def jM_(gaN:List D):M (D×List D) :=
 bd (bd (oM (uj_ zc_ gaN "words")) λx4=>bd (oM (uj_ zc_ gaN "place")) λx5=>oM (zH_ x4 x5)) λx6=>.ret (x6,gaN)
def z0_(gaj:List D):M (D×List D) :=
 bd (jf_ gaj) λr1=>bd (asB r1.1) λb2=>if(!b2)then
  bd (z8_ r1.2) λr3=>jM_ r3.2
  else
  jM_ r1.2
def jw_:List D->List D->M (D×List D):=λgaj l=>match l with
 | []=>z0_ gaj
 | _=>.bad
set_option maxHeartbeats 4000000 in
theorem Z8_{f:Addr}{fd:FuncData}(Fn:Fun K "upcoming" "Row.upcoming" ud_ f fd)(hme:Meth K CA_Row "upcoming" f)(B:BN mg)(Kn:KN mg)(Kx:KX K mg)(IC_Row:IC K "Row" CA_Row)(NF_Row:∀f∈zc_,NoAttr K CA_Row f)(gap:CM P w K mg base CA_Row "has_more" 1 (spI1 K "Row" zc_ zc_ 1 j5_))(gac:CM P w K mg base CA_Row "refuse" 3 (spI1 K "Row" zc_ zc_ 1 zP_)):CM P w K mg base CA_Row "upcoming" 4 (spI1 K "Row" zc_ zc_ 1 jw_) :=
 ⟨f,fd,["self"],yW_ (y := "Row") (ns:=zc_) (ms:=zc_) (k:=3) Fn Z1_ (λcdv A outer s H E hr =>
 (ze_ (zL_ (sh:=[.j "Row" zc_]) (jU_ (zbI_ (zdv_ (zas_ (zZ_ (i:=0) IC_Row gap (by decide) (hr.mono (by decide)) rfl (by first|exact Or.inl rfl|exact Or.inr (Or.inl rfl)|exact Or.inr (Or.inr rfl)) rfl)) (λ_=>rfl)))
  (zi_ (yD_ (zZ_ (i:=0) IC_Row gac (by decide) (hr.mono (by decide)) rfl (by first|exact Or.inl rfl|exact Or.inr (Or.inl rfl)|exact Or.inr (Or.inr rfl)) rfl) rfl))
  zI_))
  (zi_ (zv_ (zg_ (uQ_ (jy_ (zk_ hr)) jt_ (ao (Jo_ (i:=0) IC_Row (NF_Row _ (by decide)) rfl (by first|exact Or.inl rfl|exact Or.inr (Or.inl rfl)|exact Or.inr (Or.inr rfl)) rfl)) (ao (Jo_ (i:=0) IC_Row (NF_Row _ (by decide)) rfl (by first|exact Or.inl rfl|exact Or.inr (Or.inl rfl)|exact Or.inr (Or.inr rfl)) rfl)) (λ_ _=>rfl)))))))
 (λg ds hl=>(by obtain rfl:=ln0 (Nat.succ.inj hl);kernel_rfl)),hme,(bnd1 Fn λ_ _ _ _ _ _ _=>rfl)⟩
abbrev j1_:Stmt:=(uE_ (top 23)).getD 4 (.Pass ⟨0,0,0,0⟩)
noncomputable abbrev Ju_:List Str:=["self", "choices", "word"]
theorem sc_Row_take_word:FnScope Ju_ ["self", "choices"] (zd_ j1_):=⟨rfl,rfl,rfl,by decide +kernel,rfl,by decide +kernel,by decide +kernel⟩
def jC_(gaN:List D)(gbh:D):M (D×List D) :=
 augI (uj_ zc_ gaN "place") λa4=>.ret (gbh,(putB zc_ gaN "place" (.int (a4+1))))
def jD_(gaj:List D)(gaZ:D):M (D×List D) :=
 bd (z0_ gaj) λr1=>bd (oM (ZS_ "QUESTION_WORDS" ["least", "more", "rest", "both", "either", "not"] r1.1 gaZ)) λb2=>if b2 then
  bd (z8_ r1.2) λr3=>jC_ r3.2 r1.1
  else
  jC_ r1.2 r1.1
def jS_:List D->List D->M (D×List D):=λgaj l=>match l with
 | [gaZ]=>jD_ gaj gaZ
 | _=>.bad
set_option maxHeartbeats 4000000 in
theorem ZJ_{f:Addr}{fd:FuncData}(Fn:Fun K "take_word" "Row.take_word" j1_ f fd)(hme:Meth K CA_Row "take_word" f)(B:BN mg)(Kn:KN mg)(Kx:KX K mg)(IC_Row:IC K "Row" CA_Row)(NF_Row:∀f∈zc_,NoAttr K CA_Row f)(gai:CM P w K mg base CA_Row "upcoming" 4 (spI1 K "Row" zc_ zc_ 1 jw_))(gac:CM P w K mg base CA_Row "refuse" 3 (spI1 K "Row" zc_ zc_ 1 zP_)):CM P w K mg base CA_Row "take_word" 5 (spI1 K "Row" zc_ zc_ 2 jS_) :=
 ⟨f,fd,["self", "choices"],yW_ (y := "Row") (ns:=zc_) (ms:=zc_) (k:=4) Fn sc_Row_take_word (λcdv A outer s H E hr =>
 (ze_ (zL_ (sh:=[.j "Row" zc_,.f,.f]) (zR_ (i:=2) sc_Row_take_word.nd rfl (by first|exact Or.inl rfl|exact Or.inr rfl) (zZ_ (i:=0) IC_Row gai (by decide) (hr.mono (by decide)) rfl (by first|exact Or.inl rfl|exact Or.inr (Or.inl rfl)|exact Or.inr (Or.inr rfl)) rfl) rfl (.inl rfl)))
  (ze_ (zL_ (sh:=[.j "Row" zc_,.dead,.f]) (jU_ (z5_ (zF_ (Va_ (zk_ hr) Kx.t_QUESTION_WORDS) jY_ (ao (av 2)) (ao (av 1)) rfl))
  (zi_ (yD_ (zZ_ (i:=0) IC_Row gac (by decide) (hr.mono (by decide)) rfl (by first|exact Or.inl rfl|exact Or.inr (Or.inl rfl)|exact Or.inr (Or.inr rfl)) rfl) rfl))
  zI_))
  (ze_ (zL_ (sh:=[.j "Row" zc_,.dead,.f]) (UJ_ (i:=0) IC_Row (NF_Row _ (by decide)) rfl (by first|exact Or.inl rfl|exact Or.inr (Or.inl rfl)|exact Or.inr (Or.inr rfl)) (zg_ zf_)))
  (zi_ (zv_ (zg_ (av 2))))))))
 (λg ds hl=>(by obtain⟨gaZ,rfl⟩:=ln1 (Nat.succ.inj hl);kernel_rfl)),hme,(bnd2 Fn λ_ _ _ _ _ _ _ _=>rfl)⟩
abbrev jF_:Stmt:=(uE_ (top 23)).getD 5 (.Pass ⟨0,0,0,0⟩)
noncomputable abbrev Zt_:List Str:=["self", "least", "most", "barred", "number"]
theorem sc_Row_take_number:FnScope Zt_ ["self", "least", "most", "barred"] (zd_ jF_):=⟨rfl,rfl,rfl,by decide +kernel,rfl,by decide +kernel,by decide +kernel⟩
def jc_(gaN:List D)(gbg:D):M (D×List D) :=
 augI (uj_ zc_ gaN "place") λa9=>.ret (gbg,(putB zc_ gaN "place" (.int (a9+1))))
def zt_(gaj:List D)(gaK:D)(gaX:D)(gaC:D):M (D×List D) :=
 bd (z0_ gaj) λr1=>bd (jK_ r1.1) λr2=>bd (bd (oM (Xw_ r2 .none)) λb6=>if b6 then .ret true else bd (bd (bd (oM (Uo_ gaK r2)) λb3=>if b3 then oM (Uo_ r2 gaX)else .ret false) λb4=>.ret (!b4)) λb5=>if b5 then .ret true else oM (uA_ r2 gaC)) λb7=>if b7 then
  bd (z8_ r1.2) λr8=>jc_ r8.2 r2
  else
  jc_ r1.2 r2
def jx_:List D->List D->M (D×List D):=λgaj l=>match l with
 | [gaK,gaX,gaC]=>zt_ gaj gaK gaX gaC
 | _=>.bad
set_option maxHeartbeats 4000000 in
theorem yR_{f:Addr}{fd:FuncData}(Fn:Fun K "take_number" "Row.take_number" jF_ f fd)(hme:Meth K CA_Row "take_number" f)(B:BN mg)(Kn:KN mg)(Kx:KX K mg)(IC_Row:IC K "Row" CA_Row)(NF_Row:∀f∈zc_,NoAttr K CA_Row f)(gax:CF P w K mg base "number_of" 1 (spD K 1 u2_))(gai:CM P w K mg base CA_Row "upcoming" 4 (spI1 K "Row" zc_ zc_ 1 jw_))(gac:CM P w K mg base CA_Row "refuse" 3 (spI1 K "Row" zc_ zc_ 1 zP_)):CM P w K mg base CA_Row "take_number" 5 (spI1 K "Row" zc_ zc_ 4 jx_) :=
 ⟨f,fd,["self", "least", "most", "barred"],yW_ (y := "Row") (ns:=zc_) (ms:=zc_) (k:=4) Fn sc_Row_take_number (λcdv A outer s H E hr =>
 (ze_ (zL_ (sh:=[.j "Row" zc_,.f,.f,.f,.f]) (zR_ (i:=4) sc_Row_take_number.nd rfl (by first|exact Or.inl rfl|exact Or.inr rfl) (zeI_ gax (hr.mono (by decide)) rfl (zb_ (zZ_ (i:=0) IC_Row gai (by decide) (hr.mono (by decide)) rfl (by first|exact Or.inl rfl|exact Or.inr (Or.inl rfl)|exact Or.inr (Or.inr rfl)) rfl) zl_ (za_ rfl)) rfl (by decide) rfl rfl) rfl (.inl rfl)))
  (ze_ (zL_ (sh:=[.j "Row" zc_,.dead,.dead,.dead,.f]) (jU_ (z5_ (Vw_ (YI_ (zF_ zbb_ jY_ (ao (av 4)) (ao J8_) rfl) (YI_ (J6_ (QV_ (JS_ (zk_ hr)) (JS_ (zk_ hr)) JT_ JT_ (ao (av 1)) (ao (av 4)) (ao (av 2)) (by with_unfolding_all rfl))) (YH_ (zF_ (Zc_ (zk_ hr)) JU_ (ao (av 4)) (ao (av 3)) rfl))))))
  (zi_ (yD_ (zZ_ (i:=0) IC_Row gac (by decide) (hr.mono (by decide)) rfl (by first|exact Or.inl rfl|exact Or.inr (Or.inl rfl)|exact Or.inr (Or.inr rfl)) rfl) rfl))
  zI_))
  (ze_ (zL_ (sh:=[.j "Row" zc_,.dead,.dead,.dead,.f]) (UJ_ (i:=0) IC_Row (NF_Row _ (by decide)) rfl (by first|exact Or.inl rfl|exact Or.inr (Or.inl rfl)|exact Or.inr (Or.inr rfl)) (zg_ zf_)))
  (zi_ (zv_ (zg_ (av 4))))))))
 (λg ds hl=>(by obtain⟨gaK,gaX,gaC,rfl⟩:=ln3 (Nat.succ.inj hl);kernel_rfl)),hme,(bnd4 Fn λ_ _ _ _ _ _ _ _ _ _=>rfl)⟩
abbrev jj_:Stmt:=(uE_ (top 23)).getD 6 (.Pass ⟨0,0,0,0⟩)
noncomputable abbrev uN_:List Str:=["self", "sorts", "fewest", "barred", "word", "some"]
theorem sc_Row_take_sorts:FnScope uN_ ["self", "sorts", "fewest", "barred"] (zd_ jj_):=⟨rfl,rfl,rfl,by decide +kernel,rfl,by decide +kernel,by decide +kernel⟩
noncomputable abbrev N_Row_take_sorts_0:List Str:=["self", "sorts", "fewest", "barred", "word", "some", "sort"]
theorem u0_:N_Row_take_sorts_0.Nodup:=by decide +kernel
def jm_(gaN:List D)(gbi:D):M (D×List D) :=
 augI (uj_ zc_ gaN "place") λa17=>.ret (gbi,(putB zc_ gaN "place" (.int (a17+1))))
def zr_(gaj:List D)(gal:D)(gba:D)(gaC:D):M (D×List D) :=
 bd (z0_ gaj) λr1=>bd (bd (oM (opEq r1.1 (.str "-"))) λb2=>if b2 then .ret (.tuple [])else jR_ r1.1) λx3=>bd (bd (bd (bd (uH_ gal x3) λx4=>oM (truD x4)) λb5=>.ret (!b5)) λb14=>if b14 then .ret true else bd (bd (oM (fLen [x3])) λx6=>oM (YT_ x6 gba)) λb13=>if b13 then .ret true else bd (bd (bd (oM (seqS x3)) λl10=>bd (zC_ (λd7=>bd (bd (oM (uA_ d7 gaC)) λb8=>.ret (.bool b8)) λx9=>.ret (some x9)) l10) fitM) λl11=>.ret (PyData.list l11)) λx12=>oM (fAny [x12])) λb15=>if b15 then
  bd (z8_ r1.2) λr16=>jm_ r16.2 x3
  else
  jm_ r1.2 x3
def jH_:List D->List D->M (D×List D):=λgaj l=>match l with
 | [gal,gba,gaC]=>zr_ gaj gal gba gaC
 | _=>.bad
set_option maxHeartbeats 4000000 in
theorem Ze_{f:Addr}{fd:FuncData}(Fn:Fun K "take_sorts" "Row.take_sorts" jj_ f fd)(hme:Meth K CA_Row "take_sorts" f)(B:BN mg)(Kn:KN mg)(Kx:KX K mg)(IC_Row:IC K "Row" CA_Row)(NF_Row:∀f∈zc_,NoAttr K CA_Row f)(gai:CM P w K mg base CA_Row "upcoming" 4 (spI1 K "Row" zc_ zc_ 1 jw_))(gaO:CF P w K mg base "numbers_of" 2 (spD K 1 yS_))(gac:CM P w K mg base CA_Row "refuse" 3 (spI1 K "Row" zc_ zc_ 1 zP_))(gaU:CF P w K mg base "are_sorts" 3 (spD K 2 Zy_)):CM P w K mg base CA_Row "take_sorts" 5 (spI1 K "Row" zc_ zc_ 4 jH_) :=
 ⟨f,fd,["self", "sorts", "fewest", "barred"],yW_ (y := "Row") (ns:=zc_) (ms:=zc_) (k:=4) Fn sc_Row_take_sorts (λcdv A outer s H E hr =>
 (ze_ (zL_ (sh:=[.j "Row" zc_,.f,.f,.f,.f,.dead]) (zR_ (i:=4) sc_Row_take_sorts.nd rfl (by first|exact Or.inl rfl|exact Or.inr rfl) (zZ_ (i:=0) IC_Row gai (by decide) (hr.mono (by decide)) rfl (by first|exact Or.inl rfl|exact Or.inr (Or.inl rfl)|exact Or.inr (Or.inr rfl)) rfl) rfl (.inl rfl)))
  (ze_ (zL_ (sh:=[.j "Row" zc_,.f,.f,.f,.dead,.f]) (zR_ (i:=5) sc_Row_take_sorts.nd rfl (by first|exact Or.inl rfl|exact Or.inr rfl) (zg_ (YJ_ (zF_ (js_ (zk_ hr)) jY_ (ao (av 4)) (ao zS_) rfl) (yn_ zn_ (by decide +kernel)) (ya_ gaO (hr.mono (by decide)) rfl (zh_ (av 4) zn_ (za_ rfl)) rfl (by decide) rfl rfl))) rfl (.inl rfl)))
  (ze_ (zL_ (sh:=[.j "Row" zc_,.dead,.dead,.dead,.dead,.f]) (jU_ (z5_ (Vw_ (YI_ (J6_ (zan_ (ao (ya_ gaU (hr.mono (by decide)) rfl (zh_ (av 1) (zh_ (av 5) zn_ (za_ rfl)) (za_ rfl)) rfl (by decide) rfl rfl)) (λ_=>rfl))) (YI_ (zF_ (zab_ (zk_ hr)) zae_ (ao (zQ_ je_ yk_ rfl B.len PySem.boot_len (zp_ (ao (av 5)) zA_ (za_ rfl)) (by decide) (by decide) rfl rfl)) (ao (av 2)) rfl) (YH_ (at_b (QW_ (XQ_ rfl) zcN_ rfl B.any (by decide +kernel) (zp_ (ao (ap_z (uJ_ (N':=N_Row_take_sorts_0) (k:=1) rfl (zT_ (N:=uN_) (sc:=(zd_ jj_)) (by decide +kernel) rfl rfl) (um_ (av 5)) (λcl s' H' fp C'=>(z9_ (i:=6) (show 6<=6 by decide) u0_ rfl (by first|exact Or.inl rfl|exact Or.inr rfl) (.inr rfl))) (λcl s' H' fp C'=>ul_) (λcl s' H' fp C'=>(ap_b (W5_ (Zc_ (zk_ hr)) JU_ (ao (av 6)) (ao (av 3)) rfl))) (λ_=>rfl)))) zA_ (za_ rfl)) (by decide) (by decide) rfl rfl) (λ_=>rfl)))))))
  (zi_ (yD_ (zZ_ (i:=0) IC_Row gac (by decide) (hr.mono (by decide)) rfl (by first|exact Or.inl rfl|exact Or.inr (Or.inl rfl)|exact Or.inr (Or.inr rfl)) rfl) rfl))
  zI_))
  (ze_ (zL_ (sh:=[.j "Row" zc_,.dead,.dead,.dead,.dead,.f]) (UJ_ (i:=0) IC_Row (NF_Row _ (by decide)) rfl (by first|exact Or.inl rfl|exact Or.inr (Or.inl rfl)|exact Or.inr (Or.inr rfl)) (zg_ zf_)))
  (zi_ (zv_ (zg_ (av 5)))))))))
 (λg ds hl=>(by obtain⟨gal,gba,gaC,rfl⟩:=ln3 (Nat.succ.inj hl);kernel_rfl)),hme,(bnd4 Fn λ_ _ _ _ _ _ _ _ _ _=>rfl)⟩
abbrev uT_:Stmt:=(uE_ (top 23)).getD 7 (.Pass ⟨0,0,0,0⟩)
noncomputable abbrev YN_:List Str:=["self"]
theorem Uh_:FnScope YN_ ["self"] (zd_ uT_):=⟨rfl,rfl,rfl,by decide +kernel,rfl,by decide +kernel,by decide +kernel⟩
def u9_(gaj:List D):M (D×List D) :=
 bd (jf_ gaj) λr1=>bd (asB r1.1) λb2=>if b2 then
  bd (z8_ r1.2) λr3=>.ret (.none,r3.2)
  else
  .ret (.none,r1.2)
def yT_:List D->List D->M (D×List D):=λgaj l=>match l with
 | []=>u9_ gaj
 | _=>.bad
set_option maxHeartbeats 4000000 in
theorem Ut_{f:Addr}{fd:FuncData}(Fn:Fun K "finish" "Row.finish" uT_ f fd)(hme:Meth K CA_Row "finish" f)(B:BN mg)(Kn:KN mg)(Kx:KX K mg)(IC_Row:IC K "Row" CA_Row)(NF_Row:∀f∈zc_,NoAttr K CA_Row f)(gap:CM P w K mg base CA_Row "has_more" 1 (spI1 K "Row" zc_ zc_ 1 j5_))(gac:CM P w K mg base CA_Row "refuse" 3 (spI1 K "Row" zc_ zc_ 1 zP_)):CM P w K mg base CA_Row "finish" 4 (spI1 K "Row" zc_ zc_ 1 yT_) :=
 ⟨f,fd,["self"],yW_ (y := "Row") (ns:=zc_) (ms:=zc_) (k:=3) Fn Uh_ (λcdv A outer s H E hr =>
 (zi_ (jU_ (zdv_ (zas_ (zZ_ (i:=0) IC_Row gap (by decide) (hr.mono (by decide)) rfl (by first|exact Or.inl rfl|exact Or.inr (Or.inl rfl)|exact Or.inr (Or.inr rfl)) rfl)) (λ_=>rfl))
  (zi_ (yD_ (zZ_ (i:=0) IC_Row gac (by decide) (hr.mono (by decide)) rfl (by first|exact Or.inl rfl|exact Or.inr (Or.inl rfl)|exact Or.inr (Or.inr rfl)) rfl) rfl))
  zI_)))
 (λg ds hl=>(by obtain rfl:=ln0 (Nat.succ.inj hl);kernel_rfl)),hme,(bnd1 Fn λ_ _ _ _ _ _ _=>rfl)⟩
noncomputable abbrev jq_:Stmt:=top 25
noncomputable abbrev Jp_:List Str:=["row", "sorts", "within", "word", "parts", "question", "part", "these", "some", "by"]
theorem sc_take_question:FnScope Jp_ ["row", "sorts", "within"] (zd_ jq_):=⟨rfl,rfl,rfl,by decide +kernel,rfl,by decide +kernel,by decide +kernel⟩
def zy_(self:List D->D->D->M (D×List D))(gbd:List D)(gaA:D)(ga6:D)(ga8:List D):M (D×List D) :=
 bd (oM (yY_ [(PyData.list ga8)])) λx10=>.ret (x10,gbd)
def zx_(self:List D->D->D->M (D×List D))(gbd:List D)(gaA:D)(ga6:D)(ga8:List D)(d_:D)(kn11:List D×D×D×List D×Unit->M (D×List D)):M (D×List D) :=
 bd (oM (z1_ ga6 (.int 1))) λx12=>bd (self gbd gaA x12) λr13=>bd (oM (mApp ga8 [r13.1])) λl14=>kn11 (r13.2,gaA,ga6,l14,())
def z4_(self:List D->D->D->M (D×List D))(gbd:List D)(gaA:D)(ga6:D):M (D×List D) :=
 augI (uj_ zc_ gbd "asked") λa5=>bd (jD_ (putB zc_ gbd "asked" (.int (a5+1))) (fnD "QUESTION_WORDS")) λr6=>bd (zG_ r6.1) λx7=>bd (oM (opGt x7 (.int 0))) λb8=>if b8 then
  bd (oM (jI_ [x7])) λl9=>forS (λs15 d16 kn=>zx_ self s15.1 s15.2.1 s15.2.2.1 s15.2.2.2.1 d16 kn) l9 (r6.2,gaA,ga6,[r6.1],()) (λs15=>zy_ self s15.1 s15.2.1 s15.2.2.1 s15.2.2.2.1)
  else
  bd (oM (opEq r6.1 (.str "more"))) λb17=>if b17 then
  bd (zr_ r6.2 gaA (.int 0) (.tuple [])) λr18=>bd (zr_ r18.2 gaA (.int 0) r18.1) λr19=>.ret ((.tuple [r6.1,r18.1,r19.1]),r19.2)
  else
  bd (zr_ r6.2 gaA (.int 1) (.tuple [])) λr20=>bd (oM (opEq r6.1 (.str "least"))) λb21=>if b21 then
  bd (zt_ r20.2 (.int 1) (.int 9) (.tuple [])) λr22=>.ret ((.tuple [r6.1,r20.1,r22.1]),r22.2)
  else
  bd (zt_ r20.2 (.int 2) (.int 9) (.tuple [])) λr23=>bd (oM (yh_ r23.1 (.int 1))) λx24=>bd (zt_ r23.2 (.int 0) x24 (.tuple [])) λr25=>.ret ((.tuple [r6.1,r20.1,r23.1,r25.1]),r25.2)
def jJ_(self:List D->D->D->M (D×List D))(gbf:List D)(gal:D)(gaQ:D):M (D×List D) :=
 bd (bd (bd (oM (uj_ zc_ gbf "asked")) λx1=>oM (opEq x1 (.int 7))) λb2=>if b2 then .ret true else oM (opEq gaQ (.int 4))) λb3=>if b3 then
  bd (z8_ gbf) λr4=>z4_ self r4.2 gal gaQ
  else
  z4_ self gbf gal gaQ
def zU_:Nat->List D->D->D->M (D×List D)
 | 0=>λ_ _ _=>.bad
 | i+1=>jJ_ (zU_ i)
noncomputable def zN_(i:Nat):List D->List D->M (D×List D):=λgbf l=>match l with
 | [gal,gaQ]=>zU_ i gbf gal gaQ
 | _=>.bad
set_option maxHeartbeats 4000000 in
theorem ZO_{f:Addr}{fd:FuncData}(Fn:Fun K "take_question" "take_question" jq_ f fd)(B:BN mg)(Kn:KN mg)(Kx:KX K mg)(IC_Row:IC K "Row" CA_Row)(NF_Row:∀f∈zc_,NoAttr K CA_Row f)(gar:CM P w K mg base CA_Row "take_word" 5 (spI1 K "Row" zc_ zc_ 2 jS_))(gao:CF P w K mg base "parts_of" 1 (spD K 1 j4_))(gak:CM P w K mg base CA_Row "take_sorts" 5 (spI1 K "Row" zc_ zc_ 4 jH_))(gah:CM P w K mg base CA_Row "take_number" 5 (spI1 K "Row" zc_ zc_ 4 jx_))(gac:CM P w K mg base CA_Row "refuse" 3 (spI1 K "Row" zc_ zc_ 1 zP_))(i:Nat)(Cself:CF P w K mg base "take_question" (6+i) (spI1 K "Row" zc_ zc_ 3 (zN_ i))):FnOk P w K mg base (CX1 P w) (6+i+1) f fd ["row", "sorts", "within"] (spI1 K "Row" zc_ zc_ 3 (zN_ (i+1))) :=
 yW_ (y := "Row") (ns:=zc_) (ms:=zc_) (k:=6+i) Fn sc_take_question (λcdv A outer s H E hr =>
 (ze_ (zL_ (sh:=[.j "Row" zc_,.f,.f,.dead,.dead,.dead,.dead,.dead,.dead,.dead]) (jU_ (z5_ (Vw_ (YI_ (zF_ (js_ (zk_ hr)) jY_ (ao (Jo_ (i:=0) IC_Row (NF_Row _ (by decide)) rfl (by first|exact Or.inl rfl|exact Or.inr (Or.inl rfl)|exact Or.inr (Or.inr rfl)) rfl)) (ao (Zr_ rfl Kn.MOST_QUESTIONS.choose_spec.1 Kn.MOST_QUESTIONS.choose_spec.2 (λ_=>.int _) (by decide))) rfl) (YH_ (zF_ (js_ (zk_ hr)) jY_ (ao (av 2)) (ao (Zr_ rfl Kn.MOST_WITHIN.choose_spec.1 Kn.MOST_WITHIN.choose_spec.2 (λ_=>.int _) (by decide))) rfl)))))
  (zi_ (yD_ (zZ_ (i:=0) IC_Row gac (by decide) (hr.mono (by omega)) rfl (by first|exact Or.inl rfl|exact Or.inr (Or.inl rfl)|exact Or.inr (Or.inr rfl)) rfl) rfl))
  zI_))
  (ze_ (zL_ (sh:=[.j "Row" zc_,.f,.f,.dead,.dead,.dead,.dead,.dead,.dead,.dead]) (UJ_ (i:=0) IC_Row (NF_Row _ (by decide)) rfl (by first|exact Or.inl rfl|exact Or.inr (Or.inl rfl)|exact Or.inr (Or.inr rfl)) (zg_ zf_)))
  (ze_ (zL_ (sh:=[.j "Row" zc_,.f,.f,.f,.dead,.dead,.dead,.dead,.dead,.dead]) (zR_ (i:=3) sc_take_question.nd rfl (by first|exact Or.inl rfl|exact Or.inr rfl) (uK_ (i:=0) IC_Row gar (by decide) (hr.mono (by omega)) rfl (by first|exact Or.inl rfl|exact Or.inr (Or.inl rfl)|exact Or.inr (Or.inr rfl)) (zb_ (zg_ (XV_ Kx.f_QUESTION_WORDS rfl (by decide))) zl_ (za_ rfl)) rfl (za_ rfl) rfl rfl) rfl (.inl rfl)))
  (ze_ (zL_ (sh:=[.j "Row" zc_,.f,.f,.f,.f,.dead,.dead,.dead,.dead,.dead]) (zR_ (i:=4) sc_take_question.nd rfl (by first|exact Or.inl rfl|exact Or.inr rfl) (zg_ (ya_ gao (hr.mono (by omega)) rfl (zh_ (av 3) zn_ (za_ rfl)) rfl (by decide) rfl rfl)) rfl (.inl rfl)))
  (ze_ (jU_ (z5_ (zF_ Vb_ Vd_ (ao (av 4)) (ao zf_) rfl))
  (ze_ (zL_ (sh:=[.j "Row" zc_,.f,.f,.dead,.f,.o,.dead,.dead,.dead,.dead]) (W1_ (i:=5) sc_take_question.nd rfl (by first|exact Or.inl rfl|exact Or.inr rfl) (W4_ (yo_ (zh_ (av 3) zn_ (za_ rfl)) (by decide +kernel))) rfl (.inl rfl)))
  (ze_ (UI_ (sh:=[.j "Row" zc_,.f,.f,.dead,.dead,.o,.dead,.dead,.dead,.dead]) PassesOwn.leaving rfl (J9_ (ur_ rfl B.range (zh_ (av 4) zn_ (za_ rfl)) rfl)) (z9_ (i:=6) (Nat.zero_le _) sc_take_question.nd rfl (by first|exact Or.inl rfl|exact Or.inr rfl) (.inl rfl))
  (zi_ (zds_ (i:=5) rfl (by first|exact Or.inl rfl|exact Or.inr (Or.inl rfl)|exact Or.inr (Or.inr rfl)) (zb_ (zat_ (i:=0) Cself (hr.mono (by omega)) rfl rfl (by first|exact Or.inl rfl|exact Or.inr (Or.inl rfl)|exact Or.inr (Or.inr rfl)) (zb_ (zg_ (av 1)) (zb_ (zg_ (zz_ zW_ ju_ (ao (av 2)) (ao zf_))) zl_ (za_ rfl)) (za_ rfl)) rfl (by decide) (za_ rfl) rfl) zl_ (za_ rfl)) rfl rfl rfl rfl rfl rfl)) (λ_=>rfl))
  (zi_ (zv_ (zg_ (jh_ jA_ yO_ rfl B.tuple (by decide +kernel) (zp_ (Zs_ (i:=5) rfl (by first|exact Or.inl rfl|exact Or.inr (Or.inl rfl)|exact Or.inr (Or.inr rfl))) zA_ (za_ rfl)) (by decide) (by decide) rfl rfl))))))
  zI_)
  (ze_ (jU_ (z5_ (zF_ (js_ (zk_ hr)) jY_ (ao (av 3)) (ao zS_) rfl))
  (ze_ (zL_ (sh:=[.j "Row" zc_,.f,.dead,.f,.dead,.dead,.dead,.f,.dead,.dead]) (zR_ (i:=7) sc_take_question.nd rfl (by first|exact Or.inl rfl|exact Or.inr rfl) (uK_ (i:=0) IC_Row gak (by decide) (hr.mono (by omega)) rfl (by first|exact Or.inl rfl|exact Or.inr (Or.inl rfl)|exact Or.inr (Or.inr rfl)) (zb_ (zg_ (av 1)) (zb_ (zg_ zf_) (zb_ (zg_ (yn_ zn_ (by decide +kernel))) zl_ (za_ rfl)) (za_ rfl)) (za_ rfl)) rfl (za_ rfl) rfl rfl) rfl (.inl rfl)))
  (zi_ (zv_ (ZC_ (zb_ (zg_ (av 3)) (zb_ (zg_ (av 7)) (zb_ (uK_ (i:=0) IC_Row gak (by decide) (hr.mono (by omega)) rfl (by first|exact Or.inl rfl|exact Or.inr (Or.inl rfl)|exact Or.inr (Or.inr rfl)) (zb_ (zg_ (av 1)) (zb_ (zg_ zf_) (zb_ (zg_ (av 7)) zl_ (za_ rfl)) (za_ rfl)) (za_ rfl)) rfl (za_ rfl) rfl rfl) zl_ (za_ rfl)) (za_ rfl)) (za_ rfl)) (by decide +kernel)))))
  zI_)
  (ze_ (zL_ (sh:=[.j "Row" zc_,.dead,.dead,.f,.dead,.dead,.dead,.dead,.f,.dead]) (zR_ (i:=8) sc_take_question.nd rfl (by first|exact Or.inl rfl|exact Or.inr rfl) (uK_ (i:=0) IC_Row gak (by decide) (hr.mono (by omega)) rfl (by first|exact Or.inl rfl|exact Or.inr (Or.inl rfl)|exact Or.inr (Or.inr rfl)) (zb_ (zg_ (av 1)) (zb_ (zg_ zf_) (zb_ (zg_ (yn_ zn_ (by decide +kernel))) zl_ (za_ rfl)) (za_ rfl)) (za_ rfl)) rfl (za_ rfl) rfl rfl) rfl (.inl rfl)))
  (ze_ (jU_ (z5_ (zF_ (js_ (zk_ hr)) jY_ (ao (av 3)) (ao zS_) rfl))
  (zi_ (zv_ (ZC_ (zb_ (zg_ (av 3)) (zb_ (zg_ (av 8)) (zb_ (uK_ (i:=0) IC_Row gah (by decide) (hr.mono (by omega)) rfl (by first|exact Or.inl rfl|exact Or.inr (Or.inl rfl)|exact Or.inr (Or.inr rfl)) (zb_ (zg_ zf_) (zb_ (zg_ (Zr_ rfl Kn.MOST_LEAST.choose_spec.1 Kn.MOST_LEAST.choose_spec.2 (λ_=>.int _) (by decide))) (zb_ (zg_ (yn_ zn_ (by decide +kernel))) zl_ (za_ rfl)) (za_ rfl)) (za_ rfl)) rfl (za_ rfl) rfl rfl) zl_ (za_ rfl)) (za_ rfl)) (za_ rfl)) (by decide +kernel))))
  zI_)
  (ze_ (zL_ (sh:=[.j "Row" zc_,.dead,.dead,.f,.dead,.dead,.dead,.dead,.f,.f]) (zR_ (i:=9) sc_take_question.nd rfl (by first|exact Or.inl rfl|exact Or.inr rfl) (uK_ (i:=0) IC_Row gah (by decide) (hr.mono (by omega)) rfl (by first|exact Or.inl rfl|exact Or.inr (Or.inl rfl)|exact Or.inr (Or.inr rfl)) (zb_ (zg_ zf_) (zb_ (zg_ (Zr_ rfl Kn.MOST_REST.choose_spec.1 Kn.MOST_REST.choose_spec.2 (λ_=>.int _) (by decide))) (zb_ (zg_ (yn_ zn_ (by decide +kernel))) zl_ (za_ rfl)) (za_ rfl)) (za_ rfl)) rfl (za_ rfl) rfl rfl) rfl (.inl rfl)))
  (zi_ (zv_ (ZC_ (zb_ (zg_ (av 3)) (zb_ (zg_ (av 8)) (zb_ (zg_ (av 9)) (zb_ (uK_ (i:=0) IC_Row gah (by decide) (hr.mono (by omega)) rfl (by first|exact Or.inl rfl|exact Or.inr (Or.inl rfl)|exact Or.inr (Or.inr rfl)) (zb_ (zg_ zf_) (zb_ (zg_ (zz_ yN_ yP_ (ao (av 9)) (ao zf_))) (zb_ (zg_ (yn_ zn_ (by decide +kernel))) zl_ (za_ rfl)) (za_ rfl)) (za_ rfl)) rfl (za_ rfl) rfl rfl) zl_ (za_ rfl)) (za_ rfl)) (za_ rfl)) (za_ rfl)) (by decide +kernel))))))))))))))
 (λg ds hl=>(by obtain⟨gal,gaQ,rfl⟩:=ln2 (Nat.succ.inj hl);kernel_rfl))
theorem ZG_{f:Addr}{fd:FuncData}(Fn:Fun K "take_question" "take_question" jq_ f fd)(hmg:mg "take_question" = some (.ref f))(B:BN mg)(Kn:KN mg)(Kx:KX K mg)(IC_Row:IC K "Row" CA_Row)(NF_Row:∀f∈zc_,NoAttr K CA_Row f)(gar:CM P w K mg base CA_Row "take_word" 5 (spI1 K "Row" zc_ zc_ 2 jS_))(gao:CF P w K mg base "parts_of" 1 (spD K 1 j4_))(gak:CM P w K mg base CA_Row "take_sorts" 5 (spI1 K "Row" zc_ zc_ 4 jH_))(gah:CM P w K mg base CA_Row "take_number" 5 (spI1 K "Row" zc_ zc_ 4 jx_))(gac:CM P w K mg base CA_Row "refuse" 3 (spI1 K "Row" zc_ zc_ 1 zP_))(i:Nat):CF P w K mg base "take_question" (6+i) (spI1 K "Row" zc_ zc_ 3 (zN_ i)):=by
 induction i with
 | zero =>
  have e:zN_ 0=λ_ _=>.bad:=by
   funext g l;unfold zN_;split<;>rfl
  rw[e]
  exact CF.zeroI (ps:=["row", "sorts", "within"]) _ _ hmg Fn.kp (bnd3 Fn λ_ _ _ _ _ _ _ _ _=>rfl)
 | succ i ih=>exact⟨f,fd,["row", "sorts", "within"],ZO_ Fn B Kn Kx IC_Row NF_Row gar gao gak gah gac i ih,hmg,Fn.kp,(bnd3 Fn λ_ _ _ _ _ _ _ _ _=>rfl)⟩
noncomputable abbrev j0_:Stmt:=top 24
noncomputable abbrev Jq_:List Str:=["sorts", "text", "row", "question"]
theorem sc_read_question:FnScope Jq_ ["sorts", "text"] (zd_ j0_):=⟨rfl,rfl,rfl,by decide +kernel,rfl,by decide +kernel,by decide +kernel⟩
def jB_(gal:D)(gaS:D):M D :=
 newI (jg_ [] (.int 0) gaS) λl1=>bd (zU_ 6 l1 gal (.int 0)) λr2=>bd (u9_ r2.2) λr3=>.ret r2.1
def uM_:List D->M D:=λl=>match l with
 | [gal,gaS]=>jB_ gal gaS
 | _=>.bad
set_option maxHeartbeats 4000000 in
theorem ZH_{f:Addr}{fd:FuncData}(Fn:Fun K "read_question" "read_question" j0_ f fd)(hmg:mg "read_question" = some (.ref f))(B:BN mg)(Kn:KN mg)(Kx:KX K mg)(IC_Row:IC K "Row" CA_Row)(NF_Row:∀f∈zc_,NoAttr K CA_Row f)(gaJ:CN P w K mg base CA_Row "Row" 1 (spI1 K "Row" [] zc_ 3 u3_))(gaE:CF P w K mg base "take_question" 12 (spI1 K "Row" zc_ zc_ 3 (zN_ 6)))(gaP:CM P w K mg base CA_Row "finish" 4 (spI1 K "Row" zc_ zc_ 1 yT_)):CF P w K mg base "read_question" 13 (spD K 2 uM_) :=
 ⟨f,fd,["sorts", "text"],un_ (k:=12) Fn sc_read_question (λcdv A outer s H E hr =>
 (ze_ (zL_ (sh:=[.f,.dead,.i "Row" zc_,.dead]) (zbG_ (j:=2) IC_Row gaJ (hr.mono (by decide)) rfl (zb_ (zg_ zf_) (zb_ (zg_ (av 1)) zl_ (za_ rfl)) (za_ rfl)) rfl (by decide) (za_ rfl) rfl sc_read_question.nd rfl (by first|exact Or.inl rfl|exact Or.inr rfl) rfl (.inl rfl)))
  (ze_ (zL_ (sh:=[.dead,.dead,.i "Row" zc_,.f]) (zR_ (i:=3) sc_read_question.nd rfl (by first|exact Or.inl rfl|exact Or.inr rfl) (zat_ (i:=2) gaE (hr.mono (by decide)) rfl rfl (by first|exact Or.inl rfl|exact Or.inr (Or.inl rfl)|exact Or.inr (Or.inr rfl)) (zb_ (zg_ (av 0)) (zb_ (zg_ zf_) zl_ (za_ rfl)) (za_ rfl)) rfl (by decide) (za_ rfl) rfl) rfl (.inl rfl)))
  (ze_ (zL_ (sh:=[.dead,.dead,.dead,.f]) (yD_ (zZ_ (i:=2) IC_Row gaP (by decide) (hr.mono (by decide)) rfl (by first|exact Or.inl rfl|exact Or.inr (Or.inl rfl)|exact Or.inr (Or.inr rfl)) rfl) rfl))
  (zi_ (zv_ (zg_ (av 3))))))))
 (λds hl=>(by obtain⟨gal,gaS,rfl⟩:=ln2 hl;kernel_rfl)),hmg,Fn.kp,(bnd2 Fn λ_ _ _ _ _ _ _ _=>rfl)⟩
noncomputable abbrev yv_:Stmt:=top 27
noncomputable abbrev Qf_:List Str:=["_law_script", "_law_k", "_law_cell", "_law_great"]
theorem sc__law_feed:FnScope Qf_ ["_law_script", "_law_k"] (zd_ yv_):=⟨rfl,rfl,rfl,by decide +kernel,rfl,by decide +kernel,by decide +kernel⟩
def uI_(gag:D)(gbb:D):M (List D) :=
 bd (bd (bd (oM (fLen [gag])) λx1=>oM (opGt x1 (.int 0))) λb4=>if b4 then bd (bd (oM (fLen [gag])) λx2=>oM (yx_ gbb x2)) λx3=>oM (zH_ gag x3)else .ret (.int 0)) λx5=>bd (bd (bd (oM (fAbs [x5])) λx6=>bd (oM (Wk_ (.int 10) (.int 18))) λx7=>oM (opGe x6 x7)) λb8=>if b8 then oM (fAbs [x5])else .ret (.int 0)) λx9=>bd (bd (bd (oM (yx_ x5 (.int 1000003))) λx10=>bd (oM (yj_ (.int 7919) gbb)) λx11=>oM (z1_ x10 x11)) λx12=>.ret [x9,x12,(.int 0)]) λl13=>.ret l13
def ZA_:List D->M (List D):=λl=>match l with
 | [gag,gbb]=>uI_ gag gbb
 | _=>.bad
set_option maxHeartbeats 4000000 in
theorem Yb_{f:Addr}{fd:FuncData}(Fn:Fun K "_law_feed" "_law_feed" yv_ f fd)(hmg:mg "_law_feed" = some (.ref f))(B:BN mg)(Kn:KN mg)(Kx:KX K mg):CF P w K mg base "_law_feed" 1 (spL K 2 ZA_) :=
 ⟨f,fd,["_law_script", "_law_k"],zdh_ (k:=0) Fn sc__law_feed (λcdv A outer s H E hr =>
 (ze_ (zL_ (sh:=[.dead,.f,.f,.dead]) (zR_ (i:=2) sc__law_feed.nd rfl (by first|exact Or.inl rfl|exact Or.inr rfl) (zg_ (YJ_ (zF_ Vb_ Vd_ (ao (zQ_ je_ yk_ rfl B.len PySem.boot_len (zp_ (ao (av 0)) zA_ (za_ rfl)) (by decide) (by decide) rfl rfl)) (ao zf_) rfl) (uQ_ (jy_ (zk_ hr)) jt_ (ao (av 0)) (ao (zz_ Zv_ Zw_ (ao (av 1)) (ao (zQ_ je_ yk_ rfl B.len PySem.boot_len (zp_ (ao (av 0)) zA_ (za_ rfl)) (by decide) (by decide) rfl rfl)))) (λ_ _=>rfl)) zf_)) rfl (.inl rfl)))
  (ze_ (zL_ (sh:=[.dead,.f,.f,.f]) (zR_ (i:=3) sc__law_feed.nd rfl (by first|exact Or.inl rfl|exact Or.inr rfl) (zg_ (YJ_ (zF_ zcG_ zcM_ (ao (zQ_ QS_ zag_ rfl B.abs (by decide +kernel) (zp_ (ao (av 2)) zA_ (za_ rfl)) (by decide) (by decide) rfl rfl)) (ao (zz_ zcC_ zcJ_ (ao zf_) (ao zf_))) rfl) (zQ_ QS_ zag_ rfl B.abs (by decide +kernel) (zp_ (ao (av 2)) zA_ (za_ rfl)) (by decide) (by decide) rfl rfl) zf_)) rfl (.inl rfl)))
  (zi_ (zbF_ (W4_ (yo_ (zh_ (av 3) (zh_ (zz_ zW_ ju_ (ao (zz_ Zv_ Zw_ (ao (av 2)) (ao zf_))) (ao (zz_ U3_ U5_ (ao zf_) (ao (av 1))))) (zh_ zf_ zn_ (za_ rfl)) (za_ rfl)) (za_ rfl)) (by decide +kernel))))))))
 (λds hl=>(by obtain⟨gag,gbb,rfl⟩:=ln2 hl;kernel_rfl)),hmg,Fn.kp,(bnd2 Fn λ_ _ _ _ _ _ _ _=>rfl)⟩
noncomputable abbrev yu_:Stmt:=top 28
noncomputable abbrev Qe_:List Str:=["_law_feed_here", "_law_many", "_law_digit", "_law_turn", "_law_one_here"]
theorem sc__law_next:FnScope Qe_ ["_law_feed_here", "_law_many"] (zd_ yu_):=⟨rfl,rfl,rfl,by decide +kernel,rfl,by decide +kernel,by decide +kernel⟩
def zj_(gaa:List D)(gaD:D):M (D×List D) :=
 bd (bd (oM (zH_ (PyData.list gaa) (.int 0))) λx1=>oM (opGt x1 (.int 0))) λb2=>if b2 then
  bd (bd (oM (zH_ (PyData.list gaa) (.int 0))) λx3=>oM (yx_ x3 gaD)) λx4=>bd (bd (oM (zH_ (PyData.list gaa) (.int 0))) λx5=>oM (Wl_ x5 gaD)) λx6=>bd (oM (putD gaa (.int 0) x6)) λl7=>.ret (x4,l7)
  else
  bd (bd (oM (zH_ (PyData.list gaa) (.int 2))) λx8=>oM (z1_ x8 (.int 1))) λx9=>bd (oM (putD gaa (.int 2) x9)) λl10=>bd (bd (bd (bd (bd (oM (zH_ (PyData.list l10) (.int 1))) λx11=>bd (oM (yj_ (.int 41) x9)) λx12=>oM (z1_ x11 x12)) λx13=>oM (z1_ x13 (.int 3))) λx15=>bd (bd (oM (yj_ x9 x9)) λx14=>oM (z1_ x14 (.int 69621))) λx16=>oM (yj_ x15 x16)) λx17=>oM (yx_ x17 (.int 998244353))) λx18=>bd (bd (bd (bd (bd (bd (bd (oM (yx_ x18 (.int 65519))) λx19=>oM (z1_ x19 (.int 40692))) λx20=>oM (yj_ x18 x20)) λx21=>oM (z1_ x21 x9)) λx22=>oM (yx_ x22 (.int 2147483629))) λx23=>oM (Wl_ x23 (.int 13))) λx24=>oM (yx_ x24 gaD)) λx25=>.ret (x25,l10)
def z6_:List D->List D->M (D×List D):=λgaa l=>match l with
 | [gaD]=>zj_ gaa gaD
 | _=>.bad
set_option maxHeartbeats 4000000 in
theorem Ya_{f:Addr}{fd:FuncData}(Fn:Fun K "_law_next" "_law_next" yu_ f fd)(hmg:mg "_law_next" = some (.ref f))(B:BN mg)(Kn:KN mg)(Kx:KX K mg):CF P w K mg base "_law_next" 1 (sp1 K 2 z6_) :=
 ⟨f,fd,["_law_feed_here", "_law_many"],Yq_ (k:=0) Fn sc__law_next (λcdv A outer s H E hr =>
 (ze_ (jU_ (z5_ (zF_ Vb_ Vd_ (ao (uQ_ (jy_ (zk_ hr)) jt_ (Zs_ (i:=0) rfl (by first|exact Or.inl rfl|exact Or.inr (Or.inl rfl)|exact Or.inr (Or.inr rfl))) (ao zf_) (λ_ _=>rfl))) (ao zf_) rfl))
  (ze_ (zL_ (sh:=[.p,.f,.f,.dead,.dead]) (zR_ (i:=2) sc__law_next.nd rfl (by first|exact Or.inl rfl|exact Or.inr rfl) (zg_ (zz_ Zv_ Zw_ (ao (uQ_ (jy_ (zk_ hr)) jt_ (Zs_ (i:=0) rfl (by first|exact Or.inl rfl|exact Or.inr (Or.inl rfl)|exact Or.inr (Or.inr rfl))) (ao zf_) (λ_ _=>rfl))) (ao (av 1)))) rfl (.inl rfl)))
  (ze_ (zL_ (sh:=[.p,.dead,.f,.dead,.dead]) (zar_ (i:=0) rfl (by first|exact Or.inl rfl|exact Or.inr (Or.inl rfl)|exact Or.inr (Or.inr rfl)) (zg_ zf_) (zg_ (zz_ Wj_ zaf_ (ao (uQ_ (jy_ (zk_ hr)) jt_ (Zs_ (i:=0) rfl (by first|exact Or.inl rfl|exact Or.inr (Or.inl rfl)|exact Or.inr (Or.inr rfl))) (ao zf_) (λ_ _=>rfl))) (ao (av 1)))) (λ_=>rfl) rfl rfl rfl))
  (zi_ (zv_ (zg_ (av 2))))))
  zI_)
  (ze_ (zL_ (sh:=[.p,.f,.dead,.f,.dead]) (zR_ (i:=3) sc__law_next.nd rfl (by first|exact Or.inl rfl|exact Or.inr rfl) (zg_ (zz_ zW_ ju_ (ao (uQ_ (jy_ (zk_ hr)) jt_ (Zs_ (i:=0) rfl (by first|exact Or.inl rfl|exact Or.inr (Or.inl rfl)|exact Or.inr (Or.inr rfl))) (ao zf_) (λ_ _=>rfl))) (ao zf_))) rfl (.inl rfl)))
  (ze_ (zL_ (sh:=[.p,.f,.dead,.f,.dead]) (zar_ (i:=0) rfl (by first|exact Or.inl rfl|exact Or.inr (Or.inl rfl)|exact Or.inr (Or.inr rfl)) (zg_ zf_) (zg_ (av 3)) (λ_=>rfl) rfl rfl rfl))
  (ze_ (zL_ (sh:=[.p,.f,.dead,.f,.f]) (zR_ (i:=4) sc__law_next.nd rfl (by first|exact Or.inl rfl|exact Or.inr rfl) (zg_ (zz_ Zv_ Zw_ (ao (zz_ U3_ U5_ (ao (zz_ zW_ ju_ (ao (zz_ zW_ ju_ (ao (uQ_ (jy_ (zk_ hr)) jt_ (Zs_ (i:=0) rfl (by first|exact Or.inl rfl|exact Or.inr (Or.inl rfl)|exact Or.inr (Or.inr rfl))) (ao zf_) (λ_ _=>rfl))) (ao (zz_ U3_ U5_ (ao zf_) (ao (av 3)))))) (ao zf_))) (ao (zz_ zW_ ju_ (ao (zz_ U3_ U5_ (ao (av 3)) (ao (av 3)))) (ao zf_))))) (ao zf_))) rfl (.inl rfl)))
  (zi_ (zv_ (zg_ (zz_ Zv_ Zw_ (ao (zz_ Wj_ zaf_ (ao (zz_ Zv_ Zw_ (ao (zz_ zW_ ju_ (ao (zz_ U3_ U5_ (ao (av 4)) (ao (zz_ zW_ ju_ (ao (zz_ Zv_ Zw_ (ao (av 4)) (ao zf_))) (ao zf_))))) (ao (av 3)))) (ao zf_))) (ao zf_))) (ao (av 1)))))))))))
 (λg ds hl=>(by obtain⟨gaD,rfl⟩:=ln1 (Nat.succ.inj hl);kernel_rfl)),hmg,Fn.kp,(bnd2 Fn λ_ _ _ _ _ _ _ _=>rfl)⟩
noncomputable abbrev Zb_:Stmt:=top 29
noncomputable abbrev VB_:List Str:=["_law_feed_here", "_law_some_here"]
theorem YQ_:FnScope VB_ ["_law_feed_here", "_law_some_here"] (zd_ Zb_):=⟨rfl,rfl,rfl,by decide +kernel,rfl,by decide +kernel,by decide +kernel⟩
def uq_(gaa:List D)(gae:D):M (D×List D) :=
 bd (oM (fLen [gae])) λx1=>bd (zj_ gaa x1) λr2=>bd (oM (zH_ gae r2.1)) λx3=>.ret (x3,r2.2)
def Jd_:List D->List D->M (D×List D):=λgaa l=>match l with
 | [gae]=>uq_ gaa gae
 | _=>.bad
set_option maxHeartbeats 4000000 in
theorem YW_{f:Addr}{fd:FuncData}(Fn:Fun K "_law_one" "_law_one" Zb_ f fd)(hmg:mg "_law_one" = some (.ref f))(B:BN mg)(Kn:KN mg)(Kx:KX K mg)(gab:CF P w K mg base "_law_next" 1 (sp1 K 2 z6_)):CF P w K mg base "_law_one" 2 (sp1 K 2 Jd_) :=
 ⟨f,fd,["_law_feed_here", "_law_some_here"],Yq_ (k:=1) Fn YQ_ (λcdv A outer s H E hr =>
 (zi_ (zv_ (zeG_ (jy_ (zk_ hr)) jt_ (zg_ (av 1)) (ji_ (i:=0) gab (hr.mono (by decide)) rfl rfl (by first|exact Or.inl rfl|exact Or.inr (Or.inl rfl)|exact Or.inr (Or.inr rfl)) (zb_ (zg_ (zQ_ je_ yk_ rfl B.len PySem.boot_len (zp_ (ao (av 1)) zA_ (za_ rfl)) (by decide) (by decide) rfl rfl)) zl_ (za_ rfl)) rfl (by decide) rfl rfl) (λ_ _=>rfl)))))
 (λg ds hl=>(by obtain⟨gae,rfl⟩:=ln1 (Nat.succ.inj hl);kernel_rfl)),hmg,Fn.kp,(bnd2 Fn λ_ _ _ _ _ _ _ _=>rfl)⟩
noncomputable abbrev ux_:Stmt:=top 30
noncomputable abbrev Js_:List Str:=["_law_feed_here", "_law_sorts", "_law_least", "_law_some_here"]
theorem sc__law_some:FnScope Js_ ["_law_feed_here", "_law_sorts", "_law_least"] (zd_ ux_):=⟨rfl,rfl,rfl,by decide +kernel,rfl,by decide +kernel,by decide +kernel⟩
noncomputable abbrev N__law_some_0:List Str:=["_law_feed_here", "_law_sorts", "_law_least", "_law_some_here", "_law_sort"]
theorem ZN_:N__law_some_0.Nodup:=by decide +kernel
def j7_(gaa:List D)(gad:D)(gaL:D):M (D×List D) :=
 bd (oM (jI_ [gad])) λl1=>bd (uD_ (λs2 d3=>bd (zj_ s2.1 (.int 2)) λr4=>bd (oM (opEq r4.1 (.int 0))) λb5=>if b5 then .ret (some d3,(r4.2,s2.2.1,s2.2.2.1,()))else .ret (none,(r4.2,s2.2.1,s2.2.2.1,()))) l1 (gaa,gad,gaL,())) λr6=>bd (fitM r6.1) λl7=>bd (bd (oM (fLen [(PyData.list l7)])) λx8=>oM (opGe x8 r6.2.2.2.1)) λb9=>if b9 then bd (oM (yY_ [(PyData.list l7)])) λx10=>.ret (x10,r6.2.1)else bd (zj_ r6.2.1 r6.2.2.1) λr11=>.ret ((.tuple [r11.1]),r11.2)
def Zz_:List D->List D->M (D×List D):=λgaa l=>match l with
 | [gad,gaL]=>j7_ gaa gad gaL
 | _=>.bad
set_option maxHeartbeats 4000000 in
theorem U9_{f:Addr}{fd:FuncData}(Fn:Fun K "_law_some" "_law_some" ux_ f fd)(hmg:mg "_law_some" = some (.ref f))(B:BN mg)(Kn:KN mg)(Kx:KX K mg)(gab:CF P w K mg base "_law_next" 1 (sp1 K 2 z6_)):CF P w K mg base "_law_some" 2 (sp1 K 3 Zz_) :=
 ⟨f,fd,["_law_feed_here", "_law_sorts", "_law_least"],Yq_ (k:=1) Fn sc__law_some (λcdv A outer s H E hr =>
 (ze_ (zL_ (sh:=[.p,.f,.f,.f]) (Qa_ (i:=3) sc__law_some.nd rfl (by first|exact Or.inl rfl|exact Or.inr rfl) (.inl rfl) (sh:=[.p,.f,.f,.dead]) (N':=N__law_some_0) (k:=1) rfl (zT_ (N:=Js_) (sc:=(zd_ ux_)) (by decide +kernel) rfl rfl) (J9_ (ur_ rfl B.range (zh_ (av 1) zn_ (za_ rfl)) rfl)) (λcl s' H' fp C'=>(z9_ (i:=4) (show 4<=4 by decide) ZN_ rfl (by first|exact Or.inl rfl|exact Or.inr rfl) (.inr rfl))) (λcl s' H' fp C'=>(XW_ (zbJ_ (js_ (zk_ hr)) jY_ (ji_ (i:=0) gab (hr.mono (by decide)) rfl rfl (by first|exact Or.inl rfl|exact Or.inr (Or.inl rfl)|exact Or.inr (Or.inr rfl)) (zb_ (zg_ zf_) zl_ (za_ rfl)) rfl (by decide) rfl rfl) (zg_ zf_) rfl))) (λcl s' H' fp C'=>(zg_ (av 4))) rfl (λ_=>rfl)))
  (zi_ (zv_ (zeH_ (z5_ (zF_ zcG_ zcM_ (ao (zQ_ je_ yk_ rfl B.len PySem.boot_len (zp_ (ao (av 3)) zA_ (za_ rfl)) (by decide) (by decide) rfl rfl)) (ao (av 2)) rfl)) (zg_ (jh_ jA_ yO_ rfl B.tuple (by decide +kernel) (zp_ (ao (av 3)) zA_ (za_ rfl)) (by decide) (by decide) rfl rfl)) (ZC_ (zb_ (ji_ (i:=0) gab (hr.mono (by decide)) rfl rfl (by first|exact Or.inl rfl|exact Or.inr (Or.inl rfl)|exact Or.inr (Or.inr rfl)) (zb_ (zg_ (av 1)) zl_ (za_ rfl)) rfl (by decide) rfl rfl) zl_ (za_ rfl)) (by decide +kernel)))))))
 (λg ds hl=>(by obtain⟨gad,gaL,rfl⟩:=ln2 (Nat.succ.inj hl);kernel_rfl)),hmg,Fn.kp,(bnd3 Fn λ_ _ _ _ _ _ _ _ _=>rfl)⟩
noncomputable abbrev jn_:Stmt:=top 31
noncomputable abbrev uc_:List Str:=["_law_feed_here", "_law_sorts", "_law_way", "_law_sides", "_law_these", "_law_by"]
theorem sc__law_plain:FnScope uc_ ["_law_feed_here", "_law_sorts"] (zd_ jn_):=⟨rfl,rfl,rfl,by decide +kernel,rfl,by decide +kernel,by decide +kernel⟩
noncomputable abbrev N__law_plain_0:List Str:=["_law_feed_here", "_law_sorts", "_law_way", "_law_sides", "_law_these", "_law_by", "_law_sort"]
theorem Zi_:N__law_plain_0.Nodup:=by decide +kernel
noncomputable abbrev N__law_plain_1:List Str:=["_law_feed_here", "_law_sorts", "_law_way", "_law_sides", "_law_these", "_law_by", "_law_sort"]
theorem Zh_:N__law_plain_1.Nodup:=by decide +kernel
noncomputable abbrev N__law_plain_2:List Str:=["_law_feed_here", "_law_sorts", "_law_way", "_law_sides", "_law_these", "_law_by", "_law_sort"]
theorem Zg_:N__law_plain_2.Nodup:=by decide +kernel
def ub_(gaa:List D)(gad:D):M (D×List D) :=
 bd (zj_ gaa (.int 3)) λr1=>bd (oM (opEq r1.1 (.int 0))) λb2=>if b2 then
  bd (j7_ r1.2 gad (.int 1)) λr3=>bd (uq_ r3.2 (PyData.list [(.int 3),(.int 9)])) λr4=>bd (zj_ r4.2 r4.1) λr5=>bd (oM (z1_ (.int 1) r5.1)) λx6=>.ret ((.tuple [(.str "least"),r3.1,x6]),r5.2)
  else
  bd (oM (opEq r1.1 (.int 1))) λb7=>if b7 then
  bd (oM (jI_ [gad])) λl8=>bd (uD_ (λs9 d10=>bd (zj_ s9.1 (.int 3)) λr11=>.ret (some r11.1,(r11.2,s9.2.1,()))) l8 (r1.2,gad,())) λr12=>bd (fitM r12.1) λl13=>bd (bd (bd (bd (oM (jI_ [r12.2.2.1])) λl17=>bd (zC_ (λd14=>bd (bd (oM (zH_ (PyData.list l13) d14)) λx15=>oM (opEq x15 (.int 0))) λb16=>if b16 then .ret (some d14)else .ret none) l17) fitM) λl18=>.ret (PyData.list l18)) λx19=>oM (yY_ [x19])) λx20=>bd (bd (bd (bd (bd (oM (jI_ [r12.2.2.1])) λl24=>bd (zC_ (λd21=>bd (bd (oM (zH_ (PyData.list l13) d21)) λx22=>oM (opEq x22 (.int 1))) λb23=>if b23 then .ret (some d21)else .ret none) l24) fitM) λl25=>.ret (PyData.list l25)) λx26=>oM (yY_ [x26])) λx27=>.ret (.tuple [(.str "more"),x20,x27])) λx28=>.ret (x28,r12.2.1)
  else
  bd (uq_ r1.2 (PyData.list [(.int 2),(.int 8)])) λr29=>bd (zj_ r29.2 r29.1) λr30=>bd (oM (z1_ (.int 2) r30.1)) λx31=>bd (j7_ r30.2 gad (.int 1)) λr32=>bd (zj_ r32.2 x31) λr33=>.ret ((.tuple [(.str "rest"),r32.1,x31,r33.1]),r33.2)
def uC_:List D->List D->M (D×List D):=λgaa l=>match l with
 | [gad]=>ub_ gaa gad
 | _=>.bad
set_option maxHeartbeats 4000000 in
theorem Ur_{f:Addr}{fd:FuncData}(Fn:Fun K "_law_plain" "_law_plain" jn_ f fd)(hmg:mg "_law_plain" = some (.ref f))(B:BN mg)(Kn:KN mg)(Kx:KX K mg)(gab:CF P w K mg base "_law_next" 1 (sp1 K 2 z6_))(gaM:CF P w K mg base "_law_some" 2 (sp1 K 3 Zz_))(gaR:CF P w K mg base "_law_one" 2 (sp1 K 2 Jd_)):CF P w K mg base "_law_plain" 3 (sp1 K 2 uC_) :=
 ⟨f,fd,["_law_feed_here", "_law_sorts"],Yq_ (k:=2) Fn sc__law_plain (λcdv A outer s H E hr =>
 (ze_ (zL_ (sh:=[.p,.f,.f,.dead,.dead,.dead]) (zR_ (i:=2) sc__law_plain.nd rfl (by first|exact Or.inl rfl|exact Or.inr rfl) (ji_ (i:=0) gab (hr.mono (by decide)) rfl rfl (by first|exact Or.inl rfl|exact Or.inr (Or.inl rfl)|exact Or.inr (Or.inr rfl)) (zb_ (zg_ zf_) zl_ (za_ rfl)) rfl (by decide) rfl rfl) rfl (.inl rfl)))
  (ze_ (jU_ (z5_ (zF_ (js_ (zk_ hr)) jY_ (ao (av 2)) (ao zf_) rfl))
  (zi_ (zv_ (ZC_ (zb_ (zg_ zS_) (zb_ (ji_ (i:=0) gaM (hr.mono (by decide)) rfl rfl (by first|exact Or.inl rfl|exact Or.inr (Or.inl rfl)|exact Or.inr (Or.inr rfl)) (zb_ (zg_ (av 1)) (zb_ (zg_ zf_) zl_ (za_ rfl)) (za_ rfl)) rfl (by decide) rfl rfl) (zb_ (YL_ zW_ ju_ (zg_ zf_) (ji_ (i:=0) gab (hr.mono (by decide)) rfl rfl (by first|exact Or.inl rfl|exact Or.inr (Or.inl rfl)|exact Or.inr (Or.inr rfl)) (zb_ (ji_ (i:=0) gaR (hr.mono (by decide)) rfl rfl (by first|exact Or.inl rfl|exact Or.inr (Or.inl rfl)|exact Or.inr (Or.inr rfl)) (zb_ (zg_ (ap_z (yo_ (zh_ zf_ (zh_ zf_ zn_ (za_ rfl)) (za_ rfl)) (by decide +kernel)))) zl_ (za_ rfl)) rfl (by decide) rfl rfl) zl_ (za_ rfl)) rfl (by decide) rfl rfl)) zl_ (za_ rfl)) (za_ rfl)) (za_ rfl)) (by decide +kernel))))
  zI_)
  (ze_ (jU_ (z5_ (zF_ (js_ (zk_ hr)) jY_ (ao (av 2)) (ao zf_) rfl))
  (ze_ (zL_ (sh:=[.p,.f,.dead,.f,.dead,.dead]) (zR_ (i:=3) sc__law_plain.nd rfl (by first|exact Or.inl rfl|exact Or.inr rfl) (ae_z (XX_ (sh:=[.p,.f,.dead,.dead,.dead,.dead]) (N':=N__law_plain_0) (k:=1) rfl (zT_ (N:=uc_) (sc:=(zd_ jn_)) (by decide +kernel) rfl rfl) (J9_ (ur_ rfl B.range (zh_ (av 1) zn_ (za_ rfl)) rfl)) (λcl s' H' fp C'=>(z9_ (i:=6) (show 6<=6 by decide) Zi_ rfl (by first|exact Or.inl rfl|exact Or.inr rfl) (.inr rfl))) (λcl s' H' fp C'=>(zbH_ ul_)) (λcl s' H' fp C'=>(ji_ (i:=0) gab (hr.mono (by decide)) rfl rfl (by first|exact Or.inl rfl|exact Or.inr (Or.inl rfl)|exact Or.inr (Or.inr rfl)) (zb_ (zg_ zf_) zl_ (za_ rfl)) rfl (by decide) rfl rfl)) (λ_=>rfl))) rfl (.inl rfl)))
  (ze_ (zL_ (sh:=[.p,.f,.dead,.f,.f,.dead]) (zR_ (i:=4) sc__law_plain.nd rfl (by first|exact Or.inl rfl|exact Or.inr rfl) (zg_ (jh_ jA_ yO_ rfl B.tuple (by decide +kernel) (zp_ (ao (ap_z (uJ_ (N':=N__law_plain_1) (k:=1) rfl (zT_ (N:=uc_) (sc:=(zd_ jn_)) (by decide +kernel) rfl rfl) (ur_ rfl B.range (zh_ (av 1) zn_ (za_ rfl)) rfl) (λcl s' H' fp C'=>(z9_ (i:=6) (show 6<=6 by decide) Zh_ rfl (by first|exact Or.inl rfl|exact Or.inr rfl) (.inr rfl))) (λcl s' H' fp C'=>(WX_ (zF_ (js_ (zk_ hr)) jY_ (ao (uQ_ (jy_ (zk_ hr)) jt_ (ao (av 3)) (ao (av 6)) (λ_ _=>rfl))) (ao zf_) rfl))) (λcl s' H' fp C'=>(av 6)) (λ_=>rfl)))) zA_ (za_ rfl)) (by decide) (by decide) rfl rfl)) rfl (.inl rfl)))
  (zi_ (zv_ (zg_ (yn_ (zh_ zS_ (zh_ (av 4) (zh_ (jh_ jA_ yO_ rfl B.tuple (by decide +kernel) (zp_ (ao (ap_z (uJ_ (N':=N__law_plain_2) (k:=1) rfl (zT_ (N:=uc_) (sc:=(zd_ jn_)) (by decide +kernel) rfl rfl) (ur_ rfl B.range (zh_ (av 1) zn_ (za_ rfl)) rfl) (λcl s' H' fp C'=>(z9_ (i:=6) (show 6<=6 by decide) Zg_ rfl (by first|exact Or.inl rfl|exact Or.inr rfl) (.inr rfl))) (λcl s' H' fp C'=>(WX_ (zF_ (js_ (zk_ hr)) jY_ (ao (uQ_ (jy_ (zk_ hr)) jt_ (ao (av 3)) (ao (av 6)) (λ_ _=>rfl))) (ao zf_) rfl))) (λcl s' H' fp C'=>(av 6)) (λ_=>rfl)))) zA_ (za_ rfl)) (by decide) (by decide) rfl rfl) zn_ (za_ rfl)) (za_ rfl)) (za_ rfl)) (by decide +kernel)))))))
  zI_)
  (ze_ (zL_ (sh:=[.p,.f,.dead,.dead,.dead,.f]) (zR_ (i:=5) sc__law_plain.nd rfl (by first|exact Or.inl rfl|exact Or.inr rfl) (YL_ zW_ ju_ (zg_ zf_) (ji_ (i:=0) gab (hr.mono (by decide)) rfl rfl (by first|exact Or.inl rfl|exact Or.inr (Or.inl rfl)|exact Or.inr (Or.inr rfl)) (zb_ (ji_ (i:=0) gaR (hr.mono (by decide)) rfl rfl (by first|exact Or.inl rfl|exact Or.inr (Or.inl rfl)|exact Or.inr (Or.inr rfl)) (zb_ (zg_ (ap_z (yo_ (zh_ zf_ (zh_ zf_ zn_ (za_ rfl)) (za_ rfl)) (by decide +kernel)))) zl_ (za_ rfl)) rfl (by decide) rfl rfl) zl_ (za_ rfl)) rfl (by decide) rfl rfl)) rfl (.inl rfl)))
  (zi_ (zv_ (ZC_ (zb_ (zg_ zS_) (zb_ (ji_ (i:=0) gaM (hr.mono (by decide)) rfl rfl (by first|exact Or.inl rfl|exact Or.inr (Or.inl rfl)|exact Or.inr (Or.inr rfl)) (zb_ (zg_ (av 1)) (zb_ (zg_ zf_) zl_ (za_ rfl)) (za_ rfl)) rfl (by decide) rfl rfl) (zb_ (zg_ (av 5)) (zb_ (ji_ (i:=0) gab (hr.mono (by decide)) rfl rfl (by first|exact Or.inl rfl|exact Or.inr (Or.inl rfl)|exact Or.inr (Or.inr rfl)) (zb_ (zg_ (av 5)) zl_ (za_ rfl)) rfl (by decide) rfl rfl) zl_ (za_ rfl)) (za_ rfl)) (za_ rfl)) (za_ rfl)) (by decide +kernel)))))))))
 (λg ds hl=>(by obtain⟨gad,rfl⟩:=ln1 (Nat.succ.inj hl);kernel_rfl)),hmg,Fn.kp,(bnd2 Fn λ_ _ _ _ _ _ _ _=>rfl)⟩
noncomputable abbrev jr_:Stmt:=top 32
noncomputable abbrev Jt_:List Str:=["_law_feed_here", "_law_sorts", "_law_size", "_law_deep", "_law_way", "_law_first", "_law_one_here"]
theorem sc__law_question:FnScope Jt_ ["_law_feed_here", "_law_sorts", "_law_size", "_law_deep"] (zd_ jr_):=⟨rfl,rfl,rfl,by decide +kernel,rfl,by decide +kernel,by decide +kernel⟩
def jL_(self:List D->D->D->D->M (D×List D))(gaa:List D)(gad:D)(gaw:D)(gay:D):M (D×List D) :=
 bd (zj_ gaa (.int 4)) λr1=>bd (bd (oM (opEq gaw (.int 1))) λb3=>if b3 then .ret true else bd (oM (opEq gay (.int 1))) λb2=>if b2 then .ret true else oM (opEq r1.1 (.int 0))) λb4=>if b4 then
  bd (ub_ r1.2 gad) λr5=>.ret (r5.1,r5.2)
  else
  bd (bd (oM (opEq r1.1 (.int 1))) λb6=>if b6 then .ret true else oM (opEq gaw (.int 2))) λb7=>if b7 then
  bd (oM (yh_ gaw (.int 1))) λx8=>bd (oM (yh_ gay (.int 1))) λx9=>bd (self r1.2 gad x8 x9) λr10=>.ret ((.tuple [(.str "not"),r10.1]),r10.2)
  else
  bd (oM (yh_ gaw (.int 2))) λx11=>bd (zj_ r1.2 x11) λr12=>bd (oM (z1_ (.int 1) r12.1)) λx13=>bd (oM (yh_ gay (.int 1))) λx14=>bd (self r12.2 gad x13 x14) λr15=>bd (bd (oM (yx_ r1.1 (.int 2))) λx16=>oM (zH_ (PyData.list [(.str "both"),(.str "either")]) x16)) λx17=>bd (bd (oM (yh_ gaw (.int 1))) λx18=>oM (yh_ x18 x13)) λx19=>bd (oM (yh_ gay (.int 1))) λx20=>bd (self r15.2 gad x19 x20) λr21=>.ret ((.tuple [x17,r15.1,r21.1]),r21.2)
def zV_:Nat->List D->D->D->D->M (D×List D)
 | 0=>λ_ _ _ _=>.bad
 | i+1=>jL_ (zV_ i)
noncomputable def zO_(i:Nat):List D->List D->M (D×List D):=λgaa l=>match l with
 | [gad,gaw,gay]=>zV_ i gaa gad gaw gay
 | _=>.bad
set_option maxHeartbeats 4000000 in
theorem ZP_{f:Addr}{fd:FuncData}(Fn:Fun K "_law_question" "_law_question" jr_ f fd)(B:BN mg)(Kn:KN mg)(Kx:KX K mg)(gab:CF P w K mg base "_law_next" 1 (sp1 K 2 z6_))(gaz:CF P w K mg base "_law_plain" 3 (sp1 K 2 uC_))(i:Nat)(Cself:CF P w K mg base "_law_question" (4+i) (sp1 K 4 (zO_ i))):FnOk P w K mg base (CX1 P w) (4+i+1) f fd ["_law_feed_here", "_law_sorts", "_law_size", "_law_deep"] (sp1 K 4 (zO_ (i+1))) :=
 Yq_ (k:=4+i) Fn sc__law_question (λcdv A outer s H E hr =>
 (ze_ (zL_ (sh:=[.p,.f,.f,.f,.f,.dead,.dead]) (zR_ (i:=4) sc__law_question.nd rfl (by first|exact Or.inl rfl|exact Or.inr rfl) (ji_ (i:=0) gab (hr.mono (by omega)) rfl rfl (by first|exact Or.inl rfl|exact Or.inr (Or.inl rfl)|exact Or.inr (Or.inr rfl)) (zb_ (zg_ zf_) zl_ (za_ rfl)) rfl (by decide) rfl rfl) rfl (.inl rfl)))
  (ze_ (jU_ (z5_ (Vw_ (YI_ (zF_ (js_ (zk_ hr)) jY_ (ao (av 2)) (ao zf_) rfl) (YI_ (zF_ (js_ (zk_ hr)) jY_ (ao (av 3)) (ao zf_) rfl) (YH_ (zF_ (js_ (zk_ hr)) jY_ (ao (av 4)) (ao zf_) rfl))))))
  (zi_ (zv_ (ji_ (i:=0) gaz (hr.mono (by omega)) rfl rfl (by first|exact Or.inl rfl|exact Or.inr (Or.inl rfl)|exact Or.inr (Or.inr rfl)) (zb_ (zg_ (av 1)) zl_ (za_ rfl)) rfl (by decide) rfl rfl)))
  zI_)
  (ze_ (jU_ (z5_ (Vw_ (YI_ (zF_ (js_ (zk_ hr)) jY_ (ao (av 4)) (ao zf_) rfl) (YH_ (zF_ (js_ (zk_ hr)) jY_ (ao (av 2)) (ao zf_) rfl)))))
  (zi_ (zv_ (ZC_ (zb_ (zg_ zS_) (zb_ (ji_ (i:=0) Cself (hr.mono (by omega)) rfl rfl (by first|exact Or.inl rfl|exact Or.inr (Or.inl rfl)|exact Or.inr (Or.inr rfl)) (zb_ (zg_ (av 1)) (zb_ (zg_ (zz_ yN_ yP_ (ao (av 2)) (ao zf_))) (zb_ (zg_ (zz_ yN_ yP_ (ao (av 3)) (ao zf_))) zl_ (za_ rfl)) (za_ rfl)) (za_ rfl)) rfl (by decide) rfl rfl) zl_ (za_ rfl)) (za_ rfl)) (by decide +kernel))))
  zI_)
  (ze_ (zL_ (sh:=[.p,.f,.f,.f,.f,.f,.dead]) (zR_ (i:=5) sc__law_question.nd rfl (by first|exact Or.inl rfl|exact Or.inr rfl) (YL_ zW_ ju_ (zg_ zf_) (ji_ (i:=0) gab (hr.mono (by omega)) rfl rfl (by first|exact Or.inl rfl|exact Or.inr (Or.inl rfl)|exact Or.inr (Or.inr rfl)) (zb_ (zg_ (zz_ yN_ yP_ (ao (av 2)) (ao zf_))) zl_ (za_ rfl)) rfl (by decide) rfl rfl)) rfl (.inl rfl)))
  (ze_ (zL_ (sh:=[.p,.f,.f,.f,.f,.f,.f]) (zR_ (i:=6) sc__law_question.nd rfl (by first|exact Or.inl rfl|exact Or.inr rfl) (ji_ (i:=0) Cself (hr.mono (by omega)) rfl rfl (by first|exact Or.inl rfl|exact Or.inr (Or.inl rfl)|exact Or.inr (Or.inr rfl)) (zb_ (zg_ (av 1)) (zb_ (zg_ (av 5)) (zb_ (zg_ (zz_ yN_ yP_ (ao (av 3)) (ao zf_))) zl_ (za_ rfl)) (za_ rfl)) (za_ rfl)) rfl (by decide) rfl rfl) rfl (.inl rfl)))
  (zi_ (zv_ (ZC_ (zb_ (zg_ (uQ_ (jy_ (zk_ hr)) jt_ (ao (ap_z (yo_ (zh_ zS_ (zh_ zS_ zn_ (za_ rfl)) (za_ rfl)) (by decide +kernel)))) (ao (zz_ Zv_ Zw_ (ao (av 4)) (ao zf_))) (λ_ _=>rfl))) (zb_ (zg_ (av 6)) (zb_ (ji_ (i:=0) Cself (hr.mono (by omega)) rfl rfl (by first|exact Or.inl rfl|exact Or.inr (Or.inl rfl)|exact Or.inr (Or.inr rfl)) (zb_ (zg_ (av 1)) (zb_ (zg_ (zz_ yN_ yP_ (ao (zz_ yN_ yP_ (ao (av 2)) (ao zf_))) (ao (av 5)))) (zb_ (zg_ (zz_ yN_ yP_ (ao (av 3)) (ao zf_))) zl_ (za_ rfl)) (za_ rfl)) (za_ rfl)) rfl (by decide) rfl rfl) zl_ (za_ rfl)) (za_ rfl)) (za_ rfl)) (by decide +kernel))))))))))
 (λg ds hl=>(by obtain⟨gad,gaw,gay,rfl⟩:=ln3 (Nat.succ.inj hl);kernel_rfl))
theorem ZI_{f:Addr}{fd:FuncData}(Fn:Fun K "_law_question" "_law_question" jr_ f fd)(hmg:mg "_law_question" = some (.ref f))(B:BN mg)(Kn:KN mg)(Kx:KX K mg)(gab:CF P w K mg base "_law_next" 1 (sp1 K 2 z6_))(gaz:CF P w K mg base "_law_plain" 3 (sp1 K 2 uC_))(i:Nat):CF P w K mg base "_law_question" (4+i) (sp1 K 4 (zO_ i)):=by
 induction i with
 | zero =>
  have e:zO_ 0=λ_ _=>.bad:=by
   funext g l;unfold zO_;split<;>rfl
  rw[e]
  exact CF.zero1 (ps:=["_law_feed_here", "_law_sorts", "_law_size", "_law_deep"]) _ _ hmg Fn.kp (bnd4 Fn λ_ _ _ _ _ _ _ _ _ _=>rfl)
 | succ i ih=>exact⟨f,fd,["_law_feed_here", "_law_sorts", "_law_size", "_law_deep"],ZP_ Fn B Kn Kx gab gaz i ih,hmg,Fn.kp,(bnd4 Fn λ_ _ _ _ _ _ _ _ _ _=>rfl)⟩
noncomputable abbrev ja_:Stmt:=top 33
noncomputable abbrev us_:List Str:=["_law_some_here"]
theorem yJ_:FnScope us_ ["_law_some_here"] (zd_ ja_):=⟨rfl,rfl,rfl,by decide +kernel,rfl,by decide +kernel,by decide +kernel⟩
noncomputable abbrev N__law_sorts_text_0:List Str:=["_law_some_here", "_law_sort"]
theorem uO_:N__law_sorts_text_0.Nodup:=by decide +kernel
def zs_(gae:D):M D :=
 bd (bd (oM (opEq gae (.tuple []))) λb6=>if b6 then .ret (.str "-")else onT .str (.str ",") (bd (bd (bd (oM (seqS gae)) λl3=>bd (zC_ (λd1=>bd (oM (fStr [d1])) λx2=>.ret (some x2)) l3) fitM) λl4=>.ret (PyData.list l4)) λx5=>oM (Jl_ (.str ",") [x5]))) λx7=>.ret x7
def jv_:List D->M D:=λl=>match l with
 | [gae]=>zs_ gae
 | _=>.bad
set_option maxHeartbeats 4000000 in
theorem yQ_{f:Addr}{fd:FuncData}(Fn:Fun K "_law_sorts_text" "_law_sorts_text" ja_ f fd)(hmg:mg "_law_sorts_text" = some (.ref f))(B:BN mg)(Kn:KN mg)(Kx:KX K mg):CF P w K mg base "_law_sorts_text" 1 (spD K 1 jv_) :=
 ⟨f,fd,["_law_some_here"],un_ (k:=0) Fn yJ_ (λcdv A outer s H E hr =>
 (zi_ (zv_ (zg_ (YJ_ (zF_ (js_ (zk_ hr)) jY_ (ao (av 0)) (ao (yn_ zn_ (by decide +kernel))) rfl) zS_ (yE_ (ty:=.str) PySem.F.plainAttrs_str PySem.F.slot_str_join PySem.F.type_str_join yz_ (ao zS_) (zh_ (ap_z (uJ_ (N':=N__law_sorts_text_0) (k:=1) rfl (zT_ (N:=us_) (sc:=(zd_ ja_)) (by decide +kernel) rfl rfl) (um_ (av 0)) (λcl s' H' fp C'=>(z9_ (i:=1) (show 1<=1 by decide) uO_ rfl (by first|exact Or.inl rfl|exact Or.inr rfl) (.inr rfl))) (λcl s' H' fp C'=>ul_) (λcl s' H' fp C'=>(jh_ ua_ Qx_ rfl B.str (by decide +kernel) (zp_ (ao (av 1)) zA_ (za_ rfl)) (by decide) (by decide) rfl rfl)) (λ_=>rfl))) zn_ (za_ rfl)) rfl rfl rfl rfl rfl))))))
 (λds hl=>(by obtain⟨gae,rfl⟩:=ln1 hl;kernel_rfl)),hmg,Fn.kp,(bnd1 Fn λ_ _ _ _ _ _ _=>rfl)⟩
noncomputable abbrev jE_:Stmt:=top 34
noncomputable abbrev yF_:List Str:=["_law_question_here", "_law_words"]
theorem sc__law_text:FnScope yF_ ["_law_question_here"] (zd_ jE_):=⟨rfl,rfl,rfl,by decide +kernel,rfl,by decide +kernel,by decide +kernel⟩
noncomputable abbrev N__law_text_0:List Str:=["_law_question_here", "_law_words", "_law_part"]
theorem ZM_:N__law_text_0.Nodup:=by decide +kernel
noncomputable abbrev N__law_text_1:List Str:=["_law_question_here", "_law_words", "_law_part"]
theorem ZL_:N__law_text_1.Nodup:=by decide +kernel
def zJ_(self:D->M D)(gaf:D):M D :=
 bd (bd (oM (zH_ gaf (.int 0))) λx1=>oM (uA_ x1 (.tuple [(.str "not"),(.str "both"),(.str "either")]))) λb2=>if b2 then
  bd (onT .str (.str " ") (bd (bd (bd (bd (oM (zH_ gaf (.int 0))) λx3=>.ret [x3]) λl4=>.ret (PyData.list l4)) λx11=>bd (bd (bd (bd (bd (asI (.int 1)) λlo5=>oM (yZ_ gaf lo5 none)) λx6=>oM (seqS x6)) λl9=>bd (zC_ (λd7=>bd (self d7) λx8=>.ret (some x8)) l9) fitM) λl10=>.ret (PyData.list l10)) λx12=>oM (z1_ x11 x12)) λx13=>oM (Jl_ (.str " ") [x13]))) λx14=>.ret x14
  else
  bd (bd (bd (bd (bd (asI (.int 1)) λlo15=>oM (yZ_ gaf lo15 none)) λx16=>oM (seqS x16)) λl20=>bd (zC_ (λd17=>bd (bd (oM (isTo "tuple" d17)) λb18=>if b18 then zs_ d17 else oM (fStr [d17])) λx19=>.ret (some x19)) l20) fitM) λl21=>.ret (PyData.list l21)) λx22=>bd (onT .str (.str " ") (bd (bd (bd (bd (oM (zH_ gaf (.int 0))) λx23=>.ret [x23]) λl24=>.ret (PyData.list l24)) λx25=>oM (z1_ x25 x22)) λx26=>oM (Jl_ (.str " ") [x26]))) λx27=>.ret x27
def j6_:Nat->D->M D
 | 0=>λ_=>.bad
 | i+1=>zJ_ (j6_ i)
noncomputable def jo_(i:Nat):List D->M D:=λl=>match l with
 | [gaf]=>j6_ i gaf
 | _=>.bad
set_option maxHeartbeats 4000000 in
theorem Yr_{f:Addr}{fd:FuncData}(Fn:Fun K "_law_text" "_law_text" jE_ f fd)(B:BN mg)(Kn:KN mg)(Kx:KX K mg)(gam:CF P w K mg base "_law_sorts_text" 1 (spD K 1 jv_))(i:Nat)(Cself:CF P w K mg base "_law_text" (2+i) (spD K 1 (jo_ i))):FnOk P w K mg base (CX1 P w) (2+i+1) f fd ["_law_question_here"] (spD K 1 (jo_ (i+1))) :=
 un_ (k:=2+i) Fn sc__law_text (λcdv A outer s H E hr =>
 (ze_ (jU_ (z5_ (zF_ (Zc_ (zk_ hr)) JU_ (ao (uQ_ (jy_ (zk_ hr)) jt_ (ao (av 0)) (ao zf_) (λ_ _=>rfl))) (ao (yn_ (zh_ zS_ (zh_ zS_ (zh_ zS_ zn_ (za_ rfl)) (za_ rfl)) (za_ rfl)) (by decide +kernel))) rfl))
  (zi_ (zv_ (zg_ (yE_ (ty:=.str) PySem.F.plainAttrs_str PySem.F.slot_str_join PySem.F.type_str_join yz_ (ao zS_) (zh_ (zz_ zW_ ju_ (ao (ap_z (yo_ (zh_ (uQ_ (jy_ (zk_ hr)) jt_ (ao (av 0)) (ao zf_) (λ_ _=>rfl)) zn_ (za_ rfl)) (by decide +kernel)))) (ao (ap_z (uJ_ (N':=N__law_text_0) (k:=1) rfl (zT_ (N:=yF_) (sc:=(zd_ jE_)) (by decide +kernel) rfl rfl) (um_ (y4_ (ao (av 0)) (ZV_ zf_) ZW_)) (λcl s' H' fp C'=>(z9_ (i:=2) (show 2<=2 by decide) ZM_ rfl (by first|exact Or.inl rfl|exact Or.inr rfl) (.inr rfl))) (λcl s' H' fp C'=>ul_) (λcl s' H' fp C'=>(ya_ Cself (hr.mono (by omega)) rfl (zh_ (av 2) zn_ (za_ rfl)) rfl (by decide) rfl rfl)) (λ_=>rfl))))) zn_ (za_ rfl)) rfl rfl rfl rfl rfl))))
  zI_)
  (ze_ (zL_ (sh:=[.f,.f]) (J7_ (i:=1) sc__law_text.nd rfl (by first|exact Or.inl rfl|exact Or.inr rfl) (.inl rfl) (N':=N__law_text_1) (k:=1) rfl (zT_ (N:=yF_) (sc:=(zd_ jE_)) (by decide +kernel) rfl rfl) (um_ (y4_ (ao (av 0)) (ZV_ zf_) ZW_)) (λcl s' H' fp C'=>(z9_ (i:=2) (show 2<=2 by decide) ZL_ rfl (by first|exact Or.inl rfl|exact Or.inr rfl) (.inr rfl))) (λcl s' H' fp C'=>ul_) (λcl s' H' fp C'=>(YJ_ (at_b (XY_ (T := "tuple") (by decide) rfl B.isinstance rfl B.tuple (by decide +kernel) (ao (av 2)) rfl rfl rfl) (λ_=>rfl)) (ya_ gam (hr.mono (by omega)) rfl (zh_ (av 2) zn_ (za_ rfl)) rfl (by decide) rfl rfl) (jh_ ua_ Qx_ rfl B.str (by decide +kernel) (zp_ (ao (av 2)) zA_ (za_ rfl)) (by decide) (by decide) rfl rfl))) rfl (λ_=>rfl)))
  (zi_ (zv_ (zg_ (yE_ (ty:=.str) PySem.F.plainAttrs_str PySem.F.slot_str_join PySem.F.type_str_join yz_ (ao zS_) (zh_ (zz_ zW_ ju_ (ao (ap_z (yo_ (zh_ (uQ_ (jy_ (zk_ hr)) jt_ (ao (av 0)) (ao zf_) (λ_ _=>rfl)) zn_ (za_ rfl)) (by decide +kernel)))) (ao (av 1))) zn_ (za_ rfl)) rfl rfl rfl rfl rfl)))))))
 (λds hl=>(by obtain⟨gaf,rfl⟩:=ln1 hl;kernel_rfl))
theorem U8_{f:Addr}{fd:FuncData}(Fn:Fun K "_law_text" "_law_text" jE_ f fd)(hmg:mg "_law_text" = some (.ref f))(B:BN mg)(Kn:KN mg)(Kx:KX K mg)(gam:CF P w K mg base "_law_sorts_text" 1 (spD K 1 jv_))(i:Nat):CF P w K mg base "_law_text" (2+i) (spD K 1 (jo_ i)):=by
 induction i with
 | zero =>
  have e:jo_ 0=λ_=>.bad:=by
   funext l;unfold jo_;split<;>rfl
  rw[e]
  exact CF.zero (ps:=["_law_question_here"]) _ _ hmg Fn.kp (bnd1 Fn λ_ _ _ _ _ _ _=>rfl)
 | succ i ih=>exact⟨f,fd,["_law_question_here"],Yr_ Fn B Kn Kx gam i ih,hmg,Fn.kp,(bnd1 Fn λ_ _ _ _ _ _ _=>rfl)⟩
noncomputable abbrev zaI_:Stmt:=top 35
noncomputable abbrev zeK_:List Str:=["_law_script", "_law_k", "_law_feed_here", "_law_sorts", "_law_question_here", "_law_text_here", "_law_more"]
theorem sc_law:FnScope zeK_ ["_law_script"] (zd_ zaI_):=⟨rfl,rfl,rfl,by decide +kernel,rfl,by decide +kernel,by decide +kernel⟩
noncomputable def XS_(gas:D):M D :=
 .ret (.bool true)
noncomputable def QT_(kn5:D×Unit->M D)(gas:D)(gau:D)(gaF:D):M D :=
 kn5 (gas,())
def UE_(kn5:D×Unit->M D)(gas:D)(gau:D)(gaF:D)(d_:D)(kn18:D×D×D×Unit->M D):M D :=
 bd (bd (bd (jB_ d_ gaF) λx19=>oM (Yt_ [x19])) λx20=>bd (oM (Yt_ [gau])) λx21=>oM (opNe x20 x21)) λb22=>if b22 then
  .ret (.bool false)
  else
  kn18 (gas,gau,gaF,())
def UF_(gas:D)(d_:D)(kn5:D×Unit->M D):M D :=
 bd (uI_ gas d_) λl6=>bd (zj_ l6 (.int 4)) λr7=>bd (oM (z1_ (.int 1) r7.1)) λx8=>bd (zj_ r7.2 (.int 7)) λr9=>bd (oM (z1_ (.int 1) r9.1)) λx10=>bd (zV_ 5 r9.2 x8 x10 (.int 4)) λr11=>bd (j6_ 6 r11.1) λx12=>bd (bd (bd (zY_ 6 r11.1) λx13=>oM (Yt_ [x13])) λx14=>bd (oM (Yt_ [x12])) λx15=>oM (opNe x14 x15)) λb16=>if b16 then
  .ret (.bool false)
  else
  bd (oM (yC_ [x8,(.int 5)])) λl17=>forS (λs23 d24 kn=>UE_ kn5 s23.1 s23.2.1 s23.2.2.1 d24 kn) l17 (gas,r11.1,x12,()) (λs23=>QT_ kn5 s23.1 s23.2.1 s23.2.2.1)
def XT_(gag:D):M D :=
 bd (bd (bd (bd (oM (fLen [gag])) λx1=>oM (WI_ [(.int 20),x1])) λx2=>oM (z1_ (.int 2) x2)) λx3=>oM (jI_ [x3])) λl4=>forS (λs25 d26 kn=>UF_ s25.1 d26 kn) l4 (gag,()) (λs25=>XS_ s25.1)
def QC_:List D->M D:=λl=>match l with
 | [gag]=>XT_ gag
 | _=>.bad
set_option maxHeartbeats 4000000 in
theorem zdi_{f:Addr}{fd:FuncData}(Fn:Fun K "law" "law" zaI_ f fd)(B:BN mg)(Kn:KN mg)(Kx:KX K mg)(gaV:CF P w K mg base "_law_feed" 1 (spL K 2 ZA_))(gaG:CF P w K mg base "_law_question" 9 (sp1 K 4 (zO_ 5)))(gaW:CF P w K mg base "_law_text" 8 (spD K 1 (jo_ 6)))(gab:CF P w K mg base "_law_next" 1 (sp1 K 2 z6_))(gaB:CF P w K mg base "shown_question" 9 (spD K 1 (zK_ 6)))(gaH:CF P w K mg base "read_question" 13 (spD K 2 uM_)):FnOk P w K mg base (CX1 P w) 14 f fd ["_law_script"] (spD K 1 QC_) :=
 un_ (k:=13) Fn sc_law (λcdv A outer s H E hr =>
 (ze_ (UI_ (sh:=[.f,.dead,.dead,.dead,.dead,.dead,.dead]) PassesOwn.leaving rfl (J9_ (ur_ rfl B.range (zh_ (zz_ zW_ ju_ (ao zf_) (ao (zQ_ (WR_ rfl) zbf_ rfl B.min (by decide +kernel) (zp_ (ao zf_) (zp_ (ao (zQ_ je_ yk_ rfl B.len PySem.boot_len (zp_ (ao (av 0)) zA_ (za_ rfl)) (by decide) (by decide) rfl rfl)) zA_ (za_ rfl)) (za_ rfl)) (by decide) (by decide) rfl rfl))) zn_ (za_ rfl)) rfl)) (z9_ (i:=1) (Nat.zero_le _) sc_law.nd rfl (by first|exact Or.inl rfl|exact Or.inr rfl) (.inl rfl))
  (ze_ (zL_ (sh:=[.f,.dead,.o,.dead,.dead,.dead,.dead]) (W1_ (i:=2) sc_law.nd rfl (by first|exact Or.inl rfl|exact Or.inr rfl) (W4_ (zeF_ gaV (hr.mono (by decide)) rfl (zh_ (av 0) (zh_ (av 1) zn_ (za_ rfl)) (za_ rfl)) rfl (by decide) rfl rfl)) rfl (.inl rfl)))
  (ze_ (zL_ (sh:=[.f,.dead,.o,.f,.dead,.dead,.dead]) (zR_ (i:=3) sc_law.nd rfl (by first|exact Or.inl rfl|exact Or.inr rfl) (YL_ zW_ ju_ (zg_ zf_) (ji_ (i:=2) gab (hr.mono (by decide)) rfl rfl (by first|exact Or.inl rfl|exact Or.inr (Or.inl rfl)|exact Or.inr (Or.inr rfl)) (zb_ (zg_ zf_) zl_ (za_ rfl)) rfl (by decide) rfl rfl)) rfl (.inl rfl)))
  (ze_ (zL_ (sh:=[.f,.dead,.dead,.f,.f,.dead,.dead]) (zR_ (i:=4) sc_law.nd rfl (by first|exact Or.inl rfl|exact Or.inr rfl) (ji_ (i:=2) gaG (hr.mono (by decide)) rfl rfl (by first|exact Or.inl rfl|exact Or.inr (Or.inl rfl)|exact Or.inr (Or.inr rfl)) (zb_ (zg_ (av 3)) (zb_ (YL_ zW_ ju_ (zg_ zf_) (ji_ (i:=2) gab (hr.mono (by decide)) rfl rfl (by first|exact Or.inl rfl|exact Or.inr (Or.inl rfl)|exact Or.inr (Or.inr rfl)) (zb_ (zg_ zf_) zl_ (za_ rfl)) rfl (by decide) rfl rfl)) (zb_ (zg_ zf_) zl_ (za_ rfl)) (za_ rfl)) (za_ rfl)) rfl (by decide) rfl rfl) rfl (.inl rfl)))
  (ze_ (zL_ (sh:=[.f,.dead,.dead,.f,.f,.f,.dead]) (zR_ (i:=5) sc_law.nd rfl (by first|exact Or.inl rfl|exact Or.inr rfl) (zg_ (ya_ gaW (hr.mono (by decide)) rfl (zh_ (av 4) zn_ (za_ rfl)) rfl (by decide) rfl rfl)) rfl (.inl rfl)))
  (ze_ (jU_ (z5_ (zF_ (zaa_ (zk_ hr)) jY_ (ao (zQ_ (y1_ (zk_ hr) hr.gd) Up_ rfl B.repr (by decide +kernel) (zp_ (ao (ya_ gaB (hr.mono (by decide)) rfl (zh_ (av 4) zn_ (za_ rfl)) rfl (by decide) rfl rfl)) zA_ (za_ rfl)) (by decide) (by decide) rfl rfl)) (ao (zQ_ (y1_ (zk_ hr) hr.gd) Up_ rfl B.repr (by decide +kernel) (zp_ (ao (av 5)) zA_ (za_ rfl)) (by decide) (by decide) rfl rfl)) rfl))
  (zi_ (zv_ (zg_ Vx_)))
  zI_)
  (zi_ (UI_ (sh:=[.f,.dead,.dead,.dead,.f,.f,.dead]) PassesOwn.leaving rfl (J9_ (W3_ rfl B.range (zh_ (av 3) (zh_ zf_ zn_ (za_ rfl)) (za_ rfl)) rfl rfl)) (z9_ (i:=6) (Nat.zero_le _) sc_law.nd rfl (by first|exact Or.inl rfl|exact Or.inr rfl) (.inl rfl))
  (zi_ (jU_ (z5_ (zF_ (zaa_ (zk_ hr)) jY_ (ao (zQ_ (y1_ (zk_ hr) hr.gd) Up_ rfl B.repr (by decide +kernel) (zp_ (ao (ya_ gaH (hr.mono (by decide)) rfl (zh_ (av 6) (zh_ (av 5) zn_ (za_ rfl)) (za_ rfl)) rfl (by decide) rfl rfl)) zA_ (za_ rfl)) (by decide) (by decide) rfl rfl)) (ao (zQ_ (y1_ (zk_ hr) hr.gd) Up_ rfl B.repr (by decide +kernel) (zp_ (ao (av 4)) zA_ (za_ rfl)) (by decide) (by decide) rfl rfl)) rfl))
  (zi_ (zv_ (zg_ Vx_)))
  zI_)) (λ_=>rfl)))))))) (λ_=>rfl))
  (zi_ (zv_ (zg_ Vx_)))))
 (λds hl=>(by obtain⟨gag,rfl⟩:=ln1 hl;kernel_rfl))
end
end
end K08
namespace L4
open PySem PySem.Spec PyProof.Rows L2 L3
theorem bdR{S T:Type}(s:S)(k:S->M T):bd (.ret s) k=k s:=id rfl
theorem oMS{S:Type}(s:S):oM (some s)=.ret s:=id rfl
theorem z7_{S:Type}{ds:List S}(h:ds.length<=1000):fitM ds=.ret ds:=if_pos (Yj_ h)
theorem UG_{α:Type}(xs:List α)(i:Nat)(h:i<xs.length):atI xs (i:Int)=some (xs[i]'h):=by
 unfold atI ixN
 rw[if_pos (Int.natCast_nonneg _),if_pos (by lia)]
 simp[h]
theorem zao_{α:Type}(xs:List α)(i:Int)(h0:0<=i)(h:i<xs.length):∃x∈xs,atI xs i=some x:=by
 obtain⟨n,rfl⟩:=Int.eq_ofNat_of_zero_le h0
 exact⟨_,List.getElem_mem _,UG_ xs n (by lia)⟩
noncomputable def JH_(s:Str):Bool:=PyData.strOk s&&decide ((reprText s).length<=24)&&PyData.strOk (reprText s)
def Ok(k:Nat):Nat->D->Prop
 | 0,_=>False
 | _+1,.none=>True
 | _+1,.bool _=>True
 | _+1,.int i=>i.natAbs<10^(16+k)
 | _+1,.str s=>JH_ s=true
 | n+1,.list ds=>ds.length<=6+k/\∀d∈ds,Ok k n d
 | n+1,.tuple ds=>ds.length<=6+k/\∀d∈ds,Ok k n d
 | _+1,.dict _=>False
theorem Wr_:∀{ds:List D},(∀d∈ds,d.canLay0=true)->PyData.canLayAll0 ds=true
 | [],_=>by simp[PyData.canLayAll0]
 | d::r,h=>by
  simp only[PyData.canLayAll0,Bool.and_eq_true]
  exact⟨h d List.mem_cons_self,Wr_ λe he=>h e (zzg _ he)⟩
theorem UC_{n:Nat}:∀{ds:List D},(∀d∈ds,d.depth<=n)->PyData.depthAll ds<=n
 | [],_=>by simp[PyData.depthAll]
 | d::r,h=>by
  simp only[PyData.depthAll]
  exact Nat.max_le.mpr ⟨h d List.mem_cons_self,UC_ λe he=>h e (zzg _ he)⟩
theorem zcR_{m:Nat}(h:m<10^36):m.log2<1920:=by
 by_cases h0:m=0
 ·subst h0;decide
 ·exact(Nat.log2_lt h0).mpr (Nat.lt_of_lt_of_le h (by decide +kernel))
theorem strOk_iff{s:Str}:PyData.strOk s=true↔∀c∈s.cps.toList,c<1114112:=by
 unfold PyData.strOk
 rw[<-Array.all_toList,List.all_eq_true]
 simp
theorem jd_(s:String):PyData.strOk (Str.ofString s)=true:=by
 rw[strOk_iff,signs_ofString]
 intro c hc
 obtain⟨ch,_,rfl⟩:=List.mem_map.mp hc
 have:=ch.valid
 have e:ch.toNat=ch.val.toNat:=rfl
 rw[e]
 rcases this with h|⟨_,h⟩
 ·have h':ch.val.toNat<0xd800:=h
  lia
 ·have h':ch.val.toNat<0x110000:=h
  lia
theorem yG_{a b:Str}(ha:PyData.strOk a=true)(hb:PyData.strOk b=true):PyData.strOk (a++b)=true:=by
 rw[strOk_iff]at *
 intro c hc
 rcases mem_cps_append.mp hc with h|h
 ·exact ha c h
 ·exact hb c h
theorem y7_{sep:Str}{ts:List Str}(hs:PyData.strOk sep=true)(h:∀t∈ts,PyData.strOk t=true):PyData.strOk (Str.join sep ts)=true:=by
 rw[strOk_iff]at *
 intro c hc
 rcases(mem_join sep c ts).mp hc with ⟨t,ht,hc⟩|⟨_,hc⟩
 ·exact strOk_iff.mp (h t ht) c hc
 ·exact hs c hc
theorem Wx_{ts:List Str}:(Str.join ", " ts).length<=piled ts:=by
 by_cases h:ts=[]
 ·subst h;exact Nat.zero_le _
 ·have:=join_length_add ts h;lia
noncomputable def lim:Nat->Nat
 | 0=>24
 | n+1=>4+9*(lim n+2)
theorem eqI(a b:Int):opEq (.int a) (.int b)=some (a==b):=by
 unfold opEq eqOk
 simp[PyData.canLay0,PyData.depth,PyData.eqv]
theorem ltI(a b:Int):opLt (.int a) (.int b)=some (decide (a<b)):=id rfl
theorem gtI(a b:Int):opGt (.int a) (.int b)=some (decide (b<a)):=id rfl
theorem geI(a b:Int):opGe (.int a) (.int b)=some (decide (b<=a)):=id rfl
theorem addI(a b:Int):z1_ (.int a) (.int b)=some (.int (a+b)):=id rfl
theorem modI(i j:Int)(h:0<j):yx_ (.int i) (.int j)=some (.int (i % j)):=if_pos h
theorem divI(i j:Int)(h:0<j)(h2:j<1073741824):Wl_ (.int i) (.int j)=some (.int (i / j)):=if_pos (by simp[h,h2])
theorem mulL(i j:Int)(h : -(2^64)<i)(h2:i<2^64):yj_ (.int i) (.int j)=some (.int (i*j)):=if_pos (by simp only[Xy_,Bool.or_eq_true,Bool.and_eq_true,zzi];exact .inl ⟨h,h2⟩)
theorem mulR(i j:Int)(h : -(2^64)<j)(h2:j<2^64):yj_ (.int i) (.int j)=some (.int (i*j)):=if_pos (by simp only[Xy_,Bool.or_eq_true,Bool.and_eq_true,zzi];exact .inr ⟨h,h2⟩)
theorem asB_b(b:Bool):asB (.bool b)=.ret b:=id rfl
theorem zbO_(b:Bool):truD (.bool b)=some b:=id rfl
theorem lenT(ds:List D):fLen [.tuple ds]=some (.int ds.length):=id rfl
theorem lenL(ds:List D):fLen [.list ds]=some (.int ds.length):=id rfl
theorem seqT(ds:List D):seqD (.tuple ds)=some ds:=id rfl
theorem seqL(ds:List D):seqD (.list ds)=some ds:=id rfl
theorem tupL(ds:List D):yY_ [.list ds]=some (.tuple ds):=id rfl
theorem tupT(ds:List D):yY_ [.tuple ds]=some (.tuple ds):=id rfl
theorem ixTn(ds:List D)(n:Nat)(h:n<ds.length):opIx (.tuple ds) (.int n)=some ds[n]:=UG_ ds n h
theorem ixT0(a:D)(r:List D):opIx (.tuple (a::r)) (.int 0)=some a:=ixTn (a::r) 0 (by simp)
theorem ixT1(a b:D)(r:List D):opIx (.tuple (a::b::r)) (.int 1)=some b:=ixTn (a::b::r) 1 (by simp)
theorem ixT2(a b c:D)(r:List D):opIx (.tuple (a::b::c::r)) (.int 2)=some c:=ixTn (a::b::c::r) 2 (by simp)
theorem ix3_0(a b c:D):opIx (.list [a,b,c]) (.int 0)=some a:=id rfl
theorem ix3_1(a b c:D):opIx (.list [a,b,c]) (.int 1)=some b:=id rfl
theorem ix3_2(a b c:D):opIx (.list [a,b,c]) (.int 2)=some c:=id rfl
theorem put3_0(a b c d:D):putD [a,b,c] (.int 0) d=some [d,b,c]:=id rfl
theorem put3_2(a b c d:D):putD [a,b,c] (.int 2) d=some [a,b,d]:=id rfl
theorem iteB(a b:Bool):(if a=true then(M.ret b)else .ret false)=.ret (a&&b):=by cases a<;>rfl
theorem iteO(a b:Bool):(if a=true then(M.ret true)else .ret b)=.ret (a||b):=by cases a<;>rfl
theorem zbB_(n m:Nat):((n:Int)==(m:Int))=decide (n=m):=by
 by_cases h:n=m
 ·simp[h]
 ·simp only[h,decide_false];rw[beq_eq_false_iff_ne];lia
noncomputable def sW(lo hi:Int):D->Bool
 | .int i=>decide (lo<=i)&&decide (i<=hi)
 | _=>false
noncomputable def sS(w:Str):D->Bool
 | .str s=>s==w
 | _=>false
def Ey(d:D):Prop:=d.canLay0=true/\d.depth<=1000
theorem QK_{S T ι:Type}{step:T->D->(T->M S)->M S}{e:ι->D}{F:List ι->T}{k:T->M S}:∀(is pre:List ι),
  (∀p i q,is=p++i::q->∀kn:T->M S,step (F (pre++p)) (e i) kn=kn (F (pre++p++[i])))->forC step (is.map e) (F pre) k=k (F (pre++is))
 | [],pre,_=>by simp[forC]
 | i::r,pre,h=>by
  show step (F pre) (e i) _=_
  have h0:=h [] i r rfl (λs'=>forC step (r.map e) s' k)
  rw[List.append_nil]at h0
  rw[h0]
  have:=QK_ (step:=step) (e:=e) (F:=F) (k:=k) r (pre++[i]) λp j q hq kn=>by
   have:=h (i::p) j q (by rw[hq];rfl) kn
   simpa using this
  rw[this]
  simp
theorem QJ_{S T ι:Type}{step:T->D->(T->M S)->M S}{e:ι->D}{F:List ι->T}{k:T->M S}(is:List ι)
  (h:∀p i q,is=p++i::q->∀kn:T->M S,step (F p) (e i) kn=kn (F (p++[i]))):forS step (is.map e) (F []) k=k (F is):=by
 rw[Zk_]
 have:=QK_ (step:=step) (e:=e) (F:=F) (k:=k) is [] (by simpa using h)
 simpa using this
theorem y0_{ι:Type}{step:D->M (Option D)}{e g:ι->D}:∀(is:List ι),(∀i∈is,step (e i)=.ret (some (g i)))->zC_ step (is.map e)=.ret (is.map g)
 | [],_=>rfl
 | i::r,h=>by
  rw[List.map_cons,zC_,h i List.mem_cons_self,y0_ r λd hd=>h d (zzg _ hd)]
  rfl
theorem QP_{ι:Type}{step:D->M (Option D)}{e:ι->D}{g:ι->Option D}:∀(is:List ι),(∀i∈is,step (e i)=.ret (g i))->zC_ step (is.map e)=.ret (is.filterMap g)
 | [],_=>rfl
 | i::r,h=>by
  rw[List.map_cons,zC_,h i List.mem_cons_self,QP_ r λd hd=>h d (zzg _ hd)]
  cases q:g i<;>simp[uX_,bdR,List.filterMap_cons,q]
theorem Yw_{T ι:Type}{step:T->D->M (Option D×T)}{P:Nat->T->Prop}{e:ι->D}{R:ι->Prop}:∀(ds:List D) (i:Nat) (s:T),
  (∀(j:Nat) (s:T) (d:D),ds[j]? = some d->P (i+j) s->∃x s',step s d=.ret (some (e x),s')/\P (i+j+1) s'/\R x)->P i s ->
  ∃xs s',uD_ step ds s=.ret (List.map e xs,s')/\P (i+ds.length) s'/\xs.length=ds.length/\∀x∈xs,R x
 | [],i,s,_,hp=>⟨[],s,rfl,hp,rfl,λ_ h=>by cases h⟩
 | d::r,i,s,h,hp=>by
  obtain⟨x,s1,e1,p1,r1⟩:=h 0 s d rfl hp
  obtain⟨xs,s2,e2,p2,l2,r2⟩:=Yw_ r (i+1) s1 (λj s d hd hp=>by
   have:=h (j+1) s d (by simpa using hd) (by rw[show i+(j+1)=i+1+j by lia];exact hp)
   rw[show i+(j+1)+1=i+1+j+1 by lia]at this
   exact this) p1
  refine⟨x::xs,s2,?_,?_,by simp[l2],?_⟩
  ·rw[uD_,e1];simp only[uX_,y3_];rw[e2];rfl
  ·rw[show i+(d::r).length=i+1+r.length by simp;lia];exact p2
  ·intro y hy
   cases hy with
   | head=>exact r1
   | tail _ h=>exact r2 y h
theorem XP_{T ι:Type}{step:T->D->M (Option D×T)}{P:Nat->T->Prop}{e:ι->D}{R:ι->Prop}(ds:List D)(s:T)
  (h:∀(j:Nat) (s:T) (d:D),ds[j]? = some d->P j s->∃x s',step s d=.ret (some (e x),s')/\P (j+1) s'/\R x) (hp:P 0 s) :
  ∃xs s',uD_ step ds s=.ret (List.map e xs,s')/\P ds.length s'/\xs.length=ds.length/\∀x∈xs,R x:=by
 have:=Yw_ (step:=step) (P:=P) (e:=e) (R:=R) ds 0 s (by simpa using h) hp
 simpa using this
noncomputable abbrev iN(n:Nat):D:=.int (n:Int)
noncomputable def rng(lo hi:Nat):List Nat:=(List.range (hi - lo)).map (lo + ·)
theorem mem_rng{lo hi i:Nat}:i∈rng lo hi↔lo<=i/\i<hi:=by
 unfold rng
 rw[List.mem_map]
 constructor
 ·rintro⟨a,ha,rfl⟩
  have:=List.mem_range.mp ha
  lia
 ·intro h
  exact⟨i - lo,List.mem_range.mpr (by lia),by lia⟩
theorem JQ_(lo n:Nat):yM_ (lo:Int) n=((List.range n).map (lo + ·)).map iN:=by
 unfold yM_
 rw[List.map_map]
 apply List.map_congr_left
 intro a _
 show PyData.int _=PyData.int _
 congr 1
theorem ZY_{n:Nat}(h:n<=100000):yr_ (n:Int)=true:=by
 unfold yr_
 simp only[Bool.and_eq_true,zzi]
 lia
theorem Uj_(n:Nat)(h:n<=100000):jI_ [.int (n:Int)]=some ((List.range n).map iN):=by
 unfold jI_
 simp only[ZY_ h,if_true]
 have:=JQ_ 0 n
 simp only[Int.toNat_natCast]
 rw[show(0:Int)=((0:Nat):Int)from rfl,this]
 simp
theorem zaN_(lo hi:Nat)(h:lo<=100000)(h2:hi<=100000):yC_ [.int (lo:Int),.int (hi:Int)]=some ((rng lo hi).map iN):=by
 unfold yC_
 simp only[ZY_ h,ZY_ h2,Bool.and_self,if_true]
 rw[show((hi:Int) - (lo:Int)).toNat=hi - lo by lia,JQ_]
 rfl
mutual
noncomputable def sz:D->Nat
 | .list ds=>1+szs ds
 | .tuple ds=>1+szs ds
 | .none=>1
 | .bool _=>1
 | .int _=>1
 | .str _=>1
 | .dict _=>1
noncomputable def szs:List D->Nat
 | []=>0
 | d::r=>sz d+szs r
end
mutual
noncomputable def Sm:D->Prop
 | .list ds=>Sms ds
 | .tuple ds=>Sms ds
 | .none=>True
 | .bool _=>True
 | .int i=>i.natAbs<10^19
 | .str s=>JH_ s=true
 | .dict _=>False
noncomputable def Sms:List D->Prop
 | []=>True
 | d::r=>Sm d/\Sms r
end
theorem zaw_:∀{ds:List D},(∀d∈ds,Sm d)->Sms ds
 | [],_=>by simp[Sms]
 | e::r,h=>by
  simp only[Sms]
  exact⟨h e List.mem_cons_self,zaw_ λd hd=>h d (zzg _ hd)⟩
mutual
theorem Sm.lay:∀{d:D},Sm d->d.canLay0=true
 | .none,h=>by simp[PyData.canLay0]
 | .bool _,h=>by simp[PyData.canLay0]
 | .int _,h=>by simp[PyData.canLay0]
 | .str s,h=>by
  have h':JH_ s=true:=by simpa[Sm]using h
  unfold JH_ at h'
  simp only[Bool.and_eq_true]at h'
  simp[PyData.canLay0,h'.1.1]
 | .list ds,h=>by simp only[PyData.canLay0];exact Sms.lay (by simpa[Sm]using h)
 | .tuple ds,h=>by simp only[PyData.canLay0];exact Sms.lay (by simpa[Sm]using h)
 | .dict _,h=>by simp[Sm]at h
theorem Sms.lay:∀{ds:List D},Sms ds->PyData.canLayAll0 ds=true
 | [],_=>by simp[PyData.canLayAll0]
 | d::r,h=>by
  simp only[Sms]at h
  simp only[PyData.canLayAll0,Bool.and_eq_true]
  exact⟨Sm.lay h.1,Sms.lay h.2⟩
end
mutual
theorem Sm.show:∀{d:D},Sm d->d.showable=true
 | .none,h=>by simp[PyData.showable]
 | .bool _,h=>by simp[PyData.showable]
 | .int i,h=>by
  have h':i.natAbs<10^19:=by simpa[Sm]using h
  simp only[PyData.showable,zzi]
  exact zcR_ (Nat.lt_of_lt_of_le h' (Nat.pow_le_pow_right (by decide) (by decide)))
 | .str s,h=>by simp[PyData.showable]
 | .list ds,h=>by simp only[PyData.showable];exact Sms.show (by simpa[Sm]using h)
 | .tuple ds,h=>by simp only[PyData.showable];exact Sms.show (by simpa[Sm]using h)
 | .dict _,h=>by simp[Sm]at h
theorem Sms.show:∀{ds:List D},Sms ds->PyData.showableAll ds=true
 | [],_=>by simp[PyData.showableAll]
 | d::r,h=>by
  simp only[Sms]at h
  simp only[PyData.showableAll,Bool.and_eq_true]
  exact⟨Sm.show h.1,Sms.show h.2⟩
end
mutual
theorem Sm.text:∀{d:D},Sm d->d.shown.length+2<=30*sz d/\PyData.strOk d.shown=true
 | .none,h=>by refine⟨?_,by simp only[PyData.shown];exact jd_ _⟩;simp only[PyData.shown,sz];decide
 | .bool b,h=>by
  refine⟨?_,by cases b<;>simp only[PyData.shown]<;>exact jd_ _⟩
  cases b<;>simp only[PyData.shown,sz]<;>decide
 | .int i,h=>by
  have h':i.natAbs<10^19:=by simpa[Sm]using h
  refine⟨?_,by simp only[PyData.shown];exact jd_ _⟩
  simp only[PyData.shown,sz]
  have h1:=int_text_length_le10 (a:=i) (k:=19) (by decide) h'
  have h2:(Str.ofString (toString i)).length=(toString i).length:=by
   show(Str.ofString (toString i)).cps.size=_
   rw[<-Array.length_toList,signs_ofString,zzd,String.length_toList]
  lia
 | .str s,h=>by
  have h':JH_ s=true:=by simpa[Sm]using h
  unfold JH_ at h'
  simp only[Bool.and_eq_true,zzi]at h'
  simp only[PyData.shown,sz]
  exact⟨by lia,h'.2⟩
 | .list ds,h=>by
  obtain⟨h1,h2⟩:=Sms.text (ds:=ds) (by simpa[Sm]using h)
  have h5:(Str.join ", " (PyData.shownAll ds)).length<=piled (PyData.shownAll ds):=Wx_
  have h6:PyData.strOk (Str.join ", " (PyData.shownAll ds))=true:=y7_ (jd_ _) h2
  simp only[PyData.shown,listText_eq_join,sz]
  refine⟨?_,yG_ (yG_ (jd_ _) h6) (jd_ _)⟩
  rw[strLen_append,strLen_append]
  have e1:((("[" : String):Str)).length=1:=rfl
  have e2:((("]" : String):Str)).length=1:=rfl
  rw[e1,e2];lia
 | .tuple ds,h=>by
  obtain⟨h1,h2⟩:=Sms.text (ds:=ds) (by simpa[Sm]using h)
  have h5:(Str.join ", " (PyData.shownAll ds)).length<=piled (PyData.shownAll ds):=Wx_
  have h6:PyData.strOk (Str.join ", " (PyData.shownAll ds))=true:=y7_ (jd_ _) h2
  simp only[PyData.shown,tupleText,sz]
  refine⟨?_,yG_ (yG_ (jd_ _) h6) (jd_ _)⟩
  rw[strLen_append,strLen_append]
  have e1:((("(" : String):Str)).length=1:=rfl
  have e3:(((if(PyData.shownAll ds).length==1 then ",)" else ")" : String):Str)).length<=2:=by split<;>decide
  rw[e1];lia
 | .dict _,h=>by simp[Sm]at h
theorem Sms.text:∀{ds:List D},Sms ds->piled (PyData.shownAll ds)<=30*szs ds/\∀t∈PyData.shownAll ds,PyData.strOk t=true
 | [],_=>by simp[PyData.shownAll,piled,szs]
 | d::r,h=>by
  simp only[Sms]at h
  obtain⟨h1,h2⟩:=Sm.text h.1
  obtain⟨h3,h4⟩:=Sms.text h.2
  simp only[PyData.shownAll,szs]
  refine⟨?_,λt ht=>?_⟩
  ·rw[piled_cons];lia
  ·rcases List.mem_cons.mp ht with rfl|ht
   ·exact h2
   ·exact h4 t ht
end
theorem zdW_{d:D}(h:Sm d)(hs:sz d<=30000)(hd:d.depth<=60):Yt_ [d]=some (.str d.shown):=by
 obtain⟨t1,t2⟩:=h.text
 show(if Z4_ d then some (PyData.str d.shown)else none)=_
 unfold Z4_
 rw[if_pos]
 simp only[Bool.and_eq_true,zzi]
 exact⟨⟨⟨h.show,h.lay⟩,by lia⟩,Nat.le_trans (show d.shown.length<=1000000 by lia) (by decide)⟩
theorem zcP_{d:D}(h:Sm d):opNe (.str d.shown) (.str d.shown)=some false:=by
 obtain⟨t1,t2⟩:=h.text
 unfold opNe eqOk
 rw[if_pos]
 ·simp[PyData.eqv]
 ·simp[PyData.canLay0,t2,PyData.depth]
theorem XF_(ds:List D)(k:D):zH_ (.list ds) k=opIx (.list ds) k:=id rfl
theorem uP_(ds:List D)(k:D):zH_ (.tuple ds) k=opIx (.tuple ds) k:=id rfl
theorem leA(a b:Int):Uo_ (.int a) (.int b)=some (decide (a<=b)):=id rfl
theorem zep_{ι:Type}(e:ι->D)(is:List ι)(n:Nat)(h:n<is.length):opIx (.list (is.map e)) (.int (n:Int))=some (e is[n]):=by
 have:=UG_ (is.map e) n (by simpa using h)
 rw[List.getElem_map]at this
 exact this
theorem zdt_(ds:List D)(d:D)(h:ds.length<=100000):mApp ds [d]=some (ds++[d]):=if_pos (Nat.lt_of_le_of_lt h (by decide))
abbrev pD(p:Nat×Nat):D:=.tuple [iN p.1,iN p.2]
theorem zcQ_(a b:Nat):((a:Int)==(b:Int))=decide (a=b):=zbB_ a b
theorem eqN(a b:Nat):opEq (iN a) (iN b)=some (decide (a=b)):=by
 show opEq (.int a) (.int b)=_
 rw[eqI,zcQ_]
theorem addN(a b:Nat):z1_ (iN a) (iN b)=some (iN (a+b)):=by
 show some (PyData.int ((a:Int)+(b:Int)))=_
 rw[<-Int.natCast_add]
theorem modN(a b:Nat)(h:0<b):yx_ (iN a) (iN b)=some (iN (a % b)):=by
 show yx_ (.int a) (.int b)=_
 rw[modI _ _ (by lia)]
 rfl
noncomputable abbrev Mt:=Nat×Nat×Nat×Nat
abbrev mD(m:Mt):D:=.tuple [iN m.1,iN m.2.1,iN m.2.2.1,iN m.2.2.2]
structure Rl where
 n:Nat
 st:List Nat
 ms:List Mt
 sy:List Bool
abbrev Rl.d(r:Rl):D:=.tuple [iN r.n,.tuple (r.st.map iN),.tuple (r.ms.map mD),.tuple (r.sy.map PyData.bool)]
def plt(p q:Nat×Nat):Prop:=p.1<q.1\/p.1=q.1/\p.2<q.2
structure MtOk(n:Nat)(m:Mt):Prop where
 ab:m.1<=m.2.1
 b:m.2.1<n
 c:m.2.2.1<n
 d:m.2.2.2<n
 ne:m.2.2≠(m.1,m.2.1)
 ne':m.2.2≠(m.2.1,m.1)
structure Wf(r:Rl):Prop where
 n1:1<=r.n
 st:∀s∈r.st,s<r.n
 sy:r.sy.length=r.n
 ms:∀m∈r.ms,MtOk r.n m
 so:r.ms.Pairwise λm m'=>plt (m.1,m.2.1) (m'.1,m'.2.1)
noncomputable def look(ms:List Mt)(p:Nat×Nat):Option (Nat×Nat):=(ms.find? λm=>decide (m.1=p.1)&&decide (m.2.1=p.2)).map (·.2.2)
def turn(ms:List Mt)(i j:Nat):Nat×Nat:=if i<=j then(look ms (i,j)).getD (i,j)else let t:=(look ms (j,i)).getD (j,i);(t.2,t.1)
theorem Qq_{n:Nat}(h:n<=1000000000):Sm (iN n):=by
 simp only[iN,Sm,Int.natAbs_natCast]
 exact Nat.lt_of_le_of_lt h (by decide)
theorem zaF_{l:List Nat}(h:∀s∈l,s<=1000000000):Sm (.tuple (l.map iN)):=by
 simp only[Sm]
 refine zaw_ λd hd=>?_
 obtain⟨s,hs,rfl⟩:=List.mem_map.mp hd
 exact Qq_ (h s hs)
theorem VK_{ι:Type}{e:ι->D}{B:Nat}(h:∀i,sz (e i)=B):∀l:List ι,szs (l.map e)=l.length*B
 | []=>by simp[szs]
 | i::r=>by rw[List.map_cons,szs,VK_ h r,h i,List.length_cons,Nat.succ_mul];lia
theorem jl_{ds:List D}{n:Nat}(h:∀d∈ds,d.depth<=n):(PyData.tuple ds).depth<=n+1:=by
 have:=UC_ h
 simp only[PyData.depth];lia
theorem min2(a b:Nat):WI_ [.int (a:Int),.int (b:Int)]=some (iN (min a b)):=by
 show some (PyData.int _)=_
 congr 2
 split<;>lia
abbrev kvM(m:Mt):D×D:=(pD (m.1,m.2.1),pD m.2.2)
theorem zdz_(p:Nat×Nat):yU_ (pD p)=true:=id rfl
theorem zde_(p:Nat×Nat):u6_ (pD p)=false:=id rfl
theorem zdw_(a:Nat):z1_ (.int 1) (iN a)=some (iN (a+1)):=by
 show some (PyData.int (1+(a:Int)))=some (PyData.int ((a+1:Nat):Int))
 rw[Int.natCast_add,Int.add_comm]
 rfl
structure Ahd(n a b:Nat)(ms:List Mt):Prop where
 ok:∀m∈ms,MtOk n m
 so:ms.Pairwise λm m'=>plt (m.1,m.2.1) (m'.1,m'.2.1)
 ah:∀m∈ms,plt (m.1,m.2.1) (a,b)
 le:ms.length<=a*n+b
noncomputable def tab(n:Nat)(f:Nat->Nat):List Nat:=(List.range n).map f
abbrev tabD(n:Nat)(f:Nat->Nat):List D:=(tab n f).map iN
noncomputable def up(f:Nat->Nat)(i v:Nat):Nat->Nat:=λr=>if r=i then v else f r
theorem subI1(a:Nat)(h:1<=a):yh_ (iN a) (.int 1)=some (iN (a - 1)):=by
 show some (PyData.int ((a:Int) - 1))=some (PyData.int ((a - 1:Nat):Int))
 congr 2
 lia
theorem subN(a b:Nat)(h:b<=a):yh_ (iN a) (iN b)=some (iN (a - b)):=by
 show some (PyData.int ((a:Int) - b))=some (PyData.int ((a - b:Nat):Int))
 congr 2
 lia
noncomputable def cnt(hs:List Nat)(r:Nat):Nat:=hs.count r
noncomputable def canB(f:Nat->Nat)(m:Mt):Bool:=let w:=if m.1=m.2.1 then 2 else 1;decide (w<=f m.1)&&decide (w<=f m.2.1)
def ledF(f:Nat->Nat)(m:Mt):Nat->Nat :=
 let f1:=up f m.1 (f m.1 - 1)
 let f2:=up f1 m.2.1 (f1 m.2.1 - 1)
 let f3:=up f2 m.2.2.1 (f2 m.2.2.1+1)
 up f3 m.2.2.2 (f3 m.2.2.2+1)
theorem anyB(bs:List Bool):fAny [.list (bs.map PyData.bool)]=some (bs.any id):=by
 show(boolsOf _).map _=_
 rw[Y8_];rfl
noncomputable def zeM_(bs:List Bool):D:=if bs.all id then .str "yes" else if bs.any id then .str "both" else .str "no"
theorem yX_{α β:Type}(p:α->Bool)(g:α->β):∀l:List α,(l.filterMap λk=>if p k=true then some (g k)else none)=(l.filter p).map g
 | []=>rfl
 | a::r=>by
  rw[List.filterMap_cons,List.filter_cons,yX_ p g r]
  cases p a<;>rfl
noncomputable def zbR_(l:List (Nat×Nat)):List Nat:=l.flatMap λp=>List.replicate p.2 p.1
def zeQ_(f:Nat->Nat)(ms:List Mt):List Nat:=(ms.zipIdx.filter λp=>canB f p.1).map (·.2)
def zeP_(r:Rl)(hs:List Nat)(i j:Nat):List Nat:=(hs.set i (turn r.ms (hs.getD i 0) (hs.getD j 0)).1).set j (turn r.ms (hs.getD i 0) (hs.getD j 0)).2
def cdOf(r q:Rl)(i j:Nat):Nat×Nat:=((turn r.ms (i / q.n) (j / q.n)).1*q.n+(turn q.ms (i % q.n) (j % q.n)).1,(turn r.ms (i / q.n) (j / q.n)).2*q.n+(turn q.ms (i % q.n) (j % q.n)).2)
def cell(r q:Rl)(i j:Nat):List Mt:=if cdOf r q i j=(i,j)then[]else[(i,j,cdOf r q i j)]
def zdV_(r q:Rl)(i:Nat):List Mt:=(rng i (r.n*q.n)).flatMap (cell r q i)
def zbQ_(r q:Rl):List Mt:=(List.range (r.n*q.n)).flatMap (zdV_ r q)
structure Two(r q:Rl):Prop where
 wr:Wf r
 wq:Wf q
 rn:r.n<=40
 qn:q.n<=40
 R:r.n*q.n<=40
 st:r.st.length=q.st.length
 s4:q.st.length<=4
noncomputable def zdO_(both a b:Bool):Bool:=if both then a&&b else a||b
def zbS_(r q:Rl)(both:Bool)(p:Nat):Bool:=zdO_ both (r.sy.getD (p / q.n) false) (q.sy.getD (p % q.n) false)
noncomputable def Qm_(r q:Rl):List Nat:=(List.range r.st.length).map λk=>r.st.getD k 0*q.n+q.st.getD k 0
def side(r q:Rl)(both:Bool):Rl:=⟨r.n*q.n,Qm_ r q,zbQ_ r q,(List.range (r.n*q.n)).map (zbS_ r q both)⟩
noncomputable def zeL_(both:Bool):D:=if both then .str "both" else .str "either"
abbrev cT(l:List Nat):D:=.tuple (l.map iN)
theorem J2_:∀l l':List Nat,PyData.eqvAll (l.map iN) (l'.map iN)=decide (l=l')
 | [],[]=>rfl
 | [],_::_=>rfl
 | _::_,[]=>rfl
 | a::l,b::l'=>by
  simp only[List.map_cons,PyData.eqvAll,PyData.eqv,zcQ_,J2_ l l']
  rw[Bool.eq_iff_iff]
  simp
theorem zdm_(l l':List Nat):PyData.eqv (cT l) (cT l')=decide (l=l'):=by
 rw[<-J2_]
 rfl
theorem Uz_(l:List Nat):PyData.canLayAll0 (l.map iN)=true:=Wr_ λd hd=>by
 obtain⟨x,_,rfl⟩:=List.mem_map.mp hd
 simp[iN,PyData.canLay0]
theorem zcS_(l:List Nat):(cT l).canLay0=true/\(cT l).depth<=1000:=by
 refine⟨by simp only[PyData.canLay0];exact Uz_ l,?_⟩
 have hd:PyData.depthAll (l.map iN)<=1:=UC_ λd hd=>by
  obtain⟨x,_,rfl⟩:=List.mem_map.mp hd
  simp[iN,PyData.depth]
 simp only[PyData.depth]
 lia
theorem eqT(l l':List Nat):opEq (cT l) (cT l')=some (decide (l=l')):=by
 unfold opEq eqOk
 rw[if_pos (by simp[zcS_]),zdm_]
def zeO_(n:Nat)(g f:Nat->Nat):Nat->Nat:=cnt (zbR_ ((List.range n).map λp=>(g p,f p)))
structure Sd(r q:Rl)(g:Nat->Nat)(R:Rl):Prop where
 wf:Wf R
 lt:∀{a},a<r.n*q.n->g a<R.n
 tn:∀{a b},a<r.n*q.n->b<r.n*q.n->(g (cdOf r q a b).1,g (cdOf r q a b).2)=turn R.ms (g a) (g b)
 st:(Qm_ r q).map g=R.st
end L4
namespace K08
open PySem PySem.Spec PyProof.Rows L2 L3 L4
def Fd(T:Nat)(f:List D):Prop:=∃a b t:Int,f=[.int a,.int b,.int t]/\0<=t/\t<=T
theorem Fd.le{T T':Nat}{f:List D}(h:Fd T f)(hl:T<=T'):Fd T' f:=by
 obtain⟨a,b,t,e,h0,h1⟩:=h
 exact⟨a,b,t,e,h0,by omega⟩
theorem QA_{T:Nat}{f:List D}{m:Int}(h:Fd T f)(hT:T<=1000000)(hm:0<m)(hm2:m<1073741824) :
  ∃(r:Int) (f':List D),zj_ f (.int m)=.ret (.int r,f')/\0<=r/\r<m/\Fd (T+1) f':=by
 obtain⟨a,b,t,rfl,h0,h1⟩:=h
 unfold zj_
 simp only[XF_]
 rw[L4.ix3_0,oMS,bdR,L4.gtI,oMS,bdR]
 by_cases ha:0<a
 ·simp only[ha,decide_true,if_true]
  simp only[oMS,bdR,L4.modI _ _ hm,L4.divI _ _ hm hm2,L4.put3_0]
  exact⟨_,_,rfl,Int.emod_nonneg _ (by omega),Int.emod_lt_of_pos _ hm,_,_,_,rfl,h0,by omega⟩
 ·simp only[ha,decide_false]
  rw[if_neg (by decide)]
  simp only[oMS,bdR,L4.ix3_2,L4.ix3_1,L4.put3_2,L4.addI]
  rw[L4.mulL 41 _ (by decide) (by decide),L4.mulL (t+1) (t+1) (by omega) (by omega)]
  simp only[oMS,bdR,L4.addI]
  have tb:(t+1)*(t+1)<=1000001*1000001:=Int.mul_le_mul (by omega) (by omega) (by omega) (by omega)
  have tb0:0<=(t+1)*(t+1):=Int.mul_nonneg (by omega) (by omega)
  rw[L4.mulR _ ((t+1)*(t+1)+69621) (by omega) (by omega)]
  simp only[oMS,bdR]
  rw[L4.modI _ _ (by decide)]
  simp only[oMS,bdR]
  rw[L4.modI _ _ (by decide)]
  simp only[oMS,bdR,L4.addI]
  have g1:=Int.emod_nonneg ((b+41*(t+1)+3)*((t+1)*(t+1)+69621)) (b:=(998244353:Int)) (by decide)
  have g2:=Int.emod_lt_of_pos ((b+41*(t+1)+3)*((t+1)*(t+1)+69621)) (b:=(998244353:Int)) (by decide)
  rw[L4.mulL _ _ (by omega) (by omega)]
  simp only[oMS,bdR,L4.addI]
  rw[L4.modI _ _ (by decide)]
  simp only[oMS,bdR]
  rw[L4.divI _ _ (by decide) (by decide)]
  simp only[oMS,bdR]
  rw[L4.modI _ _ hm]
  exact⟨_,_,rfl,Int.emod_nonneg _ (by omega),Int.emod_lt_of_pos _ hm,_,_,_,rfl,by omega,by omega⟩
theorem j3_{T:Nat}{f:List D}{m:Nat}(h:Fd T f)(hT:T<=1000000)(hm:0<m)(hm2:m<=1000000000) :
  ∃(r:Nat) (f':List D),zj_ f (.int (m:Int))=.ret (iN r,f')/\r<m/\Fd (T+1) f':=by
 obtain⟨r,f',e,h1,h2,h3⟩:=QA_ h hT (m:=(m:Int)) (by omega) (by omega)
 obtain⟨n,rfl⟩:=Int.eq_ofNat_of_zero_le h1
 exact⟨n,f',e,by omega,h3⟩
theorem zbu_(ns:List Int)(k:Int)(hn:ns.length<=63):∃f,uI_ (.list (ns.map PyData.int)) (.int k)=.ret f/\Fd 0 f:=by
 unfold uI_
 simp only[XF_]
 have e1:fLen [.list (ns.map PyData.int)]=some (.int ns.length):=by rw[L4.lenL,zzd]
 have p18:Wk_ (.int 10) (.int 18)=some (.int 1000000000000000000):=id rfl
 have tail:∀c:Int,∃f,(bd (bd (bd (oM (fAbs [.int c])) λx6=>bd (oM (Wk_ (.int 10) (.int 18))) λx7=>oM (opGe x6 x7)) λb8=>if b8 then oM (fAbs [.int c])else .ret (.int 0)) λx9=>bd (bd (bd (oM (yx_ (.int c) (.int 1000003))) λx10=>bd (oM (yj_ (.int 7919) (.int k))) λx11=>oM (z1_ x10 x11)) λx12=>.ret [x9,x12,(.int 0)]) λl13=>M.ret l13)=.ret f/\Fd 0 f:=λc=>by
  have a1:fAbs [.int c]=some (.int (if c<0 then -c else c)):=id rfl
  simp only[a1,p18,oMS,bdR,L4.geI]
  rw[L4.modI _ _ (by decide),L4.mulL _ _ (by decide) (by decide)]
  simp only[oMS,bdR,L4.addI]
  generalize (if c<0 then -c else c)=A
  generalize decide ((1000000000000000000:Int)<=A)=B
  cases B
  ·exact⟨_,rfl,_,_,_,rfl,Int.le_refl _,Int.le_refl _⟩
  ·exact⟨_,rfl,_,_,_,rfl,Int.le_refl _,Int.le_refl _⟩
 simp only[e1,oMS,bdR,L4.gtI]
 by_cases h:0<(ns.length:Int)
 ·simp only[h,decide_true,if_true]
  rw[L4.modI _ _ h,oMS,bdR]
  have m1:=Int.emod_nonneg k (b:=(ns.length:Int)) (by omega)
  have m2:=Int.emod_lt_of_pos k h
  obtain⟨x,hx,e⟩:=zao_ (ns.map PyData.int) (k % ns.length) m1 (by rw[zzd];exact m2)
  obtain⟨i,hi,rfl⟩:=List.mem_map.mp hx
  have e2:opIx (.list (ns.map PyData.int)) (.int (k % ns.length))=some (.int i):=e
  rw[e2,oMS,bdR]
  exact tail i
 ·simp only[h,decide_false]
  rw[if_neg (by decide),bdR]
  exact tail 0
theorem zac_{T:Nat}{f:List D}{m:List D}(hm:0<m.length)(hm2:m.length<1000)(h:Fd T f)(hT:T<=1000000) :
  ∃(x:D) (f':List D),uq_ f (.list m)=.ret (x,f')/\x∈m/\Fd (T+1) f':=by
 unfold uq_
 simp only[XF_]
 obtain⟨r,f',t1,t2,t3,t4⟩:=QA_ h hT (m:=(m.length:Int)) (by omega) (by omega)
 obtain⟨x,hx,e⟩:=zao_ m r t2 t3
 have e2:opIx (.list m) (.int r)=some x:=e
 rw[L4.lenL,oMS,bdR,t1,bdR]
 simp only[e2,oMS,bdR]
 exact⟨x,f',rfl,hx,t4⟩
noncomputable abbrev sg(c:Nat):Str:=⟨#[c]⟩
noncomputable def jl(c:Nat):List (List Nat)->List Nat
 | []=>[]
 | [a]=>a
 | a::b::r=>a++c::jl c (b::r)
theorem join_list(c:Nat):∀ws:List Str,(Str.join (sg c) ws).cps.toList=jl c (ws.map λw=>w.cps.toList)
 | []=>rfl
 | [a]=>rfl
 | a::b::r=>by
  have ih:=join_list c (b::r)
  rw[show Str.join (sg c) (a::b::r)=a++sg c++Str.join (sg c) (b::r)from rfl]
  show((a.cps ++ #[c])++(Str.join (sg c) (b::r)).cps).toList=_
  rw[Array.toList_append,Array.toList_append,ih]
  show a.cps.toList++[c]++_=_
  rw[List.append_assoc]
  rfl
theorem zal_(c:Nat):∀l:List Nat,PyProof.Rows.cnt c l=(l.count c:Int)
 | []=>rfl
 | a::l=>by
  have ih:=zal_ c l
  unfold PyProof.Rows.cnt at ih ⊢
  rw[List.map_cons,List.count_cons]
  have e:Spec.countIn (PyData.str ⟨#[c]⟩) (PyData.str ⟨#[a]⟩::l.map λn=>PyData.str ⟨#[n]⟩)=(if Spec.same (.str ⟨#[a]⟩) (.str ⟨#[c]⟩)then 1 else 0)+Spec.countIn (PyData.str ⟨#[c]⟩) (l.map λn=>PyData.str ⟨#[n]⟩):=by
   simp[Spec.countIn]
  rw[e,ih]
  have:Spec.same (.str ⟨#[a]⟩) (.str ⟨#[c]⟩)=(a==c):=by
   by_cases h:a=c
   ·subst h;simp[Spec.same]
   ·have:({ cps:=#[a] }:Str)≠{ cps:=#[c] }:=by simp[h]
    simp only[Spec.same]
    rw[beq_eq_false_iff_ne.mpr this,beq_eq_false_iff_ne.mpr h]
  rw[this]
  by_cases h:a=c
  ·simp[h];lia
  ·simp[h]
theorem zak_{c:Nat}:∀{a a' x x':List Nat},c∉a->c∉a'->a++c::x=a'++c::x'->a=a'/\x=x'
 | [],[],_,_,_,_,h=>⟨rfl,by simpa using h⟩
 | [],b::a',_,_,_,h2,h=>by
  have:c=b:=by simpa using(List.cons.inj h).1
  exact absurd (this▸List.mem_cons_self) h2
 | b::a,[],_,_,h1,_,h=>by
  have:b=c:=by simpa using(List.cons.inj h).1
  exact absurd (this▸List.mem_cons_self) h1
 | b::a,b'::a',_,_,h1,h2,h=>by
  obtain⟨e1,e2⟩:=List.cons.inj h
  obtain⟨r1,r2⟩:=zak_ (a:=a) (a':=a') (λz=>h1 (zzg _ z)) (λz=>h2 (zzg _ z)) e2
  exact⟨by rw[e1,r1],r2⟩
theorem zah_{c:Nat}(a b:List Nat)(r:List (List Nat)):c∈jl c (a::b::r):=by
 show c∈a++c::jl c (b::r)
 simp
theorem zai_{c:Nat}:∀{L L':List (List Nat)},L≠[]->L'≠[]->(∀a∈L,c∉a)->(∀a∈L',c∉a)->jl c L=jl c L'->L=L'
 | [a],[a'],_,_,_,_,h=>by rw[show a=a' from h]
 | [a],a'::b'::r',_,_,h1,_,h=>absurd (show c∈a by rw[show a=_ from h];exact zah_ a' b' r') (h1 a List.mem_cons_self)
 | a::b::r,[a'],_,_,_,h2,h=>absurd (show c∈a' by rw[show a'=_ from h.symm];exact zah_ a b r) (h2 a' List.mem_cons_self)
 | a::b::r,a'::b'::r',_,_,h1,h2,h=>by
  obtain⟨e1,e2⟩:=zak_ (h1 a List.mem_cons_self) (h2 a' List.mem_cons_self) h
  have:=zai_ (L:=b::r) (L':=b'::r') (by simp) (by simp) (λx hx=>h1 x (zzg _ hx)) (λx hx=>h2 x (zzg _ hx)) e2
  rw[e1,this]
theorem UA_(c:Nat):∀L:List (List Nat),L≠[]->(jl c L).count c+1=(L.map λa=>a.count c).sum+L.length
 | [],h=>absurd rfl h
 | [a],_=>by simp[jl]
 | a::b::r,_=>by
  have ih:=UA_ c (b::r) (by simp)
  show(a++c::jl c (b::r)).count c+1=_
  rw[List.count_append,List.count_cons_self]
  simp only[List.map_cons,List.sum_cons,List.length_cons]at ih ⊢
  lia
theorem Qk_:∀{l:List Nat},l.sum=0->∀x∈l,x=0
 | a::l,h,x,hx=>by
  rw[List.sum_cons]at h
  rcases List.mem_cons.mp hx with rfl|hx
  ·lia
  ·exact Qk_ (by lia) x hx
theorem Q6_{c:Nat}{ws:List Str}(hne:ws≠[])(h:∀w∈ws,c∉w.cps.toList):Txt.split (Str.join (sg c) ws) (sg c)=ws:=by
 have e1:=StrLaws.join_split (Str.join (sg c) ws) (sg c)
 have e2:=split_len (Str.join (sg c) ws) c
 generalize hL:Txt.split (Str.join (sg c) ws) (sg c)=L at e1 e2
 rw[zal_]at e2
 have j1:=congrArg (λs:Str=>s.cps.toList) e1
 simp only[join_list]at j1
 rw[join_list]at e2
 have w0:((ws.map λw=>w.cps.toList).map λa=>a.count c).sum=0:=by
  have:∀l:List Str,(∀w∈l,c∉w.cps.toList)->((l.map λw=>w.cps.toList).map λa=>a.count c).sum=0:=by
   intro l
   induction l with
   | nil=>intro _;rfl
   | cons a l ih =>
    intro h
    rw[List.map_cons,List.map_cons,List.sum_cons,ih λw hw=>h w (zzg _ hw),List.count_eq_zero_of_not_mem (h a List.mem_cons_self)]
  exact this ws h
 have c1:=UA_ c (ws.map λw=>w.cps.toList) (by simpa using hne)
 have Lne:L≠[]:=by
  rintro rfl
  simp at e2
  lia
 have c2:=UA_ c (L.map λw=>w.cps.toList) (by simpa using Lne)
 rw[j1]at c2
 rw[w0]at c1
 simp only[zzd]at c1 c2
 have z:((L.map λw=>w.cps.toList).map λa=>a.count c).sum=0:=by lia
 have noL:∀a∈L.map λw=>w.cps.toList,c∉a:=λa ha=>by
  have:=Qk_ z (a.count c) (List.mem_map.mpr ⟨a,ha,rfl⟩)
  exact List.count_eq_zero.mp this
 have:=zai_ (L:=L.map λw=>w.cps.toList) (L':=ws.map λw=>w.cps.toList) (by simpa using Lne) (by simpa using hne) noL (λa ha=>by
  obtain⟨w,hw,rfl⟩:=List.mem_map.mp ha
  exact h w hw) j1
 have inj:∀{l l':List Str},l.map (λw=>w.cps.toList)=l'.map (λw=>w.cps.toList)->l=l':=by
  intro l
  induction l with
  | nil=>intro l' h;cases l' with
   | nil=>rfl
   | cons _ _=>cases h
  | cons a l ih =>
   intro l' h
   cases l' with
   | nil=>cases h
   | cons b l' =>
    obtain⟨h1,h2⟩:=List.cons.inj h
    have:a=b:=by
     obtain⟨⟨a⟩⟩:=a;obtain⟨⟨b⟩⟩:=b
     have:a=b:=h1
     rw[this]
    rw[this,ih h2]
 exact inj this
theorem Ym_{c:Nat}:∀(Ls:List (List Str)),(∀L∈Ls,L≠[])->Str.join (sg c) (Ls.map (Str.join (sg c)))=Str.join (sg c) Ls.flatten:=by
 have ext:∀{a b:Str},a.cps.toList=b.cps.toList->a=b:=by
  intro a b h
  obtain⟨⟨a⟩⟩:=a;obtain⟨⟨b⟩⟩:=b
  have:a=b:=h
  rw[this]
 have app:∀(L M:List (List Nat)),L≠[]->M≠[]->jl c (L++M)=jl c L++c::jl c M:=by
  intro L
  induction L with
  | nil=>intro M h;exact absurd rfl h
  | cons a L ih =>
   intro M _ hM
   cases L with
   | nil =>
    cases M with
    | nil=>exact absurd rfl hM
    | cons b M=>rfl
   | cons b L =>
    have:=ih M (by simp) hM
    show a++c::jl c (b::(L++M))=(a++c::jl c (b::L))++c::jl c M
    rw[show b::(L++M)=(b::L)++M from rfl,this,List.append_assoc]
    rfl
 intro Ls
 induction Ls with
 | nil=>intro _;rfl
 | cons L Ls ih =>
  intro h
  have hL:=h L List.mem_cons_self
  have ih:=ih λM hM=>h M (zzg _ hM)
  apply ext
  have ih':=congrArg (λs:Str=>s.cps.toList) ih
  simp only[join_list,List.map_map]at ih' ⊢
  cases Ls with
  | nil=>simp[jl,join_list]
  | cons M Ls =>
   have hM:=h M (by simp)
   rw[List.flatten_cons,List.map_append,app _ _ (by simpa using hL) (by
    rw[List.flatten_cons]
    simp[hM]),List.map_cons]
   show(Str.join (sg c) L).cps.toList++c::jl c (List.map ((λw:Str=>w.cps.toList)∘Str.join (sg c)) (M::Ls))=_
   rw[ih',join_list]
abbrev tupN(A:List Nat):D:=.tuple (A.map iN)
inductive Qn where
 | least (A:List Nat) (m:Nat)
 | more (A B:List Nat)
 | rest (A:List Nat) (b r:Nat)
 | neg (q:Qn)
 | both (q p:Qn)
 | either (q p:Qn)
def Qn.d:Qn->D
 | .least A m=>.tuple [.str "least",tupN A,iN m]
 | .more A B=>.tuple [.str "more",tupN A,tupN B]
 | .rest A b r=>.tuple [.str "rest",tupN A,iN b,iN r]
 | .neg q=>.tuple [.str "not",q.d]
 | .both q p=>.tuple [.str "both",q.d,p.d]
 | .either q p=>.tuple [.str "either",q.d,p.d]
noncomputable def Qn.deep:Qn->Nat
 | .neg q=>q.deep+1
 | .both q p=>max q.deep p.deep+1
 | .either q p=>max q.deep p.deep+1
 | _=>0
def Qn.cnt:Qn->Nat
 | .neg q=>q.cnt+1
 | .both q p=>q.cnt+p.cnt+1
 | .either q p=>q.cnt+p.cnt+1
 | _=>1
def Up(s:Nat)(A:List Nat):Prop:=A.Pairwise (· < ·)/\(∀a∈A,a<s)/\A.length<=s
noncomputable def Qn.Wf(s:Nat):Qn->Prop
 | .least A m=>Up s A/\A≠[]/\1<=m/\m<=9
 | .more A B=>Up s A/\Up s B/\∀b∈B,b∉A
 | .rest A b r=>Up s A/\A≠[]/\2<=b/\b<=9/\r<b
 | .neg q=>q.Wf s
 | .both q p=>q.Wf s/\p.Wf s
 | .either q p=>q.Wf s/\p.Wf s
noncomputable def numW(n:Nat):Str:=toString (n:Int)
theorem Jb_:∀n,n<=9->numW n=sg (48+n):=by
 intro n h
 rcases(by lia:n=0\/n=1\/n=2\/n=3\/n=4\/n=5\/n=6\/n=7\/n=8\/n=9)with rfl|rfl|rfl|rfl|rfl|rfl|rfl|rfl|rfl|rfl<;>decide +kernel
theorem str_is{n:Nat}(h:n<=9):fStr [iN n]=some (.str (numW n)):=by
 show(if(n:Int).natAbs.log2<1920 then some (PyData.str (toString (n:Int)))else none)=_
 rw[if_pos]
 ·rfl
 ·have:(n:Int).natAbs=n:=by simp
  rw[this]
  rcases(by lia:n=0\/n=1\/n=2\/n=3\/n=4\/n=5\/n=6\/n=7\/n=8\/n=9)with rfl|rfl|rfl|rfl|rfl|rfl|rfl|rfl|rfl|rfl<;>decide +kernel
def zu_(A:List Nat):Str:=if A.isEmpty then "-" else Str.join (sg 44) (A.map numW)
def words:Qn->List Str
 | .least A m=>["least",zu_ A,numW m]
 | .more A B=>["more",zu_ A,zu_ B]
 | .rest A b r=>["rest",zu_ A,numW b,numW r]
 | .neg q => "not" :: words q
 | .both q p => "both" :: (words q++words p)
 | .either q p => "either" :: (words q++words p)
def text(q:Qn):Str:=Str.join (sg 32) (words q)
theorem Ua_(q:Qn):words q≠[]:=by cases q<;>simp[words]
theorem JL_:∀xs:List Str,strsOf (xs.map PyData.str)=some xs
 | []=>rfl
 | x::xs=>by rw[List.map_cons,strsOf,JL_ xs];rfl
theorem yB_{c:Nat}{s:Str}(hs:s=sg c){ws:List Str}(h:∀w∈ws,w.length<=1000)(hl:ws.length<=100):Jl_ (.str s) [.list (ws.map PyData.str)]=some (.str (Str.join (sg c) ws)):=by
 subst hs
 show(match strsOf (ws.map PyData.str)with
  | some xs=>if JoinOk (sg c) xs then some (PyData.str (Txt.join (sg c) xs))else none
  | none=>none)=_
 rw[JL_]
 dsimp only
 rw[if_pos ?_]
 ·unfold Txt.join
  rw[StrLaws.glued_eq_join]
 ·unfold JoinOk
  rw[Bool.not_eq_true']
  refine StrLaws.joinFits (B:=1000) h ?_
  have:(sg c).length=1:=rfl
  rw[this]
  lia
theorem zbj_(x:Str):x.cps.toList.length=x.length:=Array.length_toList
theorem ZU_{c:Nat}{B:Nat}:∀{ws:List Str},(∀w∈ws,w.length<=B)->(Str.join (sg c) ws).length<=ws.length*(B+1)
 | [],_=>by rw[<-zbj_];exact Nat.zero_le _
 | [a],h=>by
  have:=h a List.mem_cons_self
  show a.length<=_
  simp;lia
 | a::b::r,h=>by
  have ih:=ZU_ (c:=c) (ws:=b::r) λw hw=>h w (zzg _ hw)
  have ha:=h a List.mem_cons_self
  rw[show Str.join (sg c) (a::b::r)=a++sg c++Str.join (sg c) (b::r)from rfl]
  have e:(a++sg c++Str.join (sg c) (b::r)).length=a.length+1+(Str.join (sg c) (b::r)).length:=by
   show((a.cps ++ #[c])++(Str.join (sg c) (b::r)).cps).size=_
   rw[Array.size_append,Array.size_append]
   rfl
  rw[e,List.length_cons,Nat.succ_mul]
  lia
theorem uB_{n:Nat}(h:n<=9):(numW n).length=1:=by rw[Jb_ n h];rfl
theorem yc_{A:List Nat}(h:∀a∈A,a<=9)(hl:A.length<=5):(zu_ A).length<=10:=by
 unfold zu_
 split
 ·decide +kernel
 ·have:=ZU_ (c:=44) (B:=1) (ws:=A.map numW) λw hw=>by
   obtain⟨a,ha,rfl⟩:=List.mem_map.mp hw
   exact Nat.le_of_eq (uB_ (h a ha))
  rw[zzd]at this
  lia
theorem Ud_{A:List Nat}(h:∀a∈A,a<=9):zC_ (λd1=>bd (oM (fStr [d1])) λx2=>M.ret (some x2)) (A.map iN)=.ret ((A.map numW).map PyData.str):=by
 rw[y0_ (e:=iN) (g:=λn=>.str (numW n)) A (λa ha=>by rw[str_is (h a ha),oMS,bdR]),List.map_map]
 rfl
theorem ZF_(s:Str)(m:M D):onT .str (.str s) m=m:=rfl
theorem jX_{A:List Nat}(h:∀a∈A,a<=9)(hl:A.length<=5):jb_ (tupN A)=.ret (.str (zu_ A)):=by
 unfold jb_
 rw[lenT,zzd,oMS,bdR,L4.gtI,oMS,bdR]
 unfold zu_
 cases A with
 | nil=>rw[if_neg (by decide)];rfl
 | cons a A =>
  rw[if_pos (by simp),if_neg (by simp)]
  unfold uk_
  rw[show seqS (tupN (a::A))=some ((a::A).map iN)from rfl,oMS,bdR,Ud_ h,bdR,z7_ (by rw[zzd,zzd];lia),bdR,bdR,ZF_,yB_ (c:=44) (by decide +kernel) (λw hw=>by
   obtain⟨b,hb,rfl⟩:=List.mem_map.mp hw
   rw[uB_ (h b hb)];lia) (by rw[zzd];lia),oMS,bdR,bdR]
theorem zdn_(A:List Nat):opEq (tupN A) (.tuple [])=some A.isEmpty:=by
 have:=L4.eqT A []
 rw[show cT A=tupN A from rfl,show cT []=PyData.tuple []from rfl]at this
 rw[this]
 cases A<;>rfl
theorem Y0_{A:List Nat}(h:∀a∈A,a<=9)(hl:A.length<=5):zs_ (tupN A)=.ret (.str (zu_ A)):=by
 unfold zs_
 rw[zdn_,oMS,bdR]
 unfold zu_
 cases A with
 | nil=>rfl
 | cons a A =>
  rw[if_neg (by simp),if_neg (by simp),show seqS (tupN (a::A))=some ((a::A).map iN)from rfl,oMS,bdR,Ud_ h,bdR,z7_ (by rw[zzd,zzd];lia),bdR,bdR,ZF_,yB_ (c:=44) (by decide +kernel) (λw hw=>by
   obtain⟨b,hb,rfl⟩:=List.mem_map.mp hw
   rw[uB_ (h b hb)];lia) (by rw[zzd];lia),oMS,bdR]
theorem Up.nine{s:Nat}{A:List Nat}(h:Up s A)(hs:s<=5):(∀a∈A,a<=9)/\A.length<=5:=⟨λa ha=>by have:=h.2.1 a ha;lia,by have:=h.2.2;lia⟩
theorem Q7_:(Str.ofString " ")=sg 32:=by decide +kernel
theorem UM_{s:Nat}(hs:s<=5):∀{q:Qn},q.Wf s->(∀w∈words q,w.length<=10)/\(words q).length<=4*q.cnt:=by
 have lit:∀x:Str,x.length<=10->x.length<=10:=λ_ h=>h
 intro q
 induction q with
 | least A m =>
  intro h
  obtain⟨n1,n2⟩:=h.1.nine hs
  have l1:=yc_ n1 n2
  have l2:=uB_ h.2.2.2
  refine⟨λw hw=>?_,by simp[words,Qn.cnt]⟩
  simp only[words,List.mem_cons,List.mem_nil_iff,or_false]at hw
  rcases hw with rfl|rfl|rfl
  ·decide +kernel
  ·exact l1
  ·lia
 | more A B =>
  intro h
  obtain⟨n1,n2⟩:=h.1.nine hs
  obtain⟨m1,m2⟩:=h.2.1.nine hs
  have l1:=yc_ n1 n2
  have l2:=yc_ m1 m2
  refine⟨λw hw=>?_,by simp[words,Qn.cnt]⟩
  simp only[words,List.mem_cons,List.mem_nil_iff,or_false]at hw
  rcases hw with rfl|rfl|rfl
  ·decide +kernel
  ·exact l1
  ·exact l2
 | rest A b r =>
  intro h
  obtain⟨n1,n2⟩:=h.1.nine hs
  have l1:=yc_ n1 n2
  have l2:=uB_ h.2.2.2.1
  have l3:=uB_ (show r<=9 by have:=h.2.2.2.1;have:=h.2.2.2.2;lia)
  refine⟨λw hw=>?_,by simp[words,Qn.cnt]⟩
  simp only[words,List.mem_cons,List.mem_nil_iff,or_false]at hw
  rcases hw with rfl|rfl|rfl|rfl
  ·decide +kernel
  ·exact l1
  ·lia
  ·lia
 | neg q ih =>
  intro h
  obtain⟨a,b⟩:=ih h
  refine⟨λw hw=>?_,by simp only[words,Qn.cnt,List.length_cons];lia⟩
  rcases List.mem_cons.mp hw with rfl|hw
  ·decide +kernel
  ·exact a w hw
 | both q p ih1 ih2 =>
  intro h
  obtain⟨a,b⟩:=ih1 h.1
  obtain⟨a',b'⟩:=ih2 h.2
  refine⟨λw hw=>?_,by simp only[words,Qn.cnt,List.length_cons,List.length_append];lia⟩
  rcases List.mem_cons.mp hw with rfl|hw
  ·decide +kernel
  ·rcases List.mem_append.mp hw with hw|hw
   ·exact a w hw
   ·exact a' w hw
 | either q p ih1 ih2 =>
  intro h
  obtain⟨a,b⟩:=ih1 h.1
  obtain⟨a',b'⟩:=ih2 h.2
  refine⟨λw hw=>?_,by simp only[words,Qn.cnt,List.length_cons,List.length_append];lia⟩
  rcases List.mem_cons.mp hw with rfl|hw
  ·decide +kernel
  ·rcases List.mem_append.mp hw with hw|hw
   ·exact a w hw
   ·exact a' w hw
theorem text_len{s:Nat}(hs:s<=5){q:Qn}(h:q.Wf s):(text q).length<=44*q.cnt:=by
 obtain⟨a,b⟩:=UM_ hs h
 have:=ZU_ (c:=32) a
 unfold text
 have:(words q).length*11<=4*q.cnt*11:=Nat.mul_le_mul_right _ b
 lia
theorem Qj_(q:Qn):Str.join (sg 32) (["not",text q]:List Str)=text (.neg q):=by
 have:=Ym_ (c:=32) [["not"],words q] (by simp[Ua_])
 simp only[List.map_cons,List.map_nil,List.flatten_cons,List.flatten_nil,List.append_nil]at this
 exact this
theorem Qi_(w:Str)(q p:Qn):Str.join (sg 32) ([w,text q,text p]:List Str)=Str.join (sg 32) (w::(words q++words p)):=by
 have:=Ym_ (c:=32) [[w],words q,words p] (by simp[Ua_])
 simp only[List.map_cons,List.map_nil,List.flatten_cons,List.flatten_nil,List.append_nil]at this
 exact this
theorem addL{a b:List D}(h:a.length+b.length<=1000):z1_ (.list a) (.list b)=some (.list (a++b)):=if_pos (Nat.le_trans h (by decide))
theorem len3{s:Nat}(hs:s<=5){q:Qn}(h:q.Wf s)(hc:q.cnt<=20):(text q).length<=1000:=by have:=text_len hs h;lia
section
variable {s:Nat}(hs:s<=5)
include hs
theorem VM_{self:D->M D}{q:Qn}(h:q.Wf s)(hc:q.cnt<=20)(e:self q.d=.ret (.str (text q))):zq_ self (Qn.neg q).d=.ret (.str (text (.neg q))):=by
 unfold zq_
 show bd (oM (zH_ (.tuple [.str "not",q.d]) (.int 0))) _=_
 have cm:zC_ (λd6=>bd (self d6) λx7=>M.ret (some x7)) [q.d]=.ret [.str (text q)]:=by
  unfold zC_;rw[e];rfl
 rw[uP_,ixT0,oMS,bdR,show zG_ (.str "not")=.ret (.int 1)from by kernel_rfl,bdR,L4.gtI,oMS,bdR,if_pos (by decide),show asI (.int 1)=.ret (some 1)from rfl,bdR,show yZ_ (Qn.neg q).d (some 1) none=some (.tuple [q.d])from rfl,oMS,bdR,show seqS (.tuple [q.d])=some [q.d]from rfl,oMS,bdR,cm,bdR,z7_ (by simp),bdR,bdR,addL (by simp),oMS,bdR,ZF_]
 rw[show(PyData.list ([.str "not"]++[.str (text q)]))=.list ((["not",text q]:List Str).map PyData.str)from rfl,yB_ Q7_ (λw hw=>by
  simp only[List.mem_cons,List.mem_nil_iff,or_false]at hw
  rcases hw with rfl|rfl
  ·decide +kernel
  ·exact len3 hs h hc) (by simp),oMS,bdR,Qj_]
theorem UT_{self:D->M D}{w:Str}(hw:zG_ (.str w)=.ret (.int 2))(hwl:w.length<=10){q p:Qn}(h1:q.Wf s)(h2:p.Wf s)(hc1:q.cnt<=20)(hc2:p.cnt<=20)(e1:self q.d=.ret (.str (text q)))(e2:self p.d=.ret (.str (text p))) :
  zq_ self (.tuple [.str w,q.d,p.d])=.ret (.str (Str.join (sg 32) (w::(words q++words p)))):=by
 unfold zq_
 have cm:zC_ (λd6=>bd (self d6) λx7=>M.ret (some x7)) [q.d,p.d]=.ret [.str (text q),.str (text p)]:=by
  unfold zC_ zC_ zC_;rw[e1,e2];rfl
 rw[uP_,ixT0,oMS,bdR,hw,bdR,L4.gtI,oMS,bdR,if_pos (by decide),show asI (.int 1)=.ret (some 1)from rfl,bdR,show yZ_ (.tuple [.str w,q.d,p.d]) (some 1) none=some (.tuple [q.d,p.d])from rfl,oMS,bdR,show seqS (.tuple [q.d,p.d])=some [q.d,p.d]from rfl,oMS,bdR,cm,bdR,z7_ (by simp),bdR,bdR,addL (by simp),oMS,bdR,ZF_]
 rw[show(PyData.list ([.str w]++[.str (text q),.str (text p)]))=.list (([w,text q,text p]:List Str).map PyData.str)from rfl,yB_ Q7_ (λx hx=>by
  simp only[List.mem_cons,List.mem_nil_iff,or_false]at hx
  rcases hx with rfl|rfl|rfl
  ·lia
  ·exact len3 hs h1 hc1
  ·exact len3 hs h2 hc2) (by simp),oMS,bdR,Qi_]
theorem YZ_{self:D->M D}{q:Qn}(h:q.Wf s)(hc:q.cnt<=20)(e:self q.d=.ret (.str (text q))):zJ_ self (Qn.neg q).d=.ret (.str (text (.neg q))):=by
 unfold zJ_
 show bd (bd (oM (zH_ (.tuple [.str "not",q.d]) (.int 0))) _) _=_
 have cm:zC_ (λd6=>bd (self d6) λx7=>M.ret (some x7)) [q.d]=.ret [.str (text q)]:=by
  unfold zC_;rw[e];rfl
 rw[uP_,ixT0,oMS,bdR,show uA_ (.str "not") (.tuple [.str "not",.str "both",.str "either"])=some true from by kernel_rfl,oMS,bdR,if_pos rfl,show zH_ (Qn.neg q).d (.int 0)=some (.str "not")from by show zH_ (.tuple [.str "not",q.d]) (.int 0)=_;rw[uP_,ixT0],oMS,bdR,bdR,bdR,show asI (.int 1)=.ret (some 1)from rfl,bdR,show yZ_ (Qn.neg q).d (some 1) none=some (.tuple [q.d])from rfl,oMS,bdR,show seqS (.tuple [q.d])=some [q.d]from rfl,oMS,bdR,cm,bdR,z7_ (by simp),bdR,bdR,addL (by simp),oMS,bdR,ZF_]
 rw[show(PyData.list ([.str "not"]++[.str (text q)]))=.list ((["not",text q]:List Str).map PyData.str)from rfl,yB_ Q7_ (λw hw=>by
  simp only[List.mem_cons,List.mem_nil_iff,or_false]at hw
  rcases hw with rfl|rfl
  ·decide +kernel
  ·exact len3 hs h hc) (by simp),oMS,bdR,Qj_]
theorem Jg_{self:D->M D}{w:Str}(hw:uA_ (.str w) (.tuple [.str "not",.str "both",.str "either"])=some true)(hwl:w.length<=10){q p:Qn}(h1:q.Wf s)(h2:p.Wf s)(hc1:q.cnt<=20)(hc2:p.cnt<=20)(e1:self q.d=.ret (.str (text q)))(e2:self p.d=.ret (.str (text p))) :
  zJ_ self (.tuple [.str w,q.d,p.d])=.ret (.str (Str.join (sg 32) (w::(words q++words p)))):=by
 unfold zJ_
 have cm:zC_ (λd6=>bd (self d6) λx7=>M.ret (some x7)) [q.d,p.d]=.ret [.str (text q),.str (text p)]:=by
  unfold zC_ zC_ zC_;rw[e1,e2];rfl
 rw[uP_,ixT0,oMS,bdR,hw,oMS,bdR,if_pos rfl,bdR,bdR,bdR,show asI (.int 1)=.ret (some 1)from rfl,bdR,show yZ_ (.tuple [.str w,q.d,p.d]) (some 1) none=some (.tuple [q.d,p.d])from rfl,oMS,bdR,show seqS (.tuple [q.d,p.d])=some [q.d,p.d]from rfl,oMS,bdR,cm,bdR,z7_ (by simp),bdR,bdR,addL (by simp),oMS,bdR,ZF_]
 rw[show(PyData.list ([.str w]++[.str (text q),.str (text p)]))=.list (([w,text q,text p]:List Str).map PyData.str)from rfl,yB_ Q7_ (λx hx=>by
  simp only[List.mem_cons,List.mem_nil_iff,or_false]at hx
  rcases hx with rfl|rfl|rfl
  ·lia
  ·exact len3 hs h1 hc1
  ·exact len3 hs h2 hc2) (by simp),oMS,bdR,Qi_]
end
theorem WC_(A:List D):isTo "tuple" (.tuple A)=some true:=id rfl
theorem zbo_(n:Int):isTo "tuple" (.int n)=some false:=id rfl
section
variable {s:Nat}(hs:s<=5)
include hs
theorem Yi_{q:Qn}(h:q.Wf s)(hc:q.cnt<=20):Jl_ (.str " ") [.list ((words q).map PyData.str)]=some (.str (text q)):=by
 obtain⟨a,b⟩:=UM_ hs h
 exact yB_ Q7_ (λw hw=>Nat.le_trans (a w hw) (by decide)) (by lia)
theorem y8_{self:D->M D}{q:Qn}(h:q.Wf s)(hd:q.deep=0)(hc:q.cnt<=20):zq_ self q.d=.ret (.str (text q)):=by
 have lj:=Yi_ hs h hc
 cases q with
 | least A m =>
  obtain⟨n1,n2⟩:=h.1.nine hs
  have hm:=h.2.2.2
  unfold zq_
  show bd (oM (zH_ (.tuple [.str "least",tupN A,iN m]) (.int 0))) _=_
  have cm:=Ud_ (A:=[m]) (by simpa using hm)
  rw[uP_,ixT0,oMS,bdR,show zG_ (.str "least")=.ret (.int 0)from by kernel_rfl,bdR,L4.gtI,oMS,bdR,if_neg (by decide),show opEq (.str "least") (.str "more")=some false from by kernel_rfl,oMS,bdR,if_neg (by decide),
   show zH_ (Qn.least A m).d (.int 1)=some (tupN A)from by show zH_ (.tuple [.str "least",tupN A,iN m]) (.int 1)=_;rw[uP_,ixT1],oMS,bdR,jX_ n1 n2,bdR,bdR,bdR,show asI (.int 2)=.ret (some 2)from rfl,bdR,show yZ_ (Qn.least A m).d (some 2) none=some (.tuple [iN m])from rfl,oMS,bdR,show seqS (.tuple [iN m])=some ([m].map iN)from rfl,oMS,bdR,cm,bdR,z7_ (by simp),bdR,bdR,addL (by simp),oMS,bdR,ZF_]
  rw[show(PyData.list ([.str "least",.str (zu_ A)]++([m].map numW).map PyData.str))=.list ((words (.least A m)).map PyData.str)from rfl,lj,oMS,bdR]
 | more A B =>
  obtain⟨n1,n2⟩:=h.1.nine hs
  obtain⟨m1,m2⟩:=h.2.1.nine hs
  unfold zq_
  show bd (oM (zH_ (.tuple [.str "more",tupN A,tupN B]) (.int 0))) _=_
  rw[uP_,ixT0,oMS,bdR,show zG_ (.str "more")=.ret (.int 0)from by kernel_rfl,bdR,L4.gtI,oMS,bdR,if_neg (by decide),show opEq (.str "more") (.str "more")=some true from by kernel_rfl,oMS,bdR,if_pos rfl,
   show zH_ (Qn.more A B).d (.int 1)=some (tupN A)from by show zH_ (.tuple [.str "more",tupN A,tupN B]) (.int 1)=_;rw[uP_,ixT1],oMS,bdR,jX_ n1 n2,bdR,show zH_ (Qn.more A B).d (.int 2)=some (tupN B)from by show zH_ (.tuple [.str "more",tupN A,tupN B]) (.int 2)=_;rw[uP_,ixT2],oMS,bdR,jX_ m1 m2,bdR,bdR,bdR,ZF_]
  rw[show(PyData.list [.str "more",.str (zu_ A),.str (zu_ B)])=.list ((words (.more A B)).map PyData.str)from rfl,lj,oMS,bdR]
 | rest A b r =>
  obtain⟨n1,n2⟩:=h.1.nine hs
  have hb:=h.2.2.2.1
  have hr:=h.2.2.2.2
  unfold zq_
  show bd (oM (zH_ (.tuple [.str "rest",tupN A,iN b,iN r]) (.int 0))) _=_
  have cm:=Ud_ (A:=[b,r]) (by simp;lia)
  rw[uP_,ixT0,oMS,bdR,show zG_ (.str "rest")=.ret (.int 0)from by kernel_rfl,bdR,L4.gtI,oMS,bdR,if_neg (by decide),show opEq (.str "rest") (.str "more")=some false from by kernel_rfl,oMS,bdR,if_neg (by decide),
   show zH_ (Qn.rest A b r).d (.int 1)=some (tupN A)from by show zH_ (.tuple [.str "rest",tupN A,iN b,iN r]) (.int 1)=_;rw[uP_,ixT1],oMS,bdR,jX_ n1 n2,bdR,bdR,bdR,show asI (.int 2)=.ret (some 2)from rfl,bdR,show yZ_ (Qn.rest A b r).d (some 2) none=some (.tuple [iN b,iN r])from rfl,oMS,bdR,show seqS (.tuple [iN b,iN r])=some ([b,r].map iN)from rfl,oMS,bdR,cm,bdR,z7_ (by simp),bdR,bdR,addL (by simp),oMS,bdR,ZF_]
  rw[show(PyData.list ([.str "rest",.str (zu_ A)]++([b,r].map numW).map PyData.str))=.list ((words (.rest A b r)).map PyData.str)from rfl,lj,oMS,bdR]
 | neg q=>simp[Qn.deep]at hd
 | both q p=>simp[Qn.deep]at hd
 | either q p=>simp[Qn.deep]at hd
def zeN_(d:D):Str:=match d with
 | .tuple ds=>zu_ (ds.map λd=>match d with | .int i=>i.toNat|_=>0)
 | .int i=>numW i.toNat
 | _ => ""
theorem u4_{self:D->M D}{q:Qn}(h:q.Wf s)(hd:q.deep=0)(hc:q.cnt<=20):zJ_ self q.d=.ret (.str (text q)):=by
 have lj:=Yi_ hs h hc
 have pT:∀A:List Nat,Up s A->(bd (bd (oM (isTo "tuple" (tupN A))) λb18=>if b18 then zs_ (tupN A)else oM (fStr [tupN A])) λx19=>M.ret (some x19))=.ret (some (.str (zu_ A))):=λA hA=>by
  obtain⟨n1,n2⟩:=hA.nine hs
  rw[WC_,oMS,bdR,if_pos rfl,Y0_ n1 n2,bdR]
 have pI:∀n:Nat,n<=9->(bd (bd (oM (isTo "tuple" (iN n))) λb18=>if b18 then zs_ (iN n)else oM (fStr [iN n])) λx19=>M.ret (some x19))=.ret (some (.str (numW n))):=λn hn=>by
  rw[zbo_,oMS,bdR,if_neg (by decide),str_is hn,oMS,bdR]
 cases q with
 | least A m =>
  unfold zJ_
  show bd (bd (oM (zH_ (.tuple [.str "least",tupN A,iN m]) (.int 0))) _) _=_
  have cm:zC_ (λd17=>bd (bd (oM (isTo "tuple" d17)) λb18=>if b18 then zs_ d17 else oM (fStr [d17])) λx19=>M.ret (some x19)) [tupN A,iN m]=.ret [.str (zu_ A),.str (numW m)]:=by
   unfold zC_ zC_ zC_;rw[pT A h.1,pI m h.2.2.2];rfl
  have i0:zH_ (Qn.least A m).d (.int 0)=some (.str "least"):=by show zH_ (.tuple [.str "least",tupN A,iN m]) (.int 0)=_;rw[uP_,ixT0]
  rw[uP_,ixT0,oMS,bdR,show uA_ (.str "least") (.tuple [.str "not",.str "both",.str "either"])=some false from by kernel_rfl,oMS,bdR,if_neg (by decide),show asI (.int 1)=.ret (some 1)from rfl,bdR,show yZ_ (Qn.least A m).d (some 1) none=some (.tuple [tupN A,iN m])from rfl,oMS,bdR,show seqS (.tuple [tupN A,iN m])=some [tupN A,iN m]from rfl,oMS,bdR,cm,bdR,z7_ (by simp),bdR,bdR,i0,oMS,bdR,bdR,bdR,addL (by simp),oMS,bdR,ZF_]
  rw[show(PyData.list ([.str "least"]++[.str (zu_ A),.str (numW m)]))=.list ((words (.least A m)).map PyData.str)from rfl,lj,oMS,bdR]
 | more A B =>
  unfold zJ_
  show bd (bd (oM (zH_ (.tuple [.str "more",tupN A,tupN B]) (.int 0))) _) _=_
  have cm:zC_ (λd17=>bd (bd (oM (isTo "tuple" d17)) λb18=>if b18 then zs_ d17 else oM (fStr [d17])) λx19=>M.ret (some x19)) [tupN A,tupN B]=.ret [.str (zu_ A),.str (zu_ B)]:=by
   unfold zC_ zC_ zC_;rw[pT A h.1,pT B h.2.1];rfl
  have i0:zH_ (Qn.more A B).d (.int 0)=some (.str "more"):=by show zH_ (.tuple [.str "more",tupN A,tupN B]) (.int 0)=_;rw[uP_,ixT0]
  rw[uP_,ixT0,oMS,bdR,show uA_ (.str "more") (.tuple [.str "not",.str "both",.str "either"])=some false from by kernel_rfl,oMS,bdR,if_neg (by decide),show asI (.int 1)=.ret (some 1)from rfl,bdR,show yZ_ (Qn.more A B).d (some 1) none=some (.tuple [tupN A,tupN B])from rfl,oMS,bdR,show seqS (.tuple [tupN A,tupN B])=some [tupN A,tupN B]from rfl,oMS,bdR,cm,bdR,z7_ (by simp),bdR,bdR,i0,oMS,bdR,bdR,bdR,addL (by simp),oMS,bdR,ZF_]
  rw[show(PyData.list ([.str "more"]++[.str (zu_ A),.str (zu_ B)]))=.list ((words (.more A B)).map PyData.str)from rfl,lj,oMS,bdR]
 | rest A b r =>
  unfold zJ_
  show bd (bd (oM (zH_ (.tuple [.str "rest",tupN A,iN b,iN r]) (.int 0))) _) _=_
  have hr:r<=9:=by have:=h.2.2.2.1;have:=h.2.2.2.2;lia
  have cm:zC_ (λd17=>bd (bd (oM (isTo "tuple" d17)) λb18=>if b18 then zs_ d17 else oM (fStr [d17])) λx19=>M.ret (some x19)) [tupN A,iN b,iN r]=.ret [.str (zu_ A),.str (numW b),.str (numW r)]:=by
   unfold zC_ zC_ zC_ zC_;rw[pT A h.1,pI b h.2.2.2.1,pI r hr];rfl
  have i0:zH_ (Qn.rest A b r).d (.int 0)=some (.str "rest"):=by show zH_ (.tuple [.str "rest",tupN A,iN b,iN r]) (.int 0)=_;rw[uP_,ixT0]
  rw[uP_,ixT0,oMS,bdR,show uA_ (.str "rest") (.tuple [.str "not",.str "both",.str "either"])=some false from by kernel_rfl,oMS,bdR,if_neg (by decide),show asI (.int 1)=.ret (some 1)from rfl,bdR,show yZ_ (Qn.rest A b r).d (some 1) none=some (.tuple [tupN A,iN b,iN r])from rfl,oMS,bdR,show seqS (.tuple [tupN A,iN b,iN r])=some [tupN A,iN b,iN r]from rfl,oMS,bdR,cm,bdR,z7_ (by simp),bdR,bdR,i0,oMS,bdR,bdR,bdR,addL (by simp),oMS,bdR,ZF_]
  rw[show(PyData.list ([.str "rest"]++[.str (zu_ A),.str (numW b),.str (numW r)]))=.list ((words (.rest A b r)).map PyData.str)from rfl,lj,oMS,bdR]
 | neg q=>simp[Qn.deep]at hd
 | both q p=>simp[Qn.deep]at hd
 | either q p=>simp[Qn.deep]at hd
theorem Xf_:∀(i:Nat) (q:Qn),q.Wf s->q.cnt<=20->q.deep<i->zY_ i q.d=.ret (.str (text q))/\j6_ i q.d=.ret (.str (text q)):=by
 intro i
 induction i with
 | zero=>intro q _ _ h;lia
 | succ i ih =>
  intro q h hc hd
  rw[zY_,j6_]
  cases q with
  | least A m=>exact⟨y8_ hs h rfl hc,u4_ hs h rfl hc⟩
  | more A m=>exact⟨y8_ hs h rfl hc,u4_ hs h rfl hc⟩
  | rest A b r=>exact⟨y8_ hs h rfl hc,u4_ hs h rfl hc⟩
  | neg q =>
   simp only[Qn.cnt,Qn.deep]at hc hd
   obtain⟨a,b⟩:=ih q h (by lia) (by lia)
   exact⟨VM_ hs h (by lia) a,YZ_ hs h (by lia) b⟩
  | both q p =>
   simp only[Qn.cnt,Qn.deep]at hc hd
   obtain⟨a,b⟩:=ih q h.1 (by lia) (by lia)
   obtain⟨a',b'⟩:=ih p h.2 (by lia) (by lia)
   exact⟨UT_ hs (by kernel_rfl) (by decide +kernel) h.1 h.2 (by lia) (by lia) a a',Jg_ hs (by kernel_rfl) (by decide +kernel) h.1 h.2 (by lia) (by lia) b b'⟩
  | either q p =>
   simp only[Qn.cnt,Qn.deep]at hc hd
   obtain⟨a,b⟩:=ih q h.1 (by lia) (by lia)
   obtain⟨a',b'⟩:=ih p h.2 (by lia) (by lia)
   exact⟨UT_ hs (by kernel_rfl) (by decide +kernel) h.1 h.2 (by lia) (by lia) a a',Jg_ hs (by kernel_rfl) (by decide +kernel) h.1 h.2 (by lia) (by lia) b b'⟩
end
theorem Ye_{c n:Nat}(h:n<=9)(hc:c<48):c∉(numW n).cps.toList:=by
 rw[Jb_ n h]
 intro z
 have:c=48+n:=by simpa using z
 lia
theorem zdb_{c e:Nat}(hce:e≠c):∀{L:List (List Nat)},(∀a∈L,c∉a)->c∉jl e L
 | [],_=>by simp[jl]
 | [a],h=>h a List.mem_cons_self
 | a::b::r,h=>by
  show c∉a++e::jl e (b::r)
  have:=zdb_ hce (L:=b::r) λx hx=>h x (zzg _ hx)
  have ha:=h a List.mem_cons_self
  simp only[List.mem_append,List.mem_cons,not_or]
  exact⟨ha,λz=>hce z.symm,this⟩
theorem ZQ_{A:List Nat}(h:∀a∈A,a<=9):32∉(zu_ A).cps.toList:=by
 unfold zu_
 split
 ·decide +kernel
 ·rw[join_list]
  refine zdb_ (by decide) λa ha=>?_
  obtain⟨w,hw,rfl⟩:=List.mem_map.mp ha
  obtain⟨n,hn,rfl⟩:=List.mem_map.mp hw
  exact Ye_ (h n hn) (by decide)
theorem W6_{s:Nat}(hs:s<=5):∀{q:Qn},q.Wf s->∀w∈words q,32∉w.cps.toList:=by
 intro q
 induction q with
 | least A m =>
  intro h w hw
  simp only[words,List.mem_cons,List.mem_nil_iff,or_false]at hw
  rcases hw with rfl|rfl|rfl
  ·decide +kernel
  ·exact ZQ_ (h.1.nine hs).1
  ·exact Ye_ h.2.2.2 (by decide)
 | more A B =>
  intro h w hw
  simp only[words,List.mem_cons,List.mem_nil_iff,or_false]at hw
  rcases hw with rfl|rfl|rfl
  ·decide +kernel
  ·exact ZQ_ (h.1.nine hs).1
  ·exact ZQ_ (h.2.1.nine hs).1
 | rest A b r =>
  intro h w hw
  have hr:r<=9:=by have:=h.2.2.2.1;have:=h.2.2.2.2;lia
  simp only[words,List.mem_cons,List.mem_nil_iff,or_false]at hw
  rcases hw with rfl|rfl|rfl|rfl
  ·decide +kernel
  ·exact ZQ_ (h.1.nine hs).1
  ·exact Ye_ h.2.2.2.1 (by decide)
  ·exact Ye_ hr (by decide)
 | neg q ih =>
  intro h w hw
  rcases List.mem_cons.mp hw with rfl|hw
  ·decide +kernel
  ·exact ih h w hw
 | both q p ih1 ih2 =>
  intro h w hw
  rcases List.mem_cons.mp hw with rfl|hw
  ·decide +kernel
  ·rcases List.mem_append.mp hw with hw|hw
   ·exact ih1 h.1 w hw
   ·exact ih2 h.2 w hw
 | either q p ih1 ih2 =>
  intro h w hw
  rcases List.mem_cons.mp hw with rfl|hw
  ·decide +kernel
  ·rcases List.mem_append.mp hw with hw|hw
   ·exact ih1 h.1 w hw
   ·exact ih2 h.2 w hw
theorem Qo_{c:Nat}{y:Str}(hy:y=sg c){ws:List Str}(hne:ws≠[])(h:∀w∈ws,c∉w.cps.toList)(hl:(Str.join (sg c) ws).length<=5000):onT .str (.str (Str.join (sg c) ws)) (oM (Ys_ (.str (Str.join (sg c) ws)) [.str y]))=.ret (ws.map PyData.str):=by
 subst hy
 have sj:=Q6_ hne h
 generalize Str.join (sg c) ws=x at hl sj
 show oM (if Ue_ x (sg c)=true then some ((Txt.split x (sg c)).map PyData.str)else none)=_
 have sz:(10000:Nat)<=sizeLine:=by decide
 have hp:(Builtin.Str.partsBetween x (Builtin.Str.occurrences x (sg c) 0 x.length (x.length+1)) (sg c).length).length<=sizeLine:=by
  rw[length_partsBetween]
  have:=StrLaws.occ_length_le x (sg c) 0 x.length (x.length+1)
  lia
 have hw:(Txt.split x (sg c)).length<=sizeLine:=by
  have:=(fact_split x (sg c)).2
  lia
 rw[if_pos (by
  unfold Ue_
  rw[decide_eq_true hp,decide_eq_true hw,decide_eq_true (show x.length<=sizeLine by lia)]
  rfl),sj]
 rfl
abbrev stR(W:List Str)(pl ak:Nat):List D:=[.int 0,.list (W.map PyData.str),iN pl,iN ak]
theorem QD_(W:List Str)(pl ak:Nat):uj_ zc_ (stR W pl ak) "words" = some (.list (W.map PyData.str)):=by kernel_rfl
theorem Uv_(W:List Str)(pl ak:Nat):uj_ zc_ (stR W pl ak) "place" = some (iN pl):=by kernel_rfl
theorem QE_(W:List Str)(pl ak:Nat):uj_ zc_ (stR W pl ak) "asked" = some (iN ak):=by kernel_rfl
theorem Ul_(W:List Str)(pl ak n:Nat):putB zc_ (stR W pl ak) "place" (iN n)=stR W n ak:=by kernel_rfl
theorem Xq_(W:List Str)(pl ak n:Nat):putB zc_ (stR W pl ak) "asked" (iN n)=stR W pl n:=by kernel_rfl
theorem addZ(n:Nat):PyData.int ((n:Int)+1)=iN (n+1):=by
 show _=PyData.int (((n+1:Nat)):Int)
 congr 1
theorem Jn_{S:Type}(W:List Str)(pl ak:Nat)(k:Int->M S):augI (uj_ zc_ (stR W pl ak) "place") k=k pl:=by rw[Uv_];rfl
theorem WW_{S:Type}(W:List Str)(pl ak:Nat)(k:Int->M S):augI (uj_ zc_ (stR W pl ak) "asked") k=k ak:=by rw[QE_];rfl
theorem zbq_{ws:List Str}(hne:ws≠[])(h:∀w∈ws,32∉w.cps.toList)(hl:(Str.join (sg 32) ws).length<=5000):jg_ [] (.int 0) (.str (Str.join (sg 32) ws))=.ret (.none,stR ws 0 0):=by
 unfold jg_
 rw[Qo_ Q7_ hne h hl,bdR,bdR]
 kernel_rfl
theorem JY_(W:List Str)(pl ak:Nat):jf_ (stR W pl ak)=.ret (.bool (decide (pl<W.length)),stR W pl ak):=by
 unfold jf_
 rw[Uv_,oMS,bdR,QD_,oMS,bdR,L4.lenL,zzd,oMS,bdR,show YT_ (iN pl) (.int (W.length:Int))=some (decide (pl<W.length))from by
  show opLt (.int (pl:Int)) (.int (W.length:Int))=_
  rw[L4.ltI]
  congr 1
  exact decide_eq_decide.mpr (by lia),oMS,bdR,bdR]
theorem zaz_{W:List Str}{pl ak:Nat}{w:Str}(h:W[pl]? = some w):z0_ (stR W pl ak)=.ret (.str w,stR W pl ak):=by
 obtain⟨hl,e⟩:=List.getElem?_eq_some_iff.mp h
 unfold z0_
 rw[JY_,bdR];dsimp only
 rw[L4.asB_b,bdR,decide_eq_true hl,if_neg (by decide)]
 unfold jM_
 rw[QD_,oMS,bdR,Uv_,oMS,bdR,XF_,show opIx (.list (W.map PyData.str)) (iN pl)=_ from zep_ PyData.str W pl hl,oMS,bdR,e]
theorem y5_{W:List Str}{pl ak:Nat}{w:Str}(h:W[pl]? = some w)(hw:ZS_ "QUESTION_WORDS" ["least", "more", "rest", "both", "either", "not"] (.str w) (fnD "QUESTION_WORDS")=some false):jD_ (stR W pl ak) (fnD "QUESTION_WORDS")=.ret (.str w,stR W (pl+1) ak):=by
 unfold jD_
 rw[zaz_ h,bdR];dsimp only
 rw[hw,oMS,bdR,if_neg (by decide)]
 unfold jC_
 rw[Jn_,addZ,Ul_]
theorem Yd_:∀n,n<=9->jK_ (.str (numW n))=.ret (iN n):=by
 intro n h
 rw[Jb_ n h]
 rcases(by lia:n=0\/n=1\/n=2\/n=3\/n=4\/n=5\/n=6\/n=7\/n=8\/n=9)with rfl|rfl|rfl|rfl|rfl|rfl|rfl|rfl|rfl|rfl<;>kernel_rfl
theorem ut_{W:List Str}{pl ak n:Nat}{lo hi:Nat}(h:W[pl]? = some (numW n))(hn:n<=9)(h1:lo<=n)(h2:n<=hi):zt_ (stR W pl ak) (iN lo) (iN hi) (.tuple [])=.ret (iN n,stR W (pl+1) ak):=by
 unfold zt_
 rw[zaz_ h,bdR];dsimp only
 rw[Yd_ n hn,bdR,show Xw_ (iN n) .none=some false from rfl,oMS,bdR,if_neg (by decide),L4.leA,oMS,bdR,if_pos (by rw[zzi];lia),L4.leA,oMS,bdR,bdR,decide_eq_true (show(n:Int)<=(hi:Int) by lia),if_neg (by decide),show uA_ (iN n) (.tuple [])=some false from rfl,oMS,bdR,if_neg (by decide)]
 unfold jc_
 rw[Jn_,addZ,Ul_]
theorem zes_(d:D)(xs:List D):uA_ d (.tuple xs)=opIn d (.tuple xs):=rfl
theorem zet_(d:D)(xs:List D):uA_ d (.list xs)=opIn d (.list xs):=rfl
theorem zbr_(a:Nat)(B:List Nat):uA_ (iN a) (tupN B)=some (decide (a∈B)):=by
 rw[zes_]
 have hi:inOk (iN a) (B.map iN)=true:=by
  unfold inOk
  rw[Uz_]
  simp[PyData.canLay0,PyData.depth]
 rw[show opIn (iN a) (tupN B)=if inOk (iN a) (B.map iN)then some ((B.map iN).any λy=>PyData.eqv y (iN a))else none from rfl,if_pos hi]
 congr 1
 rw[Bool.eq_iff_iff,List.any_eq_true,zzi]
 constructor
 ·rintro⟨d,hd,e⟩
  obtain⟨b,hb,rfl⟩:=List.mem_map.mp hd
  have:(b:Int)=(a:Int):=by simpa[PyData.eqv]using e
  have:b=a:=by lia
  exact this▸hb
 ·intro h
  exact⟨iN a,List.mem_map.mpr ⟨a,h,rfl⟩,by simp[PyData.eqv]⟩
theorem zbi_(A:List Nat):uA_ .none (.list (A.map iN))=some false:=by
 rw[zet_]
 have hi:inOk .none (A.map iN)=true:=by
  unfold inOk
  rw[Uz_]
  simp[PyData.canLay0,PyData.depth]
 rw[show opIn .none (.list (A.map iN))=if inOk .none (A.map iN)then some ((A.map iN).any λy=>PyData.eqv y .none)else none from rfl,if_pos hi]
 congr 1
 rw[List.any_eq_false]
 intro d hd
 obtain⟨b,hb,rfl⟩:=List.mem_map.mp hd
 simp[PyData.eqv]
theorem Ve_{A:List Nat}(hne:A≠[])(h:∀a∈A,a<=9)(hl:A.length<=5):jR_ (.str (zu_ A))=.ret (tupN A):=by
 have e:zu_ A=Str.join (sg 44) (A.map numW):=by
  unfold zu_
  rw[if_neg (by simpa using hne)]
 rw[e]
 unfold jR_
 have ln:=ZU_ (c:=44) (B:=1) (ws:=A.map numW) λw hw=>by
  obtain⟨a,ha,rfl⟩:=List.mem_map.mp hw
  exact Nat.le_of_eq (uB_ (h a ha))
 rw[zzd]at ln
 rw[Qo_ (c:=44) (by decide +kernel) (by simpa using hne) (λw hw=>by
  obtain⟨a,ha,rfl⟩:=List.mem_map.mp hw
  exact Ye_ (h a ha) (by decide)) (by lia),bdR,bdR,show seqS (.list ((A.map numW).map PyData.str))=some ((A.map numW).map PyData.str)from rfl,oMS,bdR]
 have cm:zC_ (λd3=>bd (jK_ d3) λx4=>M.ret (some x4)) ((A.map numW).map PyData.str)=.ret (A.map iN):=by
  rw[List.map_map]
  exact y0_ (e:=PyData.str∘numW) (g:=iN) A λa ha=>by
   show bd (jK_ (.str (numW a))) _=_
   rw[Yd_ a (h a ha),bdR]
 rw[cm,bdR,z7_ (by rw[zzd];lia),bdR,bdR,zbi_,oMS,bdR,if_neg (by decide),tupL,oMS,bdR]
theorem VD_(i l h:Int):uG_ (.int i) (.int l) (.int h)=.ret (.bool (decide (l<=i)&&decide (i<=h))):=by
 unfold uG_ Zp_
 have t1:isTo "int" (.int i)=some true:=id rfl
 have t2:isTo "bool" (.int i)=some false:=id rfl
 simp only[t1,t2,if_true,bdR,oMS,L4.asB_b,L4.leA,Bool.not_false,L4.iteB,Bool.true_and]
theorem Qp_{s:Nat}:∀(A:List Nat) (a:Int),A.Pairwise (· < ·)->(∀x∈A,x<s)->(∀x∈A,a<(x:Int))->forC (S:=D) (λ(s11:D×D×Unit) d12 kn=>jQ_ s11.1 s11.2.1 d12 kn) (A.map iN) (iN s,.int a,()) (λs11=>ym_ s11.1 s11.2.1)=.ret (.bool true)
 | [],_,_,_,_=>rfl
 | x::A,a,hp,hl,ha=>by
  rw[List.map_cons,forC]
  show jQ_ (iN s) (.int a) (iN x) _=_
  unfold jQ_
  have h1:=ha x List.mem_cons_self
  have h2:=hl x List.mem_cons_self
  rw[L4.addI,oMS,bdR,show yh_ (iN s) (.int 1)=some (.int ((s:Int) - 1))from rfl,oMS,bdR,VD_,bdR,zbO_,oMS,bdR,bdR,decide_eq_true (show a+1<=(x:Int) by lia),decide_eq_true (show(x:Int)<=(s:Int) - 1 by lia),if_neg (by decide)]
  rw[List.pairwise_cons]at hp
  exact Qp_ A x hp.2 (λy hy=>hl y (zzg _ hy)) λy hy=>by have:=hp.1 y hy;lia
theorem Xe_{s:Nat}{A:List Nat}(h:Up s A):uH_ (iN s) (tupN A)=.ret (.bool true):=by
 unfold uH_
 rw[WC_,oMS,bdR,bdR,if_neg (by decide),show zbe_ (.int 1)=some (.int (-1))from rfl,oMS,bdR,show seqS (tupN A)=some (A.map iN)from rfl,oMS,bdR,Zk_]
 exact Qp_ A (-1) h.1 h.2.1 λx hx=>by lia
theorem zbw_{A:List Nat}(h:∀a∈A,a<=9):opEq (.str (zu_ A)) (.str "-")=some A.isEmpty:=by
 cases A with
 | nil=>kernel_rfl
 | cons a A =>
  have hne:zu_ (a::A)≠Str.ofString "-":=λz=>by
   have e:=congrArg (λx:Str=>x.cps.toList) z
   unfold zu_ at e
   rw[if_neg (by simp)]at e
   simp only[join_list]at e
   have hd:(jl 44 (((a::A).map numW).map λw=>w.cps.toList)).head? = some (48+a):=by
    rw[List.map_cons,List.map_cons,Jb_ a (h a List.mem_cons_self)]
    cases A with
    | nil=>rfl
    | cons b A=>rfl
   rw[e]at hd
   have:(Str.ofString "-").cps.toList.head? = some 45:=by decide +kernel
   rw[this]at hd
   injection hd with hd
   lia
  have ok:PyData.strOk (zu_ (a::A))=true:=by
   unfold zu_
   rw[if_neg (by simp)]
   exact y7_ (by decide +kernel) λt ht=>by
    obtain⟨n,_,rfl⟩:=List.mem_map.mp ht
    exact jd_ _
  have l1:(PyData.str (zu_ (a::A))).canLay0=true:=by simpa[PyData.canLay0]using ok
  have l2:(PyData.str (Str.ofString "-")).canLay0=true:=by decide +kernel
  unfold opEq eqOk
  rw[if_pos (by rw[l1,l2];simp[PyData.depth])]
  show some (zu_ (a::A)==Str.ofString "-")=some false
  rw[beq_eq_false_iff_ne.mpr hne]
theorem zdl_{A:List Nat}{k:Nat}(h:k<=A.length):YT_ (iN A.length) (iN k)=some false:=by
 show opLt (.int _) (.int _)=_
 rw[L4.ltI,decide_eq_false (by lia)]
theorem anyF(A:List Nat)(p:Nat->Bool)(h:∀a∈A,p a=false):fAny [.list (A.map λa=>.bool (p a))]=some false:=by
 have e:(A.map λa=>PyData.bool (p a))=(A.map p).map PyData.bool:=by rw[List.map_map];rfl
 rw[e,L4.anyB]
 congr 1
 rw[List.any_eq_false]
 intro b hb
 obtain⟨a,ha,rfl⟩:=List.mem_map.mp hb
 simp[h a ha]
theorem j8_{W:List Str}{pl ak s k:Nat}{A B:List Nat}(h:W[pl]? = some (zu_ A))(hA:Up s A)(hs:s<=5)(hk:k<=A.length)(hB:∀a∈A,a∉B):zr_ (stR W pl ak) (iN s) (iN k) (tupN B)=.ret (tupN A,stR W (pl+1) ak):=by
 obtain⟨n1,n2⟩:=hA.nine hs
 unfold zr_
 rw[zaz_ h,bdR];dsimp only
 rw[zbw_ n1,oMS,bdR]
 have e:(if A.isEmpty=true then(M.ret (PyData.tuple []):M D)else jR_ (.str (zu_ A)))=.ret (tupN A):=by
  cases A with
  | nil=>rfl
  | cons a A=>rw[if_neg (by simp),Ve_ (by simp) n1 n2]
 have cm:zC_ (λd7=>bd (bd (oM (uA_ d7 (tupN B))) λb8=>M.ret (.bool b8)) λx9=>.ret (some x9)) (A.map iN)=.ret (A.map λa=>.bool (decide (a∈B))):=by
  exact y0_ (e:=iN) (g:=λa=>.bool (decide (a∈B))) A λa ha=>by
   rw[zbr_,oMS,bdR,bdR]
 rw[e,bdR,Xe_ hA,bdR,zbO_,oMS,bdR,bdR,if_neg (by decide),lenT,zzd,oMS,bdR,show YT_ (.int (A.length:Int)) (iN k)=_ from zdl_ hk,oMS,bdR,if_neg (by decide),show seqS (tupN A)=some (A.map iN)from rfl,oMS,bdR,cm,bdR,z7_ (by rw[zzd];lia),bdR,bdR,anyF A (λa=>decide (a∈B)) (λa ha=>decide_eq_false (hB a ha)),oMS,bdR,if_neg (by decide)]
 unfold jm_
 rw[Jn_,addZ,Ul_]
theorem Xb_{self:List D->D->D->M (D×List D)}{W:List Str}{pl ak s wi:Nat}(ha:ak<7)(hw:wi<4):jJ_ self (stR W pl ak) (iN s) (iN wi)=z4_ self (stR W pl ak) (iN s) (iN wi):=by
 unfold jJ_
 rw[QE_,oMS,bdR,L4.eqI,oMS,bdR,if_neg (by simp;lia),L4.eqI,oMS,bdR,if_neg (by simp;lia)]
theorem jN_{W ws r:List Str}{pl:Nat}(h:W.drop pl=ws++r){i:Nat}{w:Str}(hw:ws[i]? = some w):W[pl+i]? = some w:=by
 have:=congrArg (λl:List Str=>l[i]?) h
 simp only[List.getElem?_drop]at this
 rw[this,List.getElem?_append_left (List.getElem?_eq_some_iff.mp hw).1]
 exact hw
theorem u8_{W ws r:List Str}{pl:Nat}(h:W.drop pl=ws++r):W.drop (pl+ws.length)=r:=by
 rw[<-List.drop_drop,h,List.drop_left]
theorem zaM_:jI_ [.int 1]=some [iN 0]:=id rfl
theorem VW_:jI_ [.int 2]=some [iN 0,iN 1]:=id rfl
theorem app1(l:List D)(d:D)(h:l.length<=10):mApp l [d]=some (l++[d]):=zdt_ _ _ (by lia)
section
variable {s:Nat}(hs:s<=5)
include hs
theorem zaB_:∀(i:Nat) (q:Qn) (W r:List Str) (pl ak wi:Nat),q.Wf s->W.drop pl=words q++r->ak+q.cnt<=7->wi+q.deep<4->q.deep<i ->
  zU_ i (stR W pl ak) (iN s) (iN wi)=.ret (q.d,stR W (pl+(words q).length) (ak+q.cnt)):=by
 intro i
 induction i with
 | zero=>intro q W r pl ak wi _ _ _ _ h;lia
 | succ i ih =>
  intro q W r pl ak wi h hW ha hw hi
  have c1:1<=q.cnt:=by cases q<;>simp[Qn.cnt]
  rw[zU_,Xb_ (by lia) (by lia)]
  unfold z4_
  rw[WW_,addZ,Xq_]
  cases q with
  | least A m =>
   have w0:W[pl]? = some "least":=jN_ hW (i:=0) (w := "least") rfl
   have w1:=jN_ hW (i:=1) (w:=zu_ A) rfl
   have w2:=jN_ hW (i:=2) (w:=numW m) rfl
   rw[y5_ w0 (by kernel_rfl),bdR];dsimp only
   rw[show zG_ (.str "least")=.ret (.int 0)from by kernel_rfl,bdR,L4.gtI,oMS,bdR,if_neg (by decide),show opEq (.str "least") (.str "more")=some false from by kernel_rfl,oMS,bdR,if_neg (by decide)]
   rw[show zr_ (stR W (pl+1) (ak+1)) (iN s) (.int 1) (.tuple [])=_ from j8_ (k:=1) (B:=[]) w1 h.1 hs (List.length_pos_iff.mpr h.2.1) (λa _=>by simp),bdR];dsimp only
   rw[show opEq (.str "least") (.str "least")=some true from by kernel_rfl,oMS,bdR,if_pos rfl]
   rw[show zt_ (stR W (pl+1+1) (ak+1)) (.int 1) (.int 9) (.tuple [])=_ from ut_ (lo:=1) (hi:=9) w2 h.2.2.2 h.2.2.1 h.2.2.2,bdR]
   rfl
  | more A B =>
   have w0:W[pl]? = some "more":=jN_ hW (i:=0) (w := "more") rfl
   have w1:=jN_ hW (i:=1) (w:=zu_ A) rfl
   have w2:=jN_ hW (i:=2) (w:=zu_ B) rfl
   rw[y5_ w0 (by kernel_rfl),bdR];dsimp only
   rw[show zG_ (.str "more")=.ret (.int 0)from by kernel_rfl,bdR,L4.gtI,oMS,bdR,if_neg (by decide),show opEq (.str "more") (.str "more")=some true from by kernel_rfl,oMS,bdR,if_pos rfl]
   rw[show zr_ (stR W (pl+1) (ak+1)) (iN s) (.int 0) (.tuple [])=_ from j8_ (k:=0) (B:=[]) w1 h.1 hs (Nat.zero_le _) (λa _=>by simp),bdR];dsimp only
   rw[show zr_ (stR W (pl+1+1) (ak+1)) (iN s) (.int 0) (tupN A)=_ from j8_ (k:=0) (B:=A) w2 h.2.1 hs (Nat.zero_le _) h.2.2,bdR]
   rfl
  | rest A b r' =>
   have w0:W[pl]? = some "rest":=jN_ hW (i:=0) (w := "rest") rfl
   have w1:=jN_ hW (i:=1) (w:=zu_ A) rfl
   have w2:=jN_ hW (i:=2) (w:=numW b) rfl
   have w3:=jN_ hW (i:=3) (w:=numW r') rfl
   have hb1:=h.2.2.1
   have hb2:=h.2.2.2.1
   have hr:=h.2.2.2.2
   rw[y5_ w0 (by kernel_rfl),bdR];dsimp only
   rw[show zG_ (.str "rest")=.ret (.int 0)from by kernel_rfl,bdR,L4.gtI,oMS,bdR,if_neg (by decide),show opEq (.str "rest") (.str "more")=some false from by kernel_rfl,oMS,bdR,if_neg (by decide)]
   rw[show zr_ (stR W (pl+1) (ak+1)) (iN s) (.int 1) (.tuple [])=_ from j8_ (k:=1) (B:=[]) w1 h.1 hs (List.length_pos_iff.mpr h.2.1) (λa _=>by simp),bdR];dsimp only
   rw[show opEq (.str "rest") (.str "least")=some false from by kernel_rfl,oMS,bdR,if_neg (by decide)]
   rw[show zt_ (stR W (pl+1+1) (ak+1)) (.int 2) (.int 9) (.tuple [])=_ from ut_ (lo:=2) (hi:=9) w2 hb2 hb1 hb2,bdR];dsimp only
   rw[L4.subI1 b (by lia),oMS,bdR]
   rw[show zt_ (stR W (pl+2+1) (ak+1)) (.int 0) (iN (b - 1)) (.tuple [])=_ from ut_ (lo:=0) (hi:=b - 1) w3 (by lia) (Nat.zero_le _) (by lia),bdR]
   rfl
  | neg q =>
   have w0:W[pl]? = some "not":=jN_ hW (i:=0) (w := "not") rfl
   have hW2:W.drop (pl+1)=words q++r:=u8_ (ws:=["not"]) hW
   simp only[Qn.cnt,Qn.deep]at ha hw hi
   have e:=ih q W r (pl+1) (ak+1) (wi+1) h hW2 (by lia) (by lia) (by lia)
   rw[y5_ w0 (by kernel_rfl),bdR];dsimp only
   rw[show zG_ (.str "not")=.ret (.int 1)from by kernel_rfl,bdR,L4.gtI,oMS,bdR,if_pos (by decide),zaM_,oMS,bdR,Zk_,forC]
   show zx_ _ (stR W (pl+1) (ak+1)) (iN s) (iN wi) [.str "not"] (iN 0) _=_
   unfold zx_
   rw[show z1_ (iN wi) (.int 1)=some (iN (wi+1))from addN wi 1,oMS,bdR,e,bdR];dsimp only
   rw[app1 _ _ (by simp),oMS,bdR,forC]
   show zy_ _ _ _ _ _=_
   unfold zy_
   rw[tupL,oMS,bdR]
   simp only[words,Qn.cnt,List.length_cons]
   rw[show pl+1+(words q).length=pl+((words q).length+1) by lia,show ak+1+q.cnt=ak+(q.cnt+1) by lia]
   rfl
  | both q p =>
   have w0:W[pl]? = some "both":=jN_ hW (i:=0) (w := "both") rfl
   have hW2:W.drop (pl+1)=words q++(words p++r):=by
    have:=u8_ (ws:=["both"]) (r:=words q++words p++r) hW
    rw[List.append_assoc]at this
    exact this
   have hW3:=u8_ hW2
   simp only[Qn.cnt,Qn.deep]at ha hw hi
   have e:=ih q W (words p++r) (pl+1) (ak+1) (wi+1) h.1 hW2 (by lia) (by lia) (by lia)
   have e2:=ih p W r (pl+1+(words q).length) (ak+1+q.cnt) (wi+1) h.2 hW3 (by lia) (by lia) (by lia)
   rw[y5_ w0 (by kernel_rfl),bdR];dsimp only
   rw[show zG_ (.str "both")=.ret (.int 2)from by kernel_rfl,bdR,L4.gtI,oMS,bdR,if_pos (by decide),VW_,oMS,bdR,Zk_,forC]
   show zx_ _ (stR W (pl+1) (ak+1)) (iN s) (iN wi) [.str "both"] (iN 0) _=_
   unfold zx_
   rw[show z1_ (iN wi) (.int 1)=some (iN (wi+1))from addN wi 1,oMS,bdR,e,bdR];dsimp only
   rw[app1 _ _ (by simp),oMS,bdR,forC];dsimp only
   rw[show z1_ (iN wi) (.int 1)=some (iN (wi+1))from addN wi 1,oMS,bdR,e2,bdR];dsimp only
   rw[app1 _ _ (by simp),oMS,bdR,forC]
   show zy_ _ _ _ _ _=_
   unfold zy_
   rw[tupL,oMS,bdR]
   simp only[words,Qn.cnt,List.length_cons,List.length_append]
   rw[show pl+1+(words q).length+(words p).length=pl+((words q).length+(words p).length+1) by lia,show ak+1+q.cnt+p.cnt=ak+(q.cnt+p.cnt+1) by lia]
   rfl
  | either q p =>
   have w0:W[pl]? = some "either":=jN_ hW (i:=0) (w := "either") rfl
   have hW2:W.drop (pl+1)=words q++(words p++r):=by
    have:=u8_ (ws:=["either"]) (r:=words q++words p++r) hW
    rw[List.append_assoc]at this
    exact this
   have hW3:=u8_ hW2
   simp only[Qn.cnt,Qn.deep]at ha hw hi
   have e:=ih q W (words p++r) (pl+1) (ak+1) (wi+1) h.1 hW2 (by lia) (by lia) (by lia)
   have e2:=ih p W r (pl+1+(words q).length) (ak+1+q.cnt) (wi+1) h.2 hW3 (by lia) (by lia) (by lia)
   rw[y5_ w0 (by kernel_rfl),bdR];dsimp only
   rw[show zG_ (.str "either")=.ret (.int 2)from by kernel_rfl,bdR,L4.gtI,oMS,bdR,if_pos (by decide),VW_,oMS,bdR,Zk_,forC]
   show zx_ _ (stR W (pl+1) (ak+1)) (iN s) (iN wi) [.str "either"] (iN 0) _=_
   unfold zx_
   rw[show z1_ (iN wi) (.int 1)=some (iN (wi+1))from addN wi 1,oMS,bdR,e,bdR];dsimp only
   rw[app1 _ _ (by simp),oMS,bdR,forC];dsimp only
   rw[show z1_ (iN wi) (.int 1)=some (iN (wi+1))from addN wi 1,oMS,bdR,e2,bdR];dsimp only
   rw[app1 _ _ (by simp),oMS,bdR,forC]
   show zy_ _ _ _ _ _=_
   unfold zy_
   rw[tupL,oMS,bdR]
   simp only[words,Qn.cnt,List.length_cons,List.length_append]
   rw[show pl+1+(words q).length+(words p).length=pl+((words q).length+(words p).length+1) by lia,show ak+1+q.cnt+p.cnt=ak+(q.cnt+p.cnt+1) by lia]
   rfl
theorem zaL_{q:Qn}(h:q.Wf s)(hc:q.cnt<=7)(hd:q.deep<=3):jB_ (iN s) (.str (text q))=.ret q.d:=by
 have tl:=text_len hs h
 unfold jB_
 rw[show jg_ [] (.int 0) (.str (text q))=_ from zbq_ (Ua_ q) (W6_ hs h) (show(text q).length<=5000 by lia)]
 show bd (zU_ 6 (stR (words q) 0 0) (iN s) (iN 0)) _=_
 rw[zaB_ hs 6 q (words q) [] 0 0 0 h (by simp) (by lia) (by lia) (by lia),bdR];dsimp only
 unfold u9_
 rw[JY_,bdR];dsimp only
 rw[L4.asB_b,bdR,decide_eq_false (by lia),if_neg (by decide),bdR]
end
theorem VF_{k:Nat}{A:List Nat}(h:A.Sublist (List.range k)):Up k A:=⟨List.Pairwise.sublist h List.pairwise_lt_range,λa ha=>List.mem_range.mp (h.subset ha),by have:=h.length_le;rwa [List.length_range]at this⟩
theorem Yv_{T:Type}{step:T->D->M (Option D×T)}{P:Nat->T->Prop}:∀(ds:List D) (i:Nat) (s:T),
  (∀(j:Nat) (s:T) (d:D),d∈ds->i<=j->j<i+ds.length->P j s->∃o s',step s d=.ret (o,s')/\P (j+1) s'/\(o=some d\/o=none))->P i s ->
  ∃xs s',uD_ step ds s=.ret (xs,s')/\P (i+ds.length) s'/\xs.Sublist ds
 | [],i,s,_,hp=>⟨[],s,rfl,hp,.slnil⟩
 | d::r,i,s,h,hp=>by
  obtain⟨o,s1,e1,p1,r1⟩:=h i s d List.mem_cons_self (Nat.le_refl _) (by simp) hp
  obtain⟨xs,s2,e2,p2,l2⟩:=Yv_ r (i+1) s1 (λj s d hd hj hl=>h j s d (zzg _ hd) (by lia) (by simp;lia)) p1
  have hi:i+(d::r).length=i+1+r.length:=by simp;lia
  rw[hi]
  rcases r1 with rfl|rfl
  ·exact⟨d::xs,s2,by rw[uD_,e1];simp only[uX_,y3_];rw[e2];rfl,p2,l2.cons_cons _⟩
  ·exact⟨xs,s2,by rw[uD_,e1];simp only[uX_,y3_];rw[e2];rfl,p2,l2.cons _⟩
theorem zaD_{xs:List D}{l:List Nat}(h:xs.Sublist (l.map iN)):∃s:List Nat,s.Sublist l/\xs=s.map iN:=by
 obtain⟨l',h1,h2⟩:=List.sublist_map_iff.mp h
 exact⟨l',h1,h2⟩
theorem VL_{T k:Nat}{f:List D}(hf:Fd T f)(hT:T<=900000)(hk1:1<=k)(hk:k<=4):∃(s:List Nat) (f':List D),j7_ f (iN k) (.int 1)=.ret (tupN s,f')/\Up k s/\s≠[]/\Fd (T+5) f':=by
 unfold j7_
 rw[Uj_ _ (by lia),oMS,bdR]
 obtain⟨xs,s1,c1,⟨f1,hs1,hf1⟩,hsub⟩:=Yv_ (P:=λj (s:List D×D×D×Unit)=>∃f,s=(f,iN k,PyData.int 1,())/\Fd (T+j) f)
  (step:=λs2 d3=>bd (zj_ s2.1 (.int 2)) λr4=>bd (oM (opEq r4.1 (.int 0))) λb5=>if b5 then .ret (some d3,(r4.2,s2.2.1,s2.2.2.1,()))else .ret (none,(r4.2,s2.2.1,s2.2.2.1,()))) ((List.range k).map iN) 0 (f,iN k,PyData.int 1,())
  (by
   rintro j s d hd _ hj ⟨f,rfl,hf⟩
   rw[zzd,List.length_range]at hj
   obtain⟨r,f',e,hr,hf'⟩:=j3_ (m:=2) hf (by lia) (by lia) (by lia)
   have e:zj_ f (.int 2)=.ret (iN r,f'):=e
   have ez:opEq (iN r) (.int 0)=some (decide (r=0)):=eqN r 0
   dsimp only
   rw[e,bdR,ez,oMS,bdR]
   by_cases h:r=0
   ·rw[if_pos (by simp[h])];exact⟨_,_,rfl,⟨f',rfl,hf'⟩,.inl rfl⟩
   ·rw[if_neg (by simp[h])];exact⟨_,_,rfl,⟨f',rfl,hf'⟩,.inr rfl⟩) ⟨f,rfl,hf⟩
 subst hs1
 rw[zzd,List.length_range]at hf1
 obtain⟨s,hs,rfl⟩:=zaD_ hsub
 have hl:=hs.length_le
 rw[List.length_range]at hl
 rw[c1,bdR];dsimp only
 rw[z7_ (by rw[zzd];lia),bdR,L4.lenL,oMS,bdR,geI,oMS,bdR]
 by_cases h:(1:Int)<=((s.map iN).length:Nat)
 ·rw[if_pos (by simpa using h),tupL,oMS,bdR]
  exact⟨s,f1,rfl,VF_ hs,λz=>by rw[z]at h;simp at h,hf1.le (by lia)⟩
 ·rw[if_neg (by simpa using h)]
  obtain⟨r,f',e,hr,hf'⟩:=j3_ (m:=k) hf1 (by lia) (by lia) (by lia)
  rw[e,bdR]
  exact⟨[r],f',rfl,⟨List.pairwise_singleton _ _,by simpa using hr,by simpa using hk1⟩,by simp,hf'.le (by lia)⟩
theorem Xr_{T k:Nat}{f:List D}(hf:Fd T f)(hT:T<=850000)(hk1:1<=k)(hk:k<=4):∃(q:Qn) (f':List D),ub_ f (iN k)=.ret (q.d,f')/\q.Wf k/\q.deep=0/\q.cnt=1/\Fd (T+20) f':=by
 unfold ub_
 obtain⟨w,f1,e,hw,hf1⟩:=j3_ (m:=3) hf (by lia) (by lia) (by lia)
 have e:zj_ f (.int 3)=.ret (iN w,f1):=e
 have e0:opEq (iN w) (.int 0)=some (decide (w=0)):=eqN w 0
 have e1:opEq (iN w) (.int 1)=some (decide (w=1)):=eqN w 1
 rw[e,bdR,e0,oMS,bdR]
 by_cases h0:w=0
 ·rw[if_pos (by simp[h0])]
  obtain⟨s,f2,es,us,ns,hf2⟩:=VL_ hf1 (by lia) hk1 hk
  obtain⟨x,f3,ex,hx,hf3⟩:=zac_ (m:=[(.int 3),(.int 9)]) (by decide) (by decide) hf2 (by lia)
  have hx':∃m:Nat,x=iN m/\1<=m/\m<=9:=by
   simp only[List.mem_cons,List.mem_nil_iff,or_false]at hx
   rcases hx with rfl|rfl
   ·exact⟨3,rfl,by lia,by lia⟩
   ·exact⟨9,rfl,by lia,by lia⟩
  obtain⟨m,rfl,m1,m2⟩:=hx'
  obtain⟨r,f4,er,hr,hf4⟩:=j3_ (m:=m) hf3 (by lia) (by lia) (by lia)
  have ea:z1_ (.int 1) (iN r)=some (iN (1+r)):=addN 1 r
  rw[es,bdR,ex,bdR,er,bdR,ea,oMS,bdR]
  exact⟨.least s (1+r),f4,rfl,⟨us,ns,by lia,by lia⟩,rfl,rfl,hf4.le (by lia)⟩
 ·rw[if_neg (by simp[h0]),e1,oMS,bdR]
  by_cases h1:w=1
  ·rw[if_pos (by simp[h1]),Uj_ _ (by lia),oMS,bdR]
   obtain⟨xs,s1,c1,⟨f2,hs1,hf2⟩,l1,r1⟩:=XP_ (P:=λj (s:List D×D×Unit)=>∃f,s=(f,iN k,())/\Fd (T+1+j) f) (e:=iN) (R:=λx=>x<3)
    (step:=λs9 d10=>bd (zj_ s9.1 (.int 3)) λr11=>.ret (some r11.1,(r11.2,s9.2.1,()))) ((List.range k).map iN) (f1,iN k,())
    (by
     rintro j s d hd ⟨f,rfl,hf⟩
     have hj:j<k:=by
      have:=(List.getElem?_eq_some_iff.mp hd).1
      rw[zzd,List.length_range]at this;exact this
     obtain⟨x,f',e,hx,hf'⟩:=j3_ (m:=3) hf (by lia) (by lia) (by lia)
     have e:zj_ f (.int 3)=.ret (iN x,f'):=e
     dsimp only
     rw[e,bdR]
     exact⟨x,_,rfl,⟨f',rfl,hf'⟩,hx⟩) ⟨f1,rfl,hf1⟩
   subst hs1
   rw[zzd,List.length_range]at hf2 l1
   rw[c1,bdR];dsimp only
   have cc:∀v:Nat,zC_ (λd14=>bd (bd (oM (zH_ (PyData.list (xs.map iN)) d14)) λx15=>oM (opEq x15 (.int (v:Int)))) λb16=>if b16 then .ret (some d14)else .ret none) ((List.range k).map iN)=.ret (((List.range k).filter λx=>decide (xs.getD x 0=v)).map iN):=λv=>by
    rw[QP_ (e:=iN) (g:=λx=>if decide (xs.getD x 0=v)=true then some (iN x)else none) (List.range k) (λi hi=>by
     have hi:=List.mem_range.mp hi
     have ei:zH_ (.list (xs.map iN)) (iN i)=some (iN (xs.getD i 0)):=by
      show opIx (.list (xs.map iN)) (.int (i:Int))=_
      have:=UG_ (xs.map iN) i (by rw[zzd];lia)
      refine this.trans ?_
      rw[List.getElem_map]
      congr 2
      simp[List.getD,l1▸hi]
     have e2:opEq (iN (xs.getD i 0)) (.int (v:Int))=some (decide (xs.getD i 0=v)):=eqN _ v
     rw[ei,oMS,bdR,e2,oMS,bdR]
     by_cases h:xs.getD i 0=v
     ·rw[if_pos (by rw[decide_eq_true h]),if_pos (by rw[decide_eq_true h])]
     ·rw[if_neg (by rw[decide_eq_false h];decide),if_neg (by rw[decide_eq_false h];decide)]),yX_]
   have lf:∀v:Nat,(((List.range k).filter λx=>decide (xs.getD x 0=v)).map iN).length<=1000:=λv=>by
    have:=List.length_filter_le (λx=>decide (xs.getD x 0=v)) (List.range k)
    rw[List.length_range]at this
    rw[zzd];lia
   rw[z7_ (by rw[zzd];lia),bdR,Uj_ _ (by lia),oMS,bdR,show PyData.int 0=.int ((0:Nat):Int)from rfl,cc 0,bdR,z7_ (lf 0),bdR,bdR,tupL,oMS,bdR,bdR,show PyData.int 1=.int ((1:Nat):Int)from rfl,cc 1,bdR,z7_ (lf 1),bdR,bdR,tupL,oMS,bdR,bdR]
   refine⟨.more ((List.range k).filter λx=>decide (xs.getD x 0=0)) ((List.range k).filter λx=>decide (xs.getD x 0=1)),f2,rfl,⟨VF_ List.filter_sublist,VF_ List.filter_sublist,?_⟩,rfl,rfl,hf2.le (by lia)⟩
   intro x hx hx2
   have a:=(List.mem_filter.mp hx).2
   have b:=(List.mem_filter.mp hx2).2
   rw[zzi]at a b
   lia
  ·rw[if_neg (by simp[h1])]
   obtain⟨x,f3,ex,hx,hf3⟩:=zac_ (m:=[(.int 2),(.int 8)]) (by decide) (by decide) hf1 (by lia)
   have hx':∃m:Nat,x=iN m/\1<=m/\m<=8:=by
    simp only[List.mem_cons,List.mem_nil_iff,or_false]at hx
    rcases hx with rfl|rfl
    ·exact⟨2,rfl,by lia,by lia⟩
    ·exact⟨8,rfl,by lia,by lia⟩
   obtain⟨m,rfl,m1,m2⟩:=hx'
   obtain⟨r,f4,er,hr,hf4⟩:=j3_ (m:=m) hf3 (by lia) (by lia) (by lia)
   have ea:z1_ (.int 2) (iN r)=some (iN (2+r)):=addN 2 r
   obtain⟨s,f5,es,us,ns,hf5⟩:=VL_ hf4 (by lia) hk1 hk
   obtain⟨y,f6,ey,hy,hf6⟩:=j3_ (m:=2+r) hf5 (by lia) (by lia) (by lia)
   rw[ex,bdR,er,bdR,ea,oMS,bdR,es,bdR,ey,bdR]
   exact⟨.rest s (2+r) y,f6,rfl,⟨us,ns,by lia,by lia,hy⟩,rfl,rfl,hf6.le (by lia)⟩
theorem uz_{k:Nat}(hk1:1<=k)(hk:k<=4):∀(i:Nat) {T size deep:Nat} {f:List D},Fd T f->T+40*size<=800000->1<=size->1<=deep->deep<=i ->
  ∃(q:Qn) (f':List D),zV_ i f (iN k) (iN size) (iN deep)=.ret (q.d,f')/\q.Wf k/\q.deep<deep/\q.cnt<=size/\Fd (T+40*size) f'
 | 0,_,_,_,_,_,_,_,_,_=>by lia
 | i+1,T,size,deep,f,hf,hT,hs,hd1,hd=>by
  show ∃(q:Qn) (f':List D),jL_ (zV_ i) f (iN k) (iN size) (iN deep)=_/\_
  unfold jL_
  obtain⟨w,f1,e,hw,hf1⟩:=j3_ (m:=4) hf (by lia) (by lia) (by lia)
  have e:zj_ f (.int 4)=.ret (iN w,f1):=e
  have es1:opEq (iN size) (.int 1)=some (decide (size=1)):=eqN size 1
  have es2:opEq (iN size) (.int 2)=some (decide (size=2)):=eqN size 2
  have ed1:opEq (iN deep) (.int 1)=some (decide (deep=1)):=eqN deep 1
  have ew0:opEq (iN w) (.int 0)=some (decide (w=0)):=eqN w 0
  have ew1:opEq (iN w) (.int 1)=some (decide (w=1)):=eqN w 1
  rw[e,bdR,es1,oMS,bdR,ed1,oMS,bdR,ew0,oMS,iteO,iteO,bdR]
  by_cases h0:size=1\/deep=1\/w=0
  ·rw[if_pos (by simpa using h0)]
   obtain⟨q,f2,eq,ok,dp,rm,hf2⟩:=Xr_ hf1 (by lia) hk1 hk
   rw[eq,bdR]
   exact⟨q,f2,rfl,ok,by lia,by lia,hf2.le (by lia)⟩
  ·rw[if_neg (by simpa using h0),ew1,oMS,bdR,es2,oMS,iteO,bdR]
   have sz1:yh_ (iN size) (.int 1)=some (iN (size - 1)):=subI1 size (by lia)
   have dp1:yh_ (iN deep) (.int 1)=some (iN (deep - 1)):=subI1 deep (by lia)
   by_cases h1:w=1\/size=2
   ·rw[if_pos (by simpa using h1),sz1,oMS,bdR,dp1,oMS,bdR]
    obtain⟨q,f2,eq,ok,dp,rm,hf2⟩:=uz_ hk1 hk i (size:=size - 1) (deep:=deep - 1) hf1 (by lia) (by lia) (by lia) (by lia)
    rw[eq,bdR]
    exact⟨q.neg,f2,rfl,ok,by simp only[Qn.deep];lia,by simp only[Qn.cnt];lia,hf2.le (by lia)⟩
   ·rw[if_neg (by simpa using h1)]
    have sz2:yh_ (iN size) (.int 2)=some (iN (size - 2)):=subN size 2 (by lia)
    obtain⟨r,f2,er,hr,hf2⟩:=j3_ (m:=size - 2) hf1 (by lia) (by lia) (by lia)
    have ea:z1_ (.int 1) (iN r)=some (iN (1+r)):=addN 1 r
    obtain⟨q,f3,eq,ok,dp,rm,hf3⟩:=uz_ hk1 hk i (size:=1+r) (deep:=deep - 1) hf2 (by lia) (by lia) (by lia) (by lia)
    have em:yx_ (iN w) (.int 2)=some (iN (w % 2)):=modN w 2 (by lia)
    obtain⟨q2,f4,eq2,ok2,dp2,rm2,hf4⟩:=uz_ hk1 hk i (size:=size - 1 - (1+r)) (deep:=deep - 1) hf3 (by lia) (by lia) (by lia) (by lia)
    rcases Nat.mod_two_eq_zero_or_one w with h|h
    ·rw[h]at em
     rw[sz2,oMS,bdR,er,bdR,ea,oMS,bdR,dp1,oMS,bdR,eq,bdR,em,oMS,bdR,show zH_ (.list [.str "both",.str "either"]) (iN 0)=some (.str "both")from rfl,oMS,bdR,sz1,oMS,bdR,subN _ _ (by lia),oMS,bdR,bdR,eq2,bdR]
     exact⟨.both q q2,f4,rfl,⟨ok,ok2⟩,by simp only[Qn.deep];lia,by simp only[Qn.cnt];lia,hf4.le (by lia)⟩
    ·rw[h]at em
     rw[sz2,oMS,bdR,er,bdR,ea,oMS,bdR,dp1,oMS,bdR,eq,bdR,em,oMS,bdR,show zH_ (.list [.str "both",.str "either"]) (iN 1)=some (.str "either")from rfl,oMS,bdR,sz1,oMS,bdR,subN _ _ (by lia),oMS,bdR,bdR,eq2,bdR]
     exact⟨.either q q2,f4,rfl,⟨ok,ok2⟩,by simp only[Qn.deep];lia,by simp only[Qn.cnt];lia,hf4.le (by lia)⟩
abbrev Asc(x:Str):Prop:=∀c∈x.cps.toList,c<127
theorem Qu_(x:Str):reprQuote x=39\/reprQuote x=34:=by
 unfold reprQuote
 split
 ·exact .inr rfl
 ·exact .inl rfl
theorem zbz_:∀c,c<127->((Builtin.Str.reprChar 39 c).all λd=>decide (d<1114112))=true/\((Builtin.Str.reprChar 34 c).all λd=>decide (d<1114112))=true:=by decide +kernel
theorem Q8_{x:Str}(h:Asc x):PyData.strOk (reprText x)=true:=by
 have hq:reprQuote x<1114112:=by rcases Qu_ x with e|e<;>rw[e]<;>decide
 have hc:∀c∈x.cps.toList,∀d∈Builtin.Str.reprChar (reprQuote x) c,d<1114112:=λc hcx d hd=>by
  have:=zbz_ c (h c hcx)
  rcases Qu_ x with e|e<;>rw[e]at hd
  ·have:=List.all_eq_true.mp this.1 d hd
   simpa using this
  ·have:=List.all_eq_true.mp this.2 d hd
   simpa using this
 have go:∀(l:List Nat) (acc:Array Nat),(∀c∈l,∀d∈Builtin.Str.reprChar (reprQuote x) c,d<1114112)->(∀d∈acc.toList,d<1114112)->∀d∈(l.foldl (λout c=>out++(Builtin.Str.reprChar (reprQuote x) c).toArray) acc).toList,d<1114112:=by
  intro l
  induction l with
  | nil=>intro acc _ ha d hd;exact ha d hd
  | cons c l ih =>
   intro acc hl ha
   rw[List.foldl_cons]
   refine ih _ (λc hc=>hl c (zzg _ hc)) λd hd=>?_
   rw[Array.toList_append]at hd
   rcases List.mem_append.mp hd with hd|hd
   ·exact ha d hd
   ·exact hl c List.mem_cons_self d (by simpa using hd)
 unfold PyData.strOk reprText
 rw[Array.all_eq_true_iff_forall_mem]
 intro d hd
 rw[Array.mem_push]at hd
 rcases hd with hd|rfl
 ·have:=go x.cps.toList #[reprQuote x] hc (λd hd=>by
   have:d=reprQuote x:=by simpa using hd
   rw[this];exact hq) d (by rw[Array.foldl_toList];exact Array.mem_toList_iff.mpr hd)
  simpa using this
 ·simpa using hq
theorem W0_{x:Str}(h:Asc x):PyData.strOk x=true:=by
 unfold PyData.strOk
 rw[Array.all_eq_true_iff_forall_mem]
 intro d hd
 have:=h d (Array.mem_toList_iff.mpr hd)
 simp;lia
theorem Xk_{x:Str}(h:Asc x)(hl:x.length<=5000):Yt_ [.str x]=some (.str (reprText x))/\opNe (.str (reprText x)) (.str (reprText x))=some false:=by
 have l1:=StrLaws.reprText_len x λc hc=>Nat.lt_trans (h c hc) (by decide)
 have sz:(1000000:Nat)<=sizeLine:=by decide
 constructor
 ·show(if Z4_ (.str x)then some (PyData.str (PyData.str x).shown)else none)=_
  rw[if_pos]
  ·rfl
  ·unfold Z4_
   have c1:(PyData.str x).canLay0=true:=by simpa[PyData.canLay0]using W0_ h
   rw[c1,PyData.shown_str]
   simp only[PyData.showable,PyData.depth,Bool.true_and,Bool.and_eq_true,zzi]
   exact⟨decide_eq_true (Nat.zero_le _),by lia⟩
 ·have c1:(PyData.str (reprText x)).canLay0=true:=by simpa[PyData.canLay0]using Q8_ h
  unfold opNe eqOk
  rw[if_pos (by rw[c1];simp[PyData.depth])]
  simp[PyData.eqv]
theorem Wy_{e:Nat}(he:e<127):∀{L:List (List Nat)},(∀a∈L,∀c∈a,c<127)->∀c∈jl e L,c<127
 | [],_,c,h=>by simp[jl]at h
 | [a],h,c,hc=>h a List.mem_cons_self c hc
 | a::b::r,h,c,hc=>by
  have hc:c∈a++e::jl e (b::r):=hc
  rcases List.mem_append.mp hc with hc|hc
  ·exact h a List.mem_cons_self c hc
  ·rcases List.mem_cons.mp hc with rfl|hc
   ·exact he
   ·exact Wy_ he (L:=b::r) (λx hx=>h x (zzg _ hx)) c hc
theorem Uu_{n:Nat}(h:n<=9):Asc (numW n):=by
 intro c hc
 rw[Jb_ n h]at hc
 have:c=48+n:=by simpa using hc
 lia
theorem yH_{A:List Nat}(h:∀a∈A,a<=9):Asc (zu_ A):=by
 intro c hc
 unfold zu_ at hc
 split at hc
 ·have:(Str.ofString "-").cps.toList.all (λd=>decide (d<127))=true:=by decide +kernel
  simpa using List.all_eq_true.mp this c hc
 ·rw[join_list]at hc
  refine Wy_ (by decide) (λa ha=>?_) c hc
  obtain⟨w,hw,rfl⟩:=List.mem_map.mp ha
  obtain⟨n,hn,rfl⟩:=List.mem_map.mp hw
  exact Uu_ (h n hn)
theorem Zj_{x:Str}(h:x.cps.toList.all (λd=>decide (d<127))=true):Asc x:=λc hc=>by simpa using List.all_eq_true.mp h c hc
theorem VC_{s:Nat}(hs:s<=5):∀{q:Qn},q.Wf s->∀w∈words q,Asc w:=by
 intro q
 induction q with
 | least A m =>
  intro h w hw
  simp only[words,List.mem_cons,List.mem_nil_iff,or_false]at hw
  rcases hw with rfl|rfl|rfl
  ·exact Zj_ (by decide +kernel)
  ·exact yH_ (h.1.nine hs).1
  ·exact Uu_ h.2.2.2
 | more A B =>
  intro h w hw
  simp only[words,List.mem_cons,List.mem_nil_iff,or_false]at hw
  rcases hw with rfl|rfl|rfl
  ·exact Zj_ (by decide +kernel)
  ·exact yH_ (h.1.nine hs).1
  ·exact yH_ (h.2.1.nine hs).1
 | rest A b r =>
  intro h w hw
  have hr:r<=9:=by have:=h.2.2.2.1;have:=h.2.2.2.2;lia
  simp only[words,List.mem_cons,List.mem_nil_iff,or_false]at hw
  rcases hw with rfl|rfl|rfl|rfl
  ·exact Zj_ (by decide +kernel)
  ·exact yH_ (h.1.nine hs).1
  ·exact Uu_ h.2.2.2.1
  ·exact Uu_ hr
 | neg q ih =>
  intro h w hw
  rcases List.mem_cons.mp hw with rfl|hw
  ·exact Zj_ (by decide +kernel)
  ·exact ih h w hw
 | both q p ih1 ih2 =>
  intro h w hw
  rcases List.mem_cons.mp hw with rfl|hw
  ·exact Zj_ (by decide +kernel)
  ·rcases List.mem_append.mp hw with hw|hw
   ·exact ih1 h.1 w hw
   ·exact ih2 h.2 w hw
 | either q p ih1 ih2 =>
  intro h w hw
  rcases List.mem_cons.mp hw with rfl|hw
  ·exact Zj_ (by decide +kernel)
  ·rcases List.mem_append.mp hw with hw|hw
   ·exact ih1 h.1 w hw
   ·exact ih2 h.2 w hw
theorem Xa_{s:Nat}(hs:s<=5){q:Qn}(h:q.Wf s):Asc (text q):=by
 intro c hc
 unfold text at hc
 rw[join_list]at hc
 refine Wy_ (by decide) (λa ha=>?_) c hc
 obtain⟨w,hw,rfl⟩:=List.mem_map.mp ha
 exact VC_ hs h w hw
theorem zaP_{s:Nat}(hs:s<=5):∀{q:Qn},q.Wf s->Sm q.d/\sz q.d<=20*q.cnt/\q.d.depth<=3+q.deep:=by
 have tn:∀A:List Nat,Up s A->Sm (tupN A)/\sz (tupN A)<=6/\(tupN A).depth<=2:=λA hA=>by
  obtain⟨n1,n2⟩:=hA.nine hs
  refine⟨zaF_ λa ha=>Nat.le_trans (n1 a ha) (by decide),?_,jl_ (n:=1) λd hd=>by obtain⟨i,_,rfl⟩:=List.mem_map.mp hd;simp[PyData.depth]⟩
  show 1+szs (A.map iN)<=6
  rw[VK_ (B:=1) (λi=>by simp[sz])]
  lia
 intro q
 induction q with
 | least A m =>
  intro h
  obtain⟨a1,a2,a3⟩:=tn A h.1
  have hm:=h.2.2.2
  refine⟨by simp only[Qn.d,Sm,Sms];exact⟨by decide +kernel,a1,Qq_ (by lia),trivial⟩,by simp only[Qn.d,sz,szs,Qn.cnt]at a2 ⊢;lia,?_⟩
  exact jl_ (n:=2) λd hd=>by
   simp only[List.mem_cons,List.mem_nil_iff,or_false]at hd
   rcases hd with rfl|rfl|rfl
   ·simp[PyData.depth]
   ·exact a3
   ·simp[PyData.depth]
 | more A B =>
  intro h
  obtain⟨a1,a2,a3⟩:=tn A h.1
  obtain⟨b1,b2,b3⟩:=tn B h.2.1
  refine⟨by simp only[Qn.d,Sm,Sms];exact⟨by decide +kernel,a1,b1,trivial⟩,by simp only[Qn.d,sz,szs,Qn.cnt]at a2 b2 ⊢;lia,?_⟩
  exact jl_ (n:=2) λd hd=>by
   simp only[List.mem_cons,List.mem_nil_iff,or_false]at hd
   rcases hd with rfl|rfl|rfl
   ·simp[PyData.depth]
   ·exact a3
   ·exact b3
 | rest A b r =>
  intro h
  obtain⟨a1,a2,a3⟩:=tn A h.1
  have hb:=h.2.2.2.1
  have hr:=h.2.2.2.2
  refine⟨by simp only[Qn.d,Sm,Sms];exact⟨by decide +kernel,a1,Qq_ (by lia),Qq_ (by lia),trivial⟩,by simp only[Qn.d,sz,szs,Qn.cnt]at a2 ⊢;lia,?_⟩
  exact jl_ (n:=2) λd hd=>by
   simp only[List.mem_cons,List.mem_nil_iff,or_false]at hd
   rcases hd with rfl|rfl|rfl|rfl
   ·simp[PyData.depth]
   ·exact a3
   ·simp[PyData.depth]
   ·simp[PyData.depth]
 | neg q ih =>
  intro h
  obtain⟨a1,a2,a3⟩:=ih h
  refine⟨by simp only[Qn.d,Sm,Sms];exact⟨by decide +kernel,a1,trivial⟩,by simp only[Qn.d,sz,szs,Qn.cnt];lia,?_⟩
  have:=jl_ (ds:=[.str "not",q.d]) (n:=3+q.deep) λd hd=>by
   simp only[List.mem_cons,List.mem_nil_iff,or_false]at hd
   rcases hd with rfl|rfl
   ·simp[PyData.depth]
   ·exact a3
  exact Nat.le_trans this (by simp only[Qn.deep];lia)
 | both q p ih1 ih2 =>
  intro h
  obtain⟨a1,a2,a3⟩:=ih1 h.1
  obtain⟨b1,b2,b3⟩:=ih2 h.2
  refine⟨by simp only[Qn.d,Sm,Sms];exact⟨by decide +kernel,a1,b1,trivial⟩,by simp only[Qn.d,sz,szs,Qn.cnt];lia,?_⟩
  have:=jl_ (ds:=[.str "both",q.d,p.d]) (n:=3+max q.deep p.deep) λd hd=>by
   simp only[List.mem_cons,List.mem_nil_iff,or_false]at hd
   rcases hd with rfl|rfl|rfl
   ·simp[PyData.depth]
   ·lia
   ·lia
  exact Nat.le_trans this (by simp only[Qn.deep];lia)
 | either q p ih1 ih2 =>
  intro h
  obtain⟨a1,a2,a3⟩:=ih1 h.1
  obtain⟨b1,b2,b3⟩:=ih2 h.2
  refine⟨by simp only[Qn.d,Sm,Sms];exact⟨by decide +kernel,a1,b1,trivial⟩,by simp only[Qn.d,sz,szs,Qn.cnt];lia,?_⟩
  have:=jl_ (ds:=[.str "either",q.d,p.d]) (n:=3+max q.deep p.deep) λd hd=>by
   simp only[List.mem_cons,List.mem_nil_iff,or_false]at hd
   rcases hd with rfl|rfl|rfl
   ·simp[PyData.depth]
   ·lia
   ·lia
  exact Nat.le_trans this (by simp only[Qn.deep];lia)
theorem Up.more{s t:Nat}{A:List Nat}(h:Up s A)(hs:s<=t):Up t A:=⟨h.1,λa ha=>Nat.lt_of_lt_of_le (h.2.1 a ha) hs,Nat.le_trans h.2.2 hs⟩
theorem zbK_{s t:Nat}(hs:s<=t):∀{q:Qn},q.Wf s->q.Wf t:=by
 intro q
 induction q with
 | least A m=>exact λh=>⟨h.1.more hs,h.2⟩
 | more A B=>exact λh=>⟨h.1.more hs,h.2.1.more hs,h.2.2⟩
 | rest A b r=>exact λh=>⟨h.1.more hs,h.2⟩
 | neg q ih=>exact λh=>ih h
 | both q p ih1 ih2=>exact λh=>⟨ih1 h.1,ih2 h.2⟩
 | either q p ih1 ih2=>exact λh=>⟨ih1 h.1,ih2 h.2⟩
theorem zcT_(ns:List Int)(hn:ns.length<=63)(k:Nat)(kn5:D×Unit->M D):UF_ (.list (ns.map PyData.int)) (iN k) kn5=kn5 (.list (ns.map PyData.int),()):=by
 unfold UF_
 obtain⟨f,e1,hf⟩:=zbu_ ns k hn
 rw[e1,bdR]
 obtain⟨s,f1,e2,hs,hf1⟩:=j3_ (m:=4) hf (by decide) (by decide) (by decide)
 rw[show zj_ f (.int 4)=_ from e2,bdR];dsimp only
 rw[zdw_,oMS,bdR]
 obtain⟨z,f2,e3,hz,hf2⟩:=j3_ (m:=7) hf1 (by decide) (by decide) (by decide)
 rw[show zj_ f1 (.int 7)=_ from e3,bdR];dsimp only
 rw[zdw_,oMS,bdR]
 obtain⟨q,f3,e4,wf,dp,ct,_⟩:=uz_ (k:=s+1) (by lia) (by lia) 5 (size:=z+1) (deep:=4) hf2 (by lia) (by lia) (by lia) (by lia)
 rw[show zV_ 5 f2 (iN (s+1)) (iN (z+1)) (.int 4)=_ from e4,bdR];dsimp only
 obtain⟨sh,lt⟩:=Xf_ (s:=s+1) (by lia) 6 q wf (by lia) (by lia)
 have tl:=text_len (s:=s+1) (by lia) wf
 obtain⟨r1,r2⟩:=Xk_ (Xa_ (s:=s+1) (by lia) wf) (by lia)
 rw[lt,bdR,sh,bdR,r1,oMS,bdR,bdR,r2,oMS,bdR,if_neg (by decide),show yC_ [iN (s+1),.int 5]=_ from zaN_ (s+1) 5 (by lia) (by decide),oMS,bdR]
 obtain⟨sm,szq,dpq⟩:=zaP_ (s:=s+1) (by lia) wf
 have q1:=zdW_ sm (by lia) (by lia)
 have q2:=zcP_ sm
 have pre:∀is:List Nat,(∀i∈is,s+1<=i/\i<5)->forS (λs23 d24 kn=>UE_ kn5 s23.1 s23.2.1 s23.2.2.1 d24 kn) (is.map iN) (PyData.list (ns.map PyData.int),q.d,PyData.str (text q),()) (λs23=>QT_ kn5 s23.1 s23.2.1 s23.2.2.1)=kn5 (.list (ns.map PyData.int),()):=λis his=>by
  refine(QJ_ (e:=iN) (F:=λ_=>(PyData.list (ns.map PyData.int),q.d,PyData.str (text q),())) is ?_).trans rfl
  intro p i t hpt kn
  obtain⟨h1,h2⟩:=his i (by rw[hpt];simp)
  dsimp only
  unfold UE_
  rw[zaL_ (s:=i) (by lia) (zbK_ h1 wf) (by lia) (by lia),bdR,q1,oMS,bdR,bdR,q2,oMS,bdR,if_neg (by decide)]
 exact pre _ λi hi=>by
  have:=mem_rng.mp hi
  lia
theorem main:∀ns:List Int,ns.length<=63->XT_ (.list (ns.map PyData.int))=.ret (.bool true):=by
 intro ns hn
 unfold XT_
 have e1:fLen [.list (ns.map PyData.int)]=some (.int (ns.length:Int)):=by rw[L4.lenL,zzd]
 have e2:WI_ [.int 20,.int (ns.length:Int)]=some (iN (min 20 ns.length)):=min2 20 ns.length
 have e3:z1_ (.int 2) (iN (min 20 ns.length))=some (iN (2+min 20 ns.length)):=addN 2 _
 rw[e1,oMS,bdR,e2,oMS,bdR,e3,oMS,bdR,Uj_ _ (by lia),oMS,bdR]
 refine(QJ_ (e:=iN) (F:=λ_=>(PyData.list (ns.map PyData.int),())) (List.range _) ?_).trans rfl
 intro p x t hpt kn
 dsimp only
 exact zcT_ ns hn x kn
theorem all_mk{l:PySem.W.OpenLaw}{w:World}{K:Fg}{h:Heap}{mg:Str->Option Value}{fa CA_Row:Addr}(X:K.In h)(G:h.Ns mainGlobals mg)(hfa:mg "law" = some (.ref fa))(w0:Ci K "Row" CA_Row zc_)(p0:Fa K "is_whole" Za_)(p1:Fa K "is_within" ys_)(p2:Fa K "are_sorts" yt_)(p3:Fa K "parts_of" y9_)(p4:Fa K "shown_counts" jO_)(p5:Fa K "shown_sorts" uu_)(p6:Fa K "shown_question" zM_)(p7:Fa K "number_of" uv_)(p8:Fa K "numbers_of" j9_)(p9:Fi K CA_Row "Row.__init__" uf_)(p10:Fm K CA_Row "refuse" "Row.refuse" uS_)(p11:Fm K CA_Row "has_more" "Row.has_more" ue_)(p12:Fm K CA_Row "upcoming" "Row.upcoming" ud_)(p13:Fm K CA_Row "take_word" "Row.take_word" j1_)(p14:Fm K CA_Row "take_number" "Row.take_number" jF_)(p15:Fm K CA_Row "take_sorts" "Row.take_sorts" jj_)(p16:Fm K CA_Row "finish" "Row.finish" uT_)(p17:Fa K "take_question" jq_)(p18:Fa K "read_question" j0_)(p19:Fa K "_law_feed" yv_)(p20:Fa K "_law_next" yu_)(p21:Fa K "_law_one" Zb_)(p22:Fa K "_law_some" ux_)(p23:Fa K "_law_plain" jn_)(p24:Fa K "_law_question" jr_)(p25:Fa K "_law_sorts_text" ja_)(p26:Fa K "_law_text" jE_)(p27:Fa K "law" zaI_)(q0:Xa K "NoText" "NoText.__init__" uw_ ["row", "word"])(tk_QUESTION_WORDS:TK K "QUESTION_WORDS" ["least", "more", "rest", "both", "either", "not"])(kc0:Kc K "MOST_QUESTIONS" (.int 7))(kc1:Kc K "MOST_WITHIN" (.int 4))(kc2:Kc K "MOST_LEAST" (.int 9))(kc3:Kc K "MOST_REST" (.int 9))(kc4:Kc K "FIGURES" (.str "0123456789"))(kc5:Kc K "MOST_FIGURES" (.int 9))(bz:(BL.all λx=>isNN (PySem.W.nsIn K mainGlobals x))=true) :
  ∃fd:FuncData,(∀(s:Shared) (v:Value),BindsTo s fd ⟨[v],[]⟩ [("_law_script",v)])/\∀base:Heap,K.In base->base.Ns mainGlobals mg->FnOk l.prog w K mg base (CX1 l.prog w) 14 fa fd ["_law_script"] (spD K 1 QC_):=by
 obtain⟨IC_Row,NF_Row⟩:=w0
 obtain⟨f0,fd0,a0,F0⟩:=p0
 obtain⟨f1,fd1,a1,F1⟩:=p1
 obtain⟨f2,fd2,a2,F2⟩:=p2
 obtain⟨f3,fd3,a3,F3⟩:=p3
 obtain⟨f4,fd4,a4,F4⟩:=p4
 obtain⟨f5,fd5,a5,F5⟩:=p5
 obtain⟨f6,fd6,a6,F6⟩:=p6
 obtain⟨f7,fd7,a7,F7⟩:=p7
 obtain⟨f8,fd8,a8,F8⟩:=p8
 obtain⟨f9,fd9,a9,F9⟩:=p9
 obtain⟨f10,fd10,a10,F10⟩:=p10
 obtain⟨f11,fd11,a11,F11⟩:=p11
 obtain⟨f12,fd12,a12,F12⟩:=p12
 obtain⟨f13,fd13,a13,F13⟩:=p13
 obtain⟨f14,fd14,a14,F14⟩:=p14
 obtain⟨f15,fd15,a15,F15⟩:=p15
 obtain⟨f16,fd16,a16,F16⟩:=p16
 obtain⟨f17,fd17,a17,F17⟩:=p17
 obtain⟨f18,fd18,a18,F18⟩:=p18
 obtain⟨f19,fd19,a19,F19⟩:=p19
 obtain⟨f20,fd20,a20,F20⟩:=p20
 obtain⟨f21,fd21,a21,F21⟩:=p21
 obtain⟨f22,fd22,a22,F22⟩:=p22
 obtain⟨f23,fd23,a23,F23⟩:=p23
 obtain⟨f24,fd24,a24,F24⟩:=p24
 obtain⟨f25,fd25,a25,F25⟩:=p25
 obtain⟨f26,fd26,a26,F26⟩:=p26
 obtain⟨f27,fd27,a27,F27⟩:=p27
 obtain⟨C0,D0,g0,gd0,b0,G0,x0,y0,z0,u0,v0⟩:=q0
 cases hfa.symm.trans (PySem.W.mg_of X G a27)
 have B:BN mg:=zeD_ X G bz
 have Kn:KN mg:=⟨Vo_ X G kc0,Vo_ X G kc1,Vo_ X G kc2,Vo_ X G kc3,Vo_ X G kc4,Vo_ X G kc5⟩
 have Kx:KX K mg:=⟨tk_QUESTION_WORDS,zdE_ X G tk_QUESTION_WORDS⟩
 refine⟨fd27,λs v=>?_,λbase _ _=>?_⟩
 ·obtain⟨_,_,_,_,_,_,_,_,_,rfl,_⟩:=F27.ex
  exact .of_eq rfl
 have X_NoText:=WQ_ (P:=l.prog) (w:=w) (base:=base) G0 x0 (PySem.W.mg_of X G b0) y0 z0 u0 v0
 have ga7:=YV_ (P:=l.prog) (w:=w) (base:=base) F0 (PySem.W.mg_of X G a0) B Kn Kx
 have gaT:=U6_ (P:=l.prog) (w:=w) (base:=base) F1 (PySem.W.mg_of X G a1) B Kn Kx ga7
 have gaU:=U7_ (P:=l.prog) (w:=w) (base:=base) F2 (PySem.W.mg_of X G a2) B Kn Kx gaT
 have gao:=YU_ (P:=l.prog) (w:=w) (base:=base) F3 (PySem.W.mg_of X G a3) B Kn Kx
 have gaI:=Z7_ (P:=l.prog) (w:=w) (base:=base) F4 (PySem.W.mg_of X G a4) B Kn Kx
 have gan:=Jy_ (P:=l.prog) (w:=w) (base:=base) F5 (PySem.W.mg_of X G a5) B Kn Kx gaI
 have gaB:=Zd_ (P:=l.prog) (w:=w) (base:=base) F6 (PySem.W.mg_of X G a6) B Kn Kx gao gan 6
 have gax:=U4_ (P:=l.prog) (w:=w) (base:=base) F7 (PySem.W.mg_of X G a7) B Kn Kx
 have gaO:=Uq_ (P:=l.prog) (w:=w) (base:=base) F8 (PySem.W.mg_of X G a8) B Kn Kx gax
 have gaJ:=Ja_ (P:=l.prog) (w:=w) (base:=base) F9 a9 (PySem.W.mg_of X G IC_Row.ns) B Kn Kx IC_Row NF_Row
 have gac:=Us_ (P:=l.prog) (w:=w) (base:=base) F10 a10 B Kn Kx IC_Row NF_Row X_NoText
 have gap:=Z9_ (P:=l.prog) (w:=w) (base:=base) F11 a11 B Kn Kx IC_Row NF_Row
 have gai:=Z8_ (P:=l.prog) (w:=w) (base:=base) F12 a12 B Kn Kx IC_Row NF_Row gap gac
 have gar:=ZJ_ (P:=l.prog) (w:=w) (base:=base) F13 a13 B Kn Kx IC_Row NF_Row gai gac
 have gah:=yR_ (P:=l.prog) (w:=w) (base:=base) F14 a14 B Kn Kx IC_Row NF_Row gax gai gac
 have gak:=Ze_ (P:=l.prog) (w:=w) (base:=base) F15 a15 B Kn Kx IC_Row NF_Row gai gaO gac gaU
 have gaP:=Ut_ (P:=l.prog) (w:=w) (base:=base) F16 a16 B Kn Kx IC_Row NF_Row gap gac
 have gaE:=ZG_ (P:=l.prog) (w:=w) (base:=base) F17 (PySem.W.mg_of X G a17) B Kn Kx IC_Row NF_Row gar gao gak gah gac 6
 have gaH:=ZH_ (P:=l.prog) (w:=w) (base:=base) F18 (PySem.W.mg_of X G a18) B Kn Kx IC_Row NF_Row gaJ gaE gaP
 have gaV:=Yb_ (P:=l.prog) (w:=w) (base:=base) F19 (PySem.W.mg_of X G a19) B Kn Kx
 have gab:=Ya_ (P:=l.prog) (w:=w) (base:=base) F20 (PySem.W.mg_of X G a20) B Kn Kx
 have gaR:=YW_ (P:=l.prog) (w:=w) (base:=base) F21 (PySem.W.mg_of X G a21) B Kn Kx gab
 have gaM:=U9_ (P:=l.prog) (w:=w) (base:=base) F22 (PySem.W.mg_of X G a22) B Kn Kx gab
 have gaz:=Ur_ (P:=l.prog) (w:=w) (base:=base) F23 (PySem.W.mg_of X G a23) B Kn Kx gab gaM gaR
 have gaG:=ZI_ (P:=l.prog) (w:=w) (base:=base) F24 (PySem.W.mg_of X G a24) B Kn Kx gab gaz 5
 have gam:=yQ_ (P:=l.prog) (w:=w) (base:=base) F25 (PySem.W.mg_of X G a25) B Kn Kx
 have gaW:=U8_ (P:=l.prog) (w:=w) (base:=base) F26 (PySem.W.mg_of X G a26) B Kn Kx gam 6
 exact zdi_ F27 B Kn Kx gaV gaG gaW gab gaB gaH
theorem walk{l:PySem.W.OpenLaw}{q:Program}{loose:List Str}{XP:(Str->Option Value)->Heap->Prop}{YP:World->Heap->Prop}{d:DefRec}{K:Params->Fg}(main:∀ns:List Int,ns.length<=63->XT_ (.list (ns.map PyData.int))=.ret (.bool true))(hn:l.most=some 63)(hdf:d.params.defaults=[])
  (hY:∀(w:World) (h:Heap),YP w h->(K w.params).In h)
  (F:∀(w:World) (mg:Str->Option Value) (fa:Addr) (h:Heap),(K w.params).In h->h.Ns mainGlobals mg->mg d.name=some (.ref fa) ->
   ∃fd:FuncData,(∀(s:Shared) (u:Value),BindsTo s fd ⟨[u],[]⟩ [("_law_script",u)])/\∀base:Heap,(K w.params).In base->base.Ns mainGlobals mg->FnOk l.prog w (K w.params) mg base (CX1 l.prog w) 14 fa fd ["_law_script"] (spD (K w.params) 1 QC_)) :
  PySem.W.WalkO q loose XP YP l.row.toRowW d [] (λf vs=>PySem.call f vs) :=
 L2.walk_of (n:=63) (k:=14) (x := "_law_script") (CX:=λw=>CX1 l.prog w) (sp:=λw=>spD (K w.params) 1 QC_) hn (by decide) hdf ⟨rfl,by decide,by decide,rfl⟩ hY F (λw H a ns hl _ hS=>Ws_ hS (main ns hl)) λ_ _ _ _ _ ⟨_,_,_,_,_,_,_,_,_,_,z⟩=>z
end K08
open PySem PySem.W PyProof.Rows L4
set_option maxRecDepth 100000 in
set_option maxHeartbeats 0 in
theorem PySem.Challenge.cw_passersby_k08_questions_as_texts_holds : PySem.Challenge.rw_passersby_k08_questions_as_texts.Holds := by
 w_on;o_law;k_head;(case hw=>w_witness2)
 k_fill
 refine K08.walk (l:=PySem.Challenge.rw_passersby_k08_questions_as_texts) K08.main rfl rfl (λw h Y=>PySem.W.kIn_of Y) ?F
 case F =>
  intro w mg fa h KX G hmg
  refine' K08.all_mk KX G hmg (zeC_ ?wa0 ?wb0 ?wc0 ?wd0 ?we0 (naC ?n0_0 (naC ?n0_1 (naC ?n0_2 (naC ?n0_3 na0))))) (uo_ ?a0 ?l0 ?c0 ?k0) (uo_ ?a1 ?l1 ?c1 ?k1) (uo_ ?a2 ?l2 ?c2 ?k2) (uo_ ?a3 ?l3 ?c3 ?k3) (uo_ ?a4 ?l4 ?c4 ?k4) (uo_ ?a5 ?l5 ?c5 ?k5) (uo_ ?a6 ?l6 ?c6 ?k6) (uo_ ?a7 ?l7 ?c7 ?k7) (uo_ ?a8 ?l8 ?c8 ?k8) (zez_ ?a9 ?l9 ?c9 ?k9 ?i9 ?m9 ?o9) (Y4_ ?a10 ?l10 ?c10 ?k10 ?i10) (Y4_ ?a11 ?l11 ?c11 ?k11 ?i11) (Y4_ ?a12 ?l12 ?c12 ?k12 ?i12) (Y4_ ?a13 ?l13 ?c13 ?k13 ?i13) (Y4_ ?a14 ?l14 ?c14 ?k14 ?i14) (Y4_ ?a15 ?l15 ?c15 ?k15 ?i15) (Y4_ ?a16 ?l16 ?c16 ?k16 ?i16) (uo_ ?a17 ?l17 ?c17 ?k17) (uo_ ?a18 ?l18 ?c18 ?k18) (uo_ ?a19 ?l19 ?c19 ?k19) (uo_ ?a20 ?l20 ?c20 ?k20) (uo_ ?a21 ?l21 ?c21 ?k21) (uo_ ?a22 ?l22 ?c22 ?k22) (uo_ ?a23 ?l23 ?c23 ?k23) (uo_ ?a24 ?l24 ?c24 ?k24) (uo_ ?a25 ?l25 ?c25 ?k25) (uo_ ?a26 ?l26 ?c26 ?k26) (uo_ ?a27 ?l27 ?c27 ?k27) (zdB_ ?xa0 ?xb0 ?xc0 ?xd0 ?xe0 ?xf0 ?xg0 ?xh0 ?xi0 ?xj0 ?xk0 ?xl0 ?xm0 ?xp0 ?xq0 ?xr0 ?xo0 (naC ?y0_0 (naC ?y1_0 na0))) (zdD_ ?ta0 ?tb0 ?tc0 ?td0 ?te0) (Vn_ ?ga0 ?gb0) (Vn_ ?ga1 ?gb1) (Vn_ ?ga2 ?gb2) (Vn_ ?ga3 ?gb3) (Vn_ ?ga4 ?gb4) (Vn_ ?ga5 ?gb5) ?bz
  (case wa0=>k_is)
  (case wb0|wc0|wd0=>kernel_rfl)
  (case we0|n0_0|n0_1|n0_2|n0_3|a0|l0|c0|k0|a1|l1|c1|k1|a2|l2|c2|k2|a3|l3|c3|k3|a4|l4|c4|k4|a5|l5|c5|k5|a6|l6|c6|k6|a7|l7|c7|k7|a8|l8|c8|k8|a9|l9|c9|k9=>k_is)
  (case i9|m9=>kernel_rfl)
  (case o9|a10|l10|c10|k10=>k_is)
  (case i10=>kernel_rfl)
  (case a11|l11|c11|k11=>k_is)
  (case i11=>kernel_rfl)
  (case a12|l12|c12|k12=>k_is)
  (case i12=>kernel_rfl)
  (case a13|l13|c13|k13=>k_is)
  (case i13=>kernel_rfl)
  (case a14|l14|c14|k14=>k_is)
  (case i14=>kernel_rfl)
  (case a15|l15|c15|k15=>k_is)
  (case i15=>kernel_rfl)
  (case a16|l16|c16|k16=>k_is)
  (case i16=>kernel_rfl)
  (case a17|l17|c17|k17|a18|l18|c18|k18|a19|l19|c19|k19|a20|l20|c20|k20|a21|l21|c21|k21|a22|l22|c22|k22|a23|l23|c23|k23|a24|l24|c24|k24|a25|l25|c25|k25|a26|l26|c26|k26|a27|l27|c27|k27|xa0|xb0|xc0|xd0|xe0|xf0|xg0=>k_is)
  (case xh0=>kernel_rfl)
  (case xi0|xj0|xk0|xl0=>k_is)
  (case xm0=>kernel_rfl)
  (case xp0|xq0|xr0=>k_is)
  (case xo0=>kernel_rfl)
  (case y0_0|y1_0|ta0|tb0=>k_is)
  (case tc0|td0=>rfl)
  (case te0=>exact(.cons ⟨_,rfl⟩ (.cons ⟨_,rfl⟩ (.cons ⟨_,rfl⟩ (.cons ⟨_,rfl⟩ (.cons ⟨_,rfl⟩ (.cons ⟨_,rfl⟩ .nil)))))))
  (case ga0=>k_is)
  (case gb0=>first|exact⟨_,rfl⟩|rfl)
  (case ga1=>k_is)
  (case gb1=>first|exact⟨_,rfl⟩|rfl)
  (case ga2=>k_is)
  (case gb2=>first|exact⟨_,rfl⟩|rfl)
  (case ga3=>k_is)
  (case gb3=>first|exact⟨_,rfl⟩|rfl)
  (case ga4=>k_is)
  (case gb4=>first|exact⟨_,rfl⟩|rfl)
  (case ga5=>k_is)
  (case gb5=>first|exact⟨_,rfl⟩|rfl)
  (case bz=>kernel_rfl)
