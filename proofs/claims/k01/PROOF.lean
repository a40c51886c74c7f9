import PyProof.Rows.All
import Wide.All
import OpenK.AllK
import Wide.FinOn
import Lean
import PyProof.EqAt
import PyProof.EqKinds
import PyProof.TupleCall
import PySem.Challenge.RW_passersby_k01_rules_of_any_thing
noncomputable section
set_option Elab.async false
set_option linter.all false
set_option maxRecDepth 100000
noncomputable def zza:=@PySem.wpAny_bind
noncomputable def zzb:=@PySem.wpAny_pure
noncomputable def zzc:=@PySem.Heap.get?_push_of_some
noncomputable def zzd:=@List.length_map
noncomputable def zze:=@PySem.Heap.get?_push_size
noncomputable def zzf:=@List.length_append
noncomputable def zzg:=@List.mem_cons_of_mem
noncomputable def zzi:=@decide_eq_true_eq
namespace L2
open PySem PySem.Spec PyProof.Rows
noncomputable abbrev Key:=Sum Int Str
noncomputable def Vp_:Key->Value->Bool
 | .inl k,v=>Value.isInt k v
 | .inr x,v=>Value.isStrOf x v
noncomputable def keyH(w:World):Key->Int
 | .inl k=>hashInt k
 | .inr x=>hashStr w x
theorem zQ_:∀{k:Key} {v:Value},Vp_ k v=true->(∃i t,k=Sum.inl i/\v=Value.int i t)\/(∃x t,k=Sum.inr x/\v=Value.str x t)
 | .inl i,v,h=>by
  obtain⟨t,e⟩:=Value.isInt_shape (k:=i) (v:=v) h
  exact .inl ⟨i,t,rfl,e⟩
 | .inr x,v,h=>by
  obtain⟨t,e⟩:=Value.isStrOf_shape (x:=x) (v:=v) h
  exact .inr ⟨x,t,rfl,e⟩
theorem WE_(i:Int)(t:Tok):Vp_ (.inl i) (.int i t)=true:=by simp[Vp_,Value.isInt]
theorem WD_(x:Str)(t:Tok):Vp_ (.inr x) (.str x t)=true:=by simp[Vp_,Value.isStrOf]
theorem zem_(a b:Int):decide ((Sum.inl a:Key)=Sum.inl b)=(a==b):=by
 by_cases e:a=b
 ·subst e;simp
 ·have h:¬ (Sum.inl a:Key)=Sum.inl b:=λq=>e (Sum.inl.inj q)
  rw[decide_eq_false h]
  exact(beq_eq_false_iff_ne.mpr e).symm
theorem zej_(a b:Str):decide ((Sum.inr a:Key)=Sum.inr b)=decide (a=b):=by
 by_cases e:a=b
 ·subst e;simp
 ·have h:¬ (Sum.inr a:Key)=Sum.inr b:=λq=>e (Sum.inr.inj q)
  rw[decide_eq_false h,decide_eq_false e]
theorem zel_(a:Int)(b:Str):decide ((Sum.inl a:Key)=Sum.inr b)=false:=decide_eq_false (λq=>nomatch q)
theorem zek_(a:Str)(b:Int):decide ((Sum.inr a:Key)=Sum.inl b)=false:=decide_eq_false (λq=>nomatch q)
def z8_(prog:Program)(w:World):PySem.KeyKind prog w Key where
 is:=Vp_
 hash:=keyH w
 inj:=λv a b ha hb=>by
  rcases zQ_ ha with ⟨i,t,rfl,rfl⟩|⟨x,t,rfl,rfl⟩
  ·rcases zQ_ hb with ⟨j,u,rfl,e⟩|⟨y,u,rfl,e⟩
   ·injection e with e1 _;rw[e1]
   ·exact nomatch e
  ·rcases zQ_ hb with ⟨j,u,rfl,e⟩|⟨y,u,rfl,e⟩
   ·exact nomatch e
   ·injection e with e1 _;rw[e1]
 byValue:=λk v h=>by
  rcases zQ_ h with ⟨i,t,rfl,rfl⟩|⟨x,t,rfl,rfl⟩<;>rfl
 pyHash:=λhv h=>by
  rcases zQ_ hv with ⟨i,t,rfl,rfl⟩|⟨x,t,rfl,rfl⟩
  ·exact wpAny_pyHash_int h
  ·exact wpAny_pyHash_str h
 eqBool:=λhu hv h=>by
  rcases zQ_ hu with ⟨i,t,rfl,rfl⟩|⟨x,t,rfl,rfl⟩
  ·rcases zQ_ hv with ⟨j,u,rfl,rfl⟩|⟨y,u,rfl,rfl⟩
   ·rw[zem_]at h;exact wpAny_eqBool_int h
   ·rw[zel_]at h;exact SeqAt.EqAt.int_str i t y u _ _ _ _ h
  ·rcases zQ_ hv with ⟨j,u,rfl,rfl⟩|⟨y,u,rfl,rfl⟩
   ·rw[zek_]at h;exact SeqAt.EqAt.str_int x t j u _ _ _ _ h
   ·rw[zej_]at h;exact wpAny_eqBool_str h
 «strs»:=λk x t v h=>by
  rcases zQ_ h with ⟨i,u,rfl,e⟩|⟨y,u,rfl,e⟩
  ·exact nomatch e
  ·injection e with e1 _
   subst e1
   cases v<;>rfl
theorem YS_(prog:Program)(w:World)(i:Int)(t:Tok):(z8_ prog w).is (.inl i) (.int i t)=true:=WE_ i t
theorem YR_(prog:Program)(w:World)(x:Str)(t:Tok):(z8_ prog w).is (.inr x) (.str x t)=true:=WD_ x t
inductive V where
 | non|bl (b:Bool)|int (i:Int)|str (x:Str)|byt (b:Array UInt8)|flt (b:UInt64)|ref (a:Addr)|ty (n:String)
 deriving DecidableEq
noncomputable def RelV:V->Value->Prop
 | .non,u=>u=Value.none
 | .bl b,u=>u=Value.bool b
 | .int i,u=>∃t,u=Value.int i t
 | .str x,u=>∃t,u=Value.str x t
 | .byt b,u=>∃t,u=Value.bytes b t
 | .flt b,u=>∃t,u=Value.float b t
 | .ref a,u=>u=Value.ref a
 | .ty n,u=>u=Value.type n
abbrev Vals:List V->List Value->Prop:=Paired RelV
theorem Vals.length{xs:List V}{us:List Value}(r:Vals xs us):xs.length=us.length:=Paired.length r
theorem Vals.get:∀{xs:List V} {us:List Value} {i:Nat} {x:V},Vals xs us->xs[i]? = some x->∃u,us[i]? = some u/\RelV x u
 | _,_,_,_,.nil,e=>by simp at e
 | _,_,0,_,.cons r _,e=>by simp at e;subst e;exact⟨_,rfl,r⟩
 | _,_,i+1,x,.cons _ t,e=>by
  obtain⟨u,h1,h2⟩:=Vals.get (i:=i) (x:=x) t (by simpa using e)
  exact⟨u,by simpa using h1,h2⟩
theorem Vals.set{x:V}{u:Value}(r:RelV x u):∀{xs:List V} {us:List Value} (i:Nat),Vals xs us->Vals (xs.set i x) (us.set i u)
 | _,_,_,.nil=>.nil
 | _,_,0,.cons _ t=>.cons r t
 | _,_,i+1,.cons q t=>.cons q (Vals.set r i t)
theorem Vals.append:∀{xs ys:List V} {us ws:List Value},Vals xs us->Vals ys ws->Vals (xs++ys) (us++ws):=by
 intro xs ys us ws h s
 induction h with
 | nil=>exact s
 | cons r _ ih=>exact .cons r ih
theorem Vals.take:∀{xs:List V} {us:List Value} (n:Nat),Vals xs us->Vals (xs.take n) (us.take n)
 | _,_,0,_=>.nil
 | _,_,_+1,.nil=>.nil
 | _,_,n+1,.cons r t=>.cons r (Vals.take n t)
theorem Vals.drop:∀{xs:List V} {us:List Value} (n:Nat),Vals xs us->Vals (xs.drop n) (us.drop n)
 | _,_,0,r=>r
 | _,_,_+1,.nil=>.nil
 | _,_,n+1,.cons _ t=>Vals.drop n t
noncomputable def RelO:Option V->Option Value->Prop
 | some v,some u=>RelV v u
 | none,none=>True
 | _,_=>False
def KV{κ:Type}:List (κ×V)->List (κ×Value)->Prop:=Paired λ(p:κ×V) (q:κ×Value)=>p.1=q.1/\RelV p.2 q.2
noncomputable def kV:Key->V
 | .inl i=>.int i
 | .inr x=>.str x
inductive HO where
 | lst (xs:List V)
 | tup (xs:List V)
 | dK (kvs:List (Key×V))|dT (kvs:List (List Key×V))
 | set (S:Int->Bool) (n:Nat)
 | ins (C dx:Addr) (fs:List (Str×V))
 | own (x:Addr)
 | xd (fs:List (Str×V))
 | met (f x:Addr)
 | rng (lo hi:Int)
 | frz (o:Obj) (u:HO)
 | tbl (ps:Array Value)
 | ext (φ:Heap->Prop)
noncomputable abbrev Hp:=Addr->Option HO
noncomputable def upd(H:Hp)(a:Addr)(o:HO):Hp:=λb=>if b=a then some o else H b
theorem jA_{H:Hp}{a:Addr}{o:HO}:upd H a o a=some o:=by unfold upd;rw[if_pos rfl]
theorem zM_{H:Hp}{a b:Addr}{o:HO}(h:b≠a):upd H a o b=H b:=by unfold upd;rw[if_neg h]
theorem zA_{H:Hp}{a b:Addr}{o:HO}(h:H a=some o)(h':H b=none):a≠b:=by
 intro e;subst e;rw[h]at h';cases h'
section
variable (P:Program)(w:World)
def _root_.L2.TupN(h:Heap)(a:Addr):Prop:=∃o,h.get? a=some o/\o.dict=none
theorem _root_.L2.TupN.new(h:Heap)(items:Array Value):TupN (h.push { cls:=.type "tuple",data:=.seq items }) h.objs.size:=⟨_,zze _ rfl,rfl⟩
def ObjOk(H:Hp)(h:Heap)(a:Addr):HO->Prop
 | .lst xs=>xs.length<=sizeLine/\∃(its:List Value) (n:Nat),Vals xs its/\h.get? a=some { cls:=.type "list",data:=.seq its.toArray n }
 | .tup xs=>xs.length<=sizeLine/\∃its:List Value,Vals xs its/\IsTup h a its.toArray/\TupN h a
 | .dK kvs=>kvs.length<=sizeLine/\(a==sysModules)=false/\∃vs,KV kvs vs/\h.DictOf (z8_ P w) a vs
 | .dT kvs=>kvs.length<=sizeLine/\(a==sysModules)=false/\∃xs:List (List Key×Addr×Value),
   Paired (λ(p:List Key×V) (q:List Key×Addr×Value)=>p.1=q.1/\H q.2.1=some (.tup (p.1.map kV))/\RelV p.2 q.2.2) kvs xs /\
   ∃o es ep,h.get? a=some o/\o.ExactDict/\o.data=.dict es ep/\es.toList=xs.map (entryOfKey (tupleKind (z8_ P w)))/\(xs.map (·.1)).Nodup
 | .set S n=>h.SetOf (intKind P w) a S n
 | .ins C dx fs=>H dx=some (.own a)/\fs.length<=1000/\dx≠a/\h.get? a=some (PySem.W.instObj C dx) /\
   ∃mA,h.Ns1 dx mA/\(∀f,RelO (fs.lookup f) (mA f))/\PySem.Within mA (fs.map (·.1))
 | .own _=>∃o,h.get? a=some o
 | .xd fs=>∃mA,h.Ns1 a mA/\∀f,RelO (fs.lookup f) (mA f)
 | .rng lo hi=>∃t u v,h.get? a=some { cls:=.type "range",data:=.fields #[.int lo t,.int hi u,.int 1 v] }
 | .frz o u=>h.get? a=some o/\ObjOk H h a u
 | .tbl ps=>h.get? a=some { cls:=.none,data:=.fields ps }
 | .met f x=>h.get? a=some (PySem.W.methodObj (.ref f) (.ref x))
 | .ext φ=>φ h/\(∃o,h.get? a=some o)/\∀h1 h2:Heap,φ h1->(∀o,h1.get? a=some o->h2.get? a=some o)->φ h2
def HOk(H:Hp)(h:Heap):Prop:=∀a o,H a=some o->ObjOk P w H h a o
end
section
variable {P:Program}{w:World}{H H':Hp}{h h':Heap}{a:Addr}{o:HO}
theorem ObjOk.lt(x:ObjOk P w H h a o):a<h.objs.size:=by
 cases o with
 | lst xs=>obtain⟨_,_,_,_,e⟩:=x;exact Heap.lt_size e
 | tup xs=>obtain⟨_,_,_,p⟩:=x;exact p.1.lt
 | dK kvs=>obtain⟨_,_,_,_,o,_,_,e,_⟩:=x;exact Heap.lt_size e
 | dT kvs=>obtain⟨_,_,_,_,o,_,_,e,_⟩:=x;exact Heap.lt_size e
 | set S n=>obtain⟨o,_,_,_,e,_⟩:=x;exact Heap.lt_size e
 | ins C dx fs=>obtain⟨_,_,_,e,_⟩:=x;exact Heap.lt_size e
 | own y=>obtain⟨_,e⟩:=x;exact Heap.lt_size e
 | xd fs=>obtain⟨_,⟨_,_,_,e,_⟩,_⟩:=x;exact Heap.lt_size e
 | rng lo hi=>obtain⟨_,_,_,e⟩:=x;exact Heap.lt_size e
 | frz ob u=>obtain⟨e,_⟩:=x;exact Heap.lt_size e
 | tbl ps=>exact Heap.lt_size (show h.get? a=some _ from x)
 | met f y=>exact Heap.lt_size (show h.get? a=some _ from x)
 | ext φ=>obtain⟨_,⟨_,e⟩,_⟩:=x;exact Heap.lt_size e
theorem Paired.mapP{α β:Type}{F G:α->β->Prop}:∀{l₁:List α} {l₂:List β},Paired F l₁ l₂->(∀a b,F a b->G a b)->Paired G l₁ l₂:=by
 intro l₁ l₂ h f
 induction h with
 | nil=>exact .nil
 | cons r _ ih=>exact .cons (f _ _ r) ih
theorem ObjOk.stay(x:ObjOk P w H h a o)(k:∀b u,(b=a\/H b=some (.own a))->h.get? b=some u->h'.get? b=some u)
  (ho:∀b,H b=some (.own a)->H' b=some (.own a)) (ht:∀b xs,H b=some (.tup xs)->H' b=some (.tup xs)):ObjOk P w H' h' a o:=by
 induction o with
 | lst xs=>obtain⟨z,its,n,r,e⟩:=x;exact⟨z,its,n,r,k _ _ (.inl rfl) e⟩
 | tup xs=>obtain⟨z,its,r,⟨ob,e,c⟩,ob2,e2,c2⟩:=x;exact⟨z,its,r,⟨ob,k _ _ (.inl rfl) e,c⟩,ob2,k _ _ (.inl rfl) e2,c2⟩
 | dK kvs=>obtain⟨z,y,vs,r,ob,es,ep,e,c⟩:=x;exact⟨z,y,vs,r,ob,es,ep,k _ _ (.inl rfl) e,c⟩
 | dT kvs =>
  obtain⟨z,y,xs,r,ob,es,ep,e,c⟩:=x
  exact⟨z,y,xs,Paired.mapP r λp q z=>⟨z.1,ht _ _ z.2.1,z.2.2⟩,ob,es,ep,k _ _ (.inl rfl) e,c⟩
 | set S n=>obtain⟨ob,es,ep,t,e,c⟩:=x;exact⟨ob,es,ep,t,k _ _ (.inl rfl) e,c⟩
 | ins C dx fs =>
  obtain⟨d,z,ne,e,mA,⟨od,es,ep,e2,c⟩,r⟩:=x
  exact⟨ho _ d,z,ne,k _ _ (.inl rfl) e,mA,⟨od,es,ep,k _ _ (.inr d) e2,c⟩,r⟩
 | own y=>obtain⟨ob,e⟩:=x;exact⟨ob,k _ _ (.inl rfl) e⟩
 | xd fs=>obtain⟨mA,⟨od,es,ep,e,c⟩,r⟩:=x;exact⟨mA,⟨od,es,ep,k _ _ (.inl rfl) e,c⟩,r⟩
 | rng lo hi=>obtain⟨t,u,v,e⟩:=x;exact⟨t,u,v,k _ _ (.inl rfl) e⟩
 | frz ob u ih=>obtain⟨e,q⟩:=x;exact⟨k _ _ (.inl rfl) e,ih q⟩
 | tbl ps =>
  have e:h.get? a=some { cls:=.none,data:=.fields ps }:=x
  show h'.get? a=some { cls:=.none,data:=.fields ps }
  exact k a _ (.inl rfl) e
 | met f y =>
  have e:h.get? a=some (PySem.W.methodObj (.ref f) (.ref y)):=x
  show h'.get? a=some (PySem.W.methodObj (.ref f) (.ref y))
  exact k a _ (.inl rfl) e
 | ext φ=>obtain⟨p,⟨o,e⟩,st⟩:=x;exact⟨st _ _ p λo q=>k _ _ (.inl rfl) q,⟨o,k _ _ (.inl rfl) e⟩,st⟩
theorem HOk.lt(x:HOk P w H h)(e:H a=some o):a<h.objs.size:=(x a o e).lt
theorem HOk.fresh(x:HOk P w H h)(e:h.objs.size<=a):H a=none:=by
 cases q:H a with
 | none=>rfl
 | some u=>exact absurd (Nat.lt_of_lt_of_le (x.lt q) e) (Nat.lt_irrefl _)
theorem HOk.kept(x:HOk P w H h)(k:∀b u,h.get? b=some u->h'.get? b=some u):HOk P w H h':=λa o e =>
 (x a o e).stay (λb u _ q=>k b u q) (λ_ q=>q) λ_ _ q=>q
theorem HOk.laid(x:HOk P w H h)(k:∀b u,h.get? b=some u->h'.get? b=some u)(hp:h.objs.size<=a)(new:ObjOk P w (upd H a o) h' a o):HOk P w (upd H a o) h':=λb u e=>by
 have hn:=x.fresh hp
 by_cases hb:b=a
 ·subst hb;rw[jA_]at e;cases e;exact new
 ·rw[zM_ hb]at e
  exact(x b u e).stay (λc v _ q=>k c v q) (λc q=>by rw[zM_ (zA_ q hn)];exact q) λc xs q=>by rw[zM_ (zA_ q hn)];exact q
end
def Rd(H:Hp)(a:Addr)(u:HO):Prop:=H a=some u\/∃o,H a=some (.frz o u)
theorem Rd.ok{P:Program}{w:World}{H:Hp}{h:Heap}{a:Addr}{u:HO}(r:Rd H a u)(x:HOk P w H h):ObjOk P w H h a u:=by
 rcases r with r|⟨o,r⟩
 ·exact x a u r
 ·obtain⟨_,q⟩:=x a _ r
  exact q
noncomputable def Mut:Option HO->Prop
 | some (.lst _)=>True
 | some (.dK _)=>True
 | some (.dT _)=>True
 | some (.set _ _)=>True
 | some (.ins _ _ _)=>True
 | some (.ext _)=>True
 | _=>False
section
variable {P:Program}{w:World}{H:Hp}{h h':Heap}{x e:Addr}{o':HO}
theorem HOk.write(ok:HOk P w H h)(mu:Mut (H x))(he:e=x\/H e=some (.own x))(k:∀b u,b≠e->h.get? b=some u->h'.get? b=some u)(heo:∃u,h'.get? e=some u)
  (new:ObjOk P w (upd H x o') h' x o'):HOk P w (upd H x o') h':=λb u q=>by
 have nown:∀c y,H c=some (.own y)->c≠x:=λc y r z=>by subst z;rw[r]at mu;exact mu
 have ntup:∀c xs,H c=some (.tup xs)->c≠x:=λc xs r z=>by subst z;rw[r]at mu;exact mu
 by_cases hb:b=x
 ·subst hb;rw[jA_]at q;cases q;exact new
 ·rw[zM_ hb]at q
  by_cases hbe:b=e
  ·have q':H b=some (.own x):=by
    rcases he with z|z
    ·exact absurd (hbe.trans z) hb
    ·rw[hbe];exact z
   rw[q]at q';cases q'
   obtain⟨v,hv⟩:=heo
   exact⟨v,by rw[hbe];exact hv⟩
  ·refine(ok b u q).stay (λc v hc r=>k c v ?_ r) (λc r=>by rw[zM_ (nown c b r)];exact r) λc xs r=>by rw[zM_ (ntup c xs r)];exact r
   rcases hc with rfl|hc
   ·exact hbe
   ·rintro rfl
    rcases he with z|z
    ·exact nown c b hc z
    ·rw[hc]at z;cases z;exact hb rfl
end
structure Un(fs ex:List Addr)(H H':Hp)(h h':Heap):Prop where
 keep:∀b o,h.get? b=some o->H b=none->b∉fs->b∉ex->h'.get? b=some o
 slot:∀b o,h.get? b=some o->H b=none->b∈fs->b∉ex->∃sl,h'.get? b=some { o with slots:=sl }
 free:∀b o,h.get? b=some o->H b=none->b∉ex->H' b=none
 there:∀b o,h.get? b=some o->b∉ex->∃o',h'.get? b=some o'
 tups:∀b xs,H b=some (.tup xs)->H' b=some (.tup xs)
 frzs:∀b o u,H b=some (.frz o u)->H' b=some (.frz o u)
 tbls:∀b ps,H b=some (.tbl ps)->∃more,H' b=some (.tbl (ps++more))
section
variable {fs fs' ex ex':List Addr}{H H1 H2:Hp}{h h1 h2 h':Heap}{a x e:Addr}{o:HO}
theorem Un.any(u:Un fs ex H H1 h h1){b:Addr}{ob:Obj}(q:h.get? b=some ob)(n:H b=none)(hx:b∉ex):∃sl,h1.get? b=some { ob with slots:=sl }:=by
 by_cases hb:b∈fs
 ·exact u.slot b ob q n hb hx
 ·exact⟨ob.slots,u.keep b ob q n hb hx⟩
theorem Un.kept(k:∀b u,h.get? b=some u->h'.get? b=some u):Un fs ex H H h h' :=
 ⟨λb ob q _ _ _=>k b ob q,λb ob q _ _ _=>⟨ob.slots,k b ob q⟩,λ_ _ _ n _=>n,λb ob q _=>⟨ob,k b ob q⟩,λ_ _ q=>q,λ_ _ _ q=>q,λ_ ps q=>⟨#[],by rw[q];simp⟩⟩
theorem Un.refl:Un fs ex H H h h:=Un.kept λ_ _ q=>q
theorem Un.laid(k:∀b u,h.get? b=some u->h'.get? b=some u)(hp:h.objs.size<=a)(hn:H a=none):Un fs ex H (upd H a o) h h' where
 keep:=λb u q _ _ _=>k b u q
 slot:=λb u q _ _ _=>⟨u.slots,k b u q⟩
 free:=λb u q n _=>by rw[zM_ (Nat.ne_of_lt (Nat.lt_of_lt_of_le (Heap.lt_size q) hp))];exact n
 there:=λb u q _=>⟨u,k b u q⟩
 tups:=λb xs q=>by rw[zM_ (zA_ q hn)];exact q
 frzs:=λb u xs q=>by rw[zM_ (zA_ q hn)];exact q
 tbls:=λb ps q=>⟨#[],by rw[zM_ (zA_ q hn),q];simp⟩
theorem Un.write(mu:Mut (H x))(he:e=x\/H e=some (.own x))(k:∀b u,b≠e->h.get? b=some u->h'.get? b=some u)(heo:∃u,h'.get? e=some u):Un fs ex H (upd H x o) h h':=by
 have hx:∀b,H b=none->b≠x:=λb n z=>by subst z;rw[n]at mu;exact mu
 have hb:∀b,H b=none->b≠e:=λb n z=>by
  subst z
  rcases he with r|r
  ·exact hx b n r
  ·rw[n]at r;cases r
 have hm:∀b u,H b=some u->¬ Mut (some u)->b≠x:=λb u q nm z=>by subst z;rw[q]at mu;exact nm mu
 refine⟨λb u q n _ _=>k b u (hb b n) q,λb u q n _ _=>⟨u.slots,k b u (hb b n) q⟩,λb u q n _=>by rw[zM_ (hx b n)];exact n,λb u q _=>?_,
  λb xs q=>by rw[zM_ (hm b _ q λz=>z)];exact q,λb u xs q=>by rw[zM_ (hm b _ q λz=>z)];exact q,λb ps q=>⟨#[],by rw[zM_ (hm b _ q λz=>z),q];simp⟩⟩
 by_cases hbe:b=e
 ·subst hbe;exact heo
 ·exact⟨u,k b u hbe q⟩
end
noncomputable def trk(h:Heap)(H:Hp):List Addr:=(List.range h.objs.size).filter λa=>(H a).isSome
def hidT(h:Heap)(H:Hp):Heap:=PySem.W.hideAll h (trk h H)
theorem WL_(h:Heap)(H:Hp):(hidT h H).objs.size=h.objs.size:=PySem.W.hideAll_size _ _
theorem zah_{h:Heap}{H:Hp}{b:Addr}{o:Obj}(e:h.get? b=some o)(n:H b=none):(hidT h H).get? b=some o :=
 PySem.W.hideAll_get _ e λhm=>by
  have q:(H b).isSome=true:=(List.mem_filter.mp hm).2
  rw[n]at q;simp at q
theorem zbY_{h:Heap}{H:Hp}{b:Addr}{o:Obj}(e:(hidT h H).get? b=some o):h.get? b=some o/\H b=none:=by
 have e':h.get? b=some o:=PySem.W.of_hideAll (trk h H) e
 refine⟨e',?_⟩
 cases q:H b with
 | none=>rfl
 | some x =>
  have hm:b∈trk h H:=List.mem_filter.mpr ⟨List.mem_range.mpr (Heap.lt_size e'),by simp[q]⟩
  have z:(hidT h H).get? b=none:=PySem.W.hideAll_none (trk h H) hm
  rw[z]at e;cases e
structure Mod(K:PySem.W.Frag)(mg:Str->Option Value)(base:Heap):Prop where
 kin:K.In base
 glob:base.Ns mainGlobals mg
 blt:∃mb,base.Ns builtinsNs mb/\∀x:Str,x ≠ "__name__" -> mb x=bootBuiltins x
 nolimit:base.NoLimit
structure Cx where
 prog:Program
 w:World
 K:PySem.W.Frag
 mg:Str->Option Value
 base:Heap
 A:Around
 N:List Str
 s₀:Shared
 H₀:Hp
 env:Env
 outer:List Env
 stack:List Env
 ex:List Addr
 fn:Str->Bool
 calm:Bool
 pn:List (Addr×Obj)
 xe:Value->Shared->Prop
noncomputable def frs(l:List Env):List Addr:=l.filterMap (·.frame)
abbrev Cx.fs(X:Cx):List Addr:=frs X.outer
def Vis(sc:Scope)(x:Str):Prop:=sc.names.lookup x=some .local\/sc.names.lookup x=some .cell\/sc.names.lookup x=some .free
def Loc(sc:Scope)(x:Str):Prop:=sc.names.lookup x=some .local\/sc.names.lookup x=some .cell
def Look(env:Env)(h:Heap)(m:Str->Option Value)(x:Str)(u:Value):Prop :=
 (env.kindOf x=some .local/\m x=some u)\/((env.kindOf x=some .cell\/env.kindOf x=some .free)/\∃c,env.cells.lookup x=some c/\h.IsCell c (some u))
structure Cx.Ok(X:Cx):Prop where
 mod:Mod X.K X.mg X.base
 kind:X.env.scope.kind=.function
 glob:X.env.globals=mainGlobals
 blt:X.env.builtins=builtinsNs
 above:X.s₀.heap.objs.size<=X.env.locals
 inj:∀x y c,X.env.cells.lookup x=some c->X.env.cells.lookup y=some c->x=y
 has:∀x,(X.env.kindOf x=some .cell\/X.env.kindOf x=some .free)->∃c,X.env.cells.lookup x=some c
 cab:∀x c,X.fn x=true->X.env.cells.lookup x=some c->X.s₀.heap.objs.size<=c
 hd:X.calm=true->X.A.handled=none
 frames:X.A.frames=some X.stack
 stk:X.stack=X.outer\/(X.stack=X.env::X.outer/\X.env.frame=some X.env.locals)
 exf:∀b∈X.ex,b≠X.env.locals/\∀x c,X.env.cells.lookup x=some c->c≠b
 bs:∀b o,X.base.get? b=some o->X.s₀.heap.get? b=some o/\X.H₀ b=none
 bsz:X.base.objs.size<=X.s₀.heap.objs.size
 noex:∀b o,X.base.get? b=some o->b∉X.ex
 exfs:∀b∈X.ex,b∉X.fs
 funs:X.s₀.heap.FunFrames X.base X.outer
 frf:∀b∈X.fs,X.H₀ b=none
structure Inv(X:Cx)(pins:List (Addr×Obj))(σ:List (Option V))(H:Hp)(s:Shared):Prop where
 ok:X.Ok
 os:s.os=X.s₀.os
 bare:AllBare s.gens
 base:Un X.fs X.ex X.H₀ H X.s₀.heap s.heap
 loc:∃m,s.heap.Ns X.env.locals m/\∀(i:Nat) (x:Str) (v:V),X.N[i]? = some x->σ[i]? = some (some v)->Vis X.env.scope x->∃u,RelV v u/\Look X.env s.heap m x u
 cell:∀x c,X.env.cells.lookup x=some c->∃v,s.heap.IsCell c v
 free:H X.env.locals=none
 freeC:∀x c,X.env.cells.lookup x=some c->H c=none
 pin:∀p∈X.pn++pins,s.heap.get? p.1=some p.2/\H p.1=none/\p.1≠X.env.locals/\p.1∉X.fs/\∀v,p.2.data≠.cell v
 hok:HOk X.prog X.w H s.heap
 len:σ.length=X.N.length
section
variable {X:Cx}{pins:List (Addr×Obj)}{σ:List (Option V)}{H H':Hp}{s:Shared}{h':Heap}
theorem Cx.Ok.nofr(ok:X.Ok){b:Addr}{o:Obj}(e:X.base.get? b=some o):b∉X.fs:=λhb=>by
 have:=(ok.funs.mem hb).1
 rw[e]at this;cases this
theorem Inv.bs(I:Inv X pins σ H s):∀b o,X.base.get? b=some o->s.heap.get? b=some o/\H b=none:=λb o e =>
 ⟨I.base.keep b o (I.ok.bs b o e).1 (I.ok.bs b o e).2 (I.ok.nofr e) (I.ok.noex b o e),I.base.free b o (I.ok.bs b o e).1 (I.ok.bs b o e).2 (I.ok.noex b o e)⟩
theorem Inv.bk(I:Inv X pins σ H s):∀b o,X.base.get? b=some o->s.heap.get? b=some o:=λb o e=>(I.bs b o e).1
theorem Inv.mod(I:Inv X pins σ H s):Mod X.K X.mg X.base:=I.ok.mod
theorem Inv.kIn(I:Inv X pins σ H s):X.K.In s.heap:=I.ok.mod.kin.keeps I.bk
theorem Inv.lt(I:Inv X pins σ H s):X.env.locals<s.heap.objs.size:=let ⟨_,hn,_⟩:=I.loc;hn.lt
theorem Inv.sz(I:Inv X pins σ H s):X.s₀.heap.objs.size<=s.heap.objs.size:=Nat.le_trans I.ok.above (Nat.le_of_lt I.lt)
theorem Inv.nofs(I:Inv X pins σ H s){a:Addr}(h:s.heap.objs.size<=a):a∉X.fs:=λhb=>by
 obtain⟨_,o,ho,_⟩:=I.ok.funs.mem hb
 exact absurd (Nat.lt_of_lt_of_le (Heap.lt_size ho) (Nat.le_trans I.sz h)) (Nat.lt_irrefl _)
theorem Inv.cne(I:Inv X pins σ H s):∀x c,X.env.cells.lookup x=some c->c≠X.env.locals:=λx c e z=>by
 obtain⟨v,o,ho,hd⟩:=I.cell x c e
 obtain⟨m,⟨o',es,ep,ho',hd',_⟩,_⟩:=I.loc
 rw[z,ho']at ho;cases ho;rw[hd']at hd;cases hd
theorem Inv.funs(I:Inv X pins σ H s):s.heap.FunFrames X.base X.outer:=by
 have all:∀(l:List Env),(∀b∈frs l,b∈X.fs)->X.s₀.heap.FunFrames X.base l->s.heap.FunFrames X.base l:=by
  intro l
  induction l with
  | nil=>intro _ _;trivial
  | cons env r ih =>
   intro hs hl
   obtain⟨hk,⟨L,o,hf,hn,ho,hd⟩,hr⟩:=hl
   have hL:L∈X.fs:=hs L (by unfold frs;rw[List.filterMap_cons,hf];exact List.mem_cons_self)
   obtain⟨sl,e⟩:=I.base.slot L o ho (I.ok.frf L hL) hL λz=>I.ok.exfs L z hL
   exact⟨hk,⟨L,_,hf,hn,e,hd⟩,ih (λb hb=>hs b (by unfold frs;rw[List.filterMap_cons,hf];exact zzg _ hb)) hr⟩
 exact all X.outer (λ_ hb=>hb) I.ok.funs
theorem Inv.stack(I:Inv X pins σ H s):s.heap.FunFrames X.base X.stack:=by
 rcases I.ok.stk with e|⟨e,hf⟩
 ·rw[e];exact I.funs
 ·rw[e]
  obtain⟨m,hn,_⟩:=I.loc
  refine .cons (by rw[I.ok.kind];decide) hf hn ?_ I.funs
  exact Heap.get?_none_of_le (Nat.le_trans I.ok.bsz I.ok.above)
theorem Inv.stkSub(I:Inv X pins σ H s):∀b∈frs X.stack,b∈X.env.locals::X.fs:=λb hb=>by
 rcases I.ok.stk with e|⟨e,hf⟩
 ·rw[e]at hb;exact zzg _ hb
 ·rw[e]at hb
  unfold frs at hb
  rw[List.filterMap_cons,hf]at hb
  exact hb
theorem Inv.stkFree(I:Inv X pins σ H s):∀b∈frs X.stack,H b=none:=λb hb=>by
 rcases List.mem_cons.mp (I.stkSub b hb)with e|hb
 ·rw[e];exact I.free
 ·obtain⟨_,o,ho,_⟩:=I.ok.funs.mem hb
  exact I.base.free b o ho (I.ok.frf b hb) λz=>I.ok.exfs b z hb
theorem Inv.step{g':Array GenState}{t':Nat}{d':Drawn}{ch:List Addr}(I:Inv X pins σ H s)
  (hch:∀b∈ch,(b∈X.ex\/X.s₀.heap.objs.size<=b)/\b≠X.env.locals/\(∀x c,X.env.cells.lookup x=some c->c≠b)/\∀p∈X.pn++pins,p.1≠b)
  (keep:∀b o,b≠X.env.locals->b∉X.fs->b∉ch->s.heap.get? b=some o->H b=none->h'.get? b=some o)
  (slot:∀b o,b≠X.env.locals->b∈X.fs->b∉ch->s.heap.get? b=some o->H b=none->∃sl,h'.get? b=some { o with slots:=sl }) (free:∀b o,b∉ch->s.heap.get? b=some o->H b=none->H' b=none)
  (there:∀b o,b∉ch->s.heap.get? b=some o->∃o',h'.get? b=some o')
  (tups:∀b xs,H b=some (.tup xs)->H' b=some (.tup xs)) (frzs:∀b o u,H b=some (.frz o u)->H' b=some (.frz o u)) (tbls:∀b ps,H b=some (.tbl ps)->∃more,H' b=some (.tbl (ps++more)))
  (ns:∀m,s.heap.Ns X.env.locals m->h'.Ns X.env.locals m) (hok:HOk X.prog X.w H' h') (hg:AllBare g') :
  Inv X pins σ H' { s with heap:=h',gens:=g',drawn:=d',toks:=t' }:=by
 have neL:∀b o,X.s₀.heap.get? b=some o->b≠X.env.locals:=λb o e=>Nat.ne_of_lt (Nat.lt_of_lt_of_le (Heap.lt_size e) I.ok.above)
 have neC:∀b o,X.s₀.heap.get? b=some o->b∉X.ex->b∉ch:=λb o e hx hb=>by
  rcases(hch b hb).1 with z|z
  ·exact hx z
  ·exact absurd (Nat.lt_of_lt_of_le (Heap.lt_size e) z) (Nat.lt_irrefl _)
 have cellK:∀x c,X.env.cells.lookup x=some c->∀v,s.heap.IsCell c v->h'.IsCell c v:=λx c e v ⟨o,ho,hd⟩=>by
  have nch:c∉ch:=λz=>(hch c z).2.2.1 x c e rfl
  by_cases hc:c∈X.fs
  ·obtain⟨sl,q⟩:=slot c o (I.cne x c e) hc nch ho (I.freeC x c e)
   exact⟨_,q,hd⟩
  ·exact⟨o,keep c o (I.cne x c e) hc nch ho (I.freeC x c e),hd⟩
 refine⟨I.ok,I.os,hg,⟨λb o e n hb hx=>?_,λb o e n hb hx=>?_,λb o e n hx=>?_,λb o e hx=>?_,λb xs e=>tups b xs (I.base.tups b xs e),λb o xs e=>frzs b o xs (I.base.frzs b o xs e),λb ps e=>?_⟩,?_,λx c e=>?_,?_,λx c e=>?_,λp hp=>?_,hok,I.len⟩
 ·exact keep b o (neL b o e) hb (neC b o e hx) (I.base.keep b o e n hb hx) (I.base.free b o e n hx)
 ·obtain⟨sl,e1⟩:=I.base.slot b o e n hb hx
  obtain⟨sl',e2⟩:=slot b _ (neL b o e) hb (neC b o e hx) e1 (I.base.free b o e n hx)
  exact⟨sl',e2⟩
 ·obtain⟨o',e1⟩:=I.base.there b o e hx
  exact free b o' (neC b o e hx) e1 (I.base.free b o e n hx)
 ·obtain⟨o',e1⟩:=I.base.there b o e hx
  exact there b o' (neC b o e hx) e1
 ·obtain⟨m1,e1⟩:=I.base.tbls b ps e
  obtain⟨m2,e2⟩:=tbls b _ e1
  exact⟨m1++m2,by rw[e2,Array.append_assoc]⟩
 ·obtain⟨m,hn,hl⟩:=I.loc
  refine⟨m,ns m hn,λi x v e1 e2 e3=>?_⟩
  obtain⟨u,r,l⟩:=hl i x v e1 e2 e3
  refine⟨u,r,?_⟩
  rcases l with l|⟨k,c,e,z⟩
  ·exact .inl l
  ·exact .inr ⟨k,c,e,cellK x c e _ z⟩
 ·obtain⟨v,z⟩:=I.cell x c e
  exact⟨v,cellK x c e v z⟩
 ·obtain⟨m,⟨o,_,_,ho,_⟩,_⟩:=I.loc
  exact free _ o (λz=>(hch _ z).2.1 rfl) ho I.free
 ·obtain⟨v,o,ho,hd⟩:=I.cell x c e
  exact free c o (λz=>(hch c z).2.2.1 x c e rfl) ho (I.freeC x c e)
 ·obtain⟨e,n,ne,nf,d⟩:=I.pin p hp
  have nch:p.1∉ch:=λz=>(hch p.1 z).2.2.2 p hp rfl
  exact⟨keep p.1 p.2 ne nf nch e n,free p.1 p.2 nch e n,ne,nf,d⟩
theorem Inv.un{t':Nat}(I:Inv X pins σ H s)(u:Un X.fs [] H H' s.heap h')(hok:HOk X.prog X.w H' h'):Inv X pins σ H' { s with heap:=h',toks:=t' }:=by
 obtain⟨m,⟨o,es,ep,ho,r⟩,_⟩:=id I.loc
 obtain⟨sl,hL⟩:=u.any ho I.free (by simp)
 exact I.step (g':=s.gens) (d':=s.drawn) (ch:=[]) (λ_ z=>nomatch z) (λb o _ hb _ e n=>u.keep b o e n hb (by simp)) (λb o _ hb _ e n=>u.slot b o e n hb (by simp)) (λb o _ e n=>u.free b o e n (by simp)) (λb o _ e=>u.there b o e (by simp)) u.tups u.frzs u.tbls (λm' hm=>by
  obtain⟨o',es',ep',ho',r'⟩:=hm
  rw[ho]at ho';cases ho'
  exact⟨_,es',ep',hL,r'⟩) hok I.bare
theorem Inv.call{g':Array GenState}{t':Nat}{d':Drawn}{ch:List Addr}(I:Inv X pins σ H s)(u:Un (frs X.stack) ch H H' s.heap h')(hok:HOk X.prog X.w H' h')(hg:AllBare g')
  (hch:∀b∈ch,(b∈X.ex\/X.s₀.heap.objs.size<=b)/\b≠X.env.locals/\(∀x c,X.env.cells.lookup x=some c->c≠b)/\∀p∈X.pn++pins,p.1≠b) :
  Inv X pins σ H' { s with heap:=h',gens:=g',drawn:=d',toks:=t' }:=by
 obtain⟨m,⟨o,es,ep,ho,r⟩,_⟩:=id I.loc
 obtain⟨sl,hL⟩:=u.any ho I.free λz=>(hch _ z).2.1 rfl
 exact I.step (ch:=ch) hch (λb o hL hb hc e n=>u.keep b o e n (λz=>(List.mem_cons.mp (I.stkSub b z)).elim hL hb) hc) (λb o _ _ hc e n=>u.any e n hc) (λb o hc e n=>u.free b o e n hc) (λb o hc e=>u.there b o e hc) u.tups u.frzs u.tbls (λm' hm=>by
  obtain⟨o',es',ep',ho',r'⟩:=hm
  rw[ho]at ho';cases ho'
  exact⟨_,es',ep',hL,r'⟩) hok hg
theorem Inv.turned{t':Nat}{it:Addr}(I:Inv X pins σ H s)(k:∀b o,b≠it->s.heap.get? b=some o->h'.get? b=some o)(hn:H it=none)(hL:it≠X.env.locals)
  (h1:it∈X.ex\/X.s₀.heap.objs.size<=it) (h2:∀x c,X.env.cells.lookup x=some c->c≠it) (h3:∀p∈X.pn++pins,p.1≠it):Inv X pins σ H { s with heap:=h',toks:=t' }:=by
 have nit:∀b u,H b=some u->b≠it:=λb u e z=>by rw[z,hn]at e;cases e
 refine I.step (g':=s.gens) (d':=s.drawn) (ch:=[it]) (λb hb=>?_) (λb o _ _ hc e _=>k b o (λz=>hc (by simp[z])) e) (λb o _ _ hc e _=>⟨o.slots,k b o (λz=>hc (by simp[z])) e⟩) (λ_ _ _ _ n=>n)
  (λb o hc e=>⟨o,k b o (λz=>hc (by simp[z])) e⟩) (λ_ _ e=>e) (λ_ _ _ e=>e) (λb ps e=>⟨#[],by rw[e];simp⟩) (λm hm=>?_) (λb u e=>?_) I.bare
 ·have e:b=it:=by simpa using hb
  subst e
  exact⟨h1,hL,h2,h3⟩
 ·obtain⟨o,es,ep,ho,r⟩:=hm
  exact⟨o,es,ep,k _ o (Ne.symm hL) ho,r⟩
 ·refine(I.hok b u e).stay (λc v hc q=>k c v ?_ q) (λ_ q=>q) λ_ _ q=>q
  rcases hc with z|z
  ·rw[z];exact nit b u e
  ·exact nit c _ z
theorem Inv.tok(I:Inv X pins σ H s)(t:Nat):Inv X pins σ H { s with toks:=t }:=I.un (h':=s.heap) (t':=t) Un.refl I.hok
theorem Inv.kept{t':Nat}(I:Inv X pins σ H s)(k:∀b u,s.heap.get? b=some u->h'.get? b=some u):Inv X pins σ H { s with heap:=h',toks:=t' }:=I.un (Un.kept k) (I.hok.kept k)
theorem Inv.laid{a:Addr}{o:HO}{t':Nat}(I:Inv X pins σ H s)(k:∀b u,s.heap.get? b=some u->h'.get? b=some u)(hp:s.heap.objs.size<=a)(new:ObjOk X.prog X.w (upd H a o) h' a o) :
  Inv X pins σ (upd H a o) { s with heap:=h',toks:=t' }:=I.un (Un.laid k hp (I.hok.fresh hp)) (I.hok.laid k hp new)
theorem Inv.write{x e:Addr}{o:HO}{t':Nat}(I:Inv X pins σ H s)(mu:Mut (H x))(he:e=x\/H e=some (.own x))(k:∀b u,b≠e->s.heap.get? b=some u->h'.get? b=some u)(heo:∃u,h'.get? e=some u)
  (new:ObjOk X.prog X.w (upd H x o) h' x o):Inv X pins σ (upd H x o) { s with heap:=h',toks:=t' }:=I.un (Un.write mu he k heo) (I.hok.write mu he k heo new)
theorem Inv.pins_of{pins':List (Addr×Obj)}(I:Inv X pins σ H s)(h:∀p∈pins',s.heap.get? p.1=some p.2/\H p.1=none/\p.1≠X.env.locals/\p.1∉X.fs/\∀v,p.2.data≠.cell v):Inv X pins' σ H s :=
 ⟨I.ok,I.os,I.bare,I.base,I.loc,I.cell,I.free,I.freeC,λp hp=>(List.mem_append.mp hp).elim (λz=>I.pin p (List.mem_append_left _ z)) (h p),I.hok,I.len⟩
theorem Qv_{N:List Str}(hN:N.Nodup){i j:Nat}{x:Str}(a:N[i]? = some x)(b:N[j]? = some x):i=j:=by
 obtain⟨h1,e1⟩:=List.getElem?_eq_some_iff.mp a
 obtain⟨h2,e2⟩:=List.getElem?_eq_some_iff.mp b
 exact(List.getElem_inj hN).mp (e1.trans e2.symm)
theorem Uo_{M:Model}{A:Around}{E:Value->Shared->Prop}{i:Nat}{x:Str}{v:V}{u:Value}{Q:Unit->Shared->Prop}(I:Inv X pins σ H s)(hN:X.N.Nodup)(hi:X.N[i]? = some x)(hx:Loc X.env.scope x)(r:RelV v u)
  (h:∀s',Inv X pins (σ.set i (some v)) H s'->(∃a,Heap.SameBut a s.heap s'.heap/\(a=X.env.locals\/X.env.cells.lookup x=some a))->Q () s') (hf:X.fn x=true\/X.env.scope.names.lookup x=some .local:=by first|exact .inl rfl|exact .inr rfl|assumption):wpAny M A (storeName X.env x u) Q E s:=by
 obtain⟨m,hn,hl⟩:=id I.loc
 have hcls:(X.env.scope.kind==.class||(X.env.scope.kind==.module&&X.env.locals != X.env.globals))=false:=by rw[I.ok.kind];rfl
 have hiσ:i<σ.length:=by rw[I.len];exact(List.getElem?_eq_some_iff.mp hi).1
 have cne:=I.cne
 have tracked:∀{a:Addr} {h':Heap},(∃o,s.heap.get? a=some o/\H a=none)->Heap.SameBut a s.heap h'->HOk X.prog X.w H h':=λ{a h'} ha hs b ob e=>by
  obtain⟨_,_,hfree⟩:=ha
  refine(I.hok b ob e).stay (λc w' hc q=>(hs.2 c ?_).trans q) (λ_ q=>q) λ_ _ q=>q
  rintro rfl
  rcases hc with rfl|hc
  ·rw[hfree]at e;cases e
  ·rw[hfree]at hc;cases hc
 rcases hx with hk|hk
 ·refine wpAny_storeName_local hk hn (λh' hn' hs=>?_) hcls
  obtain⟨oL,_,_,hoL,_⟩:=id hn
  refine h _ ⟨I.ok,I.os,I.bare,⟨λb o e n hb hx=>?_,λb o e n hb hx=>?_,I.base.free,λb o e hx=>?_,I.base.tups,I.base.frzs,I.base.tbls⟩,⟨_,hn',λj y v' e1 e2 e3=>?_⟩,λy c e=>?_,I.free,I.freeC,λp hp=>?_,tracked ⟨oL,hoL,I.free⟩ hs,by simpa using I.len⟩ ⟨_,hs,.inl rfl⟩
  ·exact(hs.2 b (Nat.ne_of_lt (Nat.lt_of_lt_of_le (Heap.lt_size e) I.ok.above))).trans (I.base.keep b o e n hb hx)
  ·obtain⟨sl,e1⟩:=I.base.slot b o e n hb hx
   exact⟨sl,(hs.2 b (Nat.ne_of_lt (Nat.lt_of_lt_of_le (Heap.lt_size e) I.ok.above))).trans e1⟩
  ·obtain⟨o',e1⟩:=I.base.there b o e hx
   exact⟨o',(hs.2 b (Nat.ne_of_lt (Nat.lt_of_lt_of_le (Heap.lt_size e) I.ok.above))).trans e1⟩
  ·by_cases hj:j=i
   ·subst hj
    rw[hi]at e1;cases e1
    rw[List.getElem?_set_self hiσ]at e2
    cases e2
    exact⟨u,r,.inl ⟨hk,by simp⟩⟩
   ·rw[List.getElem?_set_ne (Ne.symm hj)]at e2
    obtain⟨u',r',q⟩:=hl j y v' e1 e2 e3
    refine⟨u',r',?_⟩
    rcases q with ⟨k,e⟩|⟨k,c,e,z⟩
    ·refine .inl ⟨k,?_⟩
     have:y≠x:=λe=>hj (Qv_ hN e1 (e▸hi))
     simp[this,e]
    ·exact .inr ⟨k,c,e,z.sameBut hs (cne y c e)⟩
  ·obtain⟨w',z⟩:=I.cell y c e
   exact⟨w',z.sameBut hs (cne y c e)⟩
  ·obtain⟨e,n,ne,nf,d⟩:=I.pin p hp
   exact⟨(hs.2 p.1 ne).trans e,n,ne,nf,d⟩
 ·have hfn:X.fn x=true:=by
   rcases hf with z|z
   ·exact z
   ·rw[z]at hk;cases hk
  obtain⟨c,hc⟩:=I.ok.has x (.inl hk)
  obtain⟨w',z⟩:=I.cell x c hc
  refine wpAny_storeName_cell I.ok.kind hk hc z (λh' hc' hs=>?_)
  obtain⟨oc,hoc,hocd⟩:=id z
  refine h { s with heap:=h' } ⟨I.ok,I.os,I.bare,⟨λb o e n hb hx=>?_,λb o e n hb hx=>?_,I.base.free,λb o e hx=>?_,I.base.tups,I.base.frzs,I.base.tbls⟩,⟨m,hn.sameBut hs (Ne.symm (cne x c hc)),λj y v' e1 e2 e3=>?_⟩,λy c' e=>?_,I.free,I.freeC,λp hp=>?_,tracked ⟨oc,hoc,I.freeC x c hc⟩ hs,by simpa using I.len⟩ ⟨c,hs,.inr hc⟩
  ·exact(hs.2 b (Nat.ne_of_lt (Nat.lt_of_lt_of_le (Heap.lt_size e) (I.ok.cab x c hfn hc)))).trans (I.base.keep b o e n hb hx)
  ·obtain⟨sl,e1⟩:=I.base.slot b o e n hb hx
   exact⟨sl,(hs.2 b (Nat.ne_of_lt (Nat.lt_of_lt_of_le (Heap.lt_size e) (I.ok.cab x c hfn hc)))).trans e1⟩
  ·obtain⟨o',e1⟩:=I.base.there b o e hx
   exact⟨o',(hs.2 b (Nat.ne_of_lt (Nat.lt_of_lt_of_le (Heap.lt_size e) (I.ok.cab x c hfn hc)))).trans e1⟩
  ·by_cases hj:j=i
   ·subst hj
    rw[hi]at e1;cases e1
    rw[List.getElem?_set_self hiσ]at e2
    cases e2
    exact⟨u,r,.inr ⟨.inl hk,c,hc,hc'⟩⟩
   ·rw[List.getElem?_set_ne (Ne.symm hj)]at e2
    obtain⟨u',r',q⟩:=hl j y v' e1 e2 e3
    refine⟨u',r',?_⟩
    rcases q with q|⟨k,c',e,z'⟩
    ·exact .inl q
    ·refine .inr ⟨k,c',e,z'.sameBut hs ?_⟩
     rintro rfl
     exact hj (Qv_ hN e1 (I.ok.inj _ _ _ e hc▸hi))
  ·by_cases hcc:c'=c
   ·subst hcc;exact⟨_,hc'⟩
   ·obtain⟨w2,z2⟩:=I.cell y c' e
    exact⟨w2,z2.sameBut hs hcc⟩
  ·obtain⟨e,n,ne,nf,d⟩:=I.pin p hp
   refine⟨(hs.2 p.1 ?_).trans e,n,ne,nf,d⟩
   intro q
   rw[q,hoc]at e
   have q':oc=p.2:=Option.some.inj e
   exact d w' (by rw[<-q'];exact hocd)
theorem Za_{M:Model}{A:Around}{E:Value->Shared->Prop}{i:Nat}{x:Str}{v:V}{u:Value}{Q:Unit->Shared->Prop}(I:Inv X pins σ H s)(hN:X.N.Nodup)(hi:X.N[i]? = some x)(hx:Loc X.env.scope x)(r:RelV v u)
  (h:∀s',Inv X pins (σ.set i (some v)) H s'->Q () s') (hf:X.fn x=true\/X.env.scope.names.lookup x=some .local:=by first|exact .inl rfl|exact .inr rfl|assumption):wpAny M A (storeName X.env x u) Q E s :=
 Uo_ I hN hi hx r (λs' I' _=>h s' I') hf
theorem Inv.call'{s':Shared}{ch:List Addr}(I:Inv X pins σ H s)(ho:s'.os=s.os)(u:Un (frs X.stack) ch H H' s.heap s'.heap)(hok:HOk X.prog X.w H' s'.heap)(hg:AllBare s'.gens)
  (hch:∀b∈ch,(b∈X.ex\/X.s₀.heap.objs.size<=b)/\b≠X.env.locals/\(∀x c,X.env.cells.lookup x=some c->c≠b)/\∀p∈X.pn++pins,p.1≠b):Inv X pins σ H' s':=by
 obtain⟨h',g',d',t',o'⟩:=s'
 have e:o'=s.os:=ho
 subst e
 exact I.call (g':=g') (t':=t') (d':=d') u hok hg hch
end
noncomputable abbrev XK:=Value->Option Addr->Hp->Prop
noncomputable abbrev St:=List (Option V)
noncomputable abbrev VK:=V->Hp->Prop
noncomputable abbrev TE:=St->Hp->VK->Prop
noncomputable abbrev TT:=St->Hp->(Bool->Hp->Prop)->Prop
noncomputable abbrev TA:=St->Hp->(List V->Hp->Prop)->Prop
structure Ends where
 nx:St->Hp->Prop
 rt:VK
 bk:St->Hp->Prop:=λ_ _=>False
 ct:St->Hp->Prop:=λ_ _=>False
noncomputable abbrev TS:=Ends->St->Hp->Prop
def EP(X:Cx)(pins:List (Addr×Obj))(σ:St)(Q:VK)(u:Value)(s':Shared):Prop:=∃v H',Inv X pins σ H' s'/\RelV v u/\Q v H'
def TP(X:Cx)(pins:List (Addr×Obj))(σ:St)(Q:Bool->Hp->Prop)(b:Bool)(s':Shared):Prop:=∃H',Inv X pins σ H' s'/\Q b H'
def AP(X:Cx)(pins:List (Addr×Obj))(σ:St)(Q:List V->Hp->Prop)(us:List Value)(s':Shared):Prop:=∃vs H',Inv X pins σ H' s'/\Vals vs us/\Q vs H'
def SP(X:Cx)(pins:List (Addr×Obj))(D:Ends)(f:Flow)(s':Shared):Prop :=
 match f with
 | .next=>∃σ' H',Inv X pins σ' H' s'/\D.nx σ' H'
 | .brk=>∃σ' H',Inv X pins σ' H' s'/\D.bk σ' H'
 | .cont=>∃σ' H',Inv X pins σ' H' s'/\D.ct σ' H'
 | .ret u=>∃v σ' H',Inv X pins σ' H' s'/\RelV v u/\D.rt v H'
def PE(X:Cx)(e:Expr)(t:TE):Prop :=
 ∀(pins:List (Addr×Obj)) (s:Shared) (σ:St) (H:Hp) (Q:VK),Inv X pins σ H s->t σ H Q->wpAny (model X.prog X.w) X.A (eval e X.env) (EP X pins σ Q) X.xe s
def PT(X:Cx)(e:Expr)(t:TT):Prop :=
 ∀(pins:List (Addr×Obj)) (s:Shared) (σ:St) (H:Hp) (Q:Bool->Hp->Prop),Inv X pins σ H s->t σ H Q->wpAny (model X.prog X.w) X.A (isTrue e X.env (eval e X.env)) (TP X pins σ Q) X.xe s
def PW(X:Cx)(e:Expr)(t:TT):Prop :=
 ∀(whole:Sem Value) (pins:List (Addr×Obj)) (s:Shared) (σ:St) (H:Hp) (Q:Bool->Hp->Prop),Inv X pins σ H s->t σ H Q->wpAny (model X.prog X.w) X.A (isTrue e X.env whole) (TP X pins σ Q) X.xe s
def PA(X:Cx)(es:List Expr)(t:TA):Prop :=
 ∀(pos:Pos) (pins:List (Addr×Obj)) (s:Shared) (σ:St) (H:Hp) (Q:List V->Hp->Prop),Inv X pins σ H s->t σ H Q->wpAny (model X.prog X.w) X.A (spliced (backTo pos (starEach es X.env))) (AP X pins σ Q) X.xe s
def PS(X:Cx)(st:Stmt)(t:TS):Prop :=
 ∀(pins:List (Addr×Obj)) (s:Shared) (σ:St) (H:Hp) (D:Ends),Inv X pins σ H s->t D σ H->wpAny (model X.prog X.w) X.A (exec st X.env) (SP X pins D) X.xe s
def PSs(X:Cx)(st:List Stmt)(t:TS):Prop :=
 ∀(pins:List (Addr×Obj)) (s:Shared) (σ:St) (H:Hp) (D:Ends),Inv X pins σ H s->t D σ H->wpAny (model X.prog X.w) X.A (execs st X.env) (SP X pins D) X.xe s
theorem thn{α:Type}{t:Sem α}{Q Q':α->Shared->Prop}{M:Model}{A:Around}{E:Value->Shared->Prop}{s:Shared}(h:wpAny M A t Q E s)(hQ:∀a s,Q a s->Q' a s):wpAny M A t Q' E s:=wpAny_mono h hQ λ_ _ x=>x
section
variable {X:Cx}
noncomputable def tVar(i:Nat):TE:=λσ H Q=>∃v,σ[i]? = some (some v)/\Q v H
noncomputable def tC(v:V):TE:=λ_ H Q=>Q v H
theorem UC_{i:Nat}{x:Str}{pos:Pos}(hN:X.N[i]? = some x)(hv:Vis X.env.scope x)(hd:(x==("__debug__" : Str))=false:=by decide)(hcd:(x==("__classdict__" : Str))=false:=by decide):PE X (.Name x pos) (tVar i):=by
 intro pins s σ H Q I h
 obtain⟨v,e,h⟩:=h
 obtain⟨m,hn,hl⟩:=I.loc
 obtain⟨u,r,l⟩:=hl i x v hN e hv
 have fin:EP X pins σ Q u s:=⟨v,H,I,r,h⟩
 rcases l with ⟨hk,hm⟩|⟨hk,c,hc,hcell⟩
 ·exact wpAny_Name (wpAny_loadName_local I.ok.kind hk hn hm fin) hd
 ·rcases hk with hk|hk
  ·exact wpAny_Name (wpAny_loadName_cell I.ok.kind hk hc hcell fin) hd
  ·exact wpAny_Name (wpAny_loadName_free I.ok.kind hk hc hcell fin hcd) hd
theorem zdI_{i j pos}:PE X (.Constant (.int i) j pos) (tC (.int i)):=λ_ _ _ H _ I h=>wpAny_Constant_int ⟨.int i,H,I.tok _,⟨_,rfl⟩,h⟩
theorem zfo_{b j pos}:PE X (.Constant (.bool b) j pos) (tC (.bl b)):=λ_ _ _ H _ I h=>Constant_bool ⟨.bl b,H,I,rfl,h⟩
theorem zdG_{j pos}:PE X (.Constant .none j pos) (tC .non):=λ_ _ _ H _ I h=>Constant_none ⟨.non,H,I,rfl,h⟩
theorem zdC_{x j pos}:PE X (.Constant (.str x) j pos) (tC (.str x)):=λ_ _ _ H _ I h=>Calls.Constant_str ⟨.str x,H,I.tok _,⟨_,rfl⟩,h⟩
def Gl(X:Cx)(x:Str):Prop:=X.env.kindOf x=some .globalImplicit
theorem Wx_{E:Value->Shared->Prop}{pins:List (Addr×Obj)}{s:Shared}{σ:St}{H:Hp}{x:Str}{u:Value}{pos:Pos}{Q:Value->Shared->Prop}(I:Inv X pins σ H s)(hg:Gl X x)(hm:X.mg x=some u)(h:Q u s)
  (hd:(x==("__debug__" : Str))=false:=by decide):wpAny (model X.prog X.w) X.A (eval (.Name x pos) X.env) Q E s :=
 Calls.Name_function_global I.ok.kind hg (Calls.loadGlobal_global (by rw[I.ok.glob];exact I.mod.glob.keeps I.bk) hm h) hd
theorem UY_{E:Value->Shared->Prop}{pins:List (Addr×Obj)}{s:Shared}{σ:St}{H:Hp}{x:Str}{u:Value}{pos:Pos}{Q:Value->Shared->Prop}(I:Inv X pins σ H s)(hg:Gl X x)(hm:X.mg x=none)(hv:bootBuiltins x=some u)(h:Q u s)
  (hn:x ≠ "__name__":=by decide) (hd:(x==("__debug__" : Str))=false:=by decide):wpAny (model X.prog X.w) X.A (eval (.Name x pos) X.env) Q E s:=by
 obtain⟨mb,h1,h2⟩:=I.mod.blt
 exact Calls.Name_function_global I.ok.kind hg (Calls.loadGlobal_builtin (by rw[I.ok.glob];exact I.mod.glob.keeps I.bk) hm (by rw[I.ok.blt];exact h1.keeps I.bk) ((h2 x hn).trans hv) h) hd
theorem zbO_{x:Str}{v:V}{u:Value}{pos:Pos}(hg:Gl X x)(hm:X.mg x=some u)(r:RelV v u)(hd:(x==("__debug__" : Str))=false:=by decide):PE X (.Name x pos) (tC v) :=
 λ_ _ _ H _ I h=>Wx_ I hg hm ⟨v,H,I,r,h⟩ hd
theorem zbP_{x:Str}{v:V}{u:Value}{pos:Pos}(hg:Gl X x)(hm:X.mg x=none)(hv:bootBuiltins x=some u)(r:RelV v u)(hn:x ≠ "__name__":=by decide)(hd:(x==("__debug__" : Str))=false:=by decide):PE X (.Name x pos) (tC v) :=
 λ_ _ _ H _ I h=>UY_ I hg hm hv ⟨v,H,I,r,h⟩ hn hd
variable {a b:Expr}{ta tb:TE}{pos:Pos}
variable {tA tB':TT}{rest:List Expr}
noncomputable def tAnd(t u:TT):TT:=λσ H Q=>t σ H λc H1=>if c=true then u σ H1 Q else Q false H1
noncomputable def tOr(t u:TT):TT:=λσ H Q=>t σ H λc H1=>if c=true then Q true H1 else u σ H1 Q
noncomputable def tNot(t:TT):TT:=λσ H Q=>t σ H λc H1=>Q (!c) H1
theorem V6_(ha:PT X a tA):PW X (.BoolOp .And [a] pos) tA:=by
 intro wh pins s σ H Q I h
 refine isTrue_and (thn (ha pins s σ H Q I h) λc s1 e=>?_)
 cases c with
 | true=>exact isTrue_and_nil e
 | false=>exact e
theorem zdv_(ha:PT X a tA):PW X (.BoolOp .Or [a] pos) tA:=by
 intro wh pins s σ H Q I h
 refine isTrue_or (thn (ha pins s σ H Q I h) λc s1 e=>?_)
 cases c with
 | false=>exact isTrue_or_nil e
 | true=>exact e
theorem zaE_(ha:PT X a tA)(hb:PW X (.BoolOp .And (b::rest) pos) tB'):PW X (.BoolOp .And (a::b::rest) pos) (tAnd tA tB'):=by
 intro wh pins s σ H Q I h
 refine isTrue_and (thn (ha pins s σ H _ I h) λc s1 ⟨H1,I1,q1⟩=>?_)
 cases c with
 | true=>exact hb wh pins s1 σ H1 Q I1 q1
 | false=>exact⟨H1,I1,q1⟩
theorem zfk_(ha:PT X a tA)(hb:PW X (.BoolOp .Or (b::rest) pos) tB'):PW X (.BoolOp .Or (a::b::rest) pos) (tOr tA tB'):=by
 intro wh pins s σ H Q I h
 refine isTrue_or (thn (ha pins s σ H _ I h) λc s1 ⟨H1,I1,q1⟩=>?_)
 cases c with
 | true=>exact⟨H1,I1,q1⟩
 | false=>exact hb wh pins s1 σ H1 Q I1 q1
theorem zdw_(ha:PT X a tA):PT X (.UnaryOp .Not a pos) (tNot tA):=by
 intro pins s σ H Q I h
 exact isTrue_not (ha pins s σ H (λc H1=>Q (!c) H1) I h)
noncomputable def zeZ_(ta tb:TE):TE:=λσ H Q=>ta σ H λx H1=>∃c,x=.bl c/\if c=true then tb σ H1 Q else Q (.bl false) H1
noncomputable def zeV_(ta:TE):TE:=λσ H Q=>ta σ H λx H1=>∃c,x=.bl c/\Q (.bl (!c)) H1
theorem zdE_{op}{t:TE}(h:PE X a t):PE X (.BoolOp op [a] pos) t:=λpins s σ H Q I hw=>BoolOp_one (h pins s σ H Q I hw)
theorem zdJ_(ha:PE X a ta)(hb:PE X (.BoolOp .And (b::rest) pos) tb):PE X (.BoolOp .And (a::b::rest) pos) (zeZ_ ta tb):=by
 intro pins s σ H Q I h
 refine BoolOp_and (thn (ha pins s σ H _ I h) λv s1 ⟨x,H1,I1,r1,q1⟩=>?_)
 obtain⟨c,rfl,q1⟩:=q1
 cases r1
 refine wpAny_truthy_bool ?_
 cases c with
 | true=>exact hb pins s1 σ H1 Q I1 q1
 | false=>exact⟨.bl false,H1,I1,rfl,q1⟩
theorem zdF_(ha:PE X a ta):PE X (.UnaryOp .Not a pos) (zeV_ ta):=by
 intro pins s σ H Q I h
 refine UnaryOp_ (thn (ha pins s σ H _ I h) λv s1 ⟨x,H1,I1,r1,q1⟩=>?_)
 obtain⟨c,rfl,q1⟩:=q1
 cases r1
 exact not_of (wpAny_truthy_bool ⟨.bl (!c),H1,I1,rfl,q1⟩)
noncomputable def tIf(t:TT)(ta tb:TE):TE:=λσ H Q=>t σ H λc H1=>if c=true then ta σ H1 Q else tb σ H1 Q
theorem Qq_{c:Expr}(hc:PT X c tA)(ha:PE X a ta)(hb:PE X b tb):PE X (.IfExp c a b pos) (tIf tA ta tb):=by
 intro pins s σ H Q I h
 refine wpAny_IfExp (thn (hc pins s σ H _ I h) λd s1 ⟨H1,I1,q1⟩=>?_)
 cases d with
 | true=>exact ha pins s1 σ H1 Q I1 q1
 | false=>exact hb pins s1 σ H1 Q I1 q1
end
def SqL(K:PySem.W.Frag)(H:Hp)(a:Addr)(xs:List V):Prop :=
 Rd H a (.lst xs) \/
  ∃(o:Obj) (its:Array Value) (n:Nat),K.lookup a=some o/\o.cls=.type "list" /\ o.dict=none/\o.data=.seq its n/\its.size<=sizeLine/\Vals xs its.toList
def SqT(K:PySem.W.Frag)(H:Hp)(a:Addr)(xs:List V):Prop :=
 Rd H a (.tup xs) \/
  ∃(o:Obj) (its:Array Value) (n:Nat),K.lookup a=some o/\o.cls=.type "tuple" /\ o.data=.seq its n/\its.size<=sizeLine/\Vals xs its.toList
noncomputable def absV:Value->Option V
 | .none=>some .non
 | .bool b=>some (.bl b)
 | .int i _=>some (.int i)
 | .str x _=>some (.str x)
 | .bytes b _=>some (.byt b)
 | .float b _=>some (.flt b)
 | .ref a=>some (.ref a)
 | .type n=>some (.ty n)
 | _=>none
theorem RelV.abs{x:V}{u:Value}(r:RelV x u):absV u=some x:=by
 cases x with
 | non=>cases r;rfl
 | bl _=>cases r;rfl
 | int _=>obtain⟨t,rfl⟩:=r;rfl
 | str _=>obtain⟨t,rfl⟩:=r;rfl
 | byt _=>obtain⟨t,rfl⟩:=r;rfl
 | flt _=>obtain⟨t,rfl⟩:=r;rfl
 | ref _=>cases r;rfl
 | ty _=>cases r;rfl
theorem RelV.inj{x y:V}{u:Value}(r:RelV x u)(q:RelV y u):x=y:=Option.some.inj (r.abs.symm.trans q.abs)
theorem Vals.inj:∀{xs ys:List V} {us:List Value},Vals xs us->Vals ys us->xs=ys:=by
 intro xs ys us h
 induction h generalizing ys with
 | nil=>intro h2;cases h2;rfl
 | cons r _ ih =>
  intro h2
  cases h2 with
  | cons r' t'=>rw[r.inj r',ih t']
section
variable {X:Cx}{pins:List (Addr×Obj)}{σ:St}{H:Hp}{s:Shared}{a:Addr}{xs ys:List V}
theorem SqT.of{K:PySem.W.Frag}(h:H a=some (.tup xs)):SqT K H a xs:=.inl (.inl h)
theorem Inv.list(I:Inv X pins σ H s)(h:SqL X.K H a xs):∃its:List Value,Vals xs its/\PlainL s.heap a its.toArray/\xs.length<=sizeLine:=by
 rcases h with h|⟨o,its,n,hk,hc,hd,hs,hz,r⟩
 ·obtain⟨z,its,n,r,e⟩:=h.ok I.hok
  exact⟨its,r,⟨_,n,e,rfl,rfl,rfl⟩,z⟩
 ·refine⟨its.toList,r,⟨o,n,I.kIn a o hk,hc,hd,by simpa using hs⟩,?_⟩
  have e:=r.length
  simp only[Array.length_toList]at e
  lia
theorem Inv.tuple(I:Inv X pins σ H s)(h:SqT X.K H a xs):∃its:List Value,Vals xs its/\IsTup s.heap a its.toArray/\xs.length<=sizeLine:=by
 rcases h with h|⟨o,its,n,hk,hc,hs,hz,r⟩
 ·obtain⟨z,its,r,p⟩:=h.ok I.hok
  exact⟨its,r,p.1,z⟩
 ·refine⟨its.toList,r,⟨o,I.kIn a o hk,hc,n,by simpa using hs⟩,?_⟩
  have e:=r.length
  simp only[Array.length_toList]at e
  lia
theorem Inv.list_inj(I:Inv X pins σ H s)(h:SqL X.K H a xs)(h':SqL X.K H a ys):xs=ys:=by
 obtain⟨its,r,⟨o,n,e,_,_,d⟩,_⟩:=I.list h
 obtain⟨its',r',⟨o',n',e',_,_,d'⟩,_⟩:=I.list h'
 rw[e]at e';cases e'
 rw[d]at d'
 injection d' with d1 _
 have:its=its':=by simpa using congrArg Array.toList d1
 subst this
 exact r.inj r'
theorem Inv.tuple_inj(I:Inv X pins σ H s)(h:SqT X.K H a xs)(h':SqT X.K H a ys):xs=ys:=by
 obtain⟨its,r,⟨o,e,_,n,d⟩,_⟩:=I.tuple h
 obtain⟨its',r',⟨o',e',_,n',d'⟩,_⟩:=I.tuple h'
 rw[e]at e';cases e'
 rw[d]at d'
 injection d' with d1 _
 have:its=its':=by simpa using congrArg Array.toList d1
 subst this
 exact r.inj r'
end
section
variable {X:Cx}{st:Stmt}{rest:List Stmt}{t u:TS}{e:Expr}{te:TE}{pos:Pos}
noncomputable def zeW_:TS:=λD σ H=>D.nx σ H
noncomputable def tSeq(t u:TS):TS:=λD σ H=>t { D with nx:=u D } σ H
theorem zbI_:PSs X [] zeW_:=λ_ _ σ H _ I h=>wpAny_execs_nil ⟨σ,H,I,h⟩
theorem XP_(h1:PS X st t)(h2:PSs X rest u):PSs X (st::rest) (tSeq t u):=by
 intro pins s σ H D I h
 refine wpAny_execs_cons (thn (h1 pins s σ H { D with nx:=u D } I h) λf s1 q=>?_)
 cases f with
 | next =>
  obtain⟨σ',H',I',q⟩:=q
  exact h2 pins s1 σ' H' D I' q
 | ret v=>exact q
 | brk=>exact q
 | cont=>exact q
theorem zbH_(h1:PS X st t):PSs X [st] t:=by
 intro pins s σ H D I h
 refine wpAny_execs_cons (thn (h1 pins s σ H D I h) λf s1 q=>?_)
 cases f with
 | next=>exact wpAny_execs_nil q
 | ret v=>exact q
 | brk=>exact q
 | cont=>exact q
theorem Inv.quiet{pins:List (Addr×Obj)}{σ:St}{H:Hp}{s:Shared}(I:Inv X pins σ H s):interactive X.env=false:=by simp[interactive,I.ok.kind]
noncomputable def zeX_(te:TE):TS:=λD σ H=>te σ H λ_ H1=>D.nx σ H1
theorem zbJ_(he:PE X e te)(hs:swapsWith e none pos.line X.env=pure false:=by rfl):PS X (.Expr e pos) (zeX_ te):=by
 intro pins s σ H D I h
 exact wpAny_Expr_any (thn (he pins s σ H _ I h) λv s1 ⟨x,H1,I1,r1,q1⟩=>⟨σ,H1,I1,q1⟩) I.quiet hs
noncomputable def tRet(te:TE):TS:=λD σ H=>te σ H D.rt
theorem zaH_(he:PE X e te):PS X (.Return (some e) pos) (tRet te):=by
 intro pins s σ H D I h
 exact wpAny_Return_some (thn (he pins s σ H _ I h) λv s1 ⟨x,H1,I1,r1,q1⟩=>⟨x,σ,H1,I1,r1,q1⟩)
noncomputable def tIfS(c:TT)(t u:TS):TS:=λD σ H=>c σ H λb H1=>if b=true then t D σ H1 else u D σ H1
theorem zfl_{c:Expr}{a b:List Stmt}{tc:TT}(hc:PT X c tc)(ha:PSs X a t)(hb:PSs X b u):PS X (.If c a b pos) (tIfS tc t u):=by
 intro pins s σ H D I h
 refine wpAny_If (thn (hc pins s σ H _ I h) λd s1 ⟨H1,I1,q1⟩=>?_)
 cases d with
 | true=>exact ha pins s1 σ H1 D I1 q1
 | false=>exact hb pins s1 σ H1 D I1 q1
end
noncomputable abbrev TG:=V->St->Hp->(St->Hp->Prop)->Prop
noncomputable abbrev TGs:=List V->St->Hp->(St->Hp->Prop)->Prop
def PG(X:Cx)(target:Expr)(t:TG):Prop :=
 ∀(pins:List (Addr×Obj)) (s:Shared) (σ:St) (H:Hp) (v:V) (u:Value) (Q:St->Hp->Prop),Inv X pins σ H s->RelV v u->t v σ H Q ->
  wpAny (model X.prog X.w) X.A (assign target X.env u) (λ_ s'=>∃σ' H',Inv X pins σ' H' s'/\Q σ' H') X.xe s
def PGs(X:Cx)(ts:List Expr)(t:TGs):Prop :=
 ∀(pins:List (Addr×Obj)) (s:Shared) (σ:St) (H:Hp) (vs:List V) (us:List Value) (Q:St->Hp->Prop),Inv X pins σ H s->Vals vs us->t vs σ H Q ->
  wpAny (model X.prog X.w) X.A (assignInOrder ((assignEach ts X.env).map (·.2)) us) (λ_ s'=>∃σ' H',Inv X pins σ' H' s'/\Q σ' H') X.xe s
noncomputable abbrev TSet:=V->V->V->Hp->(Hp->Prop)->Prop
def PSet(X:Cx)(t:TSet):Prop :=
 ∀(pins:List (Addr×Obj)) (s:Shared) (σ:St) (H:Hp) (o i v:V) (ov iv u:Value) (Q:Hp->Prop),Inv X pins σ H s->RelV o ov->RelV i iv->RelV v u->t o i v H Q ->
  wpAny (model X.prog X.w) X.A (setItem ov iv u) (λ_ s'=>∃H',Inv X pins σ H' s'/\Q H') X.xe s
section
variable {X:Cx}{pos:Pos}
noncomputable def zaj_(i:Nat):TG:=λv σ H Q=>Q (σ.set i (some v)) H
theorem zbN_{i:Nat}{x:Str}(hN:X.N.Nodup)(hi:X.N[i]? = some x)(hx:Loc X.env.scope x)(hf:X.fn x=true\/X.env.scope.names.lookup x=some .local:=by first|exact .inl rfl|exact .inr rfl|assumption):PG X (.Name x pos) (zaj_ i):=by
 intro pins s σ H v u Q I r h
 exact wpAny_assign_Name (Za_ I hN hi hx r (λs' I'=>⟨_,H,I',h⟩) hf)
noncomputable def gNil:TGs:=λvs σ H Q=>vs=[]/\Q σ H
noncomputable def zfG_(t:TG)(u:TGs):TGs:=λvs σ H Q=>∃v r,vs=v::r/\t v σ H λσ' H'=>u r σ' H' Q
theorem zbM_:PGs X [] gNil:=by
 intro pins s σ H vs us Q I r h
 obtain⟨e,h⟩:=h
 subst e
 cases r
 exact assignInOrder_nil ⟨σ,H,I,h⟩
theorem XR_{e:Expr}{es:List Expr}{t:TG}{u:TGs}(h1:PG X e t)(h2:PGs X es u)
  (hs:(assignEach (e::es) X.env).map (·.2)=assign e X.env::(assignEach es X.env).map (·.2):=by rfl):PGs X (e::es) (zfG_ t u):=by
 intro pins s σ H vs us Q I r h
 obtain⟨v,vr,e1,h⟩:=h
 subst e1
 cases r with
 | cons r rr =>
  rw[hs]
  refine assignInOrder_cons (thn (h1 pins s σ H _ _ _ I r h) λ_ s1 ⟨σ1,H1,I1,q1⟩=>?_)
  exact h2 pins s1 σ1 H1 _ _ Q I1 rr q1
noncomputable def gTup(K:PySem.W.Frag)(n:Nat)(t:TGs):TG:=λv σ H Q=>∃a xs,v=.ref a/\SqT K H a xs/\xs.length=n/\t xs σ H Q
theorem zdA_{es:List Expr}{k:Nat}{t:TGs}{n:Nat}(hc:X.calm=true)(h:PGs X es t)
  (hn:(assignEach es X.env).length=n:=by rfl) (hst:(assignEach es X.env).findIdx? (·.1)=none:=by rfl):PG X (.Tuple es k pos) (gTup X.K n t):=by
 intro pins s σ H v u Q I r hw
 obtain⟨a,xs,e1,hq,hl,hw⟩:=hw
 subst e1
 cases r
 obtain⟨its,rv,ht,hz⟩:=I.tuple hq
 refine assign_Tuple_tuple (I.ok.hd hc) ht (by simp[hn,<-hl,rv.length]) hst λh' hx=>?_
 have I1:Inv X pins σ H { s with heap:=h' }:=I.kept (t':=s.toks) λb o e=>hx b o (Nat.ne_of_lt (Heap.lt_size e)) e
 exact h pins _ σ H xs _ Q I1 (by simpa using rv) hw
noncomputable def gSub(to ti:TE)(t:TSet):TG:=λv σ H Q=>to σ H λo H1=>ti σ H1 λi H2=>t o i v H2 λH3=>Q σ H3
theorem zdB_{o i:Expr}{to ti:TE}{t:TSet}(ho:PE X o to)(hi:PE X i ti)(hs:PSet X t)
  (ha:∀v,assign (.Subscript o i pos) X.env v=(do
   let ov <-holding [v] (eval o X.env)
   let iv <-holding [v,ov] (eval i X.env)
   standAt pos
   holding [v,ov,iv] (setItem ov iv v)
   release [v,ov,iv] []):=by intro _;rfl):PG X (.Subscript o i pos) (gSub to ti t):=by
 intro pins s σ H v u Q I r h
 rw[ha]
 refine zza (wpAny_holding (thn (ho pins s σ H _ I h) λov s1 ⟨x,H1,I1,r1,q1⟩=>?_))
 refine zza (wpAny_holding (thn (hi pins s1 σ H1 _ I1 q1) λiv s2 ⟨y,H2,I2,r2,q2⟩=>?_))
 refine zza (wpAny_standAt (zza (wpAny_holding (thn (hs pins s2 σ H2 x y v ov iv u _ I2 r1 r2 r q2) λ_ s3 ⟨H3,I3,q3⟩=>?_))))
 exact wpAny_release ⟨σ,H3,I3,q3⟩
noncomputable def tAsg(te:TE)(g:TG):TS:=λD σ H=>te σ H λx H1=>g x σ H1 D.nx
theorem zaI_{tg e:Expr}{te:TE}{g:TG}(he:PE X e te)(hg:PG X tg g)(hs:swapsWithSole [tg] e pos.line X.env=pure false:=by rfl)(hw:swappedStores [tg] e X.env=pure none:=by rfl)
  (h1:(assignEach [tg] X.env).map (·.2)=[assign tg X.env]:=by rfl):PS X (.Assign [tg] e pos) (tAsg te g):=by
 intro pins s σ H D I h
 refine wpAny_Assign_stores (thn (he pins s σ H _ I h) λv s1 ⟨x,H1,I1,r1,q1⟩=>?_) hs hw
 rw[h1]
 exact thn (hg pins s1 σ H1 x v _ I1 r1 q1) λ_ s2 q=>q
theorem zaF_{i:Nat}{x:Str}{e:Expr}{te:TE}{pos':Pos}(hN:X.N.Nodup)(hi:X.N[i]? = some x)(hx:Loc X.env.scope x)(he:PE X e te)(hs:swapsWith e (some (.Name x pos')) pos.line X.env=pure false:=by rfl)(hf:X.fn x=true\/X.env.scope.names.lookup x=some .local:=by first|exact .inl rfl|exact .inr rfl|assumption) :
  PS X (.Assign [.Name x pos'] e pos) (tAsg te (zaj_ i)):=by
 intro pins s σ H D I h
 refine wpAny_Assign_Name (thn (he pins s σ H _ I h) λv s1 ⟨y,H1,I1,r1,q1⟩=>?_) hs
 exact Za_ I1 hN hi hx r1 (λs2 I2=>⟨_,H1,I2,q1⟩) hf
noncomputable def tPar(i j:Nat)(ta:TA):TS:=λD σ H=>ta σ H λvs H1=>∃v w,vs=[v,w]/\D.nx ((σ.set i (some v)).set j (some w)) H1
theorem zdx_{i j:Nat}{x y:Str}{a b:Expr}{ta:TA}{px py pt:Pos}{kt k2 pt2}(hc:X.calm=true)(hN:X.N.Nodup)(hi:X.N[i]? = some x)(hj:X.N[j]? = some y)(hij:i≠j)
  (hx:X.env.scope.names.lookup x=some .local) (hy:X.env.scope.names.lookup y=some .local) (ha:PA X [a,b] ta)
  (hw:swappedStores [.Tuple [.Name x px,.Name y py] kt pt] (.Tuple [a,b] k2 pt2) X.env=pure (some [x,y]))
  (hs:swapsWithSole [.Tuple [.Name x px,.Name y py] kt pt] (.Tuple [a,b] k2 pt2) pos.line X.env=pure false:=by rfl) :
  PS X (.Assign [.Tuple [.Name x px,.Name y py] kt pt] (.Tuple [a,b] k2 pt2) pos) (tPar i j ta):=by
 intro pins s σ H D I h
 rw[exec_Assign_arm]
 refine zza (wpAny_standAt ?_)
 rw[hs]
 refine zza (zzb ?_)
 rw[if_neg (by decide)]
 refine zza (Tuple_ (thn (ha _ pins s σ H _ I h) λus s1 ⟨vs,H1,I1,r1,q1⟩=>?_))
 obtain⟨v,w,e1,q1⟩:=q1
 subst e1
 obtain⟨u1,u2,rfl,rv,rw'⟩:∃u1 u2,us=[u1,u2]/\RelV v u1/\RelV w u2:=by
  cases r1 with
  | cons p q =>
   cases q with
   | cons p' q' =>
    cases q'
    exact⟨_,_,rfl,p,p'⟩
 refine wpAny_newObj_type ?_ (by show 2<=sizeLine;decide)
 have I2:Inv X pins σ H1 { s1 with heap:=s1.heap.push { cls:=.type "tuple",data:=.seq [u1,u2].toArray } }:=I1.kept (t':=s1.toks) λb o e=>zzc _ e
 rw[hw]
 refine zza (zzb ?_)
 show wpAny (model X.prog X.w) X.A (do rule "assign.swapped-stores";let items <-unpackItems (.ref s1.heap.objs.size) 2 none;assignInOrder [λv=>bindName X.env y v,λv=>bindName X.env x v] items.reverse;pure Flow.next) _ _ _
 refine zza (wpAny_rule (zza (unpackItems_tuple (items:=#[u1,u2]) (I.ok.hd hc) (IsTup.new s1.heap _) λh' hx'=>?_)))
 have I3:=I2.kept (h':=h') (t':=s1.toks) λb o e=>hx' b o (Nat.ne_of_lt (Heap.lt_size e)) e
 show wpAny _ _ (assignInOrder [λv=>bindName X.env y v,λv=>bindName X.env x v] [u2,u1] >>= λ_=>pure Flow.next) _ _ _
 refine zza (assignInOrder_cons (wpAny_bindName (Za_ I3 hN hj (.inl hy) rw' (λs2 I4=>?_) (.inr hy))))
 refine assignInOrder_cons (wpAny_bindName (Za_ I4 hN hi (.inl hx) rv (λs3 I5=>assignInOrder_nil (zzb ?_)) (.inr hx)))
 rw[List.set_comm _ _ (Ne.symm hij)]at I5
 exact⟨_,H1,I5,q1⟩
end
structure It where
 go:Nat->Hp->Prop
 yld:Nat->Hp->V->Hp->Prop
 stop:Nat->Hp->Prop
def FpOk(X:Cx)(pins:List (Addr×Obj))(H:Hp)(b:Addr):Prop :=
 H b=none/\b≠X.env.locals/\b∉X.fs/\(b∈X.ex\/X.s₀.heap.objs.size<=b)/\(∀x c,X.env.cells.lookup x=some c->c≠b)/\∀p∈X.pn++pins,p.1≠b
theorem Inv.fpOk{X:Cx}{pins:List (Addr×Obj)}{σ:St}{H H':Hp}{s:Shared}{b:Addr}(I:Inv X pins σ H s)(hb:s.heap.objs.size<=b)(hn:H' b=none):FpOk X pins H' b:=by
 refine⟨hn,Nat.ne_of_gt (Nat.lt_of_lt_of_le I.lt hb),I.nofs hb,.inr (Nat.le_trans I.sz hb),λx c e z=>?_,λp hp z=>?_⟩
 ·obtain⟨v,q⟩:=I.cell x c e
  exact absurd (Nat.lt_of_lt_of_le q.lt (by rw[z];exact hb)) (Nat.lt_irrefl _)
 ·exact absurd (Nat.lt_of_lt_of_le (Heap.lt_size (I.pin p hp).1) (by rw[z];exact hb)) (Nat.lt_irrefl _)
structure Turn(P:Program)(w:World)(K:PySem.W.Frag)(tg:Expr)(J:It)(fp:List Addr)(it:Addr)(tn:Nat->Heap->Prop):Prop where
 mem:it∈fp
 obj:∀i h,tn i h->∀b∈fp,∃o,h.get? b=some o/\∀v,o.data≠.cell v
 keep:∀i h h',tn i h->(∀b∈fp,∀o,h.get? b=some o->h'.get? b=some o)->tn i h'
 item:∀(X:Cx),X.prog=P->X.w=w->X.K=K->X.calm=true->∀(i:Nat) (pins:List (Addr×Obj)) (s:Shared) (σ:St) (H:Hp) (E:Value->Shared->Prop),Inv X pins σ H s->(∀b∈fp,FpOk X pins H b)->tn i s.heap->J.go i H ->
  wpAny (model P w) X.A (pyNext (.ref it)) (λr s1=>∃u,r=some u /\
   wpAny (model P w) X.A (letOwnedTupleGo tg (.ref it) u) (λ_ s2=>∃x H',Inv X pins σ H' s2/\RelV x u/\J.yld i H x H'/\tn (i+1) s2.heap/\∀b∈fp,H' b=none) E s1) E s
 done:∀(X:Cx),X.prog=P->X.w=w->X.K=K->X.calm=true->∀(i:Nat) (pins:List (Addr×Obj)) (s:Shared) (σ:St) (H:Hp) (E:Value->Shared->Prop),Inv X pins σ H s->(∀b∈fp,FpOk X pins H b)->tn i s.heap->J.stop i H ->
  wpAny (model P w) X.A (pyNext (.ref it)) (λr s1=>r=none/\Inv X pins σ H s1) E s
 self:∀(A:Around) (i:Nat) (s:Shared) (Q:Value->Shared->Prop) (E:Value->Shared->Prop),tn i s.heap->Q (.ref it) s->wpAny (model P w) A (pyIter (.ref it)) Q E s
noncomputable abbrev TI:=St->Hp->(It->Hp->Prop)->Prop
def PIE(X:Cx)(pins:List (Addr×Obj))(σ:St)(tg:Expr)(R:It->Hp->Prop)(itv:Value)(s2:Shared):Prop :=
 ∃(it:Addr) (fp:List Addr) (tn:Nat->Heap->Prop) (J:It) (H':Hp),itv=.ref it/\Inv X pins σ H' s2/\Turn X.prog X.w X.K tg J fp it tn/\tn 0 s2.heap/\(∀b∈fp,FpOk X pins H' b)/\R J H'
def PI(X:Cx)(tg iter:Expr)(wi:TI):Prop :=
 ∀(pins:List (Addr×Obj)) (s:Shared) (σ:St) (H:Hp) (R:It->Hp->Prop),Inv X pins σ H s->wi σ H R ->
  wpAny (model X.prog X.w) X.A (eval iter X.env) (λv s1=>wpAny (model X.prog X.w) X.A (pyIter v) (PIE X pins σ tg R) X.xe s1) X.xe s
theorem zct_{M:Model}{A:Around}{E:Value->Shared->Prop}{s:Shared}{tg:Expr}{it:Addr}{u:Value}{o:Obj}{n:String}{vs:Array Value}{Q:Unit->Shared->Prop}(ho:s.heap.get? it=some o)(hc:o.cls=.type n)(hd:o.data=.fields vs)
  (hn:["enumerate", "zip", "dict_itemiterator", "dict_reverseitemiterator", "odict_iterator", "itertools.zip_longest", "itertools.pairwise"].contains n=false) (hQ:Q () s):wpAny M A (letOwnedTupleGo tg (.ref it) u) Q E s:=by
 unfold letOwnedTupleGo
 cases tg<;>first
  | exact zzb hQ
  | (cases u<;>first
     | exact zzb hQ
     | (refine zza (wpAny_load ho ?_)
        rw[hc,hd]
        show wpAny M A (if(["enumerate", "zip", "dict_itemiterator", "dict_reverseitemiterator", "odict_iterator", "itertools.zip_longest", "itertools.pairwise"].contains n&&vs[0]? == some (rawInt _))=true then _ else _) Q E s
        rw[if_neg (by intro h;rw[hn,Bool.false_and]at h;cases h)]
        exact zzb hQ))
noncomputable def Itl(K:PySem.W.Frag)(a:Addr):It :=
 ⟨λi H=>∃xs x,SqL K H a xs/\xs[i]? = some x,λi H x H'=>H'=H/\∀xs,SqL K H a xs->xs[i]? = some x,λi H=>∃xs,SqL K H a xs/\xs.length<=i⟩
noncomputable def Itt(K:PySem.W.Frag)(a:Addr):It :=
 ⟨λi H=>∃xs x,SqT K H a xs/\xs[i]? = some x,λi H x H'=>H'=H/\∀xs,SqT K H a xs->xs[i]? = some x,λi H=>∃xs,SqT K H a xs/\xs.length<=i⟩
noncomputable def Itr(lo:Int)(n:Nat):It:=⟨λi _=>i<n,λi H x H'=>H'=H/\x=.int (lo+i),λi _=>n<=i⟩
theorem VL_{P:Program}{w:World}{K:PySem.W.Frag}{tg:Expr}(a it:Addr):Turn P w K tg (Itl K a) [it] it (λi h=>h.IsListIter it a i) where
 mem:=by simp
 obj:=λi h st b hb=>by
  have e:b=it:=by simpa using hb
  subst e
  obtain⟨o,e,c,d⟩:=st
  exact⟨o,e,λv z=>by rw[d]at z;cases z⟩
 keep:=λi h h' st k=>st.at λo e=>k it (by simp) o e
 item:=by
  intro X hP hw hK hc i pins s σ H E I hf st hg
  subst hP hw hK
  obtain⟨xs,x,hq,hx⟩:=hg
  obtain⟨its,rv,p,hz⟩:=I.list hq
  obtain⟨u,hu,ru⟩:=rv.get hx
  obtain⟨f0,f1,f2,f3,f4,f5⟩:=hf it (by simp)
  refine wpAny_pyNext_list_item st p.isList (x:=u) (by simpa using hu) λh' st' sb=>?_
  have I1:Inv X pins σ H { s with heap:=h' }:=I.turned (t':=s.toks) (λb o hb e=>(sb.2 b hb).trans e) f0 f1 f3 f4 f5
  obtain⟨o,e,c,d⟩:=id st'
  exact⟨u,rfl,zct_ (s:={ s with heap:=h' }) e c d (by decide) ⟨x,H,I1,ru,⟨rfl,λys hy=>by rw[I.list_inj hy hq];exact hx⟩,st',λb hb=>(hf b hb).1⟩⟩
 done:=by
  intro X hP hw hK hc i pins s σ H E I hf st hg
  subst hP hw hK
  obtain⟨xs,hq,hx⟩:=hg
  obtain⟨its,rv,p,hz⟩:=I.list hq
  obtain⟨f0,f1,f2,f3,f4,f5⟩:=hf it (by simp)
  have hl:=rv.length
  exact wpAny_pyNext_list_end (I.ok.hd hc) st p.isList (by simp;lia) λh' eb=>⟨rfl,I.turned (t':=s.toks) (λb o hb e=>eb b o hb e) f0 f1 f3 f4 f5⟩
 self:=λ_ _ _ _ _ st h=>wpAny_pyIter_listiter st h
theorem Q8_{P:Program}{w:World}{K:PySem.W.Frag}{tg:Expr}(a it:Addr):Turn P w K tg (Itt K a) [it] it (λi h=>h.IsTupleIter it a i) where
 mem:=by simp
 obj:=λi h st b hb=>by
  have e:b=it:=by simpa using hb
  subst e
  obtain⟨o,e,c,d⟩:=st
  exact⟨o,e,λv z=>by rw[d]at z;cases z⟩
 keep:=λi h h' st k=>st.at λo e=>k it (by simp) o e
 item:=by
  intro X hP hw hK hc i pins s σ H E I hf st hg
  subst hP hw hK
  obtain⟨xs,x,hq,hx⟩:=hg
  obtain⟨its,rv,p,hz⟩:=I.tuple hq
  obtain⟨u,hu,ru⟩:=rv.get hx
  obtain⟨f0,f1,f2,f3,f4,f5⟩:=hf it (by simp)
  refine wpAny_pyNext_tuple_item st (show s.heap.IsTuple a its.toArray from p) (x:=u) (by simpa using hu) λh' st' sb=>?_
  have I1:Inv X pins σ H { s with heap:=h' }:=I.turned (t':=s.toks) (λb o hb e=>(sb.2 b hb).trans e) f0 f1 f3 f4 f5
  obtain⟨o,e,c,d⟩:=id st'
  exact⟨u,rfl,zct_ (s:={ s with heap:=h' }) e c d (by decide) ⟨x,H,I1,ru,⟨rfl,λys hy=>by rw[I.tuple_inj hy hq];exact hx⟩,st',λb hb=>(hf b hb).1⟩⟩
 done:=by
  intro X hP hw hK hc i pins s σ H E I hf st hg
  subst hP hw hK
  obtain⟨xs,hq,hx⟩:=hg
  obtain⟨its,rv,p,hz⟩:=I.tuple hq
  obtain⟨f0,f1,f2,f3,f4,f5⟩:=hf it (by simp)
  have hl:=rv.length
  exact wpAny_pyNext_tuple_end (I.ok.hd hc) st (show s.heap.IsTuple a its.toArray from p) (by simp;lia) λh' eb=>⟨rfl,I.turned (t':=s.toks) (λb o hb e=>eb b o hb e) f0 f1 f3 f4 f5⟩
 self:=λ_ _ _ _ _ st h=>wpAny_pyIter_tupleiter st h
theorem Q9_{P:Program}{w:World}{K:PySem.W.Frag}{tg:Expr}(it:Addr)(lo:Int)(n:Nat):Turn P w K tg (Itr lo n) [it] it (λi h=>IsRangeIter h it (lo+(i:Nat)*1) ((n:Int) - (i:Nat)) 1) where
 mem:=by simp
 obj:=λi h st b hb=>by
  have e:b=it:=by simpa using hb
  subst e
  exact⟨_,st,λv z=>by
   have z':Data.fields _=Data.cell v:=z
   cases z'⟩
 keep:=λi h h' st k=>k it (by simp) _ st
 item:=by
  intro X hP hw hK hc i pins s σ H E I hf st hg
  subst hP hw hK
  obtain⟨f0,f1,f2,f3,f4,f5⟩:=hf it (by simp)
  have W:=Walks.range (prog:=X.prog) (w:=X.w) (I.ok.hd hc) it lo 1 n
  refine W.item i s _ _ hg st λv h' tk hv st' kk=>?_
  obtain⟨t,rfl⟩:=hv
  have I1:Inv X pins σ H { s with heap:=h',toks:=tk }:=I.turned (λb o hb e=>kk b o (by simpa using hb) e) f0 f1 f3 f4 f5
  refine⟨_,rfl,zct_ (s:={ s with heap:=h',toks:=tk }) (n := "range_iterator") st' rfl rfl (by decide) ⟨.int (lo+i),H,I1,⟨t,?_⟩,⟨rfl,rfl⟩,st',λb hb=>(hf b hb).1⟩⟩
  rw[Int.mul_one]
 done:=by
  intro X hP hw hK hc i pins s σ H E I hf st hg
  subst hP hw hK
  obtain⟨f0,f1,f2,f3,f4,f5⟩:=hf it (by simp)
  exact wpAny_pyNext_range_end (I.ok.hd hc) st (by have:n<=i:=hg;lia) λh' eb=>⟨rfl,I.turned (t':=s.toks) (λb o hb e=>eb b o hb e) f0 f1 f3 f4 f5⟩
 self:=λ_ _ _ _ _ st h=>wpAny_pyIter_rangeiter st h
section
variable {X:Cx}{tg:Expr}
theorem Qm_{pins:List (Addr×Obj)}{σ:St}{H:Hp}{s:Shared}{R:It->Hp->Prop}{E:Value->Shared->Prop}{lo hi:Int}{t u v:Tok}{tk:Nat}(I:Inv X pins σ H s)(h1 : -(2^62)<=lo)(h2:lo<2^62)(h3 : -(2^62)<=hi)(h4:hi<2^62)
  (q:R (Itr lo (hi - lo).toNat) H):wpAny (model X.prog X.w) X.A (pyIter (.ref s.heap.objs.size)) (PIE X pins σ tg R) E { s with heap:=s.heap.push { cls:=.type "range",data:=.fields #[.int lo t,.int hi u,.int 1 v] },toks:=tk }:=by
 refine wpAny_pyIter_range (IsRange.new ..) (small_one h1 h2 h3 h4) ?_
 have I1:Inv X pins σ H { s with heap:=s.heap.push { cls:=.type "range",data:=.fields #[.int lo t,.int hi u,.int 1 v] },toks:=tk }:=I.kept λb o e=>zzc _ e
 refine⟨(s.heap.push { cls:=.type "range",data:=.fields #[.int lo t,.int hi u,.int 1 v] }).objs.size,[(s.heap.push { cls:=.type "range",data:=.fields #[.int lo t,.int hi u,.int 1 v] }).objs.size],_,_,H,rfl,
  I1.kept (t':=tk) λb o e=>zzc _ e,Q9_ _ lo (hi - lo).toNat,?_,λb hb=>?_,q⟩
 ·have e1:lo+((0:Nat):Int)*1=lo:=by simp
  have e2:(((hi - lo).toNat:Nat):Int) - ((0:Nat):Int)=Builtin.Range.rangeSize lo hi 1:=by rw[rangeSize_one];split<;>lia
  show IsRangeIter _ _ (lo+((0:Nat):Int)*1) ((((hi - lo).toNat:Nat):Int) - ((0:Nat):Int)) 1
  rw[e1,e2]
  exact zze _ rfl
 ·have e:b=(s.heap.push { cls:=.type "range",data:=.fields #[.int lo t,.int hi u,.int 1 v] }).objs.size:=by simpa using hb
  subst e
  exact I1.fpOk (Nat.le_refl _) (I1.hok.fresh (Nat.le_refl _))
def zfE_(ta:TA):TI:=λσ H R=>ta σ H λvs H1=>∃j:Int,vs=[.int j] /\ -(2^62)<=j/\j<2^62/\R (Itr 0 j.toNat) H1
def zfD_(ta:TA):TI:=λσ H R=>ta σ H λvs H1=>∃i j:Int,vs=[.int i,.int j]/\(-(2^62)<=i/\i<2^62 /\ -(2^62)<=j/\j<2^62)/\R (Itr i (j - i).toNat) H1
theorem UB_{a:Expr}{ta:TA}{p pos:Pos}(hg:Gl X "range")(hm:X.mg "range" = none)(ha:PA X [a] ta)(hs:starEach [a] X.env=[(false,eval a X.env)]:=by rfl):PI X tg (.Call (.Name "range" p) [a] [] pos) (zfE_ ta):=by
 intro pins s σ H R I h
 refine Call_ (UY_ I hg hm boot_range (PyProof.Rows.callWith_type1 (thn (ha pos pins s σ H _ I h) λus s1 ⟨vs,H1,I1,r1,q1⟩=>?_) hs rfl))
 obtain⟨j,e,q1,q2,q⟩:=q1
 subst e
 cases r1 with
 | cons r rr =>
  cases rr
  obtain⟨t,rfl⟩:=r
  exact call_range_1 (Qm_ I1 (by lia) (by lia) q1 q2 (by simpa using q))
theorem Wb_{a b:Expr}{ta:TA}{p pos:Pos}(hg:Gl X "range")(hm:X.mg "range" = none)(ha:PA X [a,b] ta)(hs:starEach [a,b] X.env=[(false,eval a X.env),(false,eval b X.env)]:=by rfl)(hs2:starEach [b] X.env=[(false,eval b X.env)]:=by rfl) :
  PI X tg (.Call (.Name "range" p) [a,b] [] pos) (zfD_ ta):=by
 intro pins s σ H R I h
 refine Call_ (UY_ I hg hm boot_range (PyProof.Rows.callWith_type1 (thn (ha pos pins s σ H _ I h) λus s1 ⟨vs,H1,I1,r1,q1⟩=>?_) (by rw[hs,hs2]) (by rw[hs2];rfl)))
 obtain⟨i,j,e,⟨q1,q2,q3,q4⟩,q⟩:=q1
 subst e
 cases r1 with
 | cons r rr =>
  cases rr with
  | cons r' rr =>
   cases rr
   obtain⟨t,rfl⟩:=r
   obtain⟨t',rfl⟩:=r'
   exact call_range_2 (Qm_ I1 q1 q2 q3 q4 q)
noncomputable def tFor(wi:TI)(g:TG)(tb:TS):TS:=λD σ H=>wi σ H λJ H1=>∃W:Nat->Nat->St->Hp->Prop,(∃m,W 0 m σ H1)/\∀i m σ H,W i m σ H ->
 (J.stop i H/\D.nx σ H)\/(J.go i H/\∃N:St->Hp->Prop,(∀σ' H',N σ' H'->∃m',m'<m/\W (i+1) m' σ' H')/\∀x H',J.yld i H x H'->g x σ H' λσ2 H2=>tb { D with nx:=N,ct:=N,bk:=D.nx } σ2 H2)
noncomputable def UA_(fp:List Addr)(h:Heap):List (Addr×Obj):=fp.filterMap λb=>(h.get? b).map λo=>(b,o)
theorem uV_{fp:List Addr}{h:Heap}{b:Addr}{o:Obj}(hb:b∈fp)(e:h.get? b=some o):(b,o)∈UA_ fp h:=List.mem_filterMap.mpr ⟨b,hb,by rw[e];rfl⟩
theorem Wq_{fp:List Addr}{h:Heap}{p:Addr×Obj}(hp:p∈UA_ fp h):p.1∈fp/\h.get? p.1=some p.2:=by
 obtain⟨b,hb,e⟩:=List.mem_filterMap.mp hp
 cases q:h.get? b with
 | none=>rw[q]at e;cases e
 | some o =>
  rw[q]at e
  have e':(b,o)=p:=Option.some.inj e
  subst e'
  exact⟨hb,q⟩
theorem Inv.pinned{pins:List (Addr×Obj)}{σ:St}{H:Hp}{s:Shared}{fp:List Addr}(I:Inv X pins σ H s)(hf:∀b∈fp,FpOk X pins H b)(ho:∀b∈fp,∃o,s.heap.get? b=some o/\∀v,o.data≠.cell v):Inv X (pins++UA_ fp s.heap) σ H s :=
 I.pins_of λp hp=>(List.mem_append.mp hp).elim (λz=>I.pin p (List.mem_append_right _ z)) λz=>by
  obtain⟨hb,e⟩:=Wq_ z
  obtain⟨f0,f1,f2,_⟩:=hf p.1 hb
  obtain⟨o,e',d⟩:=ho p.1 hb
  rw[e]at e';cases e'
  exact⟨e,f0,f1,f2,d⟩
theorem Inv.unpinned{pins pl:List (Addr×Obj)}{σ:St}{H:Hp}{s:Shared}(I:Inv X (pins++pl) σ H s):Inv X pins σ H s:=I.pins_of λp hp=>I.pin p (List.mem_append_right _ (List.mem_append_left _ hp))
theorem zdy_{iter:Expr}{body:List Stmt}{wi:TI}{g:TG}{tb:TS}{pos:Pos}(hp:PassesOwn (model X.prog X.w) X.A X.env X.xe)(hc:X.calm=true)(hi:PI X tg iter wi)(hg:PG X tg g)(hb:PSs X body tb)
  (hs:∀x,foldedSetIterable iter X.env x=pure x:=by intro _;rfl):PS X (.For tg iter body [] pos) (tFor wi g tb):=by
 intro pins s σ H D I h
 refine wpAny_For (thn (hi pins s σ H _ I h) λv s1 h1=>thn h1 λitv s2 h2=>?_) hs
 obtain⟨it,fp,tn,J,H2,e,I2,T,st2,f2,W,⟨m0,w0⟩,turn⟩:=h2
 subst e
 have stat:∀{H':Hp},(∀b∈fp,H' b=none)->∀b∈fp,FpOk X pins H' b:=λhn b hb=>⟨hn b hb,(f2 b hb).2⟩
 refine codeAny_forLoop_any (λn s'=>∃i σ' H',Inv X pins σ' H' s'/\tn i s'.heap/\(∀b∈fp,H' b=none)/\W i n σ' H') ?_ m0 ⟨0,σ,H2,I2,st2,λb hb=>(f2 b hb).1,w0⟩
 rintro n s3 ⟨i,σ3,H3,I3,st3,fr3,w3⟩
 rcases turn i n σ3 H3 w3 with ⟨stop,qn⟩|⟨go,N,hN,step⟩
 ·refine wpAny_passesOwn hp (thn (T.done X rfl rfl rfl hc i pins s3 σ3 H3 X.xe I3 (stat fr3) st3 stop) λr s4 ⟨hr,I4⟩=>?_)
  subst hr
  exact wpAny_execs_nil ⟨σ3,H3,I4,qn⟩
 ·refine wpAny_passesOwn hp (thn (T.item X rfl rfl rfl hc i pins s3 σ3 H3 X.xe I3 (stat fr3) st3 go) λr s4 ⟨u,hr,h4⟩=>?_)
  subst hr
  refine wpAny_passesOwn hp (thn h4 λ_ s5 ⟨x,H5,I5,r5,y5,st5,fr5⟩=>?_)
  have I5':=I5.pinned (stat fr5) (T.obj _ _ st5)
  refine wpAny_passesOwn hp (thn (hg _ s5 σ3 H5 x u _ I5' r5 (step x H5 y5)) λ_ s6 ⟨σ6,H6,I6,q6⟩=>?_)
  refine wpAny_passesOwn hp (thn (hb _ s6 σ6 H6 _ I6 q6) λf s7 q7=>?_)
  have again:∀{σ7:St} {H7:Hp},Inv X (pins++UA_ fp s5.heap) σ7 H7 s7->N σ7 H7->∃m,m<n/\∃i σ' H',Inv X pins σ' H' s7/\tn i s7.heap/\(∀b∈fp,H' b=none)/\W i m σ' H':=λ{σ7 H7} I7 n7=>by
   obtain⟨m',hm,w7⟩:=hN σ7 H7 n7
   refine⟨m',hm,i+1,σ7,H7,I7.unpinned,T.keep _ _ _ st5 λb hb o e=>(I7.pin (b,o) (List.mem_append_right _ (List.mem_append_right _ (uV_ hb e)))).1,λb hb=>?_,w7⟩
   obtain⟨o,e,d⟩:=T.obj _ _ st5 b hb
   exact(I7.pin (b,o) (List.mem_append_right _ (List.mem_append_right _ (uV_ hb e)))).2.1
  cases f with
  | next=>obtain⟨σ7,H7,I7,n7⟩:=q7;exact again I7 n7
  | cont=>obtain⟨σ7,H7,I7,n7⟩:=q7;exact again I7 n7
  | brk=>obtain⟨σ7,H7,I7,q7⟩:=q7;exact⟨σ7,H7,I7.unpinned,q7⟩
  | ret v=>obtain⟨x7,σ7,H7,I7,r7,q7⟩:=q7;exact⟨x7,σ7,H7,I7.unpinned,r7,q7⟩
end
noncomputable abbrev R2:=V->V->Hp->VK->Prop
def OpR(X:Cx)(f:Value->Value->Sem Value)(r:R2):Prop :=
 ∀(pins:List (Addr×Obj)) (s:Shared) (σ:St) (H:Hp) (x y:V) (v u:Value) (Q:VK),Inv X pins σ H s->RelV x v->RelV y u->r x y H Q ->
  wpAny (model X.prog X.w) X.A (f v u) (EP X pins σ Q) X.xe s
def UnR(X:Cx)(f:Value->Sem Value)(r:V->Hp->VK->Prop):Prop :=
 ∀(pins:List (Addr×Obj)) (s:Shared) (σ:St) (H:Hp) (x:V) (v:Value) (Q:VK),Inv X pins σ H s->RelV x v->r x H Q ->
  wpAny (model X.prog X.w) X.A (f v) (EP X pins σ Q) X.xe s
def CallR(X:Cx)(f:Value)(r:List V->Hp->VK->Prop):Prop :=
 ∀(pins:List (Addr×Obj)) (s:Shared) (σ:St) (H:Hp) (xs:List V) (us:List Value) (Q:VK),Inv X pins σ H s->Vals xs us->r xs H Q ->
  wpAny (model X.prog X.w) X.A (call f us) (EP X pins σ Q) X.xe s
def TruR(X:Cx)(r:V->Hp->(Bool->Hp->Prop)->Prop):Prop :=
 ∀(pins:List (Addr×Obj)) (s:Shared) (σ:St) (H:Hp) (x:V) (v:Value) (Q:Bool->Hp->Prop),Inv X pins σ H s->RelV x v->r x H Q ->
  wpAny (model X.prog X.w) X.A (truthy v) (TP X pins σ Q) X.xe s
noncomputable def tOp(r:R2)(ta tb:TE):TE:=λσ H Q=>ta σ H λx H1=>tb σ H1 λy H2=>r x y H2 Q
noncomputable def tUn(r:V->Hp->VK->Prop)(ta:TE):TE:=λσ H Q=>ta σ H λx H1=>r x H1 Q
noncomputable def rI(C:Int->Int->Prop)(g:Int->Int->V):R2:=λx y H Q=>∃i j,x=.int i/\y=.int j/\C i j/\Q (g i j) H
noncomputable def rI0(g:Int->Int->V):R2:=λx y H Q=>∃i j,x=.int i/\y=.int j/\Q (g i j) H
def rU(g:Int->V):V->Hp->VK->Prop:=λx H Q=>∃i,x=.int i/\Q (g i) H
section
variable {X:Cx}{a b c:Expr}{ta tb tc:TE}{pos:Pos}
theorem binT(ha:PE X a ta)(hb:PE X b tb){pins:List (Addr×Obj)}{s:Shared}{σ:St}{H:Hp}{R:V->V->Hp->Prop}(I:Inv X pins σ H s)
  (h:ta σ H λx H1=>tb σ H1 λy H2=>R x y H2) {Q:Value->Shared->Prop} {f:Value->Value->Sem Value}
  (hf:∀v u s2 x y H2,Inv X pins σ H2 s2->RelV x v->RelV y u->R x y H2->wpAny (model X.prog X.w) X.A (f v u) Q X.xe s2) :
  wpAny (model X.prog X.w) X.A (eval a X.env) (λv s₁=>wpAny (model X.prog X.w) X.A (eval b X.env) (λu s₂=>wpAny (model X.prog X.w) X.A (f v u) Q X.xe s₂) X.xe s₁) X.xe s:=by
 refine thn (ha pins s σ H _ I h) λv s1 ⟨x,H1,I1,r1,q1⟩=>?_
 refine thn (hb pins s1 σ H1 _ I1 q1) λu s2 ⟨y,H2,I2,r2,q2⟩=>?_
 exact hf v u s2 x y H2 I2 r1 r2 q2
theorem zdD_{op:Operator}{r:R2}(ho:OpR X (binaryOp op) r)(ha:PE X a ta)(hb:PE X b tb):PE X (.BinOp a op b pos) (tOp r ta tb):=by
 intro pins s σ H Q I h
 exact wpAny_BinOp (binT ha hb I h λv u s2 x y H2 I2 rx ry q=>ho pins s2 σ H2 x y v u Q I2 rx ry q)
theorem zfm_{op:UnaryOp}{r:V->Hp->VK->Prop}(ho:UnR X (unaryOp op) r)(ha:PE X a ta):PE X (.UnaryOp op a pos) (tUn r ta):=by
 intro pins s σ H Q I h
 exact UnaryOp_ (thn (ha pins s σ H _ I h) λv s1 ⟨x,H1,I1,r1,q1⟩=>ho pins s1 σ H1 x v Q I1 r1 q1)
theorem opI{f:Value->Value->Sem Value}{C:Int->Int->Prop}{g:Int->Int->Int}
  (rule:∀(i j:Int) (t u:Tok) (s:Shared) (Q:Value->Shared->Prop) (E:Value->Shared->Prop),C i j->Q (.int (g i j) s.toks) { s with toks:=s.toks+1 }->wpAny (model X.prog X.w) X.A (f (.int i t) (.int j u)) Q E s) :
  OpR X f (rI C λi j=>.int (g i j)):=by
 intro pins s σ H x y v u Q I rx ry h
 obtain⟨i,j,rfl,rfl,hc,q⟩:=h
 obtain⟨t,rfl⟩:=rx
 obtain⟨t',rfl⟩:=ry
 exact rule i j t t' s _ _ hc ⟨.int (g i j),H,I.tok _,⟨_,rfl⟩,q⟩
theorem opI0{f:Value->Value->Sem Value}{g:Int->Int->Int}
  (rule:∀(i j:Int) (t u:Tok) (s:Shared) (Q:Value->Shared->Prop) (E:Value->Shared->Prop),Q (.int (g i j) s.toks) { s with toks:=s.toks+1 }->wpAny (model X.prog X.w) X.A (f (.int i t) (.int j u)) Q E s) :
  OpR X f (rI0 λi j=>.int (g i j)):=by
 intro pins s σ H x y v u Q I rx ry h
 obtain⟨i,j,rfl,rfl,q⟩:=h
 obtain⟨t,rfl⟩:=rx
 obtain⟨t',rfl⟩:=ry
 exact rule i j t t' s _ _ ⟨.int (g i j),H,I.tok _,⟨_,rfl⟩,q⟩
theorem opB0{f:Value->Value->Sem Value}{g:Int->Int->Bool}
  (rule:∀(i j:Int) (t u:Tok) (s:Shared) (Q:Value->Shared->Prop) (E:Value->Shared->Prop),Q (.bool (g i j)) s->wpAny (model X.prog X.w) X.A (f (.int i t) (.int j u)) Q E s) :
  OpR X f (rI0 λi j=>.bl (g i j)):=by
 intro pins s σ H x y v u Q I rx ry h
 obtain⟨i,j,rfl,rfl,q⟩:=h
 obtain⟨t,rfl⟩:=rx
 obtain⟨t',rfl⟩:=ry
 exact rule i j t t' s _ _ ⟨.bl (g i j),H,I,rfl,q⟩
def CDiv(i j:Int):Prop:=0<j/\j<1073741824
def CPow(i j:Int):Prop:=0<=j/\j<=1000000/\i.natAbs<2^64
def CMul(i j:Int):Prop:=(-(2^64)<i/\i<2^64)\/(-(2^64)<j/\j<2^64)
theorem CMul.ok{i j:Int}(h:CMul i j):IntMulOk i j:=by
 rcases h with ⟨h1,h2⟩|⟨h1,h2⟩
 ·exact .of_left (intBits_le_64 h1 h2)
 ·exact .of_right (intBits_le_64 h1 h2)
theorem op_add:OpR X (binaryOp .Add) (rI0 λi j=>.int (i+j)):=opI0 λ_ _ _ _ _ _ _ q=>add_int q
theorem uG_:OpR X (binaryOp .Sub) (rI0 λi j=>.int (i - j)):=opI0 λ_ _ _ _ _ _ _ q=>sub_int q
theorem UG_:OpR X (binaryOp .Mult) (rI CMul λi j=>.int (i*j)):=opI λ_ _ _ _ _ _ _ hc q=>mul_int q hc.ok
theorem Wk_:OpR X (binaryOp .FloorDiv) (rI CDiv λi j=>.int (i / j)):=opI λi j _ _ _ _ _ hc q=>by
 have h1:(0:Int)<j:=hc.1
 have h2:j<1073741824:=hc.2
 exact floordiv_int (by lia) (by rw[Int.fdiv_eq_ediv_of_nonneg i (by lia)];exact q) (.inl (PyProof.noPylong_small (by lia)))
theorem Zq_:OpR X (binaryOp .Mod) (rI (λ_ j=>0<j) λi j=>.int (i % j)):=opI λi j _ _ _ _ _ hc q=>by
 have h1:(0:Int)<j:=hc
 exact mod_int' (by lia) (by rw[Int.fmod_eq_emod_of_nonneg i (by lia)];exact q)
theorem zdT_:OpR X (binaryOp .Pow) (rI CPow λi j=>.int (i^j.toNat)):=opI λ_ _ _ _ _ _ _ hc q=>pow_int_small hc.1 hc.2.1 hc.2.2 q
theorem unI{f:Value->Sem Value}{g:Int->Int}
  (rule:∀(i:Int) (t:Tok) (s:Shared) (Q:Value->Shared->Prop) (E:Value->Shared->Prop),Q (.int (g i) s.toks) { s with toks:=s.toks+1 }->wpAny (model X.prog X.w) X.A (f (.int i t)) Q E s) :
  UnR X f (rU λi=>.int (g i)):=by
 intro pins s σ H x v Q I rx h
 obtain⟨i,rfl,q⟩:=h
 obtain⟨t,rfl⟩:=rx
 exact rule i t s _ _ ⟨.int (g i),H,I.tok _,⟨_,rfl⟩,q⟩
theorem Um_:UnR X (unaryOp .USub) (rU λi=>.int (-i)):=unI λ_ _ _ _ _ q=>neg_int q
end
section
variable {X:Cx}{a b c:Expr}{ta tb tc:TE}{pos:Pos}
theorem WP_{pins:List (Addr×Obj)}{σ:St}{H:Hp}{s:Shared}{Q:VK}{k k':Bool}(I:Inv X pins σ H s)(q:Q (.bl k) H)(e:k=k'):EP X pins σ Q (.bool k') s:=by
 subst e
 exact⟨.bl k,H,I,rfl,q⟩
theorem zfq_:OpR X (compareOp .Lt) (rI0 λi j=>.bl (decide (i<j))):=opB0 λ_ _ _ _ _ _ _ q=>lt_int q
theorem zfr_:OpR X (compareOp .LtE) (rI0 λi j=>.bl (decide (i<=j))):=opB0 λ_ _ _ _ _ _ _ q=>le_int q
theorem XX_:OpR X (compareOp .Gt) (rI0 λi j=>.bl (decide (j<i))):=opB0 λ_ _ _ _ _ _ _ q=>gt_int q
theorem zfs_:OpR X (compareOp .GtE) (rI0 λi j=>.bl (decide (j<=i))):=opB0 λ_ _ _ _ _ _ _ q=>ge_int q
theorem Wj_:OpR X (compareOp .In) (λx y H Q=>∃i j,x=.str i/\y=.str j/\Q (.bl (!(Builtin.Str.occurrences j i 0 j.length 1).isEmpty)) H):=by
 intro pins s σ H x y v u Q I rx ry h
 obtain⟨i,j,rfl,rfl,q⟩:=h
 obtain⟨t,rfl⟩:=rx
 obtain⟨t',rfl⟩:=ry
 exact in_str (WP_ I q rfl)
theorem zbR_:OpR X (compareOp .IsNot) (λx y H Q=>y=.non/\Q (.bl (!decide (x=.non))) H):=by
 intro pins s σ H x y v u Q I rx ry h
 obtain⟨rfl,q⟩:=h
 cases ry
 refine isnot_none_gen (WP_ I q ?_)
 cases x<;>first
  | (cases rx;rfl)
  | (obtain⟨t,rfl⟩:=rx;rfl)
theorem UF_:OpR X (compareOp .NotIn) (λx y H Q=>∃i j,x=.str i/\y=.str j/\Q (.bl (!(!(Builtin.Str.occurrences j i 0 j.length 1).isEmpty))) H):=by
 intro pins s σ H x y v u Q I rx ry h
 obtain⟨i,j,rfl,rfl,q⟩:=h
 obtain⟨t,rfl⟩:=rx
 obtain⟨t',rfl⟩:=ry
 exact notIn_str (WP_ I q rfl)
theorem OpR.or{f:Value->Value->Sem Value}{r r':R2}(h:OpR X f r)(h':OpR X f r'):OpR X f (λx y H Q=>r x y H Q\/r' x y H Q):=by
 intro pins s σ H x y v u Q I rx ry q
 rcases q with q|q
 ·exact h pins s σ H x y v u Q I rx ry q
 ·exact h' pins s σ H x y v u Q I rx ry q
theorem We_{op:CmpOp}{r:R2}(ho:OpR X (compareOp op) r)(ha:PE X a ta)(hb:PE X b tb)(hm:behindInMarks op b=false):PE X (.Compare a [op] [b] pos) (tOp r ta tb):=by
 intro pins s σ H Q I h
 exact wpAny_Compare1 (binT ha hb I h λv u s2 x y H2 I2 rx ry q=>ho pins s2 σ H2 x y v u Q I2 rx ry q) hm
noncomputable def zde_(t:TE):TT:=λσ H Q=>t σ H λx H'=>∃k,x=.bl k/\Q k H'
theorem V7_{op:CmpOp}{r:R2}(ho:OpR X (compareOp op) r)(ha:PE X a ta)(hb:PE X b tb)(hm:behindInMarks op b=false):PT X (.Compare a [op] [b] pos) (zde_ (tOp r ta tb)):=by
 intro pins s σ H Q I h
 refine wpAny_isTrue_Compare1 (thn (ha pins s σ H _ I h) λv s1 ⟨x,H1,I1,r1,q1⟩=>thn (hb pins s1 σ H1 _ I1 q1) λu s2 ⟨y,H2,I2,r2,q2⟩ =>
  thn (ho pins s2 σ H2 x y v u _ I2 r1 r2 q2) λc s3 ⟨z,H3,I3,r3,k,e,q3⟩=>?_) hm
 subst e
 cases r3
 exact wpAny_truthy_bool ⟨H3,I3,q3⟩
noncomputable def VN_(r r':R2)(ta tb tc:TE):TE:=λσ H Q=>ta σ H λx H1=>tb σ H1 λy H2=>r x y H2 λz H3=>∃k,z=.bl k /\
 (if k=true then tc σ H3 λw' H4=>r' y w' H4 Q else Q (.bl false) H3)
theorem XU_{op op':CmpOp}{r r':R2}(ho:OpR X (compareOp op) r)(ho':OpR X (compareOp op') r')(ha:PE X a ta)(hb:PE X b tb)(hc:PE X c tc)
  (hm:lastMarks [op,op'] [b,c]=false:=by with_unfolding_all rfl):PE X (.Compare a [op,op'] [b,c] pos) (VN_ r r' ta tb tc):=by
 intro pins s σ H Q I h
 refine Compare_chain (thn (ha pins s σ H _ I h) λv s1 ⟨x,H1,I1,r1,q1⟩=>chain_link (thn (hb pins s1 σ H1 _ I1 q1) λu s2 ⟨y,H2,I2,r2,q2⟩ =>
  thn (ho pins s2 σ H2 x y v u _ I2 r1 r2 q2) λd s3 ⟨z,H3,I3,r3,k,e,q3⟩=>?_)) hm
 subst e
 cases r3
 refine wpAny_truthy_bool ?_
 cases k with
 | false=>exact ite_ff ⟨.bl false,H3,I3,rfl,q3⟩
 | true=>exact ite_tt (chain_last (thn (hc pins s3 σ H3 _ I3 q3) λw' s4 ⟨z',H4,I4,r4,q4⟩=>ho' pins s4 σ H4 y z' u w' Q I4 r2 r4 q4))
theorem XO_{op op':CmpOp}{r r':R2}(ho:OpR X (compareOp op) r)(ho':OpR X (compareOp op') r')(ha:PE X a ta)(hb:PE X b tb)(hc:PE X c tc)
  (hm:lastMarks [op,op'] [b,c]=false:=by with_unfolding_all rfl):PT X (.Compare a [op,op'] [b,c] pos) (zde_ (VN_ r r' ta tb tc)):=by
 intro pins s σ H Q I h
 refine isTrue_chain (thn (ha pins s σ H _ I h) λv s1 ⟨x,H1,I1,r1,q1⟩=>test_link (thn (hb pins s1 σ H1 _ I1 q1) λu s2 ⟨y,H2,I2,r2,q2⟩ =>
  thn (ho pins s2 σ H2 x y v u _ I2 r1 r2 q2) λd s3 ⟨z,H3,I3,r3,k,e,q3⟩=>?_)) hm
 subst e
 cases r3
 refine wpAny_truthy_bool ?_
 cases k with
 | false =>
  obtain⟨k',e',q'⟩:=q3
  cases e'
  exact ite_ff ⟨H3,I3,q'⟩
 | true =>
  refine ite_tt (test_last (thn (hc pins s3 σ H3 _ I3 q3) λw' s4 ⟨z',H4,I4,r4,q4⟩=>thn (ho' pins s4 σ H4 y z' u w' _ I4 r2 r4 q4) λd' s5 ⟨z2,H5,I5,r5,k2,e2,q5⟩=>?_))
  subst e2
  cases r5
  exact wpAny_truthy_bool ⟨H5,I5,q5⟩
def TruV(K:PySem.W.Frag)(x:V)(H:Hp)(k:Bool):Prop :=
 match x with
 | .non=>k=false
 | .bl b=>k=b
 | .int i=>k=(i != 0)
 | .str y=>y.length<=sizeLine/\k=((y.length:Int) != 0)
 | .byt y=>y.size<=sizeLine/\k=((y.size:Int) != 0)
 | .ref p=>(∃xs,SqL K H p xs/\k = !xs.isEmpty)\/(∃xs,SqT K H p xs/\k = !xs.isEmpty)\/∃kvs,H p=some (.dK kvs)/\k = !kvs.isEmpty
 | _=>False
theorem Vt_{κ:Type}{kvs:List (κ×V)}{vs:List (κ×Value)}(r:KV kvs vs):(!vs.isEmpty) = !kvs.isEmpty:=by
 cases r<;>rfl
theorem Jr_{xs:List V}{its:List Value}(r:Vals xs its):(!its.toArray.isEmpty) = !xs.isEmpty:=by
 cases r<;>simp
theorem Zx_:(sizeLine:Nat)<2^63:=by rw[sizeLine_eq];decide
theorem zdc_:TruR X (λx H Q=>∃k,TruV X.K x H k/\Q k H):=by
 intro pins s σ H x v Q I rx h
 obtain⟨k,e,q⟩:=h
 have hl:=Zx_
 have hs:sizeLine=16777216:=sizeLine_eq
 cases x with
 | non =>
  cases rx
  have e':k=false:=e
  subst e'
  exact truthy_none ⟨H,I,q⟩
 | bl b =>
  cases rx
  have e':k=b:=e
  subst e'
  exact wpAny_truthy_bool ⟨H,I,q⟩
 | int i =>
  obtain⟨t,rfl⟩:=rx
  have e':k=(i != 0):=e
  subst e'
  exact PySem.P.truthy_int ⟨H,I,q⟩
 | str y =>
  obtain⟨t,rfl⟩:=rx
  obtain⟨hy,e'⟩:y.length<=sizeLine/\k=((y.length:Int) != 0):=e
  subst e'
  exact PySem.P.truthy_str (by lia) ⟨H,I.tok _,q⟩
 | byt y =>
  obtain⟨t,rfl⟩:=rx
  obtain⟨hy,e'⟩:y.size<=sizeLine/\k=((y.size:Int) != 0):=e
  subst e'
  exact PySem.W.truthy_bytes (by lia) ⟨H,I.tok _,q⟩
 | ref p =>
  cases rx
  have e':(∃xs,SqL X.K H p xs/\k = !xs.isEmpty)\/(∃xs,SqT X.K H p xs/\k = !xs.isEmpty)\/∃kvs,H p=some (.dK kvs)/\k = !kvs.isEmpty:=e
  rcases e' with ⟨xs,hx,e'⟩|⟨xs,hx,e'⟩|⟨kvs,hx,e'⟩
  ·subst e'
   obtain⟨its,r,pl,hz⟩:=I.list hx
   have hlen:=r.length
   exact wpAny_truthy_list pl.isList (by simp only[List.size_toArray];lia) ⟨H,I.tok _,by rw[Jr_ r];exact q⟩
  ·subst e'
   obtain⟨its,r,pl,hz⟩:=I.tuple hx
   have hlen:=r.length
   exact truthy_tuple pl (by simp only[List.size_toArray];lia) ⟨H,I.tok _,by rw[Jr_ r];exact q⟩
  ·subst e'
   obtain⟨hz,hS,vs,r,m⟩:kvs.length<=sizeLine/\(p==sysModules)=false/\∃vs,KV kvs vs/\s.heap.DictOf (z8_ X.prog X.w) p vs:=I.hok p _ hx
   have hlen:kvs.length=vs.length:=Paired.length r
   exact wpAny_truthy_dict hS m (by lia) ⟨H,I.tok _,by rw[Vt_ r];exact q⟩
 | _=>exact(show False from e).elim
theorem Qn_(ha:PE X a ta)(he:∀whole,isTrue a X.env whole=(do let v <-whole;standAt a.pos;holding [v] (truthy v))) :
  PT X a (λσ H Q=>ta σ H λx H'=>∃k,TruV X.K x H' k/\Q k H'):=by
 intro pins s σ H Q I h
 exact isTrue_plain (thn (ha pins s σ H _ I h) λv s1 ⟨x,H1,I1,r1,q1⟩=>zdc_ pins s1 σ H1 x v Q I1 r1 q1) (he _)
theorem Vi_:OpR X (binaryOp .Add) (λx y H Q=>∃i j,x=.str i/\y=.str j/\i.length+j.length<=sizeLine/\Q (.str (i++j)) H):=by
 intro pins s σ H x y v u Q I rx ry h
 obtain⟨i,j,rfl,rfl,hz,q⟩:=h
 obtain⟨t,rfl⟩:=rx
 obtain⟨t',rfl⟩:=ry
 exact add_str (λt' tk=>⟨.str (i++j),H,I.tok _,⟨_,rfl⟩,q⟩) hz
theorem vals1{x:V}{us:List Value}(r:Vals [x] us):∃u,us=[u]/\RelV x u:=by
 cases r with
 | cons r1 r2=>cases r2;exact⟨_,rfl,r1⟩
theorem vals2{x y:V}{us:List Value}(r:Vals [x,y] us):∃u w',us=[u,w']/\RelV x u/\RelV y w':=by
 cases r with
 | cons r1 r2 =>
  cases r2 with
  | cons r3 r4=>cases r4;exact⟨_,_,rfl,r1,r3⟩
theorem QR_:CallR X (.builtin "abs") (λxs H Q=>∃i,xs=[.int i]/\Q (.int (if i<0 then -i else i)) H):=by
 intro pins s σ H xs us Q I r h
 obtain⟨i,rfl,q⟩:=h
 obtain⟨u,rfl,t,rfl⟩:=vals1 r
 exact call_abs_int λu tk=>⟨.int (if i<0 then -i else i),H,I.tok _,⟨_,rfl⟩,q⟩
theorem W9_(hc:X.calm=true):CallR X (.builtin "min") (λxs H Q=>∃i j,xs=[.int i,.int j]/\Q (.int (if j<i then j else i)) H):=by
 intro pins s σ H xs us Q I r h
 obtain⟨i,j,rfl,q⟩:=h
 obtain⟨u,w',rfl,⟨t,rfl⟩,⟨t',rfl⟩⟩:=vals2 r
 refine min_two_ints (I.ok.hd hc) λh' tk k=>⟨_,H,I.kept k,?_,q⟩
 by_cases hj:j<i
 ·rw[if_pos hj,if_pos hj];exact⟨_,rfl⟩
 ·rw[if_neg hj,if_neg hj];exact⟨_,rfl⟩
theorem Yi_:CallR X (.type "str") (λxs H Q=>∃i,xs=[.int i]/\i.natAbs.log2<1920/\Q (.str (toString i)) H):=by
 intro pins s σ H xs us Q I r h
 obtain⟨i,rfl,hz,q⟩:=h
 obtain⟨u,rfl,t,rfl⟩:=vals1 r
 exact PySem.P.str_of_int hz ⟨.str _,H,I.tok _,⟨_,rfl⟩,q⟩
end
theorem Wv_{h:Heap}{dx:Addr}{mA:Str->Option Value}(n:h.Ns1 dx mA):∃od,h.get? dx=some od/\∀name,PySem.W.lookIn name od=some (mA name):=by
 obtain⟨o,es,ep,ho,hd,hk,_,hm⟩:=n
 refine⟨o,ho,λname=>?_⟩
 have e:=hm name
 unfold nsFind findBy at e
 rw[<-Array.find?_toList]at e
 unfold PySem.W.lookIn
 rw[hd]
 dsimp only
 split
 ·rename_i y q
  rw[q]at e
  exact congrArg some e
 ·rename_i q
  rw[q]at e
  have a:es.toList.any (·.refKey)=false:=by
   rw[List.any_eq_false]
   intro y hy
   obtain⟨z,t,hkey⟩:=hk y (Array.mem_toList_iff.mp hy)
   simp[DictEntry.refKey,hkey]
  have a':¬ es.toList.any (·.refKey)=true:=by rw[a];exact Bool.false_ne_true
  rw[if_neg a']
  exact congrArg some e
theorem RelO.some_of{v:V}{o:Option Value}(r:RelO (some v) o):∃u,o=some u/\RelV v u:=by
 cases o with
 | none=>exact(show False from r).elim
 | some u=>exact⟨u,rfl,r⟩
structure Room(k:Nat)(A:Around):Prop where
 hd:A.handled=none
 dp:A.depth+3*k+5<recursionLimit
 un:A.units+16*k+1200<cLine
 gd:A.guards=some []
theorem Room.mono{j k:Nat}{A:Around}(r:Room k A)(h:j<=k):Room j A:=⟨r.hd,by have:=r.dp;lia,by have:=r.un;lia,r.gd⟩
theorem Room.deeper{k:Nat}{A:Around}(r:Room (k+1) A)(env:Env):Room k (A.deeper env) :=
 ⟨r.hd,by have:=r.dp;show A.depth+1+3*k+5<_;lia,by have:=r.un;show A.units+3+16*k+1200<_;lia,r.gd⟩
theorem Room.depth{k:Nat}{A:Around}(r:Room k A):A.depth<recursionLimit:=by have:=r.dp;lia
noncomputable def tNil:TA:=λ_ H Q=>Q [] H
noncomputable def zeY_(ta:TE)(tr:TA):TA:=λσ H Q=>ta σ H λx H1=>tr σ H1 λxs H2=>Q (x::xs) H2
section
variable {X:Cx}{e:Expr}{es:List Expr}{te:TE}{t:TA}{pos:Pos}
theorem UD_:PA X [] tNil:=λ_ _ _ _ H Q I h=>Calls.spliced_nil ⟨[],H,I,.nil,h⟩
theorem yg_(ha:PE X e te)(hr:PA X es t)(hs:starEach (e::es) X.env=(false,eval e X.env)::starEach es X.env:=by rfl):PA X (e::es) (zeY_ te t):=by
 intro pos pins s σ H Q I h
 rw[hs]
 show wpAny _ _ (spliced ((false,eval e X.env)::backTo pos (starEach es X.env))) _ _ s
 refine Calls.spliced_cons (thn (ha pins s σ H _ I h) λu s1 ⟨x,H1,I1,r1,q1⟩=>?_)
 exact thn (hr pos pins s1 σ H1 _ I1 q1) λus s2 ⟨xs,H2,I2,r2,q2⟩=>⟨x::xs,H2,I2,.cons r1 r2,q2⟩
def tTup(t:TA):TE:=λσ H Q=>t σ H λxs H1=>xs.length<=sizeLine/\∀p,H1 p=none->Q (.ref p) (upd H1 p (.tup xs))
def tLst(t:TA):TE:=λσ H Q=>t σ H λxs H1=>xs.length<=sizeLine/\∀p,H1 p=none->Q (.ref p) (upd H1 p (.lst xs))
theorem zaL_{x1}(h:PA X es t):PE X (.Tuple es x1 pos) (tTup t):=by
 intro pins s σ H Q I hq
 refine wpAny_Tuple_spliced (thn (h pos pins s σ H _ I hq) λus s1 ⟨xs,H1,I1,r,z,q⟩=>⟨by rw[<-r.length];exact z,?_⟩)
 have hf:H1 s1.heap.objs.size=none:=I1.hok.fresh (Nat.le_refl _)
 refine⟨.ref s1.heap.objs.size,upd H1 s1.heap.objs.size (.tup xs),I1.laid (t':=s1.toks) (λb u e=>zzc _ e) (Nat.le_refl _) ?_,rfl,q _ hf⟩
 exact⟨z,us,r,⟨_,zze _ rfl,rfl,_,rfl⟩,⟨_,zze _ rfl,rfl⟩⟩
theorem zaM_(h:PA X es t):PE X (.List es pos) (tLst t):=by
 intro pins s σ H Q I hq
 refine wpAny_List_spliced (thn (h pos pins s σ H _ I hq) λus s1 ⟨xs,H1,I1,r,z,q⟩=>⟨by rw[<-r.length];exact z,?_⟩)
 have hf:H1 s1.heap.objs.size=none:=I1.hok.fresh (Nat.le_refl _)
 refine⟨.ref s1.heap.objs.size,upd H1 s1.heap.objs.size (.lst xs),I1.laid (t':=s1.toks) (λb u e=>zzc _ e) (Nat.le_refl _) ?_,rfl,q _ hf⟩
 exact⟨z,us,0,r,zze _ rfl⟩
end
noncomputable abbrev Sp:=List V->Hp->VK->XK->Prop
noncomputable abbrev CXT:=List Env->Hp->Shared->XK->Value->Shared->Prop
structure Env0(P:Program)(w:World)(K:PySem.W.Frag)(mg:Str->Option Value)(base:Heap)(A:Around)(outer:List Env)(s:Shared)(H:Hp):Prop where
 frames:A.frames=some outer
 mod:Mod K mg base
 bs:∀b o,base.get? b=some o->s.heap.get? b=some o/\H b=none
 bsz:base.objs.size<=s.heap.objs.size
 funs:s.heap.FunFrames base outer
 frf:∀b∈frs outer,H b=none
 hok:HOk P w H s.heap
 bare:AllBare s.gens
def CE(outer:List Env)(P:Program)(w:World)(H:Hp)(s:Shared)(Q:VK)(u:Value)(s':Shared):Prop :=
 ∃v H',s'.os=s.os/\AllBare s'.gens/\Un (frs outer) [] H H' s.heap s'.heap/\HOk P w H' s'.heap/\RelV v u/\Q v H'
def CR(CX:CXT)(outer:List Env)(P:Program)(w:World)(H:Hp)(s:Shared)(Q:VK)(E:XK)(r:Result)(s':Shared):Prop :=
 match r with
 | .ok (.ret u)=>CE outer P w H s Q u s'
 | .ok _=>False
 | .error e=>CX outer H s E e s'
structure FnOk(P:Program)(w:World)(K:PySem.W.Frag)(mg:Str->Option Value)(base:Heap)(CX:CXT)(k:Nat)(f:Addr)(fd:FuncData)(ps:List Str)(sp:Sp):Prop where
 len:∀vs H Q E,sp vs H Q E->vs.length=ps.length
 run:∀(A:Around) (outer:List Env) (s:Shared) (H:Hp) (args:Args) (us:List Value) (vs:List V) (Q:VK) (E:XK),Room k A->Env0 P w K mg base A outer s H->BindsTo s fd args (ps.zip us)->Vals vs us->sp vs H Q E ->
  codeAny (model P w) A (.call (.ref f) args) (CR CX outer P w H s Q E) s
section
variable {X:Cx}{pins:List (Addr×Obj)}{σ:St}{H:Hp}{s s':Shared}
theorem Inv.env0(I:Inv X pins σ H s):Env0 X.prog X.w X.K X.mg X.base X.A X.stack s H :=
 ⟨I.ok.frames,I.ok.mod,I.bs,Nat.le_trans I.ok.bsz I.sz,I.stack,I.stkFree,I.hok,I.bare⟩
theorem Inv.after{Q:VK}{u:Value}(I:Inv X pins σ H s)(h:CE X.stack X.prog X.w H s Q u s'):EP X pins σ Q u s':=by
 obtain⟨v,H',os,bare,un,hok,r,q⟩:=h
 obtain⟨hh,g,d,t,os'⟩:=s'
 obtain rfl:os'=s.os:=os
 exact⟨v,H',I.call (h':=hh) (g':=g) (d':=d) (t':=t) (ch:=[]) un hok bare (λb z=>absurd z (by simp)),r,q⟩
end
def Binds(K:PySem.W.Frag)(fd:FuncData)(ps:List Str)(ds:List Value):Prop :=
 ∀(s:Shared) (us:List Value),K.In s.heap->(us++ds).length=ps.length->BindsTo s fd ⟨us,[]⟩ (ps.zip (us++ds))
theorem Binds.all{K:PySem.W.Frag}{fd:FuncData}{ps:List Str}(h:∀us:List Value,us.length=ps.length->bindArgs fd ⟨us,[]⟩=pure (ps.zip us)):Binds K fd ps []:=λs us _ hl=>by
 rw[List.append_nil]at hl ⊢
 exact .of_eq (h us hl)
structure FnScope(N P:List Str)(sc:Scope):Prop where
 kind:sc.kind=.function
 co:sc.isCoroutine=false
 gen:sc.isGenerator=false
 nd:N.Nodup
 pre:N.take P.length=P
 par:∀x∈P,sc.names.lookup x=some .local\/sc.names.lookup x=some .cell
 nofree:∀y∈sc.names,y.2≠.free
theorem Yo_{kindOf:Str->Option NameKind}{x:Str}:∀{binds:List (Str×Value)} {m:Str->Option Value},(∀v,(x,v)∉binds)->bindL kindOf binds m x=m x
 | [],_,_=>rfl
 | (n,v)::r,m,h=>by
  unfold bindL
  rw[Yo_ λw hw=>h w (zzg _ hw)]
  split
  ·have:x≠n:=by rintro rfl;exact h v List.mem_cons_self
   simp[this]
  ·rfl
theorem Yq_{kindOf:Str->Option NameKind}{x:Str}:∀{binds:List (Str×Value)} {m:Str->Option Value},(∀v,(x,v)∉binds)->bindC kindOf binds m x=m x
 | [],_,_=>rfl
 | (n,v)::r,m,h=>by
  unfold bindC
  rw[Yq_ λw hw=>h w (zzg _ hw)]
  split
  ·rfl
  ·have:x≠n:=by rintro rfl;exact h v List.mem_cons_self
   simp[this]
theorem Yp_{kindOf:Str->Option NameKind}{x:Str}{v:Value}:∀{P:List Str} {vs:List Value} {i:Nat} {m:Str->Option Value},P.Nodup->P[i]? = some x->vs[i]? = some v->kindOf x=some .local ->
  bindL kindOf (P.zip vs) m x=some v
 | [],_,_,_,_,h,_,_=>by simp at h
 | _::_,[],_,_,_,_,h,_=>by simp at h
 | p::P,w::vs,0,m,nd,h1,h2,hk=>by
  simp at h1 h2;subst h1;subst h2
  show bindL kindOf ((p,w)::P.zip vs) m p=_
  unfold bindL
  rw[Yo_ λv hv=>(List.nodup_cons.mp nd).1 (List.of_mem_zip hv).1,if_pos hk]
  simp
 | p::P,w::vs,i+1,m,nd,h1,h2,hk=>by
  show bindL kindOf ((p,w)::P.zip vs) m x=_
  unfold bindL
  exact Yp_ (i:=i) (List.nodup_cons.mp nd).2 (by simpa using h1) (by simpa using h2) hk
theorem Yr_{kindOf:Str->Option NameKind}{x:Str}{v:Value}:∀{P:List Str} {vs:List Value} {i:Nat} {m:Str->Option Value},P.Nodup->P[i]? = some x->vs[i]? = some v->kindOf x≠some .local ->
  bindC kindOf (P.zip vs) m x=some v
 | [],_,_,_,_,h,_,_=>by simp at h
 | _::_,[],_,_,_,_,h,_=>by simp at h
 | p::P,w::vs,0,m,nd,h1,h2,hk=>by
  simp at h1 h2;subst h1;subst h2
  show bindC kindOf ((p,w)::P.zip vs) m p=_
  unfold bindC
  rw[Yq_ λv hv=>(List.nodup_cons.mp nd).1 (List.of_mem_zip hv).1,if_neg hk]
  simp
 | p::P,w::vs,i+1,m,nd,h1,h2,hk=>by
  show bindC kindOf ((p,w)::P.zip vs) m x=_
  unfold bindC
  exact Yr_ (i:=i) (List.nodup_cons.mp nd).2 (by simpa using h1) (by simpa using h2) hk
noncomputable def start(N:List Str)(vs:List V):St:=vs.map some++List.replicate (N.length - vs.length) none
noncomputable def cxOf(CX:CXT)(P:Program)(w:World)(K:PySem.W.Frag)(mg:Str->Option Value)(base:Heap)(N:List Str)(qual:Str)(scope:Scope)(f:Addr)(cd:Value)(A:Around)(outer:List Env)(s:Shared)(H:Hp)(E:XK):Cx where
 prog:=P
 w:=w
 K:=K
 mg:=mg
 base:=base
 A:=A.deeper (envOfC qual scope s.heap.objs.size f cd)
 N:=N
 s₀:=s
 H₀:=H
 env:=envOfC qual scope s.heap.objs.size f cd
 outer:=outer
 stack:=envOfC qual scope s.heap.objs.size f cd::outer
 ex:=[]
 calm:=true
 fn:=λ_=>true
 pn:=[]
 xe:=λe s'=>wpAny (model P w) (A.deeper (envOfC qual scope s.heap.objs.size f cd)) (leaving (envOfC qual scope s.heap.objs.size f cd) e) (λ_ s''=>CX outer H s E e s'') (λe' s''=>CX outer H s E e' s'') s'
theorem QP_{sc:Scope}{n:Nat}{x:Str}(h:sc.names.lookup x=some .cell):∃c,(cellsFrom n sc.names []).lookup x=some c:=by
 have q:=PySem.W.cellsFrom_some sc.names n [] (.inl h)
 exact Option.isSome_iff_exists.mp q
theorem WK_{CX:CXT}{P:Program}{w:World}{K:PySem.W.Frag}{mg:Str->Option Value}{base:Heap}{N ps:List Str}{qual:Str}{scope:Scope}{f:Addr}{cd:Value}{A:Around}{outer:List Env}{s s1:Shared}{H:Hp}{E:XK}{us:List Value}{vs:List V}
  (S:FnScope N ps scope) (hd:A.handled=none) (e0:Env0 P w K mg base A outer s H) (hl:vs.length=ps.length) (r:Vals vs us)
  (x:InCallC s s.heap.objs.size (bindL (envOfC qual scope s.heap.objs.size f cd).kindOf (ps.zip us) λ_=>none) (cellsFrom (s.heap.objs.size+1) scope.names []) (bindC (envOfC qual scope s.heap.objs.size f cd).kindOf (ps.zip us) λ_=>none) s1) :
  Inv (cxOf CX P w K mg base N qual scope f cd A outer s H E) [] (start N vs) H s1:=by
 have hpl:ps.length<=N.length:=by have:=congrArg List.length S.pre;rw[List.length_take]at this;lia
 obtain⟨h1,tk,rfl,hk⟩:=x.done
 have noA:∀b:Addr,b∉(cxOf CX P w K mg base N qual scope f cd A outer s H E).ex:=λb z=>absurd (show b∈([]:List Addr)from z) (by simp)
 refine⟨⟨e0.mod,S.kind,rfl,rfl,Nat.le_refl _,λy z c h1 h2=>?_,λy hy=>?_,λy c _ h=>?_,λ_=>hd,Around.frames_deeper e0.frames,.inr ⟨rfl,rfl⟩,λb z=>absurd z (noA b),e0.bs,e0.bsz,λb _ _=>noA b,λb z=>absurd z (noA b),e0.funs,e0.frf⟩,
  rfl,e0.bare,Un.kept hk,⟨_,x.toInCall.ns,λi y v h1 h2 h3=>?_⟩,λy c h=>⟨_,x.cell y c h⟩,e0.hok.fresh (Nat.le_refl _),λy c h=>?_,λp hp=>absurd (show p∈([]:List (Addr×Obj))from hp) (by simp),e0.hok.kept hk,?_⟩
 ·exact name_of_addr x.apart (PySem.mem_of_lookup h1) (PySem.mem_of_lookup h2)
 ·have hy:scope.names.lookup y=some .cell\/scope.names.lookup y=some .free:=hy
  rcases hy with hy|hy
  ·exact QP_ hy
  ·exact absurd rfl (S.nofree _ (PySem.mem_of_lookup hy))
 ·exact Nat.le_of_lt (x.above y c (PySem.mem_of_lookup h))
 ·have hi:i<vs.length:=by
   unfold start at h2
   by_cases hi:i<vs.length
   ·exact hi
   ·rw[List.getElem?_append_right (by simpa using hi)]at h2
    rw[List.getElem?_replicate]at h2
    split at h2<;>cases h2
  have ha:vs[i]? = some v:=by
   unfold start at h2
   rw[List.getElem?_append_left (by simpa using hi),List.getElem?_map]at h2
   cases e:vs[i]? with
   | none=>rw[e]at h2;cases h2
   | some a=>rw[e]at h2;cases h2;rfl
  obtain⟨u,hu,rv⟩:=r.get ha
  have hp:ps[i]? = some y:=by
   rw[<-S.pre,List.getElem?_take_of_lt (by lia)];exact h1
  have ndP:ps.Nodup:=by rw[<-S.pre];exact S.nd.sublist (List.take_sublist _ _)
  refine⟨u,rv,?_⟩
  rcases S.par y (List.mem_of_getElem? hp)with k|k
  ·exact .inl ⟨k,Yp_ ndP hp hu k⟩
  ·obtain⟨c,e⟩:=QP_ (n:=s.heap.objs.size+1) k
   refine .inr ⟨.inl k,c,e,?_⟩
   have q:=x.cell y c e
   rw[Yr_ ndP hp hu (by show scope.names.lookup y≠_;rw[k];decide)]at q
   exact q
 ·exact e0.hok.fresh (Nat.le_of_lt (x.above y c (PySem.mem_of_lookup h)))
 ·unfold start
  show _=N.length
  rw[zzf,zzd,List.length_replicate]
  lia
theorem zfH_{CX:CXT}{P:Program}{w:World}{K:PySem.W.Frag}{mg:Str->Option Value}{base:Heap}{k:Nat}{f:Addr}{name qual:Str}{params:Arguments}{body:List Stmt}{scope:Scope}{dV kV doc pm cdv ct oc:Value}{an od:Option Addr}
  {osl:Array (Option Value)} {N ps:List Str} {sp:Sp} (lk:K.lookup f=some ⟨oc,od,.func (PySem.W.fnOf name qual params body scope dV kV doc pm an cdv ct),osl⟩) (hcd:PySem.W.codeIn K cdv qual=true) (S:FnScope N ps scope)
  (len:∀vs H Q E,sp vs H Q E->vs.length=ps.length)
  (hbody:∀(A:Around) (outer:List Env) (s:Shared) (H:Hp) (vs:List V) (Q:VK) (E:XK),Room k (A.deeper (envOfC qual scope s.heap.objs.size f cdv))->sp vs H Q E ->
   ∃t,PSs (cxOf CX P w K mg base N qual scope f cdv A outer s H E) body t/\t { nx:=λ_ H'=>Q .non H',rt:=Q } (start N vs) H) :
  FnOk P w K mg base CX (k+1) f (PySem.W.fnOf name qual params body scope dV kV doc pm an cdv ct) ps sp:=by
 refine⟨len,λA outer s H args us vs Q E hr e0 hb r hsp=>?_⟩
 have hl:=len _ _ _ _ hsp
 have KX:K.In s.heap:=e0.mod.kin.keeps λb o e=>(e0.bs b o e).1
 have lim:s.heap.NoLimit:=e0.mod.nolimit.keeps λb o e=>(e0.bs b o e).1
 have hkind:∀y∈ps.zip us,scope.names.lookup y.1=some .local\/(scope.names.lookup y.1=some .cell/\((cellsFrom (s.heap.objs.size+1) scope.names []).lookup y.1).isSome=true):=λ⟨n,v⟩ hy=>by
  rcases S.par n (List.of_mem_zip hy).1 with q|q
  ·exact .inl q
  ·exact .inr ⟨q,PySem.W.cellsFrom_some _ _ _ (.inl q)⟩
 refine codeAny_call_function hr.depth (KX _ _ lk) rfl S.co S.gen rfl (PySem.W.codeRec_of KX hcd) (hb _ _ _ _ ?_)
 refine wpAny_newFunctionEnv_cells S.kind hkind λenv he s1 x=>?_
 subst he
 refine⟨lim.keeps x.toInCall.keep,codeAny_func ?_⟩
 obtain⟨t,ht,hq⟩:=hbody A outer s H vs Q E (hr.deeper _) hsp
 have I:Inv (cxOf CX P w K mg base N qual scope f cdv A outer s H E) [] (start N vs) H s1:=WK_ S hr.hd e0 hl r x
 refine wpAny_mono (ht [] s1 (start N vs) H _ I hq) (λfl s' hs=>?_) λe s' hs=>hs
 have fin:∀{σ':St} {H':Hp} {v:V} {u:Value},Inv (cxOf CX P w K mg base N qual scope f cdv A outer s H E) [] σ' H' s'->RelV v u->Q v H'->CE outer P w H s Q u s' :=
  λ{σ' H' v u} J rv q=>⟨v,H',J.os,J.bare,J.base,J.hok,rv,q⟩
 cases fl with
 | ret u =>
  obtain⟨v,σ',H',J,rv,q⟩:=hs
  exact fin J rv q
 | next =>
  obtain⟨σ',H',J,q⟩:=hs
  exact fin (v:=V.non) (u:=Value.none) J rfl q
 | brk =>
  obtain⟨_,_,_,q⟩:=hs
  exact False.elim q
 | cont =>
  obtain⟨_,_,_,q⟩:=hs
  exact False.elim q
section
variable {X:Cx}{x:Str}{p pos:Pos}{e:Expr}{es:List Expr}{t:TA}{id T:String}{r:List V->Hp->VK->Prop}
noncomputable def tCB(r:List V->Hp->VK->Prop)(t:TA):TE:=λσ H Q=>t σ H λvs H1=>r vs H1 Q
theorem uS_(hc:CallR X (.builtin id) r)(hg:Gl X x)(hm:X.mg x=none)(hv:bootBuiltins x=some (.builtin id))(ha:PA X (e::es) t)(hn:x ≠ "__name__":=by decide)(hdb:(x==("__debug__" : Str))=false:=by decide)
  (he:starEach (e::es) X.env=(false,eval e X.env)::starEach es X.env:=by rfl) (hpl:(backTo pos (starEach es X.env)).any (·.1)=false:=by rfl):PE X (.Call (.Name x p) (e::es) [] pos) (tCB r t):=by
 intro pins s σ H Q I h
 refine wpAny_Call_Name_kw (UY_ I hg hm hv ?_ hn hdb)
 exact PyProof.Rows.callWith_builtin1 (thn (ha pos pins s σ H _ I h) λus s1 ⟨vs,H1,I1,r1,q1⟩=>hc pins s1 σ H1 vs us Q I1 r1 q1) he hpl
theorem yw_(hc:CallR X (.type T) r)(hg:Gl X x)(hm:X.mg x=none)(hv:bootBuiltins x=some (.type T))(ha:PA X (e::es) t)(hn:x ≠ "__name__":=by decide)(hdb:(x==("__debug__" : Str))=false:=by decide)
  (he:starEach (e::es) X.env=(false,eval e X.env)::starEach es X.env:=by rfl) (hpl:(backTo pos (starEach es X.env)).any (·.1)=false:=by rfl):PE X (.Call (.Name x p) (e::es) [] pos) (tCB r t):=by
 intro pins s σ H Q I h
 refine wpAny_Call_Name_kw (UY_ I hg hm hv ?_ hn hdb)
 exact PyProof.Rows.callWith_type1 (thn (ha pos pins s σ H _ I h) λus s1 ⟨vs,H1,I1,r1,q1⟩=>hc pins s1 σ H1 vs us Q I1 r1 q1) he hpl
end
end L2
namespace HT
open PySem PyProof.Rows
noncomputable def lexLt:List Int->List Int->Bool
 | [],[]=>false
 | [],_::_=>true
 | _::_,[]=>false
 | x::xs,y::ys=>if x=y then lexLt xs ys else decide (x<y)
theorem lexLt_cons(x y:Int)(xs ys:List Int):lexLt (x::xs) (y::ys)=if x=y then lexLt xs ys else decide (x<y):=rfl
theorem lexLt_nil_nil:lexLt [] []=false:=rfl
theorem Z1_(y:Int)(ys:List Int):lexLt [] (y::ys)=true:=rfl
theorem Z2_(x:Int)(xs:List Int):lexLt (x::xs) []=false:=rfl
theorem QJ_(A:Around)(s:Shared)(a:Int)(t:Tok)(c:Int)(u:Tok):∃e,SeqAt.EqAt A s (.int a t) (.int c u) e/\(e=true↔a=c) :=
 ⟨(a==c),SeqAt.EqAt.int_int a t c u,by simp⟩
theorem XK_(A:Around)(s:Shared)(a:Int)(t:Tok)(c:Int)(u:Tok)(prog:Program)(w:World)(E:Value->Shared->Prop)(Q:Value->Shared->Prop)(h:Q (.bool (decide (a<c))) s) :
  wpAny (model prog w) A (richCompare .Lt (.int a t) (.int c u)) Q E s :=
 (PyProof.Rows.lt_int h:wpAny (model prog w) A (compareOp .Lt (.int a t) (.int c u)) Q E s)
section
open PySem.SeqAt
open PySem.AutoSeq1 (wpAny_loadPart')
open PySem.MeetsSeq PySem.MeetsSeq2 PySem.MeetsSeq3
theorem JG_(l b:Addr)(items items2:Array Value)(n n2:Nat)(dd dd2:Option Addr)(sl sl2:Array (Option Value))(ns ms:List Int)(hi:IntsAre items.toList ns)(hj:IntsAre items2.toList ms) :
  Meets (Builtin.«tuple.__lt__» ⟨[.ref l,.ref b],[]⟩)
   (λ_ R s=>s.heap.get? l=some { cls:=.type "tuple",dict:=dd,data:=.seq items n,slots:=sl }/\s.heap.get? b=some { cls:=.type "tuple",dict:=dd2,data:=.seq items2 n2,slots:=sl2 } /\
    R (.ok (.ret (.bool (lexLt ns ms)))) s) :=
 .of_wp λprog w A R s h=>by
  obtain⟨hp,g,d,tk,os⟩:=s;obtain⟨hl,hb,h⟩:=h
  have f2:=AutoSeq1.sub_tuple_tuple
  have z1:items.size=ns.length:=by rw[<-hi.length];simp
  have z2:items2.size=ms.length:=by rw[<-hj.length];simp
  wp_walk using wpAny_loadPart' hl,wpAny_loadPart' hb,wpAny_forIn_list _ (λrest b s'=>b.1=none/\s'=⟨hp,g,d,tk,os⟩/\∃(vs ws:List Value) (ns' ms':List Int),rest=vs.zip ws /\
   IntsAre vs ns'/\IntsAre ws ms'/\ns'.length+items2.size=ms'.length+items.size/\R (.ok (.ret (.bool (lexLt ns' ms')))) ⟨hp,g,d,tk,os⟩) _
  case turn =>
   rintro⟨y,x⟩ rest b s' ⟨hb',rfl,vs,ws,ns',ms',hz,hvi,hwi,hlen,hR⟩
   cases hvi with
   | nil=>rw[List.zip_nil_left]at hz;cases hz
   | cons a t hvi' =>
    cases hwi with
    | nil=>rw[List.zip_nil_right]at hz;cases hz
    | cons c u hwi' =>
     rw[List.zip_cons_cons]at hz
     injection hz with hyx hrest
     injection hyx with hy hx
     subst hy hx
     rw[lexLt_cons]at hR
     simp only[List.length_cons]at hlen
     obtain⟨e,he,hiff⟩:=QJ_ A.in1 ⟨hp,g,d,tk,os⟩ a t c u
     refine zza (he prog w _ _ ?_)
     cases e with
     | true =>
      rw[if_pos (hiff.mp rfl)]at hR
      wp_walk
      exact⟨rfl,rfl,_,_,_,_,hrest,hvi',hwi',by lia,hR⟩
     | false =>
      rw[if_neg (λq=>absurd (hiff.mpr q) Bool.false_ne_true)]at hR
      have hri:=XK_ A.in1 ⟨hp,g,d,tk,os⟩ a t c u prog w
      wp_walk using hri
      exact⟨_,rfl,by simpa using hR⟩
  case fin =>
   rintro⟨b1,b2⟩ s' ⟨hb',rfl,vs,ws,ns',ms',hz,hvi,hwi,hlen,hR⟩
   simp only at hb'
   subst hb'
   have hv:lexLt ns' ms'=decide (items.size<items2.size):=by
    cases hvi with
    | nil =>
     cases hwi with
     | nil =>
      simp only[List.length_nil]at hlen
      rw[lexLt_nil_nil]
      exact(decide_eq_false (by lia)).symm
     | cons c u hw =>
      simp only[List.length_nil,List.length_cons]at hlen
      rw[Z1_]
      exact(decide_eq_true (by lia)).symm
    | cons a t hv =>
     cases hwi with
     | nil =>
      simp only[List.length_nil,List.length_cons]at hlen
      rw[Z2_]
      exact(decide_eq_false (by lia)).symm
     | cons c u hw =>
      rw[List.zip_cons_cons]at hz
      cases hz
   rw[hv]at hR
   wp_walk
   exact⟨_,rfl,by simpa[Builtin.Tuple.tupleCompareSizes]using hR⟩
  case h =>
   exact⟨rfl,rfl,items.toList,items2.toList,ns,ms,rfl,hi,hj,by lia,h⟩
end
section
variable {prog:Program}{w:World}{A:Around}{E:Value->Shared->Prop}{s:Shared}
theorem lt_tupInts{l b:Addr}{items items2:Array Value}{ns ms:List Int}{Q:Value->Shared->Prop}(hl:IsTup s.heap l items)(hb:IsTup s.heap b items2)(hi:IntsAre items.toList ns)(hj:IntsAre items2.toList ms)
  (hu:A.units<cLine) (h:Q (.bool (lexLt ns ms)) s):wpAny (model prog w) A (compareOp .Lt (.ref l) (.ref b)) Q E s:=by
 obtain⟨⟨cls,dd,data,sl⟩,ho,hc,n,hd⟩:=id hl
 obtain⟨⟨cls2,dd2,data2,sl2⟩,ho2,hc2,n2,hd2⟩:=id hb
 simp only at hc hd hc2 hd2
 subst hc hd hc2 hd2
 exact richCompare_meets_room (op:=.Lt) ⟨_,ho,rfl⟩ ⟨_,ho2,rfl⟩ PySem.F.slot_tuple_lt PySem.F.entry_tuple_lt (PySem.F.args_tuple_lt_2 _ _) (JG_ l b items items2 n n2 dd dd2 sl sl2 ns ms hi hj)
  ⟨ho,ho2,show Value.bool (lexLt ns ms)≠Value.notImplemented/\Q (.bool (lexLt ns ms)) s from⟨(λx=>nomatch x),h⟩⟩ hu
theorem cat_tup{t b:Addr}{vs ws:List Value}{Q:Value->Shared->Prop}(ht:IsTup s.heap t vs.toArray)(hb:IsTup s.heap b ws.toArray)(hv:vs≠[])
  (h1:ws=[]->Q (.ref t) s) (h2:ws≠[]->Q (.ref s.heap.objs.size) { s with heap:=s.heap.push { cls:=.type "tuple",data:=.seq (vs++ws).toArray } })
  (hsz:vs.length+ws.length<=sizeLine):wpAny (model prog w) A (binaryOp .Add (.ref t) (.ref b)) Q E s:=by
 obtain⟨⟨cls,dd,data,sl⟩,ho,hc,n,hd⟩:=id ht
 obtain⟨⟨cls2,dd2,data2,sl2⟩,ho2,hc2,n2,hd2⟩:=id hb
 simp only at hc hd hc2 hd2
 subst hc hd hc2 hd2
 have e:vs.toArray++ws.toArray=(vs++ws).toArray:=by simp
 by_cases hw:ws=[]
 ·exact concat_meets ⟨_,ho,rfl⟩ ⟨_,ho2,rfl⟩ noFill_tuple_add seq_tuple_add PySem.F.slot_tuple_add PySem.F.entry_tuple_add (PySem.F.args_tuple_add_2 _ _)
   (tuple_addW1 t b vs.toArray ws.toArray n n2 dd dd2 sl sl2 (by simpa using hv) (by simp[hw])) ⟨ho,ho2,h1 hw⟩
 ·refine concat_meets ⟨_,ho,rfl⟩ ⟨_,ho2,rfl⟩ noFill_tuple_add seq_tuple_add PySem.F.slot_tuple_add PySem.F.entry_tuple_add (PySem.F.args_tuple_add_2 _ _)
   (tuple_addW2 t b vs.toArray ws.toArray n n2 dd dd2 sl sl2 (by simpa using hv) (by simpa using hw) (by rw[List.size_toArray,List.size_toArray];exact hsz)) ⟨ho,ho2,?_⟩
  rw[e]
  exact h2 hw
noncomputable def sIx(n d:Nat):Option Int->Nat
 | none=>d
 | some v=>if v<0 then(v+(n:Int)).toNat else min v.toNat n
theorem sIx_none(n d:Nat):sIx n d none=d:=rfl
theorem sIx_nat(n d k:Nat):sIx n d (some (k:Int))=min k n:=by
 show(if(k:Int)<0 then((k:Int)+(n:Int)).toNat else min (k:Int).toNat n)=min k n
 rw[if_neg (by lia),Int.toNat_natCast]
theorem zdi_(n d:Nat)(hd:d<=n)(o:Option Int):sIx n d o<=n:=by
 cases o with
 | none=>exact hd
 | some v =>
  show(if v<0 then(v+(n:Int)).toNat else min v.toNat n)<=n
  by_cases hv:v<0
  ·rw[if_pos hv];lia
  ·rw[if_neg hv];exact Nat.min_le_right _ _
theorem W5_(v:Int)(n d:Nat):(if v<0 then max (v+(n:Int)) 0 else min v (n:Int))=((sIx n d (some v):Nat):Int):=by
 show(if v<0 then max (v+(n:Int)) 0 else min v (n:Int))=(((if v<0 then(v+(n:Int)).toNat else min v.toNat n):Nat):Int)
 by_cases hv:v<0
 ·simp only[if_pos hv];lia
 ·simp only[if_neg hv];lia
theorem VF_(lo hi:Option Int)(n:Nat):Builtin.Slice.sliceAdjust lo hi 1 (n:Int)=(((sIx n 0 lo:Nat):Int),((sIx n n hi:Nat):Int)):=by
 have h1:¬ ((1:Int)<0):=by lia
 unfold Builtin.Slice.sliceAdjust
 simp only[h1,if_false]
 refine Prod.ext ?_ ?_
 ·cases lo with
  | none=>rfl
  | some v=>exact W5_ v n 0
 ·cases hi with
  | none=>rfl
  | some v=>exact W5_ v n n
theorem Vh_(i j:Nat):Builtin.Slice.slicePlaces (i:Int) (j:Int) 1=j - i:=by
 unfold Builtin.Slice.slicePlaces
 have h1:(1:Int)>0:=by lia
 simp only[h1,if_true,Int.ediv_one]
 split<;>lia
theorem Je_{v:Value}{o:Option Int}{Q:Option Int->Shared->Prop}(p:IsPart v o)(h:Q o s):wpAny (model prog w) A (Builtin.Slice.slicePartIndex v) Q E s:=by
 cases p with
 | none=>exact slicePart_none h
 | int i t=>exact slicePart_int h
theorem uE_{sl:Addr}{vl vu:Value}{lo hi:Option Int}{n:Nat}{Q:Int×Int×Nat->Shared->Prop}(hs:s.heap.IsSliceOf sl vl vu .none)(pl:IsPart vl lo)(pu:IsPart vu hi)
  (h:Q (((sIx n 0 lo:Nat):Int),1,sIx n n hi - sIx n 0 lo) s):wpAny (model prog w) A (Builtin.Slice.sliceApplied (.ref sl) (pure (n:Int))) Q E s:=by
 obtain⟨os,hos,hcs,hds⟩:=id hs
 unfold Builtin.Slice.sliceApplied Builtin.Slice.sliceFields
 refine zza (zza (wpAny_field hos hds (x:=vl) rfl (zza (wpAny_field hos hds (x:=vu) rfl (zza (wpAny_field hos hds (x:=.none) rfl (zzb ?_)))))))
 refine zza (slicePart_none ?_)
 show wpAny _ _ (if((1:Int)==0)=true then _ else _) _ _ s
 rw[if_neg (by decide)]
 refine zza (Je_ pl (zza (Je_ pu (zza (zzb ?_)))))
 show wpAny _ _ (match Builtin.Slice.sliceAdjust lo hi 1 (n:Int)with|(lo,hi)=>pure (lo,(1:Int),Builtin.Slice.slicePlaces lo hi 1)) _ _ s
 rw[VF_ lo hi n]
 show wpAny _ _ (pure (((sIx n 0 lo:Nat):Int),(1:Int),Builtin.Slice.slicePlaces ((sIx n 0 lo:Nat):Int) ((sIx n n hi:Nat):Int) 1)) _ _ s
 rw[Vh_]
 exact zzb h
theorem XQ_(xs:Array Value)(i k:Nat):((List.range k).filterMap λ(m:Nat)=>xs[((i:Int)+(m:Int)*1).toNat]?).toArray=((xs.toList.drop i).take k).toArray:=by
 have e:(λ(m:Nat)=>xs[((i:Int)+(m:Int)*1).toNat]?)=λm=>xs[i+m]?:=by
  funext m
  have:((i:Int)+(m:Int)*1).toNat=i+m:=by lia
  rw[this]
 rw[e]
 have:=pick_run xs i k
 rw[List.filterMap_map]at this
 have e2:((λx=>xs[x]?)∘λx=>i+x)=λm=>xs[i+m]?:=rfl
 rw[e2]at this
 rw[this]
theorem getItem_tuple_cut{t sl:Addr}{items:Array Value}{vl vu:Value}{lo hi:Option Int}{Q:Value->Shared->Prop}(ht:IsTup s.heap t items)(hs:s.heap.IsSliceOf sl vl vu .none)(pl:IsPart vl lo)(pu:IsPart vu hi)
  (hw:¬ (sIx items.size 0 lo=0/\sIx items.size items.size hi=items.size))
  (h:Q (.ref s.heap.objs.size) { s with heap:=s.heap.push { cls:=.type "tuple",data:=.seq ((items.toList.drop (sIx items.size 0 lo)).take (sIx items.size items.size hi - sIx items.size 0 lo)).toArray } })
  (hsz:items.size<=sizeLine):wpAny (model prog w) A (getItem (.ref t) (.ref sl)) Q E s:=by
 have htake:sizeOk (.seq ((items.toList.drop (sIx items.size 0 lo)).take (sIx items.size items.size hi - sIx items.size 0 lo)).toArray):=by
  show((items.toList.drop (sIx items.size 0 lo)).take (sIx items.size items.size hi - sIx items.size 0 lo)).toArray.size<=sizeLine
  rw[List.size_toArray,List.length_take,List.length_drop,Array.length_toList]
  lia
 have hj:sIx items.size items.size hi<=items.size:=zdi_ _ _ (Nat.le_refl _) hi
 obtain⟨os,hos,hcs,hds⟩:=id hs
 have hTs:s.TypeIs (.ref sl) "slice":=⟨os,hos,hcs⟩
 unfold getItem
 try with_reducible refine wpAny_holding ?_
 first|refine zza (zzb ?_)|skip
 refine zza (wpAny_sequenceKey ht.typeIs (by decide) ?_)
 refine zza (wpAny_callSpecial?_slot (name:=Str.ofString "__getitem__") ht.typeIs PyProof.Rows.slot_tuple_getitem
  (wpAny_call_entry PyProof.Rows.slot_tuple_getitem ht.typeIs entry_tuple_getitem ?_ (args_tuple_getitem _ _)))
 show wpAny _ _ (Builtin.Tuple.tupleItemsOf (.ref t) >>= _) _ _ s
 refine zza (tupleItemsOf_ ht ?_)
 refine zza (wpAny_typeOf hTs ?_)
 rw[if_pos (by decide)]
 refine zza (uE_ hs pl pu ?_)
 have hno:¬ ((((sIx items.size 0 lo:Nat):Int)==0&&(1:Int)==1&&(sIx items.size items.size hi - sIx items.size 0 lo)==items.size)=true):=by
  intro q
  rw[Bool.and_eq_true,Bool.and_eq_true]at q
  have q1:((sIx items.size 0 lo:Nat):Int)=0:=eq_of_beq q.1.1
  have q2:sIx items.size items.size hi - sIx items.size 0 lo=items.size:=eq_of_beq q.2
  exact hw ⟨by lia,by lia⟩
 show wpAny _ _ (if(((sIx items.size 0 lo:Nat):Int)==0&&(1:Int)==1&&(sIx items.size items.size hi - sIx items.size 0 lo)==items.size)=true then _ else _) _ _ s
 rw[if_neg hno,XQ_]
 first
  | exact zza (m:=Builtin.Tuple.tupleExact _) (wpAny_newObj_type (zzb ⟨_,rfl,zzb h⟩) htake)
  | exact zza (m:=Builtin.Tuple.tupleExact _) (wpAny_newObj_type (zza (zzb (zzb ⟨_,rfl,zzb h⟩))) htake)
  | exact zza (zza (m:=Builtin.Tuple.tupleExact _) (wpAny_newObj_type (zzb (zzb ⟨_,rfl,zzb h⟩)) htake))
  | exact zza (zza (m:=Builtin.Tuple.tupleExact _) (wpAny_newObj_type (zzb ⟨_,rfl,zzb h⟩) htake))
end
end HT
namespace L2
open PySem PySem.Spec PyProof.Rows
noncomputable abbrev TO:=St->Hp->(Option Int->Hp->Prop)->Prop
def PO(X:Cx)(e:Option Expr)(t:TO):Prop :=
 ∀(pins:List (Addr×Obj)) (s:Shared) (σ:St) (H:Hp) (Q:Option Int->Hp->Prop),Inv X pins σ H s->t σ H Q ->
  wpAny (model X.prog X.w) X.A (evalPart e X.env) (λu s'=>∃o H',Inv X pins σ H' s'/\IsPart u o/\Q o H') X.xe s
noncomputable def zbs_:TO:=λ_ H Q=>Q none H
noncomputable def zeU_(t:TE):TO:=λσ H Q=>t σ H λx H1=>∃i,x=.int i/\Q (some i) H1
theorem intsAre_of{ns:List Int}:∀{us:List Value},Vals (ns.map V.int) us->IntsAre us ns:=by
 induction ns with
 | nil=>intro us r;rw[List.map_nil]at r;cases r;exact .nil
 | cons n ns ih =>
  intro us r
  rw[List.map_cons]at r
  cases r with
  | cons r1 r2 =>
   obtain⟨t,e⟩:=r1
   subst e
   exact .cons n t (ih r2)
section
variable {X:Cx}{e:Expr}{te:TE}{lo hi:Option Expr}{tl th:TO}{pos p2:Pos}
theorem zbL_:PO X none zbs_:=by
 intro pins s σ H Q I h
 rw[evalPart_none]
 exact zzb ⟨none,H,I,.none,h⟩
theorem zbK_(h:PE X e te):PO X (some e) (zeU_ te):=by
 intro pins s σ H Q I hw
 rw[evalPart_some]
 refine thn (h pins s σ H _ I hw) λu s1 ⟨x,H1,I1,r1,q1⟩=>?_
 obtain⟨i,rfl,q⟩:=q1
 obtain⟨t,rfl⟩:=r1
 exact⟨some i,H1,I1,.int i t,q⟩
def SlR(X:Cx)(r:V->Option Int->Option Int->Hp->VK->Prop):Prop :=
 ∀(pins:List (Addr×Obj)) (s:Shared) (σ:St) (H:Hp) (x:V) (v vl vu:Value) (lo hi:Option Int) (sl:Addr) (Q:VK),Inv X pins σ H s->RelV x v->s.heap.IsSliceOf sl vl vu .none->IsPart vl lo->IsPart vu hi->r x lo hi H Q ->
  ∃T id,typeLookup (.type T) "__getitem__" = pure (some (.builtin id))/\s.TypeIs v T/\wpAny (model X.prog X.w) X.A (getItem v (.ref sl)) (EP X pins σ Q) X.xe s
theorem SlR.or{r r':V->Option Int->Option Int->Hp->VK->Prop}(h:SlR X r)(h':SlR X r'):SlR X (λx lo hi H Q=>r x lo hi H Q\/r' x lo hi H Q):=by
 intro pins s σ H x v vl vu lo hi sl Q I rx hs pl pu q
 rcases q with q|q
 ·exact h pins s σ H x v vl vu lo hi sl Q I rx hs pl pu q
 ·exact h' pins s σ H x v vl vu lo hi sl Q I rx hs pl pu q
noncomputable def tSl(r:V->Option Int->Option Int->Hp->VK->Prop)(te:TE)(tl th:TO):TE:=λσ H Q=>te σ H λx H1=>tl σ H1 λl H2=>th σ H2 λu H3=>r x l u H3 Q
theorem XT_{r:V->Option Int->Option Int->Hp->VK->Prop}(hr:SlR X r)(he:PE X e te)(hl:PO X lo tl)(hu:PO X hi th):PE X (.Subscript e (.Slice lo hi none p2) pos) (tSl r te tl th):=by
 intro pins s σ H Q I h
 refine Subscript_ (thn (he pins s σ H _ I h) λv s1 ⟨x,H1,I1,r1,q1⟩=>?_)
 refine wpAny_Slice (thn (hl pins s1 σ H1 _ I1 q1) λvl s2 ⟨l,H2,I2,pl,q2⟩=>thn (hu pins s2 σ H2 _ I2 q2) λvu s3 ⟨u,H3,I3,pu,q3⟩=>?_)
 rw[evalPart_none]
 refine zzb ?_
 have I4:Inv X pins σ H3 { s3 with heap:=s3.heap.push { cls:=.type "slice",data:=.fields #[vl,vu,.none] } }:=I3.kept (t':=s3.toks) λb ob q=>zzc _ q
 obtain⟨T,id,hT,ht,hg⟩:=hr pins { s3 with heap:=s3.heap.push { cls:=.type "slice",data:=.fields #[vl,vu,.none] } } σ H3 x v vl vu l u s3.heap.objs.size Q I4 r1 (Heap.IsSliceOf.new ..) pl pu q3
 show wpAny (model X.prog X.w) X.A (subscriptTail e (.Slice lo hi none p2) v (.ref s3.heap.objs.size)) (EP X pins σ Q) X.xe { s3 with heap:=s3.heap.push { cls:=.type "slice",data:=.fields #[vl,vu,.none] } }
 exact tail_any (ops:=[.ref s3.heap.objs.size,v]) ht hT hg (by with_unfolding_all rfl)
def cutV(xs:List V)(lo hi:Option Int):List V:=(xs.drop (HT.sIx xs.length 0 lo)).take (HT.sIx xs.length xs.length hi - HT.sIx xs.length 0 lo)
theorem ZM_(xs:List V)(lo hi:Option Int):(cutV xs lo hi).length<=xs.length:=by
 unfold cutV
 rw[List.length_take,List.length_drop]
 lia
def rSlT(K:PySem.W.Frag):V->Option Int->Option Int->Hp->VK->Prop:=λx lo hi H Q=>∃a xs,x=.ref a/\SqT K H a xs /\
 ¬ (HT.sIx xs.length 0 lo=0/\HT.sIx xs.length xs.length hi=xs.length)/\∀p,H p=none->Q (.ref p) (upd H p (.tup (cutV xs lo hi)))
theorem sl_tup:SlR X (rSlT X.K):=by
 intro pins s σ H x v vl vu lo hi sl Q I rx hs pl pu h
 obtain⟨a,xs,rfl,hx,hw,q⟩:=h
 cases rx
 obtain⟨its,r,ht,hz⟩:=I.tuple hx
 have hlen:its.toArray.size=xs.length:=by rw[List.size_toArray];exact r.length.symm
 refine⟨"tuple",_,PyProof.Rows.slot_tuple_getitem.lookup,ht.typeIs,?_⟩
 refine HT.getItem_tuple_cut ht hs pl pu (by rw[hlen];exact hw) ?_ (by rw[hlen];exact hz)
 rw[hlen]
 refine⟨.ref s.heap.objs.size,_,I.laid (t':=s.toks) (o:=.tup (cutV xs lo hi)) (λb ob q=>zzc _ q) (Nat.le_refl _) ?_,rfl,q _ (I.hok.fresh (Nat.le_refl _))⟩
 exact⟨Nat.le_trans (ZM_ xs lo hi) hz,_,(r.drop (HT.sIx xs.length 0 lo)).take (HT.sIx xs.length xs.length hi - HT.sIx xs.length 0 lo),IsTup.new _ _,TupN.new _ _⟩
noncomputable def rLtT(K:PySem.W.Frag):R2:=λx y H Q=>∃a b ns ms,x=.ref a/\y=.ref b/\SqT K H a (ns.map V.int)/\SqT K H b (ms.map V.int)/\Q (.bl (HT.lexLt ns ms)) H
theorem zdU_(hu:X.A.units<cLine):OpR X (compareOp .Lt) (rLtT X.K):=by
 intro pins s σ H x y v u Q I rx ry h
 obtain⟨a,b,ns,ms,rfl,rfl,ha,hb,q⟩:=h
 cases rx
 cases ry
 obtain⟨its,r1,p1,_⟩:=I.tuple ha
 obtain⟨its2,r2,p2,_⟩:=I.tuple hb
 have i1:IntsAre its.toArray.toList ns:=intsAre_of r1
 have i2:IntsAre its2.toArray.toList ms:=intsAre_of r2
 exact HT.lt_tupInts p1 p2 i1 i2 hu ⟨.bl (HT.lexLt ns ms),H,I,rfl,q⟩
def zfj_(K:PySem.W.Frag):R2:=λx y H Q=>∃a b xs ys,x=.ref a/\y=.ref b/\SqT K H a xs/\SqT K H b ys/\xs≠[]/\xs.length+ys.length<=sizeLine /\
 (ys=[]->Q (.ref a) H)/\(ys≠[]->∀p,H p=none->Q (.ref p) (upd H p (.tup (xs++ys))))
theorem Vals.nil_iff{xs:List V}{us:List Value}(r:Vals xs us):us=[]↔xs=[]:=by
 cases r with
 | nil=>simp
 | cons _ _=>simp
theorem zbS_:OpR X (binaryOp .Add) (zfj_ X.K):=by
 intro pins s σ H x y v u Q I rx ry h
 obtain⟨a,b,xs,ys,rfl,rfl,ha,hb,hx,hz,q1,q2⟩:=h
 cases rx
 cases ry
 obtain⟨its,r1,p1,_⟩:=I.tuple ha
 obtain⟨its2,r2,p2,_⟩:=I.tuple hb
 refine HT.cat_tup p1 p2 (λz=>hx (r1.nil_iff.mp z)) (λz=>⟨.ref a,H,I,rfl,q1 (r2.nil_iff.mp z)⟩) (λz=>?_) (by rw[<-r1.length,<-r2.length];exact hz)
 refine⟨.ref s.heap.objs.size,_,I.laid (t':=s.toks) (o:=.tup (xs++ys)) (λb ob q=>zzc _ q) (Nat.le_refl _) ?_,rfl,q2 (λw=>z (r2.nil_iff.mpr w)) _ (I.hok.fresh (Nat.le_refl _))⟩
 exact⟨by rw[zzf];exact hz,_,r1.append r2,IsTup.new _ _,TupN.new _ _⟩
end
noncomputable def ixN(n:Nat)(i:Int):Option Nat:=if 0<=i then(if i<n then some i.toNat else none)else if -(n:Int)<=i then some (i+n).toNat else none
def atI{α:Type}(xs:List α)(i:Int):Option α:=(ixN xs.length i).bind λj=>xs[j]?
theorem WG_{n:Nat}{i:Int}{j:Nat}(h:ixN n i=some j):seqIndex? i n=some j/\j<n /\ -(n:Int)<=i/\i<n:=by
 unfold ixN at h
 by_cases h0:0<=i
 ·rw[if_pos h0]at h
  by_cases h1:i<n
  ·rw[if_pos h1]at h
   have e:i.toNat=j:=Option.some.inj h
   exact⟨by rw[seqIndex_of h0 h1,e],by lia,by lia,h1⟩
  ·rw[if_neg h1]at h;cases h
 ·rw[if_neg h0]at h
  by_cases h1 : -(n:Int)<=i
  ·rw[if_pos h1]at h
   have e:(i+n).toNat=j:=Option.some.inj h
   exact⟨by rw[seqIndex_neg (by lia) h1,e],by lia,h1,by lia⟩
  ·rw[if_neg h1]at h;cases h
theorem Y2_{α:Type}{xs:List α}{i:Int}{v:α}(h:atI xs i=some v):∃j,seqIndex? i xs.length=some j/\xs[j]? = some v/\j<xs.length /\ -(xs.length:Int)<=i/\i<xs.length:=by
 unfold atI at h
 cases e:ixN xs.length i with
 | none=>rw[e]at h;cases h
 | some j =>
  rw[e]at h
  obtain⟨h1,h2,h3,h4⟩:=WG_ e
  exact⟨j,h1,h,h2,h3,h4⟩
def Y6_(b:Expr):Prop:=∀o i,subscripted b false o i=operate [o,i] (getItem o i)
def IxR(X:Cx)(r:R2):Prop :=
 ∀(value slice:Expr) (pins:List (Addr×Obj)) (s:Shared) (σ:St) (H:Hp) (x y:V) (v u:Value) (Q:VK),Inv X pins σ H s->RelV x v->RelV y u->r x y H Q ->
  subscripted slice false v u=operate [v,u] (getItem v u)->wpAny (model X.prog X.w) X.A (subscriptTail value slice v u) (EP X pins σ Q) X.xe s
def MtR(X:Cx)(id:String)(r:V->List V->Hp->VK->Prop):Prop :=
 ∀(pins:List (Addr×Obj)) (s:Shared) (σ:St) (H:Hp) (x:V) (xs:List V) (v:Value) (us:List Value) (Q:VK),Inv X pins σ H s->RelV x v->Vals xs us->r x xs H Q ->
  wpAny (model X.prog X.w) X.A (call (.builtin id) (v::us)) (EP X pins σ Q) X.xe s
section
variable {X:Cx}{a b:Expr}{ta tb:TE}{pos:Pos}
theorem IxR.or{r r':R2}(h:IxR X r)(h':IxR X r'):IxR X (λx y H Q=>r x y H Q\/r' x y H Q):=by
 intro value slice pins s σ H x y v u Q I rx ry q hs
 rcases q with q|q
 ·exact h value slice pins s σ H x y v u Q I rx ry q hs
 ·exact h' value slice pins s σ H x y v u Q I rx ry q hs
theorem zdH_{r:R2}(hr:IxR X r)(ha:PE X a ta)(hb:PE X b tb)(hs:Y6_ b):PE X (.Subscript a b pos) (tOp r ta tb):=by
 intro pins s σ H Q I h
 exact Subscript_ (binT ha hb I h λv u s2 x y H2 I2 rx ry q=>hr a b pins s2 σ H2 x y v u Q I2 rx ry q (hs _ _))
def rIxL(K:PySem.W.Frag):R2:=λx y H Q=>∃p xs i v,x=.ref p/\y=.int i/\SqL K H p xs/\atI xs i=some v/\Q v H
def rIxT(K:PySem.W.Frag):R2:=λx y H Q=>∃p xs i v,x=.ref p/\y=.int i/\SqT K H p xs/\atI xs i=some v/\Q v H
def rIxS:R2:=λx y H Q=>∃z i c,x=.str z/\y=.int i/\z.length<=sizeLine/\atI z.cps.toList i=some c/\Q (.str ⟨#[c]⟩) H
theorem ix_list:IxR X (rIxL X.K):=by
 intro value slice pins s σ H x y v u Q I rx ry h hs
 obtain⟨p,xs,i,z,rfl,rfl,hq,he,q⟩:=h
 cases rx
 obtain⟨t,rfl⟩:=ry
 obtain⟨its,r,pl,hz⟩:=I.list hq
 obtain⟨j,h1,h2,h3,h4,h5⟩:=Y2_ he
 obtain⟨w,ew,rw'⟩:=r.get h2
 have hl:=r.length
 have hn:=Zx_
 have fin:EP X pins σ Q w s:=⟨z,H,I,rw',q⟩
 by_cases h0:0<=i
 ·have hj:i.toNat=j:=by
   rw[seqIndex_of h0 h5]at h1
   exact Option.some.inj h1
  exact item_listR pl.isList h0 (by lia) (by rw[hj];simpa using ew) fin hs
 ·have hj:(i+(its.toArray.size:Int)).toNat=j:=by
   rw[seqIndex_neg (by lia) h4]at h1
   rw[List.size_toArray,<-hl]
   exact Option.some.inj h1
  exact subscriptTail_builtinR (x:=w) pl.isList.typeIs slot_list_getitem.lookup
   (wpAny_getItem_list_neg (Q:=λr s'=>r=w/\EP X pins σ Q r s') pl.isList (by lia) (by rw[List.size_toArray]<;>lia) (by lia) (by rw[hj];simpa using ew) ⟨rfl,fin⟩) hs
theorem ix_tup:IxR X (rIxT X.K):=by
 intro value slice pins s σ H x y v u Q I rx ry h hs
 obtain⟨p,xs,i,z,rfl,rfl,hq,he,q⟩:=h
 cases rx
 obtain⟨t,rfl⟩:=ry
 obtain⟨its,r,pl,hz⟩:=I.tuple hq
 obtain⟨j,h1,h2,h3,h4,h5⟩:=Y2_ he
 obtain⟨w,ew,rw'⟩:=r.get h2
 have hl:=r.length
 have hn:=Zx_
 have fin:EP X pins σ Q w s:=⟨z,H,I,rw',q⟩
 exact subscriptTail_builtinR (x:=w) pl.typeIs slot_tuple_getitem.lookup
  (getItem_tuple (j:=j) (Q:=λr s'=>r=w/\EP X pins σ Q r s') pl (by lia) (by lia) (by rw[List.size_toArray,<-hl];exact h1) (by simpa using ew) ⟨rfl,fin⟩) hs
theorem zeq_:IxR X rIxS:=by
 intro value slice pins s σ H x y v u Q I rx ry h hs
 obtain⟨z,i,c,rfl,rfl,hz,he,q⟩:=h
 obtain⟨t,rfl⟩:=rx
 obtain⟨t',rfl⟩:=ry
 obtain⟨j,h1,h2,h3,h4,h5⟩:=Y2_ he
 have hl:z.cps.toList.length=z.length:=by simp[Str.length]
 rw[hl]at h1 h4 h5
 have hn:=Zx_
 exact tail_any (typeIs_str s z t) slot_str_getitem.lookup (getItem_str (c:=c) (by
  have e1:decide (i < -(2^63:Int))=false:=decide_eq_false (by lia)
  have e2:decide (i>=2^63)=false:=decide_eq_false (by lia)
  rw[e1,e2,Bool.or_false]) (by rw[h1];simpa using h2) ⟨.str ⟨#[c]⟩,H,I.tok _,⟨_,rfl⟩,q⟩) hs
def rIx(K:PySem.W.Frag):R2:=λx y H Q=>rIxL K x y H Q\/rIxT K x y H Q\/rIxS x y H Q
theorem zer_:IxR X (rIx X.K):=ix_list.or (ix_tup.or zeq_)
theorem Vl_(its:List Value)(n j:Nat)(u:Value):Obj.mapSeq (·.setIfInBounds j u) { cls:=.type "list",data:=.seq its.toArray n }={ cls:=.type "list",data:=.seq (its.set j u).toArray n }:=by
 simp[Obj.mapSeq]
theorem Inv.lst{pins:List (Addr×Obj)}{σ:St}{H:Hp}{s:Shared}{p:Addr}{xs:List V}(I:Inv X pins σ H s)(h:H p=some (.lst xs)) :
  ∃(its:List Value) (n:Nat),Vals xs its/\s.heap.get? p=some { cls:=.type "list",data:=.seq its.toArray n }/\xs.length<=sizeLine:=by
 obtain⟨z,its,n,r,e⟩:=I.hok p _ h
 exact⟨its,n,r,e,z⟩
theorem Inv.lstUpd{pins:List (Addr×Obj)}{σ:St}{H:Hp}{s:Shared}{p:Addr}{xs ys:List V}{its its':List Value}{n n':Nat}{f:Obj->Obj}(I:Inv X pins σ H s)(h:H p=some (.lst xs))
  (ho:s.heap.get? p=some { cls:=.type "list",data:=.seq its.toArray n }) (hf:f { cls:=.type "list",data:=.seq its.toArray n }={ cls:=.type "list",data:=.seq its'.toArray n' }) (r:Vals ys its') (hz:ys.length<=sizeLine) (t:Nat) :
  Inv X pins σ (upd H p (.lst ys)) { s with heap:=s.heap.update p f,toks:=t }:=by
 have e:(s.heap.update p f).get? p=some { cls:=.type "list",data:=.seq its'.toArray n' }:=by
  rw[Heap.get?_update_self f ho (by rw[hf]<;>rfl),hf]
 refine I.write (x:=p) (e:=p) (by rw[h];trivial) (.inl rfl) (λb u hb q=>(Heap.get?_update_other _ _ (Ne.symm hb)).trans q) ⟨_,e⟩ ?_
 exact⟨hz,its',n',r,e⟩
def zfh_:V->V->V->Hp->(Hp->Prop)->Prop:=λo i v H Q=>∃p xs k j,o=.ref p/\i=.int k/\H p=some (.lst xs)/\ixN xs.length k=some j/\Q (upd H p (.lst (xs.set j v)))
theorem set_list:PSet X zfh_:=by
 intro pins s σ H o i v ov iv u Q I ro ri rv h
 obtain⟨p,xs,k,j,rfl,rfl,hp,hj,q⟩:=h
 cases ro
 obtain⟨t,rfl⟩:=ri
 obtain⟨its,n,r,ho,hz⟩:=I.lst hp
 obtain⟨h1,h2,h3,h4⟩:=WG_ hj
 have hl:=r.length
 have hn:=Zx_
 have I':Inv X pins σ (upd H p (.lst (xs.set j v))) { s with heap:=s.heap.update p (Obj.mapSeq (·.setIfInBounds j u)) } :=
  I.lstUpd hp ho (Vl_ its n j u) (r.set rv j) (by rw[List.length_set];exact hz) s.toks
 by_cases h0:0<=k
 ·have hk:k.toNat=j:=by
   rw[seqIndex_of h0 h4]at h1
   exact Option.some.inj h1
  exact PySem.W.ki_setAt ho h0 (by lia) (by rw[List.size_toArray,<-hl];exact h4) (by rw[hk];exact⟨_,I',q⟩)
 ·have hk:(k+(its.toArray.size:Int)).toNat=j:=by
   rw[seqIndex_neg (by lia) h3]at h1
   rw[List.size_toArray,<-hl]
   exact Option.some.inj h1
  exact PySem.W.ki_setBack ho (by lia) (by rw[List.size_toArray,<-hl];exact h3) (by lia) (by rw[hk];exact⟨_,I',q⟩)
theorem Ur_(lo hi:Option Int)(n:Nat):(sliceBounds lo hi none n).1=((HT.sIx n 0 lo:Nat):Int)/\(sliceBounds lo hi none n).2.1=((HT.sIx n n hi:Nat):Int)/\(sliceBounds lo hi none n).2.2=1:=by
 refine⟨?_,?_,rfl⟩
 ·cases lo with
  | none=>simp[sliceBounds,HT.sIx]
  | some i =>
   simp only[sliceBounds,HT.sIx,Option.getD_none,show(1:Int)>0 by decide,if_true]
   by_cases h:i<0
   ·simp only[h,if_true]<;>lia
   ·simp only[h,if_false]<;>lia
 ·cases hi with
  | none=>simp[sliceBounds,HT.sIx]
  | some i =>
   simp only[sliceBounds,HT.sIx,Option.getD_none,show(1:Int)>0 by decide,if_true]
   by_cases h:i<0
   ·simp only[h,if_true]<;>lia
   ·simp only[h,if_false]<;>lia
theorem JJ_(its:List Value)(lo hi:Option Int):slicePick its.toArray lo hi none=((its.drop (HT.sIx its.length 0 lo)).take (HT.sIx its.length its.length hi - HT.sIx its.length 0 lo)).toArray:=by
 obtain⟨h1,h2,h3⟩:=Ur_ lo hi its.toArray.size
 unfold slicePick
 rw[h1,h2,h3]
 simp only[sliceRange_one,pick_run,List.size_toArray]<;>rfl
def rSlL(K:PySem.W.Frag):V->Option Int->Option Int->Hp->VK->Prop:=λx lo hi H Q=>∃a xs,x=.ref a/\SqL K H a xs/\∀p,H p=none->Q (.ref p) (upd H p (.lst (cutV xs lo hi)))
theorem zbx_:SlR X (rSlL X.K):=by
 intro pins s σ H x v vl vu lo hi sl Q I rx hs pl pu h
 obtain⟨a,xs,rfl,hx,q⟩:=h
 cases rx
 obtain⟨its,r,ht,hz⟩:=I.list hx
 have hlen:=r.length
 refine⟨"list",_,slot_list_getitem.lookup,ht.isList.typeIs,?_⟩
 refine wpAny_getItem_list_slice ht.isList hs pl pu .none (by simp) ?_ (by rw[List.size_toArray]<;>lia)
 rw[JJ_,<-hlen]
 refine⟨.ref s.heap.objs.size,_,I.laid (t':=s.toks) (o:=.lst (cutV xs lo hi)) (λb ob q=>zzc _ q) (Nat.le_refl _) ?_,rfl,q _ (I.hok.fresh (Nat.le_refl _))⟩
 exact⟨Nat.le_trans (ZM_ xs lo hi) hz,_,0,(r.drop (HT.sIx xs.length 0 lo)).take (HT.sIx xs.length xs.length hi - HT.sIx xs.length 0 lo),zze _ rfl⟩
theorem Ym_:CallR X (.builtin "len") (λxs H Q=>∃p ys,xs=[.ref p]/\(SqL X.K H p ys\/SqT X.K H p ys)/\Q (.int ys.length) H):=by
 intro pins s σ H xs us Q I r h
 obtain⟨p,ys,rfl,hq,q⟩:=h
 obtain⟨u,rfl,rx⟩:=vals1 r
 cases rx
 have hn:=Zx_
 rcases hq with hq|hq
 ·obtain⟨its,r',pl,hz⟩:=I.list hq
  have hlen:=r'.length
  exact Calls.call_len_list pl.isList (by simp only[List.size_toArray]<;>lia) ⟨.int ys.length,H,I.tok _,⟨s.toks+1,by rw[List.size_toArray,hlen]⟩,q⟩
 ·obtain⟨its,r',pl,hz⟩:=I.tuple hq
  have hlen:=r'.length
  exact len_tuple pl (by simp only[List.size_toArray]<;>lia) ⟨.int ys.length,H,I.tok _,⟨s.toks+1,by rw[List.size_toArray,hlen]⟩,q⟩
theorem Yl_:CallR X (.builtin "len") (λxs H Q=>∃z,xs=[.str z]/\z.length<=sizeLine/\Q (.int z.length) H):=by
 intro pins s σ H xs us Q I r h
 obtain⟨z,rfl,hz,q⟩:=h
 obtain⟨u,rfl,t,rfl⟩:=vals1 r
 have hn:=Zx_
 exact len_str (by lia) ⟨.int z.length,H,I.tok _,⟨_,rfl⟩,q⟩
theorem CallR.or{f:Value}{r r':List V->Hp->VK->Prop}(h:CallR X f r)(h':CallR X f r'):CallR X f (λxs H Q=>r xs H Q\/r' xs H Q):=by
 intro pins s σ H xs us Q I rs q
 rcases q with q|q
 ·exact h pins s σ H xs us Q I rs q
 ·exact h' pins s σ H xs us Q I rs q
theorem Yk_:CallR X (.type "list") (λxs H Q=>∃p ys,xs=[.ref p]/\(SqL X.K H p ys\/SqT X.K H p ys)/\∀l,H l=none->Q (.ref l) (upd H l (.lst ys))):=by
 intro pins s σ H xs us Q I r h
 obtain⟨p,ys,rfl,hq,q⟩:=h
 obtain⟨u,rfl,rx⟩:=vals1 r
 cases rx
 have fin:∀(its:List Value),Vals ys its->ys.length<=sizeLine->∀(h':Heap) (c':Nat),(∀b o',s.heap.get? b=some o'->h'.get? b=some o') ->
   h'.get? s.heap.objs.size=some { cls:=.type "list",dict:=none,data:=.seq its.toArray c',slots:=#[] }->EP X pins σ Q (.ref s.heap.objs.size) { s with heap:=h' }:=λits r' hz h' c' kp e =>
  ⟨.ref s.heap.objs.size,_,I.laid (t':=s.toks) kp (Nat.le_refl _) (show ObjOk X.prog X.w _ h' _ (.lst ys)from⟨hz,its,c',r',e⟩),rfl,q _ (I.hok.fresh (Nat.le_refl _))⟩
 rcases hq with hq|hq
 ·obtain⟨its,r',pl,hz⟩:=I.list hq
  have hlen:=r'.length
  obtain⟨o,ho,hc,n,hd⟩:=pl.isList
  exact call_list_seq p (.inl rfl) ho hc hd (λh' c' kp e=>fin its r' hz h' c' kp e) (by simp only[List.size_toArray]<;>lia)
 ·obtain⟨its,r',pl,hz⟩:=I.tuple hq
  have hlen:=r'.length
  obtain⟨o,ho,hc,n,hd⟩:=pl
  exact call_list_seq p (.inr rfl) ho hc hd (λh' c' kp e=>fin its r' hz h' c' kp e) (by simp only[List.size_toArray]<;>lia)
theorem z1_:CallR X (.type "tuple") (λxs H Q=>∃p ys,xs=[.ref p]/\((SqL X.K H p ys/\∀l,H l=none->Q (.ref l) (upd H l (.tup ys)))\/(SqT X.K H p ys/\Q (.ref p) H))):=by
 intro pins s σ H xs us Q I r h
 obtain⟨p,ys,rfl,h⟩:=h
 obtain⟨u,rfl,rx⟩:=vals1 r
 cases rx
 rcases h with ⟨hq,q⟩|⟨hq,q⟩
 ·obtain⟨its,r',pl,hz⟩:=I.list hq
  have hlen:=r'.length
  refine call_tuple_list pl.isList (λh' kp=>?_) (by simp only[List.size_toArray]<;>lia)
  have I1:Inv X pins σ H { s with heap:=h' }:=I.kept (t':=s.toks) kp
  have I2:Inv X pins σ (upd H h'.objs.size (.tup ys)) { s with heap:=h'.push { cls:=.type "tuple",data:=.seq its.toArray } } :=
   I1.laid (t':=s.toks) (λb o e=>zzc _ e) (Nat.le_refl _) (show ObjOk X.prog X.w _ _ _ (.tup ys)from⟨hz,its,r',IsTup.new _ _,TupN.new _ _⟩)
  exact⟨.ref h'.objs.size,_,I2,rfl,q _ (I1.hok.fresh (Nat.le_refl _))⟩
 ·obtain⟨its,r',pl,hz⟩:=I.tuple hq
  exact call_tuple_same pl ⟨.ref p,H,I,rfl,q⟩
def tyV(K:PySem.W.Frag)(T:String)(x:V)(H:Hp):Prop:=match x with
 | .str _=>T = "str"
 | .int _=>T = "int"
 | .ref p=>(T = "list" /\ ∃xs,SqL K H p xs)\/(T = "tuple" /\ ∃o,K.lookup p=some o/\o.cls=.type "tuple" /\ o.dict=none) \/
   (T = "dict" /\ ((∃kvs,H p=some (.dK kvs))\/∃kvs,H p=some (.dT kvs)))\/(T = "set" /\ ∃S n,H p=some (.set S n))
 | _=>False
theorem zda_{pins:List (Addr×Obj)}{σ:St}{H:Hp}{s:Shared}{T:String}{x:V}{v:Value}(I:Inv X pins σ H s)(r:RelV x v)(ty:tyV X.K T x H) :
  s.TypeIs v T/\∀a,v=.ref a->∃ob,s.heap.get? a=some ob/\ob.dict=none:=by
 cases x with
 | str z =>
  obtain⟨t,rfl⟩:=r
  cases (show T = "str" from ty)
  exact⟨typeIs_str s z t,λ_ e=>nomatch e⟩
 | int i =>
  obtain⟨t,rfl⟩:=r
  cases (show T = "int" from ty)
  exact⟨typeIs_int s i t,λ_ e=>nomatch e⟩
 | ref p =>
  cases r
  rcases ty with ⟨rfl,xs,hq⟩|⟨rfl,o,hk,hc,hd⟩|⟨rfl,hk⟩|⟨rfl,S,n,hk⟩
  ·obtain⟨its,_,pl,_⟩:=I.list hq
   refine⟨pl.isList.typeIs,λa e=>?_⟩
   cases e
   obtain⟨o,n,e,c,hd,_⟩:=pl
   exact⟨o,e,hd⟩
  ·refine⟨⟨o,I.kIn p o hk,hc⟩,λa e=>?_⟩
   cases e
   exact⟨o,I.kIn _ o hk,hd⟩
  ·have z:∃o,s.heap.get? p=some o/\o.ExactDict:=by
    rcases hk with ⟨kvs,hk⟩|⟨kvs,hk⟩
    ·obtain⟨_,_,_,_,o,_,_,e,ex,_⟩:=I.hok p _ hk
     exact⟨o,e,ex⟩
    ·obtain⟨_,_,_,_,o,_,_,e,ex,_⟩:=I.hok p _ hk
     exact⟨o,e,ex⟩
   obtain⟨o,e,ex⟩:=z
   refine⟨⟨o,e,ex.1⟩,λa e2=>?_⟩
   cases e2
   exact⟨o,e,ex.2.1⟩
  ·obtain⟨o,_,_,_,e,ex,_⟩:=I.hok p _ hk
   refine⟨⟨o,e,ex.1⟩,λa e2=>?_⟩
   cases e2
   exact⟨o,e,ex.2.1⟩
 | _=>exact False.elim ty
noncomputable def tBM(K:PySem.W.Frag)(T:String)(r:V->List V->Hp->VK->Prop)(to:TE)(t:TA):TE:=λσ H Q=>to σ H λx H1=>tyV K T x H1/\t σ H1 λxs H2=>r x xs H2 Q
variable {o e:Expr}{es:List Expr}{to:TE}{t:TA}{name:Str}{apos cpos:Pos}{T id:String}{r:V->List V->Hp->VK->Prop}
theorem zfn_(pa:PlainAttrs T)(slot:Slot T name id)(hty:typeOf (.builtin id)=pure (.type "method_descriptor"))(hm:MtR X id r)(ho:PE X o to)(ha:PA X (e::es) t)
  (hbase:attributeBase o name X.env (eval o X.env)=eval o X.env:=by rfl)
  (hfew:((backTo cpos (starEach (e::es) X.env)).all (λx=>!x.1)&&(backToKw cpos (keywordEach [] X.env)).all (λx=>x.1.isSome)
   && decide ((e::es).length+([]:List Keyword).length+(if([]:List Keyword).isEmpty then 0 else 1)<30))=true:=by rfl)
  (hline:(apos.endLine==cpos.line)=true:=by rfl) (hs:starEach (e::es) X.env=(false,eval e X.env)::starEach es X.env:=by rfl) (hplain:(backTo cpos (starEach es X.env)).any (·.1)=false:=by rfl) :
  PE X (.Call (.Attribute o name apos) (e::es) [] cpos) (tBM X.K T r to t):=by
 intro pins s σ H Q I h
 refine wpAny_Call_method_late hbase hfew hline rfl (thn (ho pins s σ H _ I h) λv s1 ⟨x,H1,I1,r1,ty,q1⟩=>?_)
 obtain⟨h1,h2⟩:=zda_ I1 r1 ty
 refine⟨T,id,pa,slot,hty,h1,h2,?_⟩
 have hA:=ha cpos pins s1 σ H1 _ I1 q1
 rw[hs]at hA ⊢
 refine Calls.callWith_builtin (by show(false||(backTo cpos (starEach es X.env)).any (·.1))=false;rw[hplain]<;>rfl) (Calls.evalArgs_plain ?_)
 exact thn hA λus s2 ⟨vs,H2,I2,r2,q2⟩=>hm pins s2 σ H2 x vs v us Q I2 r1 r2 q2
end
def MtM(X:Cx)(id:String)(r:V->List V->Hp->VK->Prop):Prop :=
 ∀(pins:List (Addr×Obj)) (s:Shared) (σ:St) (H:Hp) (x:V) (xs:List V) (v:Value) (us:List Value) (Q:VK),Inv X pins σ H s->RelV x v->Vals xs us->r x xs H Q ->
  wpAny (model X.prog X.w) X.A (call (.builtin id) (v::us)) (EP X pins σ Q) X.xe s
theorem Vals.one:∀{x:V} {us:List Value},Vals [x] us->∃u,us=[u]/\RelV x u:=by
 intro x us h
 cases h with
 | cons r t=>cases t;exact⟨_,rfl,r⟩
section
variable {X:Cx}{pins:List (Addr×Obj)}{σ:St}{H:Hp}{s:Shared}{l b:Addr}{xs ys zs:List V}
theorem Inv.lset{its its':List Value}{n:Nat}{f:Array Value->Array Value}{t':Nat}(I:Inv X pins σ H s)(hH:H l=some (.lst xs))
  (e:s.heap.get? l=some { cls:=.type "list",data:=.seq its.toArray n }) (hf:f its.toArray=its'.toArray) (hv:Vals ys its') (hz:ys.length<=sizeLine) :
  Inv X pins σ (upd H l (.lst ys)) { s with heap:=s.heap.update l (Obj.mapSeq f),toks:=t' }:=by
 have q:=PySem.IsL.update e f
 rw[hf]at q
 refine I.write (x:=l) (e:=l) (by rw[hH];exact trivial) (.inl rfl) (λb' u hb hu=>(Heap.get?_update_other s.heap (Obj.mapSeq f) (Ne.symm hb)).trans hu) ⟨_,q⟩ ?_
 exact⟨hz,its',_,hv,q⟩
theorem Inv.lstM(I:Inv X pins σ H s)(hH:H l=some (.lst xs)):xs.length<=sizeLine/\∃(its:List Value) (n:Nat),Vals xs its/\xs.length=its.length/\s.heap.get? l=some { cls:=.type "list",data:=.seq its.toArray n }:=by
 obtain⟨z,its,n,r,e⟩:=I.hok l _ hH
 exact⟨z,its,n,r,r.length,e⟩
end
section
variable {X:Cx}
def zbF_:V->List V->Hp->VK->Prop:=λx vs H Q=>∃l xs y,x=.ref l/\vs=[y]/\H l=some (.lst xs)/\xs.length<sizeLine/\Q .non (upd H l (.lst (xs++[y])))
theorem Ws_:MtM X "list.append" zbF_:=by
 intro pins s σ H x vs v us Q I rx rv h
 obtain⟨l,xs,y,rfl,rfl,hH,hz,q⟩:=h
 cases rx
 obtain⟨u,rfl,ru⟩:=rv.one
 obtain⟨z,its,n,r,hl,e⟩:=I.lstM hH
 refine call_meets F.slot_list_append ⟨_,e,rfl⟩ F.entry_list_append (F.args_list_append_2 _ _) (PySem.list_append l its.toArray n u (by rw[List.size_toArray];lia)) ⟨e,?_⟩
 refine⟨.non,_,I.lset (its':=its++[u]) hH e (by simp) (r.append (.cons ru .nil)) ?_,rfl,q⟩
 rw[zzf,List.length_singleton]
 lia
end
end L2
namespace Att
open PySem PySem.W PySem.Calls PyProof.Rows
theorem ZF_{P:Params}{h:Heap}:∀(ns:List Int) (vs:List Value),WellAll P h vs (ns.map WData.int)->IntsAre vs ns:=by
 intro ns
 induction ns with
 | nil =>
  intro vs w
  rw[List.map_nil]at w
  cases w
  exact .nil
 | cons n ns ih =>
  intro vs w
  rw[List.map_cons]at w
  cases w with
  | cons a b =>
   cases a
   exact .cons _ _ (ih _ b)
theorem VW_{l:OpenLaw}{n:Nat}(hn:l.most=some n){P:Params}{h:Heap}{args:List WData}{vals:List Value}
  (hpre:l.row.toRowW.claim.pre args=true) (hwl:WellAll P h vals args) :
  ∃a vs ns,vals=[Value.ref a]/\args=[WData.list (ns.map WData.int)]/\h.get? a=some { cls:=.type "list",data:=.seq vs.toArray }/\IntsAre vs ns/\ns.length<=n:=by
 have hsh:WShape.hasAll [] args [.list .int]=true:=(pre_splitW hpre).1
 have hc:l.pre.holds [] { args:=args }=true:=(pre_splitW hpre).2
 obtain⟨d,r,rfl,h1,h2⟩:=hasAllW_cons hsh
 obtain rfl:=hasAllW_nil h2
 obtain⟨xs,rfl,h3⟩:=hasW_list h1
 obtain⟨ns,rfl⟩:=items_int h3
 have hlen:ns.length<=n:=by
  unfold OpenLaw.pre at hc
  have h4:(WTm.not (.lt (.lit (.int (n:Int))) (.len (.arg 0)))).holds [] { args:=[.list (ns.map .int)] }=true:=by
   have h4:=(holds_andW hc).1
   rw[hn]at h4
   exact h4
  have h5:=condW_of h4 (w_not (w_lt w_lit (w_len_list (w_arg rfl))))
  rw[zzd]at h5
  refine Nat.le_of_not_lt λq=>?_
  have q':(n:Int)<((ns.length:Nat):Int):=by lia
  first
   | (rw[decide_eq_true q']at h5;exact absurd h5 (by decide))
   | (simp at h5;lia)
 cases hwl with
 | cons w1 w2 =>
  cases w2
  cases w1 with
  | list ho hall=>exact⟨_,_,ns,rfl,rfl,ho,ZF_ ns _ hall,hlen⟩
theorem V8_(l:OpenLaw)(args:List WData):l.row.toRowW.claim.post args (.bool true) args=true :=
 postW_of (r:=l.row.toRowW) (X:=(true==true))
  (show WShape.has [] (.bool true) .bool=true by first|rfl|decide|simp[WShape.has,WShape.arms,WShape.armsAll])
  (show(WTm.eq .res (.lit (.bool true))).value [] { args:=args,res:=some (.bool true),after:=args }=some (.bool (true==true))from w_eq_bool (w_res rfl) w_lit) rfl
theorem attach_call{l:OpenLaw}{n:Nat}{q:Program}{loose:List Str}{XP:(Str->Option Value)->Heap->Prop}{YP:World->Heap->Prop}{d:DefRec}
  (hn:l.most=some n) (hdf:d.params.defaults=[])
  (call:∀(w:World) (s₀ s₁:Shared) (mg mb:Str->Option Value) (fa:Addr) (o:Obj) (pm cd doc:Value) (a:Addr) (vs:List Value) (ns:List Int),
   Ground q loose [] XP w s₀ mg mb s₁.heap->YP w s₁.heap ->
   s₁.heap.get? fa=some o->o.data=.func (docDef d.name d.params d.body d.scope pm cd doc)->s₁.heap.CodeRec cd d.name->mg d.name=some (.ref fa) ->
   s₁.heap.get? a=some { cls:=.type "list",data:=.seq vs.toArray }->IntsAre vs ns->ns.length<=n->s₁.gens = #[] ->
   codeAny (model l.prog w) callerA (.call (.ref fa) ⟨[.ref a],[]⟩) (λr s'=>r=.ok (.ret (.bool true))/\OldK s₁.heap s'.heap/\s'.os=s₁.os/\AllBare s'.gens) s₁) :
  WalkO q loose XP YP l.row.toRowW d [] (λf vs=>PySem.call f vs):=by
 intro w s₀ s₁ mg mb G Y fa o pm cd doc dV kV ho hd hcd hD hmg hg args vals as hpre hlay hrd hwl hlo
 obtain rfl:dV=.none:=Dflts.none hD hdf
 obtain rfl:kV=.none:=Dflts.noKw hD
 obtain⟨a,vs,ns,rfl,rfl,hobj,hints,hlen⟩:=VW_ hn hpre hwl
 refine enter_call (codeAny_mono (call w s₀ s₁ mg mb fa o pm cd doc a vs ns G Y ho (fd_plain hd) hcd hmg hobj hints hlen hg) λr s' hq=>?_)
 obtain⟨rfl,h2,h3,h4⟩:=hq
 exact⟨.inl ⟨.bool true,.bool true,[],rfl,λ_=>rfl,.bool true,V8_ l _,λ_=>⟨List.Pairwise.nil,λ_ hm=>(nomatch hm)⟩⟩,h2,h3,h4⟩
end Att
namespace L2
open PySem PySem.Spec PyProof.Rows
theorem Ul_:∀{vs:List Value} {ns:List Int},IntsAre vs ns->Vals (ns.map V.int) vs
 | _,_,.nil=>.nil
 | _,_,.cons n t h=>.cons ⟨t,rfl⟩ (Ul_ h)
def Only(H:Hp):Prop:=∀b,H b=none\/∃o xs,H b=some (.frz o (.lst xs))
theorem X8_{P:Program}{w:World}{K:PySem.W.Frag}{mg mb:Str->Option Value}{CX:CXT}{k:Nat}{fa a:Addr}{fd:FuncData}{x:Str}{sp:Sp}{s₁:Shared}{vs:List Value}{ns:List Int}
  (KX:K.In s₁.heap) (hns:s₁.heap.Ns mainGlobals mg) (hb:s₁.heap.Ns builtinsNs mb) (hbb:∀x:Str,x ≠ "__name__" -> mb x=bootBuiltins x) (hlim:s₁.heap.NoLimit) (hg:s₁.gens = #[])
  (ha:s₁.heap.get? a=some { cls:=.type "list",data:=.seq vs.toArray }) (hi:IntsAre vs ns) (hl:ns.length<=sizeLine) (hr:Room k callerA)
  (F:∀base:Heap,K.In base->base.Ns mainGlobals mg->FnOk P w K mg base CX k fa fd [x] sp) (hbind:∀(s:Shared) (u:Value),BindsTo s fd ⟨[u],[]⟩ [(x,u)])
  (hsp:∀H:Hp,Only H->SqL K H a (ns.map V.int)->sp [.ref a] H (λv _=>v=.bl true) λ_ _ _=>False)
  (hCX:∀H e s',CX [] H s₁ (λ_ _ _=>False) e s'->False) :
  codeAny (model P w) callerA (.call (.ref fa) ⟨[.ref a],[]⟩) (λr s'=>r=.ok (.ret (.bool true))/\OldK s₁.heap s'.heap/\s'.os=s₁.os/\AllBare s'.gens) s₁:=by
 have rv:=Ul_ hi
 have lenV:=hi.length
 have core:∀H:Hp,Only H->SqL K H a (ns.map V.int)->HOk P w H s₁.heap->(∀b,H b≠none->b=a)->(H a≠none->K.lookup a=none) ->
   codeAny (model P w) callerA (.call (.ref fa) ⟨[.ref a],[]⟩) (λr s'=>r=.ok (.ret (.bool true))/\OldK s₁.heap s'.heap/\s'.os=s₁.os/\AllBare s'.gens) s₁:=by
  intro H hO hS hok hA hK
  have base_of:∀{b:Addr} {o:Obj},s₁.heap.get? b=some o->H b=none->(hidT s₁.heap H).get? b=some o:=λe n=>zah_ e n
  have noA:∀{b:Addr} {o:Obj} {es:Array DictEntry} {ep:Nat},s₁.heap.get? b=some o->o.data=.dict es ep->H b=none:=λ{b o es ep} e d=>by
   cases q:H b with
   | none=>rfl
   | some u =>
    have e':b=a:=hA b (by rw[q];simp)
    subst e'
    rw[ha]at e;cases e
    have d':Data.seq vs.toArray _=Data.dict es ep:=d
    cases d'
  have nsK:∀{b:Addr} {m:Str->Option Value},s₁.heap.Ns b m->(hidT s₁.heap H).Ns b m:=λ{b m} ⟨o,es,ep,e,d,r⟩=>⟨o,es,ep,base_of e (noA e d),d,r⟩
  have hKb:K.In (hidT s₁.heap H):=λb o e=>base_of (KX b o e) (by
   cases q:H b with
   | none=>rfl
   | some u =>
    have e':b=a:=hA b (by rw[q];simp)
    subst e'
    rw[hK (by rw[q];simp)]at e;cases e)
  have hM:Mod K mg (hidT s₁.heap H):=⟨hKb,nsK hns,⟨mb,nsK hb,hbb⟩,let ⟨mc,h1,h2⟩:=hlim;⟨mc,nsK h1,h2⟩⟩
  have e0:Env0 P w K mg (hidT s₁.heap H) callerA [] s₁ H:=⟨rfl,hM,λb o e=>zbY_ e,Nat.le_of_eq (WL_ _ _),trivial,λb hb=>absurd (show b∈([]:List Addr)from hb) (by simp),hok,.of_eq hg⟩
  refine codeAny_mono ((F _ hKb (nsK hns)).run callerA [] s₁ H ⟨[.ref a],[]⟩ [.ref a] [.ref a] _ _ hr e0 (hbind s₁ (.ref a)) (.cons rfl .nil) (hsp H hO hS)) λr s' h=>?_
  cases r with
  | error e=>exact(hCX H e s' h).elim
  | ok fl =>
   cases fl with
   | next=>exact False.elim h
   | brk=>exact False.elim h
   | cont=>exact False.elim h
   | ret u =>
    obtain⟨v,H',os,bare,un,hok',r',q⟩:=h
    have q':v=.bl true:=q
    subst q'
    obtain rfl:u=Value.bool true:=r'
    refine⟨rfl,OldK.of_keep λb o e=>?_,os,bare⟩
    cases q:H b with
    | none=>exact un.keep b o e q (by intro z;exact absurd (show b∈([]:List Addr)from z) (by simp)) (by simp)
    | some u =>
     rcases hO b with z|⟨ob,xs,z⟩
     ·rw[q]at z;cases z
     ·have z2:=un.frzs b ob _ z
      obtain⟨e1,_⟩:=hok b _ z
      obtain⟨e2,_⟩:=hok' b _ z2
      rw[e]at e1;cases e1
      exact e2
 cases hk:K.lookup a with
 | some o =>
  have e:=KX a o hk
  rw[ha]at e
  cases e
  refine core (λ_=>none) (λ_=>.inl rfl) (.inr ⟨_,vs.toArray,_,hk,rfl,rfl,rfl,by rw[List.size_toArray,lenV];exact hl,by simpa using rv⟩) (λb u z=>by have z':(none:Option HO)=some u:=z;cases z') (λb z=>absurd rfl z) λz=>absurd rfl z
 | none =>
  refine core (λb=>if b=a then some (.frz { cls:=.type "list",data:=.seq vs.toArray } (.lst (ns.map V.int)))else none) (λb=>?_) (.inl (.inr ⟨{ cls:=.type "list",data:=.seq vs.toArray },if_pos rfl⟩)) (λb u z=>?_) (λb z=>?_) λ_=>hk
  ·by_cases hb:b=a
   ·exact .inr ⟨_,_,if_pos hb⟩
   ·exact .inl (if_neg hb)
  ·by_cases hb:b=a
   ·have z':=(if_pos hb).symm.trans z
    cases z'
    subst hb
    exact⟨ha,by rw[zzd];exact hl,vs,_,rv,ha⟩
   ·have z':=(if_neg hb).symm.trans z
    cases z'
  ·by_cases hb:b=a
   ·exact hb
   ·exact absurd (if_neg hb) z
theorem walk_of{l:PySem.W.OpenLaw}{n k:Nat}{q:Program}{loose:List Str}{XP:(Str->Option Value)->Heap->Prop}{YP:World->Heap->Prop}{d:DefRec}{K:Params->PySem.W.Frag}{CX:World->CXT}{sp:World->Sp}{x:Str}
  (hn:l.most=some n) (hn2:n<=sizeLine) (hdf:d.params.defaults=[]) (hr:Room k callerA)
  (hY:∀(w:World) (h:Heap),YP w h->(K w.params).In h)
  (F:∀(w:World) (mg:Str->Option Value) (fa:Addr) (h:Heap),(K w.params).In h->h.Ns mainGlobals mg->mg d.name=some (.ref fa) ->
   ∃fd:FuncData,(∀(s:Shared) (u:Value),BindsTo s fd ⟨[u],[]⟩ [(x,u)]) /\
    ∀base:Heap,(K w.params).In base->base.Ns mainGlobals mg->FnOk l.prog w (K w.params) mg base (CX w) k fa fd [x] (sp w))
  (hsp:∀(w:World) (H:Hp) (a:Addr) (ns:List Int),ns.length<=n->Only H->SqL (K w.params) H a (ns.map V.int)->sp w [.ref a] H (λv _=>v=.bl true) λ_ _ _=>False)
  (hCX:∀(w:World) (H:Hp) (s:Shared) (e:Value) (s':Shared),CX w [] H s (λ_ _ _=>False) e s'->False) :
  PySem.W.WalkO q loose XP YP l.row.toRowW d [] (λf vs=>PySem.call f vs):=by
 refine Att.attach_call hn hdf λw s₀ s₁ mg mb fa o pm cd doc a vs ns G Y ho hd hcd hmg hobj hints hlen hg=>?_
 have KX:=hY w _ Y
 obtain⟨fd,hb,hF⟩:=F w mg fa _ KX G.T.g hmg
 exact X8_ KX G.T.g G.T.b G.T.builtins G.T.nolimit hg hobj hints (Nat.le_trans hlen hn2) hr hF hb (λH hO hS=>hsp w H a ns hlen hO hS) λH e s'=>hCX w H s₁ e s'
noncomputable def zv_(s:Stmt):Arguments:=match s with
 | .FunctionDef _ a _ _ _ _ _ _ _ _=>a
 | _=>{ posonlyargs:=[],args:=[],vararg:=none,kwonlyargs:=[],kw_defaults:=[],kwarg:=none,defaults:=[] }
noncomputable def zs_(s:Stmt):List Stmt:=match s with
 | .FunctionDef _ _ b _ _ _ _ _ _ _=>b
 | _=>[]
noncomputable def ze_(s:Stmt):Scope:=match s with
 | .FunctionDef _ _ _ _ _ _ sc _ _ _=>sc
 | _=>{ kind:=.function,names:=[],isGenerator:=false,isCoroutine:=false }
structure Fun(K:PySem.W.Frag)(x qual:Str)(st:Stmt)(f:Addr)(fd:FuncData):Prop where
 ex:∃(oc:Value) (od:Option Addr) (kV doc pm:Value) (an:Option Addr) (cdv ct:Value) (osl:Array (Option Value)),
  fd=PySem.W.fnOf x qual (zv_ st) (zs_ st) (ze_ st) .none kV doc pm an cdv ct/\K.lookup f=some ⟨oc,od,.func fd,osl⟩/\PySem.W.codeIn K cdv qual=true
 kp:PySem.W.keepIn K (.ref f)=true
section
variable {P:Program}{w:World}{K:PySem.W.Frag}{mg:Str->Option Value}{base:Heap}
theorem Fun.binds{x qual:Str}{st:Stmt}{f:Addr}{fd:FuncData}{ps:List Str}(F:Fun K x qual st f fd)
  (h:∀(kV doc pm:Value) (an:Option Addr) (cdv ct:Value) (us:List Value),us.length=ps.length->bindArgs (PySem.W.fnOf x qual (zv_ st) (zs_ st) (ze_ st) .none kV doc pm an cdv ct) ⟨us,[]⟩=pure (ps.zip us)):Binds K fd ps []:=by
 obtain⟨oc,od,kV,doc,pm,an,cdv,ct,osl,rfl,lk,hcd⟩:=F.ex
 exact .all (h kV doc pm an cdv ct)
theorem jw_{x qual:Str}{st:Stmt}{f:Addr}{oc:Value}{od an:Option Addr}{osl:Array (Option Value)}{kV doc pm cdv ct:Value}(l:K.lookup f=some ⟨oc,od,.func (PySem.W.fnOf x qual (zv_ st) (zs_ st) (ze_ st) .none kV doc pm an cdv ct),osl⟩)
  (c:PySem.W.codeIn K cdv qual=true) (k:PySem.W.keepIn K (.ref f)=true):Fun K x qual st f (PySem.W.fnOf x qual (zv_ st) (zs_ st) (ze_ st) .none kV doc pm an cdv ct):=⟨⟨oc,od,kV,doc,pm,an,cdv,ct,osl,rfl,l,c⟩,k⟩
end
theorem iteF{A B:Prop}(h:B):if false=true then A else B:=by
 rw[if_neg Bool.false_ne_true]
 exact h
theorem iteT{A B:Prop}(h:A):if true=true then A else B:=by
 rw[if_pos rfl]
 exact h
def Same(H H':Hp):Prop:=∀b o,H b=some o->H' b=some o
theorem Same.refl(H:Hp):Same H H:=λ_ _ h=>h
theorem Same.trans{H H1 H2:Hp}(a:Same H H1)(b:Same H1 H2):Same H H2:=λc o h=>b c o (a c o h)
theorem Same.free{H H':Hp}(e:Same H H'){l:Addr}(h:H' l=Option.none):H l=Option.none:=by
 cases q:H l with
 | none=>rfl
 | some o =>
  rw[e l o q]at h
  cases h
theorem Same.seq{K:PySem.W.Frag}{H H':Hp}{a:Addr}{xs:List V}(e:Same H H')(h:SqL K H a xs):SqL K H' a xs:=by
 rcases h with (h|⟨o,h⟩)|h
 ·exact .inl (.inl (e _ _ h))
 ·exact .inl (.inr ⟨o,e _ _ h⟩)
 ·exact .inr h
noncomputable def zD_(X:Cx)(N':List Str)(scope:Scope)(cl:List (Str×Addr))(s₂:Shared)(H₂:Hp)(fp:List Addr)(C:Addr):Cx :=
 { X with N:=N',s₀:=s₂,H₀:=H₂,env:=compEnvC scope cl C X.env,outer:=X.stack,ex:=fp,fn:=λ_=>false,pn:=[],xe:=λ_ _=>False }
noncomputable def lobj(ys:List Value)(k:Nat):Obj:={ cls:=.type "list",data:=.seq ys.toArray k }
section
variable {prog:Program}{w:World}{A:Around}{R:Result->Shared->Prop}{s:Shared}
theorem u2_{elt target iter:Expr}{ifs:List Expr}{scope:Scope}{pos:Pos}{it acc:Value}{env:Env}(I:Nat->Shared->Prop)
  (turn:∀n s,I n s->wpAny (model prog w) A (pyNext it) (λr s₁=>match r with
   | none=>R (.ok .next) s₁
   | some v=>wpAny (model prog w) A (letOwnedTupleGo target it v) (λ_ s₁'=>wpAny (model prog w) A (assign target env v) (λ_ s₂ =>
     wpAny (model prog w) A (forIn ifs true λc r=>if r=true then do let ok <-isTrue c env (eval c env);pure (ForInStep.yield ok)else pure (ForInStep.yield r)) (λok s₃ =>
      if ok=true then wpAny (model prog w) A (eval elt env) (λx s₄ =>
       wpAny (model prog w) A (call (.builtin "list.append") [acc,x]) (λ_ s₅=>∃m,m<n/\I m s₅) (λ_ _=>False) s₄) (λ_ _=>False) s₃
      else ∃m,m<n/\I m s₃) (λ_ _=>False) s₂) (λ_ _=>False) s₁') (λ_ _=>False) s₁) (λ_ _=>False) s)
  (n:Nat) (h:I n s) :
  codeAny (model prog w) A (.compLoop (.ListComp elt [⟨target,iter,ifs,0⟩] scope pos) 0 it acc env) R s:=by
 refine codeAny_loop rfl I (λn s hI=>?_) n h
 show wpAny _ A ((compTurn (.ListComp elt [⟨target,iter,ifs,0⟩] scope pos) 0 it acc env).onRaise (λx=>do noteFrame x env;theTreesLotGoes x)) _ _ s
 refine wpAny_noted ?_
 rw[compTurn_list]
 refine zza (wpAny_standAt (zza (wpAny_mono (turn n s hI) (λr s₁ h₁=>?_) λ_ _ h'=>h'.elim)))
 cases r with
 | none=>exact zzb h₁
 | some v =>
  refine zza (wpAny_mono h₁ (λ_ s₁' h₁'=>?_) λ_ _ h'=>h'.elim)
  refine zza (wpAny_mono h₁' (λ_ s₂ h₂=>zza (wpAny_mono h₂ (λok s₃ h₃=>?_) λ_ _ h'=>h'.elim)) λ_ _ h'=>h'.elim)
  cases ok with
  | false=>exact zzb ⟨rfl,h₃⟩
  | true =>
   exact zza (zza (wpAny_mono h₃ (λx s₄ h₄=>zza (wpAny_mono h₄ (λ_ s₅ h₅=>zzb (zzb ⟨rfl,h₅⟩)) λ_ _ h'=>h'.elim)) λ_ _ h'=>h'.elim))
end
def PTs(X:Cx)(ifs:List Expr)(t:TT):Prop :=
 ∀(pins:List (Addr×Obj)) (s:Shared) (σ:St) (H:Hp) (Q:Bool->Hp->Prop),Inv X pins σ H s->t σ H Q ->
  wpAny (model X.prog X.w) X.A (forIn ifs true λc r=>if r=true then do let ok <-isTrue c X.env (eval c X.env);pure (ForInStep.yield ok)else pure (ForInStep.yield r)) (TP X pins σ Q) X.xe s
theorem zbG_{X:Cx}:PTs X [] (λ_ H Q=>Q true H):=λ_ _ _ H _ I h=>wpAny_tests_nil ⟨H,I,h⟩
theorem ui_{env:Env}:∀{names:List (Str×NameKind)} {x:Str},
  (names.map λ(n,k)=>if(k==NameKind.free&&env.scope.kind==.function&&env.kindOf n==some .cell)then(n,NameKind.cell)else(n,k)).lookup x
   = (names.lookup x).map λk=>if(k==NameKind.free&&env.scope.kind==.function&&env.kindOf x==some .cell)then NameKind.cell else k
 | [],_=>rfl
 | (n,k)::r,x=>by
  have ih:=@ui_ env r x
  show List.lookup x ((if(k==NameKind.free&&env.scope.kind==.function&&env.kindOf n==some .cell)=true then(n,NameKind.cell)else(n,k))::_)=_
  cases hx:x==n with
  | true =>
   have e:x=n:=by simpa using hx
   subst e
   by_cases hc:(k==NameKind.free&&env.scope.kind==.function&&env.kindOf x==some .cell)=true
   ·rw[if_pos hc];simp only[List.lookup_cons,hx,Option.map_some,if_pos hc]
   ·rw[if_neg hc];simp only[List.lookup_cons,hx,Option.map_some,if_neg hc]
  | false =>
   by_cases hc:(k==NameKind.free&&env.scope.kind==.function&&env.kindOf n==some .cell)=true
   ·rw[if_pos hc];simp only[List.lookup_cons,hx];exact ih
   ·rw[if_neg hc];simp only[List.lookup_cons,hx];exact ih
theorem yV_{env:Env}:∀(names:List (Str×NameKind)) (acc:List (Str×Addr)),(∀x∈names,x.2=.free->∃c,env.cells.lookup x.1=some c) ->
  (∀x c,acc.lookup x=some c->env.cells.lookup x=some c) ->
  ∃cl,(forIn names acc λ(x:Str×NameKind) (cs:List (Str×Addr))=>(if(x.2==NameKind.free)=true then(do let c <-cellOf env x.1;pure (ForInStep.yield ((x.1,c)::cs)))else pure (ForInStep.yield cs):Sem (ForInStep (List (Str×Addr)))))=pure cl /\
   (∀x c,cl.lookup x=some c->env.cells.lookup x=some c)/\(∀x,(acc.lookup x).isSome->(cl.lookup x).isSome)/\∀x∈names,x.2=.free->(cl.lookup x.1).isSome
 | [],acc,_,ha=>⟨acc,rfl,ha,λ_ h=>h,λ_ h=>nomatch h⟩
 | (n,k)::r,acc,hn,ha=>by
  cases hk:(k==NameKind.free)with
  | true =>
   obtain⟨c,hc⟩:=hn (n,k) List.mem_cons_self (by simpa using hk)
   have ha':∀x d,((n,c)::acc).lookup x=some d->env.cells.lookup x=some d:=λx d e=>by
    rw[List.lookup_cons]at e
    cases q:x==n with
    | true =>
     rw[q]at e
     have:x=n:=by simpa using q
     subst this
     exact hc.trans e
    | false=>rw[q]at e;exact ha x d e
   obtain⟨cl,e,h1,h2,h3⟩:=yV_ r ((n,c)::acc) (λx hx=>hn x (zzg _ hx)) ha'
   have grow:∀x,(acc.lookup x).isSome->(((n,c)::acc).lookup x).isSome:=λx hx=>by
    rw[List.lookup_cons]
    cases q:x==n with
    | true=>rfl
    | false=>exact hx
   refine⟨cl,?_,h1,λx hx=>h2 x (grow x hx),λx hx hf=>?_⟩
   ·rw[List.forIn_cons]
    have q:cellOf env n=pure c:=by
     unfold cellOf
     rw[hc]
    simp only[hk,if_true,q]
    exact e
   ·rcases List.mem_cons.mp hx with rfl|hx
    ·exact h2 _ (by simp[List.lookup_cons])
    ·exact h3 x hx hf
  | false =>
   obtain⟨cl,e,h1,h2,h3⟩:=yV_ r acc (λx hx=>hn x (zzg _ hx)) ha
   refine⟨cl,?_,h1,h2,λx hx hf=>?_⟩
   ·rw[List.forIn_cons]
    simp only[hk,Bool.false_eq_true,if_false]
    exact e
   ·rcases List.mem_cons.mp hx with rfl|hx
    ·exfalso;have:k=.free:=hf;subst this;simp at hk
    ·exact h3 x hx hf
theorem Jy_{env:Env}{scope:Scope}(h:∀x∈scope.names,x.2=.free->∃c,env.cells.lookup x.1=some c) :
  ∃cl,closureFor scope env=pure cl/\(∀x c,cl.lookup x=some c->env.cells.lookup x=some c)/\∀x∈scope.names,x.2=.free->(cl.lookup x.1).isSome:=by
 obtain⟨cl,e,h1,_,h3⟩:=yV_ (env:=env) scope.names [] h (λx c e=>by simp at e)
 refine⟨cl,?_,h1,h3⟩
 unfold closureFor
 have q:(forIn scope.names [] λ(x:Str×NameKind) (cs:List (Str×Addr))=>(match x with|(name,kind)=>if(kind==NameKind.free)=true then(do let c <-cellOf env name;pure (ForInStep.yield ((name,c)::cs)))else pure (ForInStep.yield cs):Sem (ForInStep (List (Str×Addr)))))=pure cl:=e
 first
  | (simp only[];rw[q];rfl)
  | (show(do let cs <-_;pure cs)=_;rw[q];rfl)
  | (rw[show(forIn scope.names [] _)=pure cl from q];rfl)
structure CompOk(X:Cx)(N':List Str)(k:Nat)(scope:Scope):Prop where
 kind:scope.kind=.function
 len:N'.length=X.N.length+k
 nocell:∀y∈scope.names,y.2≠.cell
 names:∀y∈scope.names,y.2=.local->scope.names.lookup y.1=some .local
 outer:∀(i:Nat) x,i<X.N.length->N'[i]? = some x->(scope.names.lookup x).isSome->(scope.names.lookup x=some .free\/scope.names.lookup x=some .local\/scope.names.lookup x=some .cell)->X.N[i]? = some x/\scope.names.lookup x=some .free
 free:∀y∈scope.names,y.2=.free->X.env.kindOf y.1=some .cell\/X.env.kindOf y.1=some .free
def XB_(wi:TI)(k:Nat)(g:TG)(tc:TT)(te:TE):TE:=λσ H Q=>wi σ H λJ H1=>∃W:Nat->Nat->List V->St->Hp->Prop,(∃m,W 0 m [] (σ++List.replicate k none) H1) /\
 ∀i m vs σ' H',W i m vs σ' H'->vs.length<=sizeLine /\
  ((J.stop i H'/\∀p,H' p=none->Q (.ref p) (upd H' p (.lst vs))) \/
   (J.go i H'/\∀x H2,J.yld i H' x H2->g x σ' H2 λσ3 H3=>tc σ3 H3 λb H4=>if b=true then te σ3 H4 λy H5=>∃m',m'<m/\W (i+1) m' (vs++[y]) σ3 H5 else ∃m',m'<m/\W (i+1) m' vs σ3 H4))
section
variable {X:Cx}{pins:List (Addr×Obj)}{σ:St}{H2:Hp}{s2:Shared}
theorem HOk.track{P:Program}{w:World}{H:Hp}{h:Heap}{D:Addr}{vs:List V}{ys:List Value}{k:Nat}(x:HOk P w H h)(hn:H D=none)(hl:vs.length<=sizeLine)(r:Vals vs ys)(e:h.get? D=some (lobj ys k)) :
  HOk P w (upd H D (.lst vs)) h:=λb u q=>by
 by_cases hb:b=D
 ·subst hb
  rw[jA_]at q
  cases q
  exact⟨hl,ys,k,r,e⟩
 ·rw[zM_ hb]at q
  exact(x b u q).stay (λ_ _ _ z=>z) (λc z=>by rw[zM_ (zA_ z hn)];exact z) λc xs z=>by rw[zM_ (zA_ z hn)];exact z
theorem Ye_{elt tg iter:Expr}{ifs:List Expr}{scope:Scope}{pos:Pos}{N':List Str}{k:Nat}{cl:List (Str×Addr)}{J:It}{fp:List Addr}{it:Addr}{tn:Nat->Heap->Prop}{g:TG}{tc:TT}{te:TE}{E:Value->Shared->Prop}
  {RR:Value->Addr->Result->Shared->Prop} {Q:VK}
  (hc:X.calm=true) (S:CompOk X N' k scope) (hcl:∀x c,cl.lookup x=some c->X.env.cells.lookup x=some c) (hcf:∀x∈scope.names,x.2=.free->(cl.lookup x.1).isSome)
  (I:Inv X pins σ H2 s2) (T:Turn X.prog X.w X.K tg J fp it tn) (st:tn 0 s2.heap) (ff:∀b∈fp,FpOk X pins H2 b)
  (hg:∀C,PG (zD_ X N' scope cl s2 H2 fp C) tg g) (ht:∀C,PTs (zD_ X N' scope cl s2 H2 fp C) ifs tc) (he:∀C,PE (zD_ X N' scope cl s2 H2 fp C) elt te)
  (rd:∃W:Nat->Nat->List V->St->Hp->Prop,(∃m,W 0 m [] (σ++List.replicate k none) H2) /\
   ∀i m vs σ' H',W i m vs σ' H'->vs.length<=sizeLine /\
    ((J.stop i H'/\∀p,H' p=none->Q (.ref p) (upd H' p (.lst vs))) \/
     (J.go i H'/\∀x H2,J.yld i H' x H2->g x σ' H2 λσ3 H3=>tc σ3 H3 λb H4=>if b=true then te σ3 H4 λy H5=>∃m',m'<m/\W (i+1) m' (vs++[y]) σ3 H5 else ∃m',m'<m/\W (i+1) m' vs σ3 H4)))
  (hRR:∀D C s' H',Inv X pins σ H' s'->(∃m,s'.heap.Ns C m)->FpOk X pins H' C->Q (.ref D) H'->RR (.ref D) C (.ok .next) s') :
  wpAny (model X.prog X.w) X.A (newList []) (λacc s₃=>wpAny (model X.prog X.w) X.A (newFunctionEnv scope X.env.globals cl [] X.env.qual none .none (some X.env)) (λcenv s₄ =>
   codeAny (model X.prog X.w) X.A (.compStart (.ListComp elt [⟨tg,iter,ifs,0⟩] scope pos) 0 (.ref it) acc { cenv with scope:=relabel scope X.env }) (RR acc cenv.locals) s₄) E s₃) E s2:=by
 obtain⟨W,⟨m0,w0⟩,turn⟩:=rd
 refine wpAny_newObj_type (wpAny_newFunctionEnv S.nocell (by intro y hy;simp at hy) (λh₁ hns₁ hsb₁=>?_) S.kind)
 dsimp only at hns₁ hsb₁ ⊢
 generalize hH2:s2.heap.push { cls:=.type "list",dict:=none,data:=.seq ([]:List Value).toArray }=G2 at hns₁ hsb₁ ⊢
 have hCs:G2.objs.size=s2.heap.objs.size+1:=by rw[<-hH2,Heap.size_push]
 have hDC:s2.heap.objs.size≠G2.objs.size:=by rw[hCs];exact Nat.ne_of_lt (Nat.lt_succ_self _)
 have hCle:s2.heap.objs.size<=G2.objs.size:=by rw[hCs];exact Nat.le_succ _
 have below:∀b,b<s2.heap.objs.size->b≠G2.objs.size/\b≠s2.heap.objs.size:=λb hb=>⟨by rw[hCs];exact Nat.ne_of_lt (Nat.lt_succ_of_lt hb),Nat.ne_of_lt hb⟩
 have old:∀b o,s2.heap.get? b=some o->h₁.get? b=some o:=λb o e=>hsb₁.extBut b o (below b (Heap.lt_size e)).1 (zzc _ (hH2▸zzc _ e))
 have hacc:h₁.get? s2.heap.objs.size=some (lobj [] 0):=hsb₁.extBut _ _ hDC (zzc _ (hH2▸zze _ rfl))
 generalize hDe:s2.heap.objs.size=D at *
 generalize hCe:G2.objs.size=C at *
 have fpD:FpOk X pins H2 D:=I.fpOk (by rw[hDe];exact Nat.le_refl _) (I.hok.fresh (by rw[hDe];exact Nat.le_refl _))
 have fpC:∀H',H' C=none->FpOk X pins H' C:=λH' hn=>I.fpOk (by rw[hDe];exact hCle) hn
 have hfpD:∀b∈fp,b<D:=λb hb=>by
  obtain⟨o,e,_⟩:=T.obj _ _ st b hb
  rw[<-hDe];exact Heap.lt_size e
 have nofr:∀b,D<=b->b∉frs X.stack:=λb hb hm=>by
  rcases List.mem_cons.mp (I.stkSub b hm)with e|hm
  ·have:=I.lt;rw[hDe]at this;rw[e]at hb;exact absurd (Nat.lt_of_lt_of_le this hb) (Nat.lt_irrefl _)
  ·exact I.nofs (by rw[hDe];exact hb) hm
 let X':=zD_ X N' scope cl s2 H2 fp C
 have cellLt:∀x c,cl.lookup x=some c->c<D:=λx c e=>by
  obtain⟨v,z⟩:=I.cell x c (hcl x c e)
  rw[<-hDe];exact z.lt
 have ok':X'.Ok:=by
  refine⟨I.ok.mod,S.kind,I.ok.glob,I.ok.blt,?_,λx y c e1 e2=>I.ok.inj x y c (hcl _ _ e1) (hcl _ _ e2),λx hx=>?_,λx c hf _=>(nomatch hf),I.ok.hd,I.ok.frames,.inl rfl,λb hb=>⟨?_,λx c e z=>?_⟩,I.bs,?_,λb o e hb=>?_,λb hb hm=>?_,I.stack,I.stkFree⟩
  ·show s2.heap.objs.size<=C
   rw[hDe];exact hCle
  ·have hx':(relabel scope X.env).names.lookup x=some .cell\/(relabel scope X.env).names.lookup x=some .free:=hx
   have e:=ui_ (env:=X.env) (names:=scope.names) (x:=x)
   have e':(relabel scope X.env).names.lookup x=(scope.names.lookup x).map λk=>if(k==NameKind.free&&X.env.scope.kind==.function&&X.env.kindOf x==some .cell)then NameKind.cell else k:=e
   rw[e']at hx'
   cases q:scope.names.lookup x with
   | none=>rw[q]at hx';rcases hx' with z|z<;>cases z
   | some kd =>
    have hmem:=PySem.mem_of_lookup q
    rw[q]at hx'
    have hkd:kd=.free:=by
     by_cases hz:kd=.free
     ·exact hz
     ·exfalso
      have hb:(kd==NameKind.free)=false:=by simpa using hz
      simp only[hb,Bool.false_and,Bool.false_eq_true,if_false,Option.map_some]at hx'
      rcases hx' with z|z
      ·exact S.nocell _ hmem (Option.some.inj z)
      ·exact hz (Option.some.inj z)
    exact Option.isSome_iff_exists.mp (hcf _ hmem hkd)
  ·exact Nat.ne_of_lt (Nat.lt_of_lt_of_le (hfpD b hb) hCle)
  ·exact(ff b hb).2.2.2.2.1 x c (hcl x c e) z
  ·exact Nat.le_trans I.ok.bsz I.sz
  ·obtain⟨_,_,_,hx,_⟩:=ff b hb
   rcases hx with hx|hx
   ·exact I.ok.noex b o e hx
   ·exact absurd (Nat.lt_of_lt_of_le (Heap.lt_size (I.ok.bs b o e).1) hx) (Nat.lt_irrefl _)
  ·obtain⟨_,hl,hfs,_⟩:=ff b hb
   rcases List.mem_cons.mp (I.stkSub b hm)with e|hm
   ·exact hl e
   ·exact hfs hm
 have lenσ:(σ++List.replicate k none).length=N'.length:=by rw[zzf,List.length_replicate,I.len,S.len]
 have I0:Inv X' [(D,lobj [] 0)] (σ++List.replicate k none) H2 { s2 with heap:=h₁,toks:=s2.toks+([]:List (Str×Value)).length }:=by
  refine⟨ok',rfl,I.bare,Un.kept old,⟨_,hns₁,λi x v e1 e2 e3=>?_⟩,λx c e=>?_,I.hok.fresh (by rw[hDe];exact hCle),λx c e=>I.freeC x c (hcl x c e),λp hp=>?_,I.hok.kept old,lenσ⟩
  ·have hi:i<σ.length:=by
    by_cases hi:i<σ.length
    ·exact hi
    ·rw[List.getElem?_append_right (Nat.not_lt.mp hi),List.getElem?_replicate]at e2
     split at e2<;>cases e2
   rw[List.getElem?_append_left hi]at e2
   have e':(relabel scope X.env).names.lookup x=(scope.names.lookup x).map λk=>if(k==NameKind.free&&X.env.scope.kind==.function&&X.env.kindOf x==some .cell)then NameKind.cell else k:=ui_ (env:=X.env) (names:=scope.names) (x:=x)
   have hsome:∃kd,scope.names.lookup x=some kd/\(kd=.free\/kd=.local\/kd=.cell):=by
    have e3':(relabel scope X.env).names.lookup x=some .local\/(relabel scope X.env).names.lookup x=some .cell\/(relabel scope X.env).names.lookup x=some .free:=e3
    rw[e']at e3'
    cases q:scope.names.lookup x with
    | none=>rw[q]at e3';rcases e3' with z|z|z<;>cases z
    | some kd =>
     refine⟨kd,rfl,?_⟩
     rw[q]at e3'
     by_cases hz:kd=.free
     ·exact .inl hz
     ·have hb:(kd==NameKind.free)=false:=by simpa using hz
      simp only[hb,Bool.false_and,Bool.false_eq_true,if_false,Option.map_some,Option.some.injEq]at e3'
      rcases e3' with z|z|z
      ·exact .inr (.inl z)
      ·exact .inr (.inr z)
      ·exact .inl z
   obtain⟨kd,hk1,hk2⟩:=hsome
   obtain⟨hN,hfree⟩:=S.outer i x (by rw[<-I.len];exact hi) e1 (by rw[hk1];rfl) (by rcases hk2 with z|z|z<;>subst z<;>simp[hk1])
   have hmem:=PySem.mem_of_lookup hfree
   have hko:=S.free _ hmem rfl
   have hkx:X.env.kindOf x=some .cell\/X.env.kindOf x=some .free:=hko
   obtain⟨m,hn,hl⟩:=I.loc
   obtain⟨u,r,lk⟩:=hl i x v hN e2 (by rcases hkx with z|z;exact .inr (.inl z);exact .inr (.inr z))
   refine⟨u,r,.inr ⟨?_,?_⟩⟩
   ·show(relabel scope X.env).names.lookup x=some .cell\/(relabel scope X.env).names.lookup x=some .free
    rw[e',hfree,Option.map_some]
    split
    ·exact .inl rfl
    ·exact .inr rfl
   ·rcases lk with ⟨kl,_⟩|⟨_,c,ec,hcell⟩
    ·rcases hkx with z|z<;>(rw[z]at kl;cases kl)
    ·obtain⟨c',ec'⟩:=Option.isSome_iff_exists.mp (hcf _ hmem rfl)
     have q:=hcl _ _ ec'
     rw[ec]at q
     cases q
     exact⟨c,ec',hcell.keeps old⟩
  ·obtain⟨v,z⟩:=I.cell x c (hcl x c e)
   exact⟨v,z.keeps old⟩
  ·have hp':p∈([]:List (Addr×Obj))++[(D,lobj [] 0)]:=hp
   have ep:p=(D,lobj [] 0):=by simpa using hp'
   subst ep
   exact⟨hacc,fpD.1,hDC,nofr D (Nat.le_refl _),λv z=>nomatch z⟩
 have stat:∀{H':Hp} {o:Obj},(∀b∈fp,H' b=none)->∀b∈fp,FpOk X' [(D,o)] H' b:=λ{H' o} hn b hb=>by
  refine⟨hn b hb,Nat.ne_of_lt (Nat.lt_of_lt_of_le (hfpD b hb) hCle),ok'.exfs b hb,.inl hb,λx c e z=>(ff b hb).2.2.2.2.1 x c (hcl x c e) z,λp hp=>?_⟩
  have hp':p∈([]:List (Addr×Obj))++[(D,o)]:=hp
  have ep:p=(D,o):=by simpa using hp'
  subst ep
  exact Nat.ne_of_gt (hfpD b hb)
 have loop:∀s₃:Shared,s₃={ s2 with heap:=h₁,toks:=s2.toks+([]:List (Str×Value)).length } ->
   codeAny (model X.prog X.w) X.A (.compLoop (.ListComp elt [⟨tg,iter,ifs,0⟩] scope pos) 0 (.ref it) (.ref D) (compEnvC scope cl C X.env)) (RR (.ref D) C) s₃:=by
  rintro s₃ rfl
  refine u2_ (λn s'=>∃i vs ys kk σ' H',Inv X' [(D,lobj ys kk)] σ' H' s'/\tn i s'.heap/\(∀b∈fp,H' b=none)/\Vals vs ys/\W i n vs σ' H') ?_ m0
   ⟨0,[],[],0,_,H2,I0,T.keep _ _ _ st λb _ o e=>old b o e,λb hb=>(ff b hb).1,.nil,w0⟩
  rintro n s3 ⟨i,vs,ys,kk,σ3,H3,I3,st3,fr3,rv,w3⟩
  obtain⟨hvl,hcase⟩:=turn i n vs σ3 H3 w3
  have pinD:∀{o:Obj} {σ' H' s'},Inv X' [(D,o)] σ' H' s'->s'.heap.get? D=some o/\H' D=none:=λJ=>⟨(J.pin _ (List.mem_append_right _ List.mem_cons_self)).1,(J.pin _ (List.mem_append_right _ List.mem_cons_self)).2.1⟩
  rcases hcase with ⟨stop,qn⟩|⟨go,step⟩
  ·refine thn (T.done X' rfl rfl rfl hc i _ s3 σ3 H3 (λ_ _=>False) I3 (stat fr3) st3 stop) λr s4 ⟨hr,I4⟩=>?_
   subst hr
   obtain⟨gD,nD⟩:=pinD I4
   obtain⟨m',hm',_⟩:=I4.loc
   have hC4:H3 C=none:=I4.free
   have u0:Un (frs X.stack) fp H2 H3 s2.heap s4.heap:=I4.base
   have neD:∀b o,s2.heap.get? b=some o->b≠D:=λb o e=>by rw[<-hDe];exact Nat.ne_of_lt (Heap.lt_size e)
   have u1:Un (frs X.stack) fp H2 (upd H3 D (.lst vs)) s2.heap s4.heap :=
    ⟨u0.keep,u0.slot,λb o e n hx=>by rw[zM_ (neD b o e)];exact u0.free b o e n hx,u0.there,
     λb xs e=>by have q:=u0.tups b xs e;rw[zM_ (zA_ q nD)];exact q,
     λb o u e=>by have q:=u0.frzs b o u e;rw[zM_ (zA_ q nD)];exact q,
     λb ps e=>by obtain⟨more,q⟩:=u0.tbls b ps e;exact⟨more,by rw[zM_ (zA_ q nD)];exact q⟩⟩
   have I5:Inv X pins σ (upd H3 D (.lst vs)) s4:=I.call' I4.os u1 (I4.hok.track nD hvl rv gD) I4.bare λb hb=>⟨(ff b hb).2.2.2.1,(ff b hb).2.1,(ff b hb).2.2.2.2.1,(ff b hb).2.2.2.2.2⟩
   exact hRR D C s4 _ I5 ⟨m',hm'⟩ (fpC _ (by rw[zM_ (Ne.symm hDC)];exact hC4)) (qn D nD)
  ·refine thn (T.item X' rfl rfl rfl hc i _ s3 σ3 H3 (λ_ _=>False) I3 (stat fr3) st3 go) λr s4 ⟨u,hr,h4⟩=>?_
   subst hr
   refine thn h4 λ_ s5 ⟨x,H5,I5,r5,y5,st5,fr5⟩=>?_
   have I5':=I5.pinned (stat fr5) (T.obj _ _ st5)
   refine thn (hg C _ s5 σ3 H5 x u _ I5' r5 (step x H5 y5)) λ_ s6 ⟨σ6,H6,I6,q6⟩=>?_
   refine thn (ht C _ s6 σ6 H6 _ I6 q6) λok s7 ⟨H7,I7,q7⟩=>?_
   have unpin:∀{σ' H' s'},Inv X' ([(D,lobj ys kk)]++UA_ fp s5.heap) σ' H' s'->Inv X' [(D,lobj ys kk)] σ' H' s'/\tn (i+1) s'.heap/\∀b∈fp,H' b=none:=λ{σ' H' s'} J =>
    ⟨J.unpinned,T.keep _ _ _ st5 λb hb o e=>(J.pin (b,o) (List.mem_append_right _ (List.mem_append_right _ (uV_ hb e)))).1,λb hb=>by
     obtain⟨o,e,d⟩:=T.obj _ _ st5 b hb
     exact(J.pin (b,o) (List.mem_append_right _ (List.mem_append_right _ (uV_ hb e)))).2.1⟩
   cases ok with
   | false =>
    rw[if_neg Bool.false_ne_true]
    rw[if_neg Bool.false_ne_true]at q7
    obtain⟨m',hm',w7⟩:=q7
    obtain⟨J1,J2,J3⟩:=unpin I7
    exact⟨m',hm',i+1,vs,ys,kk,σ6,H7,J1,J2,J3,rv,w7⟩
   | true =>
    rw[if_pos rfl]
    rw[if_pos rfl]at q7
    refine thn (he C _ s7 σ6 H7 _ I7 q7) λuy s8 ⟨y,H8,I8,r8,m',hm',w8⟩=>?_
    obtain⟨J1,J2,J3⟩:=unpin I8
    obtain⟨gD,nD⟩:=pinD J1
    refine append_at (hsz:=by show ys.toArray.size<=sizeLine;rw[List.size_toArray,<-rv.length];exact hvl) gD λh9 hs9 hD9=>?_
    have J1':Inv X' [] σ6 H8 s8:=J1.pins_of λp hp=>nomatch hp
    have J9:Inv X' [] σ6 H8 { s8 with heap:=h9 }:=J1'.turned (t':=s8.toks) (it:=D) (λb o hb e=>hs9.extBut b o hb e) nD hDC (.inr (by show s2.heap.objs.size<=D;rw[hDe];exact Nat.le_refl _)) (λx c e=>Nat.ne_of_lt (cellLt x c e)) λp hp=>nomatch hp
    have eo:({ cls:=.type "list",data:=.seq (ys.toArray.push uy) (kk+1) }:Obj)=lobj (ys++[uy]) (kk+1):=by
     unfold lobj
     rw[List.push_toArray]
    refine⟨m',hm',i+1,vs++[y],ys++[uy],kk+1,σ6,H8,J9.pins_of λp hp=>?_,T.keep _ _ _ J2 λb hb o e=>hs9.extBut b o (Nat.ne_of_lt (hfpD b hb)) e,J3,rv.append (.cons r8 .nil),w8⟩
    have ep:p=(D,lobj (ys++[uy]) (kk+1)):=by simpa using hp
    subst ep
    exact⟨by show h9.get? D=_;rw[hD9,eo],nD,hDC,nofr D (Nat.le_refl _),λv z=>nomatch z⟩
 exact codeAny_compStart_list (loop _ rfl) (T.self _ 0 _ _ _ (T.keep _ _ _ st λb _ o e=>old b o e) (loop _ rfl))
end
section
variable {X:Cx}
theorem Wd_{elt tg iter:Expr}{ifs:List Expr}{scope:Scope}{pos:Pos}{N':List Str}{k:Nat}{wi:TI}{g:TG}{tc:TT}{te:TE}
  (hc:X.calm=true) (S:CompOk X N' k scope) (hcells:∀x∈scope.names,x.2=.free->∃c,X.env.cells.lookup x.1=some c) (hi:PI X tg iter wi)
  (hg:∀cl s H fp C,PG (zD_ X N' scope cl s H fp C) tg g) (ht:∀cl s H fp C,PTs (zD_ X N' scope cl s H fp C) ifs tc) (he:∀cl s H fp C,PE (zD_ X N' scope cl s H fp C) elt te)
  (hs:∀x,foldedSetIterable iter X.env x=pure x:=by intro _;rfl) :
  PE X (.ListComp elt [⟨tg,iter,ifs,0⟩] scope pos) (XB_ wi k g tc te):=by
 intro pins s σ H Q I h
 obtain⟨cl,hclos,h1,h2⟩:=Jy_ (env:=X.env) (scope:=scope) hcells
 rw[eval_ListComp]
 refine wpAny_comprehension_free (use:=none) rfl hs hclos S.kind S.names (thn (hi pins s σ H _ I h) λxv s1 h1'=>thn h1' λitv s2 h2'=>?_)
 obtain⟨it,fp,tn,J,H2,e,I2,T,st2,f2,rd⟩:=h2'
 subst e
 refine Ye_ hc S h1 h2 I2 T st2 f2 (λC=>hg _ _ _ _ C) (λC=>ht _ _ _ _ C) (λC=>he _ _ _ _ C) rd λD C s' H' I' ⟨m,hm⟩ fC q=>?_
 refine⟨m,hm,λh' hs'=>⟨.ref D,H',?_,rfl,q⟩⟩
 exact I'.turned (t':=s'.toks) (it:=C) (λb o hb e=>hs'.extBut b o hb e) fC.1 fC.2.1 fC.2.2.2.1 fC.2.2.2.2.1 fC.2.2.2.2.2
theorem Vg_{elt tg iter:Expr}{ifs:List Expr}{scope:Scope}{pos pos' spos:Pos}{N':List Str}{k i:Nat}{y:Str}{wi:TI}{g:TG}{tc:TT}{te:TE}
  (hN:X.N.Nodup) (hy:X.N[i]? = some y) (hly:Loc X.env.scope y) (hfn:X.fn y=true\/X.env.scope.names.lookup y=some .local)
  (hc:X.calm=true) (S:CompOk X N' k scope) (hcells:∀x∈scope.names,x.2=.free->∃c,X.env.cells.lookup x.1=some c) (hi:PI X tg iter wi)
  (hg:∀cl s H fp C,PG (zD_ X N' scope cl s H fp C) tg g) (ht:∀cl s H fp C,PTs (zD_ X N' scope cl s H fp C) ifs tc) (he:∀cl s H fp C,PE (zD_ X N' scope cl s H fp C) elt te)
  (hsw:swapsWith (.ListComp elt [⟨tg,iter,ifs,0⟩] scope pos) (some (.Name y pos')) spos.line X.env=pure true)
  (hs:∀x,foldedSetIterable iter X.env x=pure x:=by intro _;rfl) :
  PS X (.Assign [.Name y pos'] (.ListComp elt [⟨tg,iter,ifs,0⟩] scope pos) spos) (tAsg (XB_ wi k g tc te) (zaj_ i)):=by
 intro pins s σ H D₀ I h
 obtain⟨cl,hclos,h1,h2⟩:=Jy_ (env:=X.env) (scope:=scope) hcells
 rw[exec_Assign_Name_used _ _ _ _ hsw]
 refine zza (wpAny_standAt (zza ?_))
 show wpAny _ X.A (do let _ <-comprehension (.ListComp elt [⟨tg,iter,ifs,0⟩] scope pos) scope X.env _ (newList []) false (eval iter X.env) (some (assign (.Name y pos') X.env))) _ _ s
 refine zza (wpAny_mono (wpAny_comprehension_free (use:=some (assign (.Name y pos') X.env)) (Q:=λ_ s'=>SP X pins D₀ .next s') rfl hs hclos S.kind S.names
  (thn (hi pins s σ H _ I h) λxv s1 h1'=>thn h1' λitv s2 h2'=>?_)) (λ_ s' hq=>zzb (zzb hq)) λ_ _ e=>e)
 obtain⟨it,fp,tn,J,H2,e,I2,T,st2,f2,rd⟩:=h2'
 subst e
 refine Ye_ (Q:=λx H1=>zaj_ i x σ H1 D₀.nx) hc S h1 h2 I2 T st2 f2 (λC=>hg _ _ _ _ C) (λC=>ht _ _ _ _ C) (λC=>he _ _ _ _ C) rd λD C s' H' I' ⟨m,hm⟩ fC q=>?_
 show wpAny _ X.A (assign (.Name y pos') X.env (.ref D)) _ _ _
 refine wpAny_assign_Name (Uo_ I' hN hy hly (show RelV (.ref D) (.ref D)from rfl) (λs'' I'' ⟨a,hsb,ha⟩=>?_) hfn)
 have hCa:C≠a:=by
  rcases ha with rfl|ha
  ·exact fC.2.1
  ·exact λz=>fC.2.2.2.2.1 y a ha z.symm
 refine⟨m,hm.sameBut hsb hCa,λh' hs'=>⟨_,H',?_,q⟩⟩
 exact I''.turned (t':=s''.toks) (it:=C) (λb o hb e=>hs'.extBut b o hb e) fC.1 fC.2.1 fC.2.2.2.1 fC.2.2.2.2.1 fC.2.2.2.2.2
end
section
variable {κ:Type}[DecidableEq κ]
noncomputable def valV(kvs:List (κ×V))(k:κ):Option V:=(kvs.find? λkv=>decide (kv.1=k)).map (·.2)
theorem Qd_{p:κ×V}{r:List (κ×V)}{k:κ}(e:p.1=k):valV (p::r) k=some p.2:=by simp[valV,List.find?_cons,e]
theorem Qe_{p:κ×V}{r:List (κ×V)}{k:κ}(e:¬ p.1=k):valV (p::r) k=valV r k:=by simp[valV,List.find?_cons,e]
theorem RelO.isSome_eq{o:Option V}{u:Option Value}(r:RelO o u):o.isSome=u.isSome:=by
 cases o with
 | none=>cases u with
  | none=>rfl
  | some _=>exact(show False from r).elim
 | some _=>cases u with
  | none=>exact(show False from r).elim
  | some _=>rfl
theorem KV.val{kvs:List (κ×V)}{vs:List (κ×Value)}(r:KV kvs vs)(k:κ):RelO (valV kvs k) (valueAt vs k):=by
 unfold KV at r
 induction r with
 | nil=>exact True.intro
 | @cons p q ps qs h t ih =>
  obtain⟨h1,h2⟩:=h
  by_cases e:p.1=k
  ·have e':q.1=k:=h1.symm.trans e
   have b:valueAt (q::qs) k=some q.2:=by simp[valueAt,List.find?_cons,e']
   rw[Qd_ e,b];exact h2
  ·have e':¬ q.1=k:=λz=>e (h1.trans z)
   have b:valueAt (q::qs) k=valueAt qs k:=by simp[valueAt,List.find?_cons,e']
   rw[Qe_ e,b];exact ih
end
theorem Vq_{P:Program}{w:World}{k:Key}{u:Value}(r:RelV (kV k) u):(z8_ P w).is k u=true:=by
 cases k with
 | inl i=>obtain⟨t,e⟩:=(show ∃t,u=Value.int i t from r);subst e;exact YS_ P w i t
 | inr x=>obtain⟨t,e⟩:=(show ∃t,u=Value.str x t from r);subst e;exact YR_ P w x t
theorem UZ_{P:Program}{w:World}:∀{ks:List Key} {us:List Value},Vals (ks.map kV) us->ItemsAre (z8_ P w) ks us
 | [],_,r=>by rw[List.map_nil]at r;cases r;exact .nil
 | k::ks,_,r=>by
  rw[List.map_cons]at r
  cases r with
  | cons h t=>exact .cons (Vq_ h) (UZ_ t)
abbrev KT(H:Hp):List (List Key×V)->List (List Key×Addr×Value)->Prop:=Paired λp q=>p.1=q.1/\H q.2.1=some (.tup (p.1.map kV))/\RelV p.2 q.2.2
theorem KT.val{H:Hp}{kvs:List (List Key×V)}{xs:List (List Key×Addr×Value)}(r:KT H kvs xs)(k:List Key):RelO (valV kvs k) ((atKey xs k).map (·.2)):=by
 induction r with
 | nil=>exact True.intro
 | @cons p q ps qs h t ih =>
  obtain⟨h1,_,h2⟩:=h
  by_cases e:p.1=k
  ·have e':q.1=k:=h1.symm.trans e
   have b:atKey (q::qs) k=some q.2:=by simp[atKey,List.find?_cons,e']
   rw[Qd_ e,b];exact h2
  ·have e':¬ q.1=k:=λz=>e (h1.trans z)
   have b:atKey (q::qs) k=atKey qs k:=by simp[atKey,List.find?_cons,e']
   rw[Qe_ e,b];exact ih
section
variable {P:Program}{w:World}{H:Hp}{h:Heap}{a:Addr}
theorem zdq_{u:HO}(ok:HOk P w H h)(e:Rd H a u):ObjOk P w H h a u:=e.ok ok
theorem WV_{kvs:List (Key×V)}(ok:HOk P w H h)(e:Rd H a (.dK kvs)):kvs.length<=sizeLine/\(a==sysModules)=false/\∃vs,KV kvs vs/\h.DictOf (z8_ P w) a vs :=
 show ObjOk P w H h a (.dK kvs)from zdq_ ok e
theorem zcA_{kvs:List (Key×V)}(ok:HOk P w H h)(e:H a=some (.dK kvs)):kvs.length<=sizeLine/\(a==sysModules)=false/\∃vs,KV kvs vs/\h.DictOf (z8_ P w) a vs:=WV_ ok (.inl e)
theorem Jo_{ks:List Key}(ok:HOk P w H h)(e:H a=some (.tup (ks.map kV))):(tupleKind (z8_ P w)).is h ks a:=by
 obtain⟨_,its,r,⟨o,h1,h2,n,h3⟩,_⟩:=(show ObjOk P w H h a (.tup (ks.map kV))from ok a _ e)
 exact⟨o,its.toArray,n,h1,h2,h3,by simpa using UZ_ r⟩
theorem WU_{kvs:List (List Key×V)}(ok:HOk P w H h)(e:Rd H a (.dT kvs)):kvs.length<=sizeLine/\(a==sysModules)=false /\
  ∃xs,KT H kvs xs/\h.DictOfH (tupleKind (z8_ P w)) a xs:=by
 obtain⟨z,y,xs,r,o,es,ep,h1,h2,h3,h4,h5⟩:=(show ObjOk P w H h a (.dT kvs)from zdq_ ok e)
 refine⟨z,y,xs,r,o,es,ep,h1,h2,h3,h4,λx hx=>?_,h5⟩
 have all:∀{l:List (List Key×V)} {m:List (List Key×Addr×Value)},KT H l m->∀x∈m,(tupleKind (z8_ P w)).is h x.1 x.2.1:=by
  intro l m q
  induction q with
  | nil=>intro x hx;exact nomatch hx
  | @cons p q ps qs hq t ih =>
   intro x hx
   rcases List.mem_cons.mp hx with e|hx
   ·subst e
    exact Jo_ ok (by rw[<-hq.1];exact hq.2.1)
   ·exact ih x hx
 exact all r x hx
theorem zcz_{kvs:List (List Key×V)}(ok:HOk P w H h)(e:H a=some (.dT kvs)):kvs.length<=sizeLine/\(a==sysModules)=false /\
  ∃xs,KT H kvs xs/\h.DictOfH (tupleKind (z8_ P w)) a xs:=WU_ ok (.inl e)
end
def DGet(H:Hp)(a:Addr)(y:V)(r:Option V):Prop :=
 (∃kvs k,Rd H a (.dK kvs)/\y=kV k/\r=valV kvs k)\/∃kvs k b,Rd H a (.dT kvs)/\y=.ref b/\H b=some (.tup (k.map kV))/\r=valV kvs k
theorem DGet.k{H:Hp}{a:Addr}{kvs:List (Key×V)}{k:Key}(e:H a=some (.dK kvs)):DGet H a (kV k) (valV kvs k):=.inl ⟨kvs,k,.inl e,rfl,rfl⟩
theorem DGet.t{H:Hp}{a b:Addr}{kvs:List (List Key×V)}{k:List Key}(e:H a=some (.dT kvs))(eb:H b=some (.tup (k.map kV))):DGet H a (.ref b) (valV kvs k):=.inr ⟨kvs,k,b,.inl e,rfl,eb,rfl⟩
section
variable {X:Cx}{pins:List (Addr×Obj)}{σ:St}{H:Hp}{s:Shared}{a:Addr}{y v:V}{u r:Value}{o:Option V}{A:Around}{E:Value->Shared->Prop}
theorem W0_{Q:Value->Shared->Prop}(hu:A.units+1<cLine)(I:Inv X pins σ H s)(g:DGet H a y (some v))(ry:RelV y u)(h:∀w' s',Inv X pins σ H s'->RelV v w'->Q w' s') :
  wpAny (model X.prog X.w) A (getItem (.ref a) u) Q E s:=by
 rcases g with ⟨kvs,k,e,ey,l⟩|⟨kvs,k,b,e,ey,eb,l⟩
 ·subst ey
  obtain⟨z,hd,vs,rel,dd⟩:=WV_ I.hok e
  obtain⟨w',hw,rw'⟩:=RelO.some_of (v:=v) (o:=valueAt vs k) (by rw[l];exact rel.val k)
  exact wpAny_getItem_of (Vq_ ry) dd.mapOf hw (h w' _ (I.tok _) rw')
 ·subst ey
  cases (show u=Value.ref b from ry)
  obtain⟨z,hd,xs,rel,dd⟩:=WU_ I.hok e
  obtain⟨w',hw,rw'⟩:=RelO.some_of (v:=v) (o:=(atKey xs k).map (·.2)) (by rw[l];exact rel.val k)
  obtain⟨p,hp,hp2⟩:=Option.map_eq_some_iff.mp hw
  refine wpAny_getItem_heap (tupleKind_room_in1 hu) (Jo_ I.hok eb) dd hp ?_
  rw[hp2]
  exact h w' _ (I.tok _) rw'
theorem d_in{Q:Value->Shared->Prop}(hu:A.units+1<cLine)(I:Inv X pins σ H s)(g:DGet H a y o)(ry:RelV y u)(h:∀s',Inv X pins σ H s'->Q (.bool o.isSome) s') :
  wpAny (model X.prog X.w) A (compareOp .In u (.ref a)) Q E s:=by
 rcases g with ⟨kvs,k,e,ey,l⟩|⟨kvs,k,b,e,ey,eb,l⟩
 ·subst ey
  obtain⟨z,hd,vs,rel,dd⟩:=WV_ I.hok e
  refine wpAny_in_of (Vq_ ry) hd dd.mapOf ?_
  rw[<-(rel.val k).isSome_eq,<-l]
  exact h _ (I.tok _)
 ·subst ey
  cases (show u=Value.ref b from ry)
  obtain⟨z,hd,xs,rel,dd⟩:=WU_ I.hok e
  refine wpAny_in_heap (tupleKind_room_in1 hu) (Jo_ I.hok eb) hd dd ?_
  have q:=(rel.val k).isSome_eq
  rw[Option.isSome_map]at q
  rw[<-q,<-l]
  exact h _ (I.tok _)
theorem zcB_{Q:Value->Shared->Prop}(hu:A.units+1<cLine)(I:Inv X pins σ H s)(g:DGet H a y o)(ry:RelV y u)(h:∀s',Inv X pins σ H s'->Q (.bool (!o.isSome)) s') :
  wpAny (model X.prog X.w) A (compareOp .NotIn u (.ref a)) Q E s:=by
 rcases g with ⟨kvs,k,e,ey,l⟩|⟨kvs,k,b,e,ey,eb,l⟩
 ·subst ey
  obtain⟨z,hd,vs,rel,dd⟩:=WV_ I.hok e
  refine wpAny_notIn_of (Vq_ ry) hd dd.mapOf ?_
  rw[<-(rel.val k).isSome_eq,<-l]
  exact h _ (I.tok _)
 ·subst ey
  cases (show u=Value.ref b from ry)
  obtain⟨z,hd,xs,rel,dd⟩:=WU_ I.hok e
  refine wpAny_notIn_heap (tupleKind_room_in1 hu) (Jo_ I.hok eb) hd dd ?_
  have q:=(rel.val k).isSome_eq
  rw[Option.isSome_map]at q
  rw[<-q,<-l]
  exact h _ (I.tok _)
end
theorem YZ_{X:Cx}{pins:List (Addr×Obj)}{σ:St}{H:Hp}{s:Shared}{a:Addr}{y:V}{o:Option V}(I:Inv X pins σ H s)(g:DGet H a y o):s.TypeIs (.ref a) "dict":=by
 rcases g with ⟨kvs,k,e,_,_⟩|⟨kvs,k,b,e,_,_,_⟩
 ·obtain⟨_,_,vs,_,dd⟩:=WV_ I.hok e
  exact dd.typeIs
 ·obtain⟨_,_,xs,_,dd⟩:=WU_ I.hok e
  exact dd.typeIs
end L2
namespace L4
open PySem PySem.Spec PyProof.Rows L2 PySem.W
def XO(e C:Addr)(dd:Option Addr):Heap->Prop:=λh=>∃oe,h.get? e=some oe/\oe.cls=.ref C/\oe.dict=dd/\PySem.W.notCls oe=true
def XD(dx:Addr)(fs:List (Str×V)):Heap->Prop:=λh=>∃mA,h.Ns1 dx mA/\PySem.Within mA (fs.map (·.1))/\∀f,RelO (fs.lookup f) (mA f)
noncomputable abbrev bmV:List Value:=[.type "ValueError",.type "Exception",.type "BaseException",.type "object"]
structure XC(K:Frag)(C D fI:Addr):Prop where
 obj:∃nm q N bs sn sub ab col dd k0 k1 k2 k3 k5,K.lookup C=some (excClassObj nm q C N bs (.ref D::bmV) true sn sub ab col dd k0 k1 k2 k3 k5 "ValueError.__new__")
 tl:tailIn K bmV (.ref D::bmV)=true
 ini:findIn K (.ref C) "__init__" = some (some (.ref fI))
 fn:typeIn K (.ref fI)=some (.type "function")
 sa:findIn K (.ref C) "__setattr__" = some (some (.builtin "object.__setattr__"))
 ga:findIn K (.ref C) "__getattribute__" = some (some (.builtin "BaseException.__getattribute__"))
 gr:findIn K (.ref C) "__getattr__" = some none
structure KC(K:Frag)(C:Addr):Prop where
 ha:findIn K (.ref C) "__class__" = some (some (.builtin "object.__class__"))
 hn:specialIn K (.builtin "object.__class__") "__get__" = some (some (.builtin "getset_descriptor.__get__"))
 htk:takesIn K (.builtin "object.__class__")=some true
noncomputable def tyOk(T:String):Bool:=T == "bool" || T == "int" || T == "str" || T == "list" || T == "tuple" || T == "dict"
structure XQ(K:Frag)(C:Addr)(x:Str):Prop where
 ns:nsIn K mainGlobals x=some (some (.ref C))
 xc:∃D fI,XC K C D fI
 kc:KC K C
 no:∀T,tyOk T=true->kitOne K (.ref C) (.type T)=some false
def FX(F:Hp)(dd:Option Addr)(fv:List (Str×V)):Prop:=(dd=none/\fv=[])\/∃dx,dd=some dx/\F dx=some (.ext (XD dx fv))
theorem FX.mono{F F':Hp}{dd:Option Addr}{fv:List (Str×V)}(e:Same F F')(h:FX F dd fv):FX F' dd fv:=h.imp id λ⟨dx,h1,h2⟩=>⟨dx,h1,e _ _ h2⟩
end L4
namespace L3
open PySem PySem.Spec PyProof.Rows L2
noncomputable abbrev D:=PyData
noncomputable abbrev Fg:=PySem.W.Frag
noncomputable def keyD:Key->D
 | .inl i=>.int i
 | .inr x=>.str x
noncomputable def keyT(k:List Key):D:=.tuple (k.map keyD)
mutual
inductive Rep(K:Fg)(F:Hp):V->D->Prop
 | non:Rep K F .non .none
 | bl (b):Rep K F (.bl b) (.bool b)
 | int (i):Rep K F (.int i) (.int i)
 | str (x):Rep K F (.str x) (.str x)
 | tup {a vs ds}:F a=some (.tup vs)->RepL K F vs ds->Rep K F (.ref a) (.tuple ds)
 | lst {a vs ds}:SqL K F a vs->RepL K F vs ds->Rep K F (.ref a) (.list ds)
 | dct {a kvs es}:F a=some (.dT kvs)->es.map (·.1)=kvs.map (λp=>keyT p.1)->RepL K F (kvs.map (·.2)) (es.map (·.2))->Rep K F (.ref a) (.dict es)
 | dck {a kvs es}:F a=some (.dK kvs)->es.map (·.1)=kvs.map (λp=>keyD p.1)->RepL K F (kvs.map (·.2)) (es.map (·.2))->Rep K F (.ref a) (.dict es)
 | exc {a C dd cl fv es}:F a=some (.ext (L4.XO a C dd))->L4.XQ K C cl->L4.FX F dd fv->es.map (·.1)=fv.map (λp=>.str p.1)->RepL K F (fv.map (·.2)) (es.map (·.2))->Rep K F (.ref a) (.dict ((.none,.str cl)::es))
 | fn {a f}:PySem.W.nsIn K mainGlobals f=some (some (.ref a))->Rep K F (.ref a) (.dict [(.bool true,.str f)])
inductive RepL(K:Fg)(F:Hp):List V->List D->Prop
 | nil:RepL K F [] []
 | cons {v d vs ds}:Rep K F v d->RepL K F vs ds->RepL K F (v::vs) (d::ds)
end
theorem uR_{K:Fg}{F F':Hp}{a:Addr}{xs:List V}(e:Same F F')(h:SqT K F a xs):SqT K F' a xs:=by
 rcases h with (h|⟨o,h⟩)|h
 ·exact .inl (.inl (e _ _ h))
 ·exact .inl (.inr ⟨o,e _ _ h⟩)
 ·exact .inr h
theorem Rep.mono{K:Fg}{F F':Hp}(e:Same F F'){v:V}{d:D}(h:Rep K F v d):Rep K F' v d :=
 Rep.rec (motive_1:=λv d _=>Rep K F' v d) (motive_2:=λvs ds _=>RepL K F' vs ds) .non .bl .int .str (λh _ r=>.tup (e _ _ h) r) (λh _ r=>.lst (e.seq h) r) (λh k _ r=>.dct (e _ _ h) k r) (λh k _ r=>.dck (e _ _ h) k r) (λh q f k _ r=>.exc (e _ _ h) q (f.mono e) k r) (λh=>.fn h) .nil (λ_ _ a b=>.cons a b) h
theorem RepL.mono{K:Fg}{F F':Hp}(e:Same F F'){vs:List V}{ds:List D}(h:RepL K F vs ds):RepL K F' vs ds:=by
 induction vs generalizing ds with
 | nil=>cases h;exact .nil
 | cons v vs ih=>cases h with
  | cons a b=>exact .cons (a.mono e) (ih b)
noncomputable def repI(K:Fg)(F:Hp):D->V->Prop
 | .none,v=>v=.non
 | .bool b,v=>v=.bl b
 | .int i,v=>v=.int i
 | .str x,v=>v=.str x
 | .tuple ds,v=>∃a vs,v=.ref a/\F a=some (.tup vs)/\RepL K F vs ds
 | .list ds,v=>∃a vs,v=.ref a/\SqL K F a vs/\RepL K F vs ds
 | _,_=>True
theorem Rep.inv{K:Fg}{F:Hp}{v:V}{d:D}(h:Rep K F v d):repI K F d v :=
 Rep.casesOn (motive_1:=λv d _=>repI K F d v) h rfl (λ_=>rfl) (λ_=>rfl) (λ_=>rfl) (λh r=>⟨_,_,rfl,h,r⟩) (λh r=>⟨_,_,rfl,h,r⟩) (λ_ _ _=>True.intro) (λ_ _ _=>True.intro) (λ_ _ _ _ _=>True.intro) (λ_=>True.intro)
theorem Rep.int_inv{K:Fg}{F:Hp}{v:V}{i:Int}(h:Rep K F v (.int i)):v=.int i:=h.inv
theorem Rep.bool_inv{K:Fg}{F:Hp}{v:V}{i:Bool}(h:Rep K F v (.bool i)):v=.bl i:=h.inv
theorem Rep.str_inv{K:Fg}{F:Hp}{v:V}{i:Str}(h:Rep K F v (.str i)):v=.str i:=h.inv
theorem Rep.tup_inv{K:Fg}{F:Hp}{v:V}{ds:List D}(h:Rep K F v (.tuple ds)):∃a vs,v=.ref a/\F a=some (.tup vs)/\RepL K F vs ds:=h.inv
theorem Rep.lst_inv{K:Fg}{F:Hp}{v:V}{ds:List D}(h:Rep K F v (.list ds)):∃a vs,v=.ref a/\SqL K F a vs/\RepL K F vs ds:=h.inv
noncomputable def zdo_(K:Fg)(F:Hp):List D->List V->Prop
 | [],vs=>vs=[]
 | d::ds,vs=>∃v us,vs=v::us/\Rep K F v d/\RepL K F us ds
theorem RepL.inv{K:Fg}{F:Hp}{vs:List V}{ds:List D}(h:RepL K F vs ds):zdo_ K F ds vs :=
 RepL.casesOn (motive_2:=λvs ds _=>zdo_ K F ds vs) h rfl (λa b=>⟨_,_,rfl,a,b⟩)
theorem RepL.one_inv{K:Fg}{F:Hp}{vs:List V}{d:D}(h:RepL K F vs [d]):∃v,vs=[v]/\Rep K F v d:=by
 obtain⟨v,us,rfl,a,b⟩:=(h.inv:∃v us,vs=v::us/\Rep K F v d/\RepL K F us [])
 obtain rfl:us=[]:=b.inv
 exact⟨v,rfl,a⟩
theorem RepL.two_inv{K:Fg}{F:Hp}{vs:List V}{d e:D}(h:RepL K F vs [d,e]):∃v u,vs=[v,u]/\Rep K F v d/\Rep K F u e:=by
 obtain⟨v,us,rfl,a,b⟩:=(h.inv:∃v us,vs=v::us/\Rep K F v d/\RepL K F us [e])
 obtain⟨u,rfl,c⟩:=b.one_inv
 exact⟨v,u,rfl,a,c⟩
theorem RepL.length{K:Fg}{F:Hp}:∀{vs ds},RepL K F vs ds->vs.length=ds.length
 | _,_,.nil=>rfl
 | _,_,.cons _ r=>by simp[RepL.length r]
theorem RepL.get{K:Fg}{F:Hp}:∀{vs ds} {i:Nat} {d:D},RepL K F vs ds->ds[i]? = some d->∃v,vs[i]? = some v/\Rep K F v d
 | _,_,_,_,.nil,e=>by simp at e
 | _,_,0,_,.cons h _,e=>by simp at e;subst e;exact⟨_,rfl,h⟩
 | _,_,i+1,d,.cons _ r,e=>by
  obtain⟨v,h1,h2⟩:=RepL.get (i:=i) (d:=d) r (by simpa using e)
  exact⟨v,by simpa using h1,h2⟩
theorem RepL.append{K:Fg}{F:Hp}{vs:List V}{ds:List D}{us:List V}{es:List D}(h:RepL K F vs ds)(s:RepL K F us es):RepL K F (vs++us) (ds++es):=by
 induction vs generalizing ds with
 | nil=>cases h;exact s
 | cons v vs ih=>cases h with
  | cons a b=>exact .cons a (ih b)
theorem RepL.take{K:Fg}{F:Hp}:∀{vs ds} (n:Nat),RepL K F vs ds->RepL K F (vs.take n) (ds.take n)
 | _,_,0,_=>.nil
 | _,_,_+1,.nil=>.nil
 | _,_,n+1,.cons h r=>.cons h (RepL.take n r)
theorem RepL.drop{K:Fg}{F:Hp}:∀{vs ds} (n:Nat),RepL K F vs ds->RepL K F (vs.drop n) (ds.drop n)
 | _,_,0,r=>r
 | _,_,_+1,.nil=>.nil
 | _,_,n+1,.cons _ r=>RepL.drop n r
theorem RepL.set{K:Fg}{F:Hp}{v:V}{d:D}(h:Rep K F v d):∀{vs ds} (i:Nat),RepL K F vs ds->RepL K F (vs.set i v) (ds.set i d)
 | _,_,_,.nil=>.nil
 | _,_,0,.cons _ r=>.cons h r
 | _,_,i+1,.cons q r=>.cons q (RepL.set h i r)
theorem RepL.ints{K:Fg}{F:Hp}:∀(ns:List Int),RepL K F (ns.map V.int) (ns.map PyData.int)
 | []=>.nil
 | n::r=>.cons (.int n) (RepL.ints r)
section
variable {X:Cx}{pins:List (Addr×Obj)}{σ:L2.St}{H:Hp}{s:Shared}
theorem Ux_{u:List Value}(r:Vals [] u):∃as,ReadsAll s.heap u [] as:=by cases r;exact⟨_,.nil⟩
theorem Ji_{v:V}{d:D}{vs:List V}{ds:List D}(h:d.canLay0=true->∀{u},RelV v u->∃as,Reads s.heap u d as)(t:PyData.canLayAll0 ds=true->∀{us},Vals vs us->∃as,ReadsAll s.heap us ds as)(c:PyData.canLayAll0 (d::ds)=true){us:List Value}(r:Vals (v::vs) us):∃as,ReadsAll s.heap us (d::ds) as:=by
 simp only[PyData.canLayAll0,Bool.and_eq_true]at c
 cases r with
 | cons r rr =>
  obtain⟨as,ra⟩:=h c.1 r
  obtain⟨bs,rb⟩:=t c.2 rr
  exact⟨_,.cons ra rb⟩
theorem VZ_(I:Inv X pins σ H s){a:Addr}{vs:List V}{ds:List D}(hq:H a=some (.tup vs))(ih:PyData.canLayAll0 ds=true->∀{us},Vals vs us->∃as,ReadsAll s.heap us ds as)(c:(PyData.tuple ds).canLay0=true){u:Value}(r:RelV (.ref a) u):∃as,Reads s.heap u (.tuple ds) as:=by
 cases r
 obtain⟨its,rv,⟨o,e1,e2,n',e3⟩,hz⟩:=I.tuple (SqT.of hq)
 obtain⟨as,ra⟩:=ih (by simpa[PyData.canLay0]using c) rv
 exact⟨_,.tuple e1 e2 e3 (by simpa using ra)⟩
theorem V0_(I:Inv X pins σ H s){a:Addr}{vs:List V}{ds:List D}(hq:SqL X.K H a vs)(ih:PyData.canLayAll0 ds=true->∀{us},Vals vs us->∃as,ReadsAll s.heap us ds as)(c:(PyData.list ds).canLay0=true){u:Value}(r:RelV (.ref a) u):∃as,Reads s.heap u (.list ds) as:=by
 cases r
 obtain⟨its,rv,⟨o,n',e1,e2,e3,e4⟩,hz⟩:=I.list hq
 obtain⟨as,ra⟩:=ih (by simpa[PyData.canLay0]using c) rv
 exact⟨_,.list e1 e2 e4 (by simpa using ra)⟩
theorem yt_{es:List (D×D)}{P:Prop}(c:(PyData.dict es).canLay0=true):P:=by simp[PyData.canLay0]at c
theorem zaA_(I:Inv X pins σ H s){v:V}{d:D}(h:Rep X.K H v d):d.canLay0=true->∀{u},RelV v u->∃as,Reads s.heap u d as :=
 Rep.rec (motive_1:=λv d _=>d.canLay0=true->∀{u},RelV v u->∃as,Reads s.heap u d as) (motive_2:=λvs ds _=>PyData.canLayAll0 ds=true->∀{us},Vals vs us->∃as,ReadsAll s.heap us ds as)
  (λ_ {_} r=>by cases r;exact⟨_,.none⟩) (λb _ {_} r=>by cases r;exact⟨_,.bool b⟩) (λi _ {_} r=>by obtain⟨t,rfl⟩:=r;exact⟨_,.int i t⟩) (λx _ {_} r=>by obtain⟨t,rfl⟩:=r;exact⟨_,.str x t⟩)
  (λhq _ ih=>VZ_ I hq ih) (λhq _ ih=>V0_ I hq ih) (λ_ _ _ _ c=>yt_ c) (λ_ _ _ _ c=>yt_ c) (λ_ _ _ _ _ _ c=>yt_ c) (λ_ c=>yt_ c)
  (λ_ {_} r=>Ux_ r) (λ_ _ a b=>Ji_ a b) h
theorem zdp_(I:Inv X pins σ H s){vs:List V}{ds:List D}(h:RepL X.K H vs ds):PyData.canLayAll0 ds=true->∀{us},Vals vs us->∃as,ReadsAll s.heap us ds as:=by
 induction vs generalizing ds with
 | nil=>cases h;exact λ_ _ r=>Ux_ r
 | cons v vs ih=>cases h with
  | cons a b=>exact Ji_ (zaA_ I a) (ih b)
end
theorem z0_{X:Cx}{pins:List (Addr×Obj)}{σ:L2.St}{H:Hp}{s:Shared}(I:Inv X pins σ H s) :
  (∀{v d},Rep X.K H v d->d.canLay0=true->∀{u},RelV v u->∃as,Reads s.heap u d as)/\(∀{vs ds},RepL X.K H vs ds->PyData.canLayAll0 ds=true->∀{us},Vals vs us->∃as,ReadsAll s.heap us ds as) :=
 ⟨λ{v d} h c {u} r=>zaA_ I h c r,λ{vs ds} h c {us} r=>zdp_ I h c r⟩
noncomputable def isXe:List (D×D)->Bool
 | (.none,_)::_=>true
 | (.bool _,_)::_=>true
 | _=>false
noncomputable def isFn:D->Bool
 | .dict ((.bool _,_)::_)=>true
 | _=>false
inductive OC where
 | l (ds:List D)
 | t (es:List (D×D))
 | k (es:List (D×D))
 | i (x:Str) (ns:List Str) (ds:List D)
noncomputable def OC.isI:OC->Bool
 | .i _ _ _=>true
 | _=>false
inductive AV where
 | fz (d:D)
 | ol (c:OC)
 | op (c:OC)
noncomputable abbrev En:=List (Option AV)
inductive RV where
 | fz (d:D)
 | fr (c:OC)
 | bor (i:Nat)
noncomputable def NoTE:HO->Prop
 | .tup _=>False
 | .ext _=>False
 | _=>True
structure Gh where
 P:Nat->Option Addr
 O:Hp
 B:Hp
def Held(K:Fg)(F H:Hp)(a:Addr):OC->Prop
 | .l ds=>∃vs,H a=some (.lst vs)/\RepL K F vs ds
 | .t es=>∃kvs,H a=some (.dT kvs)/\es.map (·.1)=kvs.map (λp=>keyT p.1)/\RepL K F (kvs.map (·.2)) (es.map (·.2))
 | .k es=>∃kvs,H a=some (.dK kvs)/\es.map (·.1)=kvs.map (λp=>keyD p.1)/\RepL K F (kvs.map (·.2)) (es.map (·.2))
 | .i x ns ds=>∃C dx fs,H a=some (.ins C dx fs)/\PySem.W.nsIn K mainGlobals x=some (some (.ref C))/\fs.map (·.1)=ns/\RepL K F (fs.map (·.2)) ds
structure OwnAt(K:Fg)(G:Gh)(F H:Hp)(a:Addr)(c:OC):Prop where
 nf:F a=none
 no:G.O a=none
 he:Held K F H a c
def own(ρ:En)(i:Nat)(c:OC):Prop:=ρ[i]? = some (some (.ol c))\/ρ[i]? = some (some (.op c))
structure StOk(K:Fg)(G:Gh)(F:Hp)(σ:L2.St)(H:Hp)(ρ:En):Prop where
 fh:Same F H
 oh:Same G.O H
 fo:∀b o,G.O b=some o->F b=none/\NoTE o
 ln:σ.length=ρ.length
 fz:∀(i:Nat) (d:D),ρ[i]? = some (some (AV.fz d))->∃v,σ[i]? = some (some v)/\Rep K F v d
 ow:∀(i:Nat) (c:OC),own ρ i c->∃a:Addr,σ[i]? = some (some (V.ref a))/\OwnAt K G F H a c
 dj:∀(i j:Nat) (c e:OC) (a:Addr),own ρ i c->own ρ j e->σ[i]? = some (some (V.ref a))->σ[j]? = some (some (V.ref a))->i=j
 pp:∀(i:Nat) (a:Addr),G.P i=some a->σ[i]? = some (some (V.ref a))/\∃c,ρ[i]? = some (some (AV.op c))
 pq:∀(i:Nat) (c:OC),ρ[i]? = some (some (AV.op c))->∃a,G.P i=some a
 fb:Same G.B F
noncomputable def RVR(K:Fg)(G:Gh)(F:Hp)(σ:L2.St)(H:Hp)(ρ:En)(v:V):RV->Prop
 | .fz d=>Rep K F v d
 | .fr c=>∃a,v=.ref a/\OwnAt K G F H a c/\∀(i:Nat) (e:OC),own ρ i e->σ[i]? ≠ some (some (V.ref a))
 | .bor i=>∃c,own ρ i c/\σ[i]? = some (some v)
theorem Held.mono{K:Fg}{F F' H:Hp}{a:Addr}{c:OC}(e:Same F F')(h:Held K F H a c):Held K F' H a c:=by
 cases c with
 | l ds=>obtain⟨vs,h1,h2⟩:=h;exact⟨vs,h1,h2.mono e⟩
 | t es=>obtain⟨vs,h1,h2,h3⟩:=h;exact⟨vs,h1,h2,h3.mono e⟩
 | k es=>obtain⟨vs,h1,h2,h3⟩:=h;exact⟨vs,h1,h2,h3.mono e⟩
 | i x ns ds=>obtain⟨C,dx,fs,h1,h2,h3,h4⟩:=h;exact⟨C,dx,fs,h1,h2,h3,h4.mono e⟩
theorem Held.some{K:Fg}{F H:Hp}{a:Addr}{c:OC}(h:Held K F H a c):∃o,H a=some o:=by
 cases c with
 | l ds=>obtain⟨vs,h1,h2⟩:=h;exact⟨_,h1⟩
 | t es=>obtain⟨vs,h1,h2⟩:=h;exact⟨_,h1⟩
 | k es=>obtain⟨vs,h1,h2⟩:=h;exact⟨_,h1⟩
 | i x ns ds=>obtain⟨C,dx,fs,h1,_⟩:=h;exact⟨_,h1⟩
theorem Held.at{K:Fg}{F H H':Hp}{a:Addr}{c:OC}(h:Held K F H a c)(e:H' a=H a):Held K F H' a c:=by
 cases c with
 | l ds=>obtain⟨vs,h1,h2⟩:=h;exact⟨vs,e.trans h1,h2⟩
 | t es=>obtain⟨vs,h1,h2⟩:=h;exact⟨vs,e.trans h1,h2⟩
 | k es=>obtain⟨vs,h1,h2⟩:=h;exact⟨vs,e.trans h1,h2⟩
 | i x ns ds=>obtain⟨C,dx,fs,h1,h2⟩:=h;exact⟨C,dx,fs,e.trans h1,h2⟩
theorem us_{F:Hp}{p:Addr}{o:HO}(h:F p=none):Same F (upd F p o):=λb u e=>by
 rw[zM_ (zA_ e h)]
 exact e
theorem ys_{F H:Hp}{p:Addr}{o:HO}(s:Same F H)(h:F p=none):Same F (upd H p o):=λb u e=>by
 rw[zM_ (zA_ e h)]
 exact s b u e
section
variable {K:Fg}{G:Gh}{F H:Hp}{σ:L2.St}{ρ:En}
theorem StOk.lay(S:StOk K G F σ H ρ){p:Addr}{o:HO}(hp:H p=none):StOk K G F σ (upd H p o) ρ:=by
 have fp:F p=none:=S.fh.free hp
 have op:G.O p=none:=S.oh.free hp
 refine⟨ys_ S.fh fp,ys_ S.oh op,S.fo,S.ln,S.fz,λi c h=>?_,S.dj,S.pp,S.pq,S.fb⟩
 obtain⟨a,e,oa⟩:=S.ow i c h
 refine⟨a,e,oa.nf,oa.no,oa.he.at ?_⟩
 obtain⟨u,hu⟩:=oa.he.some
 exact zM_ (zA_ hu hp)
theorem StOk.fresh_ne(S:StOk K G F σ H ρ){p:Addr}(hp:H p=none):∀(i:Nat) (e:OC),own ρ i e->σ[i]? ≠ some (some (V.ref p)):=λi e h q=>by
 obtain⟨a,e1,oa⟩:=S.ow i e h
 rw[e1]at q
 injection q with q;injection q with q;injection q with q
 subst q
 obtain⟨u,hu⟩:=oa.he.some
 rw[hp]at hu;cases hu
theorem StOk.freeze(S:StOk K G F σ H ρ){a:Addr}{o:HO}(ha:H a=some o)(fa:F a=none)(oa:G.O a=none)(ne:∀(i:Nat) (e:OC),own ρ i e->σ[i]? ≠ some (some (V.ref a))):StOk K G (upd F a o) σ H ρ:=by
 have sm:Same F (upd F a o):=us_ fa
 refine⟨λb u e=>?_,S.oh,λb u e=>?_,S.ln,λi d h=>?_,λi c h=>?_,S.dj,S.pp,S.pq,S.fb.trans sm⟩
 ·by_cases hb:b=a
  ·subst hb;rw[jA_]at e;cases e;exact ha
  ·rw[zM_ hb]at e;exact S.fh b u e
 ·rw[zM_ (zA_ e oa)];exact S.fo b u e
 ·obtain⟨v,e,r⟩:=S.fz i d h;exact⟨v,e,r.mono sm⟩
 ·obtain⟨b,e,ob⟩:=S.ow i c h
  refine⟨b,e,?_,ob.no,ob.he.mono sm⟩
  rw[zM_ (λz=>ne i c h (by rw[e,z]))]
  exact ob.nf
theorem StOk.newTup(S:StOk K G F σ H ρ){p:Addr}{vs:List V}{ds:List D}(hp:H p=none)(r:RepL K F vs ds) :
  Same F (upd F p (.tup vs))/\StOk K G (upd F p (.tup vs)) σ (upd H p (.tup vs)) ρ/\Rep K (upd F p (.tup vs)) (.ref p) (.tuple ds):=by
 have fp:F p=none:=S.fh.free hp
 refine⟨us_ fp,(S.lay hp).freeze jA_ fp (S.oh.free hp) (S.fresh_ne hp),?_⟩
 exact .tup jA_ (r.mono (us_ fp))
theorem StOk.newLst(S:StOk K G F σ H ρ){p:Addr}{vs:List V}{ds:List D}(hp:H p=none)(r:RepL K F vs ds) :
  StOk K G F σ (upd H p (.lst vs)) ρ/\RVR K G F σ (upd H p (.lst vs)) ρ (.ref p) (.fr (.l ds)) :=
 ⟨S.lay hp,p,rfl,⟨S.fh.free hp,S.oh.free hp,vs,jA_,r⟩,S.fresh_ne hp⟩
theorem StOk.settle(S:StOk K G F σ H ρ){v:V}{ds:List D}(r:RVR K G F σ H ρ v (.fr (.l ds))) :
  ∃F',Same F F'/\StOk K G F' σ H ρ/\Rep K F' v (.list ds):=by
 obtain⟨a,rfl,oa,ne⟩:=r
 obtain⟨vs,h1,h2⟩:=oa.he
 exact⟨upd F a (.lst vs),us_ oa.nf,S.freeze h1 oa.nf oa.no ne,.lst (.inl (.inl jA_)) (h2.mono (us_ oa.nf))⟩
noncomputable def OC.d:OC->D
 | .l ds=>.list ds
 | .t es=>.dict es
 | .k es=>.dict es
 | .i _ _ _=>.none
theorem zcs_{a:Addr}{c:OC}(hI:c.isI=false)(h:Held K F H a c):∃o,H a=some o/\∀F',Same F F'->F' a=some o->Rep K F' (.ref a) c.d:=by
 cases c with
 | l ds=>obtain⟨vs,h1,h2⟩:=h;exact⟨_,h1,λF' s e=>.lst (.inl (.inl e)) (h2.mono s)⟩
 | t es=>obtain⟨vs,h1,h2,h3⟩:=h;exact⟨_,h1,λF' s e=>.dct e h2 (h3.mono s)⟩
 | k es=>obtain⟨vs,h1,h2,h3⟩:=h;exact⟨_,h1,λF' s e=>.dck e h2 (h3.mono s)⟩
 | i x ns ds=>cases hI
theorem StOk.store(S:StOk K G F σ H ρ){j:Nat}{v:V}{av:AV}(hj:∀c,ρ[j]? ≠ some (some (.op c)))(hl:j<ρ.length)
  (h:(∃d,av=.fz d/\Rep K F v d)\/∃c,av=.ol c/\RVR K G F σ H ρ v (.fr c)):StOk K G F (σ.set j (some v)) H (ρ.set j (some av)):=by
 have hls:j<σ.length:=by rw[S.ln];exact hl
 have ne:∀i,i≠j->(ρ.set j (some av))[i]? = ρ[i]?:=λi hi=>List.getElem?_set_ne (Ne.symm hi)
 have nes:∀i,i≠j->(σ.set j (some v))[i]? = σ[i]?:=λi hi=>List.getElem?_set_ne (Ne.symm hi)
 have atj:(ρ.set j (some av))[j]? = some (some av):=List.getElem?_set_self hl
 have atjs:(σ.set j (some v))[j]? = some (some v):=List.getElem?_set_self hls
 have owni:∀i c,i≠j->own (ρ.set j (some av)) i c->own ρ i c:=λi c hi h=>by
  unfold own at h ⊢
  rw[ne i hi]at h
  exact h
 refine⟨S.fh,S.oh,S.fo,by simpa using S.ln,λi d q=>?_,λi c q=>?_,λi k c e a q1 q2 e1 e2=>?_,λi a q=>?_,λi c q=>?_,S.fb⟩
 ·by_cases hi:i=j
  ·subst hi
   rw[atj]at q
   rcases h with ⟨d',rfl,r⟩|⟨c,rfl,_⟩
   ·cases q;exact⟨v,atjs,r⟩
   ·cases q
  ·rw[ne i hi]at q
   obtain⟨w,e,r⟩:=S.fz i d q
   exact⟨w,by rw[nes i hi];exact e,r⟩
 ·by_cases hi:i=j
  ·subst hi
   rcases h with ⟨d',rfl,r⟩|⟨c',rfl,a,rfl,oa,_⟩
   ·rcases q with q|q<;>(rw[atj]at q;cases q)
   ·rcases q with q|q
    ·rw[atj]at q;cases q;exact⟨a,atjs,oa⟩
    ·rw[atj]at q;cases q
  ·obtain⟨a,e,oa⟩:=S.ow i c (owni i c hi q)
   exact⟨a,by rw[nes i hi];exact e,oa⟩
 ·by_cases hi:i=j
  ·by_cases hk:k=j
   ·rw[hi,hk]
   ·exfalso
    subst hi
    rw[nes k hk]at e2
    rw[atjs]at e1
    injection e1 with e1;injection e1 with e1
    subst e1
    rcases h with ⟨d',rfl,r⟩|⟨c',rfl,a',e,oa,nn⟩
    ·rcases q1 with q|q<;>(rw[atj]at q;cases q)
    ·injection e with e;subst e
     exact nn k _ (owni k _ hk q2) e2
  ·by_cases hk:k=j
   ·exfalso
    subst hk
    rw[nes i hi]at e1
    rw[atjs]at e2
    injection e2 with e2;injection e2 with e2
    subst e2
    rcases h with ⟨d',rfl,r⟩|⟨c',rfl,a',e,oa,nn⟩
    ·rcases q2 with q|q<;>(rw[atj]at q;cases q)
    ·injection e with e;subst e
     exact nn i _ (owni i _ hi q1) e1
   ·rw[nes i hi]at e1
    rw[nes k hk]at e2
    exact S.dj i k _ _ a (owni i _ hi q1) (owni k _ hk q2) e1 e2
 ·obtain⟨q1,c,q2⟩:=S.pp i a q
  have hi:i≠j:=by rintro rfl;exact hj c q2
  exact⟨by rw[nes i hi];exact q1,c,by rw[ne i hi];exact q2⟩
 ·have hi:i≠j:=by
   rintro rfl
   rw[atj]at q
   rcases h with ⟨d',rfl,r⟩|⟨c',rfl,_⟩<;>cases q
  rw[ne i hi]at q
  exact S.pq i c q
theorem StOk.change(S:StOk K G F σ H ρ){j:Nat}{a:Addr}{c c':OC}{o:HO}(hj:own ρ j c)(ha:σ[j]? = some (some (.ref a)))(hh:Held K F (upd H a o) a c') :
  StOk K G F σ (upd H a o) (ρ.set j ((ρ[j]?.join).map fun | .op _=>.op c'|_=>.ol c')):=by
 obtain⟨b,e,ob⟩:=S.ow j c hj
 rw[ha]at e
 injection e with e;injection e with e;injection e with e
 subst e
 have hl:j<ρ.length:=by rcases hj with h|h<;>exact(List.getElem?_eq_some_iff.mp h).1
 generalize hav:((ρ[j]?.join).map λ(x:AV)=>match x with | .op _=>AV.op c'|_=>AV.ol c')=av
 have ne:∀i,i≠j->(ρ.set j av)[i]? = ρ[i]?:=λi hi=>List.getElem?_set_ne (Ne.symm hi)
 have atj:(ρ.set j av)[j]? = some av:=List.getElem?_set_self hl
 have owni:∀i e,i≠j->own (ρ.set j av) i e->own ρ i e:=λi c hi h=>by
  unfold own at h ⊢
  rw[ne i hi]at h
  exact h
 have kind:(ρ[j]? = some (some (.ol c))/\av=some (.ol c'))\/(ρ[j]? = some (some (.op c))/\av=some (.op c')):=by
  rcases hj with h|h
  ·exact .inl ⟨h,by rw[<-hav,h];rfl⟩
  ·exact .inr ⟨h,by rw[<-hav,h];rfl⟩
 have ownj:∀e,own (ρ.set j av) j e->e=c':=λe h=>by
  unfold own at h
  rw[atj]at h
  rcases kind with ⟨_,k⟩|⟨_,k⟩<;>rw[k]at h<;>rcases h with h|h<;>cases h<;>rfl
 refine⟨ys_ S.fh ob.nf,ys_ S.oh ob.no,S.fo,by simpa using S.ln,λi d q=>?_,λi e q=>?_,λi k c1 e1 b q1 q2=>?_,λi b q=>?_,λi e q=>?_,S.fb⟩
 ·by_cases hi:i=j
  ·subst hi
   rw[atj]at q
   rcases kind with ⟨_,k⟩|⟨_,k⟩<;>rw[k]at q<;>cases q
  ·rw[ne i hi]at q;exact S.fz i d q
 ·by_cases hi:i=j
  ·subst hi
   have:=ownj e q
   subst this
   exact⟨a,ha,ob.nf,ob.no,hh⟩
  ·have q':=owni i e hi q
   obtain⟨b',e',ob'⟩:=S.ow i e q'
   refine⟨b',e',ob'.nf,ob'.no,ob'.he.at (zM_ λz=>hi (S.dj i j _ _ a q' hj (by rw[e',z]) ha))⟩
 ·have o1:∃e,own ρ i e:=by
   by_cases hi:i=j
   ·exact⟨c,hi▸hj⟩
   ·exact⟨_,owni i _ hi q1⟩
  have o2:∃e,own ρ k e:=by
   by_cases hk:k=j
   ·exact⟨c,hk▸hj⟩
   ·exact⟨_,owni k _ hk q2⟩
  exact S.dj i k _ _ b o1.choose_spec o2.choose_spec
 ·obtain⟨q1,e,q2⟩:=S.pp i b q
  refine⟨q1,?_⟩
  by_cases hi:i=j
  ·subst hi
   rcases kind with ⟨k1,k⟩|⟨k1,k⟩
   ·rw[k1]at q2;cases q2
   ·exact⟨c',by rw[atj,k]⟩
  ·exact⟨e,by rw[ne i hi];exact q2⟩
 ·by_cases hi:i=j
  ·subst hi
   rcases kind with ⟨k1,k⟩|⟨k1,k⟩
   ·rw[atj,k]at q;cases q
   ·exact S.pq i c k1
  ·rw[ne i hi]at q;exact S.pq i e q
end
end L3
namespace L4
open PySem PySem.Spec PyProof.Rows L2 L3
def TbOf(h:Heap)(e b:Addr):Prop:=∃oe vs,h.get? e=some oe/\oe.data=.fields vs/\vs[1]? = some (.ref b)
structure Ent(fs:List Addr)(h h':Heap)(e T:Addr)(oe:Obj)(ts:Array Value):Prop where
 keep:∀b o,h.get? b=some o->b∉fs->b≠e->h'.get? b=some o
 slot:∀b o,h.get? b=some o->b≠e->∃sl,h'.get? b=some { o with slots:=sl }
 new:h.objs.size<=T
 exc:h'.get? e=some (oe.mapFields (·.setIfInBounds 1 (.ref T)))
 way:∃oT,h'.get? T=some oT/\oT.data=.fields ts
section
variable {M:Model}{A:Around}{E:Value->Shared->Prop}{s:Shared}{base:Heap}{env:Env}{outer:List Env}{L e:Addr}{oe:Obj}{vs:Array Value}
theorem Jv_{top:Value}{nx:Bool}{Q:Unit->Shared->Prop}(hA:A.frames=some (env::outer))(hF:s.heap.FunFrames base (env::outer))(hL:env.frame=some L)
  (he:s.heap.get? e=some oe) (hd:oe.data=.fields vs) (hz:1<vs.size)
  (k:∀h' T ts,Ent (frs (env::outer)) s.heap h' e T oe ts->3<ts.size->ts[3]? = some (rawInt L)->Q () { s with heap:=h' }) :
  wpAny M A (do let a <-frameOf env;let pl <-entryPlaceOf L nx;let b <-EntryCells.newEntry top a .none (rawInt L) .none pl;setField (.ref e) 1 b) Q E s:=by
 have ne:e∉frs (env::outer):=λz=>by
  obtain⟨_,o,q,r⟩:=hF.mem z
  rw[he]at q;cases q
  exact r vs hd
 refine zza (wpAny_frameOf_fun hA hF hL λh1 so=>zza (wpAny_entryPlaceOf λpl ip=>?_))
 simp only[EntryCells.newEntry,newFields]
 refine zza (wpAny_newObj_type ?_ (ip.sizeOk5 _ _ _ _ _))
 generalize hts:([top,.ref L,.none,rawInt L,.none]++(if pl.isEmpty then List.replicate 6 Value.none else pl)).toArray=ts
 have z3:3<ts.size:=by
  rw[<-hts,List.size_toArray,zzf]
  simp only[List.length_cons,List.length_nil]
  lia
 have g3:ts[3]? = some (rawInt L):=by rw[<-hts];simp
 generalize htb:({ cls:=.type "traceback",dict:=none,data:=.fields ts }:Obj)=tb
 have fr:tb.isFreed=false:=by rw[<-htb];rfl
 have e1:h1.get? e=some oe:=by rw[so.2.1 e ne];exact he
 have lt:e<h1.objs.size:=Heap.lt_size e1
 refine wpAny_setField (zzc tb e1) hd hz ?_
 have hd':=Obj.data_mapFields hd (·.setIfInBounds 1 (Value.ref h1.objs.size))
 have up:∀b,b≠e->((h1.push tb).update e (Obj.mapFields (·.setIfInBounds 1 (.ref h1.objs.size)))).get? b=(h1.push tb).get? b:=λb hb=>Heap.get?_update_other _ _ (Ne.symm hb)
 refine k _ h1.objs.size ts ⟨λb o q nf nb=>?_,λb o q nb=>?_,by rw[so.1];exact Nat.le_refl _,?_,⟨tb,?_,?_⟩⟩ z3 g3
 ·exact(up b nb).trans (zzc _ ((so.2.1 b nf).trans q))
 ·obtain⟨sl,q'⟩:=so.2.2 b o q
  exact⟨sl,(up b nb).trans (zzc _ q')⟩
 ·exact Heap.get?_update_self _ (zzc tb e1) (Obj.isFreed_of_fields hd')
 ·exact(up _ (Nat.ne_of_gt lt)).trans (zze h1 fr)
 ·rw[<-htb]
end
structure XS(H:Hp)(h:Heap)(lo:Nat)(e C:Addr)(dd:Option Addr):Prop where
 yg:lo<=e
 trk:H e=some (.ext (XO e C dd))
 obj:∃oe vs,h.get? e=some oe/\oe.cls=.ref C/\oe.dict=dd/\oe.data=.fields vs/\1<vs.size /\
  (vs[1]? = some .none\/∃T oT ts,vs[1]? = some (.ref T)/\T≠e/\lo<=T/\H T=none/\h.get? T=some oT/\oT.data=.fields ts/\ts[3]? = some .none)
structure Mv(fs:List Addr)(h h':Heap)(e:Addr):Prop where
 keep:∀b o,h.get? b=some o->b∉fs->b≠e->¬ TbOf h e b->h'.get? b=some o
 slot:∀b o,h.get? b=some o->b≠e->¬ TbOf h e b->∃sl,h'.get? b=some { o with slots:=sl }
 there:∀b o,h.get? b=some o->∃o',h'.get? b=some o'
theorem WW_(f:Array Value->Array Value)(o:Obj):(o.mapFields f).dict=o.dict:=by
 obtain⟨c,d,dt,sl⟩:=o
 cases dt<;>rfl
theorem zfx_{L:Addr}:¬ ((Value.none==rawInt L)=true):=by simp[rawInt]
section
variable {M:Model}{A:Around}{E:Value->Shared->Prop}{s:Shared}{base:Heap}{env:Env}{outer:List Env}{L e C:Addr}{dd:Option Addr}{H:Hp}{lo:Nat}{P:Program}{w:World}
theorem Jt_{oe:Obj}{vs:Array Value}{h0:Heap}{T:Addr}{ts:Array Value}{Q:Unit->Shared->Prop}(en:Ent (frs (env::outer)) h0 s.heap e T oe ts)(hd:oe.data=.fields vs)(hz:1<vs.size)(z3:3<ts.size)(hh:e<h0.objs.size)
  (k:∀h',(∀b,b≠T->h'.get? b=s.heap.get? b)->(∃oT tz,h'.get? T=some oT/\oT.data=.fields tz/\tz[3]? = some .none)->Q () { s with heap:=h' }):wpAny M A (setFlight (.ref e) none) Q E s:=by
 obtain⟨oT,q1,q2⟩:=en.way
 have d':=Obj.data_mapFields hd (·.setIfInBounds 1 (Value.ref T))
 simp only[setFlight]
 refine zza (wpAny_field en.exc d' (x:=.ref T) (by simp[hz]) ?_)
 rw[if_pos (by simp)]
 refine wpAny_setField q1 q2 z3 (k _ (λb hb=>Heap.get?_update_other _ _ (Ne.symm hb)) ⟨_,_,Heap.get?_update_self _ q1 (Obj.isFreed_of_fields (Obj.data_mapFields q2 _)),Obj.data_mapFields q2 _,by simp[z3]⟩)
theorem X1_{Q:Unit->Shared->Prop}(hA:A.frames=some (env::outer))(hF:s.heap.FunFrames base (env::outer))(hL:env.frame=some L)(hk:HOk P w H s.heap)(xs:XS H s.heap lo e C dd)
  (k:∀h',Mv (frs (env::outer)) s.heap h' e->XS H h' lo e C dd->(∀b,TbOf h' e b->s.heap.objs.size<=b)->Q () { s with heap:=h' }) :
  wpAny M A (noteFrame (.ref e) env) (λ_ s2=>wpAny M A (setFlight (.ref e) none) Q E s2) E s:=by
 obtain⟨oe,vs,he,hc,hdd,hd,hz,tb⟩:=xs.obj
 have elt:e<s.heap.objs.size:=Heap.lt_size he
 have hlo:lo<=s.heap.objs.size:=Nat.le_trans xs.yg (Nat.le_of_lt elt)
 simp only[noteFrame,hL]
 rcases tb with tb|⟨T,oT,ts,tb,hTe,hTl,hTn,hT,hTd,t3⟩
 ·refine zza (wpAny_field he hd tb ?_)
  rw[if_neg (by decide)]
  refine Jv_ hA hF hL he hd hz λh1 T1 t1 en z3 g3=>?_
  refine Jt_ (s:={ s with heap:=h1 }) en hd hz z3 elt λh2 same way=>?_
  have nT:∀b o,s.heap.get? b=some o->b≠T1:=λb o q=>Nat.ne_of_lt (Nat.lt_of_lt_of_le (Heap.lt_size q) en.new)
  have d1:=Obj.data_mapFields hd (·.setIfInBounds 1 (Value.ref T1))
  refine k h2 ⟨λb o q nf nb _=>?_,λb o q nb _=>?_,λb o q=>?_⟩ ⟨xs.yg,xs.trk,_,_,?_,?_,?_,d1,by simpa using hz,.inr ?_⟩ ?_
  ·rw[same b (nT b o q)];exact en.keep b o q nf nb
  ·obtain⟨sl,z⟩:=en.slot b o q nb
   exact⟨sl,by rw[same b (nT b o q)];exact z⟩
  ·by_cases nb:b=e
   ·subst nb;exact⟨_,by rw[same _ (nT _ o q)];exact en.exc⟩
   ·obtain⟨sl,z⟩:=en.slot b o q nb
    exact⟨_,by rw[same b (nT b o q)];exact z⟩
  ·rw[same e (nT e _ he)];exact en.exc
  ·rw[Obj.cls_mapFields];exact hc
  ·rw[WW_];exact hdd
  ·obtain⟨o1,tz,w1,w2,w3⟩:=way
   exact⟨T1,o1,tz,by simp[hz],λz=>nT e _ he z.symm,Nat.le_trans hlo en.new,hk.fresh en.new,w1,w2,w3⟩
  ·intro b ⟨oe',vs',g1,g2,g3⟩
   rw[same e (nT e _ he),en.exc]at g1
   cases g1
   rw[d1]at g2
   cases g2
   have:Value.ref T1=Value.ref b:=by simpa[hz]using g3
   injection this with this
   rw[<-this]
   exact en.new
 ·refine zza (wpAny_field he hd tb ?_)
  rw[if_pos (by simp)]
  refine zza (wpAny_field hT hTd t3 ?_)
  rw[if_neg zfx_]
  have z3':3<ts.size:=(Array.getElem?_eq_some_iff.mp t3).1
  refine zza (wpAny_setField hT hTd z3' ?_)
  have off:∀b,b≠T->(s.heap.update T (Obj.mapFields (·.setIfInBounds 3 Value.none))).get? b=s.heap.get? b:=λb hb=>Heap.get?_update_other _ _ (Ne.symm hb)
  have hF':(s.heap.update T (Obj.mapFields (·.setIfInBounds 3 Value.none))).FunFrames base (env::outer):=hF.of_keeps λb o q r=>⟨o,(off b λz=>by subst z;rw[hT]at q;cases q;exact r ts hTd).trans q,rfl⟩
  have he':(s.heap.update T (Obj.mapFields (·.setIfInBounds 3 Value.none))).get? e=some oe:=(off e (Ne.symm hTe)).trans he
  have zz:(s.heap.update T (Obj.mapFields (·.setIfInBounds 3 Value.none))).objs.size=s.heap.objs.size:=Heap.size_update ..
  refine Jv_ (s:={ s with heap:=s.heap.update T (Obj.mapFields (·.setIfInBounds 3 Value.none)) }) hA hF' hL he' hd hz λh1 T1 t1 en z3 g3=>?_
  refine Jt_ (s:={ s with heap:=h1 }) en hd hz z3 (by rw[zz];exact elt) λh2 same way=>?_
  have nw:s.heap.objs.size<=T1:=by have:=en.new;rw[zz]at this;exact this
  have nT:∀b o,s.heap.get? b=some o->b≠T1:=λb o q=>Nat.ne_of_lt (Nat.lt_of_lt_of_le (Heap.lt_size q) nw)
  have isT:TbOf s.heap e T:=⟨oe,vs,he,hd,tb⟩
  have nTT:∀b,¬ TbOf s.heap e b->b≠T:=λb z q=>z (q▸isT)
  have d1:=Obj.data_mapFields hd (·.setIfInBounds 1 (Value.ref T1))
  have T0:(s.heap.update T (Obj.mapFields (·.setIfInBounds 3 Value.none))).get? T=some (oT.mapFields (·.setIfInBounds 3 Value.none)):=Heap.get?_update_self _ hT (Obj.isFreed_of_fields (Obj.data_mapFields hTd _))
  refine k h2 ⟨λb o q nf nb nt=>?_,λb o q nb nt=>?_,λb o q=>?_⟩ ⟨xs.yg,xs.trk,_,_,?_,?_,?_,d1,by simpa using hz,.inr ?_⟩ ?_
  ·rw[same b (nT b o q)];exact en.keep b o ((off b (nTT b nt)).trans q) nf nb
  ·obtain⟨sl,z⟩:=en.slot b o ((off b (nTT b nt)).trans q) nb
   exact⟨sl,by rw[same b (nT b o q)];exact z⟩
  ·by_cases nb:b=e
   ·subst nb;exact⟨_,by rw[same _ (nT _ o q)];exact en.exc⟩
   ·by_cases nt:b=T
    ·subst nt
     obtain⟨sl,z⟩:=en.slot b _ T0 nb
     exact⟨_,by rw[same b (nT b o q)];exact z⟩
    ·obtain⟨sl,z⟩:=en.slot b o ((off b nt).trans q) nb
     exact⟨_,by rw[same b (nT b o q)];exact z⟩
  ·rw[same e (nT e _ he)];exact en.exc
  ·rw[Obj.cls_mapFields];exact hc
  ·rw[WW_];exact hdd
  ·obtain⟨o1,tz,w1,w2,w3⟩:=way
   exact⟨T1,o1,tz,by simp[hz],λz=>nT e _ he z.symm,Nat.le_trans hlo nw,hk.fresh nw,w1,w2,w3⟩
  ·intro b ⟨oe',vs',g1,g2,g3⟩
   rw[same e (nT e _ he),en.exc]at g1
   cases g1
   rw[d1]at g2
   cases g2
   have:Value.ref T1=Value.ref b:=by simpa[hz]using g3
   injection this with this
   rw[<-this]
   exact nw
theorem Vn_{Q:Unit->Shared->Prop}(hA:A.frames=some (env::outer))(hF:s.heap.FunFrames base (env::outer))(hL:env.frame=some L)(hk:HOk P w H s.heap)(xs:XS H s.heap lo e C dd)
  (k:∀h',Mv (frs (env::outer)) s.heap h' e->XS H h' lo e C dd->Q () { s with heap:=h' }):wpAny M A (leaving env (.ref e)) Q E s:=by
 unfold leaving
 exact zza (X1_ hA hF hL hk xs λh' m x _=>k h' m x)
end
section
variable {fs:List Addr}{h h':Heap}{e C:Addr}{dd:Option Addr}{H:Hp}{lo:Nat}{P:Program}{w:World}
theorem XO.ok{H':Hp}(x:XO e C dd h):ObjOk P w H' h e (.ext (XO e C dd)):=by
 obtain⟨oe,q,r⟩:=x
 exact⟨⟨oe,q,r⟩,⟨oe,q⟩,λh1 h2 ⟨o,z,r⟩ k=>⟨o,k o z,r⟩⟩
theorem XS.xo(xs:XS H h lo e C dd):XO e C dd h:=by
 obtain⟨oe,vs,q,c,d,z,_⟩:=xs.obj
 exact⟨oe,q,c,d,by unfold PySem.W.notCls;rw[z]⟩
theorem XS.tb(xs:XS H h lo e C dd){b:Addr}(t:TbOf h e b):H b=none/\lo<=b/\b≠e/\∃oT ts,h.get? b=some oT/\oT.data=.fields ts:=by
 obtain⟨oe,vs,q,c,d,z,_,k⟩:=xs.obj
 obtain⟨oe',vs',q',z',k'⟩:=t
 rw[q]at q';cases q'
 rw[z]at z';cases z'
 rcases k with k|⟨T,oT,ts,k,ne,l,n,g,gd,_⟩
 ·rw[k]at k';cases k'
 ·rw[k]at k'
  cases k'
  exact⟨n,l,ne,oT,ts,g,gd⟩
theorem Mv.hok(m:Mv fs h h' e)(ok:HOk P w H h)(xs:XS H h lo e C dd)(xs':XS H h' lo e C dd)(hf:∀b∈fs,H b=none):HOk P w H h':=λa o q=>by
 by_cases ae:a=e
 ·subst ae
  rw[xs.trk]at q;cases q
  exact xs'.xo.ok
 ·refine(ok a o q).stay (λb u hb z=>?_) (λ_ z=>z) λ_ _ z=>z
  have hbH:∃v,H b=some v:=by
   rcases hb with rfl|hb
   ·exact⟨o,q⟩
   ·exact⟨_,hb⟩
  obtain⟨v,hv⟩:=hbH
  refine m.keep b u z (λy=>by rw[hf b y]at hv;cases hv) (λy=>?_) λy=>by rw[(xs.tb y).1]at hv;cases hv
  subst y
  rcases hb with rfl|hb
  ·exact ae rfl
  ·rw[xs.trk]at hb;cases hb
end
def CX1(P:Program)(w:World):CXT:=λouter H s E e s'=>∃a C dd H',e=.ref a/\s'.os=s.os/\AllBare s'.gens/\Un (frs outer) [] H H' s.heap s'.heap/\HOk P w H' s'.heap/\XS H' s'.heap s.heap.objs.size a C dd/\E (.ref C) dd H'
theorem zcd_{P:Program}{w:World}{K:Fg}{mg:Str->Option Value}{base:Heap}{N:List Str}{qual:Str}{scope:Scope}{f:Addr}{cd:Value}{A:Around}{outer:List Env}{s:Shared}{H:Hp}{E:XK}
  {pins:List (Addr×Obj)} {σ:L2.St} {H':Hp} {s':Shared} {a C:Addr} {dd:Option Addr} (I:Inv (cxOf (CX1 P w) P w K mg base N qual scope f cd A outer s H E) pins σ H' s') (xs:XS H' s'.heap s.heap.objs.size a C dd) (hE:E (.ref C) dd H') :
  (cxOf (CX1 P w) P w K mg base N qual scope f cd A outer s H E).xe (.ref a) s':=by
 have hF:=I.stack
 have hS:=I.stkFree
 refine Vn_ (base:=base) (L:=s.heap.objs.size) (P:=P) (w:=w) (s:=s') I.ok.frames hF rfl I.hok xs λh1 m xs1=>?_
 have un:Un (frs outer) [] H H' s.heap s'.heap:=I.base
 have lt:∀b o,s.heap.get? b=some o->b<s.heap.objs.size:=λb o q=>Heap.lt_size q
 have ne:∀b o,s.heap.get? b=some o->b≠a:=λb o q=>Nat.ne_of_lt (Nat.lt_of_lt_of_le (lt b o q) xs.yg)
 have nt:∀b o,s.heap.get? b=some o->¬ TbOf s'.heap a b:=λb o q z=>absurd (Nat.lt_of_lt_of_le (lt b o q) (xs.tb z).2.1) (Nat.lt_irrefl _)
 refine⟨a,C,dd,H',rfl,I.os,I.bare,⟨λb o q n hb hx=>?_,λb o q n hb hx=>?_,un.free,λb o q hx=>?_,un.tups,un.frzs,un.tbls⟩,m.hok I.hok xs xs1 hS,xs1,hE⟩
 ·refine m.keep b o (un.keep b o q n hb hx) (λz=>?_) (ne b o q) (nt b o q)
  rcases List.mem_cons.mp (I.stkSub b z)with y|y
  ·exact absurd (lt b o q) (by rw[y];exact Nat.lt_irrefl _)
  ·exact hb y
 ·obtain⟨sl,z⟩:=un.slot b o q n hb hx
  obtain⟨sl',z'⟩:=m.slot b _ z (ne b o q) (nt b o q)
  exact⟨sl',z'⟩
 ·obtain⟨o',z⟩:=un.there b o q hx
  exact m.there b o' z
end L4
namespace L4
open PySem PySem.Spec PyProof.Rows L2 L3 PySem.W
theorem zeH_{K:Frag}{C D fI:Addr}(c:XC K C D fI):∃cd,PySem.W.clsIn K C=some cd/\cd.mro=.ref C::.ref D::bmV/\cd.hasDict=true:=by
 obtain⟨nm,q,N,bs,sn,sub,ab,col,dd,k0,k1,k2,k3,k5,lk⟩:=c.obj
 refine⟨_,by unfold PySem.W.clsIn;rw[lk],rfl,rfl⟩
section
variable {prog:Program}{w:World}{A:Around}{E:Value->Shared->Prop}{s:Shared}{K:Frag}{x C:Addr}{ox:Obj}{od:Option Obj}
theorem zcH_{Q:Option Value->Shared->Prop}(X:K.In s.heap)(I:PySem.W.InstAt s.heap x ox C od)(hga:findIn K (.ref C) "__getattribute__" = some (some (.builtin "BaseException.__getattribute__")))(hgr:findIn K (.ref C) "__getattr__" = some none)(hb:mroIn K C (.type "BaseException")=some true)
  (hf:findObj K C od "__class__" = some (.bind (.builtin "getset_descriptor.__get__") (.builtin "object.__class__"))) (hm:mroIn K C (.type "object")=some true) (h:Q (some (.ref C)) { s with toks:=s.toks+1 }):wpAny (model prog w) A (getAttr? (.ref x) "__class__") Q E s:=by
 obtain⟨hp,g,d,t,os⟩:=s
 have L0:=I.type (M:=model prog w)
 have L1:=looks_findIn (M:=model prog w) X hga
 have L2:=looks_findIn (M:=model prog w) X hgr
 have L3:=looks_find (M:=model prog w) X I hf
 have L4:=looks_mroIn (M:=model prog w) X hb
 have bnd:=F.attr_ValueError.ga.bind (.ref x)
 have ok:=F.args_bexc_ga (.ref x) (.str "__class__" t)
 have kd:builtinKind "BaseException.__getattribute__" = some .slot:=by decide +kernel
 have sp:splitId "BaseException.__getattribute__" = some ("BaseException", "__getattribute__"):=by decide +kernel
 unfold getAttr? getAttrBy?
 refine zza (wpAny_mkText (zza (wpAny_attempt ?_)))
 unfold getAttrBy
 refine wpAny_holding (zza (L0.at (zza (L1.at ?_))))
 show wpAny _ _ (getAttrByItsOwn _ _ _ _ _ _) _ _ _
 unfold getAttrByItsOwn
 repeat (any_goals (first|assumption|with_reducible refine L0.at ?_|with_reducible refine L2.at ?_|wp_step))
 refine codeAny_call_builtin F.attr_ValueError.ga.plain F.entry_bexc_ga ?_
 simp only[checkBuiltinCall,kd,sp]
 refine zza ?_
 unfold isInstance
 refine zza (L0.at (L4.at ?_))
 repeat (any_goals (first|assumption|with_reducible refine L0.at ?_|with_reducible refine L3.at ?_|wp_step))
 refine class_get (s:=⟨hp,g,d,t+1,os⟩) (ox:=ox) (od:=od) X I hm ?_
 exact zzb (handed_on rfl (zzb h))
theorem zaa_{D fI:Addr}(c:XC K C D fI)(hb:mroIn K C (.type "BaseException")=some true)
  (hf:findObj K C od "__class__" = some (.bind (.builtin "getset_descriptor.__get__") (.builtin "object.__class__"))) (hm:mroIn K C (.type "object")=some true) :
  KitX K (.ref x) (.ref C) (λh=>PySem.W.InstAt h x ox C od) where
 ty:=λ_ _ _ I=>I.type
 it:=λ_ _ X _=>by
  obtain⟨nm,q,N,bs,sn,sub,ab,col,dd,k0,k1,k2,k3,k5,ho⟩:=c.obj
  intro A' Q' E' s' k q
  unfold isType loadHead
  exact zza (wpAny_loadPart (k _ _ (X _ _ ho)) (zzb q))
 ne:=λh tp dd its n sl X htp=>by
  obtain⟨nm,q,N,bs,sn,sub,ab,col,dd',k0,k1,k2,k3,k5,ho⟩:=c.obj
  refine Bool.eq_false_iff.mpr λq=>?_
  have e:C=tp:=Value.ref.inj (beq_iff_eq.mp q)
  subst e
  have z:=(X _ _ ho).symm.trans htp
  injection z with z
  injection z with z1 z2 z3
  cases z3
 ca:=λX I k=>zcH_ X I c.ga c.gr hb hf hm k
end
def XAt(H:Hp)(a C:Addr)(dd:Option Addr):Prop:=H a=some (.ext (XO a C dd))/\∀dx,dd=some dx->∃fv,H dx=some (.ext (XD dx fv))
theorem zcq_{X:Cx}{pins:List (Addr×Obj)}{σ:L2.St}{H:Hp}{s:Shared}{a C:Addr}{dd:Option Addr}(I:Inv X pins σ H s)(h:XAt H a C dd):∃ox od,PySem.W.InstAt s.heap a ox C od:=by
 obtain⟨h1,h2⟩:=h
 obtain⟨⟨oe,q1,q2,q3,q4⟩,_⟩:=I.hok a _ h1
 cases dd with
 | none=>exact⟨oe,none,q1,q2,q4,by rw[q3];trivial⟩
 | some dx =>
  obtain⟨fv,h2⟩:=h2 dx rfl
  obtain⟨⟨mA,na,wi,r⟩,_⟩:=I.hok dx _ h2
  obtain⟨od,z1,hlk⟩:=Wv_ na
  exact⟨oe,some od,q1,q2,q4,by rw[q3];exact z1⟩
theorem Ub_{K:Frag}{C:Addr}{od:Option Obj}{name:Str}{a g:Value}(hc:(clsIn K C).isSome=true)(ha:findIn K (.ref C) name=some (some a))(hg:specialIn K a "__get__" = some (some g))(ht:takesIn K a=some true):findObj K C od name=some (.bind g a):=by
 obtain⟨cd,hc⟩:=Option.isSome_iff_exists.mp hc
 unfold findObj
 rw[hc,Option.bind_some,ha,Option.bind_some]
 simp[hg,ht]
section
variable {X:Cx}{pins:List (Addr×Obj)}{σ:L2.St}{H:Hp}{s:Shared}{a C D fI:Addr}{dd:Option Addr}{Q:Value->Shared->Prop}{E:Value->Shared->Prop}{b:Bool}
theorem Vo_(c:XC X.K C D fI)(kc:KC X.K C){ox:Obj}{od:Option Obj}:KitX X.K (.ref a) (.ref C) (λh=>PySem.W.InstAt h a ox C od):=by
 obtain⟨cd,k1,k2,k3⟩:=zeH_ c
 refine zaa_ c (by unfold PySem.W.mroIn;rw[k1,Option.bind_some,k2];rfl) (Ub_ (by rw[k1];rfl) kc.ha kc.hn kc.htk) (by unfold PySem.W.mroIn;rw[k1,Option.bind_some,k2];rfl)
theorem Vs_(I:Inv X pins σ H s)(c:XC X.K C D fI)(kc:KC X.K C)(h:XAt H a C dd){cv:Value}(e:kitOne X.K (.ref C) cv=some b)(q:∀tk,Q (.bool b) { s with toks:=tk }) :
  wpAny (model X.prog X.w) X.A (call (.builtin "isinstance") [.ref a,cv]) Q E s:=by
 obtain⟨ox,od,It⟩:=zcq_ I h
 exact kia_one (Vo_ c kc) I.kIn It e (λz=>nomatch z) q
end
end L4
namespace L4
open PySem PySem.Spec PyProof.Rows L2 L3
structure Ex where
 cls:Str
 fs:List (Str×D)
inductive M(S:Type) where
 | ret (s:S)
 | exc (x:Ex)
 | bad
noncomputable def M.on{S T:Type}(m:M S)(x:Ex->M T)(k:S->M T):M T:=match m with
 | .ret s=>k s
 | .exc e=>x e
 | .bad=>.bad
def bd{S T:Type}(m:M S)(k:S->M T):M T:=m.on .exc k
noncomputable def oM{S:Type}(o:Option S):M S:=match o with
 | some s=>.ret s
 | none=>.bad
section
variable {S T U:Type}
@[simp] theorem zdW_(s:S)(x:Ex->M T)(k:S->M T):(M.ret s).on x k=k s:=rfl
@[simp] theorem ZP_(s:S)(k:S->M T):bd (.ret s) k=k s:=rfl
end
noncomputable abbrev Pu(α:Type):=En->M α
def XR(K:Fg)(F:Hp)(C:Addr)(dd:Option Addr)(x:Ex):Prop:=XQ K C x.cls /\
 ∃fv,FX F dd fv/\Paired (λ(p:Str×V) (q:Str×D)=>p.1=q.1/\Rep K F p.2 q.2) fv x.fs
structure FzOk(K:Fg)(F:Hp)(σ:L2.St)(ρ:En):Prop where
 ln:σ.length=ρ.length
 fz:∀(i:Nat) (d:D),ρ[i]? = some (some (AV.fz d))->∃v,σ[i]? = some (some v)/\Rep K F v d
theorem _root_.L3.StOk.fzok{K:Fg}{G:Gh}{F F' H:Hp}{σ:L2.St}{ρ:En}(S:StOk K G F σ H ρ)(s:Same F F'):FzOk K F' σ ρ:=⟨S.ln,λi d q=>by
 obtain⟨v,e,r⟩:=S.fz i d q
 exact⟨v,e,r.mono s⟩⟩
structure GOk(G:Gh)(F H:Hp):Prop where
 fh:Same F H
 oh:Same G.O H
 fo:∀b o,G.O b=some o->F b=none/\NoTE o
 fb:Same G.B F
def XW(X:Cx)(G:Gh)(F:Hp)(ρ:En)(x:Ex):Prop:=∀F' H' s' a C dd pins σ,GOk G F' H'->FzOk X.K F' σ ρ->Inv X pins σ H' s'->XS H' s'.heap X.s₀.heap.objs.size a C dd->(∀p∈X.pn++pins,¬ TbOf s'.heap a p.1)->XR X.K F' C dd x->X.xe (.ref a) s'
theorem XW.mono{X:Cx}{G:Gh}{F F':Hp}{ρ:En}{x:Ex}(s:Same F F')(h:XW X G F ρ x):XW X G F' ρ x:=h
def W(X:Cx)(G:Gh)(F:Hp)(σ:L2.St)(ρ:En){α:Type}(m:M α)(C:α->Hp->Hp->Prop):Prop:=match m with
 | .ret a=>∀F' H',Same F F'->StOk X.K G F' σ H' ρ->C a F' H'
 | .exc x=>XW X G F ρ x
 | .bad=>False
section
variable {X:Cx}{G:Gh}{F F' H:Hp}{σ:L2.St}{ρ:En}{α β:Type}{m:M α}{k:α->M β}{C C':α->Hp->Hp->Prop}
theorem W.up{C:β->Hp->Hp->Prop}{m:M β}(s:Same F F')(h:W X G F σ ρ m C):W X G F' σ ρ m C:=by
 cases m with
 | ret a=>exact λF2 H2 s2 S2=>h F2 H2 (s.trans s2) S2
 | exc x=>exact XW.mono (X:=X) (G:=G) (ρ:=ρ) (x:=x) s h
 | bad=>exact h
theorem W.bind{C:β->Hp->Hp->Prop}(h:W X G F σ ρ (bd m k) C):W X G F σ ρ m λa F' H'=>W X G F' σ ρ (k a) C:=by
 cases m with
 | ret a=>exact λF2 H2 s2 S2=>W.up s2 h
 | exc x=>exact h
 | bad=>exact h
theorem W.imp(h:W X G F σ ρ m C)(w:∀a F' H',Same F F'->StOk X.K G F' σ H' ρ->C a F' H'->C' a F' H'):W X G F σ ρ m C':=by
 cases m with
 | ret a=>exact λF2 H2 s2 S2=>w a F2 H2 s2 S2 (h F2 H2 s2 S2)
 | exc x=>exact h
 | bad=>exact h
theorem W.opt{o:Option α}(h:W X G F σ ρ (oM o) C):∃a,o=some a/\∀F' H',Same F F'->StOk X.K G F' σ H' ρ->C a F' H':=by
 cases o with
 | none=>exact h.elim
 | some a=>exact⟨a,rfl,h⟩
end
@[irreducible] noncomputable def tSem(X:Cx)(e:Expr):TE:=λσ H Q=>∀(pins:List (Addr×Obj)) (s:Shared),Inv X pins σ H s->wpAny (model X.prog X.w) X.A (eval e X.env) (EP X pins σ Q) X.xe s
@[irreducible] noncomputable def Vb_(X:Cx)(e:Expr):TT:=λσ H Q=>∀(pins:List (Addr×Obj)) (s:Shared),Inv X pins σ H s->wpAny (model X.prog X.w) X.A (isTrue e X.env (eval e X.env)) (TP X pins σ Q) X.xe s
@[irreducible] noncomputable def Va_(X:Cx)(e:Expr):TT:=λσ H Q=>∀(whole:Sem Value) (pins:List (Addr×Obj)) (s:Shared),Inv X pins σ H s->wpAny (model X.prog X.w) X.A (isTrue e X.env whole) (TP X pins σ Q) X.xe s
@[irreducible] noncomputable def Zi_(X:Cx)(es:List Expr):TA:=λσ H Q=>∀(pos:Pos) (pins:List (Addr×Obj)) (s:Shared),Inv X pins σ H s->wpAny (model X.prog X.w) X.A (spliced (backTo pos (starEach es X.env))) (AP X pins σ Q) X.xe s
section
variable {X:Cx}{e:Expr}{es:List Expr}{σ:L2.St}{H:Hp}
theorem zn_:PE X e (tSem X e):=λpins s σ H Q I h=>by unfold tSem at h;exact h pins s I
theorem u4_:PT X e (Vb_ X e):=λpins s σ H Q I h=>by unfold Vb_ at h;exact h pins s I
theorem Uz_:PW X e (Va_ X e):=λwh pins s σ H Q I h=>by unfold Va_ at h;exact h wh pins s I
theorem ji_:PA X es (Zi_ X es):=λpos pins s σ H Q I h=>by unfold Zi_ at h;exact h pos pins s I
theorem sem{t:TE}{Q:VK}(h:PE X e t)(q:t σ H Q):tSem X e σ H Q:=by unfold tSem;exact λpins s I=>h pins s σ H Q I q
theorem semT{t:TT}{Q:Bool->Hp->Prop}(h:PT X e t)(q:t σ H Q):Vb_ X e σ H Q:=by unfold Vb_;exact λpins s I=>h pins s σ H Q I q
theorem semW{t:TT}{Q:Bool->Hp->Prop}(h:PW X e t)(q:t σ H Q):Va_ X e σ H Q:=by unfold Va_;exact λwh pins s I=>h wh pins s σ H Q I q
theorem semA{t:TA}{Q:List V->Hp->Prop}(h:PA X es t)(q:t σ H Q):Zi_ X es σ H Q:=by unfold Zi_;exact λpos pins s I=>h pos pins s σ H Q I q
end
noncomputable def ownL(ρ:En)(i:Nat):Option (List D):=match ρ[i]? with
 | some (some (.ol (.l ds)))=>some ds
 | some (some (.op (.l ds)))=>some ds
 | _=>none
theorem Zb_{ρ:En}{i:Nat}{ds:List D}(h:ownL ρ i=some ds):own ρ i (.l ds):=by
 unfold ownL at h
 split at h
 ·rename_i q;cases h;exact .inl q
 ·rename_i q;cases h;exact .inr q
 ·cases h
def VO(K:Fg)(F:Hp)(σ:L2.St)(ρ:En)(v:V)(d:D):Prop:=Rep K F v d\/∃i c,own ρ i c/\σ[i]? = some (some v)/\d=c.d/\c.isI=false
inductive VOs(K:Fg)(F:Hp)(σ:L2.St)(ρ:En):List V->List D->Prop
 | nil:VOs K F σ ρ [] []
 | cons {v d vs ds}:VO K F σ ρ v d->VOs K F σ ρ vs ds->VOs K F σ ρ (v::vs) (d::ds)
theorem VO.mono{K:Fg}{F F':Hp}{σ:L2.St}{ρ:En}{v:V}{d:D}(s:Same F F')(h:VO K F σ ρ v d):VO K F' σ ρ v d:=h.imp (Rep.mono s) id
def OR(K:Fg)(F H:Hp)(v:V)(d:D):Prop:=Rep K F v d\/∃a c,v=.ref a/\d=c.d/\Held K F H a c/\c.isI=false
inductive ORs(K:Fg)(F H:Hp):List V->List D->Prop
 | nil:ORs K F H [] []
 | cons {v d vs ds}:OR K F H v d->ORs K F H vs ds->ORs K F H (v::vs) (d::ds)
theorem VO.or{K:Fg}{G:Gh}{F H:Hp}{σ:L2.St}{ρ:En}{v:V}{d:D}(S:StOk K G F σ H ρ)(h:VO K F σ ρ v d):OR K F H v d:=by
 rcases h with h|⟨i,c,ho,hv,rfl,hI⟩
 ·exact .inl h
 ·obtain⟨a,e1,oa⟩:=S.ow i _ ho
  rw[hv]at e1
  injection e1 with e1;injection e1 with e1
  exact .inr ⟨a,c,e1,rfl,oa.he,hI⟩
theorem VOs.ors{K:Fg}{G:Gh}{F H:Hp}{σ:L2.St}{ρ:En}(S:StOk K G F σ H ρ):∀{vs ds},VOs K F σ ρ vs ds->ORs K F H vs ds
 | _,_,.nil=>.nil
 | _,_,.cons h t=>.cons (h.or S) (t.ors S)
section
variable {K:Fg}{F H:Hp}{v:V}{ds:List D}
theorem OR.rep{d:D}(s:Same F H)(h:OR K F H v d):Rep K H v d:=by
 rcases h with h|⟨a,c,rfl,rfl,h1,hI⟩
 ·exact h.mono s
 ·obtain⟨o,e,r⟩:=zcs_ hI h1;exact r H s e
theorem OR.list(s:Same F H)(h:OR K F H v (.list ds)):∃a vs,v=.ref a/\SqL K H a vs/\RepL K F vs ds:=by
 rcases h with h|⟨a,c,e,e2,h1,hI⟩
 ·obtain⟨a,vs,e,h1,h2⟩:=h.lst_inv
  exact⟨a,vs,e,s.seq h1,h2⟩
 ·cases c<;>cases e2
  obtain⟨vs,h1,h2⟩:=h1
  exact⟨a,vs,e,.inl (.inl h1),h2⟩
theorem OR.tuple(s:Same F H)(h:OR K F H v (.tuple ds)):∃a vs,v=.ref a/\SqT K H a vs/\RepL K F vs ds:=by
 rcases h with h|⟨a,c,e,e2,h1,hI⟩
 ·obtain⟨a,vs,e,h1,h2⟩:=h.tup_inv
  exact⟨a,vs,e,SqT.of (s _ _ h1),h2⟩
 ·cases c<;>cases e2
theorem OR.tup'(h:OR K F H v (.tuple ds)):Rep K F v (.tuple ds):=by
 rcases h with h|⟨a,c,e,e2,h1,hI⟩
 ·exact h
 ·cases c<;>cases e2
theorem OR.int{i:Int}(h:OR K F H v (.int i)):v=.int i:=by
 rcases h with h|⟨a,c,e,e2,h1,hI⟩
 ·exact h.inv
 ·cases c<;>cases e2
theorem OR.bool{i:Bool}(h:OR K F H v (.bool i)):v=.bl i:=by
 rcases h with h|⟨a,c,e,e2,h1,hI⟩
 ·exact h.inv
 ·cases c<;>cases e2
theorem OR.str{i:Str}(h:OR K F H v (.str i)):v=.str i:=by
 rcases h with h|⟨a,c,e,e2,h1,hI⟩
 ·exact h.inv
 ·cases c<;>cases e2
theorem OR.none(h:OR K F H v .none):v=.non:=by
 rcases h with h|⟨a,c,e,e2,h1,hI⟩
 ·exact h.inv
 ·cases c with
  | i _ _ _=>cases hI
  | _=>cases e2
theorem zN_{vs:List V}{d:D}{ds:List D}(h:ORs K F H vs (d::ds)):∃v r,vs=v::r/\OR K F H v d/\ORs K F H r ds:=by
 cases h with|cons a b=>exact⟨_,_,rfl,a,b⟩
theorem jg_{vs:List V}(h:ORs K F H vs []):vs=[]:=by cases h;rfl
end
def AP(X:Cx)(e:Expr)(p:Pu D):Prop :=
 ∀(G:Gh) (F:Hp) (σ:L2.St) (H:Hp) (ρ:En) (Q:VK),StOk X.K G F σ H ρ->W X G F σ ρ (p ρ) (λd F' H'=>∀v,Rep X.K F' v d->Q v H')->tSem X e σ H Q
def AO(X:Cx)(e:Expr)(p:Pu D):Prop :=
 ∀(G:Gh) (F:Hp) (σ:L2.St) (H:Hp) (ρ:En) (Q:VK),StOk X.K G F σ H ρ->W X G F σ ρ (p ρ) (λd F' H'=>∀v,VO X.K F' σ ρ v d->Q v H')->tSem X e σ H Q
def AT(X:Cx)(e:Expr)(p:Pu Bool):Prop :=
 ∀(G:Gh) (F:Hp) (σ:L2.St) (H:Hp) (ρ:En) (Q:Bool->Hp->Prop),StOk X.K G F σ H ρ->W X G F σ ρ (p ρ) (λd F' H'=>Q d H')->Vb_ X e σ H Q
def AW(X:Cx)(e:Expr)(p:Pu Bool):Prop :=
 ∀(G:Gh) (F:Hp) (σ:L2.St) (H:Hp) (ρ:En) (Q:Bool->Hp->Prop),StOk X.K G F σ H ρ->W X G F σ ρ (p ρ) (λd F' H'=>Q d H')->Va_ X e σ H Q
def AB(X:Cx)(e:Expr)(p:Pu Bool):Prop :=
 ∀(G:Gh) (F:Hp) (σ:L2.St) (H:Hp) (ρ:En) (Q:VK),StOk X.K G F σ H ρ->W X G F σ ρ (p ρ) (λd F' H'=>Q (.bl d) H')->tSem X e σ H Q
def AA{α:Type}(X:Cx)(es:List Expr)(m:(List D->M α)->En->M α):Prop :=
 ∀(G:Gh) (F:Hp) (σ:L2.St) (H:Hp) (ρ:En) (Q:List V->Hp->Prop) (k:List D->M α) (C:α->Hp->Hp->Prop),StOk X.K G F σ H ρ->W X G F σ ρ (m k ρ) C ->
  (∀ds vs F' H',Same F F'->StOk X.K G F' σ H' ρ->vs.length=es.length->RepL X.K F' vs ds->W X G F' σ ρ (k ds) C->Q vs H')->Zi_ X es σ H Q
def AAo{α:Type}(X:Cx)(es:List Expr)(m:(List D->M α)->En->M α):Prop :=
 ∀(G:Gh) (F:Hp) (σ:L2.St) (H:Hp) (ρ:En) (Q:List V->Hp->Prop) (k:List D->M α) (C:α->Hp->Hp->Prop),StOk X.K G F σ H ρ->W X G F σ ρ (m k ρ) C ->
  (∀ds vs F' H',Same F F'->StOk X.K G F' σ H' ρ->VOs X.K F' σ ρ vs ds->W X G F' σ ρ (k ds) C->Q vs H')->Zi_ X es σ H Q
def Frs(K:Fg)(G:Gh)(F:Hp)(σ:L2.St)(H:Hp)(ρ:En)(v:V)(c:OC):Prop:=∃a,v=.ref a/\OwnAt K G F H a c/\∀(i:Nat) (e:OC),own ρ i e->σ[i]? ≠ some (some (V.ref a))
def AL(X:Cx)(e:Expr)(p:Pu (List D)):Prop :=
 ∀(G:Gh) (F:Hp) (σ:L2.St) (H:Hp) (ρ:En) (Q:VK),StOk X.K G F σ H ρ->W X G F σ ρ (p ρ) (λds F' H'=>∀v,Frs X.K G F' σ H' ρ v (.l ds)->Q v H')->tSem X e σ H Q
noncomputable def pVar(i:Nat):Pu D:=λρ=>match ρ[i]? with
 | some (some (.fz d))=>.ret d
 | _=>.bad
noncomputable def datO(c:OC):M D:=match c with
 | .i _ _ _=>.bad
 | c=>.ret c.d
def zdL_(i:Nat):Pu D:=λρ=>match ρ[i]? with
 | some (some (.ol c))=>datO c
 | some (some (.op c))=>datO c
 | _=>.bad
noncomputable def pCon(d:D):Pu D:=λ_=>.ret d
def pBin(f:D->D->Option D)(a b:Pu D):Pu D:=λρ=>bd (a ρ) λx=>bd (b ρ) λy=>oM (f x y)
def zdR_(f:D->D->Option Bool)(a b:Pu D):Pu Bool:=λρ=>bd (a ρ) λx=>bd (b ρ) λy=>oM (f x y)
def pUn(f:D->Option D)(a:Pu D):Pu D:=λρ=>bd (a ρ) λx=>oM (f x)
noncomputable abbrev Pa(α:Type):=(List D->M α)->En->M α
noncomputable def pNil{α:Type}:Pa α:=λk _=>k []
def zdN_{α:Type}(a:Pu D)(r:Pa α):Pa α:=λk ρ=>bd (a ρ) λx=>r (λxs=>k (x::xs)) ρ
noncomputable def fitM{S:Type}(ds:List S):M (List S):=if ds.length<=sizeLine then .ret ds else .bad
noncomputable def pTup(ps:Pa D):Pu D:=λρ=>ps (λds=>.ret (.tuple ds)) ρ
noncomputable def pLst(ps:Pa (List D)):Pu (List D):=λρ=>ps (λds=>.ret ds) ρ
theorem Jm_{n:Nat}(h:n<=1000):n<=sizeLine:=Nat.le_trans h (by decide)
def zdQ_(f:List D->Option D)(ps:Pa D):Pu D:=λρ=>ps (λds=>oM (f ds)) ρ
def zdP_(f:List D->Option Bool)(ps:Pa Bool):Pu Bool:=λρ=>ps (λds=>oM (f ds)) ρ
def UE_(f:List D->Option (List D))(ps:Pa (List D)):Pu (List D):=λρ=>ps (λds=>oM (f ds)) ρ
def pB(p:Pu Bool):Pu D:=λρ=>bd (p ρ) λb=>.ret (.bool b)
def pZ(p:Pu (List D)):Pu D:=λρ=>bd (p ρ) λds=>.ret (.list ds)
noncomputable def asB(d:D):M Bool:=match d with
 | .bool b=>.ret b
 | _=>.bad
def pAsB(p:Pu D):Pu Bool:=λρ=>bd (p ρ) asB
noncomputable def truD:D->Option Bool
 | .none=>some false
 | .bool b=>some b
 | .int i=>some (i != 0)
 | .str x=>if x.length<=sizeLine then some ((x.length:Int) != 0)else none
 | .list ds=>some (!ds.isEmpty)
 | .tuple ds=>some (!ds.isEmpty)
 | .dict _=>none
def pTru(p:Pu D):Pu Bool:=λρ=>bd (p ρ) λd=>oM (truD d)
def pAnd(a b:Pu Bool):Pu Bool:=λρ=>bd (a ρ) λt=>if t then b ρ else .ret false
def pOr(a b:Pu Bool):Pu Bool:=λρ=>bd (a ρ) λt=>if t then .ret true else b ρ
def pNot(a:Pu Bool):Pu Bool:=λρ=>bd (a ρ) λt=>.ret (!t)
def pIf{α:Type}(c:Pu Bool)(a b:Pu α):Pu α:=λρ=>bd (c ρ) λt=>if t then a ρ else b ρ
def OpD(K:Fg)(r:R2)(f:D->D->Option D):Prop :=
 ∀(G:Gh) (F:Hp) (σ:L2.St) (H:Hp) (ρ:En) (x y:V) (dx dy:D) (res:D) (Q:VK),StOk K G F σ H ρ->OR K F H x dx->OR K F H y dy->f dx dy=some res ->
  (∀v F' H',Same F F'->StOk K G F' σ H' ρ->Rep K F' v res->Q v H')->r x y H Q
def OpB(K:Fg)(r:R2)(f:D->D->Option Bool):Prop :=
 ∀(G:Gh) (F:Hp) (σ:L2.St) (H:Hp) (ρ:En) (x y:V) (dx dy:D) (res:Bool) (Q:VK),StOk K G F σ H ρ->OR K F H x dx->OR K F H y dy->f dx dy=some res->Q (.bl res) H->r x y H Q
def UnD(K:Fg)(r:V->Hp->VK->Prop)(f:D->Option D):Prop :=
 ∀(G:Gh) (F:Hp) (σ:L2.St) (H:Hp) (ρ:En) (x:V) (dx:D) (res:D) (Q:VK),StOk K G F σ H ρ->OR K F H x dx->f dx=some res ->
  (∀v F' H',Same F F'->StOk K G F' σ H' ρ->Rep K F' v res->Q v H')->r x H Q
def Uj_(K:Fg)(r:List V->Hp->VK->Prop)(f:List D->Option D):Prop :=
 ∀(G:Gh) (F:Hp) (σ:L2.St) (H:Hp) (ρ:En) (xs:List V) (ds:List D) (res:D) (Q:VK),StOk K G F σ H ρ->ORs K F H xs ds->f ds=some res ->
  (∀v F' H',Same F F'->StOk K G F' σ H' ρ->Rep K F' v res->Q v H')->r xs H Q
def Xz_(K:Fg)(r:List V->Hp->VK->Prop)(f:List D->Option Bool):Prop :=
 ∀(G:Gh) (F:Hp) (σ:L2.St) (H:Hp) (ρ:En) (xs:List V) (ds:List D) (res:Bool) (Q:VK),StOk K G F σ H ρ->ORs K F H xs ds->f ds=some res->Q (.bl res) H->r xs H Q
def Qc_(K:Fg)(r:List V->Hp->VK->Prop)(f:List D->Option (List D)):Prop :=
 ∀(G:Gh) (F:Hp) (σ:L2.St) (H:Hp) (ρ:En) (xs:List V) (ds:List D) (res:List D) (Q:VK),StOk K G F σ H ρ->ORs K F H xs ds->f ds=some res ->
  (∀v F' H',Same F F'->StOk K G F' σ H' ρ->Frs K G F' σ H' ρ v (.l res)->Q v H')->r xs H Q
section
variable {X:Cx}{e a b c:Expr}{es rest:List Expr}{p pa pb:Pu D}{ta tb tc:Pu Bool}{ps:Pa D}{pb':Pa Bool}{pl:Pa (List D)}{α:Type}{pα:Pa α}{qs:Pu (List D)}{pos:Pos}
theorem zeL_{i:Nat}{x:Str}(hN:X.N[i]? = some x)(hv:Vis X.env.scope x)(hd:(x==("__debug__" : Str))=false:=by decide)(hcd:(x==("__classdict__" : Str))=false:=by decide):AP X (.Name x pos) (pVar i) :=
 λG F σ H ρ Q S w=>sem (UC_ hN hv hd hcd)<|by
  unfold pVar at w
  split at w
  ·rename_i d q
   obtain⟨v,e1,r1⟩:=S.fz i d q
   exact⟨v,e1,w F H (Same.refl _) S v r1⟩
  ·exact w.elim
theorem uD_{i:Nat}{x:Str}(hN:X.N[i]? = some x)(hv:Vis X.env.scope x)(hd:(x==("__debug__" : Str))=false:=by decide)(hcd:(x==("__classdict__" : Str))=false:=by decide):AO X (.Name x pos) (zdL_ i) :=
 λG F σ H ρ Q S w=>sem (UC_ hN hv hd hcd)<|by
  have go:∀c:OC,own ρ i c->W X G F σ ρ (datO c) (λd F' H'=>∀v,VO X.K F' σ ρ v d->Q v H')->tVar i σ H Q:=λc ho w=>by
   obtain⟨a,e1,oa⟩:=S.ow i _ ho
   cases c with
   | i _ _ _=>exact w.elim
   | _=>exact⟨_,e1,w F H (Same.refl _) S _ (.inr ⟨i,_,ho,e1,rfl,rfl⟩)⟩
  unfold zdL_ at w
  split at w
  ·rename_i ds q;exact go ds (.inl q) w
  ·rename_i ds q;exact go ds (.inr q) w
  ·exact w.elim
theorem ao(h:AP X e p):AO X e p:=λG F σ H ρ Q S w=>h G F σ H ρ Q S (w.imp λd F' H' _ _ q v r=>q v (.inl r))
theorem Yu_{v:V}{d:D}(h:PE X e (tC v))(r:∀F,Rep X.K F v d):AP X e (pCon d) :=
 λG F σ H ρ Q S w=>sem h (w F H (Same.refl _) S v (r F))
theorem zc_{i j}:AP X (.Constant (.int i) j pos) (pCon (.int i)):=Yu_ zdI_ λ_=>.int _
theorem jz_{i j}:AP X (.Constant (.bool i) j pos) (pCon (.bool i)):=Yu_ zfo_ λ_=>.bl _
theorem Xn_{i j}:AP X (.Constant (.str i) j pos) (pCon (.str i)):=Yu_ zdC_ λ_=>.str _
theorem JD_{j}:AP X (.Constant .none j pos) (pCon .none):=Yu_ zdG_ λ_=>.non
theorem QV_{r:R2}{Q:VK}{G:Gh}{F H:Hp}{σ:L2.St}{ρ:En}{α:Type}{f:D->D->M α}{C:α->Hp->Hp->Prop}(ha:AO X a pa)(hb:AO X b pb)(S:StOk X.K G F σ H ρ)(w:W X G F σ ρ (bd (pa ρ) λx=>bd (pb ρ) λy=>f x y) C)
  (k:∀x y dx dy F' H',Same F F'->StOk X.K G F' σ H' ρ->OR X.K F' H' x dx->OR X.K F' H' y dy->W X G F' σ ρ (f dx dy) C->r x y H' Q):tOp r (tSem X a) (tSem X b) σ H Q :=
 ha G F σ H ρ _ S (w.bind.imp λdx F1 H1 s1 S1 w1 x hx=>hb G F1 σ H1 ρ _ S1 (w1.bind.imp λdy F2 H2 s2 S2 w2 y hy=>k x y dx dy F2 H2 (s1.trans s2) S2 ((hx.mono s2).or S2) (hy.or S2) w2))
theorem zo_{op:Operator}{r:R2}{f:D->D->Option D}(ho:OpR X (binaryOp op) r)(hf:OpD X.K r f)(ha:AO X a pa)(hb:AO X b pb):AP X (.BinOp a op b pos) (pBin f pa pb) :=
 λG F σ H ρ Q S w=>sem (zdD_ ho zn_ zn_) (QV_ ha hb S w λx y dx dy F' H' s' S' hx hy w'=>by
  obtain⟨res,e,k⟩:=w'.opt
  exact hf G F' σ H' ρ x y dx dy res Q S' hx hy e λv F2 H2 s2 S2 r2=>k F2 H2 s2 S2 v r2)
theorem uC_{r:R2}{f:D->D->Option D}(hr:IxR X r)(hf:OpD X.K r f)(ha:AO X a pa)(hb:AO X b pb)(hs:Y6_ b):AP X (.Subscript a b pos) (pBin f pa pb) :=
 λG F σ H ρ Q S w=>sem (zdH_ hr zn_ zn_ hs) (QV_ ha hb S w λx y dx dy F' H' s' S' hx hy w'=>by
  obtain⟨res,e,k⟩:=w'.opt
  exact hf G F' σ H' ρ x y dx dy res Q S' hx hy e λv F2 H2 s2 S2 r2=>k F2 H2 s2 S2 v r2)
theorem Yz_{op:CmpOp}{r:R2}{f:D->D->Option Bool}(ho:OpR X (compareOp op) r)(hf:OpB X.K r f)(ha:AO X a pa)(hb:AO X b pb)(hm:behindInMarks op b=false):AB X (.Compare a [op] [b] pos) (zdR_ f pa pb) :=
 λG F σ H ρ Q S w=>sem (We_ ho zn_ zn_ hm) (QV_ ha hb S w λx y dx dy F' H' s' S' hx hy w'=>by
  obtain⟨res,e,k⟩:=w'.opt
  exact hf G F' σ H' ρ x y dx dy res Q S' hx hy e (k F' H' (Same.refl _) S'))
theorem zO_{op:CmpOp}{r:R2}{f:D->D->Option Bool}(ho:OpR X (compareOp op) r)(hf:OpB X.K r f)(ha:AO X a pa)(hb:AO X b pb)(hm:behindInMarks op b=false):AT X (.Compare a [op] [b] pos) (zdR_ f pa pb) :=
 λG F σ H ρ Q S w=>semT (V7_ ho zn_ zn_ hm) (QV_ (Q:=λx H'=>∃k,x=.bl k/\Q k H') ha hb S w λx y dx dy F' H' s' S' hx hy w'=>by
  obtain⟨res,e,k⟩:=w'.opt
  exact hf G F' σ H' ρ x y dx dy res _ S' hx hy e ⟨res,rfl,k F' H' (Same.refl _) S'⟩)
theorem ap_b(h:AB X e ta):AP X e (pB ta):=λG F σ H ρ Q S w=>h G F σ H ρ Q S (w.bind.imp λb F' H' s1 S1 w1=>w1 F' H' (Same.refl _) S1 _ (.bl b))
theorem Xm_{op:UnaryOp}{r:V->Hp->VK->Prop}{f:D->Option D}(ho:UnR X (unaryOp op) r)(hf:UnD X.K r f)(ha:AO X a pa):AP X (.UnaryOp op a pos) (pUn f pa) :=
 λG F σ H ρ Q S w=>sem (zfm_ ho zn_) (ha G F σ H ρ _ S (w.bind.imp λdx F1 H1 s1 S1 w1 x hx=>by
  obtain⟨res,e,k⟩:=w1.opt
  exact hf G F1 σ H1 ρ x dx res Q S1 (hx.or S1) e λv F2 H2 s2 S2 r2=>k F2 H2 s2 S2 v r2))
theorem ap_z(h:AL X e qs):AP X e (pZ qs):=λG F σ H ρ Q S w=>h G F σ H ρ Q S (w.bind.imp λds F' H' s1 S1 w1 v fr=>by
 obtain⟨F2,s2,S2,r2⟩:=S1.settle (v:=v) (ds:=ds) fr
 exact w1 F2 H' s2 S2 v r2)
theorem zi_:AA (α:=α) X [] pNil:=λG F σ H ρ Q k C S w kk=>semA UD_ (kk [] [] F H (Same.refl _) S rfl .nil w)
theorem zb_(h:AP X e p)(hr:AA X es pα)(hs:starEach (e::es) X.env=(false,eval e X.env)::starEach es X.env):AA X (e::es) (zdN_ p pα) :=
 λG F σ H ρ Q k C S w kk=>semA (yg_ zn_ ji_ hs) (h G F σ H ρ _ S (w.bind.imp λd F1 H1 s1 S1 w1 v r1 =>
  hr G F1 σ H1 ρ _ _ C S1 w1 λds vs F2 H2 s2 S2 hl r2 w2=>kk (d::ds) (v::vs) F2 H2 (s1.trans s2) S2 (by simp[hl]) (.cons (r1.mono s2) r2) w2))
theorem zt_:AAo (α:=α) X [] pNil:=λG F σ H ρ Q k C S w kk=>semA UD_ (kk [] [] F H (Same.refl _) S .nil w)
theorem zm_(h:AO X e p)(hr:AAo X es pα)(hs:starEach (e::es) X.env=(false,eval e X.env)::starEach es X.env):AAo X (e::es) (zdN_ p pα) :=
 λG F σ H ρ Q k C S w kk=>semA (yg_ zn_ ji_ hs) (h G F σ H ρ _ S (w.bind.imp λd F1 H1 s1 S1 w1 v r1 =>
  hr G F1 σ H1 ρ _ _ C S1 w1 λds vs F2 H2 s2 S2 r2 w2=>kk (d::ds) (v::vs) F2 H2 (s1.trans s2) S2 (.cons (r1.mono s2) r2) w2))
theorem W.fit{α:Type}{G:Gh}{F:Hp}{σ:L2.St}{ρ:En}{ds:List α}{C:List α->Hp->Hp->Prop}(h:W X G F σ ρ (fitM ds) C):ds.length<=sizeLine/\∀F' H',Same F F'->StOk X.K G F' σ H' ρ->C ds F' H':=by
 unfold fitM at h
 split at h
 ·exact⟨by assumption,h⟩
 ·exact h.elim
theorem zJ_{x1}(h:AA X es ps)(hz:es.length<=1000):AP X (.Tuple es x1 pos) (pTup ps) :=
 λG F σ H ρ Q S w=>sem (zaL_ ji_) (h G F σ H ρ _ _ _ S w λds vs F1 H1 s1 S1 hl r1 w1=>by
  refine⟨by rw[hl];exact Jm_ hz,λq hq=>?_⟩
  obtain⟨s2,S2,r2⟩:=S1.newTup hq r1
  exact w1 _ _ s2 S2 _ r2)
theorem j2_(h:AA X es pl)(hz:es.length<=1000):AL X (.List es pos) (pLst pl) :=
 λG F σ H ρ Q S w=>sem (zaM_ ji_) (h G F σ H ρ _ _ _ S w λds vs F1 H1 s1 S1 hl r1 w1=>by
  refine⟨by rw[hl];exact Jm_ hz,λq hq=>?_⟩
  obtain⟨S2,r2⟩:=S1.newLst hq r1
  exact w1 _ _ (Same.refl _) S2 _ r2)
theorem ZN_{r:List V->Hp->VK->Prop}{Q:VK}{G:Gh}{F H:Hp}{σ:L2.St}{ρ:En}{f:List D->M α}{C:α->Hp->Hp->Prop}(ha:AAo X es pα)(S:StOk X.K G F σ H ρ)(w:W X G F σ ρ (pα f ρ) C)
  (k:∀xs ds F' H',Same F F'->StOk X.K G F' σ H' ρ->ORs X.K F' H' xs ds->W X G F' σ ρ (f ds) C->r xs H' Q):tCB r (Zi_ X es) σ H Q :=
 ha G F σ H ρ _ _ C S w λds xs F1 H1 s1 S1 hx w1=>k xs ds F1 H1 s1 S1 (hx.ors S1) w1
theorem zK_{x:Str}{p:Pos}{id:String}{r:List V->Hp->VK->Prop}{f:List D->Option D}(hc:CallR X (.builtin id) r)(hf:Uj_ X.K r f)(hg:Gl X x)(hm:X.mg x=none)(hv:bootBuiltins x=some (.builtin id))(ha:AAo X (e::es) ps)
  (hn:x ≠ "__name__") (hdb:(x==("__debug__" : Str))=false) (he:starEach (e::es) X.env=(false,eval e X.env)::starEach es X.env) (hpl:(backTo pos (starEach es X.env)).any (·.1)=false):AP X (.Call (.Name x p) (e::es) [] pos) (zdQ_ f ps) :=
 λG F σ H ρ Q S w=>sem (uS_ hc hg hm hv ji_ hn hdb he hpl) (ZN_ ha S w λxs ds F' H' s' S' hx w'=>by
  obtain⟨res,e,k⟩:=w'.opt
  exact hf G F' σ H' ρ xs ds res Q S' hx e λv F2 H2 s2 S2 r2=>k F2 H2 s2 S2 v r2)
theorem QY_{x:Str}{p:Pos}{id:String}{r:List V->Hp->VK->Prop}{f:List D->Option (List D)}(hc:CallR X (.builtin id) r)(hf:Qc_ X.K r f)(hg:Gl X x)(hm:X.mg x=none)(hv:bootBuiltins x=some (.builtin id))(ha:AAo X (e::es) pl)
  (hn:x ≠ "__name__") (hdb:(x==("__debug__" : Str))=false) (he:starEach (e::es) X.env=(false,eval e X.env)::starEach es X.env) (hpl:(backTo pos (starEach es X.env)).any (·.1)=false):AL X (.Call (.Name x p) (e::es) [] pos) (UE_ f pl) :=
 λG F σ H ρ Q S w=>sem (uS_ hc hg hm hv ji_ hn hdb he hpl) (ZN_ ha S w λxs ds F' H' s' S' hx w'=>by
  obtain⟨res,e,k⟩:=w'.opt
  exact hf G F' σ H' ρ xs ds res Q S' hx e λv F2 H2 s2 S2 r2=>k F2 H2 s2 S2 v r2)
theorem Q3_{x:Str}{p:Pos}{id:String}{r:List V->Hp->VK->Prop}{f:List D->Option Bool}(hc:CallR X (.builtin id) r)(hf:Xz_ X.K r f)(hg:Gl X x)(hm:X.mg x=none)(hv:bootBuiltins x=some (.builtin id))(ha:AAo X (e::es) pb')
  (hn:x ≠ "__name__") (hdb:(x==("__debug__" : Str))=false) (he:starEach (e::es) X.env=(false,eval e X.env)::starEach es X.env) (hpl:(backTo pos (starEach es X.env)).any (·.1)=false):AB X (.Call (.Name x p) (e::es) [] pos) (zdP_ f pb') :=
 λG F σ H ρ Q S w=>sem (uS_ hc hg hm hv ji_ hn hdb he hpl) (ZN_ ha S w λxs ds F' H' s' S' hx w'=>by
  obtain⟨res,e,k⟩:=w'.opt
  exact hf G F' σ H' ρ xs ds res Q S' hx e (k F' H' (Same.refl _) S'))
theorem ZQ_{x:Str}{p:Pos}{T:String}{r:List V->Hp->VK->Prop}{f:List D->Option D}(hc:CallR X (.type T) r)(hf:Uj_ X.K r f)(hg:Gl X x)(hm:X.mg x=none)(hv:bootBuiltins x=some (.type T))(ha:AAo X (e::es) ps)
  (hn:x ≠ "__name__") (hdb:(x==("__debug__" : Str))=false) (he:starEach (e::es) X.env=(false,eval e X.env)::starEach es X.env) (hpl:(backTo pos (starEach es X.env)).any (·.1)=false):AP X (.Call (.Name x p) (e::es) [] pos) (zdQ_ f ps) :=
 λG F σ H ρ Q S w=>sem (yw_ hc hg hm hv ji_ hn hdb he hpl) (ZN_ ha S w λxs ds F' H' s' S' hx w'=>by
  obtain⟨res,e,k⟩:=w'.opt
  exact hf G F' σ H' ρ xs ds res Q S' hx e λv F2 H2 s2 S2 r2=>k F2 H2 s2 S2 v r2)
theorem Yw_{x:Str}{p:Pos}{T:String}{r:List V->Hp->VK->Prop}{f:List D->Option (List D)}(hc:CallR X (.type T) r)(hf:Qc_ X.K r f)(hg:Gl X x)(hm:X.mg x=none)(hv:bootBuiltins x=some (.type T))(ha:AAo X (e::es) pl)
  (hn:x ≠ "__name__") (hdb:(x==("__debug__" : Str))=false) (he:starEach (e::es) X.env=(false,eval e X.env)::starEach es X.env) (hpl:(backTo pos (starEach es X.env)).any (·.1)=false):AL X (.Call (.Name x p) (e::es) [] pos) (UE_ f pl) :=
 λG F σ H ρ Q S w=>sem (yw_ hc hg hm hv ji_ hn hdb he hpl) (ZN_ ha S w λxs ds F' H' s' S' hx w'=>by
  obtain⟨res,e,k⟩:=w'.opt
  exact hf G F' σ H' ρ xs ds res Q S' hx e λv F2 H2 s2 S2 r2=>k F2 H2 s2 S2 v r2)
theorem y1_{K:Fg}{F:Hp}{vs:List V}{ds:List D}(h:RepL K F vs ds):(!vs.isEmpty) = !ds.isEmpty:=by cases h<;>rfl
theorem y4_(ha:AO X a pa)(he:∀whole,isTrue a X.env whole=(do let v <-whole;standAt a.pos;holding [v] (truthy v))):AT X a (pTru pa) :=
 λG F σ H ρ Q S w=>semT (Qn_ zn_ he) (ha G F σ H ρ _ S (w.bind.imp λx F1 H1 s1 S1 w1 v hv=>by
  obtain⟨bb,hb,k⟩:=w1.opt
  refine⟨bb,?_,k F1 H1 (Same.refl _) S1⟩
  have o:=hv.or S1
  cases x with
  | none=>rw[o.none];cases hb;exact rfl
  | bool i=>rw[o.bool];cases hb;exact rfl
  | int i=>rw[o.int];cases hb;exact rfl
  | str i =>
   rw[o.str]
   unfold truD at hb
   dsimp only at hb
   split at hb
   ·rename_i hl;cases hb;exact⟨hl,rfl⟩
   ·cases hb
  | list ds=>obtain⟨a,vs,rfl,h1,h2⟩:=o.list S1.fh;cases hb;exact .inl ⟨vs,h1,(y1_ h2).symm⟩
  | tuple ds=>obtain⟨a,vs,rfl,h1,h2⟩:=o.tuple S1.fh;cases hb;exact .inr (.inl ⟨vs,h1,(y1_ h2).symm⟩)
  | dict ds=>cases hb))
theorem at_b(ha:AB X a ta)(he:∀whole,isTrue a X.env whole=(do let v <-whole;standAt a.pos;holding [v] (truthy v))):AT X a ta :=
 λG F σ H ρ Q S w=>semT (Qn_ zn_ he) (ha G F σ H ρ _ S (w.imp λx F1 H1 s1 S1 w1=>⟨x,rfl,w1⟩))
theorem Xe_(ha:AT X a ta):AW X (.BoolOp .And [a] pos) ta:=λG F σ H ρ Q S w=>semW (V6_ u4_) (ha G F σ H ρ Q S w)
theorem y3_(ha:AT X a ta):AW X (.BoolOp .Or [a] pos) ta:=λG F σ H ρ Q S w=>semW (zdv_ u4_) (ha G F σ H ρ Q S w)
theorem QW_(ha:AT X a ta)(hb:AW X (.BoolOp .And (b::rest) pos) tb):AW X (.BoolOp .And (a::b::rest) pos) (pAnd ta tb) :=
 λG F σ H ρ Q S w=>semW (zaE_ u4_ Uz_) (ha G F σ H ρ _ S (w.bind.imp λt F1 H1 s1 S1 w1=>by
  cases t with
  | true=>refine iteT ?_;exact hb G F1 σ H1 ρ Q S1 w1
  | false=>refine iteF ?_;exact w1 F1 H1 (Same.refl _) S1))
theorem Z8_(ha:AT X a ta)(hb:AW X (.BoolOp .Or (b::rest) pos) tb):AW X (.BoolOp .Or (a::b::rest) pos) (pOr ta tb) :=
 λG F σ H ρ Q S w=>semW (zfk_ u4_ Uz_) (ha G F σ H ρ _ S (w.bind.imp λt F1 H1 s1 S1 w1=>by
  cases t with
  | true=>refine iteT ?_;exact w1 F1 H1 (Same.refl _) S1
  | false=>refine iteF ?_;exact hb G F1 σ H1 ρ Q S1 w1))
theorem Z9_(h:AW X e ta):AT X e ta:=λG F σ H ρ Q S w=>semT (λpins s σ H Q I h=>Uz_ _ pins s σ H Q I h) (h G F σ H ρ Q S w)
theorem up_(ha:AT X a ta):AT X (.UnaryOp .Not a pos) (pNot ta) :=
 λG F σ H ρ Q S w=>semT (zdw_ u4_) (ha G F σ H ρ _ S (w.bind.imp λt F1 H1 s1 S1 w1=>w1 F1 H1 (Same.refl _) S1))
theorem Xx_(h:AP X a pa):AB X a (pAsB pa):=λG F σ H ρ Q S w=>h G F σ H ρ Q S (w.bind.imp λd F1 H1 s1 S1 w1 v r=>by
 cases r with
 | bl b=>exact w1 F1 H1 (Same.refl _) S1
 | non=>exact w1.elim
 | int i=>exact w1.elim
 | str i=>exact w1.elim
 | tup _ _=>exact w1.elim
 | lst _ _=>exact w1.elim
 | dct _ _ _=>exact w1.elim
 | dck _ _ _=>exact w1.elim
 | exc _ _ _ _ _=>exact w1.elim
 | fn _=>exact w1.elim)
theorem ZT_{op}(h:AB X a ta):AB X (.BoolOp op [a] pos) ta:=λG F σ H ρ Q S w=>sem (zdE_ zn_) (h G F σ H ρ Q S w)
theorem yb_(ha:AB X a ta)(hb:AB X (.BoolOp .And (b::rest) pos) tb):AB X (.BoolOp .And (a::b::rest) pos) (pAnd ta tb) :=
 λG F σ H ρ Q S w=>sem (zdJ_ zn_ zn_) (ha G F σ H ρ _ S (w.bind.imp λt F1 H1 s1 S1 w1=>⟨t,rfl,by
  cases t with
  | true=>refine iteT ?_;exact hb G F1 σ H1 ρ Q S1 w1
  | false=>refine iteF ?_;exact w1 F1 H1 (Same.refl _) S1⟩))
theorem zbo_(ha:AB X a ta):AB X (.UnaryOp .Not a pos) (pNot ta) :=
 λG F σ H ρ Q S w=>sem (zdF_ zn_) (ha G F σ H ρ _ S (w.bind.imp λt F1 H1 s1 S1 w1=>⟨t,rfl,w1 F1 H1 (Same.refl _) S1⟩))
theorem zeM_(hc:AT X c tc)(ha:AP X a pa)(hb:AP X b pb):AP X (.IfExp c a b pos) (pIf tc pa pb) :=
 λG F σ H ρ Q S w=>sem (Qq_ u4_ zn_ zn_) (hc G F σ H ρ _ S (w.bind.imp λt F1 H1 s1 S1 w1=>by
  cases t with
  | true=>refine iteT ?_;exact ha G F1 σ H1 ρ Q S1 w1
  | false=>refine iteF ?_;exact hb G F1 σ H1 ρ Q S1 w1))
end
noncomputable def X2_(i j:Int):Bool:=(decide (-(2^64)<i)&&decide (i<2^64))||(decide (-(2^64)<j)&&decide (j<2^64))
noncomputable def zL_:D->D->Option D
 | .int i,.int j=>some (.int (i+j))
 | .str a,.str b=>if a.length+b.length<=sizeLine then some (.str (a++b))else none
 | .tuple a,.tuple b=>if a.length+b.length<=sizeLine then some (.tuple (a++b))else none
 | .list a,.list b=>if a.length+b.length<=sizeLine then some (.list (a++b))else none
 | _,_=>none
noncomputable def uZ_:D->D->Option D
 | .int i,.int j=>some (.int (i - j))
 | _,_=>none
def u5_:D->D->Option D
 | .int i,.int j=>if X2_ i j then some (.int (i*j))else none
 | _,_=>none
noncomputable def Wn_:D->D->Option D
 | .int i,.int j=>if decide (0<j)&&decide (j<1073741824)then some (.int (i / j))else none
 | _,_=>none
noncomputable def Zr_:D->D->Option D
 | .int i,.int j=>if 0<j then some (.int (i % j))else none
 | _,_=>none
noncomputable def Wl_:D->D->Option D
 | .int i,.int j=>if decide (0<=j)&&decide (j<=1000000)&&decide (i.natAbs<2^64)then some (.int (i^j.toNat))else none
 | _,_=>none
noncomputable def JT_:D->Option D
 | .int i=>some (.int (-i))
 | _=>none
noncomputable def opLt:D->D->Option Bool
 | .int i,.int j=>some (decide (i<j))
 | _,_=>none
noncomputable def opLe:D->D->Option Bool
 | .int i,.int j=>some (decide (i<=j))
 | _,_=>none
noncomputable def opGt:D->D->Option Bool
 | .int i,.int j=>some (decide (j<i))
 | _,_=>none
noncomputable def opGe:D->D->Option Bool
 | .int i,.int j=>some (decide (j<=i))
 | _,_=>none
def zdt_(K:Fg):R2:=λx y H Q=>∃a b xs ys,x=.ref a/\y=.ref b/\SqT K H a xs/\SqT K H b ys/\xs.length+ys.length<=sizeLine /\
 (xs=[]->Q (.ref b) H)/\(xs≠[]->ys=[]->Q (.ref a) H)/\(xs≠[]->ys≠[]->∀p,H p=none->Q (.ref p) (upd H p (.tup (xs++ys))))
theorem op_cat0{X:Cx}:OpR X (binaryOp .Add) (zdt_ X.K):=by
 intro pins s σ H x y v u Q I rx ry h
 obtain⟨a,b,xs,ys,rfl,rfl,ha,hb,hz,q0,q1,q2⟩:=h
 by_cases hx:xs=[]
 ·cases rx
  cases ry
  obtain⟨its,r1,p1,_⟩:=I.tuple ha
  obtain⟨its2,r2,p2,_⟩:=I.tuple hb
  have hv:its=[]:=r1.nil_iff.mpr hx
  obtain⟨⟨cls,dd,data,sl⟩,ho,hc,n,hd⟩:=id p1
  obtain⟨⟨cls2,dd2,data2,sl2⟩,ho2,hc2,n2,hd2⟩:=id p2
  simp only at hc hd hc2 hd2
  subst hc hd hc2 hd2
  exact concat_meets ⟨_,ho,rfl⟩ ⟨_,ho2,rfl⟩ noFill_tuple_add seq_tuple_add PySem.F.slot_tuple_add PySem.F.entry_tuple_add (PySem.F.args_tuple_add_2 _ _)
   (tuple_addW0 a b its.toArray its2.toArray n n2 dd dd2 sl sl2 (by simp[hv])) ⟨ho,ho2,⟨.ref b,H,I,rfl,q0 hx⟩⟩
 ·exact zbS_ pins s σ H _ _ v u Q I rx ry ⟨a,b,xs,ys,rfl,rfl,ha,hb,hx,hz,q1 hx,q2 hx⟩
section
variable {K:Fg}{X:Cx}
theorem noS{α:Type}{a:α}{P:Prop}(e:(none:Option α)=some a):P:=nomatch e
theorem okI{C:Int->Int->Prop}{g:Int->Int->V}{f:D->D->Option D}(h:∀dx dy res,f dx dy=some res->∃i j,dx=.int i/\dy=.int j/\C i j/\∀K F,Rep K F (g i j) res):OpD K (rI C g) f:=by
 intro G F σ H ρ x y dx dy res Q S ox oy e k
 obtain⟨i,j,rfl,rfl,hc,hr⟩:=h dx dy res e
 exact⟨i,j,ox.int,oy.int,hc,k _ F H (Same.refl _) S (hr K F)⟩
theorem okB{g:Int->Int->Bool}{f:D->D->Option Bool}(h:∀dx dy res,f dx dy=some res->∃i j,dx=.int i/\dy=.int j/\res=g i j):OpB K (rI0 λi j=>.bl (g i j)) f:=by
 intro G F σ H ρ x y dx dy res Q S ox oy e k
 obtain⟨i,j,rfl,rfl,rfl⟩:=h dx dy res e
 exact⟨i,j,ox.int,oy.int,k⟩
theorem uH_:OpD K (rI0 λi j=>.int (i - j)) uZ_:=by
 intro G F σ H ρ x y dx dy res Q S ox oy e k
 cases dx<;>first|exact noS e|(cases dy<;>first|exact noS e|cases e)
 exact⟨_,_,ox.int,oy.int,k _ F H (Same.refl _) S (.int _)⟩
theorem zft_:OpB K (rI0 λi j=>.bl (decide (i<j))) opLt:=okB λdx dy res e=>by
 cases dx<;>first|exact noS e|(cases dy<;>first|exact noS e|cases e)
 exact⟨_,_,rfl,rfl,rfl⟩
theorem zfu_:OpB K (rI0 λi j=>.bl (decide (i<=j))) opLe:=okB λdx dy res e=>by
 cases dx<;>first|exact noS e|(cases dy<;>first|exact noS e|cases e)
 exact⟨_,_,rfl,rfl,rfl⟩
theorem XY_:OpB K (rI0 λi j=>.bl (decide (j<i))) opGt:=okB λdx dy res e=>by
 cases dx<;>first|exact noS e|(cases dy<;>first|exact noS e|cases e)
 exact⟨_,_,rfl,rfl,rfl⟩
theorem zfw_:OpB K (rI0 λi j=>.bl (decide (j<=i))) opGe:=okB λdx dy res e=>by
 cases dx<;>first|exact noS e|(cases dy<;>first|exact noS e|cases e)
 exact⟨_,_,rfl,rfl,rfl⟩
theorem zaQ_:OpD K (rI CDiv λi j=>.int (i / j)) Wn_:=okI λdx dy res e=>by
 cases dx<;>first|exact noS e|(cases dy<;>try (exact noS e))
 rename_i i j
 dsimp only[Wn_]at e
 split at e
 ·rename_i hc
  cases e
  simp only[Bool.and_eq_true,zzi]at hc
  exact⟨i,j,rfl,rfl,hc,λ_ _=>.int _⟩
 ·cases e
theorem Zt_:OpD K (rI (λ_ j=>0<j) λi j=>.int (i % j)) Zr_:=okI λdx dy res e=>by
 cases dx<;>first|exact noS e|(cases dy<;>try (exact noS e))
 rename_i i j
 dsimp only[Zr_]at e
 split at e
 ·rename_i hc
  cases e
  exact⟨i,j,rfl,rfl,hc,λ_ _=>.int _⟩
 ·cases e
theorem zdY_:OpD K (rI CPow λi j=>.int (i^j.toNat)) Wl_:=okI λdx dy res e=>by
 cases dx<;>first|exact noS e|(cases dy<;>try (exact noS e))
 rename_i i j
 dsimp only[Wl_]at e
 split at e
 ·rename_i hc
  cases e
  simp only[Bool.and_eq_true,zzi]at hc
  exact⟨i,j,rfl,rfl,⟨hc.1.1,hc.1.2,hc.2⟩,λ_ _=>.int _⟩
 ·cases e
theorem UK_:UnD K (rU λi=>.int (-i)) JT_:=by
 intro G F σ H ρ x dx res Q S ox e k
 cases dx<;>cases e
 exact⟨_,ox.int,k _ F H (Same.refl _) S (.int _)⟩
theorem yZ_{F:Hp}{vs:List V}{ds:List D}(r:RepL K F vs ds):vs=[]↔ds=[]:=by cases r<;>simp
def zds_(K:Fg):R2:=λx y H Q=>∃l b xs zs,x=.ref l/\y=.ref b/\SqL K H l xs/\SqL K H b zs/\xs.length+zs.length<=sizeLine/\∀p,H p=none->Q (.ref p) (upd H p (.lst (xs++zs)))
theorem zbT_:OpR X (binaryOp .Add) (zds_ X.K):=by
 intro pins s σ H x y v u Q I rx ry h
 obtain⟨l,b,xs,zs,rfl,rfl,hH,hB,hz,q⟩:=h
 cases rx
 cases ry
 obtain⟨its,r,pl,_⟩:=I.list hH
 obtain⟨its2,r2,pl2,_⟩:=I.list hB
 obtain⟨⟨cls,dd,data,sl⟩,ho,hc,n,hd⟩:=id pl.isList
 obtain⟨⟨cls2,dd2,data2,sl2⟩,ho2,hc2,n2,hd2⟩:=id pl2.isList
 simp only at hc hd hc2 hd2
 subst hc hd hc2 hd2
 have e:its.toArray++its2.toArray=(its++its2).toArray:=by simp
 refine concat_meets ⟨_,ho,rfl⟩ ⟨_,ho2,rfl⟩ noFill_list_add seq_list_add PySem.F.slot_list_add PySem.F.entry_list_add (PySem.F.args_list_add_2 _ _) (list_addW l b its.toArray its2.toArray n n2 dd dd2 sl sl2 (by rw[List.size_toArray,List.size_toArray,<-r.length,<-r2.length];exact hz)) ⟨ho,ho2,?_⟩
 rw[e]
 exact⟨.ref _,_,I.laid (t':=s.toks) (o:=.lst (xs++zs)) (λb ob q=>zzc _ q) (Nat.le_refl _) ⟨by rw[zzf];exact hz,_,0,r.append r2,zze _ rfl⟩,rfl,q _ (I.hok.fresh (Nat.le_refl _))⟩
noncomputable def zff_:R2:=λx y H Q=>∃i j,x=.str i/\y=.str j/\i.length+j.length<=sizeLine/\Q (.str (i++j)) H
def zdu_(K:Fg):R2:=λx y H Q=>rI0 (λi j=>.int (i+j)) x y H Q\/(zff_ x y H Q\/(zdt_ K x y H Q\/zds_ K x y H Q))
theorem zu_:OpR X (binaryOp .Add) (zdu_ X.K):=op_add.or (OpR.or Vi_ (op_cat0.or zbT_))
theorem zS_:OpD K (zdu_ K) zL_:=by
 intro G F σ H ρ x y dx dy res Q S ox oy e k
 cases dx<;>first|exact noS e|(cases dy<;>try (exact noS e))
 ·cases e;exact .inl ⟨_,_,ox.int,oy.int,k _ F H (Same.refl _) S (.int _)⟩
 ·dsimp only[zL_]at e
  split at e
  ·rename_i hz
   cases e
   exact .inr (.inl ⟨_,_,ox.str,oy.str,hz,k _ F H (Same.refl _) S (.str _)⟩)
  ·cases e
 ·dsimp only[zL_]at e
  split at e
  ·rename_i hz
   cases e
   obtain⟨a,vs,rfl,h1,h2⟩:=ox.list S.fh
   obtain⟨b,us,rfl,g1,g2⟩:=oy.list S.fh
   refine .inr (.inr (.inr ⟨a,b,vs,us,rfl,rfl,h1,g1,by rw[h2.length,g2.length];exact hz,λp hp=>?_⟩))
   obtain⟨S2,r2⟩:=S.newLst hp (h2.append g2)
   obtain⟨F2,s3,S3,r3⟩:=S2.settle r2
   exact k _ F2 _ s3 S3 r3
  ·cases e
 ·dsimp only[zL_]at e
  split at e
  ·rename_i hz
   cases e
   obtain⟨a,vs,rfl,h1,h2⟩:=ox.tuple S.fh
   obtain⟨b,us,rfl,g1,g2⟩:=oy.tuple S.fh
   refine .inr (.inr (.inl ⟨a,b,vs,us,rfl,rfl,h1,g1,by rw[h2.length,g2.length];exact hz,λz=>?_,λ_ z=>?_,λ_ _ p hp=>?_⟩))
   ·have z':=(yZ_ h2).mp z
    subst z'
    exact k _ F H (Same.refl _) S oy.tup'
   ·have z':=(yZ_ g2).mp z
    subst z'
    exact k _ F H (Same.refl _) S (by rw[List.append_nil];exact ox.tup')
   ·obtain⟨s2,S2,r2⟩:=S.newTup hp (h2.append g2)
    exact k _ _ _ s2 S2 r2
  ·cases e
theorem UL_:OpD K (rI CMul λi j=>.int (i*j)) u5_:=okI λdx dy res e=>by
 cases dx<;>first|exact noS e|(cases dy<;>try (exact noS e))
 rename_i i j
 dsimp only[u5_]at e
 split at e
 ·rename_i hc
  cases e
  unfold X2_ at hc
  simp only[Bool.or_eq_true,Bool.and_eq_true,zzi]at hc
  exact⟨i,j,rfl,rfl,hc,λ_ _=>.int _⟩
 ·cases e
end
noncomputable def eqOk(d e:D):Bool:=d.canLay0&&e.canLay0&&decide (d.depth<=1000)
def opEq(d e:D):Option Bool:=if eqOk d e then some (PyData.eqv d e)else none
def opNe(d e:D):Option Bool:=if eqOk d e then some (!PyData.eqv d e)else none
noncomputable def inOk(d:D)(xs:List D):Bool:=PyData.canLayAll0 xs&&d.canLay0&&decide (d.depth<=1000)
noncomputable def zew_(i j:Str):Bool:=!(Builtin.Str.occurrences j i 0 j.length 1).isEmpty
def opIn(d c:D):Option Bool:=match c with
 | .list xs=>if inOk d xs then some (xs.any λy=>PyData.eqv y d)else none
 | .tuple xs=>if inOk d xs then some (xs.any λy=>PyData.eqv y d)else none
 | .str j=>match d with
  | .str i=>some (zew_ i j)
  | _=>none
 | _=>none
def yh_(d c:D):Option Bool:=match c with
 | .list xs=>if inOk d xs then some (!xs.any λy=>PyData.eqv y d)else none
 | .tuple xs=>if inOk d xs then some (!xs.any λy=>PyData.eqv y d)else none
 | .str j=>match d with
  | .str i=>some (!zew_ i j)
  | _=>none
 | _=>none
noncomputable def isNone:D->Bool
 | .none=>true
 | _=>false
noncomputable def zaO_(d e:D):Option Bool:=match e with
 | .none=>some (!isNone d)
 | _=>none
noncomputable def rD2(K:Fg)(f:D->D->Option Bool):R2:=λx y H Q=>∃d e b,Rep K H x d/\Rep K H y e/\f d e=some b/\Q (.bl b) H
theorem jN_{K:Fg}{f:D->D->Option Bool}:OpB K (rD2 K f) f:=by
 intro G F σ H ρ x y dx dy res Q S ox oy e k
 exact⟨dx,dy,res,ox.rep S.fh,oy.rep S.fh,e,k⟩
theorem Rep.non_iff{K:Fg}{F:Hp}{v:V}{d:D}(r:Rep K F v d):(decide (v=.non))=isNone d:=by
 cases r<;>rfl
section
variable {X:Cx}
theorem jD_(hu:X.A.units+1100<cLine):OpR X (compareOp .Eq) (rD2 X.K opEq):=by
 intro pins s σ H x y v u Q I rx ry ⟨d,e,b,r1,r2,ho,q⟩
 unfold opEq at ho
 split at ho
 case isFalse=>cases ho
 rename_i hc
 cases ho
 simp only[eqOk,Bool.and_eq_true,zzi]at hc
 obtain⟨as,ra⟩:=(z0_ I).1 r1 hc.1.1 rx
 obtain⟨bs,rb⟩:=(z0_ I).1 r2 hc.1.2 ry
 exact SeqAt.compareEq_reads ra rb hc.1.1 hc.1.2 (by have:=Nat.min_le_left d.depth e.depth;lia) ⟨.bl _,H,I,rfl,q⟩
theorem Qs_(hu:X.A.units+1100<cLine):OpR X (compareOp .NotEq) (rD2 X.K opNe):=by
 intro pins s σ H x y v u Q I rx ry ⟨d,e,b,r1,r2,ho,q⟩
 unfold opNe at ho
 split at ho
 case isFalse=>cases ho
 rename_i hc
 cases ho
 simp only[eqOk,Bool.and_eq_true,zzi]at hc
 obtain⟨as,ra⟩:=(z0_ I).1 r1 hc.1.1 rx
 obtain⟨bs,rb⟩:=(z0_ I).1 r2 hc.1.2 ry
 exact SeqAt.compareNe_reads ra rb hc.1.1 hc.1.2 (by have:=Nat.min_le_left d.depth e.depth;lia) ⟨.bl _,H,I,rfl,q⟩
theorem zdS_(hu:X.A.units+1100<cLine):OpR X (compareOp .In) (rD2 X.K opIn):=by
 intro pins s σ H x y v u Q I rx ry ⟨d,e,b,r1,r2,ho,q⟩
 unfold opIn at ho
 split at ho
 ·rename_i xs
  split at ho
  case isFalse=>cases ho
  rename_i hc
  cases ho
  simp only[inOk,Bool.and_eq_true,zzi]at hc
  obtain⟨as,ra⟩:=(z0_ I).1 r1 hc.1.2 rx
  obtain⟨bs,rb⟩:=(z0_ I).1 r2 (by simpa[PyData.canLay0]using hc.1.1) ry
  exact SeqAt.in_list_reads rb ra hc.1.1 hc.1.2 (by have:=Nat.min_le_right (PyData.depthAll xs) d.depth;lia) ⟨.bl _,H,I,rfl,q⟩
 ·rename_i xs
  split at ho
  case isFalse=>cases ho
  rename_i hc
  cases ho
  simp only[inOk,Bool.and_eq_true,zzi]at hc
  obtain⟨as,ra⟩:=(z0_ I).1 r1 hc.1.2 rx
  obtain⟨bs,rb⟩:=(z0_ I).1 r2 (by simpa[PyData.canLay0]using hc.1.1) ry
  exact SeqAt.in_tuple_reads rb ra hc.1.1 hc.1.2 (by have:=Nat.min_le_right (PyData.depthAll xs) d.depth;lia) ⟨.bl _,H,I,rfl,q⟩
 ·split at ho
  ·cases ho
   obtain rfl:=r1.str_inv;obtain rfl:=r2.str_inv
   exact Wj_ pins s σ H _ _ v u Q I rx ry ⟨_,_,rfl,rfl,q⟩
  ·cases ho
 ·cases ho
theorem Wi_(hu:X.A.units+1100<cLine):OpR X (compareOp .NotIn) (rD2 X.K yh_):=by
 intro pins s σ H x y v u Q I rx ry ⟨d,e,b,r1,r2,ho,q⟩
 unfold yh_ at ho
 split at ho
 ·rename_i xs
  split at ho
  case isFalse=>cases ho
  rename_i hc
  cases ho
  simp only[inOk,Bool.and_eq_true,zzi]at hc
  obtain⟨as,ra⟩:=(z0_ I).1 r1 hc.1.2 rx
  obtain⟨bs,rb⟩:=(z0_ I).1 r2 (by simpa[PyData.canLay0]using hc.1.1) ry
  exact SeqAt.notIn_list_reads rb ra hc.1.1 hc.1.2 (by have:=Nat.min_le_right (PyData.depthAll xs) d.depth;lia) ⟨.bl _,H,I,rfl,q⟩
 ·rename_i xs
  split at ho
  case isFalse=>cases ho
  rename_i hc
  cases ho
  simp only[inOk,Bool.and_eq_true,zzi]at hc
  obtain⟨as,ra⟩:=(z0_ I).1 r1 hc.1.2 rx
  obtain⟨bs,rb⟩:=(z0_ I).1 r2 (by simpa[PyData.canLay0]using hc.1.1) ry
  exact SeqAt.notIn_tuple_reads rb ra hc.1.1 hc.1.2 (by have:=Nat.min_le_right (PyData.depthAll xs) d.depth;lia) ⟨.bl _,H,I,rfl,q⟩
 ·split at ho
  ·cases ho
   obtain rfl:=r1.str_inv;obtain rfl:=r2.str_inv
   exact UF_ pins s σ H _ _ v u Q I rx ry ⟨_,_,rfl,rfl,q⟩
  ·cases ho
 ·cases ho
theorem XV_:OpR X (compareOp .IsNot) (rD2 X.K zaO_):=by
 intro pins s σ H x y v u Q I rx ry ⟨d,e,b,r1,r2,ho,q⟩
 unfold zaO_ at ho
 split at ho
 ·cases ho
  cases r2
  refine zbR_ pins s σ H x _ v u Q I rx ry ⟨rfl,?_⟩
  rw[Rep.non_iff r1]
  exact q
 ·cases ho
end
def opIx:D->D->Option D
 | .list ds,.int i=>atI ds i
 | .tuple ds,.int i=>atI ds i
 | .str z,.int i=>if z.length<=sizeLine then(atI z.cps.toList i).map λc=>.str ⟨#[c]⟩else none
 | _,_=>none
theorem Xh_{K:Fg}{F:Hp}{vs:List V}{ds:List D}{i:Int}{d:D}(r:RepL K F vs ds)(h:atI ds i=some d):∃v,atI vs i=some v/\Rep K F v d:=by
 unfold atI at h ⊢
 rw[r.length]
 cases q:ixN ds.length i with
 | none=>rw[q]at h;cases h
 | some j =>
  rw[q]at h
  exact r.get (i:=j) h
theorem zfv_{K:Fg}:OpD K (rIx K) opIx:=by
 intro G F σ H ρ x y dx dy res Q S ox oy e k
 cases dx<;>first|exact noS e|(cases dy<;>try (exact noS e))
 ·dsimp only[opIx]at e
  split at e
  ·rename_i hz
   obtain⟨c,hc,rfl⟩:=Option.map_eq_some_iff.mp e
   exact .inr (.inr ⟨_,_,c,ox.str,oy.int,hz,hc,k _ F H (Same.refl _) S (.str _)⟩)
  ·cases e
 ·obtain⟨a,vs,rfl,h1,h2⟩:=ox.list S.fh
  obtain⟨v,e1,e2⟩:=Xh_ h2 e
  exact .inl ⟨a,vs,_,v,rfl,oy.int,h1,e1,k v F H (Same.refl _) S e2⟩
 ·obtain⟨a,vs,rfl,h1,h2⟩:=ox.tuple S.fh
  obtain⟨v,e1,e2⟩:=Xh_ h2 e
  exact .inr (.inl ⟨a,vs,_,v,rfl,oy.int,h1,e1,k v F H (Same.refl _) S e2⟩)
theorem Vals.one{v:V}{us:List Value}(h:Vals [v] us):∃u,us=[u]/\RelV v u:=by
 cases h with|cons a b=>cases b;exact⟨_,rfl,a⟩
noncomputable def fLen:List D->Option D
 | [.list ds]=>some (.int ds.length)
 | [.tuple ds]=>some (.int ds.length)
 | [.str z]=>if z.length<=sizeLine then some (.int z.length)else none
 | _=>none
noncomputable def uI_:List D->Option D
 | [.list ds]=>some (.tuple ds)
 | [.tuple ds]=>some (.tuple ds)
 | _=>none
noncomputable def fAbs:List D->Option D
 | [.int i]=>some (.int (if i<0 then -i else i))
 | _=>none
noncomputable def WT_:List D->Option D
 | [.int i,.int j]=>some (.int (if j<i then j else i))
 | _=>none
def rLen(K:Fg):List V->Hp->VK->Prop:=λxs H Q=>(∃p ys,xs=[.ref p]/\(SqL K H p ys\/SqT K H p ys)/\Q (.int ys.length) H)\/∃z,xs=[.str z]/\z.length<=sizeLine/\Q (.int z.length) H
theorem zX_{X:Cx}:CallR X (.builtin "len") (rLen X.K):=CallR.or Ym_ Yl_
theorem ul_{K:Fg}:Uj_ K (rLen K) fLen:=by
 intro G F σ H ρ xs ds res Q S o e k
 unfold fLen at e
 split at e
 ·rename_i es
  cases e
  obtain⟨v,r,rfl,ho,hr⟩:=zN_ o
  obtain rfl:=jg_ hr
  obtain⟨a,vs,rfl,h1,h2⟩:=ho.list S.fh
  exact .inl ⟨a,vs,rfl,.inl h1,k _ F H (Same.refl _) S (by rw[h2.length];exact .int _)⟩
 ·rename_i es
  cases e
  obtain⟨v,r,rfl,ho,hr⟩:=zN_ o
  obtain rfl:=jg_ hr
  obtain⟨a,vs,rfl,h1,h2⟩:=ho.tuple S.fh
  exact .inl ⟨a,vs,rfl,.inr h1,k _ F H (Same.refl _) S (by rw[h2.length];exact .int _)⟩
 ·split at e
  ·rename_i hz
   cases e
   obtain⟨v,r,rfl,ho,hr⟩:=zN_ o
   obtain rfl:=jg_ hr
   exact .inr ⟨_,by rw[ho.str],hz,k _ F H (Same.refl _) S (.int _)⟩
  ·cases e
 ·cases e
theorem uu_{K:Fg}:Uj_ K (λxs H Q=>∃p ys,xs=[.ref p]/\((SqL K H p ys/\∀l,H l=none->Q (.ref l) (upd H l (.tup ys)))\/(SqT K H p ys/\Q (.ref p) H))) uI_:=by
 intro G F σ H ρ xs ds res Q S o e k
 unfold uI_ at e
 split at e
 ·rename_i es
  cases e
  obtain⟨v,r,rfl,ho,hr⟩:=zN_ o
  obtain rfl:=jg_ hr
  obtain⟨a,vs,rfl,h1,h2⟩:=ho.list S.fh
  refine⟨a,vs,rfl,.inl ⟨h1,λl hl=>?_⟩⟩
  obtain⟨s2,S2,r2⟩:=S.newTup hl h2
  exact k _ _ _ s2 S2 r2
 ·rename_i es
  cases e
  obtain⟨v,r,rfl,ho,hr⟩:=zN_ o
  obtain rfl:=jg_ hr
  have ho:=ho.tup'
  cases ho with
  | tup h1 h2=>exact⟨_,_,rfl,.inr ⟨SqT.of (S.fh _ _ h1),k _ F H (Same.refl _) S (show Rep K F _ _ from .tup h1 h2)⟩⟩
 ·cases e
theorem zaS_{K:Fg}:Uj_ K (λxs H Q=>∃i,xs=[.int i]/\Q (.int (if i<0 then -i else i)) H) fAbs:=by
 intro G F σ H ρ xs ds res Q S o e k
 unfold fAbs at e
 split at e
 ·cases e
  obtain⟨v,r,rfl,ho,hr⟩:=zN_ o
  obtain rfl:=jg_ hr
  exact⟨_,by rw[ho.int],k _ F H (Same.refl _) S (show Rep K F _ _ from .int _)⟩
 ·cases e
theorem zbV_{K:Fg}:Uj_ K (λxs H Q=>∃i j,xs=[.int i,.int j]/\Q (.int (if j<i then j else i)) H) WT_:=by
 intro G F σ H ρ xs ds res Q S o e k
 unfold WT_ at e
 split at e
 ·cases e
  obtain⟨v,r,rfl,ho,hr⟩:=zN_ o
  obtain⟨v2,r2,rfl,ho2,hr2⟩:=zN_ hr
  obtain rfl:=jg_ hr2
  exact⟨_,_,by rw[ho.int,ho2.int],k _ F H (Same.refl _) S (show Rep K F _ _ from .int _)⟩
 ·cases e
noncomputable def Uv_(d:D):Bool:=d.showable&&d.canLay0&&decide (d.depth<=1000)&&decide (d.shown.length<=sizeLine)
def WS_:List D->Option D
 | [d]=>if Uv_ d then some (.str d.shown)else none
 | _=>none
def zdr_(K:Fg):List V->Hp->VK->Prop:=λxs H Q=>∃v d,xs=[v]/\Rep K H v d/\Uv_ d=true/\Q (.str d.shown) H
theorem Wo_{K:Fg}:Uj_ K (zdr_ K) WS_:=by
 intro G F σ H ρ xs ds res Q S o e k
 unfold WS_ at e
 split at e
 ·rename_i d
  split at e
  ·rename_i hc
   cases e
   obtain⟨v,r,rfl,ho,hr⟩:=zN_ o
   obtain rfl:=jg_ hr
   exact⟨v,d,rfl,ho.rep S.fh,hc,k _ F H (Same.refl _) S (.str _)⟩
  ·cases e
 ·cases e
theorem Yj_{X:Cx}(hu:X.A.units+1100<cLine)(hg:X.A.guards=some []):CallR X (.builtin "repr") (zdr_ X.K):=by
 intro pins s σ H xs us Q I r h0
 obtain⟨v,d,rfl,rp,hc,q⟩:=h0
 obtain⟨u,rfl,ru⟩:=Vals.one r
 simp only[Uv_,Bool.and_eq_true,zzi]at hc
 obtain⟨as,ra⟩:=(z0_ I).1 rp hc.1.1.2 ru
 have big:∀a,v=.ref a->wpAny (model X.prog X.w) X.A (call (.builtin "repr") [u]) (EP X pins σ Q) X.xe s:=λa e=>by
  subst e
  cases ru
  exact repr_of_reads' ra hc.1.1.1 (PyData.noDict_hsm (PyData.hasDict_of_canLay d hc.1.1.2)) hg (by lia) (λ_ _ e=>e) (λh' u tk hk=>⟨.str _,H,I.kept hk,⟨_,rfl⟩,q⟩) hc.2
 cases rp with
 | non=>cases ru;exact PySem.P.repr_of_none ⟨.str _,H,I.tok _,⟨_,rfl⟩,q⟩
 | bl b=>cases ru;exact PySem.P.repr_of_bool ⟨.str _,H,I.tok _,⟨_,rfl⟩,q⟩
 | int i=>obtain⟨t,rfl⟩:=ru;exact PySem.P.repr_of_int (by simpa[PyData.showable]using hc.1.1.1) ⟨.str _,H,I.tok _,⟨_,rfl⟩,q⟩
 | str x=>obtain⟨t,rfl⟩:=ru;exact PySem.P.repr_of_str ⟨.str _,H,I.tok _,⟨_,rfl⟩,q⟩ hc.2
 | tup h1 h2=>exact big _ rfl
 | lst h1 h2=>exact big _ rfl
 | dct h1 h2 h3=>exact big _ rfl
 | dck h1 h2 h3=>exact big _ rfl
 | exc _ _ _ _ _=>exact big _ rfl
 | fn _=>exact big _ rfl
noncomputable def tyD:D->String
 | .none => "NoneType"
 | .bool _ => "bool"
 | .int _ => "int"
 | .str _ => "str"
 | .list _ => "list"
 | .tuple _ => "tuple"
 | .dict es=>if isXe es then "" else "dict"
noncomputable def isS(T S:String):Bool:=S==T||(S == "bool" && T == "int")
def isT(T:String)(d:D):Bool:=isS T (tyD d)
noncomputable def intsOf:List D->Option (List Int)
 | []=>some []
 | .int i::r=>match intsOf r with
  | some l=>some (i::l)
  | none=>none
 | _=>none
theorem um_:∀{ds:List D} {ns:List Int},intsOf ds=some ns->ds=ns.map PyData.int
 | [],ns,h=>by cases h;rfl
 | .int i::r,ns,h=>by
  dsimp only[intsOf]at h
  split at h
  ·rename_i l e;cases h;rw[um_ e];rfl
  ·cases h
 | .none::_,_,h=>by cases h
 | .bool _::_,_,h=>by cases h
 | .str _::_,_,h=>by cases h
 | .list _::_,_,h=>by cases h
 | .tuple _::_,_,h=>by cases h
 | .dict _::_,_,h=>by cases h
theorem yR_(ns:List Int):intsOf (ns.map PyData.int)=some ns:=by
 induction ns with
 | nil=>rfl
 | cons n r ih=>simp[intsOf,ih]
theorem uK_{K:Fg}{F:Hp}:∀{vs:List V} {ns:List Int},RepL K F vs (ns.map PyData.int)->vs=ns.map V.int
 | _,[],h=>by cases h;rfl
 | _,n::r,h=>by
  cases h with
  | cons a b=>cases a;rw[uK_ b];rfl
noncomputable def kitT(S T:String):Option Bool:=if(Value.type S==Value.type T)=true then some true else if PySem.W.kitMeta T=true then(fastBuiltinMro S).map (·.contains (.type T))else none
theorem zcj_(K:Fg)(S T:String):PySem.W.kitOne K (.type S) (.type T)=kitT S T:=rfl
theorem zci_:∀S∈["NoneType", "bool", "int", "str", "list", "tuple", "dict"],∀T∈["bool", "int", "str", "list", "tuple", "dict"],kitT S T=some (isS T S):=by decide +kernel
theorem zei_(K:Fg){T:String}(h:tyOk T=true)(d:D)(hx:∀es,d=.dict es->isXe es=false):PySem.W.kitOne K (.type (tyD d)) (.type T)=some (isT T d):=by
 simp only[tyOk,Bool.or_eq_true,beq_iff_eq]at h
 rw[zcj_]
 refine zci_ (tyD d) ?_ T (by rcases h with ((((rfl|rfl)|rfl)|rfl)|rfl)|rfl<;>simp)
 cases d with
 | dict es=>simp[tyD,hx es rfl]
 | _=>simp[tyD]
theorem zaX_{kvs:List (List Key×V)}{es:List (D×D)}(h:es.map (·.1)=kvs.map (λp=>keyT p.1)):isXe es=false:=by
 cases es with
 | nil=>rfl
 | cons e r =>
  cases kvs with
  | nil=>cases h
  | cons k ks =>
   obtain⟨e1,e2⟩:=e
   simp only[List.map_cons,List.cons.injEq]at h
   rw[h.1]
   rfl
theorem zaY_{kvs:List (Key×V)}{es:List (D×D)}(h:es.map (·.1)=kvs.map (λp=>keyD p.1)):isXe es=false:=by
 cases es with
 | nil=>rfl
 | cons e r =>
  cases kvs with
  | nil=>cases h
  | cons k ks =>
   obtain⟨e1,e2⟩:=e
   obtain⟨k1,k2⟩:=k
   simp only[List.map_cons,List.cons.injEq]at h
   rw[h.1]
   cases k1<;>rfl
theorem zbq_{T:String}(h:tyOk T=true):isS T "" = false:=by
 simp only[tyOk,Bool.or_eq_true,beq_iff_eq]at h
 rcases h with ((((rfl|rfl)|rfl)|rfl)|rfl)|rfl<;>rfl
theorem Vr_{X:Cx}{T:String}(hT:tyOk T=true){pins:List (Addr×Obj)}{σ:L2.St}{H:Hp}{s:Shared}{v:V}{d:D}{u:Value}{Q:Value->Shared->Prop}{E:Value->Shared->Prop}(I:Inv X pins σ H s)(rp:Rep X.K H v d)(nf:isFn d=false)(ru:RelV v u)
  (h:∀tk,Q (.bool (isT T d)) { s with toks:=tk }):wpAny (model X.prog X.w) X.A (call (.builtin "isinstance") [u,.type T]) Q E s:=by
 have ee:=zei_ X.K hT d
 cases rp with
 | non =>
  have e:=ee λ_ z=>by cases z
  cases ru;exact PySem.W.kia_one PySem.W.kitx_none I.kIn True.intro e (λz=>nomatch z) h
 | bl y =>
  have e:=ee λ_ z=>by cases z
  cases ru;exact PySem.W.kia_one PySem.W.kitx_bool I.kIn True.intro e (λz=>nomatch z) h
 | int i =>
  have e:=ee λ_ z=>by cases z
  obtain⟨t,rfl⟩:=ru;exact PySem.W.kia_one PySem.W.kitx_int I.kIn True.intro e (λz=>nomatch z) h
 | str y =>
  have e:=ee λ_ z=>by cases z
  obtain⟨t,rfl⟩:=ru;exact PySem.W.kia_one PySem.W.kitx_str I.kIn True.intro e (λz=>nomatch z) h
 | lst h1 h2 =>
  have e:=ee λ_ z=>by cases z
  cases ru
  obtain⟨its,_,⟨o,n,e1,e2,_⟩,_⟩:=I.list h1
  exact PySem.W.kia_one PySem.W.kitx_list I.kIn ⟨o,e1,e2⟩ e (λz=>nomatch z) h
 | tup h1 h2 =>
  have e:=ee λ_ z=>by cases z
  cases ru
  obtain⟨its,_,⟨o,e1,e2,_⟩,_⟩:=I.tuple (SqT.of h1)
  exact PySem.W.kia_one PySem.W.kitx_tuple I.kIn ⟨o,e1,e2⟩ e (λz=>nomatch z) h
 | dct h1 h2 h3 =>
  have e:=ee λ_ z=>by cases z;exact zaX_ h2
  rw[show tyD (.dict _) = "dict" from by simp[tyD,zaX_ h2]]at e
  cases ru
  obtain⟨z,y,xs,kt,o,es,ep,g1,g2,_⟩:=zcz_ I.hok h1
  exact PySem.W.kia_one PySem.W.kitx_dict I.kIn ⟨o,g1,g2.1⟩ e (λz=>nomatch z) h
 | dck h1 h2 h3 =>
  have e:=ee λ_ z=>by cases z;exact zaY_ h2
  rw[show tyD (.dict _) = "dict" from by simp[tyD,zaY_ h2]]at e
  cases ru
  obtain⟨z,y,xs,kt,o,es,ep,g1,g2,_⟩:=zcA_ I.hok h1
  exact PySem.W.kia_one PySem.W.kitx_dict I.kIn ⟨o,g1,g2.1⟩ e (λz=>nomatch z) h
 | exc h1 q fx h2 h3 =>
  cases ru
  obtain⟨D,fI,xc⟩:=q.xc
  have at_:XAt H _ _ _:=⟨h1,λdx z=>by
   rcases fx with ⟨z',_⟩|⟨dx',z',y⟩
   ·rw[z']at z;cases z
   ·rw[z']at z;cases z;exact⟨_,y⟩⟩
  refine Vs_ I xc q.kc at_ (q.no T hT) ?_
  rw[show isT T (.dict ((.none,.str _)::_))=false from zbq_ hT]at h
  exact h
 | fn _=>cases nf
section
variable {K:Fg}{G:Gh}{F H:Hp}{σ:L2.St}{ρ ρ':En}
theorem _root_.L3.StOk.weak(S:StOk K G F σ H ρ)(hl:ρ'.length=ρ.length)(h:∀(i:Nat) (av:AV),ρ'[i]? = some (some av)->ρ[i]? = some (some av))(hp:∀(i:Nat) (c:OC),ρ[i]? = some (some (AV.op c))->ρ'[i]? = some (some (AV.op c))):StOk K G F σ H ρ':=by
 have ow':∀j c,own ρ' j c->own ρ j c:=λj c q=>q.imp (h _ _) (h _ _)
 refine⟨S.fh,S.oh,S.fo,S.ln.trans hl.symm,λj d q=>S.fz j d (h _ _ q),λj c q=>S.ow j c (ow' j c q),λj k c e a h1 h2=>S.dj j k c e a (ow' j c h1) (ow' k e h2),λj a q=>?_,λj c q=>S.pq j c (h _ _ q),S.fb⟩
 obtain⟨q1,c,q2⟩:=S.pp j a q
 exact⟨q1,c,hp _ _ q2⟩
theorem uY_{k:Nat}{i:Nat}{av:AV}(h:(ρ++List.replicate k none)[i]? = some (some av)):ρ[i]? = some (some av):=by
 by_cases hi:i<ρ.length
 ·rw[List.getElem?_append_left hi]at h;exact h
 ·rw[List.getElem?_append_right (Nat.not_lt.mp hi),List.getElem?_replicate]at h
  split at h<;>cases h
theorem _root_.L3.StOk.grow(S:StOk K G F σ H ρ)(k:Nat):StOk K G F (σ++List.replicate k none) H (ρ++List.replicate k none):=by
 have ap:∀{i:Nat} {v:V},σ[i]? = some (some v)->(σ++List.replicate k none)[i]? = some (some v):=λ{i v} e=>by
  rw[List.getElem?_append_left (List.getElem?_eq_some_iff.mp e).1];exact e
 have apr:∀{i:Nat} {v:AV},ρ[i]? = some (some v)->(ρ++List.replicate k none)[i]? = some (some v):=λ{i v} e=>by
  rw[List.getElem?_append_left (List.getElem?_eq_some_iff.mp e).1];exact e
 have ow':∀i c,own (ρ++List.replicate k none) i c->own ρ i c:=λi c h=>by
  rcases h with h|h
  ·exact .inl (uY_ h)
  ·exact .inr (uY_ h)
 refine⟨S.fh,S.oh,S.fo,by simp[S.ln],λi d h=>?_,λi c h=>?_,λi j c e a h1 h2 e1 e2=>?_,λi a h=>?_,λi c h=>S.pq i c (uY_ h),S.fb⟩
 ·obtain⟨v,e,r⟩:=S.fz i d (uY_ h);exact⟨v,ap e,r⟩
 ·obtain⟨a,e,oa⟩:=S.ow i c (ow' i c h);exact⟨a,ap e,oa⟩
 ·have o1:=ow' i c h1
  have o2:=ow' j e h2
  obtain⟨a1,q1,_⟩:=S.ow i c o1
  obtain⟨a2,q2,_⟩:=S.ow j e o2
  rw[ap q1]at e1;rw[ap q2]at e2
  injection e1 with e1;injection e2 with e2
  exact S.dj i j c e a o1 o2 (by rw[q1,e1]) (by rw[q2,e2])
 ·obtain⟨e,c,q⟩:=S.pp i a h;exact⟨ap e,c,apr q⟩
theorem _root_.L3.StOk.shrink(S:StOk K G F σ H ρ){n:Nat}(hn:n<=ρ.length)(hp:∀i a,G.P i=some a->i<n):StOk K G F (σ.take n) H (ρ.take n):=by
 have tk:∀{i:Nat} {v:AV},(ρ.take n)[i]? = some (some v)->i<n/\ρ[i]? = some (some v):=λ{i v} e=>by
  have hi:i<n:=by
   have:=(List.getElem?_eq_some_iff.mp e).1
   rw[List.length_take]at this;lia
  rw[List.getElem?_take_of_lt hi]at e
  exact⟨hi,e⟩
 have ow':∀i c,own (ρ.take n) i c->i<n/\own ρ i c:=λi c h=>by
  rcases h with h|h
  ·exact⟨(tk h).1,.inl (tk h).2⟩
  ·exact⟨(tk h).1,.inr (tk h).2⟩
 refine⟨S.fh,S.oh,S.fo,by simp[S.ln],λi d h=>?_,λi c h=>?_,λi j c e a h1 h2 e1 e2=>?_,λi a h=>?_,λi c h=>S.pq i c (tk h).2,S.fb⟩
 ·obtain⟨v,e,r⟩:=S.fz i d (tk h).2;exact⟨v,by rw[List.getElem?_take_of_lt (tk h).1];exact e,r⟩
 ·obtain⟨a,e,oa⟩:=S.ow i c (ow' i c h).2;exact⟨a,by rw[List.getElem?_take_of_lt (ow' i c h).1];exact e,oa⟩
 ·rw[List.getElem?_take_of_lt (ow' i c h1).1]at e1
  rw[List.getElem?_take_of_lt (ow' j e h2).1]at e2
  exact S.dj i j c e a (ow' i c h1).2 (ow' j e h2).2 e1 e2
 ·obtain⟨e,c,q⟩:=S.pp i a h
  exact⟨by rw[List.getElem?_take_of_lt (hp i a h)];exact e,c,by rw[List.getElem?_take_of_lt (hp i a h)];exact q⟩
end
theorem Jc_{α:Type}{l l':List α}{n:Nat}(h:∀j,j<n->l'[j]? = l[j]?)(hl:l.length=n):l'.take n=l:=by
 apply List.ext_getElem?
 intro i
 by_cases hi:i<n
 ·rw[List.getElem?_take_of_lt hi,h i hi]
 ·rw[List.getElem?_eq_none_iff.mpr (by rw[List.length_take];lia),List.getElem?_eq_none_iff.mpr (by lia)]
inductive Kd where
 | dead|f|o|p|t|k
 | i (x:Str) (ns:List Str)|j (x:Str) (ns:List Str)
@[reducible] noncomputable def SOf:List Kd->Type
 | []=>Unit
 | .dead::r=>SOf r
 | .f::r=>D×SOf r
 | .o::r=>List D×SOf r
 | .p::r=>List D×SOf r
 | .t::r=>List (D×D)×SOf r
 | .k::r=>List (D×D)×SOf r
 | .i _ _::r=>List D×SOf r
 | .j _ _::r=>List D×SOf r
noncomputable def rd:(sh:List Kd)->En->Option (SOf sh)
 | [],[]=>some ()
 | .dead::r,x::ρ=>match x with
  | some (.op _)=>none
  | _=>rd r ρ
 | .f::r,x::ρ=>match x with
  | some (.fz d)=>match rd r ρ with
   | some s=>some (d,s)
   | none=>none
  | _=>none
 | .o::r,x::ρ=>match x with
  | some (.ol (.l ds))=>match rd r ρ with
   | some s=>some (ds,s)
   | none=>none
  | _=>none
 | .p::r,x::ρ=>match x with
  | some (.op (.l ds))=>match rd r ρ with
   | some s=>some (ds,s)
   | none=>none
  | _=>none
 | .t::r,x::ρ=>match x with
  | some (.ol (.t ds))=>match rd r ρ with
   | some s=>some (ds,s)
   | none=>none
  | _=>none
 | .k::r,x::ρ=>match x with
  | some (.ol (.k ds))=>match rd r ρ with
   | some s=>some (ds,s)
   | none=>none
  | _=>none
 | .i y ns::r,x::ρ=>match x with
  | some (.ol (.i z ms ds))=>if z=y/\ms=ns then(match rd r ρ with
   | some s=>some (ds,s)
   | none=>none)else none
  | _=>none
 | .j y ns::r,x::ρ=>match x with
  | some (.op (.i z ms ds))=>if z=y/\ms=ns then(match rd r ρ with
   | some s=>some (ds,s)
   | none=>none)else none
  | _=>none
 | _,_=>none
noncomputable def wr:(sh:List Kd)->SOf sh->En
 | [],_=>[]
 | .dead::r,s=>none::wr r s
 | .f::r,s=>some (.fz s.1)::wr r s.2
 | .o::r,s=>some (.ol (.l s.1))::wr r s.2
 | .p::r,s=>some (.op (.l s.1))::wr r s.2
 | .t::r,s=>some (.ol (.t s.1))::wr r s.2
 | .k::r,s=>some (.ol (.k s.1))::wr r s.2
 | .i y ns::r,s=>some (.ol (.i y ns s.1))::wr r s.2
 | .j y ns::r,s=>some (.op (.i y ns s.1))::wr r s.2
def Wk(w ρ:En):Prop:=w.length=ρ.length/\(∀(i:Nat) (av:AV),w[i]? = some (some av)->ρ[i]? = some (some av))/\(∀(i:Nat) (c:OC),ρ[i]? = some (some (AV.op c))->w[i]? = some (some (AV.op c)))
theorem yc_{w ρ:En}{x:Option AV}(h:Wk w ρ):Wk (x::w) (x::ρ):=by
 refine⟨congrArg (· + 1) h.1,λi av q=>?_,λi c q=>?_⟩
 ·cases i with
  | zero=>exact q
  | succ i=>exact h.2.1 i av q
 ·cases i with
  | zero=>exact q
  | succ i=>exact h.2.2 i c q
theorem zbp_{w ρ:En}{x:Option AV}(hx:∀c,x≠some (AV.op c))(h:Wk w ρ):Wk (none::w) (x::ρ):=by
 refine⟨congrArg (· + 1) h.1,λi av q=>?_,λi c q=>?_⟩
 ·cases i with
  | zero=>cases q
  | succ i=>exact h.2.1 i av q
 ·cases i with
  | zero=>exact absurd (Option.some.inj q) (hx c)
  | succ i=>exact h.2.2 i c q
theorem ZZ_:∀(sh:List Kd) (ρ:En) (s:SOf sh),rd sh ρ=some s->Wk (wr sh s) ρ
 | [],[],s,h=>⟨rfl,λi av q=>q,λi c q=>q⟩
 | [],_::_,s,h=>by cases h
 | a::r,[],s,h=>by cases a<;>cases h
 | .dead::r,x::ρ,s,h=>by
  dsimp only[rd]at h
  split at h
  ·cases h
  ·rename_i hx
   exact zbp_ hx (ZZ_ r ρ s h)
 | .f::r,x::ρ,s,h=>by
  dsimp only[rd]at h
  split at h
  ·split at h
   ·rename_i s' e
    cases h
    exact yc_ (ZZ_ r ρ s' e)
   ·cases h
  ·cases h
 | .o::r,x::ρ,s,h=>by
  dsimp only[rd]at h
  split at h
  ·split at h
   ·rename_i s' e
    cases h
    exact yc_ (ZZ_ r ρ s' e)
   ·cases h
  ·cases h
 | .p::r,x::ρ,s,h=>by
  dsimp only[rd]at h
  split at h
  ·split at h
   ·rename_i s' e
    cases h
    exact yc_ (ZZ_ r ρ s' e)
   ·cases h
  ·cases h
 | .t::r,x::ρ,s,h=>by
  dsimp only[rd]at h
  split at h
  ·split at h
   ·rename_i s' e
    cases h
    exact yc_ (ZZ_ r ρ s' e)
   ·cases h
  ·cases h
 | .k::r,x::ρ,s,h=>by
  dsimp only[rd]at h
  split at h
  ·split at h
   ·rename_i s' e
    cases h
    exact yc_ (ZZ_ r ρ s' e)
   ·cases h
  ·cases h
 | .i y ns::r,x::ρ,s,h=>by
  dsimp only[rd]at h
  split at h
  ·split at h
   ·rename_i hc
    split at h
    ·rename_i s' e
     cases h
     obtain⟨rfl,rfl⟩:=hc
     exact yc_ (ZZ_ r ρ s' e)
    ·cases h
   ·cases h
  ·cases h
 | .j y ns::r,x::ρ,s,h=>by
  dsimp only[rd]at h
  split at h
  ·split at h
   ·rename_i hc
    split at h
    ·rename_i s' e
     cases h
     obtain⟨rfl,rfl⟩:=hc
     exact yc_ (ZZ_ r ρ s' e)
    ·cases h
   ·cases h
  ·cases h
theorem _root_.L3.StOk.rd{K:Fg}{G:Gh}{F H:Hp}{σ:L2.St}{ρ:En}{sh:List Kd}{s:SOf sh}(S:StOk K G F σ H ρ)(h:L4.rd sh ρ=some s):StOk K G F σ H (wr sh s):=by
 obtain⟨h1,h2,h3⟩:=ZZ_ sh ρ s h
 exact S.weak h1 h2 h3
noncomputable def rdk{S:Type}(sh:List Kd)(k:SOf sh->M S)(ρ:En):M S:=match rd sh ρ with
 | some s=>k s
 | none=>.bad
noncomputable abbrev Ev(S α:Type):=(Ex->En->M S)->(α->En->M S)->En->M S
structure KS(S:Type) where
 nx:En->M S
 rt:D->En->M S
 rl:List D->En->M S
 bk:En->M S
 ct:En->M S
 x:Ex->En->M S
def KOk{S:Type}(OK:M S->Prop):Prop:=¬ OK .bad
def XL{S:Type}(X:Cx)(OK:M S->Prop)(x:Ex->En->M S)(G:Gh):Prop:=∀F ρ e,OK (x e ρ)->XW X G F ρ e
def AE{S:Type}(X:Cx)(e:Expr)(m:Ev S D):Prop :=
 ∀(OK:M S->Prop) (x:Ex->En->M S) (k:D->En->M S) (G:Gh) (F:Hp) (σ:L2.St) (H:Hp) (ρ:En) (Q:VK),KOk OK->XL X OK x G->StOk X.K G F σ H ρ->OK (m x k ρ) ->
  (∀d v F' H' ρ',Same F F'->StOk X.K G F' σ H' ρ'->Rep X.K F' v d->OK (k d ρ')->Q v H')->tSem X e σ H Q
def AEt{S:Type}(X:Cx)(e:Expr)(m:Ev S Bool):Prop :=
 ∀(OK:M S->Prop) (x:Ex->En->M S) (k:Bool->En->M S) (G:Gh) (F:Hp) (σ:L2.St) (H:Hp) (ρ:En) (Q:Bool->Hp->Prop),KOk OK->XL X OK x G->StOk X.K G F σ H ρ->OK (m x k ρ) ->
  (∀d F' H' ρ',Same F F'->StOk X.K G F' σ H' ρ'->OK (k d ρ')->Q d H')->Vb_ X e σ H Q
def AEw{S:Type}(X:Cx)(e:Expr)(m:Ev S Bool):Prop :=
 ∀(OK:M S->Prop) (x:Ex->En->M S) (k:Bool->En->M S) (G:Gh) (F:Hp) (σ:L2.St) (H:Hp) (ρ:En) (Q:Bool->Hp->Prop),KOk OK->XL X OK x G->StOk X.K G F σ H ρ->OK (m x k ρ) ->
  (∀d F' H' ρ',Same F F'->StOk X.K G F' σ H' ρ'->OK (k d ρ')->Q d H')->Va_ X e σ H Q
def AEb{S:Type}(X:Cx)(e:Expr)(m:Ev S Bool):Prop :=
 ∀(OK:M S->Prop) (x:Ex->En->M S) (k:Bool->En->M S) (G:Gh) (F:Hp) (σ:L2.St) (H:Hp) (ρ:En) (Q:VK),KOk OK->XL X OK x G->StOk X.K G F σ H ρ->OK (m x k ρ) ->
  (∀d F' H' ρ',Same F F'->StOk X.K G F' σ H' ρ'->OK (k d ρ')->Q (.bl d) H')->tSem X e σ H Q
def AEa{S:Type}(X:Cx)(es:List Expr)(m:Ev S (List D)):Prop :=
 ∀(OK:M S->Prop) (x:Ex->En->M S) (k:List D->En->M S) (G:Gh) (F:Hp) (σ:L2.St) (H:Hp) (ρ:En) (Q:List V->Hp->Prop),KOk OK->XL X OK x G->StOk X.K G F σ H ρ->OK (m x k ρ) ->
  (∀ds vs F' H' ρ',Same F F'->StOk X.K G F' σ H' ρ'->vs.length=es.length->RepL X.K F' vs ds->OK (k ds ρ')->Q vs H')->Zi_ X es σ H Q
def AEl{S:Type}(X:Cx)(e:Expr)(m:Ev S (List D)):Prop :=
 ∀(OK:M S->Prop) (x:Ex->En->M S) (k:List D->En->M S) (G:Gh) (F:Hp) (σ:L2.St) (H:Hp) (ρ:En) (Q:VK),KOk OK->XL X OK x G->StOk X.K G F σ H ρ->OK (m x k ρ) ->
  (∀ds v F' H' ρ',Same F F'->StOk X.K G F' σ H' ρ'->Frs X.K G F' σ H' ρ' v (.l ds)->OK (k ds ρ')->Q v H')->tSem X e σ H Q
def ePu{S α:Type}(p:Pu α):Ev S α:=λx k ρ=>(p ρ).on (λe=>x e ρ) (λa=>k a ρ)
section
variable {S α:Type}{X:Cx}{OK:M S->Prop}{x:Ex->En->M S}{k:α->En->M S}{G:Gh}{F:Hp}{σ:L2.St}{ρ:En}{p:Pu α}{C:α->Hp->Hp->Prop}
theorem W.of(hO:KOk OK)(hX:XL X OK x G)(h:OK (ePu p x k ρ))(w:∀a F' H',Same F F'->StOk X.K G F' σ H' ρ->OK (k a ρ)->C a F' H'):W X G F σ ρ (p ρ) C:=by
 unfold ePu at h
 cases hp:p ρ with
 | ret a=>rw[hp]at h;exact λF' H' s S'=>w a F' H' s S' h
 | exc e=>rw[hp]at h;exact hX F ρ e h
 | bad=>rw[hp]at h;exact hO h
end
section
variable {S:Type}{X:Cx}{e a b c:Expr}{es rest:List Expr}{p:Pu D}{pt:Pu Bool}{ps:Pu (List D)}{pos:Pos}
theorem zh_(h:AP X e p):AE (S:=S) X e (ePu p):=λOK x k G F σ H ρ Q hO hX St ok kk=>h G F σ H ρ Q St (W.of hO hX ok λd F' H' s S' o v r=>kk d v F' H' ρ s S' r o)
theorem zU_(h:AT X e pt):AEt (S:=S) X e (ePu pt):=λOK x k G F σ H ρ Q hO hX St ok kk=>h G F σ H ρ Q St (W.of hO hX ok λd F' H' s S' o=>kk d F' H' ρ s S' o)
theorem Yx_(h:AL X e ps):AEl (S:=S) X e (ePu ps):=λOK x k G F σ H ρ Q hO hX St ok kk=>h G F σ H ρ Q St (W.of hO hX ok λd F' H' s S' o v r=>kk d v F' H' ρ s S' r o)
noncomputable def eB(m:Ev S Bool):Ev S D:=λx k ρ=>m x (λb ρ1=>k (.bool b) ρ1) ρ
noncomputable def eZ(m:Ev S (List D)):Ev S D:=λx k ρ=>m x (λds ρ1=>k (.list ds) ρ1) ρ
def eBin(f:D->D->Option D)(a b:Ev S D):Ev S D:=λx k ρ=>a x (λd ρ1=>b x (λd2 ρ2=>(oM (f d d2)).on (λe=>x e ρ2) (λr=>k r ρ2)) ρ1) ρ
def zeF_(f:D->D->Option Bool)(a b:Ev S D):Ev S Bool:=λx k ρ=>a x (λd ρ1=>b x (λd2 ρ2=>(oM (f d d2)).on (λe=>x e ρ2) (λr=>k r ρ2)) ρ1) ρ
noncomputable def eNil:Ev S (List D):=λ_ k ρ=>k [] ρ
noncomputable def zfJ_(m:Ev S D)(ms:Ev S (List D)):Ev S (List D):=λx k ρ=>m x (λd ρ1=>ms x (λds ρ2=>k (d::ds) ρ2) ρ1) ρ
noncomputable def eTup(ms:Ev S (List D)):Ev S D:=λx k ρ=>ms x (λds ρ1=>k (.tuple ds) ρ1) ρ
noncomputable def eLst(ms:Ev S (List D)):Ev S (List D):=λx k ρ=>ms x (λds ρ1=>k ds ρ1) ρ
def zfK_(f:List D->Option D)(ms:Ev S (List D)):Ev S D:=λx k ρ=>ms x (λds ρ1=>(oM (f ds)).on (λe=>x e ρ1) (λr=>k r ρ1)) ρ
noncomputable def eAnd(a b:Ev S Bool):Ev S Bool:=λx k ρ=>a x (λt ρ1=>if t then b x k ρ1 else k false ρ1) ρ
noncomputable def eIf{α:Type}(c:Ev S Bool)(a b:Ev S α):Ev S α:=λx k ρ=>c x (λt ρ1=>if t then a x k ρ1 else b x k ρ1) ρ
theorem yx_{α:Type}{OK:M S->Prop}(hO:KOk OK){o:Option α}{x:Ex->M S}{k:α->M S}(h:OK ((oM o).on x k)):∃a,o=some a/\OK (k a):=by
 cases o with
 | none=>exact(hO h).elim
 | some a=>exact⟨a,rfl,h⟩
theorem zeC_{α:Type}{OK:M S->Prop}(hO:KOk OK){ds:List α}{x:Ex->M S}{k:List α->M S}(h:OK ((fitM ds).on x k)):ds.length<=sizeLine/\OK (k ds):=by
 unfold fitM at h
 split at h
 ·exact⟨by assumption,h⟩
 ·exact(hO h).elim
variable {ma mb m:Ev S D}{ta tb tc:Ev S Bool}{ms:Ev S (List D)}
theorem ae_b(h:AEb X e ta):AE X e (eB ta):=λOK x k G F σ H ρ Q hO hX St ok kk=>h OK x _ G F σ H ρ Q hO hX St ok λb F' H' ρ' s S' o=>kk _ _ F' H' ρ' s S' (.bl b) o
theorem ae_z(h:AEl X e ms):AE X e (eZ ms):=λOK x k G F σ H ρ Q hO hX St ok kk=>h OK x _ G F σ H ρ Q hO hX St ok λds v F' H' ρ' s S' fr o=>by
 obtain⟨F2,s2,S2,r2⟩:=S'.settle (v:=v) (ds:=ds) fr
 exact kk _ v F2 H' ρ' (s.trans s2) S2 r2 o
theorem Uc_{r:R2}{Q:VK}{OK:M S->Prop}{x:Ex->En->M S}{G:Gh}{F H:Hp}{σ:L2.St}{ρ:En}{f:D->D->En->M S}(ha:AE X a ma)(hb:AE X b mb)(hO:KOk OK)(hX:XL X OK x G)(St:StOk X.K G F σ H ρ)
  (ok:OK (ma x (λd ρ1=>mb x (λd2 ρ2=>f d d2 ρ2) ρ1) ρ)) (k:∀u v dx dy F' H' ρ',Same F F'->StOk X.K G F' σ H' ρ'->Rep X.K F' u dx->Rep X.K F' v dy->OK (f dx dy ρ')->r u v H' Q):tOp r (tSem X a) (tSem X b) σ H Q :=
 ha OK x _ G F σ H ρ _ hO hX St ok λd v F1 H1 ρ1 s1 S1 r1 o1=>hb OK x _ G F1 σ H1 ρ1 _ hO hX S1 o1 λd2 u F2 H2 ρ2 s2 S2 r2 o2=>k v u d d2 F2 H2 ρ2 (s1.trans s2) S2 (r1.mono s2) r2 o2
theorem Yy_{op:Operator}{r:R2}{f:D->D->Option D}(ho:OpR X (binaryOp op) r)(hf:OpD X.K r f)(ha:AE X a ma)(hb:AE X b mb):AE X (.BinOp a op b pos) (eBin f ma mb) :=
 λOK x k G F σ H ρ Q hO hX St ok kk=>sem (zdD_ ho zn_ zn_) (Uc_ ha hb hO hX St ok λu v dx dy F' H' ρ' s S' r1 r2 o=>by
  obtain⟨res,e,o'⟩:=yx_ hO o
  exact hf G F' σ H' ρ' u v dx dy res Q S' (.inl r1) (.inl r2) e λw F2 H2 s2 S2 r3=>kk res w F2 H2 ρ' (s.trans s2) S2 r3 o')
theorem zfN_{r:R2}{f:D->D->Option D}(hr:IxR X r)(hf:OpD X.K r f)(ha:AE X a ma)(hb:AE X b mb)(hs:Y6_ b):AE X (.Subscript a b pos) (eBin f ma mb) :=
 λOK x k G F σ H ρ Q hO hX St ok kk=>sem (zdH_ hr zn_ zn_ hs) (Uc_ ha hb hO hX St ok λu v dx dy F' H' ρ' s S' r1 r2 o=>by
  obtain⟨res,e,o'⟩:=yx_ hO o
  exact hf G F' σ H' ρ' u v dx dy res Q S' (.inl r1) (.inl r2) e λw F2 H2 s2 S2 r3=>kk res w F2 H2 ρ' (s.trans s2) S2 r3 o')
theorem Xv_{op:CmpOp}{r:R2}{f:D->D->Option Bool}(ho:OpR X (compareOp op) r)(hf:OpB X.K r f)(ha:AE X a ma)(hb:AE X b mb)(hm:behindInMarks op b=false):AEb X (.Compare a [op] [b] pos) (zeF_ f ma mb) :=
 λOK x k G F σ H ρ Q hO hX St ok kk=>sem (We_ ho zn_ zn_ hm) (Uc_ ha hb hO hX St ok λu v dx dy F' H' ρ' s S' r1 r2 o=>by
  obtain⟨res,e,o'⟩:=yx_ hO o
  exact hf G F' σ H' ρ' u v dx dy res Q S' (.inl r1) (.inl r2) e (kk res F' H' ρ' s S' o'))
theorem Xs_{op:CmpOp}{r:R2}{f:D->D->Option Bool}(ho:OpR X (compareOp op) r)(hf:OpB X.K r f)(ha:AE X a ma)(hb:AE X b mb)(hm:behindInMarks op b=false):AEt X (.Compare a [op] [b] pos) (zeF_ f ma mb) :=
 λOK x k G F σ H ρ Q hO hX St ok kk=>semT (V7_ ho zn_ zn_ hm) (Uc_ (Q:=λx H'=>∃k,x=.bl k/\Q k H') ha hb hO hX St ok λu v dx dy F' H' ρ' s S' r1 r2 o=>by
  obtain⟨res,e,o'⟩:=yx_ hO o
  exact hf G F' σ H' ρ' u v dx dy res _ S' (.inl r1) (.inl r2) e ⟨res,rfl,kk res F' H' ρ' s S' o'⟩)
theorem zk_:AEa (S:=S) X [] eNil:=λOK x k G F σ H ρ Q hO hX St ok kk=>semA UD_ (kk [] [] F H ρ (Same.refl _) St rfl .nil ok)
theorem zd_(h:AE X e m)(hr:AEa X es ms)(hs:starEach (e::es) X.env=(false,eval e X.env)::starEach es X.env):AEa X (e::es) (zfJ_ m ms) :=
 λOK x k G F σ H ρ Q hO hX St ok kk=>semA (yg_ zn_ ji_ hs) (h OK x _ G F σ H ρ _ hO hX St ok λd v F1 H1 ρ1 s1 S1 r1 o1 =>
  hr OK x _ G F1 σ H1 ρ1 _ hO hX S1 o1 λds vs F2 H2 ρ2 s2 S2 hl r2 o2=>kk (d::ds) (v::vs) F2 H2 ρ2 (s1.trans s2) S2 (by simp[hl]) (.cons (r1.mono s2) r2) o2)
theorem ZS_{x1}(h:AEa X es ms)(hz:es.length<=1000):AE X (.Tuple es x1 pos) (eTup ms) :=
 λOK x k G F σ H ρ Q hO hX St ok kk=>sem (zaL_ ji_) (h OK x _ G F σ H ρ _ hO hX St ok λds vs F1 H1 ρ1 s1 S1 hl r1 o1=>by
  refine⟨by rw[hl];exact Jm_ hz,λq hq=>?_⟩
  obtain⟨s2,S2,r2⟩:=S1.newTup hq r1
  exact kk _ _ _ _ ρ1 (s1.trans s2) S2 r2 o1)
theorem Xt_(h:AEa X es ms)(hz:es.length<=1000):AEl X (.List es pos) (eLst ms) :=
 λOK x k G F σ H ρ Q hO hX St ok kk=>sem (zaM_ ji_) (h OK x _ G F σ H ρ _ hO hX St ok λds vs F1 H1 ρ1 s1 S1 hl r1 o1=>by
  refine⟨by rw[hl];exact Jm_ hz,λq hq=>?_⟩
  obtain⟨S2,r2⟩:=S1.newLst hq r1
  exact kk _ _ _ _ ρ1 s1 S2 r2 o1)
theorem zav_(ha:AEt X a ta):AEw X (.BoolOp .And [a] pos) ta:=λOK x k G F σ H ρ Q hO hX St ok kk=>semW (V6_ u4_) (ha OK x k G F σ H ρ Q hO hX St ok kk)
theorem zcQ_(ha:AEt X a ta)(hb:AEw X (.BoolOp .And (b::rest) pos) tb):AEw X (.BoolOp .And (a::b::rest) pos) (eAnd ta tb) :=
 λOK x k G F σ H ρ Q hO hX St ok kk=>semW (zaE_ u4_ Uz_) (ha OK x _ G F σ H ρ _ hO hX St ok λt F1 H1 ρ1 s1 S1 o1=>by
  cases t with
  | true=>refine iteT ?_;exact hb OK x k G F1 σ H1 ρ1 Q hO hX S1 o1 λd F2 H2 ρ2 s2 S2 o2=>kk d F2 H2 ρ2 (s1.trans s2) S2 o2
  | false=>refine iteF ?_;exact kk false F1 H1 ρ1 s1 S1 o1)
theorem zeN_(h:AEw X e ta):AEt X e ta:=λOK x k G F σ H ρ Q hO hX St ok kk=>semT (λpins s σ H Q I h=>Uz_ _ pins s σ H Q I h) (h OK x k G F σ H ρ Q hO hX St ok kk)
theorem zfO_(hc:AEt X c tc)(ha:AE X a ma)(hb:AE X b mb):AE X (.IfExp c a b pos) (eIf tc ma mb) :=
 λOK x k G F σ H ρ Q hO hX St ok kk=>sem (Qq_ u4_ zn_ zn_) (hc OK x _ G F σ H ρ _ hO hX St ok λt F1 H1 ρ1 s1 S1 o1=>by
  cases t with
  | true=>refine iteT ?_;exact ha OK x k G F1 σ H1 ρ1 Q hO hX S1 o1 λd v F2 H2 ρ2 s2 S2 r2 o2=>kk d v F2 H2 ρ2 (s1.trans s2) S2 r2 o2
  | false=>refine iteF ?_;exact hb OK x k G F1 σ H1 ρ1 Q hO hX S1 o1 λd v F2 H2 ρ2 s2 S2 r2 o2=>kk d v F2 H2 ρ2 (s1.trans s2) S2 r2 o2)
theorem RepL.ors{K:Fg}{F H:Hp}{vs:List V}{ds:List D}(h:RepL K F vs ds):ORs K F H vs ds:=by
 induction vs generalizing ds with
 | nil=>cases h;exact .nil
 | cons v vs ih=>cases h with
  | cons a b=>exact .cons (.inl a) (ih b)
theorem uQ_{x:Str}{p:Pos}{T:String}{r:List V->Hp->VK->Prop}{f:List D->Option D}(hc:CallR X (.type T) r)(hf:Uj_ X.K r f)(hg:Gl X x)(hm:X.mg x=none)(hv:bootBuiltins x=some (.type T))(ha:AEa X (e::es) ms)
  (hn:x ≠ "__name__") (hdb:(x==("__debug__" : Str))=false) (he:starEach (e::es) X.env=(false,eval e X.env)::starEach es X.env) (hpl:(backTo pos (starEach es X.env)).any (·.1)=false):AE X (.Call (.Name x p) (e::es) [] pos) (zfK_ f ms) :=
 λOK y k G F σ H ρ Q hO hX St ok kk=>sem (yw_ hc hg hm hv ji_ hn hdb he hpl) (ha OK y _ G F σ H ρ _ hO hX St ok λds vs F1 H1 ρ1 s1 S1 _ r1 o1=>by
  obtain⟨res,e,o'⟩:=yx_ hO o1
  exact hf G F1 σ H1 ρ1 vs ds res Q S1 (RepL.ors r1) e λw F2 H2 s2 S2 r3=>kk res w F2 H2 ρ1 (s1.trans s2) S2 r3 o')
end
structure Walk(K:Fg)(J:It)(ds:List D)(F:Hp):Prop where
 go:∀(i:Nat) (G:Gh) (F2:Hp) (σ:L2.St) (H2:Hp) (ρ:En),Same F F2->StOk K G F2 σ H2 ρ->i<ds.length->J.go i H2
 yld:∀(i:Nat) (G:Gh) (F2:Hp) (σ:L2.St) (H2:Hp) (ρ:En) (x:V) (H3:Hp) (d:D),Same F F2->StOk K G F2 σ H2 ρ->ds[i]? = some d->J.yld i H2 x H3->∃F3,Same F2 F3/\StOk K G F3 σ H3 ρ/\Rep K F3 x d
 stop:∀(G:Gh) (F2:Hp) (σ:L2.St) (H2:Hp) (ρ:En),Same F F2->StOk K G F2 σ H2 ρ->J.stop ds.length H2
theorem VI_{K:Fg}{F:Hp}{a:Addr}{vs:List V}{ds:List D}(h:SqL K F a vs)(r:RepL K F vs ds):Walk K (Itl K a) ds F where
 go:=λi G F2 σ H2 ρ s S hi=>by
  have hi':i<vs.length:=by rw[r.length];exact hi
  exact⟨vs,vs[i],S.fh.seq (s.seq h),by simp[hi']⟩
 yld:=λi G F2 σ H2 ρ x H3 d s S hd ⟨e,q⟩=>by
  subst e
  obtain⟨v,e1,e2⟩:=r.get hd
  have:=q vs (S.fh.seq (s.seq h))
  rw[e1]at this
  cases this
  exact⟨F2,Same.refl _,S,e2.mono s⟩
 stop:=λG F2 σ H2 ρ s S=>⟨vs,S.fh.seq (s.seq h),by rw[r.length];exact Nat.le_refl _⟩
theorem XA_{K:Fg}{F:Hp}{a:Addr}{vs:List V}{ds:List D}(h:SqT K F a vs)(r:RepL K F vs ds):Walk K (Itt K a) ds F where
 go:=λi G F2 σ H2 ρ s S hi=>by
  have hi':i<vs.length:=by rw[r.length];exact hi
  exact⟨vs,vs[i],uR_ S.fh (uR_ s h),by simp[hi']⟩
 yld:=λi G F2 σ H2 ρ x H3 d s S hd ⟨e,q⟩=>by
  subst e
  obtain⟨v,e1,e2⟩:=r.get hd
  have:=q vs (uR_ S.fh (uR_ s h))
  rw[e1]at this
  cases this
  exact⟨F2,Same.refl _,S,e2.mono s⟩
 stop:=λG F2 σ H2 ρ s S=>⟨vs,uR_ S.fh (uR_ s h),by rw[r.length];exact Nat.le_refl _⟩
noncomputable def yu_(lo:Int)(n:Nat):List D:=(List.range n).map λ(i:Nat)=>PyData.int (lo+(i:Int))
theorem ut_(lo:Int)(n:Nat):(yu_ lo n).length=n:=by simp[yu_]
theorem Ja_{K:Fg}{F:Hp}(lo:Int)(n:Nat):Walk K (Itr lo n) (yu_ lo n) F where
 go:=λi G F2 σ H2 ρ s S hi=>by rw[ut_]at hi;exact hi
 yld:=λi G F2 σ H2 ρ x H3 d s S hd ⟨e,q⟩=>by
  subst e q
  have e':(yu_ lo n)[i]? = some d:=hd
  unfold yu_ at e'
  rw[List.getElem?_map]at e'
  have hi:i<n:=by
   have:=(List.getElem?_eq_some_iff.mp hd).1
   rw[ut_]at this;exact this
  rw[List.getElem?_range hi]at e'
  cases e'
  exact⟨F2,Same.refl _,S,.int _⟩
 stop:=λG F2 σ H2 ρ s S=>by rw[ut_];exact Nat.le_refl _
@[irreducible] noncomputable def Zh_(X:Cx)(tg iter:Expr):TI:=λσ H R=>∀(pins:List (Addr×Obj)) (s:Shared),Inv X pins σ H s->wpAny (model X.prog X.w) X.A (eval iter X.env) (λv s1=>wpAny (model X.prog X.w) X.A (pyIter v) (PIE X pins σ tg R) X.xe s1) X.xe s
theorem Qp_{X:Cx}{tg e:Expr}:PI X tg e (Zh_ X tg e):=λpins s σ H R I h=>by unfold Zh_ at h;exact h pins s I
theorem semI{X:Cx}{tg e:Expr}{σ:L2.St}{H:Hp}{R:It->Hp->Prop}{t:TI}(h:PI X tg e t)(q:t σ H R):Zh_ X tg e σ H R:=by unfold Zh_;exact λpins s I=>h pins s σ H R I q
def AI(X:Cx)(tg e:Expr)(p:Pu (List D)):Prop :=
 ∀(G:Gh) (F:Hp) (σ:L2.St) (H:Hp) (ρ:En) (R:It->Hp->Prop),StOk X.K G F σ H ρ->W X G F σ ρ (p ρ) (λds F' H'=>∀J,Walk X.K J ds F'->R J H')->Zh_ X tg e σ H R
def AEi{S:Type}(X:Cx)(tg e:Expr)(m:Ev S (List D)):Prop :=
 ∀(OK:M S->Prop) (x:Ex->En->M S) (k:List D->En->M S) (G:Gh) (F:Hp) (σ:L2.St) (H:Hp) (ρ:En) (R:It->Hp->Prop),KOk OK->XL X OK x G->StOk X.K G F σ H ρ->OK (m x k ρ) ->
  (∀ds J F' H' ρ',Same F F'->StOk X.K G F' σ H' ρ'->Walk X.K J ds F'->OK (k ds ρ')->R J H')->Zh_ X tg e σ H R
theorem uP_{S:Type}{X:Cx}{tg e:Expr}{ps:Pu (List D)}(h:AI X tg e ps):AEi (S:=S) X tg e (ePu ps):=λOK x k G F σ H ρ Q hO hX St ok kk=>h G F σ H ρ Q St (W.of hO hX ok λd F' H' s S' o v r=>kk d v F' H' ρ s S' r o)
def iSeq(K:Fg)(tl:TE):TI:=λσ H R=>tl σ H λx H1=>(∃a,x=.ref a/\(∃xs,SqL K H1 a xs)/\R (Itl K a) H1)\/∃a,x=.ref a/\(∃xs,SqT K H1 a xs)/\R (Itt K a) H1
theorem zdz_{X:Cx}{tg l:Expr}{tl:TE}(hl:PE X l tl):PI X tg l (iSeq X.K tl):=by
 intro pins s σ H R I h
 refine thn (hl pins s σ H _ I h) λv s1 ⟨x,H1,I1,r1,q1⟩=>?_
 rcases q1 with ⟨a,e,⟨xs,hq⟩,q⟩|⟨a,e,⟨xs,hq⟩,q⟩
 ·subst e
  cases r1
  obtain⟨its,rv,p,hz⟩:=I1.list hq
  refine wpAny_pyIter_list p.isList ?_
  refine⟨s1.heap.objs.size,[s1.heap.objs.size],_,_,H1,rfl,I1.kept (t':=s1.toks) λb o e=>zzc _ e,VL_ a _,⟨_,zze _ rfl,rfl,rfl⟩,λb hb=>?_,q⟩
  have e:b=s1.heap.objs.size:=by simpa using hb
  subst e
  exact I1.fpOk (Nat.le_refl _) (I1.hok.fresh (Nat.le_refl _))
 ·subst e
  cases r1
  obtain⟨its,rv,p,hz⟩:=I1.tuple hq
  refine wpAny_pyIter_tuple (show s1.heap.IsTuple a its.toArray from p) ?_
  refine⟨s1.heap.objs.size,[s1.heap.objs.size],_,_,H1,rfl,I1.kept (t':=s1.toks) λb o e=>zzc _ e,Q8_ a _,⟨_,zze _ rfl,rfl,rfl⟩,λb hb=>?_,q⟩
  have e:b=s1.heap.objs.size:=by simpa using hb
  subst e
  exact I1.fpOk (Nat.le_refl _) (I1.hok.fresh (Nat.le_refl _))
noncomputable def seqD:D->Option (List D)
 | .list ds=>some ds
 | .tuple ds=>some ds
 | _=>none
def pIt(p:Pu D):Pu (List D):=λρ=>bd (p ρ) λd=>oM (seqD d)
noncomputable def yd_(i:Int):Bool:=decide (-(2^62)<=i)&&decide (i<2^62)
theorem jU_{i:Int}(h:yd_ i=true) : -(2^62)<=i/\i<2^62:=by
 unfold yd_ at h
 simp only[Bool.and_eq_true,zzi]at h
 exact h
def jh_:List D->Option (List D)
 | [.int j]=>if yd_ j then some (yu_ 0 j.toNat)else none
 | _=>none
def yS_:List D->Option (List D)
 | [.int i,.int j]=>if yd_ i&&yd_ j then some (yu_ i (j - i).toNat)else none
 | _=>none
def zbf_{S:Type}(f:List D->Option (List D))(ms:Ev S (List D)):Ev S (List D):=λx k ρ=>ms x (λds ρ1=>(oM (f ds)).on (λe=>x e ρ1) (λr=>k r ρ1)) ρ
section
variable {S:Type}{X:Cx}{tg e a b:Expr}{pp:Pu D}{ps:Pa (List D)}{m:Ev S D}{ms:Ev S (List D)}{p pos:Pos}
theorem XE_{F H:Hp}{v:V}{d:D}{ds:List D}{R:It->Hp->Prop}(s:Same F H)(r:Rep X.K F v d)(hd:seqD d=some ds)(k:∀J,Walk X.K J ds F->R J H) :
  (∃a,v=.ref a/\(∃xs,SqL X.K H a xs)/\R (Itl X.K a) H)\/∃a,v=.ref a/\(∃xs,SqT X.K H a xs)/\R (Itt X.K a) H:=by
 cases d with
 | list xs =>
  cases hd
  obtain⟨a,vs,rfl,h1,h2⟩:=r.lst_inv
  exact .inl ⟨_,rfl,⟨_,s.seq h1⟩,k _ (VI_ h1 h2)⟩
 | tuple xs =>
  cases hd
  obtain⟨a,vs,rfl,h1,h2⟩:=r.tup_inv
  exact .inr ⟨_,rfl,⟨_,SqT.of (s _ _ h1)⟩,k _ (XA_ (SqT.of h1) h2)⟩
 | _=>exact noS hd
theorem yI_(h:AP X e pp):AI X tg e (pIt pp):=λG F σ H ρ R S w=>semI (zdz_ zn_) (h G F σ H ρ _ S (w.bind.imp λd F1 H1 s1 S1 w1 v r1=>by
 obtain⟨ds,hd,k⟩:=w1.opt
 exact XE_ S1.fh r1 hd (k F1 H1 (Same.refl _) S1)))
theorem Uy_{F H:Hp}{vs:List V}{ds out:List D}{R:It->Hp->Prop}(r:RepL X.K F vs ds)(h:jh_ ds=some out)(k:∀J,Walk X.K J out F->R J H):∃j,vs=[.int j] /\ -(2^62)<=j/\j<2^62/\R (Itr 0 j.toNat) H:=by
 unfold jh_ at h
 split at h
 ·rename_i j
  split at h
  ·rename_i hs
   cases h
   obtain⟨v,rfl,r1⟩:=r.one_inv
   obtain rfl:=r1.int_inv
   exact⟨j,rfl,(jU_ hs).1,(jU_ hs).2,k _ (Ja_ 0 j.toNat)⟩
  ·cases h
 ·cases h
theorem V2_{F H:Hp}{vs:List V}{ds out:List D}{R:It->Hp->Prop}(r:RepL X.K F vs ds)(h:yS_ ds=some out)(k:∀J,Walk X.K J out F->R J H) :
  ∃i j,vs=[.int i,.int j]/\(-(2^62)<=i/\i<2^62 /\ -(2^62)<=j/\j<2^62)/\R (Itr i (j - i).toNat) H:=by
 unfold yS_ at h
 split at h
 ·rename_i i j
  split at h
  ·rename_i hs
   cases h
   rw[Bool.and_eq_true]at hs
   obtain⟨v,u,rfl,r1,r3⟩:=r.two_inv
   obtain rfl:=r1.int_inv
   obtain rfl:=r3.int_inv
   exact⟨i,j,rfl,⟨(jU_ hs.1).1,(jU_ hs.1).2,(jU_ hs.2).1,(jU_ hs.2).2⟩,k _ (Ja_ i (j - i).toNat)⟩
  ·cases h
 ·cases h
theorem j3_(hg:Gl X "range")(hm:X.mg "range" = none)(ha:AA X [a] ps)(hs:starEach [a] X.env=[(false,eval a X.env)]):AI X tg (.Call (.Name "range" p) [a] [] pos) (UE_ jh_ ps) :=
 λG F σ H ρ R S w=>semI (UB_ hg hm ji_ hs) (ha G F σ H ρ _ _ _ S w λds vs F1 H1 s1 S1 _ r1 w1=>by
  obtain⟨out,hd,k⟩:=w1.opt
  exact Uy_ r1 hd (k F1 H1 (Same.refl _) S1))
theorem Xp_(hg:Gl X "range")(hm:X.mg "range" = none)(ha:AA X [a,b] ps)(hs:starEach [a,b] X.env=[(false,eval a X.env),(false,eval b X.env)])(hs2:starEach [b] X.env=[(false,eval b X.env)]):AI X tg (.Call (.Name "range" p) [a,b] [] pos) (UE_ yS_ ps) :=
 λG F σ H ρ R S w=>semI (Wb_ hg hm ji_ hs hs2) (ha G F σ H ρ _ _ _ S w λds vs F1 H1 s1 S1 _ r1 w1=>by
  obtain⟨out,hd,k⟩:=w1.opt
  exact V2_ r1 hd (k F1 H1 (Same.refl _) S1))
theorem VE_(hg:Gl X "range")(hm:X.mg "range" = none)(ha:AEa X [a] ms)(hs:starEach [a] X.env=[(false,eval a X.env)]):AEi X tg (.Call (.Name "range" p) [a] [] pos) (zbf_ jh_ ms) :=
 λOK x k G F σ H ρ R hO hX St ok kk=>semI (UB_ hg hm ji_ hs) (ha OK x _ G F σ H ρ _ hO hX St ok λds vs F1 H1 ρ1 s1 S1 _ r1 o1=>by
  obtain⟨out,hd,o⟩:=yx_ hO o1
  exact Uy_ r1 hd λJ wk=>kk out J F1 H1 ρ1 s1 S1 wk o)
end
noncomputable abbrev Tg(S:Type):=D->(En->M S)->En->M S
noncomputable def UT_(ρ:En)(i:Nat):Bool:=decide (i<ρ.length)&&(match ρ[i]? with
 | some (some (.op _))=>false
 | _=>true)
theorem uU_{ρ:En}{i:Nat}(h:UT_ ρ i=true):i<ρ.length/\∀c,ρ[i]? ≠ some (some (.op c)):=by
 unfold UT_ at h
 rw[Bool.and_eq_true]at h
 refine⟨by simpa using h.1,λc e=>?_⟩
 rw[e]at h
 exact absurd h.2 (by simp)
@[irreducible] noncomputable def Vd_(X:Cx)(tg:Expr):TG:=λv σ H Q=>∀(pins:List (Addr×Obj)) (s:Shared) (u:Value),Inv X pins σ H s->RelV v u->wpAny (model X.prog X.w) X.A (assign tg X.env u) (λ_ s'=>∃σ' H',Inv X pins σ' H' s'/\Q σ' H') X.xe s
@[irreducible] noncomputable def Un_(X:Cx)(tgs:List Expr):TGs:=λvs σ H Q=>∀(pins:List (Addr×Obj)) (s:Shared) (us:List Value),Inv X pins σ H s->Vals vs us->wpAny (model X.prog X.w) X.A (assignInOrder ((assignEach tgs X.env).map (·.2)) us) (λ_ s'=>∃σ' H',Inv X pins σ' H' s'/\Q σ' H') X.xe s
theorem Jk_{X:Cx}{tg:Expr}:PG X tg (Vd_ X tg):=λpins s σ H v u Q I r h=>by unfold Vd_ at h;exact h pins s u I r
theorem Wc_{X:Cx}{tgs:List Expr}:PGs X tgs (Un_ X tgs):=λpins s σ H vs us Q I r h=>by unfold Un_ at h;exact h pins s us I r
theorem semG{X:Cx}{tg:Expr}{t:TG}{v:V}{σ:L2.St}{H:Hp}{Q:L2.St->Hp->Prop}(h:PG X tg t)(q:t v σ H Q):Vd_ X tg v σ H Q:=by unfold Vd_;exact λpins s u I r=>h pins s σ H v u Q I r q
theorem zdh_{X:Cx}{tgs:List Expr}{t:TGs}{vs:List V}{σ:L2.St}{H:Hp}{Q:L2.St->Hp->Prop}(h:PGs X tgs t)(q:t vs σ H Q):Un_ X tgs vs σ H Q:=by unfold Un_;exact λpins s us I r=>h pins s σ H vs us Q I r q
def AG{S:Type}(X:Cx)(n:Nat)(tg:Expr)(st:Tg S):Prop :=
 ∀(OK:M S->Prop) (k:En->M S) (G:Gh) (F:Hp) (σ:L2.St) (H:Hp) (ρ:En) (v:V) (d:D) (Q:L2.St->Hp->Prop),KOk OK->StOk X.K G F σ H ρ->Rep X.K F v d->OK (st d k ρ) ->
  (∀σ' ρ',StOk X.K G F σ' H ρ'->(∀j,j<n->σ'[j]? = σ[j]? /\ ρ'[j]? = ρ[j]?)->σ'.length=σ.length->ρ'.length=ρ.length->OK (k ρ')->Q σ' H)->Vd_ X tg v σ H Q
def AGs{S:Type}(X:Cx)(n:Nat)(tgs:List Expr)(st:List D->(En->M S)->En->M S):Prop :=
 ∀(OK:M S->Prop) (k:En->M S) (G:Gh) (F:Hp) (σ:L2.St) (H:Hp) (ρ:En) (vs:List V) (ds:List D) (Q:L2.St->Hp->Prop),KOk OK->StOk X.K G F σ H ρ->RepL X.K F vs ds->OK (st ds k ρ) ->
  (∀σ' ρ',StOk X.K G F σ' H ρ'->(∀j,j<n->σ'[j]? = σ[j]? /\ ρ'[j]? = ρ[j]?)->σ'.length=σ.length->ρ'.length=ρ.length->OK (k ρ')->Q σ' H)->Un_ X tgs vs σ H Q
def gSet{S:Type}(i:Nat):Tg S:=λd k ρ=>match UT_ ρ i with
 | true=>k (ρ.set i (some (.fz d)))
 | false=>.bad
noncomputable def zfF_{S:Type}:List D->(En->M S)->En->M S
 | [],k,ρ=>k ρ
 | _,_,_=>.bad
noncomputable def zex_{S:Type}(t:Tg S)(ts:List D->(En->M S)->En->M S):List D->(En->M S)->En->M S
 | d::ds,k,ρ=>t d (λρ1=>ts ds k ρ1) ρ
 | [],_,_=>.bad
noncomputable def un2{S:Type}(d:D)(k:D->D->M S):M S:=match d with
 | .tuple [a,b]=>k a b
 | _=>.bad
noncomputable def un4{S:Type}(d:D)(k:D->D->D->D->M S):M S:=match d with
 | .tuple [a,b,c,e]=>k a b c e
 | _=>.bad
def zeA_{S:Type}(ts:List D->(En->M S)->En->M S):Tg S:=λd k ρ=>un2 d λa b=>ts [a,b] k ρ
def zez_{S:Type}(ts:List D->(En->M S)->En->M S):Tg S:=λd k ρ=>un4 d λa b c e=>ts [a,b,c,e] k ρ
section
variable {S:Type}{X:Cx}{pos:Pos}{n:Nat}
theorem zy_{i:Nat}{x:Str}(hn:n<=i)(hN:X.N.Nodup)(hi:X.N[i]? = some x)(hx:Loc X.env.scope x)(hf:X.fn x=true\/X.env.scope.names.lookup x=some .local):AG (S:=S) X n (.Name x pos) (gSet i):=by
 intro OK k G F σ H ρ v d Q hO S r ok kk
 unfold gSet at ok
 split at ok
 ·rename_i ho
  obtain⟨hl,hop⟩:=uU_ ho
  refine semG (zbN_ hN hi hx hf) ?_
  exact kk _ _ (S.store hop hl (.inl ⟨d,rfl,r⟩)) (λj hj=>⟨List.getElem?_set_ne (by lia),List.getElem?_set_ne (by lia)⟩) (by simp) (by simp) ok
 ·exact(hO ok).elim
theorem Y5_:AGs (S:=S) X n [] zfF_:=by
 intro OK k G F σ H ρ vs ds Q hO S r ok kk
 cases ds with
 | nil =>
  cases r
  exact zdh_ zbM_ ⟨rfl,kk σ ρ S (λ_ _=>⟨rfl,rfl⟩) rfl rfl ok⟩
 | cons d ds=>exact(hO ok).elim
theorem jI_{e:Expr}{es:List Expr}{st:Tg S}{sts:List D->(En->M S)->En->M S}(h1:AG X n e st)(h2:AGs X n es sts)
  (hs:(assignEach (e::es) X.env).map (·.2)=assign e X.env::(assignEach es X.env).map (·.2)):AGs X n (e::es) (zex_ st sts):=by
 intro OK k G F σ H ρ vs ds Q hO S r ok kk
 cases ds with
 | nil=>exact(hO ok).elim
 | cons d ds =>
  cases r with
  | cons rv rr =>
   refine zdh_ (XR_ Jk_ Wc_ hs) ⟨_,_,rfl,?_⟩
   refine h1 OK _ G F σ H ρ _ d _ hO S rv ok λσ1 ρ1 S1 kp1 l1 m1 o1=>?_
   exact h2 OK k G F σ1 H ρ1 _ ds _ hO S1 rr o1 λσ2 ρ2 S2 kp2 l2 m2 o2=>kk σ2 ρ2 S2 (λj hj=>⟨(kp2 j hj).1.trans (kp1 j hj).1,(kp2 j hj).2.trans (kp1 j hj).2⟩) (l2.trans l1) (m2.trans m1) o2
theorem Xq_{es:List Expr}{kk l:Nat}{sts:List D->(En->M S)->En->M S}{st:Tg S}(hc:X.calm=true)(h:AGs X n es sts)(hn:(assignEach es X.env).length=l)(hst:(assignEach es X.env).findIdx? (·.1)=none)
  (hw:∀(OK:M S->Prop) d k ρ,KOk OK->OK (st d k ρ)->∃ds,d=.tuple ds/\ds.length=l/\OK (sts ds k ρ)):AG X n (.Tuple es kk pos) st:=by
 intro OK k G F σ H ρ v d Q hO S r ok k2
 obtain⟨ds,rfl,hl,ok⟩:=hw OK d k ρ hO ok
 cases r with
 | tup h1 h2 =>
  refine semG (zdA_ hc Wc_ hn hst) ⟨_,_,rfl,SqT.of (S.fh _ _ h1),by rw[h2.length];exact hl,?_⟩
  exact h OK k G F σ H ρ _ ds _ hO S h2 ok k2
theorem zcP_{es:List Expr}{kk:Nat}{sts:List D->(En->M S)->En->M S}(hc:X.calm=true)(h:AGs X n es sts)(hn:(assignEach es X.env).length=2)(hst:(assignEach es X.env).findIdx? (·.1)=none):AG X n (.Tuple es kk pos) (zeA_ sts) :=
 Xq_ hc h hn hst λOK d k ρ hO o=>by
  unfold zeA_ un2 at o
  split at o
  ·exact⟨_,rfl,rfl,o⟩
  ·exact(hO o).elim
theorem Xr_{es:List Expr}{kk:Nat}{sts:List D->(En->M S)->En->M S}(hc:X.calm=true)(h:AGs X n es sts)(hn:(assignEach es X.env).length=4)(hst:(assignEach es X.env).findIdx? (·.1)=none):AG X n (.Tuple es kk pos) (zez_ sts) :=
 Xq_ hc h hn hst λOK d k ρ hO o=>by
  unfold zez_ un4 at o
  split at o
  ·exact⟨_,rfl,rfl,o⟩
  ·exact(hO o).elim
end
noncomputable abbrev SM(S:Type):=KS S->En->M S
structure EOk{S:Type}(X:Cx)(OK:M S->Prop)(K:KS S)(G:Gh)(F:Hp)(E:Ends):Prop where
 nx:∀F' σ' H' ρ',Same F F'->StOk X.K G F' σ' H' ρ'->OK (K.nx ρ')->E.nx σ' H'
 rt:∀F' σ' H' ρ' d v,Same F F'->StOk X.K G F' σ' H' ρ'->Rep X.K F' v d->OK (K.rt d ρ')->E.rt v H'
 rl:∀F' σ' H' ρ' ds v,Same F F'->StOk X.K G F' σ' H' ρ'->Frs X.K G F' σ' H' ρ' v (.l ds)->OK (K.rl ds ρ')->E.rt v H'
 bk:∀F' σ' H' ρ',Same F F'->StOk X.K G F' σ' H' ρ'->OK (K.bk ρ')->E.bk σ' H'
 ct:∀F' σ' H' ρ',Same F F'->StOk X.K G F' σ' H' ρ'->OK (K.ct ρ')->E.ct σ' H'
theorem EOk.up{S:Type}{X:Cx}{OK:M S->Prop}{K:KS S}{G:Gh}{F F':Hp}{E:Ends}(h:EOk X OK K G F E)(s:Same F F'):EOk X OK K G F' E :=
 ⟨λF2 σ' H' ρ' s2=>h.nx F2 σ' H' ρ' (s.trans s2),λF2 σ' H' ρ' d v s2=>h.rt F2 σ' H' ρ' d v (s.trans s2),λF2 σ' H' ρ' d v s2=>h.rl F2 σ' H' ρ' d v (s.trans s2),λF2 σ' H' ρ' s2=>h.bk F2 σ' H' ρ' (s.trans s2),λF2 σ' H' ρ' s2=>h.ct F2 σ' H' ρ' (s.trans s2)⟩
@[irreducible] noncomputable def Vc_(X:Cx)(st:Stmt):TS:=λE σ H=>∀(pins:List (Addr×Obj)) (s:Shared),Inv X pins σ H s->wpAny (model X.prog X.w) X.A (exec st X.env) (SP X pins E) X.xe s
@[irreducible] noncomputable def VM_(X:Cx)(sts:List Stmt):TS:=λE σ H=>∀(pins:List (Addr×Obj)) (s:Shared),Inv X pins σ H s->wpAny (model X.prog X.w) X.A (execs sts X.env) (SP X pins E) X.xe s
section
variable {X:Cx}{st:Stmt}{sts:List Stmt}{σ:L2.St}{H:Hp}{E:Ends}{t:TS}
theorem zaG_:PS X st (Vc_ X st):=λpins s σ H E I h=>by unfold Vc_ at h;exact h pins s I
theorem yf_:PSs X sts (VM_ X sts):=λpins s σ H E I h=>by unfold VM_ at h;exact h pins s I
theorem semS(h:PS X st t)(q:t E σ H):Vc_ X st E σ H:=by unfold Vc_;exact λpins s I=>h pins s σ H E I q
theorem semB(h:PSs X sts t)(q:t E σ H):VM_ X sts E σ H:=by unfold VM_;exact λpins s I=>h pins s σ H E I q
end
def AS{S:Type}(X:Cx)(st:Stmt)(m:SM S):Prop :=
 ∀(OK:M S->Prop) (K:KS S) (G:Gh) (F:Hp) (σ:L2.St) (H:Hp) (ρ:En) (E:Ends),KOk OK->XL X OK K.x G->StOk X.K G F σ H ρ->OK (m K ρ)->EOk X OK K G F E->Vc_ X st E σ H
def ASs{S:Type}(X:Cx)(st:List Stmt)(m:SM S):Prop :=
 ∀(OK:M S->Prop) (K:KS S) (G:Gh) (F:Hp) (σ:L2.St) (H:Hp) (ρ:En) (E:Ends),KOk OK->XL X OK K.x G->StOk X.K G F σ H ρ->OK (m K ρ)->EOk X OK K G F E->VM_ X st E σ H
section
variable {S:Type}
noncomputable def zfc_:SM S:=λK ρ=>K.nx ρ
noncomputable def sSeq(m n:SM S):SM S:=λK ρ=>m { K with nx:=λρ1=>n K ρ1 } ρ
noncomputable def sIf(c:Ev S Bool)(m n:SM S):SM S:=λK ρ=>c K.x (λb ρ1=>if b then m K ρ1 else n K ρ1) ρ
def sTo(sh:List Kd)(m:SM S):SM S:=λK ρ=>m { K with nx:=λρ1=>rdk sh (λs=>K.nx (wr sh s)) ρ1 } ρ
def sSet(i:Nat)(m:Ev S D):SM S:=λK ρ=>m K.x (λd ρ1=>match UT_ ρ1 i with
 | true=>K.nx (ρ1.set i (some (.fz d)))
 | false=>.bad) ρ
def zfa_(i:Nat)(m:Ev S (List D)):SM S:=λK ρ=>m K.x (λds ρ1=>match UT_ ρ1 i with
 | true=>K.nx (ρ1.set i (some (.ol (.l ds))))
 | false=>.bad) ρ
noncomputable def sAsg(t:Tg S)(m:Ev S D):SM S:=λK ρ=>m K.x (λd ρ1=>t d K.nx ρ1) ρ
noncomputable def sRet(m:Ev S D):SM S:=λK ρ=>m K.x K.rt ρ
noncomputable def zfb_(m:Ev S (List D)):SM S:=λK ρ=>m K.x K.rl ρ
noncomputable def setO(ρ:En)(i:Nat)(ds:List D):En:=match ρ[i]? with
 | some (some (.op _))=>ρ.set i (some (.op (.l ds)))
 | _=>ρ.set i (some (.ol (.l ds)))
def sMut(i:Nat)(f:List D->List D->Option (List D))(ms:Ev S (List D)):SM S:=λK ρ=>match ownL ρ i with
 | some _=>ms K.x (λas ρ1=>match ownL ρ1 i with
  | some ds=>(oM (f ds as)).on (λe=>K.x e ρ1) (λds'=>K.nx (setO ρ1 i ds'))
  | none=>.bad) ρ
 | none=>.bad
noncomputable def forC{T:Type}(step:T->D->(T->M S)->M S):List D->T->(T->M S)->M S
 | [],s,k=>k s
 | d::r,s,k=>step s d (λs'=>forC step r s' k)
@[reducible] def X5_(sh:List Kd)(K:KS S)(kn:SOf sh->M S):KS S:={ K with
  nx:=λρ3=>rdk sh kn ρ3
  ct:=λρ3=>rdk sh kn ρ3
  bk:=λρ3=>rdk sh (λs'=>K.nx (wr sh s')) ρ3 }
def sFor(sh:List Kd)(it:Ev S (List D))(t:Tg S)(mb:SM S):SM S:=λK ρ=>it K.x (λds ρ1=>rdk sh (λs=>forC (λs d kn=>t d (λρ2=>mb (X5_ sh K kn) ρ2) (wr sh s)) ds s (λs'=>K.nx (wr sh s'))) ρ1) ρ
end
theorem Zl_(ρ:En)(i:Nat)(ds ds0:List D)(h:ownL ρ i=some ds0):setO ρ i ds=ρ.set i ((ρ[i]?.join).map fun | .op _=>.op (.l ds)|_=>.ol (.l ds)):=by
 unfold ownL at h
 unfold setO
 split at h
 ·rename_i q;rw[q];rfl
 ·rename_i q;rw[q];rfl
 ·cases h
theorem Zo_{S:Type}{OK:M S->Prop}(hO:KOk OK){sh:List Kd}{k:SOf sh->M S}{ρ:En}(h:OK (rdk sh k ρ)):∃s,rd sh ρ=some s/\OK (k s):=by
 unfold rdk at h
 split at h
 ·rename_i s e;exact⟨s,e,h⟩
 ·exact(hO h).elim
section
variable {S:Type}{X:Cx}{st:Stmt}{sts rest:List Stmt}{m n:SM S}{e c a b:Expr}{me:Ev S D}{mt:Ev S Bool}{ml:Ev S (List D)}{pos pos' tpos:Pos}
theorem zw_:ASs (S:=S) X [] zfc_:=λOK K G F σ H ρ E hO hX St ok eo=>semB zbI_ (eo.nx F σ H ρ (Same.refl _) St ok)
theorem zf_(h1:AS X st m)(h2:ASs X rest n):ASs X (st::rest) (sSeq m n):=λOK K G F σ H ρ E hO hX St ok eo =>
 semB (XP_ zaG_ yf_) (h1 OK { K with nx:=λρ1=>n K ρ1 } G F σ H ρ _ hO hX St ok ⟨λF' σ' H' ρ' s S' o=>h2 OK K G F' σ' H' ρ' E hO hX S' o (eo.up s),eo.rt,eo.rl,eo.bk,eo.ct⟩)
theorem zj_(h1:AS X st m):ASs X [st] m:=λOK K G F σ H ρ E hO hX St ok eo=>semB (zbH_ zaG_) (h1 OK K G F σ H ρ E hO hX St ok eo)
theorem jC_{A B:List Stmt}(hc:AEt X c mt)(ha:ASs X A m)(hb:ASs X B n):AS X (.If c A B pos) (sIf mt m n):=λOK K G F σ H ρ E hO hX St ok eo =>
 semS (zfl_ u4_ yf_ yf_) (hc OK K.x _ G F σ H ρ _ hO hX St ok λt F1 H1 ρ1 s1 S1 o1=>by
  cases t with
  | true=>exact ha OK K G F1 σ H1 ρ1 E hO hX S1 o1 (eo.up s1)
  | false=>exact hb OK K G F1 σ H1 ρ1 E hO hX S1 o1 (eo.up s1))
theorem z2_{sh:List Kd}(h:AS X st m):AS X st (sTo sh m):=λOK K G F σ H ρ E hO hX St ok eo =>
 h OK { K with nx:=λρ1=>rdk sh (λs=>K.nx (wr sh s)) ρ1 } G F σ H ρ E hO hX St ok ⟨λF' σ' H' ρ' s S' o=>by
  obtain⟨s',e',o'⟩:=Zo_ hO o
  exact eo.nx F' σ' H' _ s (S'.rd e') o',eo.rt,eo.rl,eo.bk,eo.ct⟩
theorem zq_(he:AE X e me):AS X (.Return (some e) pos) (sRet me):=λOK K G F σ H ρ E hO hX St ok eo =>
 semS (zaH_ zn_) (he OK K.x K.rt G F σ H ρ _ hO hX St ok λd v F1 H1 ρ1 s1 S1 r1 o1=>eo.rt F1 σ H1 ρ1 d v s1 S1 r1 o1)
theorem zcO_(he:AEl X e ml):AS X (.Return (some e) pos) (zfb_ ml):=λOK K G F σ H ρ E hO hX St ok eo =>
 semS (zaH_ zn_) (he OK K.x K.rl G F σ H ρ _ hO hX St ok λd v F1 H1 ρ1 s1 S1 r1 o1=>eo.rl F1 σ H1 ρ1 d v s1 S1 r1 o1)
theorem zT_{i:Nat}{x:Str}(hN:X.N.Nodup)(hi:X.N[i]? = some x)(hx:Loc X.env.scope x)(he:AE X e me)(hs:swapsWith e (some (.Name x pos')) pos.line X.env=pure false)(hf:X.fn x=true\/X.env.scope.names.lookup x=some .local) :
  AS X (.Assign [.Name x pos'] e pos) (sSet i me):=λOK K G F σ H ρ E hO hX St ok eo =>
 semS (zaF_ hN hi hx zn_ hs hf) (he OK K.x _ G F σ H ρ _ hO hX St ok λd v F1 H1 ρ1 s1 S1 r1 o1=>by
  split at o1
  ·rename_i ho
   obtain⟨hl,hop⟩:=uU_ ho
   exact eo.nx F1 _ H1 _ s1 (S1.store hop hl (.inl ⟨d,rfl,r1⟩)) o1
  ·exact(hO o1).elim)
theorem Uf_{i:Nat}{x:Str}(hN:X.N.Nodup)(hi:X.N[i]? = some x)(hx:Loc X.env.scope x)(he:AEl X e ml)(hs:swapsWith e (some (.Name x pos')) pos.line X.env=pure false)(hf:X.fn x=true\/X.env.scope.names.lookup x=some .local) :
  AS X (.Assign [.Name x pos'] e pos) (zfa_ i ml):=λOK K G F σ H ρ E hO hX St ok eo =>
 semS (zaF_ hN hi hx zn_ hs hf) (he OK K.x _ G F σ H ρ _ hO hX St ok λd v F1 H1 ρ1 s1 S1 r1 o1=>by
  split at o1
  ·rename_i ho
   obtain⟨hl,hop⟩:=uU_ ho
   exact eo.nx F1 _ H1 _ s1 (S1.store hop hl (.inr ⟨.l d,rfl,r1⟩)) o1
  ·exact(hO o1).elim)
theorem zbn_{tg:Expr}{t:Tg S}(he:AE X e me)(hg:AG X 0 tg t)(hs:swapsWithSole [tg] e pos.line X.env=pure false)(hw:swappedStores [tg] e X.env=pure none)
  (h1:(assignEach [tg] X.env).map (·.2)=[assign tg X.env]):AS X (.Assign [tg] e pos) (sAsg t me):=λOK K G F σ H ρ E hO hX St ok eo =>
 semS (zaI_ zn_ Jk_ hs hw h1) (he OK K.x _ G F σ H ρ _ hO hX St ok λd v F1 H1 ρ1 s1 S1 r1 o1 =>
  hg OK K.nx G F1 σ H1 ρ1 v d _ hO S1 r1 o1 λσ' ρ' S' _ _ _ o'=>eo.nx F1 σ' H1 ρ' s1 S' o')
end
section
variable {S:Type}{X:Cx}{m n mb:SM S}{e c a b o:Expr}{me mi:Ev S D}{mt:Ev S Bool}{ml ms:Ev S (List D)}{pos pos' tpos apos cpos:Pos}
theorem zeK_{tg iter:Expr}{body:List Stmt}{sh:List Kd}{t:Tg S}(hp:PassesOwn (model X.prog X.w) X.A X.env X.xe)(hc:X.calm=true)(hi:AEi X tg iter ml)(hg:AG X 0 tg t)(hb:ASs X body mb)
  (hs:∀x,foldedSetIterable iter X.env x=pure x):AS X (.For tg iter body [] pos) (sFor sh ml t mb):=λOK K G F σ H ρ E hO hX St ok eo =>
 semS (zdy_ hp hc Qp_ Jk_ yf_ hs) (hi OK K.x _ G F σ H ρ _ hO hX St ok λds J F1 H1 ρ1 s1 S1 wk o1=>by
  obtain⟨s0,e0,o0⟩:=Zo_ hO o1
  have S0:=S1.rd e0
  clear o1
  generalize hstep:(λ(s:SOf sh) d (kn:SOf sh->M S)=>t d (λρ2=>mb (X5_ sh K kn) ρ2) (wr sh s))=step at o0
  refine⟨λi m σ' H'=>∃F' s,m=ds.length - i/\i<=ds.length/\Same F1 F'/\StOk X.K G F' σ' H' (wr sh s)/\OK (forC step (ds.drop i) s (λs'=>K.nx (wr sh s'))),⟨ds.length,F1,s0,rfl,Nat.zero_le _,Same.refl _,S0,o0⟩,?_⟩
  rintro i m σ' H' ⟨F',s,rfl,hi,s2,S2,go⟩
  by_cases hlt:i<ds.length
  ·have ed:ds.drop i=ds[i]::ds.drop (i+1):=List.drop_eq_getElem_cons hlt
   rw[ed]at go
   dsimp only[forC]at go
   rw[<-hstep]at go
   have again:∀F5 σ5 H5 ρ5,Same F' F5->StOk X.K G F5 σ5 H5 ρ5->OK (rdk sh (λs'=>forC step (ds.drop (i+1)) s' λs'=>K.nx (wr sh s')) ρ5) ->
     ∃m',m'<ds.length - i/\∃F' s,m'=ds.length - (i+1)/\i+1<=ds.length/\Same F1 F'/\StOk X.K G F' σ5 H5 (wr sh s)/\OK (forC step (ds.drop (i+1)) s (λs'=>K.nx (wr sh s'))):=λF5 σ5 H5 ρ5 s5 S5 o5=>by
    obtain⟨s',e',o'⟩:=Zo_ hO o5
    exact⟨ds.length - (i+1),by omega,F5,s',rfl,hlt,s2.trans s5,S5.rd e',o'⟩
   refine .inr ⟨wk.go i G F' σ' H' _ s2 S2 hlt,λσ4 H4=>∃m',m'<ds.length - i/\∃F' s,m'=ds.length - (i+1)/\i+1<=ds.length/\Same F1 F'/\StOk X.K G F' σ4 H4 (wr sh s)/\OK (forC step (ds.drop (i+1)) s (λs'=>K.nx (wr sh s'))),λσ4 H4 h4=>h4,λx H2 y=>?_⟩
   obtain⟨F3,s3,S3,r3⟩:=wk.yld i G F' σ' H' _ x H2 ds[i] s2 S2 (by simp[hlt]) y
   refine hg OK _ G F3 σ' H2 (wr sh s) x ds[i] _ hO S3 r3 go λσ3 ρ3 S4 _ _ _ o4=>?_
   rw[hstep]at o4
   refine hb OK (X5_ sh K λs'=>forC step (ds.drop (i+1)) s' λs'=>K.nx (wr sh s')) G F3 σ3 H2 ρ3 _ hO hX S4 o4 ⟨λF5 σ5 H5 ρ5 s5 S5 o5=>?_,λF5 σ5 H5 ρ5 d v s5=>eo.rt F5 σ5 H5 ρ5 d v ((s1.trans (s2.trans s3)).trans s5),λF5 σ5 H5 ρ5 d v s5=>eo.rl F5 σ5 H5 ρ5 d v ((s1.trans (s2.trans s3)).trans s5),λF5 σ5 H5 ρ5 s5 S5 o5=>?_,λF5 σ5 H5 ρ5 s5 S5 o5=>?_⟩
   ·exact again F5 σ5 H5 ρ5 (s3.trans s5) S5 o5
   ·obtain⟨s',e',o'⟩:=Zo_ hO o5
    exact eo.nx F5 σ5 H5 _ ((s1.trans (s2.trans s3)).trans s5) (S5.rd e') o'
   ·exact again F5 σ5 H5 ρ5 (s3.trans s5) S5 o5
  ·have ei:i=ds.length:=by omega
   subst ei
   rw[List.drop_length]at go
   exact .inl ⟨wk.stop G F' σ' H' _ s2 S2,eo.nx F' σ' H' _ (s1.trans s2) S2 go⟩)
theorem Zp_{K:Fg}{G:Gh}{F H:Hp}{σ:L2.St}{ρ:En}{i:Nat}{ds:List D}(St:StOk K G F σ H ρ)(h:ownL ρ i=some ds):∃a vs,σ[i]? = some (some (.ref a))/\H a=some (.lst vs)/\RepL K F vs ds:=by
 obtain⟨a,ea,oa⟩:=St.ow i _ (Zb_ h)
 obtain⟨vs,h1,h2⟩:=oa.he
 exact⟨a,vs,ea,h1,h2⟩
theorem Wg_{K:Fg}{G:Gh}{F H:Hp}{σ:L2.St}{ρ:En}{i:Nat}{a:Addr}{ds ds':List D}{vs':List V}(St:StOk K G F σ H ρ)(h:ownL ρ i=some ds)(ha:σ[i]? = some (some (.ref a)))(r:RepL K F vs' ds') :
  StOk K G F σ (upd H a (.lst vs')) (setO ρ i ds'):=by
 rw[Zl_ ρ i ds' ds h]
 exact St.change (Zb_ h) ha (c':=.l ds') ⟨_,jA_,r⟩
noncomputable def mApp(ds as:List D):Option (List D):=match as with
 | [d]=>if ds.length<sizeLine then some (ds++[d])else none
 | _=>none
theorem Xj_{i:Nat}{x:Str}(hN:X.N[i]? = some x)(hv:Vis X.env.scope x)(he:AEa X [e] ms)
  (hbase:attributeBase (.Name x pos') "append" X.env (eval (.Name x pos') X.env)=eval (.Name x pos') X.env)
  (hfew:((backTo cpos (starEach [e] X.env)).all (λx=>!x.1)&&(backToKw cpos (keywordEach [] X.env)).all (λx=>x.1.isSome)
   && decide ([e].length+([]:List Keyword).length+(if([]:List Keyword).isEmpty then 0 else 1)<30))=true)
  (hline:(apos.endLine==cpos.line)=true) (hs:starEach [e] X.env=(false,eval e X.env)::starEach [] X.env) (hplain:(backTo cpos (starEach [] X.env)).any (·.1)=false)
  (hsw:swapsWith (.Call (.Attribute (.Name x pos') "append" apos) [e] [] cpos) none pos.line X.env=pure false) (hd:(x==("__debug__" : Str))=false:=by decide) (hcd:(x==("__classdict__" : Str))=false:=by decide) :
  AS X (.Expr (.Call (.Attribute (.Name x pos') "append" apos) [e] [] cpos) pos) (sMut i mApp ms):=λOK K G F σ H ρ E hO hX St ok eo =>
 semS (zbJ_ (zfn_ PySem.F.plainAttrs_list PySem.F.slot_list_append PySem.F.type_list_append Ws_ (UC_ hN hv hd hcd) ji_ hbase hfew hline hs hplain) hsw) (by
  unfold sMut at ok
  split at ok
  case h_2=>exact(hO ok).elim
  ·rename_i ds0 h0
   obtain⟨a,vs0,ea,hh,_⟩:=Zp_ St h0
   refine⟨_,ea,.inl ⟨rfl,vs0,.inl (.inl hh)⟩,he OK K.x _ G F σ H ρ _ hO hX St ok λas ws F1 H1 ρ1 s1 S1 _ r1 o1=>?_⟩
   split at o1
   ·rename_i ds hds
    obtain⟨ds',hf,o2⟩:=yx_ hO o1
    obtain⟨a',vs,ea',hh',rv⟩:=Zp_ S1 hds
    rw[ea]at ea'
    injection ea' with ea';injection ea' with ea';injection ea' with ea'
    subst ea'
    unfold mApp at hf
    split at hf
    ·split at hf
     ·rename_i hz
      cases hf
      cases r1 with
      | cons ra rb =>
       cases rb
       refine⟨a,vs,_,rfl,rfl,hh',by rw[rv.length];exact hz,?_⟩
       exact eo.nx F1 σ _ _ s1 (Wg_ S1 hds ea (rv.append (.cons ra .nil))) o2
     ·cases hf
    ·cases hf
   ·exact(hO o1).elim)
end
theorem map_some_get{α:Type}{l:List α}{i:Nat}{x:α}:(l.map some)[i]? = some (some x)↔l[i]? = some x:=by
 rw[List.getElem?_map]
 cases l[i]? <;> simp
open Classical in
noncomputable def zx_(G:Gh)(σ:L2.St)(ρ:En)(H:Hp)(ex:Option Addr):Hp:=λb=>if(∃(i:Nat) (c:OC),own ρ i c/\σ[i]? = some (some (V.ref b)))/\some b≠ex then H b else G.O b
noncomputable def setC(ρ:En)(j:Nat)(c:OC):En:=ρ.set j ((ρ[j]?.join).map fun | .op _=>.op c|_=>.ol c)
section
variable {K:Fg}{G:Gh}{F F' H H':Hp}{σ:L2.St}{ρ:En}{vs:List V}{ds:List D}
theorem jx_{ex:Option Addr}(S:StOk K G F σ H ρ){b:Addr}{o:HO}(h:G.O b=some o):zx_ G σ ρ H ex b=some o:=by
 unfold zx_
 rw[if_neg]
 ·exact h
 ·rintro⟨⟨i,c,ho,e⟩,_⟩
  obtain⟨a,e',oa⟩:=S.ow i c ho
  rw[e]at e'
  injection e' with e';injection e' with e';injection e' with e'
  subst e'
  rw[oa.no]at h;cases h
theorem uz_{ex:Option Addr}{b:Addr}{i:Nat}{c:OC}(ho:own ρ i c)(e:σ[i]? = some (some (V.ref b)))(hx:some b≠ex):zx_ G σ ρ H ex b=H b:=by
 unfold zx_
 rw[if_pos ⟨⟨i,c,ho,e⟩,hx⟩]
theorem Yg_{ex:Option Addr}(S:StOk K G F σ H ρ):Same (zx_ G σ ρ H ex) H:=λb o h=>by
 unfold zx_ at h
 split at h
 ·exact h
 ·exact S.oh b o h
theorem _root_.L3.Held.notup{K:Fg}{F H:Hp}{a:Addr}{c:OC}{o:HO}(h:Held K F H a c)(e:H a=some o):NoTE o:=by
 cases c with
 | l ds=>obtain⟨vs,h1,_⟩:=h;rw[h1]at e;cases e;exact True.intro
 | t es=>obtain⟨vs,h1,_⟩:=h;rw[h1]at e;cases e;exact True.intro
 | k es=>obtain⟨vs,h1,_⟩:=h;rw[h1]at e;cases e;exact True.intro
 | i x ns ds=>obtain⟨C,dx,fs,h1,_⟩:=h;rw[h1]at e;cases e;exact True.intro
theorem Yh_{ex:Option Addr}(S:StOk K G F σ H ρ):∀b o,zx_ G σ ρ H ex b=some o->F b=none/\NoTE o:=λb o h=>by
 unfold zx_ at h
 split at h
 ·rename_i hc
  obtain⟨⟨i,c,ho,e⟩,_⟩:=hc
  obtain⟨a,e',oa⟩:=S.ow i c ho
  rw[e]at e'
  injection e' with e';injection e' with e';injection e' with e'
  subst e'
  exact⟨oa.nf,oa.he.notup h⟩
 ·exact S.fo b o h
theorem ZI_{i:Nat}{av:AV}(h:((ds.map AV.fz).map some)[i]? = some (some av)):∃d,av=.fz d/\ds[i]? = some d:=by
 rw[map_some_get,List.getElem?_map]at h
 cases q:ds[i]? with
 | none=>rw[q]at h;cases h
 | some d=>rw[q]at h;cases h;exact⟨d,rfl,rfl⟩
theorem yA_{i:Nat}{c:OC}(h:own ((ds.map AV.fz).map some) i c):False:=by
 rcases h with h|h<;>(obtain⟨d,z,_⟩:=ZI_ h;cases z)
theorem yG_(S:StOk K G F σ H ρ)(r:RepL K F vs ds):StOk K ⟨λ_=>none,zx_ G σ ρ H none,F⟩ F (vs.map some) H ((ds.map AV.fz).map some):=by
 refine⟨S.fh,Yg_ S,Yh_ S,by simp[r.length],λi d h=>?_,λi c h=>(yA_ h).elim,λi j c e a h=>(yA_ h).elim,λi a h=>(nomatch h),λi c h=>?_,Same.refl _⟩
 ·obtain⟨d',z,e⟩:=ZI_ h
  cases z
  obtain⟨v,e1,e2⟩:=r.get e
  exact⟨v,map_some_get.mpr e1,e2⟩
 ·obtain⟨d',z,e⟩:=ZI_ h;cases z
theorem JA_{avs':List AV}(S:StOk K G F σ H ρ)(s1:Same F F')(S1:StOk K ⟨λ_=>none,zx_ G σ ρ H none,F⟩ F' (vs.map some) H' (avs'.map some)) :
  StOk K G F' σ H' ρ/\∀v c,Frs K ⟨λ_=>none,zx_ G σ ρ H none,F⟩ F' (vs.map some) H' (avs'.map some) v c->Frs K G F' σ H' ρ v c:=by
 have oo:∀b,zx_ G σ ρ H none b=none->G.O b=none:=λb h=>by
  cases q:G.O b with
  | none=>rfl
  | some o=>rw[jx_ S q]at h;cases h
 refine⟨⟨S1.fh,λb o h=>S1.oh b o (jx_ S h),λb o h=>S1.fo b o (jx_ S h),S.ln,λi d h=>?_,λi c h=>?_,S.dj,S.pp,S.pq,S.fb.trans s1⟩,λv cc h=>?_⟩
 ·obtain⟨v,e,r⟩:=S.fz i d h;exact⟨v,e,r.mono s1⟩
 ·obtain⟨a,e,oa⟩:=S.ow i c h
  obtain⟨o,ho⟩:=oa.he.some
  have q:zx_ G σ ρ H none a=some o:=by rw[uz_ h e (by simp)];exact ho
  exact⟨a,e,(S1.fo a o q).1,oa.no,(oa.he.mono s1).at (by rw[S1.oh a o q,ho])⟩
 ·obtain⟨a,rfl,oa,_⟩:=h
  refine⟨a,rfl,⟨oa.nf,oo a oa.no,oa.he⟩,λi e ho q=>?_⟩
  obtain⟨a',e',oa'⟩:=S.ow i e ho
  rw[q]at e'
  injection e' with e';injection e' with e';injection e' with e'
  subst e'
  obtain⟨o,hh⟩:=oa'.he.some
  have:=oa.no
  rw[show(⟨λ_=>none,zx_ G σ ρ H none,F⟩:Gh).O a=zx_ G σ ρ H none a from rfl,uz_ ho q (by simp),hh]at this
  cases this
noncomputable def P1(a:Addr):Nat->Option Addr
 | 0=>some a
 | _=>none
theorem W8_{j:Nat}{c:OC}{a:Addr}(S:StOk K G F σ H ρ)(hj:own ρ j c)(ha:σ[j]? = some (some (V.ref a)))(r:RepL K F vs ds) :
  StOk K ⟨P1 a,zx_ G σ ρ H (some a),F⟩ F ((V.ref a::vs).map some) H ((AV.op c::ds.map AV.fz).map some):=by
 obtain⟨a',e',oa⟩:=S.ow j c hj
 rw[ha]at e'
 injection e' with e';injection e' with e';injection e' with e'
 subst e'
 have at0:∀i d,own ((AV.op c::ds.map AV.fz).map some) i d->i=0/\d=c:=λi d h=>by
  cases i with
  | zero=>rcases h with h|h<;>(simp at h);exact⟨rfl,h.symm⟩
  | succ i=>exact(yA_ (ds:=ds) (i:=i) (c:=d) (by unfold own at h ⊢;simpa using h)).elim
 refine⟨S.fh,Yg_ S,Yh_ S,by simp[r.length],λi d h=>?_,λi d h=>?_,λi k d e b h1 h2 _ _=>?_,λi b h=>?_,λi d h=>?_,Same.refl _⟩
 ·cases i with
  | zero=>simp at h
  | succ i =>
   obtain⟨d',z,e⟩:=ZI_ (ds:=ds) (i:=i) (av:=.fz d) (by simpa using h)
   cases z
   obtain⟨v,e1,e2⟩:=r.get e
   exact⟨v,by simpa using e1,e2⟩
 ·obtain⟨rfl,rfl⟩:=at0 i d h
  refine⟨a,rfl,oa.nf,?_,oa.he⟩
  show zx_ G σ ρ H (some a) a=none
  unfold zx_
  rw[if_neg (by simp)]
  exact oa.no
 ·rw[(at0 i d h1).1,(at0 k e h2).1]
 ·cases i with
  | zero=>cases h;exact⟨rfl,c,rfl⟩
  | succ i=>cases h
 ·cases i with
  | zero=>exact⟨a,rfl⟩
  | succ i =>
   obtain⟨d',z,e⟩:=ZI_ (ds:=ds) (i:=i) (av:=.op d) (by simpa using h)
   cases z
theorem Vz_{j:Nat}{c c':OC}{a:Addr}{l:List AV}(S:StOk K G F σ H ρ)(hj:own ρ j c)(ha:σ[j]? = some (some (V.ref a)))(s1:Same F F')
  (S1:StOk K ⟨P1 a,zx_ G σ ρ H (some a),F⟩ F' ((V.ref a::vs).map some) H' ((AV.op c'::l).map some)) :
  StOk K G F' σ H' (setC ρ j c')/\∀v cc,Frs K ⟨P1 a,zx_ G σ ρ H (some a),F⟩ F' ((V.ref a::vs).map some) H' ((AV.op c'::l).map some) v cc->Frs K G F' σ H' (setC ρ j c') v cc:=by
 have oo:∀b,zx_ G σ ρ H (some a) b=none->G.O b=none:=λb h=>by
  cases q:G.O b with
  | none=>rfl
  | some o=>rw[jx_ S q]at h;cases h
 obtain⟨a',e',oa⟩:=S.ow j c hj
 rw[ha]at e'
 injection e' with e';injection e' with e';injection e' with e'
 subst e'
 have hl:j<ρ.length:=by rcases hj with h|h<;>exact(List.getElem?_eq_some_iff.mp h).1
 generalize hav:((ρ[j]?.join).map λ(x:AV)=>match x with | .op _=>AV.op c'|_=>AV.ol c')=av
 have hset:setC ρ j c'=ρ.set j av:=by rw[<-hav];rfl
 rw[hset]
 have ne:∀i,i≠j->(ρ.set j av)[i]? = ρ[i]?:=λi hi=>List.getElem?_set_ne (Ne.symm hi)
 have atj:(ρ.set j av)[j]? = some av:=List.getElem?_set_self hl
 have kind:(ρ[j]? = some (some (.ol c))/\av=some (.ol c'))\/(ρ[j]? = some (some (.op c))/\av=some (.op c')):=by
  rcases hj with h|h
  ·exact .inl ⟨h,by rw[<-hav,h];rfl⟩
  ·exact .inr ⟨h,by rw[<-hav,h];rfl⟩
 have owni:∀i e,own (ρ.set j av) i e->(i=j/\e=c')\/(i≠j/\own ρ i e):=λi e h=>by
  by_cases hi:i=j
  ·subst hi
   unfold own at h
   rw[atj]at h
   rcases kind with ⟨_,k⟩|⟨_,k⟩<;>rw[k]at h<;>rcases h with h|h<;>cases h<;>exact .inl ⟨rfl,rfl⟩
  ·unfold own at h ⊢
   rw[ne i hi]at h
   exact .inr ⟨hi,h⟩
 have nea:∀i e b,i≠j->own ρ i e->σ[i]? = some (some (V.ref b))->b≠a:=λi e b hi ho q z=>by
  subst z
  exact hi (S.dj i j e c b ho hj q ha)
 have own1:OwnAt K ⟨P1 a,zx_ G σ ρ H (some a),F⟩ F' H' a c':=by
  obtain⟨b,e1,ob⟩:=S1.ow 0 c' (.inr rfl)
  have:V.ref a=V.ref b:=by simpa using e1
  injection this with this
  subst this
  exact ob
 refine⟨⟨S1.fh,λb o h=>S1.oh b o (jx_ S h),λb o h=>S1.fo b o (jx_ S h),by simpa using S.ln,λi d h=>?_,λi e h=>?_,λi k d e b h1 h2=>?_,λi b h=>?_,λi d h=>?_,S.fb.trans s1⟩,λv cc h=>?_⟩
 ·by_cases hi:i=j
  ·subst hi
   rw[atj]at h
   rcases kind with ⟨_,k⟩|⟨_,k⟩<;>rw[k]at h<;>cases h
  ·rw[ne i hi]at h
   obtain⟨v,e,r⟩:=S.fz i d h;exact⟨v,e,r.mono s1⟩
 ·rcases owni i e h with ⟨rfl,rfl⟩|⟨hi,ho⟩
  ·exact⟨a,ha,own1.nf,oa.no,own1.he⟩
  ·obtain⟨b,eb,ob⟩:=S.ow i e ho
   obtain⟨o,hh⟩:=ob.he.some
   have q:zx_ G σ ρ H (some a) b=some o:=by rw[uz_ ho eb (λz=>nea i e b hi ho eb (Option.some.inj z))];exact hh
   exact⟨b,eb,(S1.fo b o q).1,ob.no,(ob.he.mono s1).at (by rw[S1.oh b o q,hh])⟩
 ·have f:∀i e,own (ρ.set j av) i e->∃d,own ρ i d:=λi e h=>by
   rcases owni i e h with ⟨rfl,_⟩|⟨_,ho⟩
   ·exact⟨c,hj⟩
   ·exact⟨e,ho⟩
  exact S.dj i k _ _ b (f i d h1).choose_spec (f k e h2).choose_spec
 ·obtain⟨q1,e,q2⟩:=S.pp i b h
  refine⟨q1,?_⟩
  by_cases hi:i=j
  ·subst hi
   rcases kind with ⟨k1,k⟩|⟨k1,k⟩
   ·rw[k1]at q2;cases q2
   ·exact⟨c',by rw[atj,k]⟩
  ·exact⟨e,by rw[ne i hi];exact q2⟩
 ·by_cases hi:i=j
  ·subst hi
   rcases kind with ⟨k1,k⟩|⟨k1,k⟩
   ·rw[atj,k]at h;cases h
   ·exact S.pq i c k1
  ·rw[ne i hi]at h;exact S.pq i d h
 ·obtain⟨b,rfl,ob,nn⟩:=h
  refine⟨b,rfl,⟨ob.nf,oo b ob.no,ob.he⟩,λi e ho q=>?_⟩
  rcases owni i e ho with ⟨rfl,_⟩|⟨hi,ho'⟩
  ·rw[ha]at q
   injection q with q;injection q with q;injection q with q
   subst q
   exact nn 0 c' (.inr rfl) rfl
  ·obtain⟨b',eb,ob'⟩:=S.ow i e ho'
   rw[q]at eb
   injection eb with eb;injection eb with eb;injection eb with eb
   subst eb
   obtain⟨o,hh⟩:=ob'.he.some
   have:=ob.no
   rw[show(⟨P1 a,zx_ G σ ρ H (some a),F⟩:Gh).O b=zx_ G σ ρ H (some a) b from rfl,uz_ ho' q (λz=>nea i e b hi ho' q (Option.some.inj z)),hh]at this
   cases this
end
noncomputable abbrev fzs(ds:List D):En:=(ds.map AV.fz).map some
noncomputable def KD:KS D:=⟨λ_=>.ret .none,λd _=>.ret d,λ_ _=>.bad,λ_=>.bad,λ_=>.bad,λe _=>.exc e⟩
noncomputable def KL:KS (List D):=⟨λ_=>.bad,λ_ _=>.bad,λds _=>.ret ds,λ_=>.bad,λ_=>.bad,λe _=>.exc e⟩
noncomputable def at0{S:Type}(ρ:En)(k:List D->M S):M S:=match (ρ[0]? : Option (Option AV))with
 | some (some (AV.op (OC.l f)))=>k f
 | _=>.bad
def K1:KS (D×List D):=⟨λρ=>at0 ρ λf=>.ret (.none,f),λd ρ=>at0 ρ λf=>.ret (d,f),λ_ _=>.bad,λ_=>.bad,λ_=>.bad,λe _=>.exc e⟩
def EndM(K:Fg)(G:Gh)(E:XK){α:Type}(m:M α)(C:α->Prop):Prop:=match m with
 | .ret a=>C a
 | .exc x=>∀F' H' Cl dd,GOk G F' H'->XR K F' Cl dd x->E (.ref Cl) dd H'
 | .bad=>False
def spD(K:Fg)(n:Nat)(mf:List D->M D):Sp:=λvs H Q E=>∃G F ds,vs.length=n/\StOk K G F (vs.map some) H (fzs ds)/\EndM K G E (mf ds) λd=>∀v F' H',Same F F'->StOk K G F' (vs.map some) H' (fzs ds)->Rep K F' v d->Q v H'
def spL(K:Fg)(n:Nat)(mf:List D->M (List D)):Sp:=λvs H Q E=>∃G F ds,vs.length=n/\StOk K G F (vs.map some) H (fzs ds)/\EndM K G E (mf ds) λd=>∀v F' H',Same F F'->StOk K G F' (vs.map some) H' (fzs ds)->Frs K G F' (vs.map some) H' (fzs ds) v (.l d)->Q v H'
def sp1(K:Fg)(n:Nat)(mf:List D->List D->M (D×List D)):Sp:=λvs H Q E=>∃G F f ds,vs.length=n/\StOk K G F (vs.map some) H (some (.op (.l f))::fzs ds)/\EndM K G E (mf f ds) λr =>
 ∀v F' H',Same F F'->StOk K G F' (vs.map some) H' (some (.op (.l r.2))::fzs ds)->Rep K F' v r.1->Q v H'
section
variable {K:Fg}{G:Gh}{F F' H H':Hp}{vs:List V}{σ:L2.St}{ρ:En}{ds:List D}
theorem Xd_(S:StOk K G F (vs.map some) H (fzs ds))(s1:Same F F')(S1:StOk K G F' σ H' ρ):StOk K G F' (vs.map some) H' (fzs ds):=by
 refine⟨S1.fh,S1.oh,S1.fo,S.ln,λi d q=>?_,λi c q=>(yA_ q).elim,λi j c e a q=>(yA_ q).elim,S.pp,S.pq,S1.fb⟩
 obtain⟨v,e,r⟩:=S.fz i d q
 exact⟨v,e,r.mono s1⟩
theorem zcN_{v:V}{c:OC}(S1:StOk K G F' σ H' ρ)(h:Frs K G F' σ H' ρ v c):Frs K G F' (vs.map some) H' (fzs ds) v c:=by
 obtain⟨a,rfl,oa,_⟩:=h
 exact⟨a,rfl,oa,λi e q=>(yA_ q).elim⟩
theorem own1{f:List D}{i:Nat}{c:OC}(h:own (some (.op (.l f))::fzs ds) i c):i=0/\c=.l f:=by
 cases i with
 | zero=>rcases h with h|h<;>simp at h;exact⟨rfl,h.symm⟩
 | succ i=>exact(yA_ (ds:=ds) (i:=i) (c:=c) (by unfold own at h ⊢;simpa using h)).elim
theorem zbi_{f f':List D}(S:StOk K G F (vs.map some) H (some (.op (.l f))::fzs ds))(s1:Same F F')(S1:StOk K G F' σ H' ρ)(h0:ρ[0]? = some (some (.op (.l f')))) :
  StOk K G F' (vs.map some) H' (some (.op (.l f'))::fzs ds)/\∀v c,Frs K G F' σ H' ρ v c->Frs K G F' (vs.map some) H' (some (.op (.l f'))::fzs ds) v c:=by
 obtain⟨a,ha⟩:=S1.pq 0 _ h0
 obtain⟨e1,_⟩:=S1.pp 0 a ha
 obtain⟨e2,_⟩:=S.pp 0 a ha
 obtain⟨b,eb,ob⟩:=S1.ow 0 _ (.inr h0)
 rw[e1]at eb
 injection eb with eb;injection eb with eb;injection eb with eb
 subst eb
 have only:∀i b,G.P i=some b->i=0:=λi b h=>by
  obtain⟨_,c,q⟩:=S.pp i b h
  exact(own1 (.inr q)).1
 refine⟨⟨S1.fh,S1.oh,S1.fo,S.ln,λi d q=>?_,λi c q=>?_,λi j c e b q1 q2 _ _=>?_,λi b q=>?_,λi c q=>?_,S1.fb⟩,λv c h=>?_⟩
 ·cases i with
  | zero=>simp at q
  | succ i =>
   obtain⟨v,e,r⟩:=S.fz (i+1) d (by simpa using q)
   exact⟨v,e,r.mono s1⟩
 ·obtain⟨rfl,rfl⟩:=own1 q
  exact⟨a,e2,ob⟩
 ·rw[(own1 q1).1,(own1 q2).1]
 ·have:=only i b q
  subst this
  exact⟨(S.pp 0 b q).1,_,rfl⟩
 ·obtain⟨rfl,_⟩:=own1 (.inr q)
  exact⟨a,ha⟩
 ·obtain⟨b,rfl,ob2,nn⟩:=h
  refine⟨b,rfl,ob2,λi e q z=>?_⟩
  obtain⟨rfl,rfl⟩:=own1 q
  rw[e2]at z
  injection z with z;injection z with z;injection z with z
  subst z
  exact nn 0 _ (.inr h0) e1
end
section
variable {P:Program}{w:World}{K:Fg}{mg:Str->Option Value}{base:Heap}{x qual:Str}{st:Stmt}{f:Addr}{fd:FuncData}{N ps:List Str}{k:Nat}
theorem Qg_{vs:List V}{ds:List D}{G:Gh}{F H:Hp}(hl:vs.length=ps.length)(S0:StOk K G F (vs.map some) H (fzs ds)):StOk K G F (L2.start N vs) H (fzs ds++List.replicate (N.length - ps.length) none):=by
 have e0:L2.start N vs=vs.map some++List.replicate (N.length - ps.length) none:=by unfold L2.start;rw[hl]
 rw[e0]
 exact S0.grow _
theorem fn_x{sp:Sp}(Fn:Fun K x qual st f fd)(S:FnScope N ps (ze_ st))(len:∀vs H Q E,sp vs H Q E->vs.length=ps.length)
  (hbody:∀(cdv:Value) (A:Around) (outer:List Env) (s:Shared) (H:Hp) (vs:List V) (Q:VK) (E:XK),Room k (A.deeper (envOfC qual (ze_ st) s.heap.objs.size f cdv))->sp vs H Q E ->
   ∃t,PSs (cxOf (CX1 P w) P w K mg base N qual (ze_ st) f cdv A outer s H E) (zs_ st) t/\t { nx:=λ_ H'=>Q .non H',rt:=Q } (start N vs) H):FnOk P w K mg base (CX1 P w) (k+1) f fd ps sp:=by
 obtain⟨oc,od,kV,doc,pm,an,cdv,ct,osl,rfl,lk,hcd⟩:=Fn.ex
 exact zfH_ lk hcd S len λA outer s H vs Q E hr hsp=>hbody cdv A outer s H vs Q E hr hsp
theorem zcw_{α:Type}{C:α->Prop}{N:List Str}{qual:Str}{scope:Scope}{f:Addr}{cdv:Value}{A:Around}{outer:List Env}{s:Shared}{H F:Hp}{E:XK}{G:Gh}{ρ:En}{e:Ex}(h:EndM K G E (M.exc e:M α) C):XW (cxOf (CX1 P w) P w K mg base N qual scope f cdv A outer s H E) G F ρ e :=
 λF' H' s' a Cl dd pins σ g _ I xs _ xr=>zcd_ I xs (h F' H' Cl dd g xr)
theorem un_{mb:SM D}{mf:List D->M D}(Fn:Fun K x qual st f fd)(Sc:FnScope N ps (ze_ st))
  (hb:∀(cdv:Value) (A:Around) (outer:List Env) (s:Shared) (H:Hp) (E:XK),Room k (A.deeper (envOfC qual (ze_ st) s.heap.objs.size f cdv)) ->
   ASs (cxOf (CX1 P w) P w K mg base N qual (ze_ st) f cdv A outer s H E) (zs_ st) mb)
  (hm:∀ds,ds.length=ps.length->mf ds=mb KD (fzs ds++List.replicate (N.length - ps.length) none)):FnOk P w K mg base (CX1 P w) (k+1) f fd ps (spD K ps.length mf):=by
 refine fn_x Fn Sc (λvs H Q E h=>?_) (λcdv A outer s H vs Q E hr h=>?_)
 ·obtain⟨_,_,_,h1,_⟩:=h;exact h1
 ·obtain⟨G,F0,ds,h1,S0,e⟩:=h
  have hl:ds.length=ps.length:=by have:=S0.ln;simp at this;lia
  rw[hm ds hl]at e
  refine⟨_,yf_,hb cdv A outer s H E hr (λm=>EndM K G E m _) KD G F0 _ H _ _ (λz=>z) (λF ρ e z=>zcw_ z) (Qg_ h1 S0) e ?_⟩
  exact⟨λF' σ' H' ρ' s S' o=>(by exact o .non F' H' s (Xd_ S0 s S') .non),λF' σ' H' ρ' d' v s S' r o=>(by exact o v F' H' s (Xd_ S0 s S') r),λF' σ' H' ρ' d' v s S' r o=>(o:False).elim,λF' σ' H' ρ' s S' o=>(o:False).elim,λF' σ' H' ρ' s S' o=>(o:False).elim⟩
theorem zeB_{mb:SM (List D)}{mf:List D->M (List D)}(Fn:Fun K x qual st f fd)(Sc:FnScope N ps (ze_ st))
  (hb:∀(cdv:Value) (A:Around) (outer:List Env) (s:Shared) (H:Hp) (E:XK),Room k (A.deeper (envOfC qual (ze_ st) s.heap.objs.size f cdv)) ->
   ASs (cxOf (CX1 P w) P w K mg base N qual (ze_ st) f cdv A outer s H E) (zs_ st) mb)
  (hm:∀ds,ds.length=ps.length->mf ds=mb KL (fzs ds++List.replicate (N.length - ps.length) none)):FnOk P w K mg base (CX1 P w) (k+1) f fd ps (spL K ps.length mf):=by
 refine fn_x Fn Sc (λvs H Q E h=>?_) (λcdv A outer s H vs Q E hr h=>?_)
 ·obtain⟨_,_,_,h1,_⟩:=h;exact h1
 ·obtain⟨G,F0,ds,h1,S0,e⟩:=h
  have hl:ds.length=ps.length:=by have:=S0.ln;simp at this;lia
  rw[hm ds hl]at e
  refine⟨_,yf_,hb cdv A outer s H E hr (λm=>EndM K G E m _) KL G F0 _ H _ _ (λz=>z) (λF ρ e z=>zcw_ z) (Qg_ h1 S0) e ?_⟩
  exact⟨λF' σ' H' ρ' s S' o=>(o:False).elim,λF' σ' H' ρ' d' v s S' r o=>(o:False).elim,λF' σ' H' ρ' d' v s S' r o=>(by exact o v F' H' s (Xd_ S0 s S') (zcN_ S' r)),λF' σ' H' ρ' s S' o=>(o:False).elim,λF' σ' H' ρ' s S' o=>(o:False).elim⟩
theorem zbk_{S:Type}{ρ:En}{k:List D->M S}{K:Fg}{G:Gh}{E:XK}{C:S->Prop}(h:EndM K G E (at0 ρ k) C):∃f,ρ[0]? = some (some (AV.op (OC.l f)))/\EndM K G E (k f) C:=by
 unfold at0 at h
 split at h
 ·rename_i f q;exact⟨f,q,h⟩
 ·exact h.elim
theorem zbt_{vs:List V}{ds g:List D}{G:Gh}{F H:Hp}(hl:vs.length=ps.length)(S0:StOk K G F (vs.map some) H (some (.op (.l g))::fzs ds)):StOk K G F (L2.start N vs) H (some (.op (.l g))::fzs ds++List.replicate (N.length - ps.length) none):=by
 have e0:L2.start N vs=vs.map some++List.replicate (N.length - ps.length) none:=by unfold L2.start;rw[hl]
 rw[e0]
 exact S0.grow _
theorem Js_{mb:SM (D×List D)}{mf:List D->List D->M (D×List D)}(Fn:Fun K x qual st f fd)(Sc:FnScope N ps (ze_ st))
  (hb:∀(cdv:Value) (A:Around) (outer:List Env) (s:Shared) (H:Hp) (E:XK),Room k (A.deeper (envOfC qual (ze_ st) s.heap.objs.size f cdv)) ->
   ASs (cxOf (CX1 P w) P w K mg base N qual (ze_ st) f cdv A outer s H E) (zs_ st) mb)
  (hm:∀g ds,ds.length+1=ps.length->mf g ds=mb K1 (some (.op (.l g))::fzs ds++List.replicate (N.length - ps.length) none)):FnOk P w K mg base (CX1 P w) (k+1) f fd ps (sp1 K ps.length mf):=by
 refine fn_x Fn Sc (λvs H Q E h=>?_) (λcdv A outer s H vs Q E hr h=>?_)
 ·obtain⟨_,_,_,_,h1,_⟩:=h;exact h1
 ·obtain⟨G,F0,g,ds,h1,S0,e⟩:=h
  have hl:ds.length+1=ps.length:=by have:=S0.ln;simp at this;lia
  rw[hm g ds hl]at e
  refine⟨_,yf_,hb cdv A outer s H E hr (λm=>EndM K G E m _) K1 G F0 _ H _ _ (λz=>z) (λF ρ e z=>zcw_ z) (zbt_ h1 S0) e ?_⟩
  refine⟨λF' σ' H' ρ' s S' o=>?_,λF' σ' H' ρ' d' v s S' rv o=>?_,λF' σ' H' ρ' d' v s S' r o=>(o:False).elim,λF' σ' H' ρ' s S' o=>(o:False).elim,λF' σ' H' ρ' s S' o=>(o:False).elim⟩
  ·obtain⟨f',q,e'⟩:=zbk_ o
   exact e' .non F' H' s (zbi_ S0 s S' q).1 .non
  ·obtain⟨f',q,e'⟩:=zbk_ o
   exact e' v F' H' s (zbi_ S0 s S' q).1 rv
end
structure CF(P:Program)(w:World)(K:Fg)(mg:Str->Option Value)(base:Heap)(x:Str)(k:Nat)(sp:Sp):Prop where
 ex:∃(f:Addr) (fd:FuncData) (ps:List Str),FnOk P w K mg base (CX1 P w) k f fd ps sp/\mg x=some (.ref f)/\PySem.W.keepIn K (.ref f)=true/\L2.Binds K fd ps []
noncomputable def pFnD(mf:List D->M D)(ps:Pa D):Pu D:=λρ=>ps (λds=>mf ds) ρ
noncomputable def pFnL(mf:List D->M (List D))(ps:Pa (List D)):Pu (List D):=λρ=>ps (λds=>mf ds) ρ
section
variable {S:Type}
def eFn1(mf:List D->List D->M (D×List D))(i:Nat)(ms:Ev S (List D)):Ev S D:=λx k ρ=>ms x (λds ρ1=>match ownL ρ1 i with
 | some f=>(mf f ds).on (λe=>x e ρ1) (λr=>k r.1 (setO ρ1 i r.2))
 | none=>.bad) ρ
end
noncomputable def EX(X:Cx)(G:Gh)(σ:L2.St):XK:=λc dd H'=>∃x ρ F1 F' C,c=.ref C/\XW X G F1 ρ x/\GOk G F' H'/\FzOk X.K F' σ ρ/\XR X.K F' C dd x
theorem XS.older{H:Hp}{h:Heap}{lo lo':Nat}{e C:Addr}{dd:Option Addr}(xs:XS H h lo e C dd)(hl:lo'<=lo):XS H h lo' e C dd:=by
 obtain⟨oe,vs,q,c,d,z,z1,k⟩:=xs.obj
 refine⟨Nat.le_trans hl xs.yg,xs.trk,oe,vs,q,c,d,z,z1,k.imp id ?_⟩
 rintro⟨T,oT,ts,k,ne,l,r⟩
 exact⟨T,oT,ts,k,ne,Nat.le_trans hl l,r⟩
def Uh_(X:Cx)(σ:L2.St)(E:XK):Prop:=∀(pins:List (Addr×Obj)) (H:Hp) (s:Shared) (e:Value) (s':Shared),Inv X pins σ H s->CX1 X.prog X.w X.stack H s E e s'->X.xe e s'
theorem zbQ_{X:Cx}{G:Gh}{σ:L2.St}:Uh_ X σ (EX X G σ):=λpins H s e s' I h=>by
 obtain⟨a,C,dd,H',rfl,ho,hb,un,hk,xs,x,ρ,F1,F',C',ec,xw,g,fz,xr⟩:=h
 cases ec
 refine xw F' H' s' a C dd pins σ g fz (I.call' ho un hk hb λb z=>absurd z (by simp)) (xs.older I.sz) (λp hp z=>?_) xr
 exact absurd (Nat.lt_of_lt_of_le (Heap.lt_size (I.pin p hp).1) (xs.tb z).2.1) (Nat.lt_irrefl _)
theorem EX.of{X:Cx}{G:Gh}{F F' H' H:Hp}{σ:L2.St}{ρ:En}{x:Ex}{C:Addr}{dd:Option Addr}{ex:Option Addr}{p:Nat->Option Addr}(S:StOk X.K G F σ H ρ)(xw:XW X G F ρ x)(g:GOk ⟨p,zx_ G σ ρ H ex,F⟩ F' H')(xr:XR X.K F' C dd x):EX X G σ (.ref C) dd H' :=
 ⟨x,ρ,F,F',C,rfl,xw,⟨g.fh,λb o h=>g.oh b o (jx_ S h),λb o h=>g.fo b o (jx_ S h),S.fb.trans g.fb⟩,S.fzok g.fb,xr⟩
section
variable {X:Cx}{k:Nat}{f:Addr}{fd:FuncData}{ps:List Str}{sp:Sp}{E:XK}{x:Str}{p pos:Pos}{e:Expr}{es:List Expr}{σ:L2.St}{H:Hp}{Q:VK}
theorem zdl_{pins:List (Addr×Obj)}{s:Shared}{us:List Value}{vs:List V}(F:FnOk X.prog X.w X.K X.mg X.base (CX1 X.prog X.w) k f fd ps sp)(hr:Room k X.A)(hb:L2.Binds X.K fd ps [])(hx:Uh_ X σ E)
  (I:Inv X pins σ H s) (r:Vals vs us) (h:sp vs H Q E):wpAny (model X.prog X.w) X.A (call (.ref f) us) (EP X pins σ Q) X.xe s:=by
 have hl:(us++[]).length=ps.length:=by rw[List.append_nil,<-r.length];exact F.len _ _ _ _ h
 have bb:=hb s us I.kIn hl
 rw[List.append_nil]at bb
 refine wpAny_call (codeAny_mono (F.run X.A X.stack s H ⟨us,[]⟩ us vs Q E hr I.env0 bb r h) λr s' hq=>?_)
 cases r with
 | error e=>exact hx pins H s e s' I hq
 | ok fl =>
  cases fl with
  | ret u=>exact I.after hq
  | next=>exact False.elim hq
  | brk=>exact False.elim hq
  | cont=>exact False.elim hq
theorem JK_(F:FnOk X.prog X.w X.K X.mg X.base (CX1 X.prog X.w) k f fd ps sp)(hr:Room k X.A)(hg:Gl X x)(hm:X.mg x=some (.ref f))(hk:PySem.W.keepIn X.K (.ref f)=true)(hb:L2.Binds X.K fd ps [])(hx:Uh_ X σ E)
  (hdb:(x==("__debug__" : Str))=false) (he:starEach (e::es) X.env=(false,eval e X.env)::starEach es X.env) (hpl:(backTo pos (starEach es X.env)).any (·.1)=false)
  (h:Zi_ X (e::es) σ H λvs H1=>sp vs H1 Q E):tSem X (.Call (.Name x p) (e::es) [] pos) σ H Q:=by
 unfold tSem
 intro pins s I
 unfold Zi_ at h
 refine wpAny_Call_Name_kw (Wx_ I hg hm ?_ hdb)
 refine PySem.W.callWith_K (h₀:=X.base) I.ok.mod.kin hk (thn (h pos pins s I) λus s1 ⟨vs,H1,I1,r,q⟩=>⟨I1.kIn,?_⟩) he hpl
 exact zdl_ F hr hb hx I1 r q
end
section
variable {S:Type}{X:Cx}{k n:Nat}{mf:List D->M D}{ml:List D->M (List D)}{m1:List D->List D->M (D×List D)}{m1L:List D->List D->M (List D×List D)}{x:Str}{p pos pn:Pos}{e:Expr}{es:List Expr}{ps:Pa D}{pl:Pa (List D)}{ms:Ev S (List D)}
theorem uq_(C:CF X.prog X.w X.K X.mg X.base x k (spD X.K n mf))(hr:Room k X.A)(hg:Gl X x)(ha:AA X (e::es) ps)(hn:(e::es).length=n)
  (hdb:(x==("__debug__" : Str))=false) (he:starEach (e::es) X.env=(false,eval e X.env)::starEach es X.env) (hpl:(backTo pos (starEach es X.env)).any (·.1)=false):AP X (.Call (.Name x p) (e::es) [] pos) (pFnD mf ps):=by
 obtain⟨f,fd,pl,Fn,h1,h2,h3⟩:=C.ex
 intro G F σ H ρ Q St w
 refine JK_ Fn hr hg h1 h2 h3 (zbQ_ (G:=G)) hdb he hpl ?_
 refine ha G F σ H ρ _ _ _ St w λds vs F1 H1 s1 S1 hl r1 w1=>?_
 show spD X.K n mf vs H1 Q (EX X G σ)
 cases hd:mf ds with
 | bad=>rw[hd]at w1;exact w1.elim
 | exc e =>
  rw[hd]at w1
  exact⟨_,F1,ds,hl.trans hn,yG_ S1 r1,by rw[hd];exact λF' H' Cl dd g xr=>EX.of S1 w1 g xr⟩
 | ret d =>
  rw[hd]at w1
  refine⟨_,F1,ds,hl.trans hn,yG_ S1 r1,?_⟩
  rw[hd]
  intro v F2 H2 s2 S2 r2
  obtain⟨S3,t3⟩:=JA_ (avs':=ds.map AV.fz) S1 s2 S2
  exact w1 F2 H2 s2 S3 v r2
theorem zfM_(C:CF X.prog X.w X.K X.mg X.base x k (spL X.K n ml))(hr:Room k X.A)(hg:Gl X x)(ha:AA X (e::es) pl)(hn:(e::es).length=n)
  (hdb:(x==("__debug__" : Str))=false) (he:starEach (e::es) X.env=(false,eval e X.env)::starEach es X.env) (hpl:(backTo pos (starEach es X.env)).any (·.1)=false):AL X (.Call (.Name x p) (e::es) [] pos) (pFnL ml pl):=by
 obtain⟨f,fd,pz,Fn,h1,h2,h3⟩:=C.ex
 intro G F σ H ρ Q St w
 refine JK_ Fn hr hg h1 h2 h3 (zbQ_ (G:=G)) hdb he hpl ?_
 refine ha G F σ H ρ _ _ _ St w λds vs F1 H1 s1 S1 hl r1 w1=>?_
 show spL X.K n ml vs H1 Q (EX X G σ)
 cases hd:ml ds with
 | bad=>rw[hd]at w1;exact w1.elim
 | exc e =>
  rw[hd]at w1
  exact⟨_,F1,ds,hl.trans hn,yG_ S1 r1,by rw[hd];exact λF' H' Cl dd g xr=>EX.of S1 w1 g xr⟩
 | ret d =>
  rw[hd]at w1
  refine⟨_,F1,ds,hl.trans hn,yG_ S1 r1,?_⟩
  rw[hd]
  intro v F2 H2 s2 S2 r2
  obtain⟨S3,t3⟩:=JA_ (avs':=ds.map AV.fz) S1 s2 S2
  exact w1 F2 H2 s2 S3 v (t3 v _ r2)
theorem VU_{ρ:En}{i:Nat}{f g:List D}(h:ownL ρ i=some g):setO ρ i f=setC ρ i (.l f):=Zl_ ρ i f g h
theorem VB_{i:Nat}{y:Str}{OK:M S->Prop}{z:Ex->En->M S}{kk:List D->En->M S}{G:Gh}{F H:Hp}{σ:L2.St}{ρ:En}{Q:List V->Hp->Prop}(hN:X.N[i]? = some y)(hv:Vis X.env.scope y)(hd:(y==("__debug__" : Str))=false)(hcd:(y==("__classdict__" : Str))=false)
  (ha:AEa X es ms) (he:starEach (.Name y pn::es) X.env=(false,eval (.Name y pn) X.env)::starEach es X.env) (hO:KOk OK) (hX:XL X OK z G) (St:StOk X.K G F σ H ρ) (ok:OK (ms z (λds ρ1=>match ownL ρ1 i with|some f=>kk (.list f::ds) ρ1|none=>.bad) ρ))
  (h0:(ownL ρ i).isSome=true)
  (k2:∀a f ds vs F' H' ρ',Same F F'->StOk X.K G F' σ H' ρ'->ownL ρ' i=some f->σ[i]? = some (some (V.ref a))->vs.length=es.length->RepL X.K F' vs ds->OK (kk (.list f::ds) ρ')->Q (.ref a::vs) H'):Zi_ X (.Name y pn::es) σ H Q:=by
 obtain⟨f0,hf0⟩:=Option.isSome_iff_exists.mp h0
 obtain⟨a,_,ea,_,_⟩:=Zp_ St hf0
 refine semA (yg_ (UC_ hN hv hd hcd) ji_ he) ⟨_,ea,?_⟩
 refine ha OK z _ G F σ H ρ _ hO hX St ok λds vs F1 H1 ρ1 s1 S1 hl r1 o1=>?_
 split at o1
 ·rename_i f hf
  exact k2 a f ds vs F1 H1 ρ1 s1 S1 hf ea hl r1 o1
 ·exact(hO o1).elim
def ck{S α:Type}(i:Nat)(m:Ev S α):Ev S α:=λx k ρ=>match (ownL ρ i).isSome with
 | true=>m x k ρ
 | false=>.bad
theorem Jz_{K:Fg}{G:Gh}{F H:Hp}{σ:L2.St}{ρ:En}{vs:List V}{ds f:List D}{j:Nat}{a:Addr}(S:StOk K G F σ H ρ)(hj:ownL ρ j=some f)(ha:σ[j]? = some (some (V.ref a)))(r:RepL K F vs ds) :
  StOk K ⟨P1 a,zx_ G σ ρ H (some a),F⟩ F ((V.ref a::vs).map some) H (some (.op (.l f))::fzs ds):=W8_ S (Zb_ hj) ha r
theorem zC_{i:Nat}{y:Str}(C:CF X.prog X.w X.K X.mg X.base x k (sp1 X.K n m1))(hr:Room k X.A)(hg:Gl X x)(hN:X.N[i]? = some y)(hv:Vis X.env.scope y)(ha:AEa X es ms)(hn:es.length+1=n)
  (hdb:(x==("__debug__" : Str))=false) (he:starEach (.Name y pn::es) X.env=(false,eval (.Name y pn) X.env)::starEach es X.env) (hpl:(backTo pos (starEach es X.env)).any (·.1)=false)
  (hd:(y==("__debug__" : Str))=false:=by decide) (hcd:(y==("__classdict__" : Str))=false:=by decide):AE X (.Call (.Name x p) (.Name y pn::es) [] pos) (ck i (eFn1 m1 i ms)):=by
 obtain⟨f,fd,pl,Fn,h1,h2,h3⟩:=C.ex
 intro OK z kk G F σ H ρ Q hO hX St ok k2
 unfold ck at ok
 split at ok
 case h_2=>exact(hO ok).elim
 rename_i h0
 refine JK_ Fn hr hg h1 h2 h3 (zbQ_ (G:=G)) hdb he hpl ?_
 refine VB_ (OK:=OK) (z:=z) (kk:=λl ρ1=>match l with | .list f::ds=>(m1 f ds).on (λe=>z e ρ1) (λr=>kk r.1 (setO ρ1 i r.2))|_=>.bad) hN hv hd hcd ha he hO hX St ok h0 λa f ds vs F1 H1 ρ1 s1 S1 hf ea hl r1 o1=>?_
 have o1':OK ((m1 f ds).on (λe=>z e ρ1) (λr=>kk r.1 (setO ρ1 i r.2))):=o1
 show sp1 X.K n m1 (V.ref a::vs) H1 Q (EX X G σ)
 cases hd:m1 f ds with
 | bad=>rw[hd]at o1';exact(hO o1').elim
 | exc e =>
  rw[hd]at o1'
  exact⟨_,F1,f,ds,by simp[hl];exact hn,Jz_ S1 hf ea r1,by rw[hd];exact λF' H' Cl dd g xr=>EX.of S1 (hX F1 ρ1 e o1') g xr⟩
 | ret r =>
  rw[hd]at o1'
  refine⟨_,F1,f,ds,by simp[hl];exact hn,Jz_ S1 hf ea r1,?_⟩
  rw[hd]
  intro v F2 H2 s2 S2 r2
  obtain⟨S3,t3⟩:=Vz_ (c':=.l r.2) (l:=ds.map AV.fz) S1 (Zb_ hf) ea s2 S2
  rw[<-VU_ hf]at S3
  exact k2 r.1 v F2 H2 _ (s1.trans s2) S3 r2 o1'
end
theorem zl_{k:Nat}{A:Around}(r:Room k A):A.units+1100<cLine:=by have:=r.un;lia
noncomputable def noX{S:Type}(m:M S):M S:=match m with
 | .ret s=>.ret s
 | _=>.bad
theorem Zv_{S:Type}(s:S):noX (M.ret s)=.ret s:=rfl
def j4_(step:D->M (Option D)):List D->M (List D)
 | []=>.ret []
 | d::r=>bd (noX (step d)) λo=>bd (j4_ step r) λxs=>.ret (o.toList++xs)
theorem QM_{step:D->M (Option D)}:∀{ds:List D} {e:Ex},j4_ step ds≠.exc e
 | [],e,h=>by cases h
 | d::r,e,h=>by
  unfold j4_ at h
  cases hs:step d with
  | ret o =>
   rw[hs,Zv_,ZP_]at h
   cases hr:j4_ step r with
   | ret xs=>rw[hr]at h;cases h
   | exc e'=>exact QM_ hr
   | bad=>rw[hr]at h;cases h
  | exc e'=>rw[hs]at h;cases h
  | bad=>rw[hs]at h;cases h
def zdO_(k:Nat)(it:Pu (List D))(t:Tg (Option D))(pt:Pu Bool)(pe:Pu D):Pu (List D):=λρ=>bd (it ρ) λds =>
 bd (j4_ (λd=>t d (λρ1=>bd (pt ρ1) λb=>if b then bd (pe ρ1) λv=>.ret (some v)else .ret none) (ρ++List.replicate k none)) ds) fitM
def uy_{T:Type}(step:T->D->M (Option D×T)):List D->T->M (List D×T)
 | [],s=>.ret ([],s)
 | d::r,s=>bd (noX (step s d)) λp=>bd (uy_ step r p.2) λq=>.ret (p.1.toList++q.1,q.2)
theorem QL_{T:Type}{step:T->D->M (Option D×T)}:∀{ds:List D} {s:T} {e:Ex},uy_ step ds s≠.exc e
 | [],s,e,h=>by cases h
 | d::r,s,e,h=>by
  unfold uy_ at h
  cases hs:step s d with
  | ret o =>
   rw[hs,Zv_,ZP_]at h
   cases hr:uy_ step r o.2 with
   | ret xs=>rw[hr]at h;cases h
   | exc e'=>exact QL_ hr
   | bad=>rw[hr]at h;cases h
  | exc e'=>rw[hs]at h;cases h
  | bad=>rw[hs]at h;cases h
def zcy_{S:Type}(sh:List Kd)(k:Nat)(it:Ev S (List D))(t:Tg (Option D×SOf sh))(et:Ev (Option D×SOf sh) Bool)(ee:Ev (Option D×SOf sh) D):Ev S (List D):=λx kk ρ=>it x (λds ρ1=>rdk sh (λs =>
 (uy_ (λs d=>t d (λρ2=>et (λe _=>.exc e) (λb ρ3=>if b then ee (λe _=>.exc e) (λv ρ4=>rdk sh (λs'=>.ret (some v,s')) (ρ4.take sh.length)) ρ3 else rdk sh (λs'=>.ret (none,s')) (ρ3.take sh.length)) ρ2) (wr sh s++List.replicate k none)) ds s).on
  (λe=>x e ρ1) (λq=>(fitM q.1).on (λe=>x e ρ1) (λout=>kk out (wr sh q.2)))) ρ1) ρ
noncomputable def zfp_:Pu Bool:=λ_=>.ret true
def ATs(X:Cx)(ifs:List Expr)(p:Pu Bool):Prop :=
 ∀(G:Gh) (F:Hp) (σ:L2.St) (H:Hp) (ρ:En) (Q:Bool->Hp->Prop),StOk X.K G F σ H ρ->W X G F σ ρ (p ρ) (λd F' H'=>Q d H')->∀(pins:List (Addr×Obj)) (s:Shared),Inv X pins σ H s ->
  wpAny (model X.prog X.w) X.A (forIn ifs true λc r=>if r=true then do let ok <-isTrue c X.env (eval c X.env);pure (ForInStep.yield ok)else pure (ForInStep.yield r)) (TP X pins σ Q) X.xe s
theorem j1_{X:Cx}:ATs X [] zfp_:=λG F σ H ρ Q S w pins s I=>zbG_ pins s σ H Q I (w F H (Same.refl _) S)
def AEts{S:Type}(X:Cx)(ifs:List Expr)(m:Ev S Bool):Prop :=
 ∀(OK:M S->Prop) (x:Ex->En->M S) (k:Bool->En->M S) (G:Gh) (F:Hp) (σ:L2.St) (H:Hp) (ρ:En) (Q:Bool->Hp->Prop),KOk OK->XL X OK x G->StOk X.K G F σ H ρ->OK (m x k ρ) ->
  (∀d F' H' ρ',Same F F'->StOk X.K G F' σ H' ρ'->OK (k d ρ')->Q d H')->∀(pins:List (Addr×Obj)) (s:Shared),Inv X pins σ H s ->
  wpAny (model X.prog X.w) X.A (forIn ifs true λc r=>if r=true then do let ok <-isTrue c X.env (eval c X.env);pure (ForInStep.yield ok)else pure (ForInStep.yield r)) (TP X pins σ Q) X.xe s
theorem ZR_{S:Type}{X:Cx}{ifs:List Expr}{p:Pu Bool}(h:ATs X ifs p):AEts (S:=S) X ifs (ePu p):=λOK x k G F σ H ρ Q hO hX St ok kk=>h G F σ H ρ Q St (W.of hO hX ok λd F' H' s S' o=>kk d F' H' ρ s S' o)
theorem W.rets{X:Cx}{G:Gh}{F:Hp}{σ:L2.St}{ρ:En}{α:Type}{m:M α}{a:α}{C:α->Hp->Hp->Prop}(e:m=.ret a)(h:∀F' H',Same F F'->StOk X.K G F' σ H' ρ->C a F' H'):W X G F σ ρ m C:=by subst e;exact h
theorem zax_:∀(sh:List Kd) (s:SOf sh),(wr sh s).length=sh.length:=by
 intro sh
 induction sh with
 | nil=>intro s;rfl
 | cons a r ih=>intro s;cases a<;>simp[wr,ih]
inductive CIv{τ:Type}(K:Fg)(G:Gh)(σ:L2.St)(k:Nat)(ds:List D)(F1:Hp)(en:τ->En)(go:Nat->τ->List D->Prop)(out:List D):Nat->Nat->List V->L2.St->Hp->Prop
 | mk {i:Nat} {vs:List V} {σ':L2.St} {H':Hp} (F':Hp) (acc rest:List D) (s:τ) (hi:i<=ds.length) (s2:Same F1 F') (S2:StOk K G F' σ' H' (en s)) (kp:∀j,j<σ.length->σ'[j]? = σ[j]?) (hl:σ'.length=σ.length+k) (rp:RepL K F' vs acc) (g:go i s rest) (eo:out=acc++rest):CIv K G σ k ds F1 en go out i (ds.length - i) vs σ' H'
theorem CIv.on{τ:Type}{K:Fg}{G:Gh}{σ:L2.St}{k:Nat}{ds:List D}{F1:Hp}{en:τ->En}{go:Nat->τ->List D->Prop}{out:List D}{i:Nat}{vs:List V}{σ':L2.St}{H':Hp}(F':Hp)(acc rest:List D)(s:τ)(hi:i<ds.length)(s2:Same F1 F')(S2:StOk K G F' σ' H' (en s))(kp:∀j,j<σ.length->σ'[j]? = σ[j]?)(hl:σ'.length=σ.length+k)(rp:RepL K F' vs acc)(g:go (i+1) s rest)(eo:out=acc++rest):∃m',m'<ds.length - i/\CIv K G σ k ds F1 en go out (i+1) m' vs σ' H' :=
 ⟨ds.length - (i+1),by lia,⟨F',acc,rest,s,hi,s2,S2,kp,hl,rp,g,eo⟩⟩
theorem Vx_{step:D->M (Option D)}{d:D}{r rest:List D}(h:j4_ step (d::r)=.ret rest):∃o rest',step d=.ret o/\j4_ step r=.ret rest'/\rest=o.toList++rest':=by
 unfold j4_ at h
 cases hs:step d with
 | bad=>rw[hs]at h;cases h
 | exc e=>rw[hs]at h;cases h
 | ret o =>
  rw[hs,Zv_,ZP_]at h
  cases hr:j4_ step r with
  | bad=>rw[hr]at h;cases h
  | exc e=>rw[hr]at h;cases h
  | ret rest'=>rw[hr,ZP_]at h;cases h;exact⟨o,rest',rfl,rfl,rfl⟩
theorem Vw_{T:Type}{step:T->D->M (Option D×T)}{d:D}{r rest:List D}{s sf:T}(h:uy_ step (d::r) s=.ret (rest,sf)):∃o sn rest',step s d=.ret (o,sn)/\uy_ step r sn=.ret (rest',sf)/\rest=o.toList++rest':=by
 unfold uy_ at h
 cases hs:step s d with
 | bad=>rw[hs]at h;cases h
 | exc e=>rw[hs]at h;cases h
 | ret o =>
  obtain⟨o,sn⟩:=o
  rw[hs,Zv_,ZP_]at h
  cases hr:uy_ step r sn with
  | bad=>rw[hr]at h;cases h
  | exc e=>rw[hr]at h;cases h
  | ret q'=>obtain⟨rest',sf'⟩:=q';rw[hr,ZP_]at h;cases h;exact⟨o,sn,rest',rfl,hr,rfl⟩
theorem Ys_{A B:Type}{m:M A}{f:A->M B}{b:B}(h:bd m f=.ret b):∃a,m=.ret a/\f a=.ret b:=by
 cases m with
 | bad=>cases h
 | exc e=>cases h
 | ret a=>exact⟨a,rfl,h⟩
section
variable {X:Cx}
def VP_(X:Cx)(N':List Str)(scope:Scope)(tg:Expr):TG:=λv σ H Q=>∀cl s H0 fp C,Vd_ (zD_ X N' scope cl s H0 fp C) tg v σ H Q
def VO_(X:Cx)(N':List Str)(scope:Scope)(ifs:List Expr):TT:=λσ H Q=>∀cl s0 H0 fp C,∀(pins:List (Addr×Obj)) (s:Shared),Inv (zD_ X N' scope cl s0 H0 fp C) pins σ H s ->
  wpAny (model X.prog X.w) (zD_ X N' scope cl s0 H0 fp C).A (forIn ifs true λc r=>if r=true then do let ok <-isTrue c (zD_ X N' scope cl s0 H0 fp C).env (eval c (zD_ X N' scope cl s0 H0 fp C).env);pure (ForInStep.yield ok)else pure (ForInStep.yield r)) (TP (zD_ X N' scope cl s0 H0 fp C) pins σ Q) (zD_ X N' scope cl s0 H0 fp C).xe s
def VQ_(X:Cx)(N':List Str)(scope:Scope)(e:Expr):TE:=λσ H Q=>∀cl s H0 fp C,tSem (zD_ X N' scope cl s H0 fp C) e σ H Q
variable {elt tg iter:Expr}{ifs:List Expr}{scope:Scope}{pos:Pos}{N':List Str}{k:Nat}
theorem zcF_{it:Pu (List D)}{t:Tg (Option D)}{pt:Pu Bool}{pe:Pu D}{G:Gh}{F:Hp}{σ:L2.St}{H:Hp}{ρ:En}{Q:VK}(hi:AI X tg iter it)
  (hg:∀cl s H fp C,AG (zD_ X N' scope cl s H fp C) X.N.length tg t) (ht:∀cl s H fp C,ATs (zD_ X N' scope cl s H fp C) ifs pt) (he:∀cl s H fp C,AP (zD_ X N' scope cl s H fp C) elt pe)
  (hσ:σ.length=X.N.length) (St:StOk X.K G F σ H ρ) (w:W X G F σ ρ (zdO_ k it t pt pe ρ) λds F' H'=>∀v,Frs X.K G F' σ H' ρ v (.l ds)->Q v H') :
  XB_ (Zh_ X tg iter) k (VP_ X N' scope tg) (VO_ X N' scope ifs) (VQ_ X N' scope elt) σ H Q:=by
 refine hi G F σ H ρ _ St (w.bind.imp λds F1 H1 s1 S1 w1 J wk=>?_)
 have hP:∀i a,G.P i=some a->i<σ.length:=λi a h=>(List.getElem?_eq_some_iff.mp (S1.pp i a h).1).1
 have hln:σ.length=ρ.length:=S1.ln
 have wc:=w1.bind
 revert wc
 generalize hstep:(λd=>t d (λρ1=>bd (pt ρ1) λb=>if b then bd (pe ρ1) λv=>.ret (some v)else .ret none) (ρ++List.replicate k none))=step
 intro wc
 cases hcc:j4_ step ds with
 | bad=>rw[hcc]at wc;exact wc.elim
 | exc e=>exact(QM_ hcc).elim
 | ret out =>
  rw[hcc]at wc
  have wf:∀F' H',Same F1 F'->StOk X.K G F' σ H' ρ->W X G F' σ ρ (fitM out) λds F' H'=>∀v,Frs X.K G F' σ H' ρ v (.l ds)->Q v H':=wc
  have hfit:out.length<=sizeLine:=(wf F1 H1 (Same.refl _) S1).fit.1
  have fin:∀F' H',Same F1 F'->StOk X.K G F' σ H' ρ->∀v,Frs X.K G F' σ H' ρ v (.l out)->Q v H':=λF' H' s' S'=>(wf F' H' s' S').fit.2 F' H' (Same.refl _) S'
  have grown:∀{F' H' σ' ρ'},StOk X.K G F' σ' H' ρ'->(∀j,j<σ.length->σ'[j]? = σ[j]? /\ ρ'[j]? = ρ[j]?)->σ'.length=σ.length+k->StOk X.K G F' σ' H' (ρ++List.replicate k none):=λ{F' H' σ' ρ'} S' kp hl=>by
   refine S'.weak (by have:=S'.ln;simp;lia) (λi av q=>?_) (λi c q=>?_)
   ·have q':=uY_ q
    have hi:i<σ.length:=by rw[hln];exact(List.getElem?_eq_some_iff.mp q').1
    rw[(kp i hi).2];exact q'
   ·obtain⟨a,ha⟩:=S'.pq i c q
    have hi:=hP i a ha
    rw[List.getElem?_append_left (by lia),<-(kp i hi).2]
    exact q
  refine⟨CIv X.K G σ k ds F1 (λ_:Unit=>ρ++List.replicate k none) (λi _ rest=>j4_ step (ds.drop i)=.ret rest) out,
   ⟨_,⟨F1,[],out,(),Nat.zero_le _,Same.refl _,S1.grow k,λj hj=>by rw[List.getElem?_append_left hj],by simp,.nil,hcc,rfl⟩⟩,?_⟩
  rintro i m vs σ' H' ⟨F',acc,rest,_,hi,s2,S2,kp,hlen,rp,go,eo⟩
  refine⟨by rw[rp.length];rw[eo,zzf]at hfit;lia,?_⟩
  by_cases hlt:i<ds.length
  ·refine .inr ⟨wk.go i G F' σ' H' _ s2 S2 hlt,λx H2 y cl s0 H0 fp C=>?_⟩
   obtain⟨F3,s3,S3,r3⟩:=wk.yld i G F' σ' H' _ x H2 ds[i] s2 S2 (List.getElem?_eq_getElem hlt) y
   rw[List.drop_eq_getElem_cons hlt]at go
   obtain⟨o,rest',hst,hr,er⟩:=Vx_ go
   subst er
   clear go
   rw[<-hstep]at hst
   refine hg cl s0 H0 fp C (λm=>m=.ret o) _ G F3 σ' H2 _ x ds[i] _ (λz=>nomatch z) S3 r3 hst λσ3 ρ3 S4 kp3 hl3 ml3 o4=>?_
   have kp':∀j,j<σ.length->σ3[j]? = σ[j]? /\ ρ3[j]? = ρ[j]?:=λj hj=>⟨((kp3 j (by lia)).1).trans (kp j hj),by rw[(kp3 j (by lia)).2,List.getElem?_append_left (by lia)]⟩
   obtain⟨b,hpt,o4⟩:=Ys_ o4
   intro cl s0 H0 fp C
   refine ht cl s0 H0 fp C G F3 σ3 H2 ρ3 _ S4 (W.rets hpt λF5 H5 s5 S5=>?_)
   cases b with
   | true =>
    refine iteT ?_
    obtain⟨v,hpe,o5⟩:=Ys_ (m:=pe ρ3) o4
    cases o5
    intro cl s0 H0 fp C
    refine he cl s0 H0 fp C G F5 σ3 H5 ρ3 _ S5 (W.rets hpe λF6 H6 s6 S6 u ru=>?_)
    exact CIv.on F6 (acc++[v]) rest' () hlt (((s2.trans s3).trans s5).trans s6) (grown S6 kp' (by lia)) (λj hj=>(kp' j hj).1) (by lia) ((rp.mono ((s3.trans s5).trans s6)).append (.cons ru .nil)) hr (by rw[eo];simp)
   | false =>
    refine iteF ?_
    have o4':(M.ret none:M (Option D))=M.ret o:=o4
    cases o4'
    exact CIv.on F5 acc rest' () hlt ((s2.trans s3).trans s5) (grown S5 kp' (by lia)) (λj hj=>(kp' j hj).1) (by lia) (rp.mono (s3.trans s5)) hr (by rw[eo];simp)
  ·have ei:i=ds.length:=by lia
   subst ei
   rw[List.drop_length]at go
   cases go
   rw[List.append_nil]at eo
   subst eo
   refine .inl ⟨wk.stop G F' σ' H' _ s2 S2,λp hp=>?_⟩
   have Ssh:=S2.shrink (n:=σ.length) (by simp;lia) hP
   have e1:σ'.take σ.length=σ:=Jc_ kp rfl
   have e2:(ρ++List.replicate k none).take σ.length=ρ:=by rw[hln,List.take_left]
   rw[e1,e2]at Ssh
   obtain⟨S5,r5⟩:=Ssh.newLst hp rp
   exact fin F' _ s2 S5 _ r5
theorem yY_{it:Pu (List D)}{t:Tg (Option D)}{pt:Pu Bool}{pe:Pu D}(hc:X.calm=true)(Sc:CompOk X N' k scope)(hi:AI X tg iter it)
  (hg:∀cl s H fp C,AG (zD_ X N' scope cl s H fp C) X.N.length tg t) (ht:∀cl s H fp C,ATs (zD_ X N' scope cl s H fp C) ifs pt) (he:∀cl s H fp C,AP (zD_ X N' scope cl s H fp C) elt pe)
  (hs:∀x,foldedSetIterable iter X.env x=pure x):AL X (.ListComp elt [⟨tg,iter,ifs,0⟩] scope pos) (zdO_ k it t pt pe):=by
 intro G F σ H ρ Q St w;unfold tSem;intro pins s I
 refine Wd_ (wi:=Zh_ X tg iter) (g:=VP_ X N' scope tg) (tc:=VO_ X N' scope ifs) (te:=VQ_ X N' scope elt) hc Sc (λx hx hf=>I.ok.has x.1 (Sc.free x hx hf)) Qp_
  (λcl s H fp C pins s' σ H v u Q I r h=>Jk_ pins s' σ H v u Q I r (h cl _ _ fp C)) (λcl s H fp C pins s' σ H Q I h=>h cl _ _ fp C pins s' I) (λcl s H fp C pins s' σ H Q I h=>zn_ pins s' σ H Q I (h cl _ _ fp C)) hs pins s σ H Q I (zcF_ hi hg ht he I.len St w)
theorem QK_{S:Type}{sh:List Kd}{it:Ev S (List D)}{t:Tg (Option D×SOf sh)}{et:Ev (Option D×SOf sh) Bool}{ee:Ev (Option D×SOf sh) D}{OK:M S->Prop}{x:Ex->En->M S}{kk:List D->En->M S}{G:Gh}{F:Hp}{σ:L2.St}{H:Hp}{ρ:En}{Q:VK}(hi:AEi X tg iter it)
  (hg:∀cl s H fp C,AG (zD_ X N' scope cl s H fp C) X.N.length tg t) (ht:∀cl s H fp C,AEts (zD_ X N' scope cl s H fp C) ifs et) (he:∀cl s H fp C,AE (zD_ X N' scope cl s H fp C) elt ee)
  (hσ:σ.length=X.N.length) (hO:KOk OK) (hX:XL X OK x G) (St:StOk X.K G F σ H ρ) (ok:OK (zcy_ sh k it t et ee x kk ρ)) (k2:∀ds v F' H' ρ',Same F F'->StOk X.K G F' σ H' ρ'->Frs X.K G F' σ H' ρ' v (.l ds)->OK (kk ds ρ')->Q v H') :
  XB_ (Zh_ X tg iter) k (VP_ X N' scope tg) (VO_ X N' scope ifs) (VQ_ X N' scope elt) σ H Q:=by
 refine hi OK x _ G F σ H ρ _ hO hX St ok λds J F1 H1 ρ1 s1 S1 wk o1=>?_
 obtain⟨s0,e0,o0⟩:=Zo_ hO o1
 clear o1
 have S0:=S1.rd e0
 have hshl:sh.length=σ.length:=(zax_ sh s0).symm.trans S0.ln.symm
 have hlen0:∀s:SOf sh,(wr sh s).length=σ.length:=λs=>(zax_ sh s).trans hshl
 have hP:∀i a,G.P i=some a->i<σ.length:=λi a h=>(List.getElem?_eq_some_iff.mp (S1.pp i a h).1).1
 revert o0
 generalize hstep:(λ(s:SOf sh) d=>t d (λρ2=>et (λe _=>.exc e) (λb ρ3=>if b then ee (λe _=>.exc e) (λv ρ4=>rdk sh (λs'=>.ret (some v,s')) (ρ4.take sh.length)) ρ3 else rdk sh (λs'=>.ret (none,s')) (ρ3.take sh.length)) ρ2) (wr sh s++List.replicate k none))=step
 intro o0
 cases hcc:uy_ step ds s0 with
 | bad=>rw[hcc]at o0;exact(hO o0).elim
 | exc e=>exact(QL_ hcc).elim
 | ret q =>
  obtain⟨out,sf⟩:=q
  rw[hcc,zdW_]at o0
  obtain⟨hfit,o0⟩:=zeC_ hO o0
  have again:∀{F' H' σ' ρ'} {s':SOf sh},StOk X.K G F' σ' H' ρ'->(∀j,j<σ.length->σ'[j]? = σ[j]?)->σ'.length=σ.length+k->rd sh (ρ'.take sh.length)=some s'->StOk X.K G F' σ' H' (wr sh s'++List.replicate k none):=λ{F' H' σ' ρ' s'} S' kp hl e'=>by
   obtain⟨h1,h2,h3⟩:=ZZ_ sh _ s' e'
   have hρ':ρ'.length=σ.length+k:=by rw[<-S'.ln];exact hl
   refine S'.weak (by simp[hlen0];lia) (λi av q=>?_) (λi c q=>?_)
   ·have q':=uY_ q
    have:=h2 i av q'
    have hi:i<sh.length:=by
     have:=(List.getElem?_eq_some_iff.mp this).1
     rw[List.length_take]at this;lia
    rw[List.getElem?_take_of_lt hi]at this
    exact this
   ·obtain⟨a,ha⟩:=S'.pq i c q
    have hi:=hP i a ha
    rw[List.getElem?_append_left (by rw[hlen0];exact hi)]
    exact h3 i c (by rw[List.getElem?_take_of_lt (by lia)];exact q)
  refine⟨CIv X.K G σ k ds F1 (λs=>wr sh s++List.replicate k none) (λi s rest=>uy_ step (ds.drop i) s=.ret (rest,sf)) out,
   ⟨_,⟨F1,[],out,s0,Nat.zero_le _,Same.refl _,S0.grow k,λj hj=>by rw[List.getElem?_append_left hj],by simp,.nil,hcc,rfl⟩⟩,?_⟩
  rintro i m vs σ' H' ⟨F',acc,rest,sc,hi,s2,S2,kp,hlen,rp,go,eo⟩
  refine⟨by rw[rp.length];rw[eo,zzf]at hfit;lia,?_⟩
  by_cases hlt:i<ds.length
  ·refine .inr ⟨wk.go i G F' σ' H' _ s2 S2 hlt,λx H2 y cl sx H0 fp C=>?_⟩
   obtain⟨F3,s3,S3,r3⟩:=wk.yld i G F' σ' H' _ x H2 ds[i] s2 S2 (List.getElem?_eq_getElem hlt) y
   rw[List.drop_eq_getElem_cons hlt]at go
   obtain⟨o,sn,rest',hst,hr,er⟩:=Vw_ go
   subst er
   clear go
   rw[<-hstep]at hst
   refine hg cl sx H0 fp C (λm=>m=.ret (o,sn)) _ G F3 σ' H2 _ x ds[i] _ (λz=>nomatch z) S3 r3 hst λσ3 ρ3 S4 kp3 hl3 ml3 o4=>?_
   have kp':∀j,j<σ.length->σ3[j]? = σ[j]?:=λj hj=>((kp3 j (by lia)).1).trans (kp j hj)
   intro cl sx H0 fp C
   refine ht cl sx H0 fp C (λm=>m=.ret (o,sn)) (λe _=>.exc e) _ G F3 σ3 H2 ρ3 _ (λz=>nomatch z) (λF ρ e z=>nomatch z) S4 o4 λb F5 H5 ρ5 s5 S5 o5=>?_
   cases b with
   | true =>
    refine iteT ?_
    intro cl sx H0 fp C
    refine he cl sx H0 fp C (λm=>m=.ret (o,sn)) (λe _=>.exc e) _ G F5 σ3 H5 ρ5 _ (λz=>nomatch z) (λF ρ e z=>nomatch z) S5 o5 λv u F6 H6 ρ6 s6 S6 ru o6=>?_
    obtain⟨s',e',o'⟩:=Zo_ (OK:=λm=>m=.ret (o,sn)) (λz=>nomatch z) o6
    cases o'
    exact CIv.on F6 (acc++[v]) rest' sn hlt (((s2.trans s3).trans s5).trans s6) (again S6 kp' (by lia) e') kp' (by lia) ((rp.mono ((s3.trans s5).trans s6)).append (.cons ru .nil)) hr (by rw[eo];simp)
   | false =>
    refine iteF ?_
    obtain⟨s',e',o'⟩:=Zo_ (OK:=λm=>m=.ret (o,sn)) (λz=>nomatch z) o5
    cases o'
    exact CIv.on F5 acc rest' sn hlt ((s2.trans s3).trans s5) (again S5 kp' (by lia) e') kp' (by lia) (rp.mono (s3.trans s5)) hr (by rw[eo];simp)
  ·have ei:i=ds.length:=by lia
   subst ei
   rw[List.drop_length]at go
   cases go
   rw[List.append_nil]at eo
   subst eo
   refine .inl ⟨wk.stop G F' σ' H' _ s2 S2,λp hp=>?_⟩
   have Ssh:=S2.shrink (n:=σ.length) (by simp[hlen0]) hP
   have e1:σ'.take σ.length=σ:=Jc_ kp rfl
   have e2:(wr sh sf++List.replicate k none).take σ.length=wr sh sf:=by rw[<-hlen0 sf,List.take_left]
   rw[e1,e2]at Ssh
   obtain⟨S5,r5⟩:=Ssh.newLst hp rp
   exact k2 _ _ F' _ _ (s1.trans s2) S5 r5 o0
theorem Zg_{S:Type}{sh:List Kd}{it:Ev S (List D)}{t:Tg (Option D×SOf sh)}{et:Ev (Option D×SOf sh) Bool}{ee:Ev (Option D×SOf sh) D}(hc:X.calm=true)(Sc:CompOk X N' k scope)(hi:AEi X tg iter it)
  (hg:∀cl s H fp C,AG (zD_ X N' scope cl s H fp C) X.N.length tg t) (ht:∀cl s H fp C,AEts (zD_ X N' scope cl s H fp C) ifs et) (he:∀cl s H fp C,AE (zD_ X N' scope cl s H fp C) elt ee)
  (hs:∀x,foldedSetIterable iter X.env x=pure x):AEl X (.ListComp elt [⟨tg,iter,ifs,0⟩] scope pos) (zcy_ sh k it t et ee):=by
 intro OK x kk G F σ H ρ Q hO hX St ok k2;unfold tSem;intro pins s I
 refine Wd_ (wi:=Zh_ X tg iter) (g:=VP_ X N' scope tg) (tc:=VO_ X N' scope ifs) (te:=VQ_ X N' scope elt) hc Sc (λx hx hf=>I.ok.has x.1 (Sc.free x hx hf)) Qp_
  (λcl s H fp C pins s' σ H v u Q I r h=>Jk_ pins s' σ H v u Q I r (h cl _ _ fp C)) (λcl s H fp C pins s' σ H Q I h=>h cl _ _ fp C pins s' I) (λcl s H fp C pins s' σ H Q I h=>zn_ pins s' σ H Q I (h cl _ _ fp C)) hs pins s σ H Q I (QK_ hi hg ht he I.len hO hX St ok k2)
theorem Y3_{S:Type}{pos' spos:Pos}{i:Nat}{y:Str}{sh:List Kd}{it:Ev S (List D)}{t:Tg (Option D×SOf sh)}{et:Ev (Option D×SOf sh) Bool}{ee:Ev (Option D×SOf sh) D}
  (hN:X.N.Nodup) (hy:X.N[i]? = some y) (hly:Loc X.env.scope y) (hfn:X.fn y=true\/X.env.scope.names.lookup y=some .local) (hc:X.calm=true) (Sc:CompOk X N' k scope) (hi:AEi X tg iter it)
  (hg:∀cl s H fp C,AG (zD_ X N' scope cl s H fp C) X.N.length tg t) (ht:∀cl s H fp C,AEts (zD_ X N' scope cl s H fp C) ifs et) (he:∀cl s H fp C,AE (zD_ X N' scope cl s H fp C) elt ee)
  (hsw:swapsWith (.ListComp elt [⟨tg,iter,ifs,0⟩] scope pos) (some (.Name y pos')) spos.line X.env=pure true) (hs:∀x,foldedSetIterable iter X.env x=pure x) :
  AS X (.Assign [.Name y pos'] (.ListComp elt [⟨tg,iter,ifs,0⟩] scope pos) spos) (sSet i (eZ (zcy_ sh k it t et ee))):=by
 intro OK K G F σ H ρ E hO hX St ok eo;unfold Vc_;intro pins s I
 refine Vg_ (wi:=Zh_ X tg iter) (g:=VP_ X N' scope tg) (tc:=VO_ X N' scope ifs) (te:=VQ_ X N' scope elt) hN hy hly hfn hc Sc (λx hx hf=>I.ok.has x.1 (Sc.free x hx hf)) Qp_
  (λcl s H fp C pins s' σ H v u Q I r h=>Jk_ pins s' σ H v u Q I r (h cl _ _ fp C)) (λcl s H fp C pins s' σ H Q I h=>h cl _ _ fp C pins s' I) (λcl s H fp C pins s' σ H Q I h=>zn_ pins s' σ H Q I (h cl _ _ fp C)) hsw hs pins s σ H E I ?_
 refine QK_ hi hg ht he I.len hO hX St ok λds v F' H' ρ' s S' r o=>?_
 have o':OK (match UT_ ρ' i with|true=>K.nx (ρ'.set i (some (.fz (.list ds))))|false=>.bad):=o
 split at o'
 ·rename_i ho
  obtain⟨hl,hop⟩:=uU_ ho
  obtain⟨F2,s2,S2,r2⟩:=S'.settle (v:=v) (ds:=ds) r
  exact eo.nx F2 _ H' _ (s.trans s2) (S2.store hop hl (.inl ⟨_,rfl,r2⟩)) o'
 ·exact(hO o').elim
end
end L4
namespace HT
open PySem PySem.Spec PyProof.Rows
section
variable {prog:Program}{w:World}{A:Around}{E:Value->Shared->Prop}{s:Shared}
theorem getItem_tuple_all{t sl:Addr}{items:Array Value}{vl vu:Value}{lo hi:Option Int}{Q:Value->Shared->Prop}(ht:IsTup s.heap t items)(hs:s.heap.IsSliceOf sl vl vu .none)(pl:IsPart vl lo)(pu:IsPart vu hi)
  (hw:sIx items.size 0 lo=0/\sIx items.size items.size hi=items.size) (h:Q (.ref t) s):wpAny (model prog w) A (getItem (.ref t) (.ref sl)) Q E s:=by
 obtain⟨os,hos,hcs,hds⟩:=id hs
 have hTs:s.TypeIs (.ref sl) "slice":=⟨os,hos,hcs⟩
 unfold getItem
 try with_reducible refine wpAny_holding ?_
 first|refine zza (zzb ?_)|skip
 refine zza (wpAny_sequenceKey ht.typeIs (by decide) ?_)
 refine zza (wpAny_callSpecial?_slot (name:=Str.ofString "__getitem__") ht.typeIs PyProof.Rows.slot_tuple_getitem
  (wpAny_call_entry PyProof.Rows.slot_tuple_getitem ht.typeIs entry_tuple_getitem ?_ (args_tuple_getitem _ _)))
 show wpAny _ _ (Builtin.Tuple.tupleItemsOf (.ref t) >>= _) _ _ s
 refine zza (tupleItemsOf_ ht ?_)
 refine zza (wpAny_typeOf hTs ?_)
 rw[if_pos (by decide)]
 refine zza (uE_ hs pl pu ?_)
 have hyes:((((sIx items.size 0 lo:Nat):Int)==0&&(1:Int)==1&&(sIx items.size items.size hi - sIx items.size 0 lo)==items.size)=true):=by
  rw[hw.1,hw.2]
  simp
 show wpAny _ _ (if(((sIx items.size 0 lo:Nat):Int)==0&&(1:Int)==1&&(sIx items.size items.size hi - sIx items.size 0 lo)==items.size)=true then _ else _) _ _ s
 rw[if_pos hyes]
 obtain⟨o,ho,hc,n,hd⟩:=id ht
 have hex:∀{Q':Bool->Shared->Prop},Q' true s->wpAny (model prog w) A.in1 (Builtin.Tuple.tupleIsExact (.ref t)) Q' E s:=λ{Q'} q=>by
  unfold Builtin.Tuple.tupleIsExact
  refine zza (wpAny_typeOf ht.typeIs (zzb ?_))
  exact q
 first
  | exact zza (hex (zza (wpAny_rule (zzb ⟨_,rfl,zzb h⟩))))
  | exact zza (zza (hex (zza (wpAny_rule (zzb (zzb ⟨_,rfl,zzb h⟩))))))
end
end HT
namespace L4
open PySem PySem.Spec PyProof.Rows L2 L3
def cutD(ds:List D)(lo hi:Option Int):List D:=(ds.drop (HT.sIx ds.length 0 lo)).take (HT.sIx ds.length ds.length hi - HT.sIx ds.length 0 lo)
theorem W1_{K:Fg}{F:Hp}{vs:List V}{ds:List D}(r:RepL K F vs ds)(lo hi:Option Int):RepL K F (cutV vs lo hi) (cutD ds lo hi):=by
 unfold cutV cutD
 rw[r.length]
 exact(r.drop _).take _
def rSlA(K:Fg):V->Option Int->Option Int->Hp->VK->Prop:=λx lo hi H Q=>∃a xs,x=.ref a/\SqT K H a xs/\(HT.sIx xs.length 0 lo=0/\HT.sIx xs.length xs.length hi=xs.length)/\Q x H
theorem sl_tupA{X:Cx}:SlR X (rSlA X.K):=by
 intro pins s σ H x v vl vu lo hi sl Q I rx hs pl pu h
 obtain⟨a,xs,rfl,hx,hw,q⟩:=h
 cases rx
 obtain⟨its,r,ht,hz⟩:=I.tuple hx
 have hlen:its.toArray.size=xs.length:=by rw[List.size_toArray];exact r.length.symm
 refine⟨"tuple",_,PyProof.Rows.slot_tuple_getitem.lookup,ht.typeIs,?_⟩
 exact HT.getItem_tuple_all ht hs pl pu (by rw[hlen];exact hw) ⟨.ref a,H,I,rfl,q⟩
noncomputable def pNoI:Pu (Option Int):=λ_=>.ret none
noncomputable def asI(d:D):M (Option Int):=match d with
 | .int i=>.ret (some i)
 | _=>.bad
def pInt(p:Pu D):Pu (Option Int):=λρ=>bd (p ρ) asI
def fCut(d:D)(lo hi:Option Int):Option D:=match d with
 | .tuple ds=>some (.tuple (cutD ds lo hi))
 | .list ds=>some (.list (cutD ds lo hi))
 | _=>none
def zdK_(p:Pu D)(l h:Pu (Option Int)):Pu D:=λρ=>bd (p ρ) λd=>bd (l ρ) λlo=>bd (h ρ) λhi=>oM (fCut d lo hi)
def APo(X:Cx)(e:Option Expr)(p:Pu (Option Int)):Prop :=
 ∀(G:Gh) (F:Hp) (σ:L2.St) (H:Hp) (ρ:En) (Q:Option Int->Hp->Prop),StOk X.K G F σ H ρ->W X G F σ ρ (p ρ) (λd F' H'=>Q d H')->∀(pins:List (Addr×Obj)) (s:Shared),Inv X pins σ H s ->
  wpAny (model X.prog X.w) X.A (evalPart e X.env) (λu s'=>∃o H',Inv X pins σ H' s'/\IsPart u o/\Q o H') X.xe s
noncomputable def zeT_(X:Cx)(e:Option Expr):TO:=λσ H Q=>∀(pins:List (Addr×Obj)) (s:Shared),Inv X pins σ H s->wpAny (model X.prog X.w) X.A (evalPart e X.env) (λu s'=>∃o H',Inv X pins σ H' s'/\IsPart u o/\Q o H') X.xe s
theorem zaJ_{X:Cx}{e:Option Expr}:PO X e (zeT_ X e):=λpins s σ H Q I h=>h pins s I
section
variable {X:Cx}{e:Expr}{lo hi:Option Expr}{p:Pu D}{pl ph:Pu (Option Int)}{pos p2:Pos}
theorem zE_:APo X none pNoI:=λG F σ H ρ Q S w pins s I=>zbL_ pins s σ H Q I (w F H (Same.refl _) S)
theorem zz_(h:AP X e p):APo X (some e) (pInt p):=λG F σ H ρ Q S w pins s I=>zbK_ zn_ pins s σ H Q I (h G F σ H ρ _ S (w.bind.imp λd F1 H1 s1 S1 w1 v r=>by
 cases r with
 | int i=>exact⟨i,rfl,w1 F1 H1 (Same.refl _) S1⟩
 | bl b=>exact w1.elim
 | non=>exact w1.elim
 | str i=>exact w1.elim
 | tup _ _=>exact w1.elim
 | lst _ _=>exact w1.elim
 | dct _ _ _=>exact w1.elim
 | dck _ _ _=>exact w1.elim
 | exc _ _ _ _ _=>exact w1.elim
 | fn _=>exact w1.elim))
theorem zB_(he:AO X e p)(hl:APo X lo pl)(hh:APo X hi ph):AP X (.Subscript e (.Slice lo hi none p2) pos) (zdK_ p pl ph) :=
 λG F σ H ρ Q S w=>sem (XT_ (sl_tup.or (sl_tupA.or zbx_)) zn_ zaJ_ zaJ_) (he G F σ H ρ _ S (w.bind.imp λd F1 H1 s1 S1 w1 x hx =>
  hl G F1 σ H1 ρ _ S1 (w1.bind.imp λlo F2 H2 s2 S2 w2=>hh G F2 σ H2 ρ _ S2 (w2.bind.imp λhi F3 H3 s3 S3 w3=>by
   obtain⟨res,hr,k⟩:=w3.opt
   have ox:=(hx.mono (s2.trans s3)).or S3
   cases d<;>try (cases hr)
   ·obtain⟨a,vs,rfl,h1,h2⟩:=ox.list S3.fh
    refine .inr (.inr ⟨a,vs,rfl,h1,λq hq=>?_⟩)
    obtain⟨S4,r4⟩:=S3.newLst hq (W1_ h2 lo hi)
    obtain⟨F5,s5,S5,r5⟩:=S4.settle r4
    exact k F5 _ s5 S5 _ r5
   ·rename_i ds
    obtain⟨a,vs,rfl,h1,h2⟩:=ox.tuple S3.fh
    by_cases hw:HT.sIx vs.length 0 lo=0/\HT.sIx vs.length vs.length hi=vs.length
    ·refine .inr (.inl ⟨a,vs,rfl,h1,hw,k F3 H3 (Same.refl _) S3 _ ?_⟩)
     have:cutD ds lo hi=ds:=by
      unfold cutD
      rw[<-h2.length,hw.1,hw.2]
      simp[h2.length]
     rw[this]
     exact ox.tup'
    ·refine .inl ⟨a,vs,rfl,h1,hw,λq hq=>?_⟩
     obtain⟨s4,S4,r4⟩:=S3.newTup hq (W1_ h2 lo hi)
     exact k _ _ s4 S4 _ r4))))
end
def Wf_(f g:D->D->Option Bool)(a b c:Pu D):Pu Bool:=λρ=>bd (a ρ) λx=>bd (b ρ) λy=>bd (oM (f x y)) λt=>if t then bd (c ρ) λz=>oM (g y z)else .ret false
section
variable {X:Cx}{a b c:Expr}{pa pb pc:Pu D}{op op':CmpOp}{r r':R2}{f g:D->D->Option Bool}{pos:Pos}
theorem QO_{G:Gh}{F H:Hp}{σ:L2.St}{ρ:En}{Q:VK}(hf:OpB X.K r f)(hg:OpB X.K r' g)(ha:AO X a pa)(hb:AO X b pb)(hc:AO X c pc)(S:StOk X.K G F σ H ρ)(w:W X G F σ ρ (Wf_ f g pa pb pc ρ) λt F' H'=>Q (.bl t) H') :
  VN_ r r' (tSem X a) (tSem X b) (tSem X c) σ H Q :=
 ha G F σ H ρ _ S (w.bind.imp λdx F1 H1 s1 S1 w1 x hx=>hb G F1 σ H1 ρ _ S1 (w1.bind.imp λdy F2 H2 s2 S2 w2 y hy=>by
  have w3:=w2.bind
  obtain⟨t,e,k⟩:=w3.opt
  refine hf G F2 σ H2 ρ x y dx dy t _ S2 ((hx.mono s2).or S2) (hy.or S2) e ⟨t,rfl,?_⟩
  have w4:=k F2 H2 (Same.refl _) S2
  cases t with
  | true =>
   refine iteT ?_
   exact hc G F2 σ H2 ρ _ S2 ((show W X G F2 σ ρ (bd (pc ρ) λz=>oM (g dy z)) _ from w4).bind.imp λdz F3 H3 s3 S3 w5 z hz=>by
    obtain⟨t',e',k'⟩:=w5.opt
    exact hg G F3 σ H3 ρ y z dy dz t' _ S3 ((hy.mono s3).or S3) (hz.or S3) e' (k' F3 H3 (Same.refl _) S3))
  | false =>
   refine iteF ?_
   exact(show W X G F2 σ ρ (.ret false) _ from w4) F2 H2 (Same.refl _) S2))
theorem Q2_(ho:OpR X (compareOp op) r)(ho':OpR X (compareOp op') r')(hf:OpB X.K r f)(hg:OpB X.K r' g)(ha:AO X a pa)(hb:AO X b pb)(hc:AO X c pc)(hm:lastMarks [op,op'] [b,c]=false):AB X (.Compare a [op,op'] [b,c] pos) (Wf_ f g pa pb pc) :=
 λG F σ H ρ Q S w=>sem (XU_ ho ho' zn_ zn_ zn_ hm) (QO_ hf hg ha hb hc S w)
theorem QX_(ho:OpR X (compareOp op) r)(ho':OpR X (compareOp op') r')(hf:OpB X.K r f)(hg:OpB X.K r' g)(ha:AO X a pa)(hb:AO X b pb)(hc:AO X c pc)(hm:lastMarks [op,op'] [b,c]=false):AT X (.Compare a [op,op'] [b,c] pos) (Wf_ f g pa pb pc) :=
 λG F σ H ρ Q S w=>semT (XO_ ho ho' zn_ zn_ zn_ hm) (QO_ (Q:=λx H'=>∃k,x=.bl k/\Q k H') hf hg ha hb hc S (w.imp λt F' H' _ _ q=>⟨t,rfl,q⟩))
end
noncomputable def UH_(d e:D):Option Bool:=match d,e with
 | .bool a,.bool b=>some (a != b)
 | _,.none=>some (!isNone d)
 | _,_=>none
section
variable {X:Cx}
theorem XW_:OpR X (compareOp .IsNot) (rD2 X.K UH_):=by
 intro pins s σ H x y v u Q I rx ry ⟨d,e,b,r1,r2,ho,q⟩
 unfold UH_ at ho
 split at ho
 ·cases ho
  obtain rfl:=r1.bool_inv
  obtain rfl:=r2.bool_inv
  cases rx
  cases ry
  exact PyProof.Rows.isnot_bool ⟨.bl _,H,I,rfl,q⟩
 ·exact XV_ pins s σ H x y v u Q I rx ry ⟨d,.none,b,r1,r2,by rw[<-ho];rfl,q⟩
 ·cases ho
end
def isTo(T:String)(d:D):Option Bool:=if isFn d then none else some (isT T d)
def pIs(T:String)(p:Pu D):Pu Bool:=λρ=>bd (p ρ) λd=>oM (isTo T d)
theorem zcp_{T:String}{d:D}(h:isFn d=false):isTo T d=some (isT T d):=by unfold isTo;rw[h];rfl
def rIs2(K:Fg)(T:String):List V->Hp->VK->Prop:=λxs H Q=>∃v d,xs=[v,.ty T]/\Rep K H v d/\isFn d=false/\Q (.bl (isT T d)) H
theorem zcI_{X:Cx}{T:String}(hT:tyOk T=true):CallR X (.builtin "isinstance") (rIs2 X.K T):=by
 intro pins s σ H xs us Q I r h
 obtain⟨v,d,rfl,rp,nf,q⟩:=h
 obtain⟨u,w,rfl,ru,rw'⟩:=vals2 r
 cases rw'
 exact Vr_ hT I rp nf ru λtk=>⟨.bl _,H,I.tok tk,rfl,q⟩
section
variable {X:Cx}{e:Expr}{p:Pu D}{pos p1 p2:Pos}{T:String}{x:Str}
theorem yJ_(hT:tyOk T=true)(hg:Gl X "isinstance")(hm:X.mg "isinstance" = none)(hgT:Gl X x)(hmT:X.mg x=none)(hv:bootBuiltins x=some (.type T))(ha:AO X e p)(hs:starEach [e,.Name x p2] X.env=(false,eval e X.env)::starEach [.Name x p2] X.env)(hs2:starEach [.Name x p2] X.env=(false,eval (.Name x p2) X.env)::starEach [] X.env)
  (hpl:(backTo pos (starEach [.Name x p2] X.env)).any (·.1)=false) (hn:x ≠ "__name__":=by decide) (hd:(x==("__debug__" : Str))=false:=by decide):AB X (.Call (.Name "isinstance" p1) [e,.Name x p2] [] pos) (pIs T p) :=
 λG F σ H ρ Q S w=>sem (uS_ (zcI_ hT) hg hm (by decide +kernel) (yg_ zn_ (yg_ (zbP_ hgT hmT hv (v:=.ty T) rfl hn hd) UD_ hs2) hs) (by decide) (by decide) hs hpl) (ha G F σ H ρ _ S (w.bind.imp λd F1 H1 s1 S1 w1 v hv=>by
  obtain⟨b,hb,k⟩:=w1.opt
  unfold isTo at hb
  split at hb
  ·cases hb
  ·rename_i nf
   cases hb
   exact⟨v,d,rfl,(hv.or S1).rep S1.fh,by simpa using nf,k F1 H1 (Same.refl _) S1⟩))
end
noncomputable def boolsOf:List D->Option (List Bool)
 | []=>some []
 | .bool b::r=>match boolsOf r with
  | some l=>some (b::l)
  | none=>none
 | _=>none
theorem JC_:∀{ds:List D} {bs:List Bool},boolsOf ds=some bs->ds=bs.map PyData.bool
 | [],_,h=>by cases h;rfl
 | .bool i::r,ns,h=>by
  dsimp only[boolsOf]at h
  split at h
  ·rename_i l e;cases h;rw[JC_ e];rfl
  ·cases h
 | .none::_,_,h=>by cases h
 | .int _::_,_,h=>by cases h
 | .str _::_,_,h=>by cases h
 | .list _::_,_,h=>by cases h
 | .tuple _::_,_,h=>by cases h
 | .dict _::_,_,h=>by cases h
theorem Y0_(bs:List Bool):boolsOf (bs.map PyData.bool)=some bs:=by
 induction bs with
 | nil=>rfl
 | cons b r ih=>simp[boolsOf,ih]
theorem Jh_{K:Fg}{F:Hp}:∀{vs:List V} {bs:List Bool},RepL K F vs (bs.map PyData.bool)->vs=bs.map V.bl
 | _,[],h=>by cases h;rfl
 | _,n::r,h=>by
  cases h with
  | cons a b=>cases a;rw[Jh_ b];rfl
theorem Jb_:∀{bs:List Bool} {us:List Value},Vals (bs.map V.bl) us->us=bs.map Value.bool
 | [],_,h=>by cases h;rfl
 | n::r,_,h=>by
  cases h with
  | cons a b=>cases a;rw[Jb_ b];rfl
noncomputable def fAll:List D->Option Bool
 | [.list ds]=>(boolsOf ds).map λbs=>bs.all id
 | _=>none
def V5_(K:Fg)(f:List Bool->Bool):List V->Hp->VK->Prop:=λxs H Q=>∃a bs,xs=[.ref a]/\SqL K H a (bs.map V.bl)/\Q (.bl (f bs)) H
theorem XZ_{K:Fg}{f:List Bool->Bool}{g:List D->Option Bool}(hg:∀l b,g l=some b->∃bs,l=[.list (bs.map PyData.bool)]/\b=f bs):Xz_ K (V5_ K f) g:=by
 intro G F σ H ρ xs ds res Q S o e k
 obtain⟨bs,rfl,rfl⟩:=hg _ _ e
 obtain⟨v,r,rfl,ho,hr⟩:=zN_ o
 obtain rfl:=jg_ hr
 obtain⟨a,vs,rfl,h1,h2⟩:=ho.list S.fh
 rw[Jh_ h2]at h1
 exact⟨a,bs,rfl,h1,k⟩
theorem zaR_{K:Fg}:Xz_ K (V5_ K λbs=>bs.all id) fAll:=XZ_ λl b h=>by
 unfold fAll at h
 split at h
 ·obtain⟨bs,e,rfl⟩:=Option.map_eq_some_iff.mp h
  exact⟨bs,by rw[JC_ e],rfl⟩
 ·cases h
theorem WI_{prog:Program}{w:World}{A:Around}{E:Value->Shared->Prop}{s:Shared}{l:Addr}{its:Array Value}{Q:Value->Shared->Prop}(hl:s.heap.IsList l its)
  (h:∀s₂:Shared,s₂={ s with heap:=s.heap.push { cls:=.type "list_iterator",data:=.fields #[.ref l,.int 0 0] } } ->
   (s₂.heap.IsListIter s.heap.objs.size l 0/\s₂.heap.IsList l its)->l≠s.heap.objs.size->Q (.ref s.heap.objs.size) s₂) :
  wpAny (model prog w) A (pyIter (.ref l)) Q E s:=by
 have hlt:l<s.heap.objs.size:=by obtain⟨_,e,_⟩:=hl;exact Heap.lt_size e
 exact wpAny_pyIter_list hl (h _ rfl ⟨⟨_,zze _ rfl,rfl,rfl⟩,hl.push _⟩ (Nat.ne_of_lt hlt))
theorem YG_{prog:Program}{w:World}{A:Around}(bs:List Bool):TruthOf prog w A (λi v=>(bs.map Value.bool).toArray[i]? = some v) (λi=>bs.getD i false):=λi v s Q E hP hQ=>by
 dsimp only at hP hQ
 rw[List.getElem?_toArray,List.getElem?_map]at hP
 obtain⟨b,e,rfl⟩:=Option.map_eq_some_iff.mp hP
 rw[List.getD_eq_getElem?_getD,e]at hQ
 exact wpAny_truthy_bool hQ
theorem all_range(bs:List Bool):(List.range bs.length).all (λi=>bs.getD i false)=bs.all id:=by
 induction bs with
 | nil=>rfl
 | cons b r ih =>
  rw[List.length_cons,List.range_succ_eq_map,List.all_cons,List.all_map,List.all_cons]
  simp only[List.getD_cons_zero,id_eq]
  congr 1
theorem QQ_{X:Cx}(hc:X.calm=true):CallR X (.builtin "all") (V5_ X.K λbs=>bs.all id):=by
 intro pins s σ H xs us Q I r h
 obtain⟨a,bs,rfl,hq,q⟩:=h
 obtain⟨u,rfl,ru⟩:=Vals.one r
 cases ru
 obtain⟨its,rv,pl,hz⟩:=I.list hq
 rw[Jb_ rv]at pl
 refine call_all_walk (WI_ pl.isList λs₂ e st hlI=>?_)
 subst e
 refine⟨_,_,_,_,_,_,_,rfl,Walks.list (A:=X.A.in1) (I.ok.hd hc) _ a hlI (bs.map Value.bool).toArray,st,YG_ bs,λh' tk hk=>?_⟩
 refine⟨.bl (bs.all id),H,I.kept (old_kept hk),?_,q⟩
 show _=_
 rw[<-all_range bs]
 simp
noncomputable def zam_:List D->Option (List D)
 | [.list ds]=>some ds
 | [.tuple ds]=>some ds
 | _=>none
def zfi_(K:Fg):List V->Hp->VK->Prop:=λxs H Q=>∃p ys,xs=[.ref p]/\(SqL K H p ys\/SqT K H p ys)/\∀l,H l=none->Q (.ref l) (upd H l (.lst ys))
theorem zbW_{K:Fg}:Qc_ K (zfi_ K) zam_:=by
 intro G F σ H ρ xs ds res Q S o e k
 unfold zam_ at e
 split at e
 ·cases e
  obtain⟨v,r,rfl,ho,hr⟩:=zN_ o
  obtain rfl:=jg_ hr
  obtain⟨a,vs,rfl,h1,h2⟩:=ho.list S.fh
  refine⟨a,vs,rfl,.inl h1,λl hl=>?_⟩
  obtain⟨S2,r2⟩:=S.newLst hl h2
  exact k _ F _ (Same.refl _) S2 r2
 ·cases e
  obtain⟨v,r,rfl,ho,hr⟩:=zN_ o
  obtain rfl:=jg_ hr
  obtain⟨a,vs,rfl,h1,h2⟩:=ho.tuple S.fh
  refine⟨a,vs,rfl,.inr h1,λl hl=>?_⟩
  obtain⟨S2,r2⟩:=S.newLst hl h2
  exact k _ F _ (Same.refl _) S2 r2
 ·cases e
noncomputable def fStr:List D->Option D
 | [.int i]=>if i.natAbs.log2<1920 then some (.str (toString i))else none
 | _=>none
theorem zdX_{K:Fg}:Uj_ K (λxs H Q=>∃i,xs=[.int i]/\i.natAbs.log2<1920/\Q (.str (toString i)) H) fStr:=by
 intro G F σ H ρ xs ds res Q S o e k
 unfold fStr at e
 split at e
 ·split at e
  ·rename_i hz
   cases e
   obtain⟨v,r,rfl,ho,hr⟩:=zN_ o
   obtain rfl:=jg_ hr
   exact⟨_,by rw[ho.int],hz,k _ F H (Same.refl _) S (.str _)⟩
  ·cases e
 ·cases e
theorem Xo_{X:Cx}{x:Str}{v:V}{u:Value}{d:D}{pos:Pos}(hg:Gl X x)(hm:X.mg x=some u)(r:RelV v u)(rp:∀F,Rep X.K F v d)(hd:(x==("__debug__" : Str))=false):AP X (.Name x pos) (pCon d) :=
 Yu_ (zbO_ hg hm r hd) rp
section
variable {S:Type}
def putD(ds:List D)(j d:D):Option (List D):=match j with
 | .int k=>(ixN ds.length k).map λq=>ds.set q d
 | _=>none
def sPut(i:Nat)(mi me:Ev S D):SM S:=λK ρ=>me K.x (λd ρ1=>match ownL ρ1 i with
 | some _=>mi K.x (λj ρ2=>match ownL ρ2 i with
  | some ds=>(oM (putD ds j d)).on (λe=>K.x e ρ2) (λds'=>K.nx (setO ρ2 i ds'))
  | none=>.bad) ρ1
 | none=>.bad) ρ
variable {X:Cx}{a b e:Expr}{mi me:Ev S D}{pos pos' tpos apos cpos:Pos}{ml:Ev S (List D)}
theorem zbl_{i:Nat}{x:Str}(hN:X.N[i]? = some x)(hv:Vis X.env.scope x)(hi:AE X b mi)(he:AE X e me)(ha:∀v,assign (.Subscript (.Name x pos') b tpos) X.env v=(do
   let ov <-holding [v] (eval (.Name x pos') X.env)
   let iv <-holding [v,ov] (eval b X.env)
   standAt tpos
   holding [v,ov,iv] (setItem ov iv v)
   release [v,ov,iv] []))
  (hs:swapsWithSole [.Subscript (.Name x pos') b tpos] e pos.line X.env=pure false) (hw:swappedStores [.Subscript (.Name x pos') b tpos] e X.env=pure none)
  (h1:(assignEach [.Subscript (.Name x pos') b tpos] X.env).map (·.2)=[assign (.Subscript (.Name x pos') b tpos) X.env])
  (hd:(x==("__debug__" : Str))=false:=by decide) (hcd:(x==("__classdict__" : Str))=false:=by decide):AS X (.Assign [.Subscript (.Name x pos') b tpos] e pos) (sPut i mi me):=λOK K G F σ H ρ E hO hX St ok eo =>
 semS (zaI_ zn_ (zdB_ (UC_ hN hv hd hcd) zn_ set_list ha) hs hw h1) (he OK K.x _ G F σ H ρ _ hO hX St ok λd v F1 H1 ρ1 s1 S1 r1 o1=>by
  split at o1
  case h_2=>exact(hO o1).elim
  rename_i ds0 hd0
  obtain⟨a,vs0,ea,_,_⟩:=Zp_ S1 hd0
  refine⟨_,ea,hi OK K.x _ G F1 σ H1 ρ1 _ hO hX S1 o1 λj u F2 H2 ρ2 s2 S2 r2 o2=>?_⟩
  split at o2
  case h_2=>exact(hO o2).elim
  rename_i ds hds
  obtain⟨ds',hp,o3⟩:=yx_ hO o2
  obtain⟨a',vs,ea',hh,rv⟩:=Zp_ S2 hds
  rw[ea]at ea'
  injection ea' with ea';injection ea' with ea';injection ea' with ea'
  subst ea'
  unfold putD at hp
  split at hp
  ·rename_i k
   obtain⟨q,hq,rfl⟩:=Option.map_eq_some_iff.mp hp
   obtain rfl:=r2.int_inv
   refine⟨a,vs,k,q,rfl,rfl,hh,by rw[rv.length];exact hq,?_⟩
   exact eo.nx F2 σ _ _ (s1.trans s2) (Wg_ S2 hds ea (RepL.set (r1.mono s2) q rv)) o3
  ·cases hp)
end
noncomputable def kindB(k:NameKind):Option NameKind->Bool
 | some k'=>k==k'
 | none=>false
def W3_(N N':List Str)(k:Nat)(scope sc:Scope):Bool :=
 (scope.kind==.function)&&(N'.length==N.length+k)&&scope.names.all (λy=>y.2 != .cell)&&scope.names.all (λy=>y.2 != .local||kindB .local (scope.names.lookup y.1))
  && ((List.range N.length).all λi=>match N'[i]? with
   | some x=>!(kindB .free (scope.names.lookup x)||kindB .local (scope.names.lookup x)||kindB .cell (scope.names.lookup x))||(N[i]? == some x&&kindB .free (scope.names.lookup x))
   | none=>true)
  && scope.names.all (λy=>y.2 != .free||kindB .cell (sc.names.lookup y.1)||kindB .free (sc.names.lookup y.1))
theorem Zd_{k:NameKind}{o:Option NameKind}(h:kindB k o=true):o=some k:=by
 cases o with
 | none=>cases h
 | some k'=>simp[kindB]at h;rw[h]
theorem zab_{k:NameKind}{o:Option NameKind}(h:o=some k):kindB k o=true:=by subst h;simp[kindB]
theorem z9_{X:Cx}{N N':List Str}{k:Nat}{scope sc:Scope}(h:W3_ N N' k scope sc=true)(hN:X.N=N)(hs:X.env.scope=sc):CompOk X N' k scope:=by
 subst hN hs
 simp only[W3_,Bool.and_eq_true,List.all_eq_true,beq_iff_eq,Bool.or_eq_true,bne_iff_ne,ne_eq]at h
 obtain⟨⟨⟨⟨⟨h1,h2⟩,h3⟩,h4⟩,h5⟩,h6⟩:=h
 refine⟨h1,h2,λy hy=>h3 y hy,λy hy hl=>?_,λi x hi hx _ hk=>?_,λy hy hf=>?_⟩
 ·rcases h4 y hy with z|z
  ·exact absurd hl z
  ·exact Zd_ z
 ·have:=h5 i (List.mem_range.mpr hi)
  rw[hx]at this
  simp only[Bool.or_eq_true,Bool.not_eq_true',Bool.and_eq_true,beq_iff_eq]at this
  rcases this with z|⟨z1,z2⟩
  ·exfalso
   rcases hk with hk|hk|hk<;>simp[zab_ hk]at z
  ·exact⟨z1,Zd_ z2⟩
 ·rcases h6 y hy with (z|z)|z
  ·exact absurd hf z
  ·exact .inl (Zd_ z)
  ·exact .inr (Zd_ z)
section
variable {S:Type}{X:Cx}{a b e:Expr}{ms:Ev S (List D)}{pos:Pos}
def sPar(i j:Nat)(ms:Ev S (List D)):SM S:=λK ρ=>ms K.x (λds ρ1=>match ds with
 | [u,v]=>(match UT_ ρ1 i&&UT_ (ρ1.set i (some (.fz u))) j with
  | true=>K.nx ((ρ1.set i (some (.fz u))).set j (some (.fz v)))
  | false=>.bad)
 | _=>.bad) ρ
theorem zbm_{i j:Nat}{x y:Str}{px py pt:Pos}{kt k2 pt2}(hc:X.calm=true)(hN:X.N.Nodup)(hi:X.N[i]? = some x)(hj:X.N[j]? = some y)(hij:i≠j)
  (hx:X.env.scope.names.lookup x=some .local) (hy:X.env.scope.names.lookup y=some .local) (ha:AEa X [a,b] ms)
  (hw:swappedStores [.Tuple [.Name x px,.Name y py] kt pt] (.Tuple [a,b] k2 pt2) X.env=pure (some [x,y]))
  (hs:swapsWithSole [.Tuple [.Name x px,.Name y py] kt pt] (.Tuple [a,b] k2 pt2) pos.line X.env=pure false) :
  AS X (.Assign [.Tuple [.Name x px,.Name y py] kt pt] (.Tuple [a,b] k2 pt2) pos) (sPar i j ms):=λOK K G F σ H ρ E hO hX St ok eo =>
 semS (zdx_ hc hN hi hj hij hx hy ji_ hw hs) (ha OK K.x _ G F σ H ρ _ hO hX St ok λds vs F1 H1 ρ1 s1 S1 hl r1 o1=>by
  split at o1
  ·split at o1
   ·rename_i _ u v _ hok
    rw[Bool.and_eq_true]at hok
    obtain⟨h1,h2⟩:=uU_ hok.1
    obtain⟨h3,h4⟩:=uU_ hok.2
    cases r1 with
    | cons ra rb =>
     cases rb with
     | cons rb rc =>
      cases rc
      refine⟨_,_,rfl,eo.nx F1 _ H1 _ s1 ?_ o1⟩
      exact(S1.store h2 h1 (.inl ⟨u,rfl,ra⟩)).store h4 h3 (.inl ⟨v,rfl,rb⟩)
   ·exact(hO o1).elim
  ·exact(hO o1).elim)
end
theorem Wz_{K:Fg}{H:Hp}{a:Addr}{ns:List Int}{mf:List D->M D}(hS:SqL K H a (ns.map V.int))(h:mf [.list (ns.map PyData.int)]=.ret (.bool true)):spD K 1 mf [.ref a] H (λv _=>v=.bl true) λ_ _ _=>False:=by
 refine⟨⟨λ_=>none,λ_=>none,H⟩,H,[.list (ns.map PyData.int)],rfl,⟨Same.refl _,λb o z=>(nomatch z),λb o z=>(nomatch z),rfl,λi d z=>?_,λi c z=>(yA_ (ds:=[.list (ns.map PyData.int)]) z).elim,λi j c e a z=>(yA_ (ds:=[.list (ns.map PyData.int)]) z).elim,λi a z=>(nomatch z),λi c z=>?_,Same.refl _⟩,?_⟩
 ·obtain⟨d',e,q⟩:=ZI_ (ds:=[.list (ns.map PyData.int)]) z
  cases e
  cases i with
  | zero=>simp at q;subst q;exact⟨_,rfl,.lst hS (RepL.ints ns)⟩
  | succ i=>simp at q
 ·obtain⟨d',e,q⟩:=ZI_ (ds:=[.list (ns.map PyData.int)]) z
  cases e
 ·rw[h]
  intro v F' H' s S' r
  cases r
  rfl
end L4
namespace HT
end HT
namespace L4
open PySem PySem.Spec PyProof.Rows L2 L3
noncomputable def isStar:Expr->Bool
 | .Starred _ _=>true
 | _=>false
theorem za_{env:Env}:∀{e:Expr} {es:List Expr},isStar e=false->starEach (e::es) env=(false,eval e env)::starEach es env:=by
 intro e es h
 cases e<;>first|rfl|cases h
noncomputable def forS{S T:Type}:(T->D->(T->M S)->M S)->List D->T->(T->M S)->M S:=Classical.choose (⟨@forC S T,rfl⟩:∃f,f = @forC S T)
theorem ZJ_{S T:Type} : @forS S T = @forC S T:=Classical.choose_spec (⟨@forC S T,rfl⟩:∃f,f = @forC S T)
section
variable {S:Type}
noncomputable def zby_(sh:List Kd)(it:Ev S (List D))(t:Tg S)(mb:SM S):SM S:=λK ρ=>it K.x (λds ρ1=>rdk sh (λs=>forS (λs d kn=>t d (λρ2=>mb (X5_ sh K kn) ρ2) (wr sh s)) ds s (λs'=>K.nx (wr sh s'))) ρ1) ρ
theorem XG_(sh:List Kd)(it:Ev S (List D))(t:Tg S)(mb:SM S):zby_ sh it t mb=sFor sh it t mb:=by
 unfold zby_ sFor
 rw[ZJ_]
variable {X:Cx}{mb:SM S}{c:Expr}{mt:Ev S Bool}{ml:Ev S (List D)}{pos:Pos}
theorem yn_{tg iter:Expr}{body:List Stmt}{sh:List Kd}{t:Tg S}(hp:PassesOwn (model X.prog X.w) X.A X.env X.xe)(hc:X.calm=true)(hi:AEi X tg iter ml)(hg:AG X 0 tg t)(hb:ASs X body mb)
  (hs:∀x,foldedSetIterable iter X.env x=pure x):AS X (.For tg iter body [] pos) (zby_ sh ml t mb):=by
 rw[XG_]
 exact zeK_ hp hc hi hg hb hs
end
end L4
namespace HT
end HT
namespace PySem
end PySem
namespace L4
open PySem PySem.Spec PyProof.Rows L2 L3
noncomputable def uM_:D->Bool
 | .int _=>true
 | .str _=>true
 | _=>false
noncomputable def yB_:D->Bool
 | .tuple ds=>ds.all uM_
 | _=>false
noncomputable def WC_:D->D->Bool
 | .int i,.int j=>decide (i=j)
 | .str i,.str j=>decide (i=j)
 | _,_=>false
noncomputable def YT_:List D->List D->Bool
 | [],[]=>true
 | a::r,b::t=>WC_ a b&&YT_ r t
 | _,_=>false
noncomputable def keyQ:D->D->Bool
 | .tuple a,.tuple b=>YT_ a b
 | a,b=>WC_ a b
noncomputable def keyOk(es:List (D×D))(k:D):Bool:=(yB_ k&&es.all λp=>yB_ p.1)||(uM_ k&&es.all λp=>uM_ p.1)
theorem YU_{es:List (D×D)}{k:D}(h:keyOk es k=true):isXe es=false:=by
 unfold isXe
 split
 ·simp[keyOk,yB_,uM_]at h
 ·simp[keyOk,yB_,uM_]at h
 ·rfl
noncomputable def getE(es:List (D×D))(k:D):Option D:=(es.find? λp=>keyQ p.1 k).map (·.2)
theorem QE_(a b:Key):WC_ (keyD a) (keyD b)=decide (a=b):=by
 cases a<;>cases b<;>simp[WC_,keyD]
theorem QD_:∀(a b:List Key),YT_ (a.map keyD) (b.map keyD)=decide (a=b)
 | [],[]=>by simp[YT_]
 | [],_::_=>by simp[YT_]
 | _::_,[]=>by simp[YT_]
 | x::xs,y::ys=>by
  simp only[List.map_cons,YT_,QE_,QD_ xs ys]
  by_cases h:x=y<;>by_cases g:xs=ys<;>simp[h,g]
theorem zen_(a b:List Key):keyQ (keyT a) (keyT b)=decide (a=b):=QD_ a b
theorem zeo_(a b:Key):keyQ (keyD a) (keyD b)=decide (a=b):=by
 have h:keyQ (keyD a) (keyD b)=WC_ (keyD a) (keyD b):=by cases a<;>cases b<;>rfl
 rw[h];exact QE_ a b
theorem ZD_{d:D}(h:uM_ d=true):∃k,d=keyD k:=by
 cases d<;>first|exact⟨.inl _,rfl⟩|exact⟨.inr _,rfl⟩|cases h
theorem Jq_:∀{ds:List D},ds.all uM_=true->∃k:List Key,ds=k.map keyD
 | [],_=>⟨[],rfl⟩
 | d::ds,h=>by
  rw[List.all_cons,Bool.and_eq_true]at h
  obtain⟨k,rfl⟩:=ZD_ h.1
  obtain⟨ks,rfl⟩:=Jq_ h.2
  exact⟨k::ks,rfl⟩
theorem U1_{d:D}(h:yB_ d=true):∃k,d=keyT k:=by
 cases d<;>first|cases h|skip
 obtain⟨k,rfl⟩:=Jq_ h
 exact⟨k,rfl⟩
theorem zae_(k:Key):yB_ (keyD k)=false:=by cases k<;>rfl
theorem zaf_(k:List Key):uM_ (keyT k)=false:=rfl
section
variable {K:Fg}{F H:Hp}{v:V}
theorem JP_{k:Key}(r:Rep K F v (keyD k)):v=kV k:=by
 cases k with
 | inl i=>cases (show Rep K F v (.int i)from r);rfl
 | inr i=>cases (show Rep K F v (.str i)from r);rfl
theorem Uw_:∀{vs:List V} {k:List Key},RepL K F vs (k.map keyD)->vs=k.map kV
 | _,[],r=>by rw[List.map_nil]at r;cases r;rfl
 | _,k::ks,r=>by
  rw[List.map_cons]at r
  cases r with
  | cons a b=>rw[JP_ a,Uw_ b];rfl
theorem Ql_{k:List Key}(r:Rep K F v (keyT k)):∃b,v=.ref b/\F b=some (.tup (k.map kV)):=by
 unfold keyT at r
 cases r with
 | tup h1 h2=>rw[Uw_ h2]at h1;exact⟨_,rfl,h1⟩
def DT(K:Fg)(F H:Hp)(a:Addr)(es:List (D×D)):Prop:=∃kvs,H a=some (.dT kvs)/\es.map (·.1)=kvs.map (λp=>keyT p.1)/\RepL K F (kvs.map (·.2)) (es.map (·.2))
def DK(K:Fg)(F H:Hp)(a:Addr)(es:List (D×D)):Prop:=∃kvs,H a=some (.dK kvs)/\es.map (·.1)=kvs.map (λp=>keyD p.1)/\RepL K F (kvs.map (·.2)) (es.map (·.2))
theorem OR.dict{es:List (D×D)}(s:Same F H)(h:OR K F H v (.dict es))(hx:isXe es=false):∃a,v=.ref a/\(DT K F H a es\/DK K F H a es):=by
 rcases h with h|⟨a,c,e,e2,h1,hI⟩
 ·cases h with
  | dct h1 h2 h3=>exact⟨_,rfl,.inl ⟨_,s _ _ h1,h2,h3⟩⟩
  | dck h1 h2 h3=>exact⟨_,rfl,.inr ⟨_,s _ _ h1,h2,h3⟩⟩
  | exc _ _ _ _ _=>cases hx
  | fn _=>cases hx
 ·cases c<;>cases e2
  ·exact⟨a,e,.inl h1⟩
  ·exact⟨a,e,.inr h1⟩
theorem YV_{κ:Type}[DecidableEq κ]{kd:κ->D}(inj:∀a b,keyQ (kd a) (kd b)=decide (a=b))(k:κ):∀{kvs:List (κ×V)} {es:List (D×D)},es.map (·.1)=kvs.map (λp=>kd p.1)->RepL K F (kvs.map (·.2)) (es.map (·.2)) ->
  (∃d v,getE es (kd k)=some d/\valV kvs k=some v/\Rep K F v d)\/(getE es (kd k)=none/\valV kvs k=none)
 | [],[],_,_=>.inr ⟨rfl,rfl⟩
 | [],_::_,e,_=>by simp at e
 | _::_,[],e,_=>by simp at e
 | p::kvs,q::es,e,r=>by
  simp only[List.map_cons,List.cons.injEq]at e
  cases r with
  | cons r1 r2 =>
   unfold getE valV
   rw[List.find?_cons,List.find?_cons,e.1,inj]
   by_cases h:p.1=k
   ·simp only[h,decide_true]
    exact .inl ⟨_,_,rfl,rfl,r1⟩
   ·simp only[h,decide_false]
    exact YV_ inj k e.2 r2
end
def Q5_(H:Hp)(a:Addr):Prop:=H a=some (.dT [])\/H a=some (.dK [])
theorem Jx_{X:Cx}{pins:List (Addr×Obj)}{σ:L2.St}{H:Hp}{s:Shared}{a:Addr}(I:Inv X pins σ H s)(h:Q5_ H a) :
  s.heap.DictOfH (tupleKind (z8_ X.prog X.w)) a []/\s.heap.DictOf (z8_ X.prog X.w) a []/\(a==sysModules)=false:=by
 rcases h with h|h
 ·obtain⟨z,y,xs,kt,o,es,ep,h1,h2,h3,h4,h5,h6⟩:=zcz_ I.hok h
  cases kt
  have e0:es = #[]:=by
   have:es.toList=[]:=h4
   exact Array.toList_inj.mp this
  subst e0
  exact⟨⟨o,_,ep,h1,h2,h3,rfl,(λx hx=>by simp at hx),List.nodup_nil⟩,⟨o,_,ep,h1,h2,h3,λe he=>by simp at he,.nil,List.nodup_nil⟩,y⟩
 ·obtain⟨z,y,vs,kv,o,es,ep,h1,h2,h3,h4,h5,h6⟩:=zcA_ I.hok h
  cases kv
  have e0:es = #[]:=by
   have:es.toList=[]:=by
    generalize es.toList=l at h5
    cases h5
    rfl
   exact Array.toList_inj.mp this
  subst e0
  exact⟨⟨o,_,ep,h1,h2,h3,rfl,(λx hx=>by simp at hx),List.nodup_nil⟩,⟨o,_,ep,h1,h2,h3,λe he=>by simp at he,.nil,List.nodup_nil⟩,y⟩
theorem DT.empty{K:Fg}{F H:Hp}{a:Addr}(h:DT K F H a []):Q5_ H a:=by
 obtain⟨kvs,h1,h2,_⟩:=h
 cases kvs with
 | nil=>exact .inl h1
 | cons _ _=>simp at h2
theorem DK.empty{K:Fg}{F H:Hp}{a:Addr}(h:DK K F H a []):Q5_ H a:=by
 obtain⟨kvs,h1,h2,_⟩:=h
 cases kvs with
 | nil=>exact .inr h1
 | cons _ _=>simp at h2
def KeyV(H:Hp)(y:V):Prop:=(∃k,y=kV k)\/∃(b:Addr) (ks:List Key),y=.ref b/\H b=some (.tup (ks.map kV))
def DAsk(H:Hp)(a:Addr)(y:V)(o:Option V):Prop:=DGet H a y o\/(Q5_ H a/\KeyV H y/\o=none)
theorem Xi_{K:Fg}{F H:Hp}{a:Addr}{y:V}{es:List (D×D)}{k:D}(s:Same F H)(h:DT K F H a es\/DK K F H a es)(r:Rep K F y k)(hk:keyOk es k=true) :
  (∃d v,getE es k=some d/\DAsk H a y (some v)/\Rep K F v d)\/(getE es k=none/\DAsk H a y none):=by
 unfold keyOk at hk
 rw[Bool.or_eq_true,Bool.and_eq_true,Bool.and_eq_true]at hk
 have kT:yB_ k=true->KeyV H y:=λh=>by
  obtain⟨ks,rfl⟩:=U1_ h
  obtain⟨b,rfl,hb⟩:=Ql_ r
  exact .inr ⟨b,ks,rfl,s _ _ hb⟩
 have kK:uM_ k=true->KeyV H y:=λh=>by
  obtain⟨ks,rfl⟩:=ZD_ h
  exact .inl ⟨ks,JP_ r⟩
 cases es with
 | nil =>
  refine .inr ⟨rfl,.inr ⟨?_,?_,rfl⟩⟩
  ·rcases h with h|h
   ·exact h.empty
   ·exact h.empty
  ·rcases hk with hk|hk
   ·exact kT hk.1
   ·exact kK hk.1
 | cons p es =>
  rcases h with ⟨kvs,h1,h2,h3⟩|⟨kvs,h1,h2,h3⟩
  ·rcases hk with ⟨hk,_⟩|⟨_,hk⟩
   ·obtain⟨ks,rfl⟩:=U1_ hk
    obtain⟨b,rfl,hb⟩:=Ql_ r
    rcases YV_ zen_ ks h2 h3 with ⟨d,v,e1,e2,e3⟩|⟨e1,e2⟩
    ·exact .inl ⟨d,v,e1,.inl (e2▸DGet.t h1 (s _ _ hb)),e3⟩
    ·exact .inr ⟨e1,.inl (e2▸DGet.t h1 (s _ _ hb))⟩
   ·exfalso
    cases kvs with
    | nil=>simp at h2
    | cons q kvs =>
     simp only[List.map_cons,List.cons.injEq]at h2
     rw[List.all_cons,h2.1,zaf_,Bool.false_and]at hk
     cases hk
  ·rcases hk with ⟨_,hk⟩|⟨hk,_⟩
   ·exfalso
    cases kvs with
    | nil=>simp at h2
    | cons q kvs =>
     simp only[List.map_cons,List.cons.injEq]at h2
     rw[List.all_cons,h2.1,zae_,Bool.false_and]at hk
     cases hk
   ·obtain⟨ks,rfl⟩:=ZD_ hk
    obtain rfl:=JP_ r
    rcases YV_ zeo_ ks h2 h3 with ⟨d,v,e1,e2,e3⟩|⟨e1,e2⟩
    ·exact .inl ⟨d,v,e1,.inl (e2▸DGet.k h1),e3⟩
    ·exact .inr ⟨e1,.inl (e2▸DGet.k h1)⟩
section
variable {X:Cx}{pins:List (Addr×Obj)}{σ:L2.St}{H:Hp}{s:Shared}{a:Addr}{y d:V}{u r:Value}{o:Option V}{A:Around}{E:Value->Shared->Prop}
theorem a_in{Q:Value->Shared->Prop}(hu:A.units+1<cLine)(I:Inv X pins σ H s)(g:DAsk H a y o)(ry:RelV y u)(h:∀s',Inv X pins σ H s'->Q (.bool o.isSome) s') :
  wpAny (model X.prog X.w) A (compareOp .In u (.ref a)) Q E s:=by
 rcases g with g|⟨e,k,rfl⟩
 ·exact d_in hu I g ry h
 ·obtain⟨h1,h2,hd⟩:=Jx_ I e
  rcases k with ⟨k,rfl⟩|⟨b,ks,rfl,hb⟩
  ·exact wpAny_in_of (Vq_ ry) hd h2.mapOf (h _ (I.tok _))
  ·cases (show u=Value.ref b from ry)
   exact wpAny_in_heap (tupleKind_room_in1 hu) (Jo_ I.hok hb) hd h1 (h _ (I.tok _))
theorem zcS_{Q:Value->Shared->Prop}(hu:A.units+1<cLine)(I:Inv X pins σ H s)(g:DAsk H a y o)(ry:RelV y u)(h:∀s',Inv X pins σ H s'->Q (.bool (!o.isSome)) s') :
  wpAny (model X.prog X.w) A (compareOp .NotIn u (.ref a)) Q E s:=by
 rcases g with g|⟨e,k,rfl⟩
 ·exact zcB_ hu I g ry h
 ·obtain⟨h1,h2,hd⟩:=Jx_ I e
  rcases k with ⟨k,rfl⟩|⟨b,ks,rfl,hb⟩
  ·exact wpAny_notIn_of (Vq_ ry) hd h2.mapOf (h _ (I.tok _))
  ·cases (show u=Value.ref b from ry)
   exact wpAny_notIn_heap (tupleKind_room_in1 hu) (Jo_ I.hok hb) hd h1 (h _ (I.tok _))
end
def UI_(d c:D):Option Bool:=match c with
 | .dict es=>if keyOk es d then some (getE es d).isSome else none
 | _=>opIn d c
def uT_(d c:D):Option Bool:=match c with
 | .dict es=>if keyOk es d then some (!(getE es d).isSome)else none
 | _=>yh_ d c
def jK_(x y:D):Option D:=match x with
 | .dict es=>if keyOk es y then getE es y else none
 | _=>opIx x y
noncomputable def rDin(neg:Bool):R2:=λx y H Q=>∃a o,y=.ref a/\DAsk H a x o/\Q (.bl (if neg then !o.isSome else o.isSome)) H
def rInA(K:Fg):R2:=λx y H Q=>rD2 K opIn x y H Q\/rDin false x y H Q
def V3_(K:Fg):R2:=λx y H Q=>rD2 K yh_ x y H Q\/rDin true x y H Q
noncomputable def rDIx:R2:=λx y H Q=>∃a v,x=.ref a/\DGet H a y (some v)/\Q v H
def rIxA(K:Fg):R2:=λx y H Q=>rIx K x y H Q\/rDIx x y H Q
section
variable {X:Cx}
theorem JS_(hu:X.A.units+1100<cLine):OpR X (compareOp .In) (rInA X.K):=OpR.or (zdS_ hu) (by
 intro pins s σ H x y v u Q I rx ry ⟨a,o,e,g,q⟩
 subst e
 obtain rfl:u=Value.ref a:=ry
 exact a_in (by lia) I g rx λs' I'=>⟨.bl _,H,I',rfl,q⟩)
theorem yN_(hu:X.A.units+1100<cLine):OpR X (compareOp .NotIn) (V3_ X.K):=OpR.or (Wi_ hu) (by
 intro pins s σ H x y v u Q I rx ry ⟨a,o,e,g,q⟩
 subst e
 obtain rfl:u=Value.ref a:=ry
 exact zcS_ (by lia) I g rx λs' I'=>⟨.bl _,H,I',rfl,q⟩)
theorem zcl_(hu:X.A.units+1100<cLine):IxR X rDIx:=by
 intro value slice pins s σ H x y v u Q I rx ry ⟨a,w,e,g,q⟩ hs
 subst e
 obtain rfl:v=Value.ref a:=rx
 have hT:s.TypeIs (.ref a) "dict":=YZ_ I g
 unfold subscriptTail
 refine zza ?_
 rw[getitemInPython_of_ne hT.not_modules]
 refine zza (wpAny_specialOf hT PySem.F.slot_dict_getitem.lookup ?_)
 have h₂:wpAny (model X.prog X.w) X.A (getItem (.ref a) u) (EP X pins σ Q) X.xe s:=W0_ (by lia) I g ry λw' s3 I3 rw'=>⟨w,H,I3,rw',q⟩
 have fin:wpAny (model X.prog X.w) X.A (subscripted slice false (.ref a) u) (λr s₃=>wpAny (model X.prog X.w) X.A (letTemporaryGo value (.ref a) r >>= λ_=>pure r) (EP X pins σ Q) X.xe s₃) X.xe s:=by
  rw[hs]
  exact wpAny_operating (wpAny_mono h₂ (λr s₃ h₃=>zza (wpAny_letTemporaryGo (zzb h₃))) λ_ _ x=>x)
 first
  | exact zzb (zza fin)
  | exact zza (zzb (zza fin))
  | exact zza fin
theorem jv_(hu:X.A.units+1100<cLine):IxR X (rIxA X.K):=IxR.or zer_ (zcl_ hu)
theorem Zz_{K:Fg}{F H:Hp}{y:V}{es:List (D×D)}{k:D}(h:OR K F H y k)(hk:keyOk es k=true):Rep K F y k:=by
 rcases h with h|⟨a,c,e,e2,h1,hI⟩
 ·exact h
 ·exfalso
  subst e2
  unfold keyOk at hk
  cases c<;>simp[OC.d,yB_,uM_]at hk
theorem Qu_{K:Fg}:OpB K (rInA K) UI_:=by
 intro G F σ H ρ x y dx dy res Q S ox oy e k
 unfold UI_ at e
 split at e
 ·rename_i es
  split at e
  case isFalse=>cases e
  rename_i hk
  cases e
  obtain⟨a,rfl,hh⟩:=oy.dict S.fh (YU_ hk)
  rcases Xi_ S.fh hh (Zz_ ox hk) hk with ⟨d,v,e1,g,r⟩|⟨e1,g⟩
  ·exact .inr ⟨a,_,rfl,g,by rw[e1]at k;exact k⟩
  ·exact .inr ⟨a,_,rfl,g,by rw[e1]at k;exact k⟩
 ·exact .inl (jN_ G F σ H ρ x y dx dy res Q S ox oy e k)
theorem Zs_{K:Fg}:OpB K (V3_ K) uT_:=by
 intro G F σ H ρ x y dx dy res Q S ox oy e k
 unfold uT_ at e
 split at e
 ·rename_i es
  split at e
  case isFalse=>cases e
  rename_i hk
  cases e
  obtain⟨a,rfl,hh⟩:=oy.dict S.fh (YU_ hk)
  rcases Xi_ S.fh hh (Zz_ ox hk) hk with ⟨d,v,e1,g,r⟩|⟨e1,g⟩
  ·exact .inr ⟨a,_,rfl,g,by rw[e1]at k;exact k⟩
  ·exact .inr ⟨a,_,rfl,g,by rw[e1]at k;exact k⟩
 ·exact .inl (jN_ G F σ H ρ x y dx dy res Q S ox oy e k)
theorem js_{K:Fg}:OpD K (rIxA K) jK_:=by
 intro G F σ H ρ x y dx dy res Q S ox oy e k
 unfold jK_ at e
 split at e
 ·rename_i es
  split at e
  case isFalse=>cases e
  rename_i hk
  obtain⟨a,rfl,hh⟩:=ox.dict S.fh (YU_ hk)
  rcases Xi_ S.fh hh (Zz_ oy hk) hk with ⟨d,v,e1,g,r⟩|⟨e1,g⟩
  ·rw[e1]at e
   cases e
   rcases g with g|⟨_,_,z⟩
   ·exact .inr ⟨a,v,rfl,g,k v F H (Same.refl _) S r⟩
   ·cases z
  ·rw[e1]at e;cases e
 ·exact .inl (zfv_ G F σ H ρ x y dx dy res Q S ox oy e k)
end
end L4
namespace HT
open PySem PyProof.Rows
noncomputable def lexLe:List Int->List Int->Bool
 | [],[]=>true
 | [],_::_=>true
 | _::_,[]=>false
 | x::xs,y::ys=>if x=y then lexLe xs ys else decide (x<=y)
theorem Vm_(x y:Int)(xs ys:List Int):lexLe (x::xs) (y::ys)=if x=y then lexLe xs ys else decide (x<=y):=rfl
theorem J3_:lexLe [] []=true:=rfl
theorem Z3_(y:Int)(ys:List Int):lexLe [] (y::ys)=true:=rfl
theorem Z4_(x:Int)(xs:List Int):lexLe (x::xs) []=false:=rfl
theorem XL_(A:Around)(s:Shared)(a:Int)(t:Tok)(c:Int)(u:Tok)(prog:Program)(w:World)(E:Value->Shared->Prop)(Q:Value->Shared->Prop)(h:Q (.bool (decide (a<=c))) s) :
  wpAny (model prog w) A (richCompare .LtE (.int a t) (.int c u)) Q E s :=
 (PyProof.Rows.le_int h:wpAny (model prog w) A (compareOp .LtE (.int a t) (.int c u)) Q E s)
section
open PySem.SeqAt
open PySem.AutoSeq1 (wpAny_loadPart')
open PySem.MeetsSeq PySem.MeetsSeq2 PySem.MeetsSeq3
theorem JH_(l b:Addr)(items items2:Array Value)(n n2:Nat)(dd dd2:Option Addr)(sl sl2:Array (Option Value))(ns ms:List Int)(hi:IntsAre items.toList ns)(hj:IntsAre items2.toList ms) :
  Meets (Builtin.«tuple.__le__» ⟨[.ref l,.ref b],[]⟩)
   (λ_ R s=>s.heap.get? l=some { cls:=.type "tuple",dict:=dd,data:=.seq items n,slots:=sl }/\s.heap.get? b=some { cls:=.type "tuple",dict:=dd2,data:=.seq items2 n2,slots:=sl2 } /\
    R (.ok (.ret (.bool (lexLe ns ms)))) s) :=
 .of_wp λprog w A R s h=>by
  obtain⟨hp,g,d,tk,os⟩:=s;obtain⟨hl,hb,h⟩:=h
  have f2:=AutoSeq1.sub_tuple_tuple
  have z1:items.size=ns.length:=by rw[<-hi.length];simp
  have z2:items2.size=ms.length:=by rw[<-hj.length];simp
  wp_walk using wpAny_loadPart' hl,wpAny_loadPart' hb,wpAny_forIn_list _ (λrest b s'=>b.1=none/\s'=⟨hp,g,d,tk,os⟩/\∃(vs ws:List Value) (ns' ms':List Int),rest=vs.zip ws /\
   IntsAre vs ns'/\IntsAre ws ms'/\ns'.length+items2.size=ms'.length+items.size/\R (.ok (.ret (.bool (lexLe ns' ms')))) ⟨hp,g,d,tk,os⟩) _
  case turn =>
   rintro⟨y,x⟩ rest b s' ⟨hb',rfl,vs,ws,ns',ms',hz,hvi,hwi,hlen,hR⟩
   cases hvi with
   | nil=>rw[List.zip_nil_left]at hz;cases hz
   | cons a t hvi' =>
    cases hwi with
    | nil=>rw[List.zip_nil_right]at hz;cases hz
    | cons c u hwi' =>
     rw[List.zip_cons_cons]at hz
     injection hz with hyx hrest
     injection hyx with hy hx
     subst hy hx
     rw[Vm_]at hR
     simp only[List.length_cons]at hlen
     obtain⟨e,he,hiff⟩:=QJ_ A.in1 ⟨hp,g,d,tk,os⟩ a t c u
     refine zza (he prog w _ _ ?_)
     cases e with
     | true =>
      rw[if_pos (hiff.mp rfl)]at hR
      wp_walk
      exact⟨rfl,rfl,_,_,_,_,hrest,hvi',hwi',by lia,hR⟩
     | false =>
      rw[if_neg (λq=>absurd (hiff.mpr q) Bool.false_ne_true)]at hR
      have hri:=XL_ A.in1 ⟨hp,g,d,tk,os⟩ a t c u prog w
      wp_walk using hri
      exact⟨_,rfl,by simpa using hR⟩
  case fin =>
   rintro⟨b1,b2⟩ s' ⟨hb',rfl,vs,ws,ns',ms',hz,hvi,hwi,hlen,hR⟩
   simp only at hb'
   subst hb'
   have hv:lexLe ns' ms'=decide (items.size<=items2.size):=by
    cases hvi with
    | nil =>
     cases hwi with
     | nil =>
      simp only[List.length_nil]at hlen
      rw[J3_]
      exact(decide_eq_true (by lia)).symm
     | cons c u hw =>
      simp only[List.length_nil,List.length_cons]at hlen
      rw[Z3_]
      exact(decide_eq_true (by lia)).symm
    | cons a t hv =>
     cases hwi with
     | nil =>
      simp only[List.length_nil,List.length_cons]at hlen
      rw[Z4_]
      exact(decide_eq_false (by lia)).symm
     | cons c u hw =>
      rw[List.zip_cons_cons]at hz
      cases hz
   rw[hv]at hR
   wp_walk
   exact⟨_,rfl,by simpa[Builtin.Tuple.tupleCompareSizes]using hR⟩
  case h =>
   exact⟨rfl,rfl,items.toList,items2.toList,ns,ms,rfl,hi,hj,by lia,h⟩
end
section
variable {prog:Program}{w:World}{A:Around}{E:Value->Shared->Prop}{s:Shared}
theorem le_tupInts{l b:Addr}{items items2:Array Value}{ns ms:List Int}{Q:Value->Shared->Prop}(hl:IsTup s.heap l items)(hb:IsTup s.heap b items2)(hi:IntsAre items.toList ns)(hj:IntsAre items2.toList ms)
  (hu:A.units<cLine) (h:Q (.bool (lexLe ns ms)) s):wpAny (model prog w) A (compareOp .LtE (.ref l) (.ref b)) Q E s:=by
 obtain⟨⟨cls,dd,data,sl⟩,ho,hc,n,hd⟩:=id hl
 obtain⟨⟨cls2,dd2,data2,sl2⟩,ho2,hc2,n2,hd2⟩:=id hb
 simp only at hc hd hc2 hd2
 subst hc hd hc2 hd2
 exact richCompare_meets_room (op:=.LtE) ⟨_,ho,rfl⟩ ⟨_,ho2,rfl⟩ PySem.F.slot_tuple_le PySem.F.entry_tuple_le (PySem.F.args_tuple_le_2 _ _) (JH_ l b items items2 n n2 dd dd2 sl sl2 ns ms hi hj)
  ⟨ho,ho2,show Value.bool (lexLe ns ms)≠Value.notImplemented/\Q (.bool (lexLe ns ms)) s from⟨(λx=>nomatch x),h⟩⟩ hu
end
end HT
namespace L4
open PySem PySem.Spec PyProof.Rows L2 L3
noncomputable def rLeT(K:PySem.W.Frag):R2:=λx y H Q=>∃a b ns ms,x=.ref a/\y=.ref b/\SqT K H a (ns.map V.int)/\SqT K H b (ms.map V.int)/\Q (.bl (HT.lexLe ns ms)) H
theorem zdV_{X:Cx}(hu:X.A.units<cLine):OpR X (compareOp .LtE) (rLeT X.K):=by
 intro pins s σ H x y v u Q I rx ry h
 obtain⟨a,b,ns,ms,rfl,rfl,ha,hb,q⟩:=h
 cases rx
 cases ry
 obtain⟨its,r1,p1,_⟩:=I.tuple ha
 obtain⟨its2,r2,p2,_⟩:=I.tuple hb
 have i1:IntsAre its.toArray.toList ns:=intsAre_of r1
 have i2:IntsAre its2.toArray.toList ms:=intsAre_of r2
 exact HT.le_tupInts p1 p2 i1 i2 hu ⟨.bl (HT.lexLe ns ms),H,I,rfl,q⟩
noncomputable def u0_(x y:D):Option Bool:=match x,y with
 | .tuple a,.tuple b=>match intsOf a,intsOf b with
  | some m,some n=>some (HT.lexLe m n)
  | _,_=>none
 | x,y=>opLe x y
noncomputable def Wm_(x y:D):Option Bool:=match x,y with
 | .tuple a,.tuple b=>match intsOf a,intsOf b with
  | some m,some n=>some (HT.lexLt m n)
  | _,_=>none
 | x,y=>opLt x y
def rLeA(K:Fg):R2:=λx y H Q=>rI0 (λi j=>.bl (decide (i<=j))) x y H Q\/rLeT K x y H Q
def rLtA(K:Fg):R2:=λx y H Q=>rI0 (λi j=>.bl (decide (i<j))) x y H Q\/rLtT K x y H Q
theorem yy_{X:Cx}(hu:X.A.units+1100<cLine):OpR X (compareOp .LtE) (rLeA X.K):=OpR.or zfr_ (zdV_ (by lia))
theorem zaN_{X:Cx}(hu:X.A.units+1100<cLine):OpR X (compareOp .Lt) (rLtA X.K):=OpR.or zfq_ (zdU_ (by lia))
theorem yz_{K:Fg}:OpB K (rLeA K) u0_:=by
 intro G F σ H ρ x y dx dy res Q S ox oy e k
 unfold u0_ at e
 split at e
 ·rename_i a b
  split at e
  ·rename_i m n hm hn
   cases e
   obtain⟨p,vs,rfl,h1,h2⟩:=ox.tuple S.fh
   obtain⟨q,us,rfl,g1,g2⟩:=oy.tuple S.fh
   rw[um_ hm]at h2
   rw[um_ hn]at g2
   rw[uK_ h2]at h1
   rw[uK_ g2]at g1
   exact .inr ⟨p,q,m,n,rfl,rfl,h1,g1,k⟩
  ·cases e
 ·exact .inl (zfu_ G F σ H ρ x y dx dy res Q S ox oy e k)
theorem zaP_{K:Fg}:OpB K (rLtA K) Wm_:=by
 intro G F σ H ρ x y dx dy res Q S ox oy e k
 unfold Wm_ at e
 split at e
 ·rename_i a b
  split at e
  ·rename_i m n hm hn
   cases e
   obtain⟨p,vs,rfl,h1,h2⟩:=ox.tuple S.fh
   obtain⟨q,us,rfl,g1,g2⟩:=oy.tuple S.fh
   rw[um_ hm]at h2
   rw[um_ hn]at g2
   rw[uK_ h2]at h1
   rw[uK_ g2]at g1
   exact .inr ⟨p,q,m,n,rfl,rfl,h1,g1,k⟩
  ·cases e
 ·exact .inl (zft_ G F σ H ρ x y dx dy res Q S ox oy e k)
end L4
namespace PySem
end PySem
namespace HT
end HT
namespace L4
open PySem PySem.Spec PyProof.Rows L2 L3
theorem av{X:Cx}(i:Nat){x:Str}{pos:Pos}(hN:X.N[i]? = some x:=by rfl)(hv:Vis X.env.scope x:=by first|exact Or.inl rfl|exact Or.inr (Or.inl rfl)|exact Or.inr (Or.inr rfl))
  (hd:(x==("__debug__" : Str))=false:=by decide) (hcd:(x==("__classdict__" : Str))=false:=by decide):AP X (.Name x pos) (pVar i):=zeL_ hN hv hd hcd
end L4
namespace TS
open PySem PyProof.Rows
noncomputable def kr(rk:Value->Int)(xs:Array Keyed)(i:Nat):Int:=(xs[i]?.map λp=>rk p.1).getD 0
def Asc(rk:Value->Int)(xs:Array Keyed)(lo hi:Nat):Prop:=∀i j:Nat,lo<=i->i<=j->j<hi->kr rk xs i<=kr rk xs j
def Dsc(rk:Value->Int)(xs:Array Keyed)(lo hi:Nat):Prop:=∀i j:Nat,lo<=i->i<=j->j<hi->kr rk xs j<=kr rk xs i
def Cmps(prog:Program)(w:World)(A:Around)(s:Shared)(κ:SortKind)(rk:Value->Int)(a₀:Array Keyed):Prop :=
 ∀x y,x∈a₀.toList->y∈a₀.toList->∀(E:Value->Shared->Prop) (Q:Bool->Shared->Prop),Q (decide (rk x.1<rk y.1)) s->wpAny (model prog w) A (keyLt' κ x.1 y.1) Q E s
noncomputable abbrev Runs:=Array (Nat×Nat×Nat)
structure SB(κ:SortKind)(a₀:Array Keyed)(lo:Nat)(old:Array Keyed)(P:Runs)(st:SortSt):Prop where
 pm:(arrOf st).Perm a₀
 kd:kindOf st=κ
 fl:failedOf st=none
 kp:∀i,i<lo->(arrOf st)[i]? = old[i]?
 pe:pendingOf st=P
section
variable {prog:Program}{w:World}{A:Around}{E:Value->Shared->Prop}{s:Shared}{κ:SortKind}{rk:Value->Int}{a₀ old:Array Keyed}{lo:Nat}{P:Runs}
theorem SB.sz{st:SortSt}(h:SB κ a₀ lo old P st):(arrOf st).size=a₀.size:=h.pm.size_eq
theorem SB.to{st:SortSt}(h:SB κ a₀ lo old P st){xs:Array Keyed}(hp:xs.Perm (arrOf st))(hk:∀i,i<lo->xs[i]? = (arrOf st)[i]?):SB κ a₀ lo old P (setArr st xs) :=
 ⟨hp.trans h.pm,h.kd,h.fl,λi hi=>(hk i hi).trans (h.kp i hi),h.pe⟩
theorem SB.mem{st:SortSt}(h:SB κ a₀ lo old P st){i:Nat}{p:Keyed}(e:(arrOf st)[i]? = some p):p∈a₀.toList :=
 (Array.perm_iff_toList_perm.mp h.pm).mem_iff.mp (by
  obtain⟨hl,e⟩:=Array.getElem?_eq_some_iff.mp e
  rw[<-e];simp)
theorem X9_{xs:Array Keyed}{i:Nat}{p:Keyed}(e:xs[i]? = some p):kr rk xs i=rk p.1:=by unfold kr;rw[e];rfl
theorem WB_{xs ys:Array Keyed}{i j:Nat}(e:xs[i]? = ys[j]?):kr rk xs i=kr rk ys j:=by unfold kr;rw[e]
theorem zeE_{xs:Array Keyed}{i:Nat}{p:Keyed}{st:SortSt}{Q:Keyed->SortSt->Prop}(e:xs[i]? = some p)(q:Q p st):wpS (model prog w) A E s (elem' xs i) Q st:=by
 rw[elem'_eq,e];exact wpS_pure q
theorem zfA_{x y:Keyed}{st:SortSt}{Q:Option Bool->SortSt->Prop}(hC:Cmps prog w A s κ rk a₀)(hk:kindOf st=κ)(hx:x∈a₀.toList)(hy:y∈a₀.toList)(q:Q (some (decide (rk x.1<rk y.1))) st) :
  wpS (model prog w) A E s (lt' x y) Q st:=by
 rw[lt'_eq]
 refine wpS_bind (wpS_get ?_)
 rw[hk]
 refine wpS_bind (wpS_lift (wpAny_attempt (hC x y hx hy _ _ ⟨rfl,?_⟩)))
 exact wpS_pure q
theorem Xg_{i j:Nat}{st:SortSt}{Q:Option Bool->SortSt->Prop}(hC:Cmps prog w A s κ rk a₀)(h:SB κ a₀ lo old P st)(hi:i<a₀.size)(hj:j<a₀.size)(q:Q (some (decide (kr rk (arrOf st) i<kr rk (arrOf st) j))) st) :
  wpS (model prog w) A E s (ltAt' i j) Q st:=by
 have e1:(arrOf st)[i]? = some ((arrOf st)[i]'(by rw[h.sz];exact hi)):=Array.getElem?_eq_getElem _
 have e2:(arrOf st)[j]? = some ((arrOf st)[j]'(by rw[h.sz];exact hj)):=Array.getElem?_eq_getElem _
 rw[ltAt'_eq]
 refine wpS_bind (wpS_get ?_)
 refine wpS_bind (zeE_ e1 (wpS_bind (zeE_ e2 ?_)))
 refine zfA_ hC h.kd (h.mem e1) (h.mem e2) ?_
 rw[X9_ e1,X9_ e2]at q
 exact q
theorem Qk_{st:SortSt}{i j:Nat}{Q:Unit->SortSt->Prop}(q:Q () (setArr st (mirror (arrOf st) i j ((j - i) / 2)))):wpS (model prog w) A E s (reverseSlice' i j) Q st:=by
 rw[reverseSlice'_eq]
 exact wpS_modify q
theorem WA_{xs:Array Keyed}{i j:Nat}(hj:j<=xs.size)(k:Nat):kr rk (mirror xs i j ((j - i) / 2)) k=if i<=k/\k<j then kr rk xs (i+j - 1 - k)else kr rk xs k:=by
 have e:=getElem?_mirror_all (i:=i) hj k
 split
 ·rename_i c;rw[if_pos c]at e;exact WB_ e
 ·rename_i c;rw[if_neg c]at e;exact WB_ e
theorem Zc_{xs:Array Keyed}{i j lo:Nat}(hj:j<=xs.size)(hl:lo<=i):∀k,k<lo->(mirror xs i j ((j - i) / 2))[k]? = xs[k]?:=λk hk=>by
 rw[getElem?_mirror_all hj k,if_neg (by lia)]
theorem J2_{xs:Array Keyed}{i j:Nat}(hj:j<=xs.size)(e:∀k,i<=k->k<j->kr rk xs k=kr rk xs (j - 1))(k:Nat):kr rk (mirror xs i j ((j - i) / 2)) k=kr rk xs k:=by
 rw[WA_ hj]
 split
 ·rename_i c;rw[e k c.1 c.2,e _ (by lia) (by lia)]
 ·rfl
noncomputable abbrev Asl:=Option (Option Nat)×Nat
noncomputable abbrev Dsl:=Option (Option Nat)×Nat×Nat
noncomputable def upW(lo a z:Nat):StateT SortSt Sem Asl:=forIn [a:z] ((none,a):Asl) λ_ c=>do
 match <-ltAt' (lo+c.snd) (lo+c.snd - 1)with
 | some b=>if b=true then pure (ForInStep.done (none,c.snd))else pure (ForInStep.yield (none,c.snd+1))
 | _=>pure (ForInStep.done (some none,c.snd))
def endW(lo n z:Nat):StateT SortSt Sem (Option Nat):=do
 reverseSlice' lo (lo+n)
 let c <-upW lo n z
 match c.fst with
 | some r=>pure r
 | none=>pure (some c.snd)
noncomputable def dnW(lo n z:Nat):StateT SortSt Sem Dsl:=forIn [n:z] ((none,n,0):Dsl) λ_ c=>do
 match <-ltAt' (lo+c.snd.fst) (lo+c.snd.fst - 1)with
 | some b =>
  if b=true then
   if c.snd.snd>0 then do
    reverseSlice' (lo+c.snd.fst - (c.snd.snd+1)) (lo+c.snd.fst)
    pure (ForInStep.yield (none,c.snd.fst+1,0))
   else pure (ForInStep.yield (none,c.snd.fst+1,0))
  else do
   match <-ltAt' (lo+c.snd.fst - 1) (lo+c.snd.fst)with
   | some g=>if g=true then pure (ForInStep.done (none,c.snd.fst,c.snd.snd))else pure (ForInStep.yield (none,c.snd.fst+1,c.snd.snd+1))
   | _=>pure (ForInStep.done (some none,c.snd.fst,c.snd.snd))
 | _=>pure (ForInStep.done (some none,c.snd.fst,c.snd.snd))
def WR_(lo n z:Nat):StateT SortSt Sem (Option Nat):=do
 liftM (rule "list.sort.descending-run")
 let c <-dnW lo (n+1) z
 match c.fst with
 | some r=>pure r
 | none =>
  if c.snd.snd>0 then do
   reverseSlice' (lo+c.snd.fst - (c.snd.snd+1)) (lo+c.snd.fst)
   endW lo c.snd.fst z
  else endW lo c.snd.fst z
theorem zdk_(lo z:Nat):countRun' lo z=(do
  let c <-upW lo 1 z
  match c.fst with
  | some r=>pure r
  | none =>
   if(c.snd==z)=true then pure (some c.snd)
   else if c.snd>1 then do
    match <-ltAt' lo (lo+c.snd - 1)with
    | some b=>if b=true then pure (some c.snd)else do
      reverseSlice' lo (lo+c.snd)
      WR_ lo c.snd z
    | _=>pure none
   else WR_ lo c.snd z):=by
 rw[countRun'_eq]
 unfold WR_ endW dnW upW
 dsimp only
 have tl:∀(x:StateT SortSt Sem Asl),(x >>= λc3=>match c3.fst with|some r=>pure r|none=>pure (some c3.snd):StateT SortSt Sem (Option Nat))=(x >>= λc3=>match c3.fst with|none=>pure (some c3.snd)|some r=>pure r):=λx=>by
  congr 1;funext c3;rcases c3 with ⟨_|r3,n3⟩<;>rfl
 congr 1
 funext c
 rcases c with ⟨_|r,n⟩
 ·dsimp only
  split
  ·rfl
  ·split
   ·congr 1
    funext x
    cases x with
    | none=>rfl
    | some b =>
     dsimp only
     split
     ·rfl
     ·congr 1;funext _;congr 1;funext _;congr 1;funext c2
      rcases c2 with ⟨_|r2,n2,q2⟩
      ·dsimp only
       split
       ·congr 1;funext _;congr 1;funext _;congr 1;funext c3;rcases c3 with ⟨_|r3,n3⟩<;>rfl
       ·congr 1;funext _;congr 1;funext c3;rcases c3 with ⟨_|r3,n3⟩<;>rfl
      ·rfl
   ·congr 1;funext _;congr 1;funext c2
    rcases c2 with ⟨_|r2,n2,q2⟩
    ·dsimp only
     split
     ·congr 1;funext _;congr 1;funext _;congr 1;funext c3;rcases c3 with ⟨_|r3,n3⟩<;>rfl
     ·congr 1;funext _;congr 1;funext c3;rcases c3 with ⟨_|r3,n3⟩<;>rfl
    ·rfl
 ·rfl
end
section
variable {prog:Program}{w:World}{A:Around}{E:Value->Shared->Prop}{s:Shared}{κ:SortKind}{rk:Value->Int}{a₀ old:Array Keyed}{lo:Nat}{P:Runs}
theorem Asc.snoc{xs:Array Keyed}{lo m:Nat}(h:Asc rk xs lo (lo+m))(h1:1<=m)(q:¬ kr rk xs (lo+m)<kr rk xs (lo+m - 1)):Asc rk xs lo (lo+(m+1)):=λi j hi hij hj=>by
 by_cases c:j<lo+m
 ·exact h i j hi hij c
 ·by_cases c2:i=j
  ·subst c2;exact Int.le_refl _
  ·have e:j=lo+m:=by lia
   subst e
   have:=h i (lo+m - 1) hi (by lia) (by lia)
   lia
theorem zcX_{st:SortSt}{a z:Nat}{Q:Asl->SortSt->Prop}(hC:Cmps prog w A s κ rk a₀)(hz:lo+z<=a₀.size)(h1:1<=a)(ha:a<=z)(h:SB κ a₀ lo old P st)(ho:Asc rk (arrOf st) lo (lo+a))
  (q:∀n,a<=n->n<=z->Asc rk (arrOf st) lo (lo+n)->(n=z\/kr rk (arrOf st) (lo+n)<kr rk (arrOf st) (lo+n - 1))->Q (none,n) st):wpS (model prog w) A E s (upW lo a z) Q st:=by
 refine wpS_forRange (I:=λx c st'=>st'=st/\c=(none,x)/\Asc rk (arrOf st) lo (lo+x)) (λx c st' hx hxz I=>?_) (λc st' I=>?_) ⟨rfl,rfl,ho⟩
 ·obtain⟨rfl,rfl,o⟩:=I
  refine wpS_bind (Xg_ hC h (by dsimp only;lia) (by dsimp only;lia) ?_)
  dsimp only
  by_cases c:kr rk (arrOf st') (lo+x)<kr rk (arrOf st') (lo+x - 1)
  ·rw[decide_eq_true c]
   exact wpS_pure (q x hx (by lia) o (.inr c))
  ·rw[decide_eq_false c]
   exact wpS_pure ⟨rfl,rfl,o.snoc (by lia) c⟩
 ·obtain⟨rfl,rfl,o⟩:=I
  have e:max a z=z:=by lia
  rw[e]at o ⊢
  exact q z ha (Nat.le_refl _) o (.inl rfl)
def Run(κ:SortKind)(rk:Value->Int)(a₀ old:Array Keyed)(lo z:Nat)(P:Runs)(m:Nat)(st:SortSt):Prop:=SB κ a₀ lo old P st/\1<=m/\m<=z/\Asc rk (arrOf st) lo (lo+m)
theorem zbb_{st:SortSt}{n z:Nat}{Q:Option Nat->SortSt->Prop}(hC:Cmps prog w A s κ rk a₀)(hz:lo+z<=a₀.size)(h1:1<=n)(hn:n<=z)(h:SB κ a₀ lo old P st)(ho:Dsc rk (arrOf st) lo (lo+n))
  (q:∀m st',Run κ rk a₀ old lo z P m st'->Q (some m) st'):wpS (model prog w) A E s (endW lo n z) Q st:=by
 have hl:lo+n<=(arrOf st).size:=by rw[h.sz];lia
 have h':=h.to (mirror_perm (arrOf st) lo (lo+n) ((lo+n - lo) / 2)) (Zc_ hl (Nat.le_refl _))
 unfold endW
 refine wpS_bind (Qk_ (wpS_bind (zcX_ hC hz h1 hn h' (λi j hi hij hj=>?_) λm m1 m2 o _=>wpS_pure (q m _ ⟨h',by lia,m2,o⟩))))
 show kr rk (mirror (arrOf st) lo (lo+n) _) i<=kr rk (mirror (arrOf st) lo (lo+n) _) j
 rw[WA_ hl,WA_ hl,if_pos ⟨hi,by lia⟩,if_pos ⟨by lia,hj⟩]
 exact ho _ _ (by lia) (by lia) (by lia)
theorem Dsc.snoc{xs ys:Array Keyed}{lo m:Nat}(h:Dsc rk xs lo (lo+m))(h1:1<=m)(e:∀k,kr rk ys k=kr rk xs k)(q:kr rk xs (lo+m)<=kr rk xs (lo+m - 1)):Dsc rk ys lo (lo+(m+1)):=λi j hi hij hj=>by
 rw[e,e]
 by_cases c:j<lo+m
 ·exact h i j hi hij c
 ·by_cases c2:i=j
  ·subst c2;exact Int.le_refl _
  ·have e:j=lo+m:=by lia
   subst e
   have:=h i (lo+m - 1) hi (by lia) (by lia)
   lia
def Flat(rk:Value->Int)(xs:Array Keyed)(lo m q:Nat):Prop:=q+1<=m/\∀k,lo+m - (q+1)<=k->k<lo+m->kr rk xs k=kr rk xs (lo+m - 1)
theorem zfL_{st:SortSt}{n z:Nat}{Q:Dsl->SortSt->Prop}(hC:Cmps prog w A s κ rk a₀)(hz:lo+z<=a₀.size)(h1:1<=n)(hn:n<=z)(h:SB κ a₀ lo old P st)(ho:Dsc rk (arrOf st) lo (lo+n))
  (q:∀m r st',SB κ a₀ lo old P st'->n<=m->m<=z->Dsc rk (arrOf st') lo (lo+m)->Flat rk (arrOf st') lo m r->Q (none,m,r) st'):wpS (model prog w) A E s (dnW lo n z) Q st:=by
 refine wpS_forRange (I:=λx c st'=>∃r,c=(none,x,r)/\SB κ a₀ lo old P st'/\Dsc rk (arrOf st') lo (lo+x)/\Flat rk (arrOf st') lo x r) (λx c st' hx hxz I=>?_) (λc st' I=>?_) ⟨0,rfl,h,ho,by lia,λk k1 k2=>by congr 1;lia⟩
 ·obtain⟨r,rfl,h',o,fl⟩:=I
  have hl:lo+x<=(arrOf st').size:=by rw[h'.sz];lia
  refine wpS_bind (Xg_ hC h' (by dsimp only;lia) (by dsimp only;lia) ?_)
  dsimp only
  by_cases c:kr rk (arrOf st') (lo+x)<kr rk (arrOf st') (lo+x - 1)
  ·rw[decide_eq_true c]
   rw[if_pos rfl]
   split
   ·rename_i hr
    have hr':0<r:=hr
    have hfl:∀k,lo+x - (r+1)<=k->k<lo+x->kr rk (arrOf st') k=kr rk (arrOf st') (lo+x - 1):=fl.2
    have kp:=J2_ (rk:=rk) hl hfl
    have fl1:=fl.1
    refine wpS_bind (Qk_ (wpS_pure ⟨0,rfl,h'.to (mirror_perm _ _ _ _) (Zc_ hl (by lia)),o.snoc (by lia) kp (by lia),by lia,λk k1 k2=>by congr 1;lia⟩))
   ·exact wpS_pure ⟨0,rfl,h',o.snoc (by lia) (λ_=>rfl) (by lia),by lia,λk k1 k2=>by congr 1;lia⟩
  ·rw[decide_eq_false c]
   rw[if_neg (by decide)]
   refine wpS_bind (Xg_ hC h' (by lia) (by lia) ?_)
   by_cases c2:kr rk (arrOf st') (lo+x - 1)<kr rk (arrOf st') (lo+x)
   ·rw[decide_eq_true c2]
    exact wpS_pure (q x r st' h' hx (by lia) o fl)
   ·rw[decide_eq_false c2]
    refine wpS_pure ⟨r+1,rfl,h',o.snoc (by lia) (λ_=>rfl) (by lia),by have:=fl.1;lia,λk k1 k2=>?_⟩
    have e:kr rk (arrOf st') (lo+x)=kr rk (arrOf st') (lo+x - 1):=by lia
    rw[show lo+(x+1) - 1=lo+x by lia,e]
    by_cases c3:k=lo+x
    ·rw[c3];exact e
    ·exact fl.2 k (by lia) (by lia)
 ·obtain⟨r,rfl,h',o,fl⟩:=I
  have e:max n z=z:=by lia
  rw[e]at o fl ⊢
  exact q z r st' h' hn (Nat.le_refl _) o fl
theorem WQ_{st:SortSt}{n z:Nat}{Q:Option Nat->SortSt->Prop}(hC:Cmps prog w A s κ rk a₀)(hz:lo+z<=a₀.size)(hn:n+1<=z)(h:SB κ a₀ lo old P st)(ho:Dsc rk (arrOf st) lo (lo+(n+1)))
  (q:∀m st',Run κ rk a₀ old lo z P m st'->Q (some m) st'):wpS (model prog w) A E s (WR_ lo n z) Q st:=by
 unfold WR_
 refine wpS_bind (wpS_lift (wpAny_rule ⟨rfl,wpS_bind (zfL_ hC hz (by lia) hn h ho λm r st' h' m1 m2 o fl=>?_)⟩))
 dsimp only
 have hl:lo+m<=(arrOf st').size:=by rw[h'.sz];lia
 have fl1:=fl.1
 split
 ·have kp:=J2_ (rk:=rk) hl fl.2
  refine wpS_bind (Qk_ (zbb_ hC hz (by lia) m2 (h'.to (mirror_perm _ _ _ _) (Zc_ hl (by lia))) (λi j hi hij hj=>?_) q))
  show kr rk (mirror (arrOf st') _ _ _) j<=kr rk (mirror (arrOf st') _ _ _) i
  rw[kp,kp]
  exact o i j hi hij hj
 ·exact zbb_ hC hz (by lia) m2 h' o q
theorem zdj_{st:SortSt}{z:Nat}{Q:Option Nat->SortSt->Prop}(hC:Cmps prog w A s κ rk a₀)(hz:lo+z<=a₀.size)(h1:1<=z)(h:SB κ a₀ lo old P st)
  (q:∀m st',Run κ rk a₀ old lo z P m st'->Q (some m) st'):wpS (model prog w) A E s (countRun' lo z) Q st:=by
 rw[zdk_]
 refine wpS_bind (zcX_ hC hz (Nat.le_refl 1) h1 h (λi j hi hij hj=>by rw[show i=j by lia];exact Int.le_refl _) λn n1 n2 o e=>?_)
 dsimp only
 by_cases c:n=z
 ·rw[if_pos (by simpa using c)]
  exact wpS_pure (q n st ⟨h,n1,n2,o⟩)
 ·rw[if_neg (by simpa using c)]
  have lt:=e.resolve_left c
  split
  ·refine wpS_bind (Xg_ hC h (by lia) (by lia) ?_)
   by_cases c2:kr rk (arrOf st) lo<kr rk (arrOf st) (lo+n - 1)
   ·rw[decide_eq_true c2]
    exact wpS_pure (q n st ⟨h,n1,n2,o⟩)
   ·rw[decide_eq_false c2]
    dsimp only
    rw[if_neg (by decide)]
    have hl:lo+n<=(arrOf st).size:=by rw[h.sz];lia
    have fl:∀k,lo<=k->k<lo+n->kr rk (arrOf st) k=kr rk (arrOf st) (lo+n - 1):=λk k1 k2=>by
     have a1:=o lo k (Nat.le_refl _) k1 k2
     have a2:=o k (lo+n - 1) k1 (by lia) (by lia)
     lia
    have kp:=J2_ (rk:=rk) hl fl
    have dd:Dsc rk (arrOf st) lo (lo+n):=λi j hi hij hj=>by rw[fl i hi (by lia),fl j (by lia) hj];exact Int.le_refl _
    exact wpS_bind (Qk_ (WQ_ hC hz (by lia) (h.to (mirror_perm _ _ _ _) (Zc_ hl (Nat.le_refl _))) (dd.snoc n1 kp (by lia)) q))
  ·have e1:n=1:=by lia
   subst e1
   have dd:Dsc rk (arrOf st) lo (lo+1):=λi j hi hij hj=>by rw[show i=j by lia];exact Int.le_refl _
   exact WQ_ hC hz (by lia) h (dd.snoc (Nat.le_refl _) (λ_=>rfl) (by lia)) q
theorem zaW_{xs:Array Keyed}{src d:Nat}(hs:src<xs.size)(hd:d<=src)(k:Nat):kr rk (bubble xs src d) k=if k=src - d then kr rk xs src else if src - d<k/\k<=src then kr rk xs (k - 1)else kr rk xs k:=by
 have e:=getElem?_bubble hs d hd k
 split
 ·rename_i c;rw[if_pos c]at e;exact WB_ e
 ·rename_i c
  rw[if_neg c]at e
  split
  ·rename_i c2;rw[if_pos c2]at e;exact WB_ e
  ·rename_i c2;rw[if_neg c2]at e;exact WB_ e
theorem zeJ_{st:SortSt}{n ok:Nat}{Q:Bool->SortSt->Prop}(hC:Cmps prog w A s κ rk a₀)(hn:lo+n<=a₀.size)(hk:ok<=n)(h:SB κ a₀ lo old P st)(ho:Asc rk (arrOf st) lo (lo+ok))
  (q:∀st',SB κ a₀ lo old P st'->Asc rk (arrOf st') lo (lo+n)->Q true st'):wpS (model prog w) A E s (binarySort' lo n ok) Q st:=by
 rw[binarySort'_eq]
 refine wpS_bind (wpS_mono (wpS_forRange (I:=λk c st'=>c=(none,())/\SB κ a₀ lo old P st'/\Asc rk (arrOf st') lo (lo+min k n))
  (Q:=λc st'=>c=(none,())/\SB κ a₀ lo old P st'/\Asc rk (arrOf st') lo (lo+n)) (λk c st' hk1 hkn I=>?_) (λc st' I=>?_) ⟨rfl,h,λi j hi hij hj=>?_⟩) λc st' I=>?_)
 ·obtain⟨rfl,h',o⟩:=I
  rw[show min k n=k by lia]at o
  have hsz:lo+k<(arrOf st').size:=by rw[h'.sz];lia
  refine wpS_bind (wpS_mono (wpS_forRange (I:=λx c st2=>st2=st'/\∃l r,c=(none,l,r)/\l<=r/\r<=k/\r - l<=k - x /\
    (∀i,i<l->kr rk (arrOf st') (lo+i)<=kr rk (arrOf st') (lo+k))/\(∀i,r<=i->i<k->kr rk (arrOf st') (lo+k)<kr rk (arrOf st') (lo+i)))
   (Q:=λc st2=>st2=st'/\∃l r,c=(none,l,r)/\l<=k/\(∀i,i<l->kr rk (arrOf st') (lo+i)<=kr rk (arrOf st') (lo+k))/\(∀i,l<=i->i<k->kr rk (arrOf st') (lo+k)<kr rk (arrOf st') (lo+i)))
   (λx c st2 _ hx J=>?_) (λc st2 J=>?_) ⟨rfl,0,k,rfl,by lia,by lia,by lia,λi hi=>by lia,λi i1 i2=>by lia⟩) λc st2 J=>?_)
  ·obtain⟨rfl,l,r,rfl,lr,rk',sz,b1,b2⟩:=J
   dsimp only
   by_cases c:l>=r
   ·rw[if_pos c]
    exact wpS_pure ⟨rfl,l,r,rfl,by lia,b1,λi i1 i2=>b2 i (by lia) i2⟩
   ·rw[if_neg c]
    refine wpS_bind (Xg_ hC h' (by lia) (by lia) ?_)
    by_cases c2:kr rk (arrOf st2) (lo+k)<kr rk (arrOf st2) (lo+(l+r) / 2)
    ·rw[decide_eq_true c2]
     refine wpS_pure ⟨rfl,l,(l+r) / 2,rfl,by lia,by lia,by lia,b1,λi i1 i2=>?_⟩
     have:=o (lo+(l+r) / 2) (lo+i) (by lia) (by lia) (by lia)
     lia
    ·rw[decide_eq_false c2]
     refine wpS_pure ⟨rfl,(l+r) / 2+1,r,rfl,by lia,by lia,by lia,λi i1=>?_,b2⟩
     have:=o (lo+i) (lo+(l+r) / 2) (by lia) (by lia) (by lia)
     lia
  ·obtain⟨rfl,l,r,rfl,lr,rk',sz,b1,b2⟩:=J
   exact⟨rfl,l,r,rfl,by lia,b1,λi i1 i2=>b2 i (by lia) i2⟩
  ·obtain⟨rfl,l,r,rfl,lk,b1,b2⟩:=J
   show wpS _ _ _ _ (moveDown' (lo+k) (lo+l) >>= λ_=>pure (ForInStep.yield (none,()))) _ _
   rw[moveDown'_eq]
   have ed:lo+k - (lo+k - (lo+l))=lo+l:=by lia
   refine wpS_bind (wpS_modify (wpS_pure ⟨rfl,h'.to (bubble_perm _ _ _) (λi hi=>?_),λi j hi hij hj=>?_⟩))
   ·rw[getElem?_bubble hsz _ (by lia),if_neg (by lia),if_neg (by lia)]
   ·rw[show min (k+1) n=k+1 by lia]at hj
    show kr rk (bubble (arrOf st2) (lo+k) (lo+k - (lo+l))) i<=kr rk (bubble (arrOf st2) (lo+k) (lo+k - (lo+l))) j
    rw[zaW_ hsz (by lia),zaW_ hsz (by lia),ed]
    have t1:∀i,lo<=i->i<lo+l->kr rk (arrOf st2) i<=kr rk (arrOf st2) (lo+k):=λi i1 i2=>by
     have:=b1 (i - lo) (by lia)
     rwa [show lo+(i - lo)=i by lia]at this
    have t2:∀i,lo+l<=i->i<lo+k->kr rk (arrOf st2) (lo+k)<kr rk (arrOf st2) i:=λi i1 i2=>by
     have:=b2 (i - lo) (by lia) (by lia)
     rwa [show lo+(i - lo)=i by lia]at this
    split
    ·split
     ·exact Int.le_refl _
     ·split
      ·exact Int.le_of_lt (t2 _ (by lia) (by lia))
      ·lia
    ·split
     ·split
      ·lia
      ·split
       ·exact o _ _ (by lia) (by lia) (by lia)
       ·lia
     ·split
      ·exact t1 _ hi (by lia)
      ·split
       ·exact o _ _ (by lia) (by lia) (by lia)
       ·exact o _ _ (by lia) (by lia) (by lia)
 ·obtain⟨rfl,h',o⟩:=I
  rw[show min (max (max ok 1) n) n=n by lia]at o
  exact⟨rfl,h',o⟩
 ·by_cases c:ok=0
  ·rw[show i=j by lia];exact Int.le_refl _
  ·exact ho i j hi hij (by lia)
 ·obtain⟨rfl,h',o⟩:=I
  exact wpS_pure (q st' h' o)
end
noncomputable abbrev SM':=StateT SortSt Sem
end TS
namespace TS
end TS
namespace TS
open PySem PyProof.Rows
section
variable {rk:Value->Int}
abbrev Le(rk:Value->Int)(x y:Keyed):Prop:=rk x.1<=rk y.1
theorem zau_{a:Array Keyed}(h:Asc rk a 0 a.size):a.toList.Pairwise (Le rk):=by
 rw[List.pairwise_iff_getElem]
 intro i j hi hj hij
 have hi':i<a.size:=by simpa using hi
 have hj':j<a.size:=by simpa using hj
 have:=h i j (Nat.zero_le _) (Nat.le_of_lt hij) hj'
 rw[X9_ (Array.getElem?_eq_getElem hi'),X9_ (Array.getElem?_eq_getElem hj')]at this
 simpa using this
end
end TS
namespace TS
end TS
namespace TS
end TS
namespace TS
open PySem PyProof.Rows
section
variable {rk:Value->Int}
noncomputable def Cov:List (Nat×Nat×Nat)->Nat->Nat->Prop
 | [],lo,hi=>lo=hi
 | (s,n,_)::r,lo,hi=>s=lo/\1<=n/\Cov r (lo+n) hi
structure Rn(κ:SortKind)(rk:Value->Int)(a₀:Array Keyed)(hi:Nat)(st:SortSt):Prop where
 pm:(arrOf st).Perm a₀
 kd:kindOf st=κ
 fl:failedOf st=none
 cv:Cov (pendingOf st).toList 0 hi
 so:∀x∈(pendingOf st).toList,Asc rk (arrOf st) x.1 (x.1+x.2.1)
 le:hi<=a₀.size
variable {prog:Program}{w:World}{A:Around}{E:Value->Shared->Prop}{s:Shared}{κ:SortKind}{a₀:Array Keyed}
end
end TS
namespace TS
end TS
namespace TS
open PySem PyProof.Rows
noncomputable abbrev Cu:=Option Unit×Unit
noncomputable def colW(pw:Nat):SM' (ForInStep Cu):=do
 let st <-get
 match (if(pendingOf st).size>1 then(pendingOf st)[(pendingOf st).size - 2]? else none)with
 | some (_,_,o) =>
  if o<=pw then pure (.done (none,()))
  else do
   let b <-mergeAt' ((pendingOf st).size - 2)
   if(!b)=true then pure (.done (some (),()))else pure (.yield (none,()))
 | _=>pure (.done (none,()))
noncomputable def addW(lo n:Nat):SM' (ForInStep (Option Unit×Nat)):=do
 modify λc=>setPending c ((pendingOf c).push (lo,n,0))
 pure (.yield (none,lo+n))
def XN_(z lo n:Nat):SM' (ForInStep (Option Unit×Nat)):=do
 let st <-get
 match (pendingOf st).back? with
 | some (s1,n1,_)=>do
  let c <-forIn [0:z] ((none,()):Cu) λ_ _=>colW (power' z (2*s1+n1) (2*s1+n1+n1+n) z)
  match c.1 with
  | some r=>pure (.done (some r,lo))
  | none=>do
   modify λc=>setPending c ((pendingOf c).modify ((pendingOf c).size - 1) λx=>(x.1,x.2.1,power' z (2*s1+n1) (2*s1+n1+n1+n) z))
   addW lo n
 | _=>addW lo n
noncomputable def zeh_(P:Runs):Nat:=if((if P.size - 2>0 then P[P.size - 2 - 1]?.map (·.2.1)else none).any (· < (P[P.size - 2+1]?.elim 0 (·.2.1))))=true then P.size - 2 - 1 else P.size - 2
def zeg_:SM' (ForInStep Cu):=do
 let st <-get
 if(pendingOf st).size<=1 then pure (.done (none,()))
 else do
  let b <-mergeAt' (zeh_ (pendingOf st))
  if(!b)=true then pure (.done (some (),()))else pure (.yield (none,()))
theorem zbw_:sortRuns'=(do
  let st <-get
  let c <-forIn [0:(arrOf st).size] ((none,0):Option Unit×Nat) λ_ c =>
   if c.2>=(arrOf st).size then pure (.done (none,c.2))
   else do
    match <-countRun' c.2 ((arrOf st).size - c.2)with
    | some f =>
     if f<minRun' (arrOf st).size (arrOf st).size 0 then do
      liftM (rule "list.sort.binary-insertion")
      let b <-binarySort' c.2 (min ((arrOf st).size - c.2) (minRun' (arrOf st).size (arrOf st).size 0)) f
      if(!b)=true then pure (.done (some (),c.2))
      else XN_ (arrOf st).size c.2 (min ((arrOf st).size - c.2) (minRun' (arrOf st).size (arrOf st).size 0))
     else XN_ (arrOf st).size c.2 f
    | _=>pure (.done (some (),c.2))
  match c.1 with
  | some r=>pure r
  | none=>do
   let c <-forIn [0:(arrOf st).size] ((none,()):Cu) λ_ _=>zeg_
   match c.1 with
   | some r=>pure r
   | none=>pure ()):=by
 kernel_rfl
section
variable {z:Nat}{rk:Value->Int}{prog:Program}{w:World}{A:Around}{E:Value->Shared->Prop}{s:Shared}{κ:SortKind}{a₀:Array Keyed}
def Rp(κ:SortKind)(rk:Value->Int)(a₀:Array Keyed)(lo n:Nat)(st:SortSt):Prop:=Rn κ rk a₀ lo st/\1<=n/\lo+n<=a₀.size/\Asc rk (arrOf st) lo (lo+n)
theorem Wt_:∀n,n<64->minRun' n n 0=n:=by decide +kernel
theorem Xw_{st:SortSt}{n:Nat}{Q:ForInStep (Option Unit×Nat)->SortSt->Prop}(h:Rp κ rk a₀ 0 n st)(hp:pendingOf st = #[])(q:∀st',Rn κ rk a₀ n st'->(pendingOf st').size<=1->Q (.yield (none,n)) st'):wpS (model prog w) A E s (XN_ z 0 n) Q st:=by
 obtain⟨r,n1,le,o⟩:=h
 unfold XN_
 refine wpS_bind (wpS_get ?_)
 rw[hp]
 show wpS (model prog w) A E s (addW 0 n) Q st
 unfold addW
 have e:0+n=n:=Nat.zero_add n
 rw[e]
 refine wpS_bind (wpS_modify (wpS_pure (q _ ⟨r.pm,r.kd,r.fl,?_,λx hx=>?_,by omega⟩ ?_)))
 ·show Cov ((pendingOf st).push (0,n,0)).toList 0 n
  rw[hp]
  exact⟨rfl,n1,by show 0+n=n;exact e⟩
 ·have hx':x∈((pendingOf st).push (0,n,0)).toList:=hx
  rw[hp]at hx'
  rw[List.mem_singleton.mp hx'];exact o
 ·show((pendingOf st).push (0,n,0)).size<=1
  rw[hp];exact Nat.le_refl _
theorem zbv_{st:SortSt}{Q:Unit->SortSt->Prop}(hC:Cmps prog w A s κ rk a₀)(h2:1<=a₀.size)(h64:a₀.size<64)(h:Rn κ rk a₀ 0 st)(q:∀st',(arrOf st').Perm a₀->failedOf st'=none->Asc rk (arrOf st') 0 a₀.size->Q () st')(hp0:pendingOf st = #[]):wpS (model prog w) A E s sortRuns' Q st:=by
 rw[zbw_]
 refine wpS_bind (wpS_get ?_)
 have hsz:(arrOf st).size=a₀.size:=h.pm.size_eq
 rw[hsz,Wt_ _ h64]
 refine wpS_bind (wpS_mono (wpS_forRange (I:=λx c st'=>∃lo,c=(none,lo)/\Rn κ rk a₀ lo st'/\(x=0/\lo=0/\pendingOf st' = #[]\/lo=a₀.size/\(pendingOf st').size<=1)) (Q:=λc st'=>c=(none,a₀.size)/\Rn κ rk a₀ a₀.size st'/\(pendingOf st').size<=1) (λx c st' _ hx I=>?_) (λc st' I=>?_) ⟨0,rfl,h,.inl ⟨rfl,rfl,hp0⟩⟩) λc st' I=>?_)
 ·obtain⟨lo,rfl,r,hl⟩:=I
  have rle:=r.le
  dsimp only
  split
  ·rcases hl with ⟨_,rfl,_⟩|⟨rfl,hp⟩
   ·omega
   ·exact wpS_pure ⟨rfl,r,hp⟩
  ·rename_i c
   rcases hl with ⟨hx0,rfl,hp⟩|⟨rfl,hp⟩
   ·have sb:SB κ a₀ 0 (arrOf st') (pendingOf st') st':=⟨r.pm,r.kd,r.fl,λ_ _=>rfl,rfl⟩
    have back:∀st2 n,SB κ a₀ 0 (arrOf st') (pendingOf st') st2->1<=n->0+n<=a₀.size->Asc rk (arrOf st2) 0 (0+n)->Rp κ rk a₀ 0 n st2:=λst2 n b n1 n2 o=>by
     refine⟨⟨b.pm,b.kd,b.fl,by rw[b.pe,hp];rfl,λx hx=>?_,r.le⟩,n1,n2,o⟩
     rw[b.pe,hp]at hx
     cases hx
    refine wpS_bind (zdj_ hC (by omega) (by omega) sb λm st2 ⟨b2,m1,m2,o2⟩=>?_)
    dsimp only
    split
    ·refine wpS_bind (wpS_lift (wpAny_rule ⟨rfl,wpS_bind (zeJ_ hC (by omega) (by omega) b2 o2 λst3 b3 o3=>?_)⟩))
     rw[if_neg (by decide)]
     have em:min (a₀.size - 0) a₀.size=a₀.size:=by omega
     rw[em]at o3 ⊢
     exact Xw_ (back st3 _ b3 (by omega) (by omega) o3) (by rw[b3.pe,hp]) λst4 r4 p4=>⟨_,rfl,r4,.inr ⟨rfl,p4⟩⟩
    ·have em:m=a₀.size:=by omega
     subst em
     exact Xw_ (back st2 _ b2 m1 (by omega) o2) (by rw[b2.pe,hp]) λst4 r4 p4=>⟨_,rfl,r4,.inr ⟨rfl,p4⟩⟩
   ·omega
 ·obtain⟨lo,rfl,r,hl⟩:=I
  rcases hl with ⟨h0,_⟩|⟨rfl,hp⟩
  ·omega
  ·exact⟨rfl,r,hp⟩
 ·obtain⟨rfl,r,hp⟩:=I
  dsimp only
  refine wpS_bind (wpS_mono (wpS_forRange (I:=λx c st2=>c=(none,())/\Rn κ rk a₀ a₀.size st2/\(pendingOf st2).size<=1) (Q:=λc st2=>c=(none,())/\Rn κ rk a₀ a₀.size st2/\(pendingOf st2).size<=1) (λx c st2 _ hx I=>?_) (λc st2 I=>I) ⟨rfl,r,hp⟩) λc st2 I=>?_)
  ·obtain⟨rfl,r2,sz⟩:=I
   unfold zeg_
   refine wpS_bind (wpS_get ?_)
   rw[if_pos sz]
   exact wpS_pure ⟨rfl,r2,sz⟩
  ·obtain⟨rfl,r2,sz⟩:=I
   dsimp only
   refine wpS_pure (q st2 r2.pm r2.fl ?_)
   have cv:=r2.cv
   have so:=r2.so
   have hl:(pendingOf st2).toList.length<=1:=by rw[Array.length_toList];exact sz
   match hP:(pendingOf st2).toList,hl,cv,so with
   | [],_,cv,_=>have:0=a₀.size:=cv;omega
   | [(a,n,p)],_,cv,so =>
    obtain⟨rfl,_,e⟩:=cv
    have e':0+n=a₀.size:=e
    have:=so (0,n,p) List.mem_cons_self
    dsimp only at this
    rw[e']at this
    exact this
   | _::_::_,hl,_,_=>simp at hl
end
noncomputable def mid(s:Shared)(a:Addr)(vs:List Value):Shared:={ s with heap:=((s.heap.update a (Obj.mapSeq λ_=>#[])).push (seqObj "tuple" vs.toArray 0)).push (seqObj "list" #[] 0) }
section
variable {prog:Program}{w:World}{A:Around}{E:Value->Shared->Prop}{s:Shared}{κ:SortKind}{rk:Value->Int}
theorem X4_{a:Addr}{vs:List Value}{n:Nat}{P:Fin->Shared->Prop}(ho:s.heap.get? a=some (seqObj "list" vs.toArray n))(h64:vs.length<64)
  (hk:2<=vs.length->∀Q:SortKind->Shared->Prop,Q κ (mid s a vs)->wpAny (model prog w) A (keyKind' vs.toArray) Q E (mid s a vs)) (hC:2<=vs.length->Cmps prog w A (mid s a vs) κ rk (pairsOf vs))
  (h:∀out:Array Value,out.toList.Perm vs->out.toList.Pairwise (λx y=>rk x<=rk y)->P (.done (.ret .none)) { s with heap:=sortedHeap s.heap a vs out }):wpAny (model prog w) A (Builtin.«list.sort» ⟨[.ref a],[]⟩) P E s:=by
 have hz:vs.length<=sizeLine:=Nat.le_trans (Nat.le_of_lt h64) (by decide)
 have hlt:=Heap.lt_size ho
 obtain⟨ep,ho1⟩:∃ep,(s.heap.update a (Obj.mapSeq λ_=>#[])).get? a=some (seqObj "list" #[] ep):=⟨_,get?_update_seq ho λ_=>#[]⟩
 have ho2:(mid s a vs).heap.get? a=some (seqObj "list" #[] ep):=by
  unfold mid
  dsimp only
  rw[Heap.get?_push_ne,Heap.get?_push_ne]
  ·exact ho1
  ·rw[Heap.size_update];exact Nat.ne_of_lt hlt
  ·rw[size_push',Heap.size_update];exact Nat.ne_of_lt (Nat.lt_succ_of_lt hlt)
 rw[list_sort_plain]
 refine zza (listItems_at ho rfl (zza (listUpdate_at ho rfl (zza (seqEpoch_at ho1 rfl (zza (wpAny_newTuple (zza (wpAny_newList (wpAny_holding ?_)))))))  (by simpa using hz) (Nat.zero_le _))))
 have mem:∀p∈(pairsOf vs).toList,p.1=p.2/\p.1∈vs:=λp hp=>by
  rw[pairsOf_toList]at hp
  exact mem_zip_self hp
 have fin:∀c:SortSt,(arrOf c).Perm (pairsOf vs)->Asc rk (arrOf c) 0 (arrOf c).size->P (.done (.ret .none)) { s with heap:=sortedHeap s.heap a vs ((arrOf c).map (·.2)) }:=λc hp ha=>by
  have hp':=Array.perm_iff_toList_perm.mp hp
  have e:((arrOf c).map (·.2)).toList=(arrOf c).toList.map (·.1):=by
   rw[Array.toList_map]
   exact List.map_congr_left λp q=>(mem p (hp'.mem_iff.mp q)).1.symm
  refine h _ ?_ ?_
  ·rw[e]
   have:=hp'.map (·.1)
   rwa [pairsOf_toList,List.map_fst_zip (Nat.le_refl _)]at this
  ·rw[e,List.pairwise_map]
   exact zau_ ha
 have size2:∀c:SortSt,(arrOf c).Perm (pairsOf vs)->((arrOf c).map (·.2)).size<=sizeLine+1:=λc hp=>by
  rw[Array.size_map,hp.size_eq,pairsOf_size];omega
 have vz:vs.toArray.size=vs.length:=List.size_toArray ..
 show wpAny (model prog w) A _ P E (mid s a vs)
 by_cases c:vs.length<2
 ·rw[if_pos (by rw[vz];exact c),if_pos (by rw[vz];exact c)]
  refine zza (zzb ?_)
  dsimp only
  rw[StateT.run_pure]
  refine zza (zzb (zza (seqEpoch_at ho2 rfl (zza (listUpdate_at ho2 rfl ?_ (Nat.zero_le _) (size2 (SortSt.mk' general' (vs.toArray.zip vs.toArray) #[] 7 none) (Array.Perm.refl _)))))))
  rw[if_neg (by simp)]
  refine zzb (fin (SortSt.mk' general' (vs.toArray.zip vs.toArray) #[] 7 none) (Array.Perm.refl _) λi j _ ij hj=>?_)
  have hj':j<(pairsOf vs).size:=hj
  rw[pairsOf_size]at hj'
  rw[show i=j by omega]
  exact Int.le_refl _
 ·rw[if_neg (by rw[vz];exact c),if_neg (by rw[vz];exact c)]
  refine zza (hk (by omega) _ ?_)
  have so:=zbv_ (E:=E) (hC (by omega)) (by rw[pairsOf_size];omega) (by rw[pairsOf_size];exact h64) (hp0:=rfl) (st:=SortSt.mk' κ (vs.toArray.zip vs.toArray) #[] 7 none) (Q:=λ_ c=>(arrOf c).Perm (pairsOf vs)/\failedOf c=none/\Asc rk (arrOf c) 0 (pairsOf vs).size)
   ⟨Array.Perm.refl _,rfl,rfl,rfl,(λx hx=>by cases hx),Nat.zero_le _⟩ (λc a1 a2 a3=>⟨a1,a2,a3⟩)
  refine zza (wpAny_mono so (λr s' ⟨e,a1,a2,a3⟩=>?_) λ_ _ e=>e)
  subst e
  obtain⟨⟨⟩,c⟩:=r
  dsimp only at a1 a2 a3 ⊢
  refine zza (seqEpoch_at ho2 rfl (zza (listUpdate_at ho2 rfl ?_ (Nat.zero_le _) (size2 c a1))))
  rw[a2]
  dsimp only
  rw[if_neg (by simp)]
  exact zzb (fin c a1 (by rw[a1.size_eq];exact a3))
theorem zcG_{l:Addr}{o:Obj}{n:Nat}{vs:List Value}{Q:List Value->Shared->Prop}(ho:s.heap.get? l=some o)(hc:o.cls=.type "list" \/ o.cls=.type "tuple")(hd:o.data=.seq vs.toArray n)(hz:vs.length<=sizeLine)
  (h:Q vs { s with heap:=(s.heap.push (seqObj "list" #[] 0)).update s.heap.objs.size (Obj.mapSeq (· ++ vs.toArray)) }):wpAny (model prog w) A (collect (.ref l)) Q E s:=by
 have ho':(s.heap.push (seqObj "list" #[] 0)).get? l=some o:=zzc _ ho
 have e0:(s.heap.push (seqObj "list" #[] 0)).get? s.heap.objs.size=some (seqObj "list" #[] 0):=zze _ rfl
 unfold collect
 refine zza (wpAny_runValue (codeAny_builtin entry_proto_collect' ?_))
 show wpAny (model prog w) _ (newList [] >>= λx=>again (.builtin "list.__iadd__" ⟨[x,.ref l],[]⟩)) _ _ s
 refine zza (wpAny_newList (zzb ⟨Code.quiet_builtin _ (by decide +kernel),codeAny_builtin entry_list_iadd' ?_⟩))
 show wpAny (model prog w) _ (Builtin.List.listExtendWith (.ref s.heap.objs.size) (.ref l) (.ref s.heap.objs.size)) _ _ { s with heap:=s.heap.push (seqObj "list" #[] 0) }
 unfold Builtin.List.listExtendWith
 have sz:(((· ++ vs.toArray):Array Value->Array Value) #[]).size<=sizeLine+1:=by
  show(#[]++vs.toArray).size<=_
  rw[Array.size_append,List.size_toArray]
  simp only[List.size_toArray,List.length_nil]
  omega
 have tail:wpAny (model prog w) A (do
   let o <-load s.heap.objs.size
   match o.data with
   | .seq xs _=>pure xs.toList
   | _=>unsupported "internal:collect") Q E { s with heap:=(s.heap.push (seqObj "list" #[] 0)).update s.heap.objs.size (Obj.mapSeq (· ++ vs.toArray)) }:=by
  refine zza (wpAny_load (get?_update_seq e0 _) ?_)
  show wpAny (model prog w) A (pure ((#[]:Array Value)++vs.toArray).toList) Q E _
  rw[show((#[]:Array Value)++vs.toArray).toList=vs by simp]
  exact zzb h
 rcases hc with hc|hc
 ·refine zza (wpAny_typeOf (T := "list") ⟨o,ho',hc⟩ ?_)
  rw[if_pos (by rw[show(Value.type "list" == Value.type "list")=true from rfl];simp)]
  refine zza (listItems_at ho' hd (zza (listItems_at (xs:=#[]) (n:=0) e0 rfl ?_)))
  rw[if_neg (by simp)]
  exact zza (listUpdate_at (xs:=#[]) (n:=0) e0 rfl (zzb tail) (Nat.zero_le _) sz)
 ·refine zza (wpAny_typeOf (T := "tuple") ⟨o,ho',hc⟩ ?_)
  rw[if_pos (by rw[show(Value.type "tuple" == Value.type "tuple")=true from rfl];simp)]
  refine zza (listItems_at ho' hd (zza (listItems_at (xs:=#[]) (n:=0) e0 rfl ?_)))
  rw[if_neg (by simp)]
  exact zza (listUpdate_at (xs:=#[]) (n:=0) e0 rfl (zzb tail) (Nat.zero_le _) sz)
noncomputable def u1_(s:Shared)(vs:List Value):Shared:={ s with heap:=s.heap.push (seqObj "list" vs.toArray 0) }
theorem yL_{x:Value}{Q:Value->Shared->Prop}(col:∀(E':Value->Shared->Prop) (Q':List Value->Shared->Prop),(∀vs s2,(vs.length<64/\∃(κ:SortKind) (rk:Value->Int),
   (2<=vs.length->∀(E':Value->Shared->Prop) (Q:SortKind->Shared->Prop),Q κ (mid (u1_ s2 vs) s2.heap.objs.size vs)->wpAny (model prog w) A.in1.in1 (keyKind' vs.toArray) Q E' (mid (u1_ s2 vs) s2.heap.objs.size vs)) /\
   (2<=vs.length->Cmps prog w A.in1.in1 (mid (u1_ s2 vs) s2.heap.objs.size vs) κ rk (pairsOf vs)) /\
   ∀out:Array Value,out.toList.Perm vs->out.toList.Pairwise (λx y=>rk x<=rk y)->Q (.ref s2.heap.objs.size) { s2 with heap:=sortedHeap (u1_ s2 vs).heap s2.heap.objs.size vs out })->Q' vs s2)->wpAny (model prog w) A.in1 (collect x) Q' E' s) :
  wpAny (model prog w) A (call (.builtin "sorted") [x]) Q E s:=by
 refine Calls.call_function_entry kind_sorted plain_sorted entry_sorted (args_sorted1 _) ?_
 unfold Builtin.«sorted»
 refine zza (m:=checkCount "sorted" 1 1 _) (zzb (zza (col _ _ λvs s2 ⟨hz,κ,rk,hk,hC,h⟩=>zza (wpAny_newList ?_))))
 have hg:(u1_ s2 vs).heap.get? s2.heap.objs.size=some (seqObj "list" vs.toArray 0):=zze _ rfl
 show wpAny _ _ _ _ _ (u1_ s2 vs)
 exact zza (wpAny_holding (wpAny_call_entry slot_list_sort ⟨_,hg,rfl⟩ entry_list_sort (X4_ hg hz (λc=>hk c _) hC λout a1 a2=>⟨_,rfl,zzb ⟨_,rfl,h out a1 a2⟩⟩) (args_list_sort _)))
theorem Up_{h:Heap}{a:Addr}{vs:List Value}{out:Array Value}{b:Addr}{o:Obj}(hab:b≠a)(e:h.get? b=some o):(sortedHeap h a vs out).get? b=some o:=by
 have hlt:b<h.objs.size:=Heap.lt_size e
 unfold sortedHeap
 rw[Heap.get?_update_ne _ _ _ _ hab,Heap.get?_push_ne _ _ _ (by rw[size_push',Heap.size_update];exact Nat.ne_of_lt (Nat.lt_succ_of_lt hlt)),Heap.get?_push_ne _ _ _ (by rw[Heap.size_update];exact Nat.ne_of_lt hlt),Heap.get?_update_ne _ _ _ _ hab]
 exact e
theorem Ve_{h:Heap}{a:Addr}{vs:List Value}{out:Array Value}{n:Nat}(ho:h.get? a=some (seqObj "list" vs.toArray n)):∃e,(sortedHeap h a vs out).get? a=some (seqObj "list" out e):=by
 have hlt:a<h.objs.size:=Heap.lt_size ho
 obtain⟨ep,e1⟩:∃ep,(h.update a (Obj.mapSeq λ_=>#[])).get? a=some (seqObj "list" #[] ep):=⟨_,get?_update_seq ho λ_=>#[]⟩
 unfold sortedHeap
 refine⟨_,get?_update_seq (n:=ep) (xs:=#[]) ?_ λ_=>out⟩
 rw[Heap.get?_push_ne _ _ _ (by rw[size_push',Heap.size_update];exact Nat.ne_of_lt (Nat.lt_succ_of_lt hlt)),Heap.get?_push_ne _ _ _ (by rw[Heap.size_update];exact Nat.ne_of_lt hlt)]
 exact e1
theorem zcb_{vs:List Value}{b:Addr}{o:Obj}(e:s.heap.get? b=some o):(mid (u1_ s vs) s.heap.objs.size vs).heap.get? b=some o:=by
 have hlt:b<s.heap.objs.size:=Heap.lt_size e
 unfold mid u1_
 dsimp only
 rw[Heap.get?_push_ne _ _ _ (by rw[size_push',Heap.size_update,size_push'];exact Nat.ne_of_lt (Nat.lt_succ_of_lt (Nat.lt_succ_of_lt hlt))),Heap.get?_push_ne _ _ _ (by rw[Heap.size_update,size_push'];exact Nat.ne_of_lt (Nat.lt_succ_of_lt hlt)),Heap.get?_update_ne _ _ _ _ (Nat.ne_of_lt hlt)]
 exact zzc _ e
end
end TS
namespace L4
open PySem PySem.Spec PyProof.Rows L2 L3
section
open HT
theorem Wu_:∀a:List Int,lexLt a a=false
 | []=>rfl
 | x::a=>by rw[lexLt_cons,if_pos rfl];exact Wu_ a
theorem X3_:∀{a b c:List Int},lexLt a b=true->lexLt b c=true->lexLt a c=true
 | [],[],_,h,_=>by cases h
 | [],_::_,[],_,h=>by cases h
 | [],_::_,_::_,_,_=>rfl
 | _::_,[],_,h,_=>by cases h
 | _::_,_::_,[],_,h=>by cases h
 | x::a,y::b,z::c,h1,h2=>by
  rw[lexLt_cons]at h1 h2 ⊢
  by_cases e1:x=y
  ·by_cases e2:y=z
   ·rw[if_pos e1]at h1;rw[if_pos e2]at h2;rw[if_pos (e1.trans e2)]
    exact X3_ h1 h2
   ·rw[if_neg e2,zzi]at h2
    rw[if_neg (by omega),zzi];omega
  ·rw[if_neg e1,zzi]at h1
   by_cases e2:y=z
   ·rw[if_neg (by omega),zzi];omega
   ·rw[if_neg e2,zzi]at h2
    rw[if_neg (by omega),zzi];omega
theorem UX_:∀{a b:List Int},lexLt a b=false->lexLt b a=false->a=b
 | [],[],_,_=>rfl
 | [],_::_,h,_=>by cases h
 | _::_,[],_,h=>by cases h
 | x::a,y::b,h1,h2=>by
  rw[lexLt_cons]at h1 h2
  by_cases e:x=y
  ·rw[if_pos e]at h1;rw[if_pos e.symm]at h2
   rw[e,UX_ h1 h2]
  ·rw[if_neg e,decide_eq_false_iff_not]at h1
   rw[if_neg (λz=>e z.symm),decide_eq_false_iff_not]at h2
   omega
theorem zfz_{a b:List Int}(h:lexLt a b=true):lexLt b a=false:=by
 cases q:lexLt b a with
 | false=>rfl
 | true=>have:=X3_ h q;rw[Wu_]at this;cases this
end
theorem W2_{α:Type}{p q:α->Bool}{l:List α}{x:α}(h:∀y∈l,p y=true->q y=true)(hx:x∈l)(h1:p x=false)(h2:q x=true):l.countP p<l.countP q:=by
 induction l with
 | nil=>cases hx
 | cons y l ih =>
  have hm:∀z∈l,p z=true->q z=true:=λz hz=>h z (zzg _ hz)
  have le:l.countP p<=l.countP q:=List.countP_mono_left hm
  rw[List.countP_cons,List.countP_cons]
  rcases List.mem_cons.mp hx with rfl|hx
  ·rw[h1,h2];simp;omega
  ·have:=ih hm hx
   have hy:=h y List.mem_cons_self
   cases e:p y with
   | false=>simp;omega
   | true=>rw[hy e];simp;omega
noncomputable def rankOf{α:Type}(l:List α)(k:α->List Int)(x:α):Int:=(l.countP λu=>HT.lexLt (k u) (k x):Nat)
theorem YM_{α:Type}{l:List α}{k:α->List Int}{x y:α}(hx:x∈l)(hy:y∈l):decide (rankOf l k x<rankOf l k y)=HT.lexLt (k x) (k y):=by
 have up:∀x y,x∈l->HT.lexLt (k x) (k y)=true->rankOf l k x<rankOf l k y:=λx y hx h=>by
  have:=W2_ (p:=λu=>HT.lexLt (k u) (k x)) (q:=λu=>HT.lexLt (k u) (k y)) (l:=l) (λz _ hz=>X3_ hz h) hx (Wu_ _) h
  unfold rankOf;omega
 cases e:HT.lexLt (k x) (k y)with
 | true=>exact decide_eq_true (up x y hx e)
 | false =>
  rw[decide_eq_false_iff_not]
  intro z
  cases e2:HT.lexLt (k y) (k x)with
  | true=>have:=up y x hy e2;omega
  | false =>
   have ek:=UX_ e e2
   unfold rankOf at z
   rw[ek]at z
   omega
noncomputable def y0_:D->Bool
 | .tuple ds=>match intsOf ds with
  | some (_::_)=>true
  | _=>false
 | _=>false
noncomputable def WJ_:D->Bool
 | .int _=>true
 | _=>false
noncomputable def j5_(ds:List D):Bool:=decide (ds.length<64)&&(ds.all WJ_||ds.all y0_)
noncomputable def keyD:D->List Int
 | .int i=>[i]
 | .tuple ds=>(intsOf ds).getD []
 | _=>[]
noncomputable def leK(x y:D):Bool:=!HT.lexLt (keyD y) (keyD x)
def ur_(ds:List D):List D:=ds.mergeSort leK
theorem jb_(ds:List D):(ur_ ds).Perm ds:=List.mergeSort_perm ds leK
theorem zed_(x y z:D)(h1:leK x y=true)(h2:leK y z=true):leK x z=true:=by
 unfold leK at *
 rw[Bool.not_eq_true']at *
 cases e:HT.lexLt (keyD z) (keyD x)with
 | false=>rfl
 | true =>
  exfalso
  cases e2:HT.lexLt (keyD x) (keyD y)with
  | true=>have:=X3_ e e2;rw[h2]at this;cases this
  | false=>rw[UX_ e2 h1,h2]at e;cases e
theorem zce_(x y:D):(leK x y||leK y x)=true:=by
 unfold leK
 cases e:HT.lexLt (keyD y) (keyD x)with
 | false=>rfl
 | true=>rw[zfz_ e];rfl
theorem jJ_(ds:List D):(ur_ ds).Pairwise λx y=>leK x y=true:=List.pairwise_mergeSort zed_ zce_ ds
theorem uJ_{R:D->D->Prop}:∀{a b:List D},(∀x∈b,∀y∈b,R x y->R y x->x=y)->a.Perm b->a.Pairwise R->b.Pairwise R->a=b
 | [],b,_,hp,_,_=>by simpa using hp.symm.eq_nil
 | x::r,b,hR,hp,ha,hb=>by
  cases b with
  | nil=>exact absurd hp.length_eq (by simp)
  | cons y t =>
   rw[List.pairwise_cons]at ha hb
   have hx:x∈y::t:=hp.mem_iff.mp List.mem_cons_self
   have hy:y∈x::r:=hp.mem_iff.mpr List.mem_cons_self
   have e:x=y:=by
    rcases List.mem_cons.mp hx with e|hx'
    ·exact e
    ·rcases List.mem_cons.mp hy with e|hy'
     ·exact e.symm
     ·exact hR x hx y List.mem_cons_self (ha.1 y hy') (hb.1 x hx')
   subst e
   rw[uJ_ (λx hx y hy=>hR x (zzg _ hx) y (zzg _ hy)) (List.Perm.cons_inv hp) ha.2 hb.2]
theorem jX_{d:D}(h:y0_ d=true):∃n r,d=.tuple ((n::r).map PyData.int):=by
 unfold y0_ at h
 split at h
 ·rename_i ds
  split at h
  ·rename_i n r e;exact⟨n,r,by rw[um_ e]⟩
  ·cases h
 ·cases h
theorem yC_{d:D}(h:WJ_ d=true):∃n,d=.int n:=by
 cases d<;>first|exact⟨_,rfl⟩|cases h
theorem zck_{ds:List D}(h:j5_ ds=true):∀x∈ds,∀y∈ds,keyD x=keyD y->x=y:=λx hx y hy e=>by
 unfold j5_ at h
 rw[Bool.and_eq_true]at h
 replace h:=h.2
 rw[Bool.or_eq_true,List.all_eq_true,List.all_eq_true]at h
 rcases h with h|h
 ·obtain⟨n,rfl⟩:=yC_ (h x hx)
  obtain⟨m,rfl⟩:=yC_ (h y hy)
  have e':[n]=[m]:=e
  injection e' with e'
  rw[e']
 ·obtain⟨n,r,rfl⟩:=jX_ (h x hx)
  obtain⟨m,t,rfl⟩:=jX_ (h y hy)
  have kt:∀l:List Int,keyD (.tuple (l.map PyData.int))=l:=λl=>by
   show(intsOf (l.map PyData.int)).getD []=l
   rw[yR_];rfl
  rw[kt,kt]at e
  rw[e]
theorem XC_{ds r:List D}(h:j5_ ds=true)(hp:r.Perm ds)(hs:r.Pairwise λx y=>leK x y=true):r=ur_ ds :=
 uJ_ (λx hx y hy h1 h2=>zck_ h x ((jb_ ds).mem_iff.mp hx) y ((jb_ ds).mem_iff.mp hy) (by
  unfold leK at h1 h2
  rw[Bool.not_eq_true']at h1 h2
  exact UX_ h2 h1)) (hp.trans (jb_ ds).symm) hs (jJ_ ds)
theorem XS_{α β:Type}{f:α->β}:∀{out:List β} {l:List α},out.Perm (l.map f)->∃l':List α,l'.Perm l/\l'.map f=out:=by
 intro out l h
 generalize e:l.map f=m at h
 induction h generalizing l with
 | nil =>
  cases l with
  | nil=>exact⟨[],.refl _,rfl⟩
  | cons y l=>cases e
 | @cons x a b hp ih =>
  cases l with
  | nil=>cases e
  | cons y l =>
   rw[List.map_cons]at e
   injection e with e1 e2
   obtain⟨l',h1,h2⟩:=ih e2
   exact⟨y::l',h1.cons y,by rw[List.map_cons,h2,e1]⟩
 | @swap x y a =>
  match l,e with
  | u::v::l,e =>
   rw[List.map_cons,List.map_cons]at e
   injection e with e1 e2
   injection e2 with e2 e3
   exact⟨v::u::l,.swap _ _ _,by rw[List.map_cons,List.map_cons,e1,e2,e3]⟩
 | @trans a b c h1 h2 ih1 ih2 =>
  obtain⟨l1,p1,q1⟩:=ih2 e
  obtain⟨l2,p2,q2⟩:=ih1 q1
  exact⟨l2,p2.trans p1,q2⟩
end L4
namespace L4
open PySem PySem.Spec PyProof.Rows L2 L3 TS
theorem ZA_{prog:Program}{w:World}{A:Around}{s:Shared}{b fin:Bool}{Q:Bool->Shared->Prop}:∀{vs us:List Value} {ns ms:List Int} (i:Nat),IntsAre vs ns->IntsAre us ms->fin=decide (vs.length<us.length)->Q (HT.lexLt ns ms) s ->
  PySem.W.KatLex prog w A b fin Q (vs.zip us) i s
 | _,_,_,_,i,.nil,.nil,e,q=>by
  subst e
  exact q
 | _,_,_,_,i,.nil,.cons _ _ _,e,q=>by
  subst e
  exact q
 | _,_,_,_,i,.cons _ _ _,.nil,e,q=>by
  subst e
  exact q
 | _,_,_,_,i,.cons x t h1,.cons y u h2,e,q=>by
  rw[List.zip_cons_cons]
  refine PySem.W.kat_cons (wpAny_eqBool_int ?_)
  rw[HT.lexLt_cons]at q
  by_cases c:x=y
  ·rw[if_pos c]at q
   rw[show(x==y)=true by simpa using c]
   exact PySem.W.kat_yes (ZA_ (i+1) h1 h2 (by rw[e];simp) q)
  ·rw[if_neg c]at q
   rw[show(x==y)=false by simpa using c]
   refine PySem.W.kat_no ?_
   cases hb:(b&&i==0)with
   | true=>exact oneLt_int q
   | false=>exact PySem.W.kat_one _ _ (lt_int q)
theorem triples{K:Fg}{F:Hp}:∀{vs:List V} {ds:List D} {its:List Value},RepL K F vs ds->Vals vs its->∃L:List (V×D×Value),L.map (·.1)=vs/\L.map (·.2.1)=ds/\L.map (·.2.2)=its/\∀t∈L,Rep K F t.1 t.2.1/\RelV t.1 t.2.2
 | _,_,_,.nil,r=>by cases r;exact⟨[],rfl,rfl,rfl,λ_ h=>by cases h⟩
 | _,_,_,.cons h t,r=>by
  cases r with
  | cons r rr =>
   obtain⟨L,e1,e2,e3,e4⟩:=triples t rr
   refine⟨(_,_,_)::L,by rw[List.map_cons,e1],by rw[List.map_cons,e2],by rw[List.map_cons,e3],λx hx=>?_⟩
   rcases List.mem_cons.mp hx with rfl|hx
   ·exact⟨h,r⟩
   ·exact e4 x hx
theorem Qf_{K:Fg}{F:Hp}:∀{L:List (V×D×Value)},(∀t∈L,Rep K F t.1 t.2.1/\RelV t.1 t.2.2)->RepL K F (L.map (·.1)) (L.map (·.2.1))/\Vals (L.map (·.1)) (L.map (·.2.2))
 | [],_=>⟨.nil,.nil⟩
 | x::L,h=>by
  obtain⟨h1,h2⟩:=h x List.mem_cons_self
  obtain⟨h3,h4⟩:=Qf_ (L:=L) λt ht=>h t (zzg _ ht)
  exact⟨.cons h1 h3,.cons h2 h4⟩
def zbE_(K:Fg):List V->Hp->VK->Prop:=λxs H Q=>∃(G:Gh) (F:Hp) (σ:L2.St) (ρ:En) (x:V) (d:D) (ds:List D),xs=[x]/\StOk K G F σ H ρ/\OR K F H x d/\seqD d=some ds/\j5_ ds=true /\
 ∀l vs,H l=none->RepL K F vs (ur_ ds)->Q (.ref l) (upd H l (.lst vs))
def zal_:List D->Option (List D)
 | [d]=>match seqD d with
  | some ds=>if j5_ ds then some (ur_ ds)else none
  | none=>none
 | _=>none
theorem X6_{ds:List D}(h:j5_ ds=true):PyData.canLayAll0 ds=true:=by
 have all:∀l:List D,(∀d∈l,d.canLay0=true)->PyData.canLayAll0 l=true:=by
  intro l
  induction l with
  | nil=>intro _;simp[PyData.canLayAll0]
  | cons a l ih =>
   intro h
   simp only[PyData.canLayAll0,Bool.and_eq_true]
   exact⟨h a List.mem_cons_self,ih λd hd=>h d (zzg _ hd)⟩
 refine all ds λd hd=>?_
 unfold j5_ at h
 rw[Bool.and_eq_true]at h
 replace h:=h.2
 rw[Bool.or_eq_true,List.all_eq_true,List.all_eq_true]at h
 rcases h with h|h
 ·obtain⟨n,rfl⟩:=yC_ (h d hd)
  simp[PyData.canLay0]
 ·obtain⟨n,r,rfl⟩:=jX_ (h d hd)
  simp only[PyData.canLay0]
  refine all _ λd hd=>?_
  obtain⟨m,_,rfl⟩:=List.mem_map.mp hd
  simp[PyData.canLay0]
theorem ZE_{h:Heap}:∀{vs:List Value} {ns:List Int} {as:List Addr},ReadsAll h vs (ns.map PyData.int) as->IntsAre vs ns
 | _,[],_,r=>by rw[List.map_nil]at r;cases r;exact .nil
 | _,n::ns,_,r=>by
  rw[List.map_cons]at r
  cases r with
  | cons a b =>
   cases a with
   | int i t=>exact .cons n t (ZE_ b)
theorem all_ints:∀{ds:List D},ds.all WJ_=true->∃ns:List Int,ds=ns.map PyData.int
 | [],_=>⟨[],rfl⟩
 | d::ds,h=>by
  rw[List.all_cons,Bool.and_eq_true]at h
  obtain⟨n,rfl⟩:=yC_ h.1
  obtain⟨ns,rfl⟩:=all_ints h.2
  exact⟨n::ns,rfl⟩
theorem Zj_{X:Cx}{pins:List (Addr×Obj)}{σ σ':L2.St}{H F:Hp}{s:Shared}{G:Gh}{ρ:En}{vs:List V}{ds:List D}{its:List Value}{Q:VK}(I:Inv X pins σ H s)(S:StOk X.K G F σ' H ρ)(rl:RepL X.K F vs ds)(rv:Vals vs its)(hz:vs.length<=sizeLine)(hok:j5_ ds=true)
  (k:∀l vs,H l=none->RepL X.K F vs (ur_ ds)->Q (.ref l) (upd H l (.lst vs))):its.length<64/\∃(κ:SortKind) (rk:Value->Int),
   (2<=its.length->∀(E':Value->Shared->Prop) (Q:SortKind->Shared->Prop),Q κ (mid (u1_ s its) s.heap.objs.size its)->wpAny (model X.prog X.w) X.A.in1.in1 (keyKind' its.toArray) Q E' (mid (u1_ s its) s.heap.objs.size its)) /\
   (2<=its.length->Cmps X.prog X.w X.A.in1.in1 (mid (u1_ s its) s.heap.objs.size its) κ rk (pairsOf its)) /\
   ∀out:Array Value,out.toList.Perm its->out.toList.Pairwise (λx y=>rk x<=rk y)->EP X pins σ Q (.ref s.heap.objs.size) { s with heap:=sortedHeap (u1_ s its).heap s.heap.objs.size its out }:=by
 have lay:=X6_ hok
 have I1:Inv X pins σ H (mid (u1_ s its) s.heap.objs.size its):=I.kept (t':=s.toks) λb o e=>zcb_ e
 obtain⟨as,ra⟩:=(z0_ I1).2 (rl.mono S.fh) lay rv
 generalize hs1:mid (u1_ s its) s.heap.objs.size its=s1 at I1 ra
 have emap:its.map (SeqAt.readOf s1.heap)=ds:=SeqAt.readsAll_map ds _ _ lay ra
 let kf:Value->List Int:=λv=>keyD (SeqAt.readOf s1.heap v)
 have hmem:∀x,x∈(pairsOf its).toList->x.1∈its:=λx hx=>by
  rw[pairsOf_toList]at hx
  exact(mem_zip_self hx).2
 have hzl:its.length<=sizeLine:=by rw[<-rv.length];exact hz
 have fin:∀out:Array Value,out.toList.Perm its->out.toList.Pairwise (λx y=>rankOf its kf x<=rankOf its kf y)->EP X pins σ Q (.ref s.heap.objs.size) { s with heap:=sortedHeap (u1_ s its).heap s.heap.objs.size its out }:=λout o1 o2=>by
  obtain⟨L,e1,e2,e3,e4⟩:=triples rl rv
  rw[<-e3]at o1
  obtain⟨L',p1,p2⟩:=XS_ o1
  have e4':∀t∈L',Rep X.K F t.1 t.2.1/\RelV t.1 t.2.2:=λt ht=>e4 t (p1.mem_iff.mp ht)
  have rd:∀t∈L',SeqAt.readOf s1.heap t.2.2=t.2.1:=λt ht=>by
   obtain⟨a1,a2⟩:=e4' t ht
   have:t.2.1∈ds:=by rw[<-e2];exact List.mem_map.mpr ⟨t,p1.mem_iff.mp ht,rfl⟩
   have al:∀l:List D,PyData.canLayAll0 l=true->∀d∈l,d.canLay0=true:=by
    intro l
    induction l with
    | nil=>intro _ d hd;cases hd
    | cons a l ih =>
     intro h d hd
     simp only[PyData.canLayAll0,Bool.and_eq_true]at h
     rcases List.mem_cons.mp hd with rfl|hd
     ·exact h.1
     ·exact ih h.2 d hd
   have hcl:=al ds lay _ this
   obtain⟨bs,rb⟩:=(z0_ I1).1 (a1.mono S.fh) hcl a2
   exact SeqAt.readOf_eq hcl rb
  obtain⟨u1,u2⟩:=Qf_ e4'
  have es:L'.map (·.2.1)=ur_ ds:=by
   refine XC_ hok (by rw[<-e2];exact p1.map _) ?_
   rw[<-p2,List.pairwise_map]at o2
   rw[List.pairwise_map]
   refine List.Pairwise.imp_of_mem (λ{x y} hx hy h=>?_) o2
   have mx:x.2.2∈its:=by rw[<-e3];exact List.mem_map.mpr ⟨x,p1.mem_iff.mp hx,rfl⟩
   have my:y.2.2∈its:=by rw[<-e3];exact List.mem_map.mpr ⟨y,p1.mem_iff.mp hy,rfl⟩
   have q:=YM_ (k:=kf) my mx
   rw[decide_eq_false (by omega)]at q
   show(!HT.lexLt (keyD y.2.1) (keyD x.2.1))=true
   rw[<-rd x hx,<-rd y hy]
   show(!HT.lexLt (kf y.2.2) (kf x.2.2))=true
   rw[<-q];rfl
  rw[es]at u1
  rw[p2]at u2
  obtain⟨ep,he⟩:=Ve_ (out:=out) (show(u1_ s its).heap.get? s.heap.objs.size=some (seqObj "list" its.toArray 0)from zze _ rfl)
  refine⟨.ref s.heap.objs.size,upd H s.heap.objs.size (.lst (L'.map (·.1))),I.laid (t':=s.toks) (λb o q=>Up_ (Nat.ne_of_lt (Heap.lt_size q)) (zzc _ q)) (Nat.le_refl _) ⟨?_,out.toList,ep,u2,?_⟩,rfl,k _ _ (I.hok.fresh (Nat.le_refl _)) u1⟩
  ·rw[u2.length,<-p2,zzd,p1.length_eq,<-zzd (f:=λt:V×D×Value=>t.2.2),e3];exact hzl
  ·exact he
 have h64:its.length<64:=by
  have h:=hok
  unfold j5_ at h
  rw[Bool.and_eq_true,zzi]at h
  rw[<-rv.length,rl.length];exact h.1
 have hok':=hok
 unfold j5_ at hok'
 rw[Bool.and_eq_true]at hok'
 replace hok':=hok'.2
 rw[Bool.or_eq_true]at hok'
 rcases hok' with hI|hT
 ·obtain⟨ns,rfl⟩:=all_ints hI
  have ia:IntsAre its ns:=ZE_ ra
  have kfi:∀{m:Int} {t:Tok},kf (.int m t)=[m]:=λ{m t}=>by
   show keyD (SeqAt.readOf s1.heap (.int m t))=[m]
   rw[SeqAt.readOf_eq (d:=.int m) (by simp[PyData.canLay0]) (.int m t)]
   rfl
  refine⟨h64,oneType',rankOf its kf,λh2 E' Q' q=>?_,λh2 x y hx hy E' Q' q=>?_,fin⟩
  ·match its,ia,h2,q with
   | v1::v2::rest,ia,_,q =>
    rw[keyKind_ints ia]
    exact zzb q
  ·have hx':=hmem x hx
   have hy':=hmem y hy
   rw[YM_ hx' hy']at q
   obtain⟨m1,t1,e1⟩:=ia.all _ hx'
   obtain⟨m2,t2,e2⟩:=ia.all _ hy'
   rw[e1,e2]at q ⊢
   rw[kfi,kfi]at q
   rw[keyLt'_oneType]
   refine oneLt_int ?_
   have:HT.lexLt [m1] [m2]=decide (m1<m2):=by
    rw[HT.lexLt_cons]
    split
    ·rename_i e;rw[e];simp[HT.lexLt_nil_nil]
    ·rfl
   rw[this]at q
   exact q
 ·rw[List.all_eq_true]at hT
  have each:∀v∈its,∃(a:Addr) (o:Obj) (xs:List Value) (n:Nat) (m:Int) (ms:List Int),v=.ref a/\s1.heap.get? a=some o/\o.cls=.type "tuple" /\ o.data=.seq xs.toArray n/\IntsAre xs (m::ms)/\kf v=m::ms:=λv hv=>by
   obtain⟨dv,bs,rd,hl,_⟩:=SeqAt.readsAll_mem ds its _ lay ra v hv
   have er:=SeqAt.readOf_eq hl rd
   have hin:dv∈ds:=by rw[<-emap,<-er];exact List.mem_map.mpr ⟨v,hv,rfl⟩
   obtain⟨m,ms,rfl⟩:=jX_ (hT dv hin)
   cases rd with
   | tuple g1 g2 g3 g4 =>
    rename_i a o vs' n
    refine⟨a,o,vs'.toList,n,m,ms,rfl,g1,g2,by rw[g3],ZE_ g4,?_⟩
    show keyD (SeqAt.readOf s1.heap (.ref a))=_
    rw[er]
    show(intsOf ((m::ms).map PyData.int)).getD []=_
    rw[yR_];rfl
  refine⟨h64,tuples' true,rankOf its kf,λh2 E' Q' q=>?_,λh2 x y hx hy E' Q' q=>?_,fin⟩
  ·have fs:∀l:List Value,(∀v∈l,v∈its)->∃fs:List Value,PySem.W.KatTups s1.heap l fs/\fs.length=l.length/\∀v∈fs,∃i t,v=.int i t:=by
    intro l
    induction l with
    | nil=>intro _;exact⟨[],trivial,rfl,λ_ h=>by cases h⟩
    | cons v l ih =>
     intro hl
     obtain⟨fs,f1,f2,f3⟩:=ih λv hv=>hl v (zzg _ hv)
     obtain⟨a,o,xs,n,m,ms,rfl,g1,g2,g3,g4,_⟩:=each v (hl v List.mem_cons_self)
     cases g4 with
     | cons _ t g5 =>
      refine⟨.int m t::fs,PySem.W.KatTups.cons g1 g2 g3 (by simp) f1,by simp[f2],λv hv=>?_⟩
      rcases List.mem_cons.mp hv with rfl|hv
      ·exact⟨_,_,rfl⟩
      ·exact f3 v hv
   obtain⟨fs,f1,f2,f3⟩:=fs its λ_ h=>h
   refine PySem.W.kat_kind f1 (by omega) (T:=.type "int") (λv hv=>?_) rfl q
   obtain⟨i,t,rfl⟩:=f3 v hv
   exact PySem.W.Looks.now
  ·have hx':=hmem x hx
   have hy':=hmem y hy
   rw[YM_ hx' hy']at q
   obtain⟨a1,o1,xs1,n1,m1,ms1,e1,g1,g2,g3,g4,g5⟩:=each _ hx'
   obtain⟨a2,o2,xs2,n2,m2,ms2,e2,k1,k2,k3,k4,k5⟩:=each _ hy'
   rw[g5,k5]at q
   rw[e1,e2]
   refine PySem.W.kat_lt g1 g3 k1 k3 ?_
   have:=ZA_ (prog:=X.prog) (w:=X.w) (A:=X.A.in1.in1) (b:=true) (Q:=Q') 0 g4 k4 rfl q
   simpa using this
theorem W6_{X:Cx}:CallR X (.builtin "sorted") (zbE_ X.K):=by
 intro pins s σ H xs us Q I r h0
 obtain⟨G,F,σ',ρ,x,d,ds,rfl,S,ho,hd,hok,k⟩:=h0
 obtain⟨u,rfl,ru⟩:=L2.Vals.one r
 have hseq:∃(p:Addr) (o:Obj) (n:Nat) (vs:List V) (its:List Value),u=.ref p/\s.heap.get? p=some o/\(o.cls=.type "list" \/ o.cls=.type "tuple")/\o.data=.seq its.toArray n/\Vals vs its/\vs.length<=sizeLine/\RepL X.K F vs ds:=by
  cases d with
  | list es =>
   cases hd
   obtain⟨a,vs,rfl,h1,h2⟩:=ho.list S.fh
   cases ru
   obtain⟨its,rv,pl,hz⟩:=I.list h1
   obtain⟨o,e1,e2,n,e3⟩:=pl.isList
   exact⟨a,o,n,vs,its,rfl,e1,.inl e2,e3,rv,hz,h2⟩
  | tuple es =>
   cases hd
   obtain⟨a,vs,rfl,h1,h2⟩:=ho.tuple S.fh
   cases ru
   obtain⟨its,rv,⟨o,e1,e2,n,e3⟩,hz⟩:=I.tuple h1
   exact⟨a,o,n,vs,its,rfl,e1,.inr e2,e3,rv,hz,h2⟩
  | _=>cases hd
 obtain⟨p,o,n,vs,its,rfl,hp,hcl,hdat,rv,hz,rl⟩:=hseq
 have I2:Inv X pins σ H { s with heap:=(s.heap.push (seqObj "list" #[] 0)).update s.heap.objs.size (Obj.mapSeq (· ++ its.toArray)) }:=I.kept (t':=s.toks) λb o e=>by
  have hlt:b<s.heap.objs.size:=Heap.lt_size e
  rw[Heap.get?_update_ne _ _ _ _ (Nat.ne_of_lt hlt)]
  exact zzc _ e
 exact yL_ λE' Q' q=>zcG_ hp hcl hdat (by rw[<-rv.length];exact hz) (q _ _ (Zj_ I2 S rl rv hz hok k))
theorem zbU_{K:Fg}:Qc_ K (zbE_ K) zal_:=by
 intro G F σ H ρ xs ds res Q S o e k
 unfold zal_ at e
 split at e
 ·rename_i d
  split at e
  ·rename_i es hes
   split at e
   ·rename_i hok
    cases e
    obtain⟨v,r,rfl,ho,hr⟩:=zN_ o
    obtain rfl:=jg_ hr
    refine⟨G,F,σ,ρ,v,d,es,rfl,S,ho,hes,hok,λl vs hl rp=>?_⟩
    obtain⟨S2,r2⟩:=S.newLst hl rp
    exact k _ F _ (Same.refl _) S2 r2
   ·cases e
  ·cases e
 ·cases e
end L4
namespace TS
open PySem PyProof.Rows
def DR(h:Heap)(d:Addr)(es:Array DictEntry)(ep:Nat):Prop:=∃o,h.get? d=some o/\o.ExactDict/\o.data=.dict es ep
theorem DR.ty{s:Shared}{d:Addr}{es:Array DictEntry}{ep:Nat}(x:DR s.heap d es ep):s.TypeIs (.ref d) "dict":=let ⟨o,e,c,_⟩:=x;⟨o,e,c.1⟩
theorem DR.kp{h h':Heap}{d:Addr}{es:Array DictEntry}{ep:Nat}(x:DR h d es ep)(k:∀o,h.get? d=some o->h'.get? d=some o):DR h' d es ep:=let ⟨o,e,r⟩:=x;⟨o,k o e,r⟩
section
variable {prog:Program}{w:World}{A:Around}{E:Value->Shared->Prop}{s:Shared}{d it:Addr}{es:Array DictEntry}{ep i:Nat}
theorem zco_{Q:Value->Shared->Prop}(lo:(d==sysModules)=false)(x:DR s.heap d es ep)(q:Q (.ref s.heap.objs.size) { s with heap:=s.heap.push { cls:=.type "dict_keyiterator",data:=.fields #[.ref d,.int 0 0,.int es.size 0,.int ep 0] } }) :
  wpAny (model prog w) A (pyIter (.ref d)) Q E s:=by
 obtain⟨o,e1,e2,e3⟩:=id x
 refine wpAny_pyIter_slot x.ty F.slot_dict_iter (wpAny_call_entry F.slot_dict_iter x.ty F.entry_dict_iter ?_ (F.args_dict_iter_1 _))
 unfold Builtin.«dict.__iter__»
 refine zza ?_
 unfold Builtin.Dict.dictSlotNone
 refine zza (wpAny_notOrdered_dict x.ty (show wpAny (model prog w) _ (pure (Value.ref d)) _ _ s from zzb ?_))
 refine(show wpAny (model prog w) _ (Builtin.Dict.showsAll d >>= _) _ _ s from ?_)
 unfold Builtin.Dict.showsAll
 rw[if_neg (by rw[lo];decide)]
 refine zza (zzb (zza (wpAny_dictEntries e1 e3 (zza (wpAny_dictEpoch e1 e3 (zza (wpAny_newObj_type (zzb ⟨_,rfl, "dict_keyiterator",_,⟨_,zze _ rfl,rfl⟩,F.slot_dict_keyiterator_next.lookup,?_⟩))))))))
 simpa[rawInt]using q
theorem Wr_{n:Nat}{Q:Option Value->Shared->Prop}(hit:s.heap.IsKeyIter it d i es.size ep)(x:DR s.heap d es ep)
  (q1:∀(hi:i<es.size) (h':Heap),h'.IsKeyIter it d (i+1) es.size ep->Heap.SameBut it s.heap h'->Q (some es[i].key) { s with heap:=h' })
  (q2:es.size<=i->A.handled=none/\∀h',Heap.ExtBut it s.heap h'->Q none { s with heap:=h' }):wpAny (model prog w) A (pyNext (.ref it)) Q E s:=by
 obtain⟨o,ho,hc,hd⟩:=id hit
 obtain⟨od,f1,f2,f3⟩:=id x
 have T:=hit.typeIs
 have no:Builtin.Dict_items.ownsTuple "dict_keyiterator" = false:=by decide
 have pos:¬ ((i:Int)<0):=by omega
 unfold pyNext
 refine zza (wpAny_attempt (wpAny_callSpecial?_slot (name:=Str.ofString "__next__") T F.slot_dict_keyiterator_next (wpAny_call_entry F.slot_dict_keyiterator_next T F.entry_dict_keyiterator_next ?_ (F.args_dict_keyiterator_next_1 _))))
 refine zza (zzb (zza (zza (zza (wpAny_typeNameOfWhole_keyiter T (zzb (zza (wpAny_fieldsOf ho hd ?_))))))))
 simp only[no,Bool.false_eq_true,if_false]
 refine(show wpAny (model prog w) _ (if(Value.ref d==Value.none)=true then _ else _) _ _ s from ?_)
 rw[if_neg (show ¬ ((Value.ref d==Value.none)=true)from λz=>Bool.noConfusion z)]
 refine zza (zzb (zza (wpAny_dictEntries f1 f3 ?_)))
 rw[if_neg (by simp)]
 refine zza (zzb (zza (wpAny_dictEpoch f1 f3 ?_)))
 rw[if_neg (by simp)]
 refine zzb ?_
 by_cases hi:i<es.size
 ·simp only[pos,if_false,Int.toNat_natCast,Array.getElem?_eq_getElem hi]
  refine zza (zza (wpAny_typeNameOfWhole_keyiter T (zzb (zza (wpAny_isOneOf_keyiter T ?_)))))
  refine(show wpAny (model prog w) _ (setField (.ref it) 1 (rawInt ((i:Int)+1)) >>= _) _ _ s from zza (wpAny_setField ho hd (by simp) ?_))
  have hit':(s.heap.update it (Obj.mapFields (·.setIfInBounds 1 (rawInt ((i:Int)+1))))).IsKeyIter it d (i+1) es.size ep :=
   ⟨_,Heap.get?_update_self _ ho (Obj.isFreed_of_fields (Obj.data_mapFields hd _)),(Obj.cls_mapFields ..).trans hc,by rw[Obj.data_mapFields hd];simp[rawInt]⟩
  refine zza (wpAny_holding (zza (wpAny_isOneOf_keyiter (s:={ s with heap:=s.heap.update it (Obj.mapFields (·.setIfInBounds 1 (rawInt ((i:Int)+1)))) }) hit'.typeIs ?_)))
  refine(show wpAny (model prog w) _ (pure es[i].key) _ _ _ from zzb (zzb ⟨_,rfl,zzb (q1 hi _ hit' (Heap.SameBut.update ..))⟩))
 ·obtain⟨hh,q⟩:=q2 (by omega)
  simp only[pos,if_false,Int.toNat_natCast,Array.getElem?_eq_none (show es.size<=i by omega)]
  refine zza (zza (wpAny_typeNameOfWhole_keyiter T (zzb ?_)))
  refine(show wpAny (model prog w) _ (setField (.ref it) 0 .none >>= _) _ _ s from zza (wpAny_setField ho hd (by simp) ?_))
  refine(show wpAny (model prog w) _ (newExc (.type "StopIteration") [] >>= _) _ _ _ from zza ?_)
  simp only[newExc,newTuple]
  refine zza (wpAny_newObj_type ?_ (by size_fits))
  refine zza (m:=firstArgMember _ _) (wpAny_of_eq (a:=Value.none) (by first|rfl|(simp only[firstArgMember];rfl)) ?_)
  refine wpAny_newObj_type ?_ (by size_fits)
  simp only[raiseNew]
  refine zza (wpAny_handled ?_)
  rw[show A.in1.handled=none from hh]
  refine zza (zzb (wpAny_throw ?_))
  refine zza (wpAny_isInstance (T := "StopIteration") (b:=true) (by exact⟨_,zze _ rfl,rfl⟩) isSubtype_stop ?_)
  exact zzb (q _ (((Heap.SameBut.update ..).extBut.push _).push _))
theorem Qh_(lo:(d==sysModules)=false):PySem.W.KdlSrc prog w "dict" d d es.size (λi v=>∃e,es[i]? = some e/\v=e.key) (λh=>DR h d es ep) where
 type:=λ_ x=>x.ty
 there:=λh x=>let ⟨_,e,_⟩:=x;⟨Heap.lt_size e,Heap.lt_size e⟩
 keep:=λ_ _ x k=>x.kp λo e=>k d (.inl rfl) o e
 notList:=by decide
 notTuple:=by decide
 hint:=λ_ _ _ _ x q=>PySem.W.kdl_hint_dict x.ty q
 iter:=λA s hh x=>by
  have hne:d≠s.heap.objs.size:=by obtain⟨_,e,_⟩:=x;exact Nat.ne_of_lt (Heap.lt_size e)
  refine⟨_,λi h=>h.IsKeyIter s.heap.objs.size d i es.size ep/\DR h d es ep,λE Q q=>zco_ lo x q,⟨?_,?_,?_,?_,?_⟩,⟨_,zze _ rfl,rfl,rfl⟩,x.kp λo e=>zzc _ e⟩
  ·intro b hb
   rw[List.mem_singleton.mp hb]
   exact List.mem_cons_self
  ·intro i h h' st k
   exact⟨st.1.at λo e=>k _ List.mem_cons_self o e,st.2.kp λo e=>k d (by simp) o e⟩
  ·intro i s1 Q E hi st q
   refine Wr_ (n:=0) st.1 st.2 (λhi h' a1 a2=>q _ h' s1.toks ⟨_,Array.getElem?_eq_getElem hi,rfl⟩ ⟨a1,st.2.kp λo e=>a2.extBut d o hne e⟩ λb o hb e=>a2.extBut b o (λz=>hb (by simp[z])) e) λz=>absurd hi (by omega)
  ·intro s1 Q E st q
   exact Wr_ (n:=0) st.1 st.2 (λhi=>absurd hi (Nat.lt_irrefl _)) λ_=>⟨hh,λh' a=>q h' s1.toks λb o hb e=>a b o (λz=>hb (by simp[z])) e⟩
  ·intro i s1 Q E st q
   exact wpAny_pyIter_keyiter st.1 q
end
end TS
namespace L4
open PySem PySem.Spec PyProof.Rows L2 L3 TS
theorem _root_.L3.StOk.seeT{K:Fg}{G:Gh}{F H:Hp}{σ:L2.St}{ρ:En}(S:StOk K G F σ H ρ){b:Addr}{vs:List V}{ds:List D}(hb:H b=some (.tup vs))(r:RepL K F vs ds):∃F',Same F F'/\StOk K G F' σ H ρ/\Rep K F' (.ref b) (.tuple ds):=by
 cases e:F b with
 | some o =>
  have:=S.fh b o e
  rw[hb]at this
  cases this
  exact⟨F,Same.refl _,S,.tup e r⟩
 | none =>
  have og:G.O b=none:=by
   cases q:G.O b with
   | none=>rfl
   | some o =>
    have:=S.oh b o q
    rw[hb]at this
    cases this
    exact((S.fo b _ q).2:False).elim
  refine⟨upd F b (.tup vs),us_ e,S.freeze hb e og (λi c ho z=>?_),.tup jA_ (r.mono (us_ e))⟩
  obtain⟨a,e1,oa⟩:=S.ow i c ho
  rw[z]at e1
  injection e1 with e1;injection e1 with e1;injection e1 with e1
  subst e1
  exact(oa.he.notup hb:False)
theorem zbC_{K:Fg}{F:Hp}:∀k:Key,Rep K F (kV k) (L3.keyD k)
 | .inl i=>.int i
 | .inr x=>.str x
theorem JO_{K:Fg}{F:Hp}:∀ks:List Key,RepL K F (ks.map kV) (ks.map L3.keyD)
 | []=>.nil
 | k::ks=>.cons (zbC_ k) (JO_ ks)
theorem XF_{K:Fg}{G:Gh}{H:Hp}{σ:L2.St}{ρ:En}:∀{kvs:List (List Key×V)} {xs:List (List Key×Addr×Value)} {F:Hp},KT H kvs xs->StOk K G F σ H ρ ->
  ∃F',Same F F'/\StOk K G F' σ H ρ/\RepL K F' (xs.map λq=>V.ref q.2.1) (kvs.map λp=>keyT p.1)/\Vals (xs.map λq=>V.ref q.2.1) (xs.map λq=>Value.ref q.2.1):=by
 intro kvs xs F r S
 induction r generalizing F with
 | nil=>exact⟨F,Same.refl _,S,.nil,.nil⟩
 | @cons p q ps qs h t ih =>
  obtain⟨h1,h2,h3⟩:=h
  obtain⟨F1,s1,S1,r1⟩:=S.seeT h2 (JO_ p.1)
  obtain⟨F2,s2,S2,r2,v2⟩:=ih S1
  exact⟨F2,s1.trans s2,S2,.cons (r1.mono s2) r2,.cons rfl v2⟩
theorem XJ_{P:Program}{w:World}{k:Key}{u:Value}(r:(z8_ P w).is k u=true):RelV (kV k) u:=by
 rcases zQ_ (k:=k) (v:=u) r with ⟨i,t,rfl,rfl⟩|⟨i,t,rfl,rfl⟩
 ·exact⟨t,rfl⟩
 ·exact⟨t,rfl⟩
theorem Q7_{P:Program}{w:World}:∀{es:List DictEntry} {vs:List (Key×Value)},Pairs (z8_ P w) es vs->Vals (vs.map λp=>kV p.1) (es.map (·.key)):=by
 intro es vs r
 induction r with
 | nil=>exact .nil
 | cons a b _ ih=>exact .cons (XJ_ a) ih
theorem zch_{κ:Type}{kvs:List (κ×V)}{vs:List (κ×Value)}(r:KV kvs vs):Vals (kvs.map (·.2)) (vs.map (·.2))/\kvs.map (·.1)=vs.map (·.1):=by
 unfold KV at r
 induction r with
 | nil=>exact⟨.nil,rfl⟩
 | cons h t ih=>exact⟨.cons h.2 ih.1,by rw[List.map_cons,List.map_cons,h.1,ih.2]⟩
theorem Yd_{X:Cx}{pins:List (Addr×Obj)}{σ σ':L2.St}{H F:Hp}{s:Shared}{G:Gh}{ρ:En}{x:V}{es:List (D×D)}(I:Inv X pins σ H s)(S:StOk X.K G F σ' H ρ)(ho:OR X.K F H x (.dict es))(hnx:isXe es=false) :
  ∃a F' vs ds ep,x=.ref a/\Same F F'/\StOk X.K G F' σ' H ρ/\(a==sysModules)=false/\DR s.heap a ds ep/\ds.size<=sizeLine/\vs.length=ds.size/\Vals vs (ds.toList.map (·.key))/\RepL X.K F' vs (es.map (·.1)):=by
 obtain⟨a,rfl,⟨kvs,h1,h2,h3⟩|⟨kvs,h1,h2,h3⟩⟩:=ho.dict S.fh hnx
 ·obtain⟨z,y,xs,kt,o,ds,ep,e1,e2,e3,e4,_⟩:=zcz_ I.hok h1
  obtain⟨F',s1,S1,r1,v1⟩:=XF_ kt S
  have el:ds.size=kvs.length:=by
   rw[<-Array.length_toList,e4,zzd]
   have:=r1.length
   rw[zzd,zzd]at this
   exact this
  refine⟨a,F',_,ds,ep,rfl,s1,S1,y,⟨o,e1,e2,e3⟩,by omega,?_,?_,by rw[h2];exact r1⟩
  ·rw[zzd,el]
   have:=r1.length
   rw[zzd,zzd]at this
   exact this
  ·rw[e4,List.map_map]
   exact v1
 ·obtain⟨z,y,vs,kv,o,ds,ep,e1,e2,e3,e4,e5,_⟩:=zcA_ I.hok h1
  obtain⟨_,ek⟩:=zch_ kv
  have vp:=Q7_ e5
  have el:ds.size=kvs.length:=by
   have:=vp.length
   simp only[zzd,Array.length_toList]at this
   have e:=congrArg List.length ek
   rw[zzd,zzd]at e
   omega
  refine⟨a,F,kvs.map λp=>kV p.1,ds,ep,rfl,Same.refl _,S,y,⟨o,e1,e2,e3⟩,by omega,by rw[zzd];omega,?_,?_⟩
  ·have e:=congrArg (List.map kV) ek
   rw[List.map_map,List.map_map]at e
   have e':kvs.map (λp=>kV p.1)=vs.map (λp=>kV p.1):=e
   rw[e']
   exact vp
  ·rw[h2]
   have e:kvs.map (λp=>kV p.1)=(kvs.map (·.1)).map kV:=by rw[List.map_map];rfl
   have e':kvs.map (λp=>L3.keyD p.1)=(kvs.map (·.1)).map L3.keyD:=by rw[List.map_map];rfl
   rw[e,e']
   exact JO_ _
theorem Jp_{ds:Array DictEntry}{acc:Array Value}(h:ItemsOf (λi v=>∃e,ds[i]? = some e/\v=e.key) acc ds.size):acc.toList=ds.toList.map (·.key):=by
 apply List.ext_getElem?
 intro j
 rw[Array.getElem?_toList,List.getElem?_map,Array.getElem?_toList]
 cases q:acc[j]? with
 | some v =>
  obtain⟨e,e1,rfl⟩:=h.2 j v q
  rw[e1];rfl
 | none =>
  have:ds.size<=j:=by rw[<-h.1];exact Array.getElem?_eq_none_iff.mp q
  rw[Array.getElem?_eq_none this];rfl
def V4_(K:Fg):List V->Hp->VK->Prop:=λxs H Q=>∃(G:Gh) (F:Hp) (σ:L2.St) (ρ:En) (x:V) (es:List (D×D)),xs=[x]/\StOk K G F σ H ρ/\OR K F H x (.dict es)/\isXe es=false /\
 ∀l vs F',H l=none->Same F F'->StOk K G F' σ H ρ->RepL K F' vs (es.map (·.1))->Q (.ref l) (upd H l (.lst vs))
theorem VA_{X:Cx}(hc:X.calm=true):CallR X (.type "list") (V4_ X.K):=by
 intro pins s σ H xs us Q I r h0
 obtain⟨G,F,σ',ρ,x,es,rfl,S,ho,hnx,k⟩:=h0
 obtain⟨u,rfl,ru⟩:=L2.Vals.one r
 obtain⟨a,F',vs,ds,ep,rfl,s1,S1,lo,dr,hz,hl,rv,rl⟩:=Yd_ I S ho hnx
 cases ru
 refine PySem.W.kdl_call (Qh_ lo) (I.ok.hd hc) dr hz λh' tk acc c kp e it=>?_
 refine⟨.ref s.heap.objs.size,upd H s.heap.objs.size (.lst vs),I.laid (t':=tk) kp (Nat.le_refl _) ⟨by rw[hl];exact hz,acc.toList,c,by rw[Jp_ it];exact rv,by rw[Array.toArray_toList];exact e⟩,rfl,k _ _ _ (I.hok.fresh (Nat.le_refl _)) s1 S1 rl⟩
noncomputable def y2_:List D->Option (List D)
 | [.dict es]=>if isXe es then none else some (es.map (·.1))
 | l=>zam_ l
theorem JB_{X:Cx}(hc:X.calm=true):CallR X (.type "list") (λxs H Q=>(∃p ys,xs=[.ref p]/\(SqL X.K H p ys\/SqT X.K H p ys)/\∀l,H l=none->Q (.ref l) (upd H l (.lst ys)))\/V4_ X.K xs H Q):=CallR.or Yk_ (VA_ hc)
theorem Qt_{K:Fg}:Qc_ K (λxs H Q=>(∃p ys,xs=[.ref p]/\(SqL K H p ys\/SqT K H p ys)/\∀l,H l=none->Q (.ref l) (upd H l (.lst ys)))\/V4_ K xs H Q) y2_:=by
 intro G F σ H ρ xs ds res Q S o e k
 by_cases hd:∃es,ds=[.dict es]
 ·obtain⟨es,rfl⟩:=hd
  cases hnx:isXe es with
  | true=>simp[y2_,hnx]at e
  | false =>
  have e:some (es.map (·.1))=some res:=by simpa[y2_,hnx]using e
  cases e
  obtain⟨v,r,rfl,ho,hr⟩:=zN_ o
  obtain rfl:=jg_ hr
  refine .inr ⟨G,F,σ,ρ,v,es,rfl,S,ho,hnx,λl vs F' hl s1 S1 rp=>?_⟩
  obtain⟨S2,r2⟩:=S1.newLst hl rp
  exact k _ F' _ s1 S2 r2
 ·have e':zam_ ds=some res:=by
   rw[<-e]
   unfold y2_
   split
   ·rename_i es;exact absurd ⟨es,rfl⟩ hd
   ·rfl
  exact .inl (zbW_ G F σ H ρ xs ds res Q S o e' k)
theorem QN_{prog:Program}{w:World}{A:Around}{E:Value->Shared->Prop}{s:Shared}{T:String}{r d:Addr}{n:Nat}{P:Nat->Value->Prop}{OK:Heap->Prop}{Q:List Value->Shared->Prop}(K:PySem.W.KdlSrc prog w T r d n P OK)(hh:A.handled=none)(hok:OK s.heap)(hn:n<=sizeLine)
  (q:∀h' tk acc,(∀b o,s.heap.get? b=some o->h'.get? b=some o)->ItemsOf P acc n->Q acc.toList { s with heap:=h',toks:=tk }):wpAny (model prog w) A (collect (.ref r)) Q E s:=by
 have hlt:=K.there _ hok
 have e0:(s.heap.push (seqObj "list" #[] 0)).get? s.heap.objs.size=some (seqObj "list" #[] 0):=zze _ rfl
 have key:∀R:Result->Shared->Prop,(∀h' tk acc c,(∀b o,s.heap.get? b=some o->h'.get? b=some o)->h'.get? s.heap.objs.size=some { cls:=.type "list",dict:=none,data:=.seq acc c,slots:=#[] }->ItemsOf P acc n->R (.ok (.ret (.ref s.heap.objs.size))) { s with heap:=h',toks:=tk }) ->
   codeAny (model prog w) A (.builtin "proto.collect" ⟨[.ref r],[]⟩) R s:=λR hR=>by
  refine codeAny_builtin entry_proto_collect' ?_
  rw[Around.under_plainId PySem.F.plain_proto_collect _]
  show wpAny (model prog w) A.in1 (newList [] >>= λx=>again (.builtin "list.__iadd__" ⟨[x,.ref r],[]⟩)) _ _ s
  refine zza (wpAny_newList (zzb ⟨Code.quiet_builtin _ (by decide +kernel),codeAny_builtin entry_list_iadd' ?_⟩))
  rw[Around.under_plainId PySem.F.plain_list_iadd _]
  show wpAny (model prog w) A.in1 (Builtin.List.listExtendWith (.ref s.heap.objs.size) (.ref r) (.ref s.heap.objs.size)) _ _ { s with heap:=s.heap.push (seqObj "list" #[] 0) }
  exact PySem.W.kdl_extend (s:={ s with heap:=s.heap.push (seqObj "list" #[] 0) }) K hh (K.keep _ _ hok λb _ o e=>zzc _ e) _ (Nat.ne_of_gt hlt.1) (Nat.ne_of_gt hlt.2) _ 0 e0 (λh' tk acc c kp e it=>hR h' tk acc c (λb o z=>kp b o (Nat.ne_of_lt (Heap.lt_size z)) (zzc _ z)) e it) hn
 unfold collect
 refine zza (wpAny_runValue (key _ λh' tk acc c kp e it=>?_))
 show wpAny (model prog w) A (load s.heap.objs.size >>= _) _ _ _
 exact zza (wpAny_load e (zzb (q h' tk acc kp it)))
def zaC_(K:Fg):List V->Hp->VK->Prop:=λxs H Q=>zbE_ K xs H Q\/∃(G:Gh) (F:Hp) (σ:L2.St) (ρ:En) (x:V) (es:List (D×D)),xs=[x]/\StOk K G F σ H ρ/\OR K F H x (.dict es)/\isXe es=false/\j5_ (es.map (·.1))=true /\
 ∀l vs F',H l=none->Same F F'->StOk K G F' σ H ρ->RepL K F' vs (ur_ (es.map (·.1)))->Q (.ref l) (upd H l (.lst vs))
theorem yW_{X:Cx}(hc:X.calm=true):CallR X (.builtin "sorted") (zaC_ X.K):=by
 intro pins s σ H xs us Q I r h0
 rcases h0 with h0|⟨G,F,σ',ρ,x,es,rfl,S,ho,hnx,hok,k⟩
 ·exact W6_ pins s σ H xs us Q I r h0
 obtain⟨u,rfl,ru⟩:=L2.Vals.one r
 obtain⟨a,F',vs,ds,ep,rfl,s1,S1,lo,dr,hz,hl,rv,rl⟩:=Yd_ I S ho hnx
 cases ru
 refine yL_ λE' Q' q=>QN_ (Qh_ lo) (I.ok.hd hc) dr hz λh' tk acc kp it=>q _ _ ?_
 have I2:Inv X pins σ H { s with heap:=h',toks:=tk }:=I.kept (t':=tk) kp
 refine Zj_ I2 S1 rl (by rw[Jp_ it];exact rv) (by rw[hl];exact hz) hok λl vs hl rp=>k l vs F' hl s1 S1 rp
def u6_:List D->Option (List D)
 | [.dict es]=>if isXe es then none else if j5_ (es.map (·.1))then some (ur_ (es.map (·.1)))else none
 | l=>zal_ l
theorem JU_{K:Fg}:Qc_ K (zaC_ K) u6_:=by
 intro G F σ H ρ xs ds res Q S o e k
 by_cases hd:∃es,ds=[.dict es]
 ·obtain⟨es,rfl⟩:=hd
  cases hnx:isXe es with
  | true=>simp[u6_,hnx]at e
  | false =>
  have e':(if j5_ (es.map (·.1))then some (ur_ (es.map (·.1)))else none)=some res:=by simpa[u6_,hnx]using e
  split at e'
  ·rename_i hok
   cases e'
   obtain⟨v,r,rfl,ho,hr⟩:=zN_ o
   obtain rfl:=jg_ hr
   refine .inr ⟨G,F,σ,ρ,v,es,rfl,S,ho,hnx,hok,λl vs F' hl s1 S1 rp=>?_⟩
   obtain⟨S2,r2⟩:=S1.newLst hl rp
   exact k _ F' _ s1 S2 r2
  ·cases e'
 ·have e':zal_ ds=some res:=by
   rw[<-e]
   unfold u6_
   split
   ·rename_i es;exact absurd ⟨es,rfl⟩ hd
   ·rfl
  exact .inl (zbU_ G F σ H ρ xs ds res Q S o e' k)
end L4
namespace WS
open PySem PySem.SetTable
noncomputable def run(m i:Nat):List Nat:=List.range' i (runEnd m i+1 - i)
noncomputable def lp(m:Nat)(q:Nat×Nat):Nat×Nat:=leap m q.1 q.2
def rdL(m:Nat):Nat->Nat×Nat->List Nat
 | 0,_=>[]
 | n+1,q=>run m q.1++rdL m n (lp m q)
def Rd(m:Nat)(h:Int):List Nat:=rdL m (turns m) (bits h % (m+1),bits h)
def Mk(m:Nat):Prop:=m=7\/m=31\/m=127
def itr(m:Nat):Nat->Nat×Nat->Nat×Nat
 | 0,q=>q
 | n+1,q=>itr m n (lp m q)
theorem Zn_(m i:Nat):i<=runEnd m i:=by unfold runEnd;split<;>omega
theorem Vf_(m i:Nat):runEnd m i<=i+9:=by unfold runEnd;split<;>omega
theorem XH_{m i:Nat}(h:i<=m):runEnd m i<=m:=by unfold runEnd;split<;>omega
theorem ZB_(m:Nat):∀(a b:Nat) (q:Nat×Nat),itr m (a+b) q=itr m b (itr m a q)
 | 0,b,q=>by rw[Nat.zero_add];rfl
 | a+1,b,q=>by rw[Nat.add_right_comm];exact ZB_ m a b (lp m q)
theorem WH_(m:Nat):∀(n N:Nat) (q:Nat×Nat),n<N->(itr m n q).1∈rdL m N q
 | _,0,_,h=>by omega
 | 0,N+1,q,_=>by
  refine List.mem_append.mpr (.inl ?_)
  have:=Zn_ m q.1
  exact List.mem_range'_1.mpr ⟨Nat.le_refl _,by show q.1<q.1+(runEnd m q.1+1 - q.1);omega⟩
 | n+1,N+1,q,h=>List.mem_append.mpr (.inr (WH_ m n N (lp m q) (by omega)))
theorem zes_(m:Nat):∀(n:Nat) (q:Nat×Nat),(itr m n q).2=q.2 / 32^n
 | 0,q=>by show q.2=q.2 / 1;rw[Nat.div_one]
 | n+1,q=>by
  show(itr m n (lp m q)).2=_
  rw[zes_ m n,Nat.pow_succ,Nat.mul_comm,<-Nat.div_div_eq_div_mul]
  rfl
theorem lp_1(m:Nat)(q:Nat×Nat):(lp m q).1<=m:=Nat.le_of_lt_succ (Nat.mod_lt _ (Nat.succ_pos _))
theorem zet_{m:Nat}:∀(n:Nat) (q:Nat×Nat),q.1<=m->(itr m n q).1<=m
 | 0,q,h=>h
 | n+1,q,_=>zet_ n (lp m q) (lp_1 m q)
theorem zcK_(h:Int):bits h<2^64:=by unfold bits;omega
noncomputable def orbL(m:Nat):Nat->Nat->List Nat
 | 0,_=>[]
 | n+1,i=>i::orbL m n ((i*5+1) % (m+1))
theorem lp_0(m i:Nat):lp m (i,0)=((i*5+1) % (m+1),0):=by
 show((i*5+1+0 / 32) % (m+1),0 / 32)=_
 simp
theorem JR_(m:Nat):∀(n i j:Nat),j∈orbL m n i->∃a,a<n/\itr m a (i,0)=(j,0)
 | 0,_,_,h=>by cases h
 | n+1,i,j,h=>by
  rcases List.mem_cons.mp h with rfl|h
  ·exact⟨0,by omega,rfl⟩
  ·obtain⟨a,ha,e⟩:=JR_ m n _ j h
   exact⟨a+1,by omega,by show itr m a (lp m (i,0))=_;rw[lp_0];exact e⟩
def full(m:Nat):Bool:=(List.range (m+1)).all (λj=>(orbL m (m+1) 0).contains j)&&(orbL m (m+2) 0)[m+1]? == some 0
theorem Wh_(m:Nat):∀(n i k j:Nat),(orbL m n i)[k]? = some j->itr m k (i,0)=(j,0)
 | 0,_,_,_,h=>by cases h
 | n+1,i,0,j,h=>by cases h;rfl
 | n+1,i,k+1,j,h=>by show itr m k (lp m (i,0))=_;rw[lp_0];exact Wh_ m n _ k j h
theorem zcu_{m:Nat}(h:Mk m):full m=true:=by
 rcases h with rfl|rfl|rfl<;>decide +kernel
theorem cyc{m:Nat}(h:Mk m){i j:Nat}(hi:i<=m)(hj:j<=m):∃n,n<=m/\itr m n (i,0)=(j,0):=by
 have f:=zcu_ h
 unfold full at f
 rw[Bool.and_eq_true,List.all_eq_true,beq_iff_eq]at f
 obtain⟨f1,f2⟩:=f
 obtain⟨a,ha,ea⟩:=JR_ m _ _ _ (List.contains_iff_mem.mp (f1 i (List.mem_range.mpr (by omega))))
 obtain⟨b,hb,eb⟩:=JR_ m _ _ _ (List.contains_iff_mem.mp (f1 j (List.mem_range.mpr (by omega))))
 have ez:=Wh_ m _ _ _ _ f2
 by_cases hab:a<=b
 ·refine⟨b - a,by omega,?_⟩
  rw[<-ea,<-ZB_,Nat.add_sub_cancel' hab,eb]
 ·refine⟨m+1+b - a,by omega,?_⟩
  rw[<-ea,<-ZB_,show a+(m+1+b - a)=(m+1)+b by omega,ZB_,ez,eb]
theorem cov{m:Nat}(hm:Mk m)(h:Int){j:Nat}(hj:j<=m):j∈Rd m h:=by
 have h2:(itr m 13 (bits h % (m+1),bits h)).2=0:=by
  rw[zes_]
  have:=zcK_ h
  exact Nat.div_eq_of_lt (Nat.lt_of_lt_of_le this (by decide))
 have h1:(itr m 13 (bits h % (m+1),bits h)).1<=m:=zet_ 13 _ (Nat.le_of_lt_succ (Nat.mod_lt _ (Nat.succ_pos _)))
 obtain⟨n,hn,e⟩:=cyc hm h1 hj
 have:=WH_ m (13+n) (turns m) (bits h % (m+1),bits h) (by unfold turns;omega)
 rw[ZB_,show itr m 13 (bits h % (m+1),bits h)=((itr m 13 (bits h % (m+1),bits h)).1,0)from Prod.ext rfl h2,e]at this
 exact this
theorem zaB_{m:Nat}:∀(n:Nat) (q:Nat×Nat),q.1<=m->∀j∈rdL m n q,j<=m
 | 0,_,_,_,h=>by cases h
 | n+1,q,hq,j,h=>by
  rcases List.mem_append.mp h with h|h
  ·have h':j∈List.range' q.1 (runEnd m q.1+1 - q.1):=h
   have:=(List.mem_range'_1.mp h').2
   have:=XH_ hq
   omega
  ·exact zaB_ n _ (lp_1 m q) j h
theorem zcU_{m:Nat}{h:Int}{j:Nat}(x:j∈Rd m h):j<=m:=zaB_ _ _ (Nat.le_of_lt_succ (Nat.mod_lt _ (Nat.succ_pos _))) j x
theorem V1_{m:Nat}:∀(n:Nat) (q:Nat×Nat),(rdL m n q).length<=10*n
 | 0,_=>Nat.le_refl _
 | n+1,q=>by
  show(run m q.1++rdL m n (lp m q)).length<=_
  rw[zzf]
  have:=V1_ (m:=m) n (lp m q)
  have:(run m q.1).length<=10:=by
   show(List.range' _ _).length<=10
   rw[List.length_range']
   have:=Vf_ m q.1
   omega
  omega
def Up(xs:Array Nat):Prop:=xs.toList.Pairwise (· < ·)
theorem Up.lt{xs:Array Nat}(U:Up xs){a b u v:Nat}(h:a<b)(ha:xs[a]? = some u)(hb:xs[b]? = some v):u<v:=by
 rw[<-Array.getElem?_toList]at ha hb
 obtain⟨h1,e1⟩:=List.getElem?_eq_some_iff.mp ha
 obtain⟨h2,e2⟩:=List.getElem?_eq_some_iff.mp hb
 have:=List.pairwise_iff_getElem.mp U a b h1 h2 h
 rw[e1,e2]at this
 exact this
theorem Ue_{xs:Array Nat}(U:Up xs)(j:Nat):∀(fuel lo hi:Nat),hi - lo<=fuel->lo<=hi->hi<=xs.size->(∀i u,i<lo->xs[i]? = some u->u<j)->(∀i u,hi<=i->xs[i]? = some u->j<=u) ->
  (∀i u,i<below.go xs j fuel lo hi->xs[i]? = some u->u<j)/\(∀i u,below.go xs j fuel lo hi<=i->xs[i]? = some u->j<=u)/\below.go xs j fuel lo hi<=xs.size
 | 0,lo,hi,h1,h2,h3,a,b=>by
  have:lo=hi:=by omega
  subst this
  exact⟨a,b,h3⟩
 | fuel+1,lo,hi,h1,h2,h3,a,b=>by
  unfold below.go
  by_cases hl:lo<hi
  ·rw[if_pos hl]
   have hm:(lo+hi) / 2<xs.size:=by omega
   have em:xs[(lo+hi) / 2]? = some (xs.getD ((lo+hi) / 2) j):=by rw[Array.getD_eq_getD_getElem?,Array.getElem?_eq_getElem hm];rfl
   dsimp only
   by_cases hv:xs.getD ((lo+hi) / 2) j<j
   ·rw[if_pos hv]
    refine Ue_ U j fuel _ hi (by omega) (by omega) h3 (λi u hi' e=>?_) b
    by_cases q:i=(lo+hi) / 2
    ·subst q;rw[em]at e;cases e;exact hv
    ·exact Nat.lt_trans (U.lt (show i<(lo+hi) / 2 by omega) e em) hv
   ·rw[if_neg hv]
    refine Ue_ U j fuel lo _ (by omega) (by omega) (by omega) a (λi u hi' e=>?_)
    by_cases q:i=(lo+hi) / 2
    ·subst q;rw[em]at e;cases e;omega
    ·have:=U.lt (show(lo+hi) / 2<i by omega) em e;omega
  ·rw[if_neg hl]
   have:lo=hi:=by omega
   subst this
   exact⟨a,b,h3⟩
theorem uX_{xs:Array Nat}(U:Up xs)(j:Nat):(∀i u,i<below xs j->xs[i]? = some u->u<j)/\(∀i u,below xs j<=i->xs[i]? = some u->j<=u)/\below xs j<=xs.size :=
 Ue_ U j xs.size 0 xs.size (by omega) (by omega) (Nat.le_refl _) (λi u h=>by omega) (λi u h e=>by rw[Array.getElem?_eq_none h]at e;cases e)
theorem below_at{xs:Array Nat}(U:Up xs){i j:Nat}(e:xs[i]? = some j):below xs j=i:=by
 obtain⟨a,b,c⟩:=uX_ U j
 have hi:i<xs.size:=(Array.getElem?_eq_some_iff.mp e).1
 rcases Nat.lt_trichotomy (below xs j) i with h|h|h
 ·have g:=Array.getElem?_eq_getElem (show below xs j<xs.size by omega)
  have:=b _ _ (Nat.le_refl _) g
  have:=U.lt h g e
  omega
 ·exact h
 ·have:=a _ _ h e;omega
theorem VC_{xs:Array Nat}(U:Up xs){i j:Nat}(e:xs[i]? = some j):below xs (j+1)=i+1:=by
 obtain⟨a,b,c⟩:=uX_ U (j+1)
 rcases Nat.lt_trichotomy (below xs (j+1)) (i+1)with h|h|h
 ·have:=b i _ (by omega) e;omega
 ·exact h
 ·have g:=Array.getElem?_eq_getElem (show i+1<xs.size by omega)
  have:=a _ _ h g
  have:=U.lt (Nat.lt_succ_self i) e g
  omega
theorem zcM_{xs:Array Nat}(U:Up xs):below xs 0=0:=by
 obtain⟨a,b,c⟩:=uX_ U 0
 rcases Nat.eq_zero_or_pos (below xs 0)with h|h
 ·exact h
 ·have g:=Array.getElem?_eq_getElem (show 0<xs.size by omega)
  have:=a _ _ h g;omega
theorem VJ_{xs:Array Nat}(U:Up xs){j:Nat}(hj:j∉xs.toList):Up (insertAt xs (below xs j) j):=by
 obtain⟨a,b,c⟩:=uX_ U j
 unfold Up
 rw[SetTable.toList_insertAt]
 have ha:∀u∈xs.toList.take (below xs j),u<j:=λu hu=>by
  obtain⟨i,hi,e⟩:=List.mem_take_iff_getElem.mp hu
  exact a i u (by omega) (by rw[<-Array.getElem?_toList];exact List.getElem?_eq_some_iff.mpr ⟨by omega,e⟩)
 have hb:∀u∈xs.toList.drop (below xs j),j<u:=λu hu=>by
  have hm:=List.mem_of_mem_drop hu
  obtain⟨i,hi,e⟩:=List.mem_drop_iff_getElem.mp hu
  have:=b (below xs j+i) u (by omega) (by rw[<-Array.getElem?_toList];exact List.getElem?_eq_some_iff.mpr ⟨by omega,e⟩)
  have:u≠j:=λz=>hj (z▸hm)
  omega
 rw[List.pairwise_append,List.pairwise_cons]
 refine⟨List.Pairwise.sublist (List.take_sublist _ _) U,⟨hb,List.Pairwise.sublist (List.drop_sublist _ _) U⟩,λu hu v hv=>?_⟩
 rcases List.mem_cons.mp hv with rfl|hv
 ·exact ha u hu
 ·exact Nat.lt_trans (ha u hu) (hb v hv)
def On(m:Nat)(h:Int)(P:List Nat)(j:Nat):Prop:=∃k:Nat,(Rd m h)[k]? = some j/\∀k',k'<k->∀x,(Rd m h)[k']? = some x->x∈P
theorem On.mono{m:Nat}{h:Int}{P P':List Nat}{j:Nat}(x:On m h P j)(s:∀y∈P,y∈P'):On m h P' j:=let ⟨k,a,b⟩:=x;⟨k,a,λk' hk y e=>s y (b k' hk y e)⟩
structure Tb(t:SetTable)(es:Array (Int×Value)):Prop where
 km:Mk t.mask
 du:t.dummies = #[]
 sz:t.place.size=es.size
 up:Up t.place
 le:∀j∈t.place.toList,j<=t.mask
 pl:t.plain=true
 fu:t.place.size<=t.mask
 rd:∀e j,(e,j)∈es.toList.zip t.place.toList->On t.mask e.1 t.place.toList j
section
variable {t:SetTable}{es:Array (Int×Value)}
theorem Tb.fill(T:Tb t es):t.fill=t.place.size:=by unfold SetTable.fill;rw[T.du];rfl
theorem Tb.fits(T:Tb t es):t.fits es.size=true:=by
 have:=T.fu
 simp only[SetTable.fits,T.fill,T.sz,Bool.and_eq_true,beq_iff_eq,zzi,true_and]
 rw[<-T.sz];exact this
theorem Tb.odd(T:Tb t es):t.gaveWay=false:=by
 unfold SetTable.gaveWay
 rcases T.km with h|h|h<;>rw[h]<;>rfl
theorem WM_(j:Nat):has #[] j=false:=rfl
theorem Tb.slot_in(T:Tb t es){i j:Nat}(e:t.place[i]? = some j):t.slot j=.live i:=by
 unfold SetTable.slot
 dsimp only
 rw[below_at T.up e,if_pos (by rw[e];exact beq_self_eq_true _)]
theorem Tb.slot_out(T:Tb t es){j:Nat}(h:j∉t.place.toList):t.slot j=.empty:=by
 unfold SetTable.slot
 dsimp only
 rw[if_neg,T.du,WM_,if_neg (by decide)]
 intro z
 have z':=eq_of_beq z
 rw[<-Array.getElem?_toList]at z'
 exact h (List.mem_of_getElem? z')
def At(m:Nat)(p:Probe)(l:List Nat):Prop:=p.dummy=none/\∃n,l=List.range' p.j (p.more+1)++rdL m n (lp m (p.i,p.perturb))
theorem zat_(t:SetTable)(h:Int):At t.mask (t.probeStart h) (Rd t.mask h):=by
 refine⟨rfl,t.mask+14,?_⟩
 show run t.mask (bits h % (t.mask+1))++rdL t.mask (t.mask+14) (lp t.mask _)=_
 unfold run probeStart
 dsimp only
 have:=Zn_ t.mask (bits h % (t.mask+1))
 rw[show runEnd t.mask (bits h % (t.mask+1)) - bits h % (t.mask+1)+1=runEnd t.mask (bits h % (t.mask+1))+1 - bits h % (t.mask+1) by omega]
theorem Xf_{p:Probe}{x:Nat}{l:List Nat}(a:At t.mask p (x::l)):x=p.j/\(l≠[]->At t.mask (t.advance p) l):=by
 obtain⟨hd,n,e⟩:=a
 rw[List.range'_succ,List.cons_append]at e
 injection e with e1 e2
 refine⟨e1,λhl=>?_⟩
 unfold SetTable.advance
 by_cases hm:p.more>0
 ·rw[if_pos hm]
  refine⟨hd,n,?_⟩
  dsimp only
  rw[show p.more - 1+1=p.more by omega]
  exact e2
 ·rw[if_neg hm]
  have h0:p.more=0:=by omega
  rw[h0]at e2
  cases n with
  | zero=>exact absurd e2 hl
  | succ n =>
   refine⟨hd,n,?_⟩
   have:=Zn_ t.mask (lp t.mask (p.i,p.perturb)).1
   show l=List.range' (lp t.mask (p.i,p.perturb)).1 (runEnd t.mask (lp t.mask (p.i,p.perturb)).1 - (lp t.mask (p.i,p.perturb)).1+1)++rdL t.mask n (lp t.mask (lp t.mask (p.i,p.perturb)))
   rw[show runEnd t.mask (lp t.mask (p.i,p.perturb)).1 - (lp t.mask (p.i,p.perturb)).1+1=runEnd t.mask (lp t.mask (p.i,p.perturb)).1+1 - (lp t.mask (p.i,p.perturb)).1 by omega]
   exact e2
theorem zey_(T:Tb t es){f:Nat->Int}{h:Int}:∀(q fuel:Nat) (p:Probe) (l:List Nat) (j0:Nat),At t.mask p l->l[q]? = some j0->j0∉t.place.toList->(∀k,k<q->∀x,l[k]? = some x->x∈t.place.toList)->q<fuel ->
  (probe.go t f h fuel p=some (.empty j0 none)/\∀k,k<q->∀i j,l[k]? = some j->t.place[i]? = some j->f i≠h) \/
  ∃(k i j:Nat) (nx:Probe),k<q/\l[k]? = some j/\t.place[i]? = some j/\f i=h/\probe.go t f h fuel p=some (.candidate j i nx)/\At t.mask nx (l.drop (k+1))/\∀k',k'<k->∀i j,l[k']? = some j->t.place[i]? = some j->f i≠h
 | q,fuel+1,p,[],j0,a,e0,hj,hu,hf=>by cases e0
 | 0,fuel+1,p,x::l,j0,a,e0,hj,hu,hf=>by
  cases e0
  obtain⟨rfl,_⟩:=Xf_ a
  refine .inl ⟨?_,λk hk=>absurd hk (by omega)⟩
  unfold probe.go
  rw[T.slot_out hj,a.1]
 | q+1,fuel+1,p,x::l,j0,a,e0,hj,hu,hf=>by
  have e0':l[q]? = some j0:=e0
  have hl:l≠[]:=λz=>by rw[z]at e0';cases e0'
  obtain⟨rfl,hn⟩:=Xf_ a
  have hx:=hu 0 (by omega) _ rfl
  obtain⟨i,hi,ei⟩:=List.getElem_of_mem hx
  have ei':t.place[i]? = some p.j:=by rw[<-Array.getElem?_toList];exact List.getElem?_eq_some_iff.mpr ⟨hi,ei⟩
  have one:∀i',t.place[i']? = some p.j->i'=i:=λi' e=>by
   rcases Nat.lt_trichotomy i' i with z|z|z
   ·have:=T.up.lt z e ei';omega
   ·exact z
   ·have:=T.up.lt z ei' e;omega
  unfold probe.go
  rw[T.slot_in ei']
  dsimp only
  by_cases hh:(f i==h)=true
  ·rw[if_pos hh]
   exact .inr ⟨0,i,_,_,by omega,rfl,ei',eq_of_beq hh,rfl,hn hl,λk' hk=>absurd hk (by omega)⟩
  ·rw[if_neg hh]
   have h0:∀i' j,(p.j::l)[0]? = some j->t.place[i']? = some j->f i'≠h:=λi' j e1 e2=>by
    cases e1
    rw[one i' e2]
    exact λz=>hh (by rw[z];exact beq_self_eq_true _)
   rcases zey_ T q fuel _ l j0 (hn hl) e0' hj (λk hk x e=>hu (k+1) (by omega) x e) (by omega)with ⟨r,c⟩|⟨k,i2,j2,nx,r1,r2,r3,r4,r5,r6,r7⟩
   ·refine .inl ⟨r,λk hk=>?_⟩
    cases k with
    | zero=>exact h0
    | succ k=>exact c k (by omega)
   ·refine .inr ⟨k+1,i2,j2,nx,by omega,r2,r3,r4,r5,r6,λk' hk=>?_⟩
    cases k' with
    | zero=>exact h0
    | succ k'=>exact r7 k' (by omega)
theorem Tb.room(T:Tb t es):∃j,j<=t.mask/\j∉t.place.toList:=by
 by_cases h:∃j,j<=t.mask/\j∉t.place.toList
 ·exact h
 ·exfalso
  have sub:List.range (t.mask+1) ⊆ t.place.toList:=λj hj=>by
   by_cases hm:j∈t.place.toList
   ·exact hm
   ·exact absurd ⟨j,by have:=List.mem_range.mp hj;omega,hm⟩ h
  have:=List.nodup_range.length_le_of_subset sub
  rw[List.length_range,Array.length_toList]at this
  have:=T.fu
  omega
theorem Yb_{P:List Nat}:∀(l:List Nat) (j:Nat),j∈l->j∉P->∃(k j0:Nat),l[k]? = some j0/\j0∉P/\∀k',k'<k->∀x,l[k']? = some x->x∈P
 | [],_,h,_=>by cases h
 | x::l,j,h,hj=>by
  by_cases hx:x∈P
  ·rcases List.mem_cons.mp h with rfl|h
   ·exact absurd hx hj
   ·obtain⟨k,j0,a,b,c⟩:=Yb_ l j h hj
    refine⟨k+1,j0,a,b,λk' hk y e=>?_⟩
    cases k' with
    | zero=>cases e;exact hx
    | succ k'=>exact c k' (by omega) y e
  ·exact⟨0,x,rfl,hx,λk' hk=>absurd hk (by omega)⟩
theorem Tb.free(T:Tb t es)(h:Int):∃(k j0:Nat),(Rd t.mask h)[k]? = some j0/\k<10*turns t.mask/\j0∉t.place.toList/\∀k',k'<k->∀x,(Rd t.mask h)[k']? = some x->x∈t.place.toList:=by
 obtain⟨j,h1,h2⟩:=T.room
 obtain⟨k,j0,a,b,c⟩:=Yb_ _ j (cov T.km h h1) h2
 refine⟨k,j0,a,?_,b,c⟩
 have h3:=(List.getElem?_eq_some_iff.mp a).1
 have h4:(Rd t.mask h).length<=10*turns t.mask:=V1_ _ _
 omega
theorem Tb.met(T:Tb t es){h:Int}{k j0 i:Nat}{e:Int×Value}(a:(Rd t.mask h)[k]? = some j0)(b:j0∉t.place.toList)(he:es[i]? = some e)(hh:e.1=h) :
  ∃(k' j:Nat),k'<k/\(Rd t.mask h)[k']? = some j/\t.place[i]? = some j:=by
 have hi:i<es.size:=(Array.getElem?_eq_some_iff.mp he).1
 have hp:=Array.getElem?_eq_getElem (show i<t.place.size by rw[T.sz];exact hi)
 have hz:(e,t.place[i]'(by rw[T.sz];exact hi))∈es.toList.zip t.place.toList:=by
  refine List.mem_of_getElem? (i:=i) ?_
  rw[List.getElem?_zip_eq_some]
  exact⟨by rw[Array.getElem?_toList];exact he,by rw[Array.getElem?_toList];exact hp⟩
 obtain⟨k',c1,c2⟩:=T.rd _ _ hz
 rw[hh]at c1 c2
 rcases Nat.lt_trichotomy k' k with z|z|z
 ·exact⟨k',_,z,c1,hp⟩
 ·subst z
  rw[a]at c1
  cases c1
  exact absurd (List.mem_of_getElem? (by rw[Array.getElem?_toList];exact hp)) b
 ·exact absurd (c2 k z j0 a) b
theorem mem_insertAt{α:Type}{xs:Array α}{p:Nat}{x y:α}:y∈(insertAt xs p x).toList↔y=x\/y∈xs.toList:=by
 rw[(SetTable.insertAt_perm xs p x).mem_iff,Array.toList_push]
 simp[or_comm]
theorem jc_{α:Type}{xs:Array α}{p:Nat}{x:α}:(insertAt xs p x).size=xs.size+1:=by
 have:=(SetTable.insertAt_perm xs p x).length_eq
 rwa [Array.length_toList,Array.length_toList,Array.size_push]at this
theorem Q6_{α β:Type}{xs:List α}{ys:List β}(h:xs.length=ys.length)(p:Nat)(x:α)(y:β)(z:α×β)(hz:z∈(xs.take p++x::xs.drop p).zip (ys.take p++y::ys.drop p)):z=(x,y)\/z∈xs.zip ys:=by
 rw[List.zip_append (by simp[h])]at hz
 have e:xs.zip ys=(xs.take p).zip (ys.take p)++(xs.drop p).zip (ys.drop p):=by
  rw[<-List.zip_append (by simp[h]),List.take_append_drop,List.take_append_drop]
 rw[e]
 simp only[List.zip_cons_cons,List.mem_append,List.mem_cons]at hz ⊢
 rcases hz with h|h|h
 ·exact .inr (.inl h)
 ·exact .inl h
 ·exact .inr (.inr h)
theorem Tb.put(T:Tb t es){h:Int}{x:Value}{k j0:Nat}(a:(Rd t.mask h)[k]? = some j0)(b:j0∉t.place.toList)(c:∀k',k'<k->∀x,(Rd t.mask h)[k']? = some x->x∈t.place.toList)(hf:t.place.size+1<=t.mask) :
  Tb (t.put j0).1 (insertAt es (t.put j0).2 (h,x))/\(t.put j0).1.mask=t.mask/\(t.put j0).1.led=t.led/\(t.put j0).1.place.size=t.place.size+1:=by
 have e:(t.put j0).1={ t with place:=insertAt t.place (below t.place j0) j0,dummies:=#[] }:=by
  show SetTable.mk _ _ _ _ _ _ _=_
  rw[T.du,WM_]
  rfl
 have sub:∀y∈t.place.toList,y∈(insertAt t.place (below t.place j0) j0).toList:=λy hy=>mem_insertAt.mpr (.inr hy)
 rw[e]
 refine⟨⟨T.km,rfl,by show(insertAt _ _ _).size=(insertAt _ _ _).size;rw[jc_,jc_,T.sz],VJ_ T.up b,λj hj=>?_,T.pl,by show(insertAt _ _ _).size<=_;rw[jc_];exact hf,λz j hz=>?_⟩,rfl,rfl,jc_⟩
 ·rcases mem_insertAt.mp hj with rfl|hj
  ·exact zcU_ (List.mem_of_getElem? a)
  ·exact T.le j hj
 ·have hz':(z,j)∈(es.toList.take (below t.place j0)++(h,x)::es.toList.drop (below t.place j0)).zip (t.place.toList.take (below t.place j0)++j0::t.place.toList.drop (below t.place j0)):=by
   have:=hz
   rwa [show(SetTable.put t j0).2=below t.place j0 from rfl,SetTable.toList_insertAt,SetTable.toList_insertAt]at this
  rcases Q6_ (by rw[Array.length_toList,Array.length_toList,T.sz]) _ _ _ _ hz' with z'|z'
  ·injection z' with z1 z2
   subst z1 z2
   exact⟨k,a,λk' hk y e=>sub y (c k' hk y e)⟩
  ·exact(T.rd z j z').mono sub
end
section
variable {m:Nat}{ow:Array (Option Nat)}
theorem U3_:∀(fuel i p j:Nat),layClean.free m ow fuel i p=some j->∃k:Nat,(rdL m fuel (i,p))[k]? = some j/\ow.getD j (some 0)=none/\∀k',k'<k->∀x,(rdL m fuel (i,p))[k']? = some x->∃q,ow.getD x (some 0)=some q
 | 0,_,_,_,h=>by cases h
 | fuel+1,i,p,j,h=>by
  unfold layClean.free at h
  have rl:(run m i).length=runEnd m i+1 - i:=List.length_range'
  cases q:(List.range (runEnd m i+1 - i)).find? (λk=>(ow.getD (i+k) (some 0)).isNone)with
  | some k =>
   rw[q]at h
   cases h
   have h1:=List.find?_some q
   have h2:=List.mem_range.mp (List.mem_of_find?_eq_some q)
   have gk:∀k',k'<runEnd m i+1 - i->(rdL m (fuel+1) (i,p))[k']? = some (i+k'):=λk' hk=>by
    show(run m i++rdL m fuel (lp m (i,p)))[k']? = _
    rw[List.getElem?_append_left (by rw[rl];exact hk)]
    show(List.range' _ _)[k']? = _
    rw[List.getElem?_range' hk,Nat.one_mul]
   refine⟨k,gk k h2,Option.isNone_iff_eq_none.mp h1,λk' hk x e=>?_⟩
   rw[gk k' (by omega)]at e
   cases e
   obtain⟨a,as,bs,e1,e2⟩:=List.find?_eq_some_iff_append.mp q
   have hm:k'∈as:=by
    have ek:as.length=k:=by
     have:=congrArg (λl=>l[as.length]?) e1
     simp only[List.getElem?_append_right (Nat.le_refl _),Nat.sub_self,List.getElem?_cons_zero]at this
     have hl:as.length<runEnd m i+1 - i:=by
      have:=congrArg List.length e1
      rw[List.length_range,zzf,List.length_cons]at this
      omega
     rw[List.getElem?_range hl]at this
     exact Option.some.inj this
    have:=congrArg (λl=>l[k']?) e1
    rw[List.getElem?_range (by omega),List.getElem?_append_left (by omega)]at this
    exact List.mem_of_getElem? this.symm
   have:=e2 k' hm
   cases z:ow.getD (i+k') (some 0)with
   | none=>rw[z]at this;cases this
   | some q=>exact⟨q,rfl⟩
  | none =>
   rw[q]at h
   obtain⟨k,a,b,c⟩:=U3_ fuel _ _ j h
   refine⟨(run m i).length+k,?_,b,λk' hk x e=>?_⟩
   ·show(run m i++rdL m fuel (lp m (i,p)))[_]? = _
    rw[List.getElem?_append_right (by omega),Nat.add_sub_cancel_left]
    exact a
   ·have e':(run m i++rdL m fuel (lp m (i,p)))[k']? = some x:=e
    by_cases hk':k'<(run m i).length
    ·rw[List.getElem?_append_left hk']at e'
     rw[rl]at hk'
     have e2:(List.range' i (runEnd m i+1 - i))[k']? = some x:=e'
     rw[List.getElem?_range' hk',Nat.one_mul]at e2
     cases e2
     have:=List.find?_eq_none.mp q k' (List.mem_range.mpr hk')
     cases z:ow.getD (i+k') (some 0)with
     | none=>rw[z]at this;exact absurd rfl this
     | some q=>exact⟨q,rfl⟩
    ·rw[List.getElem?_append_right (by omega)]at e'
     exact c (k' - (run m i).length) (by omega) x e'
theorem QF_:∀(fuel i p x:Nat),x∈rdL m fuel (i,p)->ow.getD x (some 0)=none->∃j,layClean.free m ow fuel i p=some j
 | 0,_,_,_,h,_=>by cases h
 | fuel+1,i,p,x,h,hx=>by
  unfold layClean.free
  cases q:(List.range (runEnd m i+1 - i)).find? (λk=>(ow.getD (i+k) (some 0)).isNone)with
  | some k=>exact⟨_,rfl⟩
  | none =>
   rcases List.mem_append.mp h with h|h
   ·have h':x∈List.range' i (runEnd m i+1 - i):=h
    obtain⟨h1,h2⟩:=List.mem_range'_1.mp h'
    have:=List.find?_eq_none.mp q (x - i) (List.mem_range.mpr (by omega))
    rw[show i+(x - i)=x by omega,hx]at this
    exact absurd rfl this
   ·exact QF_ fuel _ _ x h hx
theorem fmc{α β:Type}{f g:α->Option β}:∀{l:List α},(∀x∈l,f x=g x)->l.filterMap f=l.filterMap g
 | [],_=>rfl
 | x::l,h=>by rw[List.filterMap_cons,List.filterMap_cons,h x List.mem_cons_self,fmc λy hy=>h y (zzg _ hy)]
noncomputable def Lv(m:Nat)(ow:Array (Option Nat)):List (Nat×Nat):=(List.range (m+1)).filterMap λj=>(ow.getD j none).map (j,·)
theorem mem_Lv{j q:Nat}:(j,q)∈Lv m ow↔j<=m/\ow.getD j none=some q:=by
 unfold Lv
 rw[List.mem_filterMap]
 constructor
 ·rintro⟨a,ha,e⟩
  cases z:ow.getD a none with
  | none=>rw[z]at e;cases e
  | some b =>
   rw[z]at e
   cases e
   exact⟨by have:=List.mem_range.mp ha;omega,z⟩
 ·rintro⟨a,e⟩
  exact⟨j,List.mem_range.mpr (by omega),by rw[e];rfl⟩
theorem zeQ_:(Lv m ow).map (·.1)=(List.range (m+1)).filter λj=>(ow.getD j none).isSome:=by
 unfold Lv
 rw[List.map_filterMap]
 induction List.range (m+1)with
 | nil=>rfl
 | cons a l ih =>
  rw[List.filterMap_cons,List.filter_cons]
  cases z:ow.getD a none with
  | none=>simpa using ih
  | some q=>simpa using ih
theorem zfQ_:((Lv m ow).map (·.1)).Pairwise (· < ·):=by rw[zeQ_];exact List.Pairwise.filter _ List.pairwise_lt_range
theorem zeP_{j k:Nat}(hs:ow.size=m+1)(hj:j<=m)(h:ow.getD j none=none):(Lv m (ow.setIfInBounds j (some k))).Perm ((j,k)::Lv m ow):=by
 obtain⟨as,bs,e⟩:=List.append_of_mem (List.mem_range.mpr (show j<m+1 by omega))
 have nd:(as++j::bs).Nodup:=e▸List.nodup_range
 rw[List.nodup_append]at nd
 obtain⟨n1,n2,n3⟩:=nd
 have ne:∀x,x≠j->(ow.setIfInBounds j (some k)).getD x none=ow.getD x none:=λx hx=>by
  rw[Array.getD_eq_getD_getElem?,Array.getD_eq_getD_getElem?,Array.getElem?_setIfInBounds_ne (λz=>hx z.symm)]
 have eq:(ow.setIfInBounds j (some k)).getD j none=some k:=by
  rw[Array.getD_eq_getD_getElem?,Array.getElem?_setIfInBounds_self_of_lt (by omega)];rfl
 unfold Lv
 rw[e,List.filterMap_append,List.filterMap_append,List.filterMap_cons,List.filterMap_cons,eq,h]
 have ea:as.filterMap (λx=>((ow.setIfInBounds j (some k)).getD x none).map (x,·))=as.filterMap (λx=>(ow.getD x none).map (x,·)):=fmc λx hx=>by rw[ne x (λz=>n3 x hx j List.mem_cons_self z)]
 have eb:bs.filterMap (λx=>((ow.setIfInBounds j (some k)).getD x none).map (x,·))=bs.filterMap (λx=>(ow.getD x none).map (x,·)):=fmc λx hx=>by rw[ne x (λz=>(List.nodup_cons.mp n2).1 (z▸hx))]
 rw[ea,eb]
 exact List.perm_middle
structure Ly(m:Nat)(hs:List Int)(ow:Array (Option Nat)):Prop where
 sz:ow.size=m+1
 pm:((Lv m ow).map (·.2)).Perm (List.range hs.length)
 rd:∀j q,(j,q)∈Lv m ow->∃h,hs[q]? = some h/\On m h ((Lv m ow).map (·.1)) j
theorem Ly.start:Ly m [] (Array.replicate (m+1) none):=by
 have e:Lv m (Array.replicate (m+1) none)=[]:=by
  apply List.eq_nil_iff_forall_not_mem.mpr
  rintro⟨j,q⟩ h
  have:=(mem_Lv.mp h).2
  rw[Array.getD_eq_getD_getElem?,Array.getElem?_replicate]at this
  split at this<;>cases this
 exact⟨Array.size_replicate,by rw[e];exact .refl _,λj q h=>by rw[e]at h;cases h⟩
theorem Ly.step{hs:List Int}(L:Ly m hs ow)(hm:Mk m)(hl:hs.length<=m)(h:Int):∃j,layClean.free m ow (turns m) (bits h % (m+1)) (bits h)=some j/\Ly m (hs++[h]) (ow.setIfInBounds j (some hs.length)):=by
 have gd:∀x,x<=m->ow.getD x (some 0)=ow.getD x none:=λx hx=>by
  rw[Array.getD_eq_getD_getElem?,Array.getD_eq_getD_getElem?,Array.getElem?_eq_getElem (show x<ow.size by rw[L.sz];omega)];rfl
 have room:∃j,j<=m/\ow.getD j none=none:=by
  by_cases z:∃j,j<=m/\ow.getD j none=none
  ·exact z
  ·exfalso
   have sub:List.range (m+1) ⊆ (Lv m ow).map (·.1):=λj hj=>by
    have hj':j<=m:=by have:=List.mem_range.mp hj;omega
    cases q:ow.getD j none with
    | none=>exact absurd ⟨j,hj',q⟩ z
    | some q'=>exact List.mem_map.mpr ⟨(j,q'),mem_Lv.mpr ⟨hj',q⟩,rfl⟩
   have h1:=List.nodup_range.length_le_of_subset sub
   have h2:=L.pm.length_eq
   rw[List.length_range,zzd]at h1
   rw[List.length_range,zzd]at h2
   omega
 obtain⟨j1,hj1,ej1⟩:=room
 obtain⟨j,ej⟩:=QF_ (m:=m) (ow:=ow) (turns m) (bits h % (m+1)) (bits h) j1 (cov hm h hj1) (by rw[gd j1 hj1];exact ej1)
 obtain⟨k,a,b,c⟩:=U3_ _ _ _ _ ej
 have hj:j<=m:=zcU_ (h:=h) (List.mem_of_getElem? a)
 have pm:=zeP_ (k:=hs.length) L.sz hj (by rw[<-gd j hj];exact b)
 have sub:∀y∈(Lv m ow).map (·.1),y∈(Lv m (ow.setIfInBounds j (some hs.length))).map (·.1):=λy hy=>(pm.map (·.1)).mem_iff.mpr (zzg _ hy)
 refine⟨j,ej,by rw[Array.size_setIfInBounds];exact L.sz,?_,λj' q' hq=>?_⟩
 ·rw[zzf,List.length_singleton,List.range_succ]
  exact(pm.map λp:Nat×Nat=>p.2).trans ((List.Perm.cons _ L.pm).trans (List.perm_append_singleton _ _).symm)
 ·rcases List.mem_cons.mp (pm.mem_iff.mp hq)with z|z
  ·cases z
   refine⟨h,by rw[List.getElem?_append_right (Nat.le_refl _),Nat.sub_self];rfl,k,a,λk' hk x e=>sub x ?_⟩
   obtain⟨q,eq⟩:=c k' hk x e
   have hx:x<=m:=zcU_ (h:=h) (List.mem_of_getElem? e)
   exact List.mem_map.mpr ⟨(x,q),mem_Lv.mpr ⟨hx,by rw[<-gd x hx];exact eq⟩,rfl⟩
  ·obtain⟨h',e1,e2⟩:=L.rd j' q' z
   exact⟨h',by rw[List.getElem?_append_left (List.getElem?_eq_some_iff.mp e1).1];exact e1,e2.mono sub⟩
theorem zaU_(hm:Mk m):∀(rest hs:List Int) (ow:Array (Option Nat)),Ly m hs ow->hs.length+rest.length<=m+1 ->
  ∃ow',rest.foldl (init:=some (ow,hs.length)) (λ(acc:Option (Array (Option Nat)×Nat)) h=>do
   let (owner,k) <-acc
   let j <-layClean.free m owner (turns m) (bits h % (m+1)) (bits h)
   pure (owner.setIfInBounds j (some k),k+1))=some (ow',(hs++rest).length)/\Ly m (hs++rest) ow'
 | [],hs,ow,L,_=>⟨ow,by rw[List.append_nil];rfl,by rw[List.append_nil];exact L⟩
 | h::rest,hs,ow,L,hl=>by
  rw[List.length_cons]at hl
  obtain⟨j,ej,L'⟩:=L.step hm (by omega) h
  obtain⟨ow',e,L2⟩:=zaU_ hm rest (hs++[h]) _ L' (by rw[zzf,List.length_singleton];omega)
  refine⟨ow',?_,by rw[List.append_assoc]at L2;exact L2⟩
  rw[List.foldl_cons]
  have:(do
   let (owner,k) <-some (ow,hs.length)
   let j <-layClean.free m owner (turns m) (bits h % (m+1)) (bits h)
   pure (owner.setIfInBounds j (some k),k+1))=some (ow.setIfInBounds j (some hs.length),(hs++[h]).length):=by
   show(layClean.free m ow (turns m) (bits h % (m+1)) (bits h)).bind _=_
   rw[ej,zzf]
   rfl
  rw[this,e,List.append_assoc]
  rfl
theorem zee_(hm:Mk m){hs:Array Int}(hl:hs.size<=m+1):∃ow,layClean m hs=some ow/\Ly m hs.toList ow:=by
 obtain⟨ow,e,L⟩:=zaU_ hm hs.toList [] _ Ly.start (by rw[List.length_nil,Array.length_toList];omega)
 refine⟨ow,?_,L⟩
 unfold layClean
 rw[<-Array.foldl_toList]
 rw[show(hs.toList.foldl _ (some (Array.replicate (m+1) none,0)))=some (ow,([]++hs.toList).length)from e]
 rfl
theorem zaw_{α:Type}{es:Array α}{e:α}{j:Nat}:∀(L:List (Nat×Nat)),(∀p∈L,∃x,es[p.2]? = some x)->(e,j)∈((L.map (·.2)).filterMap (es[·]?)).zip (L.map (·.1))->∃q,(j,q)∈L/\es[q]? = some e
 | [],_,h=>by cases h
 | p::L,hp,h=>by
  obtain⟨x,ex⟩:=hp p List.mem_cons_self
  rw[List.map_cons,List.map_cons,List.filterMap_cons,ex]at h
  rcases List.mem_cons.mp h with z|z
  ·cases z
   exact⟨p.2,List.mem_cons_self,ex⟩
  ·obtain⟨q,a,b⟩:=zaw_ L (λp hp'=>hp p (zzg _ hp')) z
   exact⟨q,zzg _ a,b⟩
theorem zcg_(hm:Mk m){es:Array (Int×Value)}{finger moves:Nat}{led:Bool}(hl:es.size<=m):∃t' order,laid m finger moves led true (es.map (·.1))=some (t',order)/\Tb t' (order.filterMap (es[·]?))/\(order.filterMap (es[·]?)).toList.Perm es.toList/\t'.mask=m/\t'.led=led:=by
 obtain⟨ow,e,L⟩:=zee_ hm (hs:=es.map (·.1)) (by rw[Array.size_map];omega)
 have hlen:(es.map (·.1)).toList.length=es.size:=by rw[Array.length_toList,Array.size_map]
 have pm:=L.pm
 rw[hlen]at pm
 have el:(((Lv m ow).map (·.2)).toArray.filterMap (es[·]?)).toList=((Lv m ow).map (·.2)).filterMap (es[·]?):=by rw[Array.toList_filterMap]
 have pe:(((Lv m ow).map (·.2)).toArray.filterMap (es[·]?)).toList.Perm es.toList:=by
  rw[el,<-filterMap_getElem?_range es]
  exact pm.filterMap _
 have hn:(Lv m ow).length=es.size:=by have:=pm.length_eq;rwa [zzd,List.length_range]at this
 have hsz:(((Lv m ow).map (·.2)).toArray.filterMap (es[·]?)).size=es.size:=by have:=pe.length_eq;rwa [Array.length_toList,Array.length_toList]at this
 refine⟨{ mask:=m,place:=((Lv m ow).map (·.1)).toArray,dummies:=#[],finger,led,moves,plain:=true },((Lv m ow).map (·.2)).toArray,?_,⟨hm,rfl,?_,zfQ_,λj hj=>?_,rfl,?_,λz j hz=>?_⟩,pe,rfl,rfl⟩
 ·unfold laid
  rw[e]
  rfl
 ·show((Lv m ow).map (·.1)).toArray.size=_
  rw[hsz,List.size_toArray,zzd,hn]
 ·obtain⟨⟨j',q⟩,h1,h2⟩:=List.mem_map.mp (show j∈(Lv m ow).map (·.1)from hj)
  cases h2
  exact(mem_Lv.mp h1).1
 ·show((Lv m ow).map (·.1)).toArray.size<=m
  rw[List.size_toArray,zzd,hn];exact hl
 ·rw[el]at hz
  obtain⟨q,a,b⟩:=zaw_ (Lv m ow) (λp hp=>by
   have:p.2∈List.range es.size:=pm.mem_iff.mp (List.mem_map.mpr ⟨p,hp,rfl⟩)
   exact⟨_,Array.getElem?_eq_getElem (List.mem_range.mp this)⟩) hz
  obtain⟨h,e1,e2⟩:=L.rd j q a
  rw[Array.getElem?_toList,Array.getElem?_map,b]at e1
  cases e1
  exact e2
end
end WS
namespace WS
open PySem PySem.SetTable PyProof.Rows
section
variable {prog:Program}{w:World}{A:Around}{E:Value->Shared->Prop}{s:Shared}
abbrev TI(prog:Program)(w:World)(h:Heap)(x:List Int)(a:Addr):Prop:=IsTupleKey (intKind prog w) h x a
noncomputable abbrev hs(prog:Program)(w:World)(x:List Int):Int:=tupleKeyHash (intKind prog w) x
theorem Q4_{x:List Int}{vs:List Value}(h:ItemsAre (intKind prog w) x vs):∀v∈vs,∃i t,v=.int i t:=by
 induction h with
 | nil=>intro v hv;cases hv
 | cons h1 _ ih =>
  intro v hv
  rcases List.mem_cons.mp hv with rfl|hv
  ·obtain⟨t,rfl⟩:=Value.isInt_shape h1;exact⟨_,t,rfl⟩
  ·exact ih v hv
theorem hbv{x:List Int}{a:Addr}{Q:Bool->Shared->Prop}(hk:TI prog w s.heap x a)(h:Q true s):wpAny (model prog w) A (hashByValue 8 (.ref a)) Q E s:=by
 have hT:=hk.typeIs
 obtain⟨o,items,n,ho,_,hd,hi⟩:=hk
 have hall:=Q4_ hi
 unfold hashByValue
 refine zza (wpAny_specialOf hT F.slot_tuple_hash.lookup ?_)
 show wpAny _ _ (seqItems? (.ref a) >>= _) _ _ s
 refine zza (wpAny_seqItems ho hd ?_)
 refine zza ?_
 show wpAny _ _ (forIn items _ _) _ _ s
 rw[<-Array.forIn_toList]
 refine wpAny_forIn_list _ (λrest r s'=>r.1=none/\s'=s/\∀v∈rest,∃i t,v=Value.int i t) _ ?_ ?_ _ _ ⟨rfl,rfl,hall⟩
 ·rintro v rest r s' ⟨hr,rfl,hall⟩
  obtain⟨i,t,rfl⟩:=hall v List.mem_cons_self
  refine zza (m:=hashByValue 7 (.int i t)) (wpAny_of_eq (a:=true) (by rw[hashByValue]) ?_)
  simp only[Bool.not_true,Bool.false_eq_true,if_false]
  exact zzb ⟨rfl,rfl,λu hu'=>hall u (zzg _ hu')⟩
 ·rintro⟨r1,r2⟩ s' ⟨hr,rfl,_⟩
  simp only at hr
  subst hr
  exact zzb h
theorem oacs{x:List Int}{a:Addr}{Q:Bool->Shared->Prop}(hk:TI prog w s.heap x a)(h:Q false s):wpAny (model prog w) A (ofAClassStatement 8 (.ref a)) Q E s:=by
 have hT:=hk.typeIs
 obtain⟨o,items,n,ho,_,hd,hi⟩:=hk
 have hall:=Q4_ hi
 unfold ofAClassStatement
 refine zza (wpAny_typeOf hT ?_)
 dsimp only
 rw[if_pos (show(("tuple" : String) == "tuple")=true by decide)]
 refine zza (zzb ?_)
 simp only[Bool.not_true,Bool.false_eq_true,if_false]
 refine zza (wpAny_seqItems ho hd ?_)
 dsimp only
 refine zza ?_
 show wpAny _ _ (forIn items _ _) _ _ s
 rw[<-Array.forIn_toList]
 refine wpAny_forIn_list _ (λrest r s'=>r.1=none/\s'=s/\∀v∈rest,∃i t,v=Value.int i t) _ ?_ ?_ _ _ ⟨rfl,rfl,hall⟩
 ·rintro v rest r s' ⟨hr,rfl,hall⟩
  obtain⟨i,t,rfl⟩:=hall v List.mem_cons_self
  refine zza (m:=ofAClassStatement 7 (.int i t)) (wpAny_of_eq (a:=false) (by rw[ofAClassStatement];intro _ z;cases z) ?_)
  simp only[Bool.not_true,Bool.false_eq_true,if_false]
  exact zzb ⟨rfl,rfl,λu hu'=>hall u (zzg _ hu')⟩
 ·rintro⟨r1,r2⟩ s' ⟨hr,rfl,_⟩
  simp only at hr
  subst hr
  exact zzb h
theorem zcY_{x:List Int}{a:Addr}{l:List Value}{Q:Bool->Shared->Prop}(hk:TI prog w s.heap x a)(hl:∀v∈l,∃y b,v=.ref b/\TI prog w s.heap y b)(h:Q false s):wpAny (model prog w) A (searchCouldBeSeen (.ref a) l) Q E s:=by
 unfold searchCouldBeSeen
 refine zza ?_
 refine wpAny_forIn_list _ (λrest r s'=>r.1=none/\s'=s/\∀v∈rest,∃y b,v=Value.ref b/\TI prog w s.heap y b) _ ?_ ?_ _ _ ⟨rfl,rfl,hl⟩
 ·rintro v rest r s' ⟨hr,rfl,hall⟩
  obtain⟨y,b,rfl,hb⟩:=hall v List.mem_cons_self
  have fin:∀u∈rest,∃y b,u=Value.ref b/\TI prog w s'.heap y b:=λu hu'=>hall u (zzg _ hu')
  dsimp only
  split
  ·exact zzb ⟨rfl,rfl,fin⟩
  ·refine zza (wpAny_eqIsQuiet_tuple hk ?_)
   simp only[Bool.not_true,Bool.false_eq_true,if_false]
   refine zza (wpAny_eqIsQuiet_tuple hb ?_)
   simp only[Bool.not_true,Bool.false_eq_true,if_false]
   refine zza (oacs hk ?_)
   simp only[Bool.not_true,Bool.false_eq_true,if_false]
   refine zza (oacs hb ?_)
   simp only[Bool.not_true,Bool.false_eq_true,if_false]
   exact zzb ⟨rfl,rfl,fin⟩
 ·rintro⟨r1,r2⟩ s' ⟨hr,rfl,_⟩
  simp only at hr
  subst hr
  exact zzb h
end
section
variable {prog:Program}{w:World}{A:Around}{E:Value->Shared->Prop}{s:Shared}
noncomputable def f0(es:Array (Int×Value))(i:Nat):Int:=(es[i]?.map (·.1)).getD 0
def Els(prog:Program)(w:World)(h:Heap)(l:List (Int×Value)):Prop:=∀e∈l,∃y b,e=(hs prog w y,Value.ref b)/\TI prog w h y b
theorem VV_{l a:Addr}{o:Obj}{es:Array (Int×Value)}{ep:Nat}{t:SetTable}{x:List Int}{Q:SetFound->Shared->Prop}(hu:A.units<cLine)(ho:s.heap.get? l=some o)(hd:o.data=.set es ep t)(T:Tb t es)(hx:TI prog w s.heap x a)(hE:Els prog w s.heap es.toList){j0:Nat}
  (ht:(∃b,(hs prog w x,Value.ref b)∈es.toList/\TI prog w s.heap x b)->Q (.there none) s) :
  ∀(q fuel:Nat) (stand:Option Probe) (L:List Nat),q<fuel->At t.mask (stand.getD (t.probeStart (hs prog w x))) L->L[q]? = some j0->q<10*turns t.mask->j0∉t.place.toList->(∀k,k<q->∀y,L[k]? = some y->y∈t.place.toList) ->
   ((∀k,k<q->∀(i j:Nat) (b:Addr),L[k]? = some j->t.place[i]? = some j->es[i]? = some (hs prog w x,Value.ref b)->¬ TI prog w s.heap x b)->Q (.free j0 false) s) ->
   wpAny (model prog w) A (setSearchFrom l (.ref a) (hs prog w x) true fuel stand) Q E s:=by
 intro q
 induction q using Nat.strongRecOn with
 | ind q ih =>
  intro fuel stand L hf ha e0 hq hj hu' hfree
  cases fuel with
  | zero=>omega
  | succ fuel =>
   unfold setSearchFrom
   refine zza (wpAny_setState_of ho hd T.fits ?_)
   dsimp only
   rw[T.odd,if_neg (by decide)]
   have g:=zey_ (f:=f0 es) T q (10*turns t.mask) _ L j0 ha e0 hj hu' hq (h:=hs prog w x)
   split
   ·rename_i met hm
    have hm':probe.go t (f0 es) (hs prog w x) (10*turns t.mask) (stand.getD (t.probeStart (hs prog w x)))=some met:=hm
    rcases g with ⟨r,c⟩|⟨k,i,j,nx,r1,r2,r3,r4,r5,r6,r7⟩
    ·rw[show met=Met.empty j0 none from Option.some.inj (hm'.symm.trans r)]
     dsimp only
     refine zzb (hfree λk hk i j b e1 e2 e3 _=>c k hk i j e1 e2 ?_)
     unfold f0
     rw[e3];rfl
    ·rw[show met=Met.candidate j i nx from Option.some.inj (hm'.symm.trans r5)]
     dsimp only
     have hi:i<es.size:=by rw[<-T.sz];exact(Array.getElem?_eq_some_iff.mp r3).1
     have ei:=Array.getElem?_eq_getElem hi
     obtain⟨y,b,eb,hb⟩:=hE es[i] (Array.getElem_mem_toList hi)
     rw[eb]at ei
     have hy:hs prog w y=hs prog w x:=by have:=r4;unfold f0 at this;rw[ei]at this;exact this
     have rest:wpAny (model prog w) A (do
       let some (_,y):=es[i]? | unsupported "internal:set-entry"
       let equal <-holding [y] (eqBool y (.ref a))
       let (es',_,t') <-setState l
       if true&&equal then return .there none
       let some same:=t'.sameMemory t.moves t.mask|unsupported "set.changed-during-lookup:is-the-new-block-at-the-old-address"
       let still <-match (if same then t'.slot j else .empty)with
        | .live i'=>match es'[i']? with
         | some (_,y')=>do pure (if <-isSame y' y then some i' else none)
         | none=>pure none
        | _=>pure none
       match still with
       | none=>rule "set.search.anew";setSearchFrom l (.ref a) (hs prog w x) true fuel none
       | some i'=>if equal then return .there (some i')else setSearchFrom l (.ref a) (hs prog w x) true fuel (some nx)) Q E s:=by
      rw[ei]
      dsimp only
      refine zza (wpAny_holding (wpAny_eqBool_tuple hu hb hx ?_))
      refine zza (wpAny_setState_of ho hd T.fits ?_)
      dsimp only
      by_cases exy:y=x
      ·subst exy
       rw[if_pos (by simp)]
       exact zzb (ht ⟨b,eb▸Array.getElem_mem_toList hi,hb⟩)
      ·rw[if_neg (by simp[exy])]
       unfold SetTable.sameMemory
       rw[if_pos (by simp)]
       dsimp only
       rw[if_pos rfl,T.slot_in r3]
       dsimp only
       rw[ei]
       dsimp only
       refine zza (wpAny_isSame_ref_self (zza (zzb ?_)))
       rw[if_pos rfl]
       dsimp only
       rw[if_neg (by simp[exy])]
       refine ih (q - (k+1)) (by omega) fuel (some nx) (L.drop (k+1)) (by omega) r6 (by rw[List.getElem?_drop,show k+1+(q - (k+1))=q by omega];exact e0) (by omega) hj (λk' hk y e=>hu' (k+1+k') (by omega) y (by rw[List.getElem?_drop]at e;exact e)) λc=>hfree λk' hk i' j' b' e1 e2 e3 ti=>?_
       rcases Nat.lt_trichotomy k' k with z|z|z
       ·refine r7 k' z i' j' e1 e2 ?_
        unfold f0;rw[e3];rfl
       ·subst z
        rw[r2]at e1
        cases e1
        have:i'=i:=by
         have h1:=T.slot_in e2
         rw[T.slot_in r3]at h1
         injection h1 with h1
         exact h1.symm
        subst this
        have e4:Value.ref b=Value.ref b':=congrArg Prod.snd (Option.some.inj (ei.symm.trans e3))
        injection e4 with e4
        subst e4
        exact exy (hb.inj ti)
       ·exact c (k' - (k+1)) (by omega) i' j' b' (by rw[List.getElem?_drop,show k+1+(k' - (k+1))=k' by omega];exact e1) e2 e3 ti
     split
     ·refine zza (zcY_ hx (λv hv=>?_) ?_)
      ·obtain⟨e,he,rfl⟩:=List.mem_map.mp hv
       have:e∈es.toList:=by
        have:=Array.mem_toList_iff.mp he
        exact Array.mem_toList_iff.mpr (Array.mem_filter.mp this).1
       obtain⟨y,b,rfl,hb⟩:=hE e this
       exact⟨y,b,rfl,hb⟩
      ·rw[if_neg (by decide)]
       exact rest
     ·exact rest
   ·rename_i hm
    exfalso
    rcases g with ⟨r,c⟩|⟨k,i,j,nx,r1,r2,r3,r4,r5,r6,r7⟩
    ·exact hm _ r
    ·exact hm _ r5
end
section
variable {prog:Program}{w:World}{A:Around}{E:Value->Shared->Prop}{s:Shared}
abbrev ent(prog:Program)(w:World)(p:List Int×Addr):Int×Value:=(hs prog w p.1,Value.ref p.2)
def Sx(prog:Program)(w:World)(h:Heap)(l:Addr)(xs:List (List Int×Addr)):Prop :=
 ∃o es ep t,h.get? l=some o/\o.ExactSet/\o.data=.set es ep t/\Tb t es/\t.place.size*5<t.mask*3/\es.toList.Perm (xs.map (ent prog w))/\t.led = !w.params.followText "set-order"
def Tis(prog:Program)(w:World)(h:Heap)(xs:List (List Int×Addr)):Prop:=∀p∈xs,TI prog w h p.1 p.2
noncomputable def addX(xs:List (List Int×Addr))(p:List Int×Addr):List (List Int×Addr):=if p.1∈xs.map (·.1)then xs else xs++[p]
theorem U2_{h:Heap}{l:Addr}{o:Obj}{es es':Array (Int×Value)}{ep:Nat}{t t':SetTable}(ho:h.get? l=some o)(hd:o.data=.set es ep t):(h.update l (Obj.putSet es' t')).get? l=some { o with data:=.set es' (ep+1) t' }:=by
 have:=Heap.get?_update_self (Obj.putSet es' t') ho (by rw[putSet_of es' t' hd];rfl)
 rw[putSet_of es' t' hd]at this
 exact this
theorem grow{m n:Nat}(hm:Mk m)(h1:n*5<m*3)(h2:(n+1)*5>=m*3)(h3:n<76):∃M,sizeAbove (grown (n+1))=M+1/\Mk M/\(n+1)*5<M*3/\M+1<=128:=by
 rcases hm with rfl|rfl|rfl
 ·obtain rfl:n=4:=by omega
  exact⟨31,by decide,.inr (.inl rfl),by omega,by omega⟩
 ·obtain rfl:n=18:=by omega
  exact⟨127,by decide,.inr (.inr rfl),by omega,by omega⟩
 ·omega
theorem zeO_{l a:Addr}{xs:List (List Int×Addr)}{x:List Int}{Q:Bool->Shared->Prop}(hu:A.units<cLine)(hS:Sx prog w s.heap l xs)(hX:Tis prog w s.heap xs)(hx:TI prog w s.heap x a)(hn:xs.length<76)
  (h:∀r h',Heap.SameBut l s.heap h'->Sx prog w h' l (addX xs (x,a))->Q r { s with heap:=h' }):wpAny (model prog w) A (setAddHashed l (.ref a) (hs prog w x)) Q E s:=by
 obtain⟨o,es,ep,t,ho,hex,hd,T,hfu,hp,hled⟩:=hS
 have hlen:es.size=xs.length:=by have:=hp.length_eq;rwa [Array.length_toList,zzd]at this
 have hE:Els prog w s.heap es.toList:=λe he=>by
  obtain⟨p,hp1,rfl⟩:=List.mem_map.mp (hp.mem_iff.mp he)
  exact⟨p.1,p.2,rfl,hX p hp1⟩
 unfold setAddHashed
 refine wpAny_holding ?_
 show wpAny _ _ (setAddHashedIn l (.ref a) (hs prog w x) (99999+1)) _ _ _
 unfold setAddHashedIn
 refine zza (wpAny_setState_of ho hd T.fits ?_)
 dsimp only
 rw[show byScan (.ref a) es=false from rfl,if_neg (by decide)]
 obtain⟨k,j0,r1,r2,r3,r4⟩:=T.free (hs prog w x)
 refine zza ?_
 unfold setSearch
 refine VV_ hu ho hd T hx hE (j0:=j0) ?A k 100000 none (Rd t.mask (hs prog w x)) (by
  have:=T.km
  unfold turns at r2
  rcases this with z|z|z<;>rw[z]at r2<;>omega) (zat_ t _) r1 r2 r3 r4 ?B
 case A =>
  rintro⟨b,hb,tb⟩
  dsimp only
  have hin:x∈xs.map (·.1):=by
   obtain⟨p,hp1,hp2⟩:=List.mem_map.mp (hp.mem_iff.mp hb)
   have e4:Value.ref p.2=Value.ref b:=congrArg Prod.snd hp2
   injection e4 with e4
   have:=hX p hp1
   rw[e4]at this
   exact List.mem_map.mpr ⟨p,hp1,this.inj tb⟩
  have e:s={ s with heap:=s.heap }:=by cases s;rfl
  rw[e]
  exact zzb (h _ _ (Heap.SameBut.refl l s.heap) ⟨o,es,ep,t,ho,hex,hd,T,hfu,by unfold addX;rw[if_pos hin];exact hp,hled⟩)
 case B =>
  intro hfree
  dsimp only
  have hout:x∉xs.map (·.1):=λhin=>by
   obtain⟨p,hp1,hp2⟩:=List.mem_map.mp hin
   have hm:ent prog w p∈es.toList:=hp.mem_iff.mpr (List.mem_map.mpr ⟨p,hp1,rfl⟩)
   obtain⟨i,hi,ei⟩:=List.getElem_of_mem hm
   have ei':es[i]? = some (hs prog w x,Value.ref p.2):=by
    rw[<-Array.getElem?_toList,List.getElem?_eq_some_iff]
    exact⟨hi,by rw[ei,<-hp2]⟩
   obtain⟨k',j,m1,m2,m3⟩:=T.met r1 r3 ei' rfl
   have:=hX p hp1
   rw[hp2]at this
   exact hfree k' m1 i j p.2 m2 m3 ei' this
  have hns:t.place.size=xs.length:=by rw[T.sz,hlen]
  have hmm:t.place.size+1<=t.mask:=by
   have:=T.km
   rcases this with z|z|z<;>rw[z]at hfu ⊢ <;> omega
  obtain⟨T1,q1,q2,q3⟩:=T.put (x:=.ref a) r1 r3 r4 hmm
  have hp1:(insertAt es (t.put j0).2 (hs prog w x,Value.ref a)).toList.Perm ((xs++[(x,a)]).map (ent prog w)):=by
   refine(SetTable.insertAt_perm es _ _).trans ?_
   rw[Array.toList_push,List.map_append]
   exact hp.append (.refl _)
  refine zza (wpAny_setState_of ho hd T.fits ?_)
  dsimp only
  rw[T1.pl,if_pos rfl]
  refine zza (hbv hx ?_)
  rw[if_pos rfl]
  have hsl:(insertAt es (t.put j0).2 (hs prog w x,Value.ref a)).size<=sizeLine:=by
   rw[jc_,hlen]
   exact Nat.le_trans (show xs.length+1<=1000 by omega) (by decide)
  refine zza (wpAny_storeSet_of ho hd ?_ hsl)
  have ho1:=U2_ (es':=insertAt es (t.put j0).2 (hs prog w x,Value.ref a)) (t':=(t.put j0).1) ho hd
  have sb:=Heap.SameBut.update s.heap l (Obj.putSet (insertAt es (t.put j0).2 (hs prog w x,Value.ref a)) (t.put j0).1)
  have hfl:(t.put j0).1.tooFull=decide ((xs.length+1)*5>=t.mask*3):=by
   unfold SetTable.tooFull
   rw[T1.fill,q3,q1,hns]
  have hax:addX xs (x,a)=xs++[(x,a)]:=by unfold addX;rw[if_neg hout]
  by_cases hfull:(xs.length+1)*5>=t.mask*3
  ·rw[hfl,decide_eq_true hfull,if_pos (by decide)]
   obtain⟨M,g1,g2,g3,g4⟩:=grow T.km (by rw[<-hns];exact hfu) hfull hn
   have hsz1:(insertAt es (t.put j0).2 (hs prog w x,Value.ref a)).size=xs.length+1:=by rw[jc_,hlen]
   obtain⟨t',order,l1,l2,l3,l4,l5⟩:=zcg_ g2 (es:=insertAt es (t.put j0).2 (hs prog w x,Value.ref a)) (finger:=(t.put j0).1.finger) (moves:=(t.put j0).1.movedTo M) (led:=(t.put j0).1.led) (by rw[hsz1];omega)
   have hsz2:(order.filterMap ((insertAt es (t.put j0).2 (hs prog w x,Value.ref a))[·]?)).size=(insertAt es (t.put j0).2 (hs prog w x,Value.ref a)).size:=by have:=l3.length_eq;rwa [Array.length_toList,Array.length_toList]at this
   refine zza ?_
   unfold setRelay
   refine zza (wpAny_setState_of ho1 rfl T1.fits ?_)
   dsimp only
   rw[hlen,g1,if_neg (by have:(128:Nat)<=sizeLine:=(by decide);omega)]
   refine zza ?_
   unfold SetTable.relaid
   rw[g1,Nat.add_sub_cancel,T1.pl,l1]
   refine wpAny_of_eq (a:=(order.filterMap ((insertAt es (t.put j0).2 (hs prog w x,Value.ref a))[·]?),t')) ?_ ?_
   ·show(do
     if(order.filterMap ((insertAt es (t.put j0).2 (hs prog w x,Value.ref a))[·]?)).size != (insertAt es (t.put j0).2 (hs prog w x,Value.ref a)).size then unsupported "internal:set-table-lost-an-element"
     pure (order.filterMap ((insertAt es (t.put j0).2 (hs prog w x,Value.ref a))[·]?),t'))=_
    rw[if_neg (by rw[hsz2];simp)]
   ·dsimp only
    refine wpAny_storeSet_of ho1 rfl ?_ (by rw[hsz2];exact hsl)
    have ho2:=U2_ (es':=order.filterMap ((insertAt es (t.put j0).2 (hs prog w x,Value.ref a))[·]?)) (t':=t') ho1 rfl
    refine zzb (h _ _ (sb.trans (Heap.SameBut.update _ l _)) ⟨_,_,_,_,ho2,hex,rfl,l2,?_,?_,?_⟩)
    ·rw[l2.sz,hsz2,hsz1,l4];exact g3
    ·rw[hax];exact l3.trans hp1
    ·rw[l5,q2];exact hled
  ·rw[hfl,decide_eq_false hfull,if_neg (by decide)]
   refine zzb (h _ _ sb ⟨_,_,_,_,ho1,hex,rfl,T1,?_,?_,?_⟩)
   ·rw[q3,q1,hns];omega
   ·rw[hax];exact hp1
   ·rw[q2];exact hled
end
section
variable {prog:Program}{w:World}{A:Around}{E:Value->Shared->Prop}{s:Shared}
theorem zbr_{h h':Heap}{x:List Int}{a:Addr}(t:TI prog w h x a)(k:∀o,h.get? a=some o->h'.get? a=some o):TI prog w h' x a:=let ⟨o,i,n,e,r⟩:=t;⟨o,i,n,k o e,r⟩
theorem zdd_{h:Heap}{x:List Int}{a b:Addr}{o:Obj}(t:TI prog w h x a)(e:h.get? b=some o)(d:∀i n,o.data≠.seq i n):a≠b:=by
 rintro rfl
 obtain⟨o',i,n,e',_,ed,_⟩:=t
 cases e.symm.trans e'
 exact d i n ed
theorem Sx.ne{h:Heap}{l a:Addr}{xs:List (List Int×Addr)}{x:List Int}(S:Sx prog w h l xs)(t:TI prog w h x a):a≠l:=by
 obtain⟨o,es,ep,tb,e,_,d,_⟩:=S
 exact zdd_ t e λi n z=>by rw[d]at z;cases z
theorem Sx.kp{h h':Heap}{l:Addr}{xs:List (List Int×Addr)}(S:Sx prog w h l xs)(k:∀o,h.get? l=some o->h'.get? l=some o):Sx prog w h' l xs:=let ⟨o,es,ep,tb,e,r⟩:=S;⟨o,es,ep,tb,k o e,r⟩
theorem zfC_{h:Heap}{x:List Int}{a it p:Addr}{i:Nat}(t:TI prog w h x a)(hit:h.IsListIter it p i):a≠it:=by
 obtain⟨o,e,_,d⟩:=hit
 exact zdd_ t e λi n z=>by rw[d]at z;cases z
theorem Q0_(xs:List (List Int×Addr))(p:List Int×Addr):(addX xs p).length<=xs.length+1:=by
 unfold addX;split
 ·omega
 ·rw[zzf];exact Nat.le_refl _
theorem QZ_{xs:List (List Int×Addr)}{p q:List Int×Addr}(h:q∈addX xs p):q=p\/q∈xs:=by
 unfold addX at h
 split at h
 ·exact .inr h
 ·rcases List.mem_append.mp h with h|h
  ·exact .inr h
  ·exact .inl (List.mem_singleton.mp h)
theorem Jw_:entryFor table "set.update.loop" = some Builtin.«set.update.loop»:=entryFor_of_tree (by kernel_rfl)
theorem yM_:plainId "set.update.loop" = true:=by decide +kernel
theorem zcc_{R:Result->Shared->Prop}(hh:A.handled=none)(hu:A.units+1<cLine){l it p:Addr}{items:Array Value}(n1:l≠it)(n2:l≠p)(n3:it≠p):∀(rest:List (List Int×Addr)) (i:Nat) (s:Shared) (xs:List (List Int×Addr)),
  s.heap.IsListIter it p i->s.heap.IsList p items->items.toList.drop i=rest.map (λq=>Value.ref q.2)->Tis prog w s.heap rest->Sx prog w s.heap l xs->Tis prog w s.heap xs->xs.length+rest.length<=76 ->
  (∀h' tk,(∀b o,b≠l->b≠it->s.heap.get? b=some o->h'.get? b=some o)->Sx prog w h' l (rest.foldl addX xs)->R (.ok (.ret .none)) { s with heap:=h',toks:=tk }) ->
  codeAny (model prog w) A (.builtin "set.update.loop" ⟨[.ref l,.ref it],[]⟩) R s:=by
 intro rest
 induction rest with
 | nil =>
  intro i s xs hit hl hd _ hS _ _ hR
  refine codeAny_builtin Jw_ ?_
  rw[Around.under_plainId yM_ _]
  show wpAny _ A.in1 (pyNext (.ref it) >>= _) _ _ s
  have hx:items[i]? = none:=by
   rw[Array.getElem?_eq_none_iff,<-Array.length_toList]
   have:=congrArg List.length hd
   rw[List.length_drop,List.map_nil,List.length_nil]at this
   omega
  refine zza (wpAny_pyNext_list_end (show A.in1.handled=none from hh) hit hl hx λh' e=>?_)
  exact zzb (hR h' s.toks (λb o _ hb z=>e b o hb z) (hS.kp λo z=>e l o n1 z))
 | cons q rest ih =>
  intro i s xs hit hl hd hT hS hX hn hR
  rw[List.length_cons]at hn
  refine codeAny_builtin Jw_ ?_
  rw[Around.under_plainId yM_ _]
  show wpAny _ A.in1 (pyNext (.ref it) >>= _) _ _ s
  have hx:items[i]? = some (.ref q.2):=by
   have:=congrArg (λl=>l[0]?) hd
   simp only[List.getElem?_drop,Nat.add_zero,List.map_cons,List.getElem?_cons_zero,Array.getElem?_toList]at this
   exact this
  refine zza (wpAny_pyNext_list_item hit hl hx λh1 it1 sb1=>?_)
  dsimp only
  have hq:=hT q List.mem_cons_self
  have tk1:∀{x a},TI prog w s.heap x a->TI prog w h1 x a:=λ{x a} t=>zbr_ t λo e=>(sb1.2 a (zfC_ t hit)).trans e
  have S1:Sx prog w h1 l xs:=hS.kp λo e=>(sb1.2 l n1).trans e
  have X1:Tis prog w h1 xs:=λy hy=>tk1 (hX y hy)
  have T1:Tis prog w h1 (q::rest):=λy hy=>tk1 (hT y hy)
  have l1:h1.IsList p items:=by obtain⟨o,e,r⟩:=hl;exact⟨o,(sb1.2 p (λz=>n3 z.symm)).trans e,r⟩
  refine zza (wpAny_holding ?_)
  unfold setAdd
  refine wpAny_holding (zza (wpAny_pyHash_tuple (s:={ s with heap:=h1 }) hu (tk1 hq) ?_))
  refine zeO_ (s:={ s with heap:=h1,toks:=_ }) hu S1 X1 (tk1 hq) (by omega) λr h2 sb2 S2=>?_
  refine zzb ⟨plainId_quiet yM_ _,?_⟩
  have tk2:∀{x a},TI prog w h1 x a->TI prog w h2 x a:=λ{x a} t=>zbr_ t λo e=>(sb2.2 a (S1.ne t)).trans e
  refine ih (i+1) _ (addX xs q) (it1.at λo e=>(sb2.2 it (λz=>n1 z.symm)).trans e) (by obtain⟨o,e,r⟩:=l1;exact⟨o,(sb2.2 p (λz=>n2 z.symm)).trans e,r⟩) (by rw[<-List.drop_drop,hd];rfl) (λy hy=>tk2 (T1 y (zzg _ hy))) S2 (λy hy=>?_) (by have:=Q0_ xs q;omega) λh' tk kp S'=>?_
  ·rcases QZ_ hy with rfl|hy
   ·exact tk2 (tk1 hq)
   ·exact tk2 (X1 y hy)
  ·exact hR h' tk (λb o b1 b2 e=>kp b o b1 b2 ((sb2.2 b b1).trans ((sb1.2 b b2).trans e))) S'
end
end WS
set_option maxHeartbeats 3200000
namespace WS
open PySem PySem.SetTable
noncomputable abbrev newO(w:World):Obj:={ cls:=.type "set",dict:=none,data:=.set #[] 0 (.fresh 0 0 (!w.params.followText "set-order")) }
section
variable {prog:Program}{w:World}{A:Around}{E:Value->Shared->Prop}{s:Shared}
theorem W4_{v:Value}{Q₁:Value->Shared->Prop}(h:Q₁ (.ref s.heap.objs.size) { s with heap:=s.heap.push (newO w) }) :
  codeAny (model prog w) A (.call (.builtin "set.__new__") ⟨[.type "set",v],[]⟩) (wants Q₁ E) s:=by
 refine codeAny_of_tree ?_
 show wpAny _ A.in1 (do checkBuiltinCall "set.__new__" ⟨[.type "set",v],[]⟩;again (.builtin "set.__new__" ⟨[.type "set",v],[]⟩)) _ _ s
 refine zza (wpAny_of_eq (F.newCall_set_1 v) (zzb ⟨plainId_quiet F.plain_set_new _,codeAny_builtin F.entry_set_new ?_⟩))
 rw[Around.under_plainId F.plain_set_new _]
 unfold Builtin.«set.__new__» Builtin.Frozenset.newClass
 have hsub:=sub_set_self
 obtain⟨hp,g,d,tk,os⟩:=s
 dsimp only
 wp_walk
 refine wpAny_askSetting (zzb ?_)
 dsimp only
 simp only[newObj]
 refine zza (wpAny_alloc (zzb ?_))
 exact zzb h
theorem tb0(led:Bool):Tb (.fresh 0 0 led) #[] where
 km:=.inl rfl
 du:=rfl
 sz:=rfl
 up:=.nil
 le:=λj h=>absurd h (by simp[SetTable.fresh])
 pl:=rfl
 fu:=Nat.zero_le _
 rd:=λe j h=>absurd h (by simp)
theorem sx0{h:Heap}{l:Addr}(e:h.get? l=some (newO w)):Sx prog w h l []:=⟨_,#[],0,_,e,⟨rfl,rfl,rfl⟩,rfl,tb0 _,by show 0*5<7*3;decide,.nil,rfl⟩
theorem W7_{p:Addr}{items:Array Value}{xs:List (List Int×Addr)}{Q:Value->Shared->Prop}(hh:A.handled=none)(hu:A.units+10<cLine)(hl:s.heap.IsList p items)(hi:items.toList=xs.map (λq=>Value.ref q.2))(hx:Tis prog w s.heap xs)(hn:xs.length<=76)
  (h:∀h' tk,(∀b o,s.heap.get? b=some o->h'.get? b=some o)->Sx prog w h' s.heap.objs.size (xs.foldl addX [])->Q (.ref s.heap.objs.size) { s with heap:=h',toks:=tk }) :
  wpAny (model prog w) A (call (.type "set") [.ref p]) Q E s:=by
 obtain⟨c,tl,hmro⟩:=F.called_set.mro
 have hmade:=F.called_set.made
 have hsub:=F.called_set.sub
 refine wpAny_call (codeAny_of_tree ?_)
 show wpAny _ _ (callAny (.type "set") _) _ _ _
 refine zzb ⟨Code.quiet_builtin _ (by decide +kernel),codeAny_builtin F.entry_type_call ?_⟩
 rw[Around.under_plain (weight_type_call_type "set" [.ref p] []) rfl]
 have h1:=F.called_set.notType
 have h2:=F.called_set.canCreate
 have hct:=F.typeCall_set_1 (.ref p)
 repeat (any_goals (first|assumption|wp_step))
 refine codeAny_mono (W4_ (v:=.ref p) (E:=E) (Q₁:=λobj s₁=>obj=.ref s.heap.objs.size/\s₁={ s with heap:=s.heap.push (newO w) }) ⟨rfl,rfl⟩) λr s₁ hr=>?_
 cases r with
 | error e=>exact hr
 | ok fl =>
  cases fl with
  | ret obj =>
   obtain⟨rfl,rfl⟩:=hr
   have hS:(s.heap.push (newO w)).get? s.heap.objs.size=some (newO w):=zze _ rfl
   have hT:Shared.TypeIs { s with heap:=s.heap.push (newO w) } (.ref s.heap.objs.size) "set":=⟨_,hS,rfl⟩
   have hli:=F.called_set.init.lookup
   have hbi:=F.called_set.init.bind (.ref s.heap.objs.size)
   repeat (any_goals (first|assumption|wp_step))
   refine codeAny_mono (codeAny_call_builtin (R:=wants (λr s₂=>r=.none/\∃h' tk,s₂={ s with heap:=h',toks:=tk } /\
     Sx prog w h' s.heap.objs.size (xs.foldl addX [])/\(∀b o,s.heap.get? b=some o->h'.get? b=some o)) E) F.called_set.init.plain F.entry_set_init (check_set_init_1 hT ?_)) λr₂ s₂ hr₂=>?_
   ·obtain⟨ol,hol,hcl,nl,hdl⟩:=hl
    obtain⟨ocls,odict,odata,oslots⟩:=ol
    simp only at hcl hdl
    subst hcl;subst hdl
    have hol':(s.heap.push (newO w)).get? p=some { cls:=.type "list",dict:=odict,data:=.seq items nl,slots:=oslots }:=zzc _ hol
    have hsls:=F.sub_list_set
    have hslf:=F.sub_list_frozenset
    have hne:(Value.type "list" == Value.type "dict")=false:=by decide
    have hl1:(s.heap.push (newO w)).IsList p items:=⟨_,hol',rfl,nl,rfl⟩
    unfold Builtin.«set.__init__» noKeywords Builtin.Frozenset.updateFrom
    generalize hPI:pyIter=PI
    wp_walk
    subst hPI
    refine wpAny_pyIter_list hl1 ?_
    refine zza (wpAny_runValue ?_)
    have hlS:p<s.heap.objs.size:=Heap.lt_size hol
    have hh3:A.in1.in1.handled=none:=by simp[hh]
    refine zcc_ hh3 (by simp;omega) (it:=(s.heap.push (newO w)).objs.size) (p:=p) (items:=items) (by rw[Heap.size_push];exact Nat.ne_of_lt (Nat.lt_succ_self _)) (Nat.ne_of_gt hlS) (by rw[Heap.size_push];exact Nat.ne_of_gt (Nat.lt_succ_of_lt hlS)) xs 0 _ [] ⟨_,zze _ rfl,rfl,rfl⟩ (hl1.push _) (by rw[List.drop_zero];exact hi)
     (λy hy=>zbr_ (hx y hy) λo e=>zzc _ (zzc _ e)) (sx0 (zzc _ hS)) (λy hy=>by cases hy) (by rw[List.length_nil];omega) λh' tk kp S'=>?_
    show wpAny _ _ _ _ _ _
    refine zzb ?_
    show wpAny _ _ (ret Value.none) _ _ _
    refine zzb ⟨rfl,h',tk,rfl,S',λb o e=>?_⟩
    have hb:=Heap.lt_size e
    exact kp b o (Nat.ne_of_lt hb) (by rw[Heap.size_push];exact Nat.ne_of_lt (Nat.lt_succ_of_lt hb)) (zzc _ (zzc _ e))
   ·cases r₂ with
    | error e=>exact hr₂
    | ok fl₂ =>
     cases fl₂ with
     | ret r =>
      obtain⟨rfl,h',tk,rfl,hS',hk'⟩:=hr₂
      repeat (any_goals (first|assumption|wp_step))
      exact h _ _ hk' hS'
     | _=>exact hr₂.elim
  | _=>exact hr.elim
end
end WS
namespace WS
open PySem PySem.SetTable PyProof.Rows
theorem Ju_{α:Type}:∀(l:List α) (i:Nat) (h:i<l.length),(l[i]::l.eraseIdx i).Perm l
 | a::l,0,_=>.refl _
 | a::l,i+1,h=>by
  have:=Ju_ l i (by simpa using h)
  exact(List.Perm.swap _ _ _).trans (this.cons a)
theorem Wa_{α:Type}(next:Nat->Nat):∀(fuel k:Nat) (left:List α) (out:Array α),left.length<=fuel->(pickOrder.go next fuel k left out).toList.Perm (out.toList++left)
 | 0,k,left,out,h=>by
  have:left=[]:=List.length_eq_zero_iff.mp (by omega)
  subst this
  unfold pickOrder.go
  rw[List.append_nil]
 | fuel+1,k,left,out,h=>by
  unfold pickOrder.go
  cases left with
  | nil =>
   rw[List.getElem?_nil,List.append_nil]
  | cons a r =>
   have hi:next k % (a::r).length<(a::r).length:=Nat.mod_lt _ (by simp)
   rw[List.getElem?_eq_getElem hi]
   dsimp only
   refine(Wa_ next fuel (k+1) _ _ (by rw[List.length_eraseIdx,if_pos hi];omega)).trans ?_
   rw[Array.toList_push,List.append_assoc]
   exact List.Perm.append_left _ (Ju_ _ _ hi)
theorem V9_{α:Type}(next:Nat->Nat)(xs:Array α):(pickOrder next xs).toList.Perm xs.toList:=by
 have:=Wa_ next xs.size 0 xs.toList #[] (by rw[Array.length_toList];exact Nat.le_refl _)
 simpa[pickOrder]using this
theorem Qr_:Manifest.owners.lookup (String.ofList ['r', 'o', 't', 'a', 'r', 'e', 't', 'i', '_', 't', 'e', 's'].reverse)=some Manifest.sig_set_iterator:=by kernel_rfl
theorem slot_next:Slot "set_iterator" "__next__" "set_iterator.__next__" :=
 .of (owner := "set_iterator") (n := "__next__") (by rw[typeLookup_type,builtinLookup_eq_fast];kernel_rfl) (by decide +kernel) (by decide +kernel) (by decide +kernel)
  (by first|exact .inl (by decide +kernel)|exact .inr (by decide +kernel)) (by rw[isSubtype_type];kernel_rfl)
theorem entry_next:entryFor table "set_iterator.__next__" = some Builtin.«set_iterator.__next__»:=entryFor_of_tree (by kernel_rfl)
theorem args_next(a:Value):argsOk "set_iterator.__next__" ⟨[a],[]⟩:=by
 unfold argsOk;rw[signature?_of (id := "set_iterator.__next__") (n:=['_', '_', 't', 'x', 'e', 'n', '_', '_']) (o:=['r', 'o', 't', 'a', 'r', 'e', 't', 'i', '_', 't', 'e', 's']) (by kernel_rfl) Qr_];kernel_rfl
theorem Uq_:Slot "set_iterator" "__iter__" "set_iterator.__iter__" :=
 .of (owner := "set_iterator") (n := "__iter__") (by rw[typeLookup_type,builtinLookup_eq_fast];kernel_rfl) (by decide +kernel) (by decide +kernel) (by decide +kernel)
  (by first|exact .inl (by decide +kernel)|exact .inr (by decide +kernel)) (by rw[isSubtype_type];kernel_rfl)
theorem Vv_:entryFor table "set_iterator.__iter__" = some Builtin.«dict_keyiterator.__iter__» :=
 entryFor_alias (id' := "dict_keyiterator.__iter__") (by kernel_rfl) rfl (by decide +kernel) (by kernel_rfl)
theorem Xk_(a:Value):argsOk "set_iterator.__iter__" ⟨[a],[]⟩:=by
 unfold argsOk;rw[signature?_of (id := "set_iterator.__iter__") (n:=['_', '_', 'r', 'e', 't', 'i', '_', '_']) (o:=['r', 'o', 't', 'a', 'r', 'e', 't', 'i', '_', 't', 'e', 's']) (by kernel_rfl) Qr_];kernel_rfl
theorem Z7_:entryFor table "set.__iter__" = some Builtin.«frozenset.__iter__» :=
 entryFor_alias (id' := "frozenset.__iter__") (by kernel_rfl) rfl (by decide +kernel) (by kernel_rfl)
section
variable {prog:Program}{w:World}{A:Around}{E:Value->Shared->Prop}{s:Shared}{l it:Addr}{o:Obj}{es:Array (Int×Value)}{ep:Nat}{t:SetTable}
noncomputable def byT(w:World):Bool:=w.params.followText "set-order"
def wl(w:World)(l:Addr)(ep:Nat)(es:Array (Int×Value)):Array (Int×Value):=if byT w then pickOrder (w.params.setOrder l ep) es else es
theorem wl_perm:(wl w l ep es).toList.Perm es.toList:=by
 unfold wl
 split
 ·exact V9_ _ _
 ·exact .refl _
theorem YF_:(wl w l ep es).size=es.size:=by have:=(wl_perm (w:=w) (l:=l) (ep:=ep) (es:=es)).length_eq;rwa [Array.length_toList,Array.length_toList]at this
def sl(w:World)(t:SetTable):Nat->Nat
 | 0=>0
 | i+1=>if byT w then 0 else t.place.getD i 0+1
theorem XD_(T:Tb t es)(hb:byT w=false){i:Nat}(hi:i<=es.size):below t.place (sl w t i)=i:=by
 cases i with
 | zero=>exact zcM_ T.up
 | succ i =>
  unfold sl
  rw[hb]
  have h:i<t.place.size:=by rw[T.sz];omega
  refine VC_ T.up ?_
  rw[Array.getD_eq_getD_getElem?,Array.getElem?_eq_getElem h];rfl
theorem VT_{Q:Bool->Shared->Prop}(h:Q (byT w) s):wpAny (model prog w) A setsByText Q E s:=zza (wpAny_askSetting (zzb h))
theorem zeG_{Q:Bool->Shared->Prop}(ho:s.heap.get? l=some o)(hd:o.data=.set es ep t)(T:Tb t es)(h:Q false s):wpAny (model prog w) A (setDrawn l) Q E s:=by
 unfold setDrawn
 refine zza (wpAny_setState_of ho hd T.fits (zza (VT_ (zzb ?_))))
 show Q (!byT w&&(!t.plain&&decide (es.size>1))) s
 rw[T.pl,Bool.not_true,Bool.false_and,Bool.and_false]
 exact h
theorem zfy_{i:Nat}{Q:Option (Value×Nat)->Shared->Prop}(ho:s.heap.get? l=some o)(hd:o.data=.set es ep t)(T:Tb t es)(hled:t.led = !byT w)(hi:i<=es.size)
  (h:Q ((wl w l ep es)[i]?.map λe=>(e.2,sl w t (i+1))) s):wpAny (model prog w) A (setNext l (sl w t i) i ep) Q E s:=by
 unfold setNext
 refine zza (wpAny_setState_of ho hd T.fits (zza (VT_ ?_)))
 cases hb:byT w with
 | true =>
  rw[if_pos rfl]
  dsimp only
  rw[if_neg (by simp)]
  unfold setWalk
  refine zza (zza (wpAny_setState_of ho hd T.fits (zza (VT_ ?_))))
  rw[hb,if_pos rfl]
  refine zza (wpAny_askSetting (zzb (zzb ?_)))
  have e0:∀k,sl w t k=0:=λk=>by
   cases k with
   | zero=>rfl
   | succ k =>
    show(if byT w then 0 else t.place.getD k 0+1)=0
    rw[hb];rfl
  have e1:sl w t i=sl w t (i+1):=(e0 _).trans (e0 _).symm
  unfold wl at h
  rw[hb,if_pos rfl]at h
  rw[e1]
  exact h
 | false =>
  rw[if_neg (by decide)]
  dsimp only
  refine(show wpAny _ _ (if(!t.plain&&decide (es.size>1))=true then _ else _) _ _ _ from ?_)
  rw[if_neg (show ¬ ((!t.plain&&decide (es.size>1))=true) by rw[T.pl];simp)]
  refine zza ?_
  show wpAny _ _ (if(!t.led && !es.isEmpty)=true then unsupported "set:maker-not-led" else pure ()) _ _ s
  rw[if_neg (by rw[hled,hb];simp)]
  refine zzb ?_
  rw[XD_ T hb hi]
  refine zzb ?_
  unfold wl at h
  rw[hb,if_neg (by decide)]at h
  by_cases hs:i<es.size
  ·have h2:i<t.place.size:=by rw[T.sz];exact hs
   rw[Array.getElem?_eq_getElem hs,Array.getElem?_eq_getElem h2]
   rw[Array.getElem?_eq_getElem hs]at h
   have:sl w t (i+1)=t.place[i]+1:=by
    show(if byT w then 0 else t.place.getD i 0+1)=_
    rw[hb,if_neg (by decide),Array.getD_eq_getD_getElem?,Array.getElem?_eq_getElem h2];rfl
   rw[Option.map_some,this]at h
   exact h
  ·rw[Array.getElem?_eq_none (by omega),Array.getElem?_eq_none (by rw[T.sz];omega)]
   rw[Array.getElem?_eq_none (by omega)]at h
   exact h
end
section
variable {prog:Program}{w:World}{A:Around}{E:Value->Shared->Prop}{s:Shared}{l it:Addr}{o:Obj}{es:Array (Int×Value)}{ep:Nat}{t:SetTable}
def itO(w:World)(l:Addr)(t:SetTable)(n ep i:Nat):Obj:={ cls:=.type "set_iterator",data:=.fields #[.int (sl w t i) 0,.int i 0,.ref l,.int n 0,.int ep 0] }
def IsSI(w:World)(h:Heap)(it l:Addr)(t:SetTable)(n ep i:Nat):Prop:=∃o,h.get? it=some o/\o.cls=.type "set_iterator" /\ o.data=.fields #[.int (sl w t i) 0,.int i 0,.ref l,.int n 0,.int ep 0]
theorem IsSI.ty{n i:Nat}(x:IsSI w s.heap it l t n ep i):s.TypeIs (.ref it) "set_iterator":=let ⟨o,e,c,_⟩:=x;⟨o,e,c⟩
theorem IsSI.kp{h h':Heap}{n i:Nat}(x:IsSI w h it l t n ep i)(k:∀o,h.get? it=some o->h'.get? it=some o):IsSI w h' it l t n ep i:=let ⟨o,e,r⟩:=x;⟨o,k o e,r⟩
theorem zeu_{Q:Value->Shared->Prop}(ho:s.heap.get? l=some o)(hex:o.ExactSet)(hd:o.data=.set es ep t)(T:Tb t es)(q:Q (.ref s.heap.objs.size) { s with heap:=s.heap.push (itO w l t es.size ep 0) }) :
  wpAny (model prog w) A (pyIter (.ref l)) Q E s:=by
 have hT:s.TypeIs (.ref l) "set":=⟨o,ho,hex.1⟩
 refine wpAny_pyIter_slot hT F.slot_set_iter (wpAny_call_entry F.slot_set_iter hT Z7_ ?_ (F.args_set_iter_1 _))
 unfold Builtin.«frozenset.__iter__»
 refine(show wpAny (model prog w) _ (Builtin.Frozenset.sizeOf l >>= _) _ _ s from ?_)
 unfold Builtin.Frozenset.sizeOf
 refine zza (zza (wpAny_setEntries_of ho hd T.fits (zzb (zza (zeG_ ho hd T ?_)))))
 rw[if_neg (by decide)]
 refine zza (zzb (zza (wpAny_setEpoch_of ho hd T.fits (zza (wpAny_newObj_type (zzb ⟨_,rfl, "set_iterator",_,⟨_,zze _ rfl,rfl⟩,slot_next.lookup,?_⟩))))))
 simpa[rawInt,itO,sl]using q
theorem zaT_{i:Nat}{Q:Option Value->Shared->Prop}(hit:IsSI w s.heap it l t es.size ep i)(ho:s.heap.get? l=some o)(hd:o.data=.set es ep t)(T:Tb t es)(hled:t.led = !byT w)(hi:i<=es.size)
  (q1:∀(h:i<(wl w l ep es).size) (h':Heap),IsSI w h' it l t es.size ep (i+1)->Heap.SameBut it s.heap h'->Q (some (wl w l ep es)[i].2) { s with heap:=h' })
  (q2:es.size<=i->A.handled=none/\∀h',Heap.ExtBut it s.heap h'->Q none { s with heap:=h' }):wpAny (model prog w) A (pyNext (.ref it)) Q E s:=by
 obtain⟨oi,hoi,hc,hdi⟩:=id hit
 have hTi:=hit.ty
 unfold pyNext
 refine zza (wpAny_attempt (wpAny_callSpecial?_slot (name:=Str.ofString "__next__") hTi slot_next (wpAny_call_entry slot_next hTi entry_next ?_ (args_next _))))
 unfold Builtin.«set_iterator.__next__»
 refine(show wpAny (model prog w) _ (fieldsOf (.ref it) >>= _) _ _ s from zza (wpAny_fieldsOf hoi hdi ?_))
 dsimp only
 refine zza (wpAny_setEntries_of ho hd T.fits ?_)
 rw[if_neg (by simp)]
 rw[Int.toNat_natCast,Int.toNat_natCast,Int.toNat_natCast]
 refine zza (zfy_ ho hd T hled hi ?_)
 by_cases hw:i<(wl w l ep es).size
 ·rw[Array.getElem?_eq_getElem hw]
  dsimp only[Option.map_some]
  refine zza (wpAny_setField hoi hdi (by simp) ?_)
  have h1:=Heap.get?_update_self (h:=s.heap) (Obj.mapFields (·.setIfInBounds 0 (rawInt (sl w t (i+1))))) hoi (Obj.isFreed_of_fields (Obj.data_mapFields hdi _))
  have d1:(Obj.mapFields (·.setIfInBounds 0 (rawInt (sl w t (i+1)))) oi).data=.fields #[.int (sl w t (i+1)) 0,.int i 0,.ref l,.int es.size 0,.int ep 0]:=by rw[Obj.data_mapFields hdi];simp[rawInt]
  refine zza (wpAny_setField h1 d1 (by simp) ?_)
  refine zzb ⟨_,rfl,zzb (q1 hw _ ⟨_,Heap.get?_update_self _ h1 (Obj.isFreed_of_fields (Obj.data_mapFields d1 _)),(Obj.cls_mapFields ..).trans ((Obj.cls_mapFields ..).trans hc),by rw[Obj.data_mapFields d1];simp[rawInt]⟩ ((Heap.SameBut.update ..).trans (Heap.SameBut.update ..)))⟩
 ·rw[Array.getElem?_eq_none (by omega)]
  obtain⟨hh,q⟩:=q2 (by rw[YF_]at hw;omega)
  dsimp only[Option.map_none]
  refine zza (wpAny_setField hoi hdi (by simp) ?_)
  refine(show wpAny (model prog w) _ (newExc (.type "StopIteration") [] >>= _) _ _ _ from zza ?_)
  simp only[newExc,newTuple]
  refine zza (wpAny_newObj_type ?_ (by size_fits))
  refine zza (m:=firstArgMember _ _) (wpAny_of_eq (a:=Value.none) (by first|rfl|(simp only[firstArgMember];rfl)) ?_)
  refine wpAny_newObj_type ?_ (by size_fits)
  simp only[raiseNew]
  refine zza (wpAny_handled ?_)
  rw[show A.in1.handled=none from hh]
  refine zza (zzb (wpAny_throw ?_))
  refine zza (wpAny_isInstance (T := "StopIteration") (b:=true) (by exact⟨_,zze _ rfl,rfl⟩) isSubtype_stop ?_)
  exact zzb (q _ (((Heap.SameBut.update ..).extBut.push _).push _))
theorem zag_{Q:Bool->Shared->Prop}(hT:s.TypeIs (.ref l) "set")(h:Q false s):wpAny (model prog w) A (Builtin.List.listLengthHint (.ref l)) Q E s:=by
 unfold Builtin.List.listLengthHint
 refine zza (wpAny_specialOf hT PySem.F.slot_set_len.lookup ?_)
 generalize hid:("set.__len__" : String)=id0
 wp_delta
 rw[show splitId id0=some ("set", "__len__")from by subst hid;decide +kernel]
 subst hid
 refine zza (wpAny_isInstance (T := "set") (b:=true) hT (by rw[isSubtype_type];kernel_rfl) ?_)
 refine wpAny_ite_split (λhab=>absurd hab (by decide)) (λ_=>?_)
 refine wpAny_ite_split (λ_=>?_) (λhab=>absurd (by decide +kernel) hab)
 refine zza (wpAny_typeOf hT ?_)
 exact zzb h
theorem zbu_(hex:o.ExactSet)(hd:o.data=.set es ep t)(T:Tb t es)(hled:t.led = !byT w):PySem.W.KdlSrc prog w "set" l l es.size (λi v=>∃e,(wl w l ep es)[i]? = some e/\v=e.2) (λh=>h.get? l=some o) where
 type:=λ_ x=>⟨o,x,hex.1⟩
 there:=λh x=>⟨Heap.lt_size x,Heap.lt_size x⟩
 keep:=λ_ _ x k=>k l (.inl rfl) o x
 notList:=by decide
 notTuple:=by decide
 hint:=λ_ _ _ _ x q=>zag_ ⟨o,x,hex.1⟩ q
 iter:=λA s hh x=>by
  have hne:l≠s.heap.objs.size:=Nat.ne_of_lt (Heap.lt_size x)
  refine⟨_,λi h=>IsSI w h s.heap.objs.size l t es.size ep i/\h.get? l=some o,λE Q q=>zeu_ x hex hd T q,⟨?_,?_,?_,?_,?_⟩,⟨_,zze _ rfl,rfl,rfl⟩,zzc _ x⟩
  ·intro b hb
   rw[List.mem_singleton.mp hb]
   exact List.mem_cons_self
  ·intro i h h' st k
   exact⟨st.1.kp λo e=>k _ List.mem_cons_self o e,k l (by simp) o st.2⟩
  ·intro i s1 Q E hi st q
   refine zaT_ st.1 st.2 hd T hled (by omega) (λhi h' a1 a2=>q _ h' s1.toks ⟨_,Array.getElem?_eq_getElem hi,rfl⟩ ⟨a1,a2.extBut l o hne st.2⟩ λb o hb e=>a2.extBut b o (λz=>hb (by simp[z])) e) λz=>absurd hi (by lia)
  ·intro s1 Q E st q
   exact zaT_ st.1 st.2 hd T hled (Nat.le_refl _) (λhi=>absurd hi (by rw[YF_];exact Nat.lt_irrefl _)) λ_=>⟨hh,λh' a=>q h' s1.toks λb o hb e=>a b o (λz=>hb (by simp[z])) e⟩
  ·intro i s1 Q E st q
   refine wpAny_pyIter_slot st.1.ty Uq_ (wpAny_call_entry Uq_ st.1.ty Vv_ ?_ (Xk_ _))
   show wpAny _ _ (ret (.ref _)) _ _ s1
   exact zzb ⟨_,rfl, "set_iterator",_,st.1.ty,slot_next.lookup,q⟩
end
end WS
namespace L4
open PySem PySem.Spec PyProof.Rows L2 L3 TS WS
noncomputable def tupD(k:List Int):D:=.tuple (k.map .int)
noncomputable def SW(X:Cx)(l:Addr)(zs:List (List Int×Addr)):HO:=.ext λh=>Sx X.prog X.w h l zs
def RT(K:Fg)(F:Hp)(zs:List (List Int×Addr)):Prop:=∀p∈zs,Rep K F (.ref p.2) (tupD p.1)
noncomputable def setOk(ds:List D):Bool:=decide (ds.length<64)&&ds.all y0_
noncomputable def dedK(acc:List D)(d:D):List D:=if keyD d∈acc.map keyD then acc else acc++[d]
def dedD(ds:List D):List D:=ds.foldl dedK []
def fSet:List D->Option (List D)
 | [.list ds]=>if setOk ds then some (ur_ (dedD ds))else none
 | _=>none
def rSet(X:Cx):List V->Hp->VK->Prop:=λxs H Q=>∃(G:Gh) (F:Hp) (σ:L2.St) (ρ:En) (x:V) (ds:List D),xs=[x]/\StOk X.K G F σ H ρ/\OR X.K F H x (.list ds)/\setOk ds=true /\
 ∀l zs,H l=none->RT X.K F zs->zs.map (λp=>tupD p.1)=ds->Q (.ref l) (upd H l (SW X l (zs.foldl addX [])))
theorem yq_(k:List Int):keyD (tupD k)=k:=by
 show(intsOf (k.map PyData.int)).getD []=k
 rw[yR_];rfl
theorem ZG_{K:Fg}{F:Hp}{prog:Program}{w:World}:∀{vs:List V} {k:List Int} {us:List Value},RepL K F vs (k.map .int)->Vals vs us->ItemsAre (intKind prog w) k us
 | [],k,us,r,v=>by
  cases k with
  | nil=>cases v;exact .nil
  | cons _ _=>cases r
 | x::vs,k,us,r,v=>by
  cases k with
  | nil=>cases r
  | cons i k =>
   cases r with
   | cons a b =>
    have e:=a.int_inv
    subst e
    cases v with
    | cons c d =>
     obtain⟨t,rfl⟩:=c
     exact .cons (intKind_is _ _ _ _) (ZG_ b d)
theorem zcV_{X:Cx}{pins:List (Addr×Obj)}{σ σ':L2.St}{H F:Hp}{s:Shared}{G:Gh}{ρ:En}(I:Inv X pins σ H s)(S:StOk X.K G F σ' H ρ):∀{vs:List V} {ds:List D} {us:List Value},RepL X.K F vs ds->Vals vs us->ds.all y0_=true ->
  ∃zs:List (List Int×Addr),RT X.K F zs/\zs.map (λp=>tupD p.1)=ds/\us=zs.map (λp=>Value.ref p.2)/\Tis X.prog X.w s.heap zs
 | [],ds,us,r,v,_=>by
  cases r;cases v
  exact⟨[],(λp h=>nomatch h),rfl,rfl,λp h=>nomatch h⟩
 | x::vs,ds,us,r,v,h=>by
  cases r with
  | @cons _ d _ ds a b =>
   cases v with
   | cons c e =>
    rw[List.all_cons,Bool.and_eq_true]at h
    obtain⟨n,q,rfl⟩:=jX_ h.1
    obtain⟨ad,ws,rfl,f1,f2⟩:=a.tup_inv
    obtain⟨zs,z1,z2,z3,z4⟩:=zcV_ I S b e h.2
    cases c
    obtain⟨its,rv,⟨o,e1,e2,m,e3⟩,_⟩:=I.tuple (.inl (.inl (S.fh _ _ f1)))
    refine⟨(n::q,ad)::zs,λp hp=>?_,?_,?_,λp hp=>?_⟩
    ·rcases List.mem_cons.mp hp with rfl|hp
     ·exact a
     ·exact z1 p hp
    ·rw[List.map_cons,z2];rfl
    ·rw[List.map_cons,<-z3]
    ·rcases List.mem_cons.mp hp with rfl|hp
     ·exact⟨o,its.toArray,m,e1,e2,e3,ZG_ f2 rv⟩
     ·exact z4 p hp
theorem zao_{X:Cx}(hc:X.calm=true)(hu:X.A.units+1100<cLine):CallR X (.type "set") (rSet X):=by
 intro pins s σ H xs us Q I r h0
 obtain⟨G,F,σ',ρ,x,ds,rfl,S,ho,hok,k⟩:=h0
 obtain⟨u,rfl,ru⟩:=L2.Vals.one r
 unfold setOk at hok
 rw[Bool.and_eq_true,zzi]at hok
 obtain⟨a,vs,rfl,h1,h2⟩:=ho.list S.fh
 cases ru
 obtain⟨its,rv,pl,hz⟩:=I.list h1
 obtain⟨o,e1,e2,n,e3⟩:=pl.isList
 obtain⟨zs,z1,z2,z3,z4⟩:=zcV_ I S h2 rv hok.2
 have hl:zs.length=ds.length:=by rw[<-z2,zzd]
 refine W7_ (p:=a) (items:=its.toArray) (xs:=zs) (I.ok.hd hc) (by omega) ⟨o,e1,e2,n,e3⟩ z3 z4 (by omega) λh' tk kp S'=>?_
 refine⟨.ref s.heap.objs.size,upd H s.heap.objs.size (SW X s.heap.objs.size (zs.foldl addX [])),I.laid (t':=tk) kp (Nat.le_refl _) ⟨S',?_,λh1 h2 p q=>p.kp q⟩,rfl,k _ zs (I.hok.fresh (Nat.le_refl _)) z1 z2⟩
 obtain⟨o',_,_,_,e,_⟩:=S'
 exact⟨o',e⟩
theorem JQ_{α β:Type}{f:α->β}:∀{l:List β} {zs:List α},l.Perm (zs.map f)->∃zs':List α,zs'.Perm zs/\l=zs'.map f
 | [],zs,h=>by
  have:zs=[]:=by have:=h.length_eq;rw[zzd]at this;exact List.length_eq_zero_iff.mp this.symm
  subst this
  exact⟨[],.refl _,rfl⟩
 | x::l,zs,h=>by
  obtain⟨z,hz,rfl⟩:=List.mem_map.mp (h.mem_iff.mp List.mem_cons_self)
  obtain⟨as,bs,rfl⟩:=List.append_of_mem hz
  have h2:(f z::l).Perm (f z::(as++bs).map f):=h.trans (by rw[List.map_append,List.map_cons,List.map_append];exact List.perm_middle)
  obtain⟨zs',p1,p2⟩:=JQ_ h2.cons_inv
  exact⟨z::zs',(p1.cons z).trans List.perm_middle.symm,by rw[List.map_cons,p2]⟩
theorem YI_{a b:List D}(p:a.Perm b)(h:∀d∈b,y0_ d=true):ur_ a=ur_ b:=by
 have pm:(ur_ a).Perm (ur_ b):=((jb_ a).trans p).trans (jb_ b).symm
 refine uJ_ (R:=λx y=>leK x y=true) (λx hx y hy h1 h2=>?_) pm (jJ_ a) (jJ_ b)
 obtain⟨n,r,rfl⟩:=jX_ (h x ((jb_ b).mem_iff.mp hx))
 obtain⟨n',r',rfl⟩:=jX_ (h y ((jb_ b).mem_iff.mp hy))
 unfold leK at h1 h2
 rw[Bool.not_eq_true']at h1 h2
 have:=UX_ h2 h1
 rw[show keyD (.tuple ((n::r).map PyData.int))=n::r from yq_ _,show keyD (.tuple ((n'::r').map PyData.int))=n'::r' from yq_ _]at this
 rw[this]
def zfg_(X:Cx):List V->Hp->VK->Prop:=λxs H Q=>∃(G:Gh) (F:Hp) (σ:L2.St) (ρ:En) (l:Addr) (zs:List (List Int×Addr)),xs=[.ref l]/\StOk X.K G F σ H ρ/\H l=some (SW X l zs)/\RT X.K F zs/\setOk (zs.map λp=>tupD p.1)=true /\
 ∀l vs,H l=none->RepL X.K F vs (ur_ (zs.map λp=>tupD p.1))->Q (.ref l) (upd H l (.lst vs))
theorem zac_{es:Array (Int×Value)}{acc:Array Value}(h:ItemsOf (λi v=>∃e,es[i]? = some e/\v=e.2) acc es.size):acc.toList=es.toList.map (·.2):=by
 apply List.ext_getElem?
 intro j
 rw[Array.getElem?_toList,List.getElem?_map,Array.getElem?_toList]
 cases q:acc[j]? with
 | some v =>
  obtain⟨e,e1,rfl⟩:=h.2 j v q
  rw[e1];rfl
 | none =>
  have:es.size<=j:=by rw[<-h.1];exact Array.getElem?_eq_none_iff.mp q
  rw[Array.getElem?_eq_none this];rfl
theorem VY_{K:Fg}{F:Hp}:∀{zs:List (List Int×Addr)},RT K F zs->RepL K F (zs.map λp=>V.ref p.2) (zs.map λp=>tupD p.1)
 | [],_=>.nil
 | p::zs,h=>.cons (h p List.mem_cons_self) (VY_ λq hq=>h q (zzg _ hq))
theorem VX_:∀(zs:List (List Int×Addr)),Vals (zs.map λp=>V.ref p.2) (zs.map λp=>Value.ref p.2)
 | []=>.nil
 | p::zs=>.cons rfl (VX_ zs)
theorem Vy_{X:Cx}(hc:X.calm=true):CallR X (.builtin "sorted") (zfg_ X):=by
 intro pins s σ H xs us Q I r h0
 obtain⟨G,F,σ',ρ,l,zs,rfl,S,hl,rt,hok,k⟩:=h0
 obtain⟨u,rfl,ru⟩:=L2.Vals.one r
 cases ru
 obtain⟨⟨o,es,ep,t,ho,hex,hd,T,_,hp,hled⟩,_,_⟩:=I.hok l _ hl
 unfold setOk at hok
 rw[Bool.and_eq_true,zzi]at hok
 have hlen:es.size=zs.length:=by have:=hp.length_eq;rwa [Array.length_toList,zzd]at this
 have hz:es.size<=sizeLine:=by
  rw[zzd]at hok
  exact Nat.le_trans (show es.size<=1000 by omega) (by decide)
 refine yL_ λE' Q' q=>QN_ (zbu_ hex hd T hled) (I.ok.hd hc) ho hz λh' tk acc kp it=>q _ _ ?_
 have I2:Inv X pins σ H { s with heap:=h',toks:=tk }:=I.kept (t':=tk) kp
 have it':ItemsOf (λi v=>∃e,(wl X.w l ep es)[i]? = some e/\v=e.2) acc (wl X.w l ep es).size:=by rw[YF_];exact it
 obtain⟨zs',p1,p2⟩:=JQ_ (wl_perm.trans hp)
 have ea:acc.toList=zs'.map λp=>Value.ref p.2:=by
  rw[zac_ it',p2,List.map_map];rfl
 have rt':RT X.K F zs':=λp hp=>rt p (p1.mem_iff.mp hp)
 have pd:(zs'.map λp=>tupD p.1).Perm (zs.map λp=>tupD p.1):=p1.map _
 refine Zj_ I2 S (VY_ rt') (by rw[ea];exact VX_ zs') (by rw[zzd,p1.length_eq,<-hlen];exact hz) ?_ λl vs hl rp=>k l vs hl ?_
 ·unfold j5_
  have:(zs'.map λp=>tupD p.1).all y0_=true:=by
   rw[List.all_eq_true]
   intro d hd'
   exact List.all_eq_true.mp hok.2 d (pd.mem_iff.mp hd')
  rw[this,Bool.or_true,Bool.and_true,zzi,pd.length_eq]
  exact hok.1
 ·rw[<-YI_ pd (λd hd'=>List.all_eq_true.mp hok.2 d hd')]
  exact rp
theorem Q1_:∀(zs acc:List (List Int×Addr)),(zs.foldl addX acc).map (λp=>tupD p.1)=(zs.map λp=>tupD p.1).foldl dedK (acc.map λp=>tupD p.1)
 | [],acc=>rfl
 | z::zs,acc=>by
  rw[List.foldl_cons,List.map_cons,List.foldl_cons,Q1_ zs]
  congr 1
  unfold addX dedK
  have e:(acc.map λp=>tupD p.1).map keyD=acc.map (·.1):=by
   rw[List.map_map]
   exact List.map_congr_left λp _=>yq_ p.1
  rw[e,yq_]
  split
  ·rfl
  ·rw[List.map_append];rfl
theorem J5_:∀(zs acc:List (List Int×Addr)) (p:List Int×Addr),p∈zs.foldl addX acc->p∈acc\/p∈zs
 | [],acc,p,h=>.inl h
 | z::zs,acc,p,h=>by
  rcases J5_ zs (addX acc z) p h with h|h
  ·rcases QZ_ h with rfl|h
   ·exact .inr List.mem_cons_self
   ·exact .inl h
  ·exact .inr (zzg _ h)
theorem QH_:∀(zs acc:List (List Int×Addr)),(zs.foldl addX acc).length<=acc.length+zs.length
 | [],acc=>Nat.le_refl _
 | z::zs,acc=>by
  have h1:=QH_ zs (addX acc z)
  have h2:=Q0_ acc z
  rw[List.foldl_cons,List.length_cons]
  omega
theorem JE_{X:Cx}{e:Expr}{ps:Pa (List D)}{p p2 pos pos2:Pos}(hc:X.calm=true)(hu:X.A.units+1100<cLine)(hg:Gl X "sorted")(hm:X.mg "sorted" = none)(hg2:Gl X "set")(hm2:X.mg "set" = none)(ha:AAo X [e] ps)
  (he:starEach [.Call (.Name "set" p2) [e] [] pos2] X.env=[(false,eval (.Call (.Name "set" p2) [e] [] pos2) X.env)]) (he2:starEach [e] X.env=[(false,eval e X.env)]):AL X (.Call (.Name "sorted" p) [.Call (.Name "set" p2) [e] [] pos2] [] pos) (UE_ fSet ps) :=
 λG F σ H ρ Q S w=>sem (uS_ (Vy_ hc) hg hm (by decide +kernel) (yg_ (yw_ (zao_ hc hu) hg2 hm2 (by decide +kernel) ji_ (by decide) (by decide) he2 rfl) UD_ he) (by decide) (by decide) he rfl) (ha G F σ H ρ _ _ _ S w λds xs F1 H1 s1 S1 hx w1=>by
  obtain⟨res,er,k⟩:=w1.opt
  have hx':=hx.ors S1
  unfold fSet at er
  split at er
  ·rename_i es
   split at er
   ·rename_i hok
    cases er
    obtain⟨v,r,rfl,ho,hr⟩:=zN_ hx'
    obtain rfl:=jg_ hr
    refine⟨G,F1,σ,ρ,v,es,rfl,S1,ho,hok,λl zs hl rt ez=>?_⟩
    have S2:StOk X.K G F1 σ (upd H1 l (SW X l (zs.foldl addX []))) ρ:=S1.lay hl
    have ed:(zs.foldl addX []).map (λp=>tupD p.1)=dedD es:=by rw[Q1_,ez];rfl
    unfold setOk at hok
    rw[Bool.and_eq_true,zzi]at hok
    refine⟨G,F1,σ,ρ,l,zs.foldl addX [],rfl,S2,jA_,λp hp=>?_,?_,λl2 vs hl2 rp=>?_⟩
    ·rcases J5_ zs [] p hp with h|h
     ·cases h
     ·exact rt p h
    ·unfold setOk
     rw[Bool.and_eq_true,zzi,zzd,List.all_eq_true]
     refine⟨?_,λd hd=>?_⟩
     ·have:=QH_ zs []
      rw[<-ez,zzd]at hok
      rw[List.length_nil]at this
      omega
     ·obtain⟨q,hq,rfl⟩:=List.mem_map.mp hd
      rcases J5_ zs [] q hq with h|h
      ·cases h
      ·exact List.all_eq_true.mp hok.2 _ (by rw[<-ez];exact List.mem_map.mpr ⟨q,h,rfl⟩)
    ·rw[ed]at rp
     obtain⟨S3,r3⟩:=S2.newLst hl2 rp
     exact k F1 _ (Same.refl _) S3 _ r3
   ·cases er
  ·cases er)
end L4
namespace L4
open PySem PySem.Spec PyProof.Rows L2 L3
theorem lenS{α:Type}{us:List α}{n:Nat}(h:us.length=n+1):∃a r,us=a::r/\r.length=n:=by
 cases us with
 | nil=>exact absurd h (Nat.succ_ne_zero n).symm
 | cons a r=>exact⟨a,r,rfl,Nat.succ.inj h⟩
theorem len1{α:Type}{us:List α}(h:us.length=1):∃a0,us=[a0]:=by
 obtain⟨a0,r,rfl,h0⟩:=lenS h
 obtain rfl:=List.eq_nil_of_length_eq_zero h0
 exact⟨a0,rfl⟩
theorem len2{α:Type}{us:List α}(h:us.length=2):∃a0 a1,us=[a0,a1]:=by
 obtain⟨a0,r,rfl,h0⟩:=lenS h
 obtain⟨a1,rfl⟩:=len1 h0
 exact⟨a0,a1,rfl⟩
theorem len3{α:Type}{us:List α}(h:us.length=3):∃a0 a1 a2,us=[a0,a1,a2]:=by
 obtain⟨a0,r,rfl,h0⟩:=lenS h
 obtain⟨a1,a2,rfl⟩:=len2 h0
 exact⟨a0,a1,a2,rfl⟩
theorem bnd1{K:Fg}{x qual:Str}{st:Stmt}{f:Addr}{fd:FuncData}{p0:Str}(F:Fun K x qual st f fd)
  (h:∀(kV doc pm:Value) (an:Option Addr) (cdv ct:Value) (u0:Value),bindArgs (PySem.W.fnOf x qual (zv_ st) (zs_ st) (ze_ st) .none kV doc pm an cdv ct) ⟨[u0],[]⟩=pure (List.zip [p0] [u0])):Binds K fd [p0] [] :=
 F.binds λa b c d e g us hl=>by obtain⟨u0,rfl⟩:=len1 hl;exact h a b c d e g u0
theorem bnd2{K:Fg}{x qual:Str}{st:Stmt}{f:Addr}{fd:FuncData}{p0 p1:Str}(F:Fun K x qual st f fd)
  (h:∀(kV doc pm:Value) (an:Option Addr) (cdv ct:Value) (u0 u1:Value),bindArgs (PySem.W.fnOf x qual (zv_ st) (zs_ st) (ze_ st) .none kV doc pm an cdv ct) ⟨[u0,u1],[]⟩=pure (List.zip [p0,p1] [u0,u1])):Binds K fd [p0,p1] [] :=
 F.binds λa b c d e g us hl=>by obtain⟨u0,u1,rfl⟩:=len2 hl;exact h a b c d e g u0 u1
theorem bnd3{K:Fg}{x qual:Str}{st:Stmt}{f:Addr}{fd:FuncData}{p0 p1 p2:Str}(F:Fun K x qual st f fd)
  (h:∀(kV doc pm:Value) (an:Option Addr) (cdv ct:Value) (u0 u1 u2:Value),bindArgs (PySem.W.fnOf x qual (zv_ st) (zs_ st) (ze_ st) .none kV doc pm an cdv ct) ⟨[u0,u1,u2],[]⟩=pure (List.zip [p0,p1,p2] [u0,u1,u2])):Binds K fd [p0,p1,p2] [] :=
 F.binds λa b c d e g us hl=>by obtain⟨u0,u1,u2,rfl⟩:=len3 hl;exact h a b c d e g u0 u1 u2
section
variable {S:Type}{X:Cx}{e:Expr}{es:List Expr}{ms:Ev S (List D)}{pos:Pos}
theorem Xu_{x:Str}{p:Pos}{id:String}{r:List V->Hp->VK->Prop}{f:List D->Option (List D)}(hc:CallR X (.builtin id) r)(hf:Qc_ X.K r f)(hg:Gl X x)(hm:X.mg x=none)(hv:bootBuiltins x=some (.builtin id))(ha:AEa X (e::es) ms)
  (hn:x ≠ "__name__") (hdb:(x==("__debug__" : Str))=false) (he:starEach (e::es) X.env=(false,eval e X.env)::starEach es X.env) (hpl:(backTo pos (starEach es X.env)).any (·.1)=false):AEl X (.Call (.Name x p) (e::es) [] pos) (zbf_ f ms) :=
 λOK y k G F σ H ρ Q hO hX St ok kk=>sem (uS_ hc hg hm hv ji_ hn hdb he hpl) (ha OK y _ G F σ H ρ _ hO hX St ok λds vs F1 H1 ρ1 s1 S1 _ r1 o1=>by
  obtain⟨res,e,o'⟩:=yx_ hO o1
  exact hf G F1 σ H1 ρ1 vs ds res Q S1 (RepL.ors r1) e λw F2 H2 s2 S2 r3=>kk res w F2 H2 ρ1 (s1.trans s2) S2 r3 o')
end
end L4
set_option maxHeartbeats 8000000
namespace K01
open PySem PySem.Spec PyProof.Rows L2 L3 L4
noncomputable section
noncomputable def top(i:Nat):Stmt:=PySem.Challenge.pw_passersby_k01_rules_of_any_thing.main.body.getD i (.Pass ⟨0,0,0,0⟩)
structure BN(mg:Str->Option Value):Prop where
 range:mg "range" = none
 len:mg "len" = none
 tuple:mg "tuple" = none
 list:mg "list" = none
 max:mg "max" = none
 min:mg "min" = none
 sum:mg "sum" = none
 abs:mg "abs" = none
 repr:mg "repr" = none
 enumerate:mg "enumerate" = none
 isinstance:mg "isinstance" = none
 all:mg "all" = none
 any:mg "any" = none
 int:mg "int" = none
 str:mg "str" = none
 bool:mg "bool" = none
 zip:mg "zip" = none
 sorted:mg "sorted" = none
 set:mg "set" = none
 dict:mg "dict" = none
 reversed:mg "reversed" = none
structure KX(K:Fg)(mg:Str->Option Value):Prop where
 non:True
structure KN(mg:Str->Option Value):Prop where
 MOST_ROOMS:∃u,mg "MOST_ROOMS" = some u/\RelV (.int 40) u
 MOST_SORTS:∃u,mg "MOST_SORTS" = some u/\RelV (.int 4) u
section
variable {P:Program}{w:World}{K:Fg}{mg:Str->Option Value}{base:Heap}
noncomputable abbrev jE_:Stmt:=top 1
noncomputable abbrev VG_:List Str:=["thing"]
theorem YJ_:FnScope VG_ ["thing"] (ze_ jE_):=⟨rfl,rfl,rfl,by decide +kernel,rfl,by decide +kernel,by decide +kernel⟩
def yX_(gad:D):M D :=
 bd (bd (bd (oM (isTo "int" gad)) λb2=>if b2 then bd (oM (isTo "bool" gad)) λb1=>.ret (!b1)else .ret false) λb3=>.ret (.bool b3)) λx4=>.ret x4
def uv_:List D->M D:=λl=>match l with
 | [gad]=>yX_ gad
 | _=>.bad
set_option maxHeartbeats 4000000 in
theorem YW_{f:Addr}{fd:FuncData}(Fn:Fun K "is_whole" "is_whole" jE_ f fd)(B:BN mg)(Kn:KN mg)(Kx:KX K mg):FnOk P w K mg base (CX1 P w) 1 f fd ["thing"] (spD K 1 uv_) :=
 un_ (k:=0) Fn YJ_ (λcdv A outer s H E hr =>
 (zj_ (zq_ (zh_ (ap_b (yb_ (yJ_ (T := "int") (by decide) rfl B.isinstance rfl B.int (by decide +kernel) (ao (av 0)) rfl rfl rfl) (ZT_ (zbo_ (yJ_ (T := "bool") (by decide) rfl B.isinstance rfl B.bool (by decide +kernel) (ao (av 0)) rfl rfl rfl)))))))))
 (λds hl=>match ds,hl with | [gad],_=>by kernel_rfl)
theorem YN_{f:Addr}{fd:FuncData}(Fn:Fun K "is_whole" "is_whole" jE_ f fd)(hmg:mg "is_whole" = some (.ref f))(B:BN mg)(Kn:KN mg)(Kx:KX K mg):CF P w K mg base "is_whole" 1 (spD K 1 uv_) :=
 ⟨f,fd,["thing"],YW_ Fn B Kn Kx,hmg,Fn.kp,(bnd1 Fn λ_ _ _ _ _ _ _=>rfl)⟩
noncomputable abbrev jl_:Stmt:=top 2
noncomputable abbrev Y7_:List Str:=["thing", "least", "most"]
theorem Us_:FnScope Y7_ ["thing", "least", "most"] (ze_ jl_):=⟨rfl,rfl,rfl,by decide +kernel,rfl,by decide +kernel,by decide +kernel⟩
def jY_(gad:D)(gaS:D)(gaU:D):M D :=
 bd (bd (bd (bd (yX_ gad) λx1=>asB x1) λb3=>if b3 then bd (oM (u0_ gaS gad)) λb2=>if b2 then oM (u0_ gad gaU)else .ret false else .ret false) λb4=>.ret (.bool b4)) λx5=>.ret x5
def jt_:List D->M D:=λl=>match l with
 | [gad,gaS,gaU]=>jY_ gad gaS gaU
 | _=>.bad
set_option maxHeartbeats 4000000 in
theorem U4_{f:Addr}{fd:FuncData}(Fn:Fun K "is_within" "is_within" jl_ f fd)(B:BN mg)(Kn:KN mg)(Kx:KX K mg)(gaH:CF P w K mg base "is_whole" 1 (spD K 1 uv_)):FnOk P w K mg base (CX1 P w) 2 f fd ["thing", "least", "most"] (spD K 3 jt_) :=
 un_ (k:=1) Fn Us_ (λcdv A outer s H E hr =>
 (zj_ (zq_ (zh_ (ap_b (yb_ (Xx_ (uq_ gaH (hr.mono (by decide)) rfl (zb_ (av 0) zi_ (za_ rfl)) rfl (by decide) rfl rfl)) (ZT_ (Q2_ (yy_ (zl_ hr)) (yy_ (zl_ hr)) yz_ yz_ (ao (av 1)) (ao (av 0)) (ao (av 2)) (by with_unfolding_all rfl)))))))))
 (λds hl=>match ds,hl with | [gad,gaS,gaU],_=>by kernel_rfl)
theorem UM_{f:Addr}{fd:FuncData}(Fn:Fun K "is_within" "is_within" jl_ f fd)(hmg:mg "is_within" = some (.ref f))(B:BN mg)(Kn:KN mg)(Kx:KX K mg)(gaH:CF P w K mg base "is_whole" 1 (spD K 1 uv_)):CF P w K mg base "is_within" 2 (spD K 3 jt_) :=
 ⟨f,fd,["thing", "least", "most"],U4_ Fn B Kn Kx gaH,hmg,Fn.kp,(bnd3 Fn λ_ _ _ _ _ _ _ _ _=>rfl)⟩
noncomputable abbrev zY_:Stmt:=top 3
noncomputable abbrev Ui_:List Str:=["thing", "many"]
theorem ZW_:FnScope Ui_ ["thing", "many"] (ze_ zY_):=⟨rfl,rfl,rfl,by decide +kernel,rfl,by decide +kernel,by decide +kernel⟩
def jd_(gad:D)(gaV:D):M D :=
 bd (bd (bd (oM (isTo "tuple" gad)) λb2=>if b2 then bd (oM (fLen [gad])) λx1=>oM (opEq x1 gaV)else .ret false) λb3=>.ret (.bool b3)) λx4=>.ret x4
def zG_:List D->M D:=λl=>match l with
 | [gad,gaV]=>jd_ gad gaV
 | _=>.bad
set_option maxHeartbeats 4000000 in
theorem Z6_{f:Addr}{fd:FuncData}(Fn:Fun K "is_tuple_of" "is_tuple_of" zY_ f fd)(B:BN mg)(Kn:KN mg)(Kx:KX K mg):FnOk P w K mg base (CX1 P w) 1 f fd ["thing", "many"] (spD K 2 zG_) :=
 un_ (k:=0) Fn ZW_ (λcdv A outer s H E hr =>
 (zj_ (zq_ (zh_ (ap_b (yb_ (yJ_ (T := "tuple") (by decide) rfl B.isinstance rfl B.tuple (by decide +kernel) (ao (av 0)) rfl rfl rfl) (ZT_ (Yz_ (jD_ (zl_ hr)) jN_ (ao (zK_ zX_ ul_ rfl B.len PySem.boot_len (zm_ (ao (av 0)) zt_ (za_ rfl)) (by decide) (by decide) rfl rfl)) (ao (av 1)) rfl))))))))
 (λds hl=>match ds,hl with | [gad,gaV],_=>by kernel_rfl)
theorem Z0_{f:Addr}{fd:FuncData}(Fn:Fun K "is_tuple_of" "is_tuple_of" zY_ f fd)(hmg:mg "is_tuple_of" = some (.ref f))(B:BN mg)(Kn:KN mg)(Kx:KX K mg):CF P w K mg base "is_tuple_of" 1 (spD K 2 zG_) :=
 ⟨f,fd,["thing", "many"],Z6_ Fn B Kn Kx,hmg,Fn.kp,(bnd2 Fn λ_ _ _ _ _ _ _ _=>rfl)⟩
noncomputable abbrev z5_:Stmt:=top 12
noncomputable abbrev ZU_:List Str:=["rooms", "thing"]
theorem Ut_:FnScope ZU_ ["rooms", "thing"] (ze_ z5_):=⟨rfl,rfl,rfl,by decide +kernel,rfl,by decide +kernel,by decide +kernel⟩
noncomputable abbrev N_are_rooms_0:List Str:=["rooms", "thing", "room"]
theorem y6_:N_are_rooms_0.Nodup:=by decide +kernel
def jG_(gaq:D)(gad:D):M D :=
 bd (bd (bd (bd (bd (oM (seqD gad)) λl4=>bd (j4_ (λd1=>bd (bd (oM (uZ_ gaq (.int 1))) λx2=>jY_ d1 (.int 0) x2) λx3=>.ret (some x3)) l4) fitM) λl5=>.ret (PyData.list l5)) λx6=>oM (fAll [x6])) λb7=>.ret (.bool b7)) λx8=>.ret x8
def ju_:List D->M D:=λl=>match l with
 | [gaq,gad]=>jG_ gaq gad
 | _=>.bad
set_option maxHeartbeats 4000000 in
theorem U5_{f:Addr}{fd:FuncData}(Fn:Fun K "are_rooms" "are_rooms" z5_ f fd)(B:BN mg)(Kn:KN mg)(Kx:KX K mg)(gas:CF P w K mg base "is_within" 2 (spD K 3 jt_)):FnOk P w K mg base (CX1 P w) 3 f fd ["rooms", "thing"] (spD K 2 ju_) :=
 un_ (k:=2) Fn Ut_ (λcdv A outer s H E hr =>
 (zj_ (zq_ (zh_ (ap_b (Q3_ (QQ_ rfl) zaR_ rfl B.all (by decide +kernel) (zm_ (ao (ap_z (yY_ (N':=N_are_rooms_0) (k:=1) rfl (z9_ (N:=ZU_) (sc:=(ze_ z5_)) (by decide +kernel) rfl rfl) (yI_ (av 1)) (λcl s' H' fp C'=>(zy_ (i:=2) (show 2<=2 by decide) y6_ rfl (by first|exact Or.inl rfl|exact Or.inr rfl) (.inr rfl))) (λcl s' H' fp C'=>j1_) (λcl s' H' fp C'=>(uq_ gas (hr.mono (by decide)) rfl (zb_ (av 2) (zb_ zc_ (zb_ (zo_ uG_ uH_ (ao (av 0)) (ao zc_)) zi_ (za_ rfl)) (za_ rfl)) (za_ rfl)) rfl (by decide) rfl rfl)) (λ_=>rfl)))) zt_ (za_ rfl)) (by decide) (by decide) rfl rfl))))))
 (λds hl=>match ds,hl with | [gaq,gad],_=>by kernel_rfl)
theorem UN_{f:Addr}{fd:FuncData}(Fn:Fun K "are_rooms" "are_rooms" z5_ f fd)(hmg:mg "are_rooms" = some (.ref f))(B:BN mg)(Kn:KN mg)(Kx:KX K mg)(gas:CF P w K mg base "is_within" 2 (spD K 3 jt_)):CF P w K mg base "are_rooms" 3 (spD K 2 ju_) :=
 ⟨f,fd,["rooms", "thing"],U5_ Fn B Kn Kx gas,hmg,Fn.kp,(bnd2 Fn λ_ _ _ _ _ _ _ _=>rfl)⟩
noncomputable abbrev z4_:Stmt:=top 8
noncomputable abbrev YC_:List Str:=["rooms", "thing"]
theorem JM_:FnScope YC_ ["rooms", "thing"] (ze_ z4_):=⟨rfl,rfl,rfl,by decide +kernel,rfl,by decide +kernel,by decide +kernel⟩
def uc_(gaq:D)(gad:D):M D :=
 bd (bd (bd (oM (isTo "tuple" gad)) λb1=>.ret (!b1)) λb5=>if b5 then .ret true else bd (bd (oM (fLen [gad])) λx2=>bd (oM (u0_ (.int 1) x2)) λb3=>if b3 then oM (u0_ x2 (.int 4))else .ret false) λb4=>.ret (!b4)) λb6=>if b6 then
  .ret (.bool false)
  else
  bd (jG_ gaq gad) λx7=>.ret x7
def jQ_:List D->M D:=λl=>match l with
 | [gaq,gad]=>uc_ gaq gad
 | _=>.bad
set_option maxHeartbeats 4000000 in
theorem J7_{f:Addr}{fd:FuncData}(Fn:Fun K "are_starts" "are_starts" z4_ f fd)(B:BN mg)(Kn:KN mg)(Kx:KX K mg)(gat:CF P w K mg base "are_rooms" 3 (spD K 2 ju_)):FnOk P w K mg base (CX1 P w) 4 f fd ["rooms", "thing"] (spD K 2 jQ_) :=
 un_ (k:=3) Fn JM_ (λcdv A outer s H E hr =>
 (zf_ (jC_ (zU_ (Z9_ (Z8_ (up_ (at_b (yJ_ (T := "tuple") (by decide) rfl B.isinstance rfl B.tuple (by decide +kernel) (ao (av 1)) rfl rfl rfl) (λ_=>rfl))) (y3_ (up_ (QX_ (yy_ (zl_ hr)) (yy_ (zl_ hr)) yz_ yz_ (ao zc_) (ao (zK_ zX_ ul_ rfl B.len PySem.boot_len (zm_ (ao (av 1)) zt_ (za_ rfl)) (by decide) (by decide) rfl rfl)) (ao (Xo_ rfl Kn.MOST_SORTS.choose_spec.1 Kn.MOST_SORTS.choose_spec.2 (λ_=>.int _) (by decide))) (by with_unfolding_all rfl)))))))
  (zj_ (zq_ (zh_ jz_)))
  zw_)
  (zj_ (zq_ (zh_ (uq_ gat (hr.mono (by decide)) rfl (zb_ (av 0) (zb_ (av 1) zi_ (za_ rfl)) (za_ rfl)) rfl (by decide) rfl rfl))))))
 (λds hl=>match ds,hl with | [gaq,gad],_=>by kernel_rfl)
theorem JW_{f:Addr}{fd:FuncData}(Fn:Fun K "are_starts" "are_starts" z4_ f fd)(hmg:mg "are_starts" = some (.ref f))(B:BN mg)(Kn:KN mg)(Kx:KX K mg)(gat:CF P w K mg base "are_rooms" 3 (spD K 2 ju_)):CF P w K mg base "are_starts" 4 (spD K 2 jQ_) :=
 ⟨f,fd,["rooms", "thing"],J7_ Fn B Kn Kx gat,hmg,Fn.kp,(bnd2 Fn λ_ _ _ _ _ _ _ _=>rfl)⟩
noncomputable abbrev z3_:Stmt:=top 11
noncomputable abbrev YB_:List Str:=["rooms", "thing"]
theorem JL_:FnScope YB_ ["rooms", "thing"] (ze_ z3_):=⟨rfl,rfl,rfl,by decide +kernel,rfl,by decide +kernel,by decide +kernel⟩
def ub_(gaq:D)(gad:D):M D :=
 bd (bd (bd (bd (jd_ gad (.int 4)) λx1=>oM (truD x1)) λb2=>.ret (!b2)) λb5=>if b5 then .ret true else bd (bd (jG_ gaq gad) λx3=>oM (truD x3)) λb4=>.ret (!b4)) λb6=>if b6 then
  .ret (.bool false)
  else
  bd (bd (oM (jK_ gad (.int 0))) λx7=>bd (oM (jK_ gad (.int 1))) λx8=>oM (opGt x7 x8)) λb9=>if b9 then
  .ret (.bool false)
  else
  bd (bd (bd (bd (asI (.int 2)) λlo10=>oM (fCut gad lo10 none)) λx16=>bd (bd (bd (asI (.int 2)) λhi11=>oM (fCut gad none hi11)) λx12=>bd (bd (oM (jK_ gad (.int 1))) λx13=>bd (oM (jK_ gad (.int 0))) λx14=>.ret (.tuple [x13,x14])) λx15=>.ret (.tuple [x12,x15])) λx17=>oM (uT_ x16 x17)) λb18=>.ret (.bool b18)) λx19=>.ret x19
def jP_:List D->M D:=λl=>match l with
 | [gaq,gad]=>ub_ gaq gad
 | _=>.bad
set_option maxHeartbeats 4000000 in
theorem J6_{f:Addr}{fd:FuncData}(Fn:Fun K "is_meeting" "is_meeting" z3_ f fd)(B:BN mg)(Kn:KN mg)(Kx:KX K mg)(gai:CF P w K mg base "is_tuple_of" 1 (spD K 2 zG_))(gat:CF P w K mg base "are_rooms" 3 (spD K 2 ju_)):FnOk P w K mg base (CX1 P w) 4 f fd ["rooms", "thing"] (spD K 2 jP_) :=
 un_ (k:=3) Fn JL_ (λcdv A outer s H E hr =>
 (zf_ (jC_ (zU_ (Z9_ (Z8_ (up_ (y4_ (ao (uq_ gai (hr.mono (by decide)) rfl (zb_ (av 1) (zb_ zc_ zi_ (za_ rfl)) (za_ rfl)) rfl (by decide) rfl rfl)) (λ_=>rfl))) (y3_ (up_ (y4_ (ao (uq_ gat (hr.mono (by decide)) rfl (zb_ (av 0) (zb_ (av 1) zi_ (za_ rfl)) (za_ rfl)) rfl (by decide) rfl rfl)) (λ_=>rfl)))))))
  (zj_ (zq_ (zh_ jz_)))
  zw_)
  (zf_ (jC_ (zU_ (zO_ XX_ XY_ (ao (uC_ (jv_ (zl_ hr)) js_ (ao (av 1)) (ao zc_) (λ_ _=>rfl))) (ao (uC_ (jv_ (zl_ hr)) js_ (ao (av 1)) (ao zc_) (λ_ _=>rfl))) rfl))
  (zj_ (zq_ (zh_ jz_)))
  zw_)
  (zj_ (zq_ (zh_ (ap_b (Yz_ (yN_ (zl_ hr)) Zs_ (ao (zB_ (ao (av 1)) (zz_ zc_) zE_)) (ao (zJ_ (zb_ (zB_ (ao (av 1)) zE_ (zz_ zc_)) (zb_ (zJ_ (zb_ (uC_ (jv_ (zl_ hr)) js_ (ao (av 1)) (ao zc_) (λ_ _=>rfl)) (zb_ (uC_ (jv_ (zl_ hr)) js_ (ao (av 1)) (ao zc_) (λ_ _=>rfl)) zi_ (za_ rfl)) (za_ rfl)) (by decide +kernel)) zi_ (za_ rfl)) (za_ rfl)) (by decide +kernel))) rfl))))))))
 (λds hl=>match ds,hl with | [gaq,gad],_=>by kernel_rfl)
theorem JV_{f:Addr}{fd:FuncData}(Fn:Fun K "is_meeting" "is_meeting" z3_ f fd)(hmg:mg "is_meeting" = some (.ref f))(B:BN mg)(Kn:KN mg)(Kx:KX K mg)(gai:CF P w K mg base "is_tuple_of" 1 (spD K 2 zG_))(gat:CF P w K mg base "are_rooms" 3 (spD K 2 ju_)):CF P w K mg base "is_meeting" 4 (spD K 2 jP_) :=
 ⟨f,fd,["rooms", "thing"],J6_ Fn B Kn Kx gai gat,hmg,Fn.kp,(bnd2 Fn λ_ _ _ _ _ _ _ _=>rfl)⟩
noncomputable abbrev jm_:Stmt:=top 10
noncomputable abbrev Y8_:List Str:=["rooms", "thing", "ahead", "meeting"]
theorem sc_are_meets:FnScope Y8_ ["rooms", "thing"] (ze_ jm_):=⟨rfl,rfl,rfl,by decide +kernel,rfl,by decide +kernel,by decide +kernel⟩
noncomputable def u7_(gaT:D)(gaW:D):M D :=
 .ret (.bool true)
def jH_(gaT:D)(gaW:D)(d_:D)(kn6:D×D×Unit->M D):M D :=
 bd (bd (bd (bd (ub_ gaT d_) λx7=>oM (truD x7)) λb8=>.ret (!b8)) λb11=>if b11 then .ret true else bd (bd (asI (.int 2)) λhi9=>oM (fCut d_ none hi9)) λx10=>oM (u0_ x10 gaW)) λb12=>if b12 then
  .ret (.bool false)
  else
  bd (bd (asI (.int 2)) λhi13=>oM (fCut d_ none hi13)) λx14=>kn6 (gaT,x14,())
def uA_(gaq:D)(gad:D):M D :=
 bd (bd (oM (isTo "tuple" gad)) λb1=>.ret (!b1)) λb2=>if b2 then
  .ret (.bool false)
  else
  bd (bd (oM (JT_ (.int 1))) λx3=>.ret (.tuple [(.int 0),x3])) λx4=>bd (oM (seqD gad)) λl5=>forS (λs15 d16 kn=>jH_ s15.1 s15.2.1 d16 kn) l5 (gaq,x4,()) (λs15=>u7_ s15.1 s15.2.1)
def j7_:List D->M D:=λl=>match l with
 | [gaq,gad]=>uA_ gaq gad
 | _=>.bad
set_option maxHeartbeats 4000000 in
theorem U6_{f:Addr}{fd:FuncData}(Fn:Fun K "are_meets" "are_meets" jm_ f fd)(B:BN mg)(Kn:KN mg)(Kx:KX K mg)(gaz:CF P w K mg base "is_meeting" 4 (spD K 2 jP_)):FnOk P w K mg base (CX1 P w) 5 f fd ["rooms", "thing"] (spD K 2 j7_) :=
 un_ (k:=4) Fn sc_are_meets (λcdv A outer s H E hr =>
 (zf_ (jC_ (zU_ (up_ (at_b (yJ_ (T := "tuple") (by decide) rfl B.isinstance rfl B.tuple (by decide +kernel) (ao (av 1)) rfl rfl rfl) (λ_=>rfl))))
  (zj_ (zq_ (zh_ jz_)))
  zw_)
  (zf_ (z2_ (sh:=[.f,.f,.f,.dead]) (zT_ (i:=2) sc_are_meets.nd rfl (by first|exact Or.inl rfl|exact Or.inr rfl) (zh_ (zJ_ (zb_ zc_ (zb_ (Xm_ Um_ UK_ (ao zc_)) zi_ (za_ rfl)) (za_ rfl)) (by decide +kernel))) rfl (.inl rfl)))
  (zf_ (yn_ (sh:=[.f,.dead,.f,.dead]) PassesOwn.leaving rfl (uP_ (yI_ (av 1))) (zy_ (i:=3) (Nat.zero_le _) sc_are_meets.nd rfl (by first|exact Or.inl rfl|exact Or.inr rfl) (.inl rfl))
  (zf_ (jC_ (zU_ (Z9_ (Z8_ (up_ (y4_ (ao (uq_ gaz (hr.mono (by decide)) rfl (zb_ (av 0) (zb_ (av 3) zi_ (za_ rfl)) (za_ rfl)) rfl (by decide) rfl rfl)) (λ_=>rfl))) (y3_ (zO_ (yy_ (zl_ hr)) yz_ (ao (zB_ (ao (av 3)) zE_ (zz_ zc_))) (ao (av 2)) rfl)))))
  (zj_ (zq_ (zh_ jz_)))
  zw_)
  (zj_ (zT_ (i:=2) sc_are_meets.nd rfl (by first|exact Or.inl rfl|exact Or.inr rfl) (zh_ (zB_ (ao (av 3)) zE_ (zz_ zc_))) rfl (.inl rfl)))) (λ_=>rfl))
  (zj_ (zq_ (zh_ jz_)))))))
 (λds hl=>match ds,hl with | [gaq,gad],_=>by kernel_rfl)
theorem UO_{f:Addr}{fd:FuncData}(Fn:Fun K "are_meets" "are_meets" jm_ f fd)(hmg:mg "are_meets" = some (.ref f))(B:BN mg)(Kn:KN mg)(Kx:KX K mg)(gaz:CF P w K mg base "is_meeting" 4 (spD K 2 jP_)):CF P w K mg base "are_meets" 5 (spD K 2 j7_) :=
 ⟨f,fd,["rooms", "thing"],U6_ Fn B Kn Kx gaz,hmg,Fn.kp,(bnd2 Fn λ_ _ _ _ _ _ _ _=>rfl)⟩
noncomputable abbrev jr_:Stmt:=top 9
noncomputable abbrev JF_:List Str:=["rooms", "thing"]
theorem YK_:FnScope JF_ ["rooms", "thing"] (ze_ jr_):=⟨rfl,rfl,rfl,by decide +kernel,rfl,by decide +kernel,by decide +kernel⟩
noncomputable abbrev N_are_says_0:List Str:=["rooms", "thing", "truth"]
theorem Zw_:N_are_says_0.Nodup:=by decide +kernel
def uW_(gaq:D)(gad:D):M D :=
 bd (bd (bd (bd (jd_ gad gaq) λx1=>asB x1) λb8=>if b8 then bd (bd (bd (oM (seqD gad)) λl5=>bd (j4_ (λd2=>bd (bd (oM (isTo "bool" d2)) λb3=>.ret (.bool b3)) λx4=>.ret (some x4)) l5) fitM) λl6=>.ret (PyData.list l6)) λx7=>oM (fAll [x7])else .ret false) λb9=>.ret (.bool b9)) λx10=>.ret x10
def uw_:List D->M D:=λl=>match l with
 | [gaq,gad]=>uW_ gaq gad
 | _=>.bad
set_option maxHeartbeats 4000000 in
theorem YX_{f:Addr}{fd:FuncData}(Fn:Fun K "are_says" "are_says" jr_ f fd)(B:BN mg)(Kn:KN mg)(Kx:KX K mg)(gai:CF P w K mg base "is_tuple_of" 1 (spD K 2 zG_)):FnOk P w K mg base (CX1 P w) 2 f fd ["rooms", "thing"] (spD K 2 uw_) :=
 un_ (k:=1) Fn YK_ (λcdv A outer s H E hr =>
 (zj_ (zq_ (zh_ (ap_b (yb_ (Xx_ (uq_ gai (hr.mono (by decide)) rfl (zb_ (av 1) (zb_ (av 0) zi_ (za_ rfl)) (za_ rfl)) rfl (by decide) rfl rfl)) (ZT_ (Q3_ (QQ_ rfl) zaR_ rfl B.all (by decide +kernel) (zm_ (ao (ap_z (yY_ (N':=N_are_says_0) (k:=1) rfl (z9_ (N:=JF_) (sc:=(ze_ jr_)) (by decide +kernel) rfl rfl) (yI_ (av 1)) (λcl s' H' fp C'=>(zy_ (i:=2) (show 2<=2 by decide) Zw_ rfl (by first|exact Or.inl rfl|exact Or.inr rfl) (.inr rfl))) (λcl s' H' fp C'=>j1_) (λcl s' H' fp C'=>(ap_b (yJ_ (T := "bool") (by decide) rfl B.isinstance rfl B.bool (by decide +kernel) (ao (av 2)) rfl rfl rfl))) (λ_=>rfl)))) zt_ (za_ rfl)) (by decide) (by decide) rfl rfl))))))))
 (λds hl=>match ds,hl with | [gaq,gad],_=>by kernel_rfl)
theorem YO_{f:Addr}{fd:FuncData}(Fn:Fun K "are_says" "are_says" jr_ f fd)(hmg:mg "are_says" = some (.ref f))(B:BN mg)(Kn:KN mg)(Kx:KX K mg)(gai:CF P w K mg base "is_tuple_of" 1 (spD K 2 zG_)):CF P w K mg base "are_says" 2 (spD K 2 uw_) :=
 ⟨f,fd,["rooms", "thing"],YX_ Fn B Kn Kx gai,hmg,Fn.kp,(bnd2 Fn λ_ _ _ _ _ _ _ _=>rfl)⟩
noncomputable abbrev jW_:Stmt:=top 7
noncomputable abbrev Xy_:List Str:=["thing", "rooms"]
theorem sc_is_rule:FnScope Xy_ ["thing"] (ze_ jW_):=⟨rfl,rfl,rfl,by decide +kernel,rfl,by decide +kernel,by decide +kernel⟩
def uo_(gad:D):M D :=
 bd (bd (bd (jd_ gad (.int 4)) λx1=>oM (truD x1)) λb2=>.ret (!b2)) λb3=>if b3 then
  .ret (.bool false)
  else
  bd (oM (jK_ gad (.int 0))) λx4=>bd (bd (bd (jY_ x4 (.int 1) (.int 40)) λx5=>oM (truD x5)) λb6=>.ret (!b6)) λb7=>if b7 then
  .ret (.bool false)
  else
  bd (bd (bd (bd (bd (oM (jK_ gad (.int 1))) λx8=>uc_ x4 x8) λx9=>asB x9) λb15=>if b15 then bd (bd (bd (oM (jK_ gad (.int 2))) λx10=>uA_ x4 x10) λx11=>asB x11) λb14=>if b14 then bd (bd (oM (jK_ gad (.int 3))) λx12=>uW_ x4 x12) λx13=>asB x13 else .ret false else .ret false) λb16=>.ret (.bool b16)) λx17=>.ret x17
def jV_:List D->M D:=λl=>match l with
 | [gad]=>uo_ gad
 | _=>.bad
set_option maxHeartbeats 4000000 in
theorem Vu_{f:Addr}{fd:FuncData}(Fn:Fun K "is_rule" "is_rule" jW_ f fd)(B:BN mg)(Kn:KN mg)(Kx:KX K mg)(gai:CF P w K mg base "is_tuple_of" 1 (spD K 2 zG_))(gas:CF P w K mg base "is_within" 2 (spD K 3 jt_))(gaA:CF P w K mg base "are_starts" 4 (spD K 2 jQ_))(gaE:CF P w K mg base "are_meets" 5 (spD K 2 j7_))(gaI:CF P w K mg base "are_says" 2 (spD K 2 uw_)):FnOk P w K mg base (CX1 P w) 6 f fd ["thing"] (spD K 1 jV_) :=
 un_ (k:=5) Fn sc_is_rule (λcdv A outer s H E hr =>
 (zf_ (jC_ (zU_ (up_ (y4_ (ao (uq_ gai (hr.mono (by decide)) rfl (zb_ (av 0) (zb_ zc_ zi_ (za_ rfl)) (za_ rfl)) rfl (by decide) rfl rfl)) (λ_=>rfl))))
  (zj_ (zq_ (zh_ jz_)))
  zw_)
  (zf_ (z2_ (sh:=[.f,.f]) (zT_ (i:=1) sc_is_rule.nd rfl (by first|exact Or.inl rfl|exact Or.inr rfl) (zh_ (uC_ (jv_ (zl_ hr)) js_ (ao (av 0)) (ao zc_) (λ_ _=>rfl))) rfl (.inl rfl)))
  (zf_ (jC_ (zU_ (up_ (y4_ (ao (uq_ gas (hr.mono (by decide)) rfl (zb_ (av 1) (zb_ zc_ (zb_ (Xo_ rfl Kn.MOST_ROOMS.choose_spec.1 Kn.MOST_ROOMS.choose_spec.2 (λ_=>.int _) (by decide)) zi_ (za_ rfl)) (za_ rfl)) (za_ rfl)) rfl (by decide) rfl rfl)) (λ_=>rfl))))
  (zj_ (zq_ (zh_ jz_)))
  zw_)
  (zj_ (zq_ (zh_ (ap_b (yb_ (Xx_ (uq_ gaA (hr.mono (by decide)) rfl (zb_ (av 1) (zb_ (uC_ (jv_ (zl_ hr)) js_ (ao (av 0)) (ao zc_) (λ_ _=>rfl)) zi_ (za_ rfl)) (za_ rfl)) rfl (by decide) rfl rfl)) (yb_ (Xx_ (uq_ gaE (hr.mono (by decide)) rfl (zb_ (av 1) (zb_ (uC_ (jv_ (zl_ hr)) js_ (ao (av 0)) (ao zc_) (λ_ _=>rfl)) zi_ (za_ rfl)) (za_ rfl)) rfl (by decide) rfl rfl)) (ZT_ (Xx_ (uq_ gaI (hr.mono (by decide)) rfl (zb_ (av 1) (zb_ (uC_ (jv_ (zl_ hr)) js_ (ao (av 0)) (ao zc_) (λ_ _=>rfl)) zi_ (za_ rfl)) (za_ rfl)) rfl (by decide) rfl rfl)))))))))))))
 (λds hl=>match ds,hl with | [gad],_=>by kernel_rfl)
theorem Vj_{f:Addr}{fd:FuncData}(Fn:Fun K "is_rule" "is_rule" jW_ f fd)(hmg:mg "is_rule" = some (.ref f))(B:BN mg)(Kn:KN mg)(Kx:KX K mg)(gai:CF P w K mg base "is_tuple_of" 1 (spD K 2 zG_))(gas:CF P w K mg base "is_within" 2 (spD K 3 jt_))(gaA:CF P w K mg base "are_starts" 4 (spD K 2 jQ_))(gaE:CF P w K mg base "are_meets" 5 (spD K 2 j7_))(gaI:CF P w K mg base "are_says" 2 (spD K 2 uw_)):CF P w K mg base "is_rule" 6 (spD K 1 jV_) :=
 ⟨f,fd,["thing"],Vu_ Fn B Kn Kx gai gas gaA gaE gaI,hmg,Fn.kp,(bnd1 Fn λ_ _ _ _ _ _ _=>rfl)⟩
noncomputable abbrev jo_:Stmt:=top 14
noncomputable abbrev Qa_:List Str:=["_law_script", "_law_k", "_law_cell", "_law_great_here"]
theorem sc__law_feed:FnScope Qa_ ["_law_script", "_law_k"] (ze_ jo_):=⟨rfl,rfl,rfl,by decide +kernel,rfl,by decide +kernel,by decide +kernel⟩
def uB_(gan:D)(gaR:D):M (List D) :=
 bd (bd (bd (oM (fLen [gan])) λx1=>oM (opGt x1 (.int 0))) λb4=>if b4 then bd (bd (oM (fLen [gan])) λx2=>oM (Zr_ gaR x2)) λx3=>oM (jK_ gan x3)else .ret (.int 0)) λx5=>bd (bd (bd (oM (fAbs [x5])) λx6=>bd (oM (Wl_ (.int 10) (.int 18))) λx7=>oM (opGe x6 x7)) λb8=>if b8 then oM (fAbs [x5])else .ret (.int 0)) λx9=>bd (bd (bd (oM (Zr_ x5 (.int 1000003))) λx10=>bd (oM (u5_ (.int 7919) gaR)) λx11=>oM (zL_ x10 x11)) λx12=>.ret [x9,x12,(.int 0)]) λl13=>.ret l13
def j9_:List D->M (List D):=λl=>match l with
 | [gan,gaR]=>uB_ gan gaR
 | _=>.bad
set_option maxHeartbeats 4000000 in
theorem U9_{f:Addr}{fd:FuncData}(Fn:Fun K "_law_feed" "_law_feed" jo_ f fd)(B:BN mg)(Kn:KN mg)(Kx:KX K mg):FnOk P w K mg base (CX1 P w) 1 f fd ["_law_script", "_law_k"] (spL K 2 j9_) :=
 zeB_ (k:=0) Fn sc__law_feed (λcdv A outer s H E hr =>
 (zf_ (z2_ (sh:=[.dead,.f,.f,.dead]) (zT_ (i:=2) sc__law_feed.nd rfl (by first|exact Or.inl rfl|exact Or.inr rfl) (zh_ (zeM_ (zO_ XX_ XY_ (ao (zK_ zX_ ul_ rfl B.len PySem.boot_len (zm_ (ao (av 0)) zt_ (za_ rfl)) (by decide) (by decide) rfl rfl)) (ao zc_) rfl) (uC_ (jv_ (zl_ hr)) js_ (ao (av 0)) (ao (zo_ Zq_ Zt_ (ao (av 1)) (ao (zK_ zX_ ul_ rfl B.len PySem.boot_len (zm_ (ao (av 0)) zt_ (za_ rfl)) (by decide) (by decide) rfl rfl)))) (λ_ _=>rfl)) zc_)) rfl (.inl rfl)))
  (zf_ (z2_ (sh:=[.dead,.f,.f,.f]) (zT_ (i:=3) sc__law_feed.nd rfl (by first|exact Or.inl rfl|exact Or.inr rfl) (zh_ (zeM_ (zO_ zfs_ zfw_ (ao (zK_ QR_ zaS_ rfl B.abs (by decide +kernel) (zm_ (ao (av 2)) zt_ (za_ rfl)) (by decide) (by decide) rfl rfl)) (ao (zo_ zdT_ zdY_ (ao zc_) (ao zc_))) rfl) (zK_ QR_ zaS_ rfl B.abs (by decide +kernel) (zm_ (ao (av 2)) zt_ (za_ rfl)) (by decide) (by decide) rfl rfl) zc_)) rfl (.inl rfl)))
  (zj_ (zcO_ (Yx_ (j2_ (zb_ (av 3) (zb_ (zo_ zu_ zS_ (ao (zo_ Zq_ Zt_ (ao (av 2)) (ao zc_))) (ao (zo_ UG_ UL_ (ao zc_) (ao (av 1))))) (zb_ zc_ zi_ (za_ rfl)) (za_ rfl)) (za_ rfl)) (by decide +kernel))))))))
 (λds hl=>match ds,hl with | [gan,gaR],_=>by kernel_rfl)
theorem UR_{f:Addr}{fd:FuncData}(Fn:Fun K "_law_feed" "_law_feed" jo_ f fd)(hmg:mg "_law_feed" = some (.ref f))(B:BN mg)(Kn:KN mg)(Kx:KX K mg):CF P w K mg base "_law_feed" 1 (spL K 2 j9_) :=
 ⟨f,fd,["_law_script", "_law_k"],U9_ Fn B Kn Kx,hmg,Fn.kp,(bnd2 Fn λ_ _ _ _ _ _ _ _=>rfl)⟩
noncomputable abbrev jn_:Stmt:=top 15
noncomputable abbrev Y9_:List Str:=["_law_feed_here", "_law_many", "_law_digit", "_law_turn", "_law_one_here"]
theorem sc__law_next:FnScope Y9_ ["_law_feed_here", "_law_many"] (ze_ jn_):=⟨rfl,rfl,rfl,by decide +kernel,rfl,by decide +kernel,by decide +kernel⟩
def zg_(gab:List D)(gaD:D):M (D×List D) :=
 bd (bd (oM (jK_ (PyData.list gab) (.int 0))) λx1=>oM (opGt x1 (.int 0))) λb2=>if b2 then
  bd (bd (oM (jK_ (PyData.list gab) (.int 0))) λx3=>oM (Zr_ x3 gaD)) λx4=>bd (bd (oM (jK_ (PyData.list gab) (.int 0))) λx5=>oM (Wn_ x5 gaD)) λx6=>bd (oM (putD gab (.int 0) x6)) λl7=>.ret (x4,l7)
  else
  bd (bd (oM (jK_ (PyData.list gab) (.int 2))) λx8=>oM (zL_ x8 (.int 1))) λx9=>bd (oM (putD gab (.int 2) x9)) λl10=>bd (bd (bd (bd (bd (oM (jK_ (PyData.list l10) (.int 1))) λx11=>bd (oM (u5_ (.int 41) x9)) λx12=>oM (zL_ x11 x12)) λx13=>oM (zL_ x13 (.int 3))) λx15=>bd (bd (oM (u5_ x9 x9)) λx14=>oM (zL_ x14 (.int 69621))) λx16=>oM (u5_ x15 x16)) λx17=>oM (Zr_ x17 (.int 998244353))) λx18=>bd (bd (bd (bd (bd (bd (bd (oM (Zr_ x18 (.int 65519))) λx19=>oM (zL_ x19 (.int 40692))) λx20=>oM (u5_ x18 x20)) λx21=>oM (zL_ x21 x9)) λx22=>oM (Zr_ x22 (.int 2147483629))) λx23=>oM (Wn_ x23 (.int 13))) λx24=>oM (Zr_ x24 gaD)) λx25=>.ret (x25,l10)
def zp_:List D->List D->M (D×List D):=λgab l=>match l with
 | [gaD]=>zg_ gab gaD
 | _=>.bad
set_option maxHeartbeats 4000000 in
theorem U8_{f:Addr}{fd:FuncData}(Fn:Fun K "_law_next" "_law_next" jn_ f fd)(B:BN mg)(Kn:KN mg)(Kx:KX K mg):FnOk P w K mg base (CX1 P w) 1 f fd ["_law_feed_here", "_law_many"] (sp1 K 2 zp_) :=
 Js_ (k:=0) Fn sc__law_next (λcdv A outer s H E hr =>
 (zf_ (jC_ (zU_ (zO_ XX_ XY_ (ao (uC_ (jv_ (zl_ hr)) js_ (uD_ (i:=0) rfl (by first|exact Or.inl rfl|exact Or.inr (Or.inl rfl)|exact Or.inr (Or.inr rfl))) (ao zc_) (λ_ _=>rfl))) (ao zc_) rfl))
  (zf_ (z2_ (sh:=[.p,.f,.f,.dead,.dead]) (zT_ (i:=2) sc__law_next.nd rfl (by first|exact Or.inl rfl|exact Or.inr rfl) (zh_ (zo_ Zq_ Zt_ (ao (uC_ (jv_ (zl_ hr)) js_ (uD_ (i:=0) rfl (by first|exact Or.inl rfl|exact Or.inr (Or.inl rfl)|exact Or.inr (Or.inr rfl))) (ao zc_) (λ_ _=>rfl))) (ao (av 1)))) rfl (.inl rfl)))
  (zf_ (z2_ (sh:=[.p,.dead,.f,.dead,.dead]) (zbl_ (i:=0) rfl (by first|exact Or.inl rfl|exact Or.inr (Or.inl rfl)|exact Or.inr (Or.inr rfl)) (zh_ zc_) (zh_ (zo_ Wk_ zaQ_ (ao (uC_ (jv_ (zl_ hr)) js_ (uD_ (i:=0) rfl (by first|exact Or.inl rfl|exact Or.inr (Or.inl rfl)|exact Or.inr (Or.inr rfl))) (ao zc_) (λ_ _=>rfl))) (ao (av 1)))) (λ_=>rfl) rfl rfl rfl))
  (zj_ (zq_ (zh_ (av 2))))))
  zw_)
  (zf_ (z2_ (sh:=[.p,.f,.dead,.f,.dead]) (zT_ (i:=3) sc__law_next.nd rfl (by first|exact Or.inl rfl|exact Or.inr rfl) (zh_ (zo_ zu_ zS_ (ao (uC_ (jv_ (zl_ hr)) js_ (uD_ (i:=0) rfl (by first|exact Or.inl rfl|exact Or.inr (Or.inl rfl)|exact Or.inr (Or.inr rfl))) (ao zc_) (λ_ _=>rfl))) (ao zc_))) rfl (.inl rfl)))
  (zf_ (z2_ (sh:=[.p,.f,.dead,.f,.dead]) (zbl_ (i:=0) rfl (by first|exact Or.inl rfl|exact Or.inr (Or.inl rfl)|exact Or.inr (Or.inr rfl)) (zh_ zc_) (zh_ (av 3)) (λ_=>rfl) rfl rfl rfl))
  (zf_ (z2_ (sh:=[.p,.f,.dead,.f,.f]) (zT_ (i:=4) sc__law_next.nd rfl (by first|exact Or.inl rfl|exact Or.inr rfl) (zh_ (zo_ Zq_ Zt_ (ao (zo_ UG_ UL_ (ao (zo_ zu_ zS_ (ao (zo_ zu_ zS_ (ao (uC_ (jv_ (zl_ hr)) js_ (uD_ (i:=0) rfl (by first|exact Or.inl rfl|exact Or.inr (Or.inl rfl)|exact Or.inr (Or.inr rfl))) (ao zc_) (λ_ _=>rfl))) (ao (zo_ UG_ UL_ (ao zc_) (ao (av 3)))))) (ao zc_))) (ao (zo_ zu_ zS_ (ao (zo_ UG_ UL_ (ao (av 3)) (ao (av 3)))) (ao zc_))))) (ao zc_))) rfl (.inl rfl)))
  (zj_ (zq_ (zh_ (zo_ Zq_ Zt_ (ao (zo_ Wk_ zaQ_ (ao (zo_ Zq_ Zt_ (ao (zo_ zu_ zS_ (ao (zo_ UG_ UL_ (ao (av 4)) (ao (zo_ zu_ zS_ (ao (zo_ Zq_ Zt_ (ao (av 4)) (ao zc_))) (ao zc_))))) (ao (av 3)))) (ao zc_))) (ao zc_))) (ao (av 1)))))))))))
 (λg ds hl=>match ds,hl with | [gaD],_=>by kernel_rfl)
theorem UQ_{f:Addr}{fd:FuncData}(Fn:Fun K "_law_next" "_law_next" jn_ f fd)(hmg:mg "_law_next" = some (.ref f))(B:BN mg)(Kn:KN mg)(Kx:KX K mg):CF P w K mg base "_law_next" 1 (sp1 K 2 zp_) :=
 ⟨f,fd,["_law_feed_here", "_law_many"],U8_ Fn B Kn Kx,hmg,Fn.kp,(bnd2 Fn λ_ _ _ _ _ _ _ _=>rfl)⟩
noncomputable abbrev jF_:Stmt:=top 16
noncomputable abbrev VH_:List Str:=["_law_feed_here", "_law_some"]
theorem YL_:FnScope VH_ ["_law_feed_here", "_law_some"] (ze_ jF_):=⟨rfl,rfl,rfl,by decide +kernel,rfl,by decide +kernel,by decide +kernel⟩
def jy_(gab:List D)(gaJ:D):M (D×List D) :=
 bd (oM (fLen [gaJ])) λx1=>bd (zg_ gab x1) λr2=>bd (oM (jK_ gaJ r2.1)) λx3=>.ret (x3,r2.2)
def zP_:List D->List D->M (D×List D):=λgab l=>match l with
 | [gaJ]=>jy_ gab gaJ
 | _=>.bad
set_option maxHeartbeats 4000000 in
theorem YY_{f:Addr}{fd:FuncData}(Fn:Fun K "_law_one" "_law_one" jF_ f fd)(B:BN mg)(Kn:KN mg)(Kx:KX K mg)(gaa:CF P w K mg base "_law_next" 1 (sp1 K 2 zp_)):FnOk P w K mg base (CX1 P w) 2 f fd ["_law_feed_here", "_law_some"] (sp1 K 2 zP_) :=
 Js_ (k:=1) Fn YL_ (λcdv A outer s H E hr =>
 (zj_ (zq_ (zfN_ (jv_ (zl_ hr)) js_ (zh_ (av 1)) (zC_ (i:=0) gaa (hr.mono (by decide)) rfl rfl (by first|exact Or.inl rfl|exact Or.inr (Or.inl rfl)|exact Or.inr (Or.inr rfl)) (zd_ (zh_ (zK_ zX_ ul_ rfl B.len PySem.boot_len (zm_ (ao (av 1)) zt_ (za_ rfl)) (by decide) (by decide) rfl rfl)) zk_ (za_ rfl)) rfl (by decide) rfl rfl) (λ_ _=>rfl)))))
 (λg ds hl=>match ds,hl with | [gaJ],_=>by kernel_rfl)
theorem YP_{f:Addr}{fd:FuncData}(Fn:Fun K "_law_one" "_law_one" jF_ f fd)(hmg:mg "_law_one" = some (.ref f))(B:BN mg)(Kn:KN mg)(Kx:KX K mg)(gaa:CF P w K mg base "_law_next" 1 (sp1 K 2 zp_)):CF P w K mg base "_law_one" 2 (sp1 K 2 zP_) :=
 ⟨f,fd,["_law_feed_here", "_law_some"],YY_ Fn B Kn Kx gaa,hmg,Fn.kp,(bnd2 Fn λ_ _ _ _ _ _ _ _=>rfl)⟩
noncomputable abbrev zZ_:Stmt:=top 17
noncomputable abbrev yp_:List Str:=["_law_feed_here", "_law_most", "_law_sorts", "_law_rooms", "_law_often", "_law_meets", "_law_a", "_law_b", "_law_c", "_law_d", "_law_starts"]
theorem sc__law_rule:FnScope yp_ ["_law_feed_here", "_law_most", "_law_sorts"] (ze_ zZ_):=⟨rfl,rfl,rfl,by decide +kernel,rfl,by decide +kernel,by decide +kernel⟩
noncomputable abbrev N__law_rule_0:List Str:=["_law_feed_here", "_law_most", "_law_sorts", "_law_rooms", "_law_often", "_law_meets", "_law_a", "_law_b", "_law_c", "_law_d", "_law_starts", "_law_sort"]
theorem y8_:N__law_rule_0.Nodup:=by decide +kernel
noncomputable abbrev N__law_rule_1:List Str:=["_law_feed_here", "_law_most", "_law_sorts", "_law_rooms", "_law_often", "_law_meets", "_law_a", "_law_b", "_law_c", "_law_d", "_law_starts", "_law_room"]
theorem y7_:N__law_rule_1.Nodup:=by decide +kernel
def ya_(gac:List D)(gak:D)(gae:D)(gau:D)(gam:List D):M (D×List D) :=
 bd (oM (jh_ [gak])) λl6=>bd (uy_ (λs7 d8=>bd (zg_ s7.1 s7.2.2.1) λr9=>.ret (some r9.1,(r9.2,s7.2.1,s7.2.2.1,s7.2.2.2.1,()))) l6 (gac,gak,gae,gam,())) λr10=>bd (fitM r10.1) λl11=>bd (oM (uI_ [(PyData.list l11)])) λx12=>bd (oM (uI_ [(PyData.list r10.2.2.2.2.1)])) λx13=>bd (oM (jh_ [r10.2.2.2.1])) λl14=>bd (uy_ (λs15 d16=>bd (zg_ s15.1 (.int 2)) λr17=>bd (oM (opEq r17.1 (.int 0))) λb18=>.ret (some (.bool b18),(r17.2,s15.2.1,()))) l14 (r10.2.1,r10.2.2.2.1,())) λr19=>bd (fitM r19.1) λl20=>bd (oM (uI_ [(PyData.list l20)])) λx21=>.ret ((.tuple [r10.2.2.2.1,x12,x13,x21]),r19.2.1)
noncomputable def u9_(kn22:List D×D×D×D×List D×Unit->M (D×List D))(gac:List D)(gak:D)(gae:D)(gau:D)(gam:List D)(gaL:D):M (D×List D) :=
 kn22 (gac,gak,gae,gau,gam,())
def u8_(kn22:List D×D×D×D×List D×Unit->M (D×List D))(gac:List D)(gak:D)(gae:D)(gau:D)(gam:List D)(gaL:D)(d_:D)(kn24:List D×D×D×D×List D×D×Unit->M (D×List D)):M (D×List D) :=
 bd (zg_ gac gae) λr25=>bd (zg_ r25.2 gae) λr26=>bd (jy_ r26.2 (.list [d_,gaL,r26.1])) λr27=>bd (zg_ r27.2 gau) λr28=>bd (oM (opEq r28.1 (.int 0))) λb29=>if b29 then bd (oM (uT_ (.tuple [r25.1,r27.1]) (.tuple [(.tuple [gaL,d_]),(.tuple [d_,gaL])]))) λb30=>if b30 then
  bd (oM (mApp gam [(.tuple [gaL,d_,r25.1,r27.1])])) λl31=>kn24 (r28.2,gak,gae,gau,l31,gaL,())
  else
  kn24 (r28.2,gak,gae,gau,gam,gaL,())else kn24 (r28.2,gak,gae,gau,gam,gaL,())
def uk_(gac:List D)(gak:D)(gae:D)(gau:D)(gam:List D)(d_:D)(kn22:List D×D×D×D×List D×Unit->M (D×List D)):M (D×List D) :=
 bd (oM (yS_ [d_,gae])) λl23=>forS (λs32 d33 kn=>u8_ kn22 s32.1 s32.2.1 s32.2.2.1 s32.2.2.2.1 s32.2.2.2.2.1 s32.2.2.2.2.2.1 d33 kn) l23 (gac,gak,gae,gau,gam,d_,()) (λs32=>u9_ kn22 s32.1 s32.2.1 s32.2.2.1 s32.2.2.2.1 s32.2.2.2.2.1 s32.2.2.2.2.2.1)
def jZ_(gab:List D)(gaM:D)(gav:D):M (D×List D) :=
 bd (zg_ gab gaM) λr1=>bd (oM (zL_ (.int 1) r1.1)) λx2=>bd (zg_ r1.2 (.int 3)) λr3=>bd (oM (zL_ (.int 1) r3.1)) λx4=>bd (oM (jh_ [x2])) λl5=>forS (λs34 d35 kn=>uk_ s34.1 s34.2.1 s34.2.2.1 s34.2.2.2.1 s34.2.2.2.2.1 d35 kn) l5 (r3.2,gav,x2,x4,[],()) (λs34=>ya_ s34.1 s34.2.1 s34.2.2.1 s34.2.2.2.1 s34.2.2.2.2.1)
def j8_:List D->List D->M (D×List D):=λgab l=>match l with
 | [gaM,gav]=>jZ_ gab gaM gav
 | _=>.bad
set_option maxHeartbeats 4000000 in
theorem U7_{f:Addr}{fd:FuncData}(Fn:Fun K "_law_rule" "_law_rule" zZ_ f fd)(B:BN mg)(Kn:KN mg)(Kx:KX K mg)(gaa:CF P w K mg base "_law_next" 1 (sp1 K 2 zp_))(gaj:CF P w K mg base "_law_one" 2 (sp1 K 2 zP_)):FnOk P w K mg base (CX1 P w) 3 f fd ["_law_feed_here", "_law_most", "_law_sorts"] (sp1 K 3 j8_) :=
 Js_ (k:=2) Fn sc__law_rule (λcdv A outer s H E hr =>
 (zf_ (z2_ (sh:=[.p,.dead,.f,.f,.dead,.dead,.dead,.dead,.dead,.dead,.dead]) (zT_ (i:=3) sc__law_rule.nd rfl (by first|exact Or.inl rfl|exact Or.inr rfl) (Yy_ zu_ zS_ (zh_ zc_) (zC_ (i:=0) gaa (hr.mono (by decide)) rfl rfl (by first|exact Or.inl rfl|exact Or.inr (Or.inl rfl)|exact Or.inr (Or.inr rfl)) (zd_ (zh_ (av 1)) zk_ (za_ rfl)) rfl (by decide) rfl rfl)) rfl (.inl rfl)))
  (zf_ (z2_ (sh:=[.p,.dead,.f,.f,.f,.dead,.dead,.dead,.dead,.dead,.dead]) (zT_ (i:=4) sc__law_rule.nd rfl (by first|exact Or.inl rfl|exact Or.inr rfl) (Yy_ zu_ zS_ (zh_ zc_) (zC_ (i:=0) gaa (hr.mono (by decide)) rfl rfl (by first|exact Or.inl rfl|exact Or.inr (Or.inl rfl)|exact Or.inr (Or.inr rfl)) (zd_ (zh_ zc_) zk_ (za_ rfl)) rfl (by decide) rfl rfl)) rfl (.inl rfl)))
  (zf_ (z2_ (sh:=[.p,.dead,.f,.f,.f,.o,.dead,.dead,.dead,.dead,.dead]) (Uf_ (i:=5) sc__law_rule.nd rfl (by first|exact Or.inl rfl|exact Or.inr rfl) (Yx_ (j2_ zi_ (by decide +kernel))) rfl (.inl rfl)))
  (zf_ (yn_ (sh:=[.p,.dead,.f,.f,.f,.o,.dead,.dead,.dead,.dead,.dead]) PassesOwn.leaving rfl (uP_ (j3_ rfl B.range (zb_ (av 3) zi_ (za_ rfl)) rfl)) (zy_ (i:=6) (Nat.zero_le _) sc__law_rule.nd rfl (by first|exact Or.inl rfl|exact Or.inr rfl) (.inl rfl))
  (zj_ (yn_ (sh:=[.p,.dead,.f,.f,.f,.o,.f,.dead,.dead,.dead,.dead]) PassesOwn.leaving rfl (uP_ (Xp_ rfl B.range (zb_ (av 6) (zb_ (av 3) zi_ (za_ rfl)) (za_ rfl)) rfl rfl)) (zy_ (i:=7) (Nat.zero_le _) sc__law_rule.nd rfl (by first|exact Or.inl rfl|exact Or.inr rfl) (.inl rfl))
  (zf_ (z2_ (sh:=[.p,.dead,.f,.f,.f,.o,.f,.f,.f,.f,.dead]) (zbm_ (i:=8) (j:=9) rfl sc__law_rule.nd rfl rfl (by decide) rfl rfl (zd_ (zC_ (i:=0) gaa (hr.mono (by decide)) rfl rfl (by first|exact Or.inl rfl|exact Or.inr (Or.inl rfl)|exact Or.inr (Or.inr rfl)) (zd_ (zh_ (av 3)) zk_ (za_ rfl)) rfl (by decide) rfl rfl) (zd_ (zC_ (i:=0) gaj (hr.mono (by decide)) rfl rfl (by first|exact Or.inl rfl|exact Or.inr (Or.inl rfl)|exact Or.inr (Or.inr rfl)) (zd_ (ae_z (Xt_ (zd_ (zh_ (av 7)) (zd_ (zh_ (av 6)) (zd_ (zC_ (i:=0) gaa (hr.mono (by decide)) rfl rfl (by first|exact Or.inl rfl|exact Or.inr (Or.inl rfl)|exact Or.inr (Or.inr rfl)) (zd_ (zh_ (av 3)) zk_ (za_ rfl)) rfl (by decide) rfl rfl) zk_ (za_ rfl)) (za_ rfl)) (za_ rfl)) (by decide +kernel))) zk_ (za_ rfl)) rfl (by decide) rfl rfl) zk_ (za_ rfl)) (za_ rfl)) rfl rfl))
  (zj_ (jC_ (zeN_ (zcQ_ (Xs_ (jD_ (zl_ hr)) jN_ (zC_ (i:=0) gaa (hr.mono (by decide)) rfl rfl (by first|exact Or.inl rfl|exact Or.inr (Or.inl rfl)|exact Or.inr (Or.inr rfl)) (zd_ (zh_ (av 4)) zk_ (za_ rfl)) rfl (by decide) rfl rfl) (zh_ zc_) rfl) (zav_ (zU_ (zO_ (yN_ (zl_ hr)) Zs_ (ao (zJ_ (zb_ (av 8) (zb_ (av 9) zi_ (za_ rfl)) (za_ rfl)) (by decide +kernel))) (ao (zJ_ (zb_ (zJ_ (zb_ (av 6) (zb_ (av 7) zi_ (za_ rfl)) (za_ rfl)) (by decide +kernel)) (zb_ (zJ_ (zb_ (av 7) (zb_ (av 6) zi_ (za_ rfl)) (za_ rfl)) (by decide +kernel)) zi_ (za_ rfl)) (za_ rfl)) (by decide +kernel))) rfl)))))
  (zj_ (Xj_ (i:=5) rfl (by first|exact Or.inl rfl|exact Or.inr (Or.inl rfl)|exact Or.inr (Or.inr rfl)) (zd_ (zh_ (zJ_ (zb_ (av 6) (zb_ (av 7) (zb_ (av 8) (zb_ (av 9) zi_ (za_ rfl)) (za_ rfl)) (za_ rfl)) (za_ rfl)) (by decide +kernel))) zk_ (za_ rfl)) rfl rfl rfl rfl rfl rfl))
  zw_))) (λ_=>rfl))) (λ_=>rfl))
  (zf_ (z2_ (sh:=[.p,.dead,.dead,.f,.dead,.o,.dead,.dead,.dead,.dead,.f]) (zT_ (i:=10) sc__law_rule.nd rfl (by first|exact Or.inl rfl|exact Or.inr rfl) (uQ_ z1_ uu_ rfl B.tuple (by decide +kernel) (zd_ (ae_z (Zg_ (sh:=[.p,.dead,.f,.f,.dead,.o,.dead,.dead,.dead,.dead,.dead]) (N':=N__law_rule_0) (k:=1) rfl (z9_ (N:=yp_) (sc:=(ze_ zZ_)) (by decide +kernel) rfl rfl) (uP_ (j3_ rfl B.range (zb_ (av 2) zi_ (za_ rfl)) rfl)) (λcl s' H' fp C'=>(zy_ (i:=11) (show 11<=11 by decide) y8_ rfl (by first|exact Or.inl rfl|exact Or.inr rfl) (.inr rfl))) (λcl s' H' fp C'=>(ZR_ j1_)) (λcl s' H' fp C'=>(zC_ (i:=0) gaa (hr.mono (by decide)) rfl rfl (by first|exact Or.inl rfl|exact Or.inr (Or.inl rfl)|exact Or.inr (Or.inr rfl)) (zd_ (zh_ (av 3)) zk_ (za_ rfl)) rfl (by decide) rfl rfl)) (λ_=>rfl))) zk_ (za_ rfl)) (by decide) (by decide) rfl rfl) rfl (.inl rfl)))
  (zj_ (zq_ (ZS_ (zd_ (zh_ (av 3)) (zd_ (zh_ (av 10)) (zd_ (zh_ (ZQ_ z1_ uu_ rfl B.tuple (by decide +kernel) (zm_ (uD_ (i:=5) rfl (by first|exact Or.inl rfl|exact Or.inr (Or.inl rfl)|exact Or.inr (Or.inr rfl))) zt_ (za_ rfl)) (by decide) (by decide) rfl rfl)) (zd_ (uQ_ z1_ uu_ rfl B.tuple (by decide +kernel) (zd_ (ae_z (Zg_ (sh:=[.p,.dead,.dead,.f,.dead,.dead,.dead,.dead,.dead,.dead,.dead]) (N':=N__law_rule_1) (k:=1) rfl (z9_ (N:=yp_) (sc:=(ze_ zZ_)) (by decide +kernel) rfl rfl) (uP_ (j3_ rfl B.range (zb_ (av 3) zi_ (za_ rfl)) rfl)) (λcl s' H' fp C'=>(zy_ (i:=11) (show 11<=11 by decide) y7_ rfl (by first|exact Or.inl rfl|exact Or.inr rfl) (.inr rfl))) (λcl s' H' fp C'=>(ZR_ j1_)) (λcl s' H' fp C'=>(ae_b (Xv_ (jD_ (zl_ hr)) jN_ (zC_ (i:=0) gaa (hr.mono (by decide)) rfl rfl (by first|exact Or.inl rfl|exact Or.inr (Or.inl rfl)|exact Or.inr (Or.inr rfl)) (zd_ (zh_ zc_) zk_ (za_ rfl)) rfl (by decide) rfl rfl) (zh_ zc_) rfl))) (λ_=>rfl))) zk_ (za_ rfl)) (by decide) (by decide) rfl rfl) zk_ (za_ rfl)) (za_ rfl)) (za_ rfl)) (za_ rfl)) (by decide +kernel))))))))))
 (λg ds hl=>match ds,hl with | [gaM,gav],_=>by kernel_rfl)
theorem UP_{f:Addr}{fd:FuncData}(Fn:Fun K "_law_rule" "_law_rule" zZ_ f fd)(hmg:mg "_law_rule" = some (.ref f))(B:BN mg)(Kn:KN mg)(Kx:KX K mg)(gaa:CF P w K mg base "_law_next" 1 (sp1 K 2 zp_))(gaj:CF P w K mg base "_law_one" 2 (sp1 K 2 zP_)):CF P w K mg base "_law_rule" 3 (sp1 K 3 j8_) :=
 ⟨f,fd,["_law_feed_here", "_law_most", "_law_sorts"],U7_ Fn B Kn Kx gaa gaj,hmg,Fn.kp,(bnd3 Fn λ_ _ _ _ _ _ _ _ _=>rfl)⟩
noncomputable abbrev zF_:Stmt:=top 18
noncomputable abbrev ue_:List Str:=["_law_feed_here", "_law_sorts", "_law_rooms", "_law_pairs", "_law_meets", "_law_a", "_law_b", "_law_c", "_law_d", "_law_says"]
theorem sc__law_great:FnScope ue_ ["_law_feed_here", "_law_sorts"] (ze_ zF_):=⟨rfl,rfl,rfl,by decide +kernel,rfl,by decide +kernel,by decide +kernel⟩
noncomputable abbrev N__law_great_0:List Str:=["_law_feed_here", "_law_sorts", "_law_rooms", "_law_pairs", "_law_meets", "_law_a", "_law_b", "_law_c", "_law_d", "_law_says", "_law_k"]
theorem yQ_:N__law_great_0.Nodup:=by decide +kernel
noncomputable abbrev N__law_great_1:List Str:=["_law_feed_here", "_law_sorts", "_law_rooms", "_law_pairs", "_law_meets", "_law_a", "_law_b", "_law_c", "_law_d", "_law_says", "_law_room"]
theorem yP_:N__law_great_1.Nodup:=by decide +kernel
noncomputable abbrev N__law_great_2:List Str:=["_law_feed_here", "_law_sorts", "_law_rooms", "_law_pairs", "_law_meets", "_law_a", "_law_b", "_law_c", "_law_d", "_law_says", "_law_sort"]
theorem yO_:N__law_great_2.Nodup:=by decide +kernel
def j0_(gac:List D)(gak:D)(gae:D)(gam:List D):M (D×List D) :=
 bd (oM (jh_ [gae])) λl15=>bd (uy_ (λs16 d17=>bd (zg_ s16.1 (.int 2)) λr18=>bd (oM (opEq r18.1 (.int 0))) λb19=>.ret (some (.bool b19),(r18.2,s16.2.1,s16.2.2.1,s16.2.2.2.1,()))) l15 (gac,gak,gae,gam,())) λr20=>bd (fitM r20.1) λl21=>bd (oM (uI_ [(PyData.list l21)])) λx22=>bd (oM (jh_ [r20.2.2.1])) λl23=>bd (uy_ (λs24 d25=>bd (zg_ s24.1 s24.2.2.1) λr26=>.ret (some r26.1,(r26.2,s24.2.1,s24.2.2.1,s24.2.2.2.1,s24.2.2.2.2.1,()))) l23 (r20.2.1,r20.2.2.1,r20.2.2.2.1,r20.2.2.2.2.1,x22,())) λr27=>bd (fitM r27.1) λl28=>bd (oM (uI_ [(PyData.list l28)])) λx29=>bd (oM (uI_ [(PyData.list r27.2.2.2.2.1)])) λx30=>.ret ((.tuple [r20.2.2.2.1,x29,x30,r27.2.2.2.2.2.1]),r27.2.1)
def uN_(gac:List D)(gak:D)(gae:D)(gam:List D)(d_:D)(kn31:List D×D×D×List D×Unit->M (D×List D)):M (D×List D) :=
 un2 d_ λy32 y33=>bd (zg_ gac gae) λr34=>bd (zg_ r34.2 gae) λr35=>bd (oM (uT_ (.tuple [r34.1,r35.1]) (.tuple [(.tuple [y32,y33]),(.tuple [y33,y32])]))) λb36=>if b36 then
  bd (oM (mApp gam [(.tuple [y32,y33,r34.1,r35.1])])) λl37=>kn31 (r35.2,gak,gae,l37,())
  else
  kn31 (r35.2,gak,gae,gam,())
def ud_(gab:List D)(gav:D):M (D×List D) :=
 bd (jy_ gab (PyData.list [(.int 40),(.int 39),(.int 7),(.int 12)])) λr1=>bd (zg_ r1.2 (.int 6)) λr2=>bd (oM (jh_ [r2.1])) λl3=>bd (uy_ (λs4 d5=>bd (zg_ s4.1 s4.2.2.1) λr6=>bd (zg_ r6.2 s4.2.2.1) λr7=>bd (oM (u6_ [(.list [r6.1,r7.1])])) λx8=>bd (oM (uI_ [(PyData.list x8)])) λx9=>.ret (some x9,(r7.2,s4.2.1,s4.2.2.1,()))) l3 (r2.2,gav,r1.1,())) λr10=>bd (fitM r10.1) λl11=>bd (bd (bd (oM (fSet [(PyData.list l11)])) λl12=>.ret (PyData.list l12)) λx13=>oM (seqD x13)) λl14=>forS (λs38 d39 kn=>uN_ s38.1 s38.2.1 s38.2.2.1 s38.2.2.2.1 d39 kn) l14 (r10.2.1,r10.2.2.1,r10.2.2.2.1,[],()) (λs38=>j0_ s38.1 s38.2.1 s38.2.2.1 s38.2.2.2.1)
def jT_:List D->List D->M (D×List D):=λgab l=>match l with
 | [gav]=>ud_ gab gav
 | _=>.bad
set_option maxHeartbeats 4000000 in
theorem Ua_{f:Addr}{fd:FuncData}(Fn:Fun K "_law_great" "_law_great" zF_ f fd)(B:BN mg)(Kn:KN mg)(Kx:KX K mg)(gaj:CF P w K mg base "_law_one" 2 (sp1 K 2 zP_))(gaa:CF P w K mg base "_law_next" 1 (sp1 K 2 zp_)):FnOk P w K mg base (CX1 P w) 3 f fd ["_law_feed_here", "_law_sorts"] (sp1 K 2 jT_) :=
 Js_ (k:=2) Fn sc__law_great (λcdv A outer s H E hr =>
 (zf_ (z2_ (sh:=[.p,.f,.f,.dead,.dead,.dead,.dead,.dead,.dead,.dead]) (zT_ (i:=2) sc__law_great.nd rfl (by first|exact Or.inl rfl|exact Or.inr rfl) (zC_ (i:=0) gaj (hr.mono (by decide)) rfl rfl (by first|exact Or.inl rfl|exact Or.inr (Or.inl rfl)|exact Or.inr (Or.inr rfl)) (zd_ (zh_ (ap_z (j2_ (zb_ zc_ (zb_ zc_ (zb_ zc_ (zb_ zc_ zi_ (za_ rfl)) (za_ rfl)) (za_ rfl)) (za_ rfl)) (by decide +kernel)))) zk_ (za_ rfl)) rfl (by decide) rfl rfl) rfl (.inl rfl)))
  (zf_ (z2_ (sh:=[.p,.f,.f,.f,.dead,.dead,.dead,.dead,.dead,.dead]) (Y3_ (i:=3) sc__law_great.nd rfl (by first|exact Or.inl rfl|exact Or.inr rfl) (.inl rfl) (sh:=[.p,.f,.f,.dead,.dead,.dead,.dead,.dead,.dead,.dead]) (N':=N__law_great_0) (k:=1) rfl (z9_ (N:=ue_) (sc:=(ze_ zF_)) (by decide +kernel) rfl rfl) (VE_ rfl B.range (zd_ (zC_ (i:=0) gaa (hr.mono (by decide)) rfl rfl (by first|exact Or.inl rfl|exact Or.inr (Or.inl rfl)|exact Or.inr (Or.inr rfl)) (zd_ (zh_ zc_) zk_ (za_ rfl)) rfl (by decide) rfl rfl) zk_ (za_ rfl)) rfl) (λcl s' H' fp C'=>(zy_ (i:=10) (show 10<=10 by decide) yQ_ rfl (by first|exact Or.inl rfl|exact Or.inr rfl) (.inr rfl))) (λcl s' H' fp C'=>(ZR_ j1_)) (λcl s' H' fp C'=>(uQ_ z1_ uu_ rfl B.tuple (by decide +kernel) (zd_ (ae_z (Xu_ (yW_ rfl) JU_ rfl B.sorted (by decide +kernel) (zd_ (ae_z (Xt_ (zd_ (zC_ (i:=0) gaa (hr.mono (by decide)) rfl rfl (by first|exact Or.inl rfl|exact Or.inr (Or.inl rfl)|exact Or.inr (Or.inr rfl)) (zd_ (zh_ (av 2)) zk_ (za_ rfl)) rfl (by decide) rfl rfl) (zd_ (zC_ (i:=0) gaa (hr.mono (by decide)) rfl rfl (by first|exact Or.inl rfl|exact Or.inr (Or.inl rfl)|exact Or.inr (Or.inr rfl)) (zd_ (zh_ (av 2)) zk_ (za_ rfl)) rfl (by decide) rfl rfl) zk_ (za_ rfl)) (za_ rfl)) (by decide +kernel))) zk_ (za_ rfl)) (by decide) (by decide) rfl rfl)) zk_ (za_ rfl)) (by decide) (by decide) rfl rfl)) rfl (λ_=>rfl)))
  (zf_ (z2_ (sh:=[.p,.f,.f,.f,.o,.dead,.dead,.dead,.dead,.dead]) (Uf_ (i:=4) sc__law_great.nd rfl (by first|exact Or.inl rfl|exact Or.inr rfl) (Yx_ (j2_ zi_ (by decide +kernel))) rfl (.inl rfl)))
  (zf_ (yn_ (sh:=[.p,.f,.f,.dead,.o,.dead,.dead,.dead,.dead,.dead]) PassesOwn.leaving rfl (uP_ (yI_ (ap_z (JE_ rfl (zl_ hr) rfl B.sorted rfl B.set (zm_ (ao (av 3)) zt_ (za_ rfl)) rfl rfl)))) (zcP_ rfl (jI_ (zy_ (i:=5) (Nat.zero_le _) sc__law_great.nd rfl (by first|exact Or.inl rfl|exact Or.inr rfl) (.inl rfl)) (jI_ (zy_ (i:=6) (Nat.zero_le _) sc__law_great.nd rfl (by first|exact Or.inl rfl|exact Or.inr rfl) (.inl rfl)) Y5_ rfl) rfl) rfl rfl)
  (zf_ (z2_ (sh:=[.p,.f,.f,.dead,.o,.f,.f,.f,.f,.dead]) (zbm_ (i:=7) (j:=8) rfl sc__law_great.nd rfl rfl (by decide) rfl rfl (zd_ (zC_ (i:=0) gaa (hr.mono (by decide)) rfl rfl (by first|exact Or.inl rfl|exact Or.inr (Or.inl rfl)|exact Or.inr (Or.inr rfl)) (zd_ (zh_ (av 2)) zk_ (za_ rfl)) rfl (by decide) rfl rfl) (zd_ (zC_ (i:=0) gaa (hr.mono (by decide)) rfl rfl (by first|exact Or.inl rfl|exact Or.inr (Or.inl rfl)|exact Or.inr (Or.inr rfl)) (zd_ (zh_ (av 2)) zk_ (za_ rfl)) rfl (by decide) rfl rfl) zk_ (za_ rfl)) (za_ rfl)) rfl rfl))
  (zj_ (jC_ (zU_ (zO_ (yN_ (zl_ hr)) Zs_ (ao (zJ_ (zb_ (av 7) (zb_ (av 8) zi_ (za_ rfl)) (za_ rfl)) (by decide +kernel))) (ao (zJ_ (zb_ (zJ_ (zb_ (av 5) (zb_ (av 6) zi_ (za_ rfl)) (za_ rfl)) (by decide +kernel)) (zb_ (zJ_ (zb_ (av 6) (zb_ (av 5) zi_ (za_ rfl)) (za_ rfl)) (by decide +kernel)) zi_ (za_ rfl)) (za_ rfl)) (by decide +kernel))) rfl))
  (zj_ (Xj_ (i:=4) rfl (by first|exact Or.inl rfl|exact Or.inr (Or.inl rfl)|exact Or.inr (Or.inr rfl)) (zd_ (zh_ (zJ_ (zb_ (av 5) (zb_ (av 6) (zb_ (av 7) (zb_ (av 8) zi_ (za_ rfl)) (za_ rfl)) (za_ rfl)) (za_ rfl)) (by decide +kernel))) zk_ (za_ rfl)) rfl rfl rfl rfl rfl rfl))
  zw_))) (λ_=>rfl))
  (zf_ (z2_ (sh:=[.p,.f,.f,.dead,.o,.dead,.dead,.dead,.dead,.f]) (zT_ (i:=9) sc__law_great.nd rfl (by first|exact Or.inl rfl|exact Or.inr rfl) (uQ_ z1_ uu_ rfl B.tuple (by decide +kernel) (zd_ (ae_z (Zg_ (sh:=[.p,.f,.f,.dead,.o,.dead,.dead,.dead,.dead,.dead]) (N':=N__law_great_1) (k:=1) rfl (z9_ (N:=ue_) (sc:=(ze_ zF_)) (by decide +kernel) rfl rfl) (uP_ (j3_ rfl B.range (zb_ (av 2) zi_ (za_ rfl)) rfl)) (λcl s' H' fp C'=>(zy_ (i:=10) (show 10<=10 by decide) yP_ rfl (by first|exact Or.inl rfl|exact Or.inr rfl) (.inr rfl))) (λcl s' H' fp C'=>(ZR_ j1_)) (λcl s' H' fp C'=>(ae_b (Xv_ (jD_ (zl_ hr)) jN_ (zC_ (i:=0) gaa (hr.mono (by decide)) rfl rfl (by first|exact Or.inl rfl|exact Or.inr (Or.inl rfl)|exact Or.inr (Or.inr rfl)) (zd_ (zh_ zc_) zk_ (za_ rfl)) rfl (by decide) rfl rfl) (zh_ zc_) rfl))) (λ_=>rfl))) zk_ (za_ rfl)) (by decide) (by decide) rfl rfl) rfl (.inl rfl)))
  (zj_ (zq_ (ZS_ (zd_ (zh_ (av 2)) (zd_ (uQ_ z1_ uu_ rfl B.tuple (by decide +kernel) (zd_ (ae_z (Zg_ (sh:=[.p,.f,.f,.dead,.o,.dead,.dead,.dead,.dead,.f]) (N':=N__law_great_2) (k:=1) rfl (z9_ (N:=ue_) (sc:=(ze_ zF_)) (by decide +kernel) rfl rfl) (uP_ (j3_ rfl B.range (zb_ (av 1) zi_ (za_ rfl)) rfl)) (λcl s' H' fp C'=>(zy_ (i:=10) (show 10<=10 by decide) yO_ rfl (by first|exact Or.inl rfl|exact Or.inr rfl) (.inr rfl))) (λcl s' H' fp C'=>(ZR_ j1_)) (λcl s' H' fp C'=>(zC_ (i:=0) gaa (hr.mono (by decide)) rfl rfl (by first|exact Or.inl rfl|exact Or.inr (Or.inl rfl)|exact Or.inr (Or.inr rfl)) (zd_ (zh_ (av 2)) zk_ (za_ rfl)) rfl (by decide) rfl rfl)) (λ_=>rfl))) zk_ (za_ rfl)) (by decide) (by decide) rfl rfl) (zd_ (zh_ (ZQ_ z1_ uu_ rfl B.tuple (by decide +kernel) (zm_ (uD_ (i:=4) rfl (by first|exact Or.inl rfl|exact Or.inr (Or.inl rfl)|exact Or.inr (Or.inr rfl))) zt_ (za_ rfl)) (by decide) (by decide) rfl rfl)) (zd_ (zh_ (av 9)) zk_ (za_ rfl)) (za_ rfl)) (za_ rfl)) (za_ rfl)) (by decide +kernel))))))))))
 (λg ds hl=>match ds,hl with | [gav],_=>by kernel_rfl)
theorem JZ_{f:Addr}{fd:FuncData}(Fn:Fun K "_law_great" "_law_great" zF_ f fd)(hmg:mg "_law_great" = some (.ref f))(B:BN mg)(Kn:KN mg)(Kx:KX K mg)(gaj:CF P w K mg base "_law_one" 2 (sp1 K 2 zP_))(gaa:CF P w K mg base "_law_next" 1 (sp1 K 2 zp_)):CF P w K mg base "_law_great" 3 (sp1 K 2 jT_) :=
 ⟨f,fd,["_law_feed_here", "_law_sorts"],Ua_ Fn B Kn Kx gaj gaa,hmg,Fn.kp,(bnd2 Fn λ_ _ _ _ _ _ _ _=>rfl)⟩
noncomputable abbrev z6_:Stmt:=top 19
noncomputable abbrev YD_:List Str:=["_law_thing", "_law_low", "_law_high"]
theorem JN_:FnScope YD_ ["_law_thing", "_law_low", "_law_high"] (ze_ z6_):=⟨rfl,rfl,rfl,by decide +kernel,rfl,by decide +kernel,by decide +kernel⟩
def ja_(gaf:D)(gaP:D)(gaN:D):M D :=
 bd (bd (bd (oM (isTo "int" gaf)) λb4=>if b4 then bd (bd (oM (isTo "bool" gaf)) λb1=>.ret (!b1)) λb3=>if b3 then bd (oM (u0_ gaP gaf)) λb2=>if b2 then oM (u0_ gaf gaN)else .ret false else .ret false else .ret false) λb5=>.ret (.bool b5)) λx6=>.ret x6
def jR_:List D->M D:=λl=>match l with
 | [gaf,gaP,gaN]=>ja_ gaf gaP gaN
 | _=>.bad
set_option maxHeartbeats 4000000 in
theorem J8_{f:Addr}{fd:FuncData}(Fn:Fun K "_law_whole" "_law_whole" z6_ f fd)(B:BN mg)(Kn:KN mg)(Kx:KX K mg):FnOk P w K mg base (CX1 P w) 1 f fd ["_law_thing", "_law_low", "_law_high"] (spD K 3 jR_) :=
 un_ (k:=0) Fn JN_ (λcdv A outer s H E hr =>
 (zj_ (zq_ (zh_ (ap_b (yb_ (yJ_ (T := "int") (by decide) rfl B.isinstance rfl B.int (by decide +kernel) (ao (av 0)) rfl rfl rfl) (yb_ (zbo_ (yJ_ (T := "bool") (by decide) rfl B.isinstance rfl B.bool (by decide +kernel) (ao (av 0)) rfl rfl rfl)) (ZT_ (Q2_ (yy_ (zl_ hr)) (yy_ (zl_ hr)) yz_ yz_ (ao (av 1)) (ao (av 0)) (ao (av 2)) (by with_unfolding_all rfl))))))))))
 (λds hl=>match ds,hl with | [gaf,gaP,gaN],_=>by kernel_rfl)
theorem JX_{f:Addr}{fd:FuncData}(Fn:Fun K "_law_whole" "_law_whole" z6_ f fd)(hmg:mg "_law_whole" = some (.ref f))(B:BN mg)(Kn:KN mg)(Kx:KX K mg):CF P w K mg base "_law_whole" 1 (spD K 3 jR_) :=
 ⟨f,fd,["_law_thing", "_law_low", "_law_high"],J8_ Fn B Kn Kx,hmg,Fn.kp,(bnd3 Fn λ_ _ _ _ _ _ _ _ _=>rfl)⟩
noncomputable abbrev zr_:Stmt:=top 20
noncomputable abbrev jj_:List Str:=["_law_thing", "_law_rooms", "_law_starts", "_law_meets", "_law_says", "_law_pairs", "_law_meeting"]
theorem sc__law_is_rule:FnScope jj_ ["_law_thing"] (ze_ zr_):=⟨rfl,rfl,rfl,by decide +kernel,rfl,by decide +kernel,by decide +kernel⟩
noncomputable abbrev N__law_is_rule_0:List Str:=["_law_thing", "_law_rooms", "_law_starts", "_law_meets", "_law_says", "_law_pairs", "_law_meeting", "_law_part"]
theorem yl_:N__law_is_rule_0.Nodup:=by decide +kernel
noncomputable abbrev N__law_is_rule_1:List Str:=["_law_thing", "_law_rooms", "_law_starts", "_law_meets", "_law_says", "_law_pairs", "_law_meeting", "_law_one_here"]
theorem yk_:N__law_is_rule_1.Nodup:=by decide +kernel
noncomputable abbrev N__law_is_rule_2:List Str:=["_law_thing", "_law_rooms", "_law_starts", "_law_meets", "_law_says", "_law_pairs", "_law_meeting", "_law_one_here"]
theorem yj_:N__law_is_rule_2.Nodup:=by decide +kernel
noncomputable abbrev N__law_is_rule_3:List Str:=["_law_thing", "_law_rooms", "_law_starts", "_law_meets", "_law_says", "_law_pairs", "_law_meeting", "_law_one_here"]
theorem yi_:N__law_is_rule_3.Nodup:=by decide +kernel
def jf_(gae:D)(gaK:List D):M D :=
 bd (bd (bd (bd (oM (fSet [(PyData.list gaK)])) λl43=>.ret (PyData.list l43)) λx44=>oM (opEq (PyData.list gaK) x44)) λb45=>.ret (.bool b45)) λx46=>.ret x46
def je_(gae:D)(gaK:List D)(d_:D)(kn47:D×List D×Unit->M D):M D :=
 bd (bd (bd (oM (isTo "tuple" d_)) λb48=>.ret (!b48)) λb50=>if b50 then .ret true else bd (oM (fLen [d_])) λx49=>oM (opNe x49 (.int 4))) λb51=>if b51 then
  .ret (.bool false)
  else
  bd (bd (bd (bd (oM (seqD d_)) λl55=>bd (j4_ (λd52=>bd (bd (oM (uZ_ gae (.int 1))) λx53=>ja_ d52 (.int 0) x53) λx54=>.ret (some x54)) l55) fitM) λl56=>.ret (PyData.list l56)) λx57=>oM (UI_ (.bool false) x57)) λb58=>if b58 then
  .ret (.bool false)
  else
  bd (bd (bd (oM (jK_ d_ (.int 0))) λx59=>bd (oM (jK_ d_ (.int 1))) λx60=>oM (opGt x59 x60)) λb69=>if b69 then .ret true else bd (bd (bd (bd (asI (.int 2)) λhi61=>oM (fCut d_ none hi61)) λx62=>oM (u6_ [x62])) λl63=>.ret (PyData.list l63)) λx67=>bd (bd (bd (bd (asI (.int 2)) λlo64=>oM (fCut d_ lo64 none)) λx65=>oM (u6_ [x65])) λl66=>.ret (PyData.list l66)) λx68=>oM (opEq x67 x68)) λb70=>if b70 then
  .ret (.bool false)
  else
  bd (bd (asI (.int 2)) λhi71=>oM (fCut d_ none hi71)) λx72=>bd (oM (mApp gaK [x72])) λl73=>kn47 (gae,l73,())
def zR_(gaf:D):M D :=
 bd (bd (bd (oM (isTo "tuple" gaf)) λb1=>.ret (!b1)) λb7=>if b7 then .ret true else bd (bd (oM (fLen [gaf])) λx2=>oM (opNe x2 (.int 4))) λb6=>if b6 then .ret true else bd (bd (bd (oM (jK_ gaf (.int 0))) λx3=>ja_ x3 (.int 1) (.int 40)) λx4=>oM (truD x4)) λb5=>.ret (!b5)) λb8=>if b8 then
  .ret (.bool false)
  else
  un4 gaf λy9 y10 y11 y12=>bd (bd (bd (bd (bd (bd (bd (asI (.int 1)) λlo13=>oM (fCut gaf lo13 none)) λx14=>oM (seqD x14)) λl18=>bd (j4_ (λd15=>bd (bd (oM (isTo "tuple" d15)) λb16=>.ret (.bool b16)) λx17=>.ret (some x17)) l18) fitM) λl19=>.ret (PyData.list l19)) λx20=>oM (UI_ (.bool false) x20)) λb26=>if b26 then .ret true else bd (bd (oM (fLen [y12])) λx21=>oM (opNe x21 y9)) λb25=>if b25 then .ret true else bd (bd (oM (fLen [y10])) λx22=>bd (oM (u0_ (.int 1) x22)) λb23=>if b23 then oM (u0_ x22 (.int 4))else .ret false) λb24=>.ret (!b24)) λb27=>if b27 then
  .ret (.bool false)
  else
  bd (bd (bd (bd (bd (oM (seqD y10)) λl31=>bd (j4_ (λd28=>bd (bd (oM (uZ_ y9 (.int 1))) λx29=>ja_ d28 (.int 0) x29) λx30=>.ret (some x30)) l31) fitM) λl32=>.ret (PyData.list l32)) λx33=>oM (UI_ (.bool false) x33)) λb40=>if b40 then .ret true else bd (bd (bd (oM (seqD y12)) λl37=>bd (j4_ (λd34=>bd (bd (oM (isTo "bool" d34)) λb35=>.ret (.bool b35)) λx36=>.ret (some x36)) l37) fitM) λl38=>.ret (PyData.list l38)) λx39=>oM (UI_ (.bool false) x39)) λb41=>if b41 then
  .ret (.bool false)
  else
  bd (oM (seqD y11)) λl42=>forS (λs74 d75 kn=>je_ s74.1 s74.2.1 d75 kn) l42 (y9,[],()) (λs74=>jf_ s74.1 s74.2.1)
def zW_:List D->M D:=λl=>match l with
 | [gaf]=>zR_ gaf
 | _=>.bad
set_option maxHeartbeats 4000000 in
theorem ZL_{f:Addr}{fd:FuncData}(Fn:Fun K "_law_is_rule" "_law_is_rule" zr_ f fd)(B:BN mg)(Kn:KN mg)(Kx:KX K mg)(gaw:CF P w K mg base "_law_whole" 1 (spD K 3 jR_)):FnOk P w K mg base (CX1 P w) 2 f fd ["_law_thing"] (spD K 1 zW_) :=
 un_ (k:=1) Fn sc__law_is_rule (λcdv A outer s H E hr =>
 (zf_ (jC_ (zU_ (Z9_ (Z8_ (up_ (at_b (yJ_ (T := "tuple") (by decide) rfl B.isinstance rfl B.tuple (by decide +kernel) (ao (av 0)) rfl rfl rfl) (λ_=>rfl))) (Z8_ (zO_ (Qs_ (zl_ hr)) jN_ (ao (zK_ zX_ ul_ rfl B.len PySem.boot_len (zm_ (ao (av 0)) zt_ (za_ rfl)) (by decide) (by decide) rfl rfl)) (ao zc_) rfl) (y3_ (up_ (y4_ (ao (uq_ gaw (hr.mono (by decide)) rfl (zb_ (uC_ (jv_ (zl_ hr)) js_ (ao (av 0)) (ao zc_) (λ_ _=>rfl)) (zb_ zc_ (zb_ zc_ zi_ (za_ rfl)) (za_ rfl)) (za_ rfl)) rfl (by decide) rfl rfl)) (λ_=>rfl))))))))
  (zj_ (zq_ (zh_ jz_)))
  zw_)
  (zf_ (z2_ (sh:=[.f,.f,.f,.f,.f,.dead,.dead]) (zbn_ (zh_ (av 0)) (Xr_ rfl (jI_ (zy_ (i:=1) (Nat.zero_le _) sc__law_is_rule.nd rfl (by first|exact Or.inl rfl|exact Or.inr rfl) (.inl rfl)) (jI_ (zy_ (i:=2) (Nat.zero_le _) sc__law_is_rule.nd rfl (by first|exact Or.inl rfl|exact Or.inr rfl) (.inl rfl)) (jI_ (zy_ (i:=3) (Nat.zero_le _) sc__law_is_rule.nd rfl (by first|exact Or.inl rfl|exact Or.inr rfl) (.inl rfl)) (jI_ (zy_ (i:=4) (Nat.zero_le _) sc__law_is_rule.nd rfl (by first|exact Or.inl rfl|exact Or.inr rfl) (.inl rfl)) Y5_ rfl) rfl) rfl) rfl) rfl rfl) rfl rfl rfl))
  (zf_ (jC_ (zU_ (Z9_ (Z8_ (zO_ (JS_ (zl_ hr)) Qu_ (ao jz_) (ao (ap_z (yY_ (N':=N__law_is_rule_0) (k:=1) rfl (z9_ (N:=jj_) (sc:=(ze_ zr_)) (by decide +kernel) rfl rfl) (yI_ (zB_ (ao (av 0)) (zz_ zc_) zE_)) (λcl s' H' fp C'=>(zy_ (i:=7) (show 7<=7 by decide) yl_ rfl (by first|exact Or.inl rfl|exact Or.inr rfl) (.inr rfl))) (λcl s' H' fp C'=>j1_) (λcl s' H' fp C'=>(ap_b (yJ_ (T := "tuple") (by decide) rfl B.isinstance rfl B.tuple (by decide +kernel) (ao (av 7)) rfl rfl rfl))) (λ_=>rfl)))) rfl) (Z8_ (zO_ (Qs_ (zl_ hr)) jN_ (ao (zK_ zX_ ul_ rfl B.len PySem.boot_len (zm_ (ao (av 4)) zt_ (za_ rfl)) (by decide) (by decide) rfl rfl)) (ao (av 1)) rfl) (y3_ (up_ (QX_ (yy_ (zl_ hr)) (yy_ (zl_ hr)) yz_ yz_ (ao zc_) (ao (zK_ zX_ ul_ rfl B.len PySem.boot_len (zm_ (ao (av 2)) zt_ (za_ rfl)) (by decide) (by decide) rfl rfl)) (ao zc_) (by with_unfolding_all rfl))))))))
  (zj_ (zq_ (zh_ jz_)))
  zw_)
  (zf_ (jC_ (zU_ (Z9_ (Z8_ (zO_ (JS_ (zl_ hr)) Qu_ (ao jz_) (ao (ap_z (yY_ (N':=N__law_is_rule_1) (k:=1) rfl (z9_ (N:=jj_) (sc:=(ze_ zr_)) (by decide +kernel) rfl rfl) (yI_ (av 2)) (λcl s' H' fp C'=>(zy_ (i:=7) (show 7<=7 by decide) yk_ rfl (by first|exact Or.inl rfl|exact Or.inr rfl) (.inr rfl))) (λcl s' H' fp C'=>j1_) (λcl s' H' fp C'=>(uq_ gaw (hr.mono (by decide)) rfl (zb_ (av 7) (zb_ zc_ (zb_ (zo_ uG_ uH_ (ao (av 1)) (ao zc_)) zi_ (za_ rfl)) (za_ rfl)) (za_ rfl)) rfl (by decide) rfl rfl)) (λ_=>rfl)))) rfl) (y3_ (zO_ (JS_ (zl_ hr)) Qu_ (ao jz_) (ao (ap_z (yY_ (N':=N__law_is_rule_2) (k:=1) rfl (z9_ (N:=jj_) (sc:=(ze_ zr_)) (by decide +kernel) rfl rfl) (yI_ (av 4)) (λcl s' H' fp C'=>(zy_ (i:=7) (show 7<=7 by decide) yj_ rfl (by first|exact Or.inl rfl|exact Or.inr rfl) (.inr rfl))) (λcl s' H' fp C'=>j1_) (λcl s' H' fp C'=>(ap_b (yJ_ (T := "bool") (by decide) rfl B.isinstance rfl B.bool (by decide +kernel) (ao (av 7)) rfl rfl rfl))) (λ_=>rfl)))) rfl)))))
  (zj_ (zq_ (zh_ jz_)))
  zw_)
  (zf_ (z2_ (sh:=[.dead,.f,.dead,.f,.dead,.o,.dead]) (Uf_ (i:=5) sc__law_is_rule.nd rfl (by first|exact Or.inl rfl|exact Or.inr rfl) (Yx_ (j2_ zi_ (by decide +kernel))) rfl (.inl rfl)))
  (zf_ (yn_ (sh:=[.dead,.f,.dead,.dead,.dead,.o,.dead]) PassesOwn.leaving rfl (uP_ (yI_ (av 3))) (zy_ (i:=6) (Nat.zero_le _) sc__law_is_rule.nd rfl (by first|exact Or.inl rfl|exact Or.inr rfl) (.inl rfl))
  (zf_ (jC_ (zU_ (Z9_ (Z8_ (up_ (at_b (yJ_ (T := "tuple") (by decide) rfl B.isinstance rfl B.tuple (by decide +kernel) (ao (av 6)) rfl rfl rfl) (λ_=>rfl))) (y3_ (zO_ (Qs_ (zl_ hr)) jN_ (ao (zK_ zX_ ul_ rfl B.len PySem.boot_len (zm_ (ao (av 6)) zt_ (za_ rfl)) (by decide) (by decide) rfl rfl)) (ao zc_) rfl)))))
  (zj_ (zq_ (zh_ jz_)))
  zw_)
  (zf_ (jC_ (zU_ (zO_ (JS_ (zl_ hr)) Qu_ (ao jz_) (ao (ap_z (yY_ (N':=N__law_is_rule_3) (k:=1) rfl (z9_ (N:=jj_) (sc:=(ze_ zr_)) (by decide +kernel) rfl rfl) (yI_ (av 6)) (λcl s' H' fp C'=>(zy_ (i:=7) (show 7<=7 by decide) yi_ rfl (by first|exact Or.inl rfl|exact Or.inr rfl) (.inr rfl))) (λcl s' H' fp C'=>j1_) (λcl s' H' fp C'=>(uq_ gaw (hr.mono (by decide)) rfl (zb_ (av 7) (zb_ zc_ (zb_ (zo_ uG_ uH_ (ao (av 1)) (ao zc_)) zi_ (za_ rfl)) (za_ rfl)) (za_ rfl)) rfl (by decide) rfl rfl)) (λ_=>rfl)))) rfl))
  (zj_ (zq_ (zh_ jz_)))
  zw_)
  (zf_ (jC_ (zU_ (Z9_ (Z8_ (zO_ XX_ XY_ (ao (uC_ (jv_ (zl_ hr)) js_ (ao (av 6)) (ao zc_) (λ_ _=>rfl))) (ao (uC_ (jv_ (zl_ hr)) js_ (ao (av 6)) (ao zc_) (λ_ _=>rfl))) rfl) (y3_ (zO_ (jD_ (zl_ hr)) jN_ (ao (ap_z (QY_ (yW_ rfl) JU_ rfl B.sorted (by decide +kernel) (zm_ (ao (zB_ (ao (av 6)) zE_ (zz_ zc_))) zt_ (za_ rfl)) (by decide) (by decide) rfl rfl))) (ao (ap_z (QY_ (yW_ rfl) JU_ rfl B.sorted (by decide +kernel) (zm_ (ao (zB_ (ao (av 6)) (zz_ zc_) zE_)) zt_ (za_ rfl)) (by decide) (by decide) rfl rfl))) rfl)))))
  (zj_ (zq_ (zh_ jz_)))
  zw_)
  (zj_ (Xj_ (i:=5) rfl (by first|exact Or.inl rfl|exact Or.inr (Or.inl rfl)|exact Or.inr (Or.inr rfl)) (zd_ (zh_ (zB_ (ao (av 6)) zE_ (zz_ zc_))) zk_ (za_ rfl)) rfl rfl rfl rfl rfl rfl))))) (λ_=>rfl))
  (zj_ (zq_ (zh_ (ap_b (Yz_ (jD_ (zl_ hr)) jN_ (uD_ (i:=5) rfl (by first|exact Or.inl rfl|exact Or.inr (Or.inl rfl)|exact Or.inr (Or.inr rfl))) (ao (ap_z (JE_ rfl (zl_ hr) rfl B.sorted rfl B.set (zm_ (uD_ (i:=5) rfl (by first|exact Or.inl rfl|exact Or.inr (Or.inl rfl)|exact Or.inr (Or.inr rfl))) zt_ (za_ rfl)) rfl rfl))) rfl))))))))))))
 (λds hl=>match ds,hl with | [gaf],_=>by kernel_rfl)
theorem Zu_{f:Addr}{fd:FuncData}(Fn:Fun K "_law_is_rule" "_law_is_rule" zr_ f fd)(hmg:mg "_law_is_rule" = some (.ref f))(B:BN mg)(Kn:KN mg)(Kx:KX K mg)(gaw:CF P w K mg base "_law_whole" 1 (spD K 3 jR_)):CF P w K mg base "_law_is_rule" 2 (spD K 1 zW_) :=
 ⟨f,fd,["_law_thing"],ZL_ Fn B Kn Kx gaw,hmg,Fn.kp,(bnd1 Fn λ_ _ _ _ _ _ _=>rfl)⟩
noncomputable abbrev zH_:Stmt:=top 21
noncomputable abbrev ZV_:List Str:=["_law_feed_here", "_law_row", "_law_odd", "_law_at", "_law_way"]
theorem sc__law_row_bent:FnScope ZV_ ["_law_feed_here", "_law_row", "_law_odd"] (ze_ zH_):=⟨rfl,rfl,rfl,by decide +kernel,rfl,by decide +kernel,by decide +kernel⟩
def zI_(gab:List D)(gap:D)(gaQ:D):M (D×List D) :=
 bd (bd (oM (fLen [gap])) λx1=>oM (zL_ x1 (.int 1))) λx2=>bd (zg_ gab x2) λr3=>bd (zg_ r3.2 (.int 7)) λr4=>bd (oM (Wm_ r4.1 (.int 2))) λb5=>if b5 then
  bd (bd (asI r3.1) λhi6=>oM (fCut gap none hi6)) λx7=>bd (jy_ r4.2 gaQ) λr8=>bd (oM (zL_ x7 (.tuple [r8.1]))) λx9=>bd (bd (bd (oM (zL_ r3.1 r4.1)) λx10=>asI x10) λlo11=>oM (fCut gap lo11 none)) λx12=>bd (oM (zL_ x9 x12)) λx13=>.ret (x13,r8.2)
  else
  bd (oM (opEq r4.1 (.int 2))) λb14=>if b14 then
  bd (bd (bd (asI r3.1) λhi15=>oM (fCut gap none hi15)) λx18=>bd (bd (bd (oM (zL_ r3.1 (.int 1))) λx16=>asI x16) λlo17=>oM (fCut gap lo17 none)) λx19=>oM (zL_ x18 x19)) λx20=>.ret (x20,r4.2)
  else
  bd (oM (opEq r4.1 (.int 3))) λb21=>if b21 then
  bd (bd (bd (bd (asI r3.1) λhi22=>oM (fCut gap none hi22)) λx26=>bd (bd (bd (oM (uZ_ r3.1 (.int 1))) λx23=>asI x23) λlo24=>bd (asI r3.1) λhi25=>oM (fCut gap lo24 hi25)) λx27=>oM (zL_ x26 x27)) λx29=>bd (bd (asI r3.1) λlo28=>oM (fCut gap lo28 none)) λx30=>oM (zL_ x29 x30)) λx31=>.ret (x31,r4.2)
  else
  bd (oM (opEq r4.1 (.int 4))) λb32=>if b32 then
  bd (bd (bd (asI r3.1) λlo33=>oM (fCut gap lo33 none)) λx35=>bd (bd (asI r3.1) λhi34=>oM (fCut gap none hi34)) λx36=>oM (zL_ x35 x36)) λx37=>.ret (x37,r4.2)
  else
  bd (bd (bd (bd (bd (oM (y2_ [gap])) λl38=>.ret (PyData.list l38)) λx39=>bd (oM (zL_ gap gap)) λx40=>.ret [x39,x40]) λl41=>.ret (PyData.list l41)) λx42=>bd (oM (uZ_ r4.1 (.int 5))) λx43=>oM (jK_ x42 x43)) λx44=>.ret (x44,r4.2)
def jk_:List D->List D->M (D×List D):=λgab l=>match l with
 | [gap,gaQ]=>zI_ gab gap gaQ
 | _=>.bad
set_option maxHeartbeats 4000000 in
theorem y9_{f:Addr}{fd:FuncData}(Fn:Fun K "_law_row_bent" "_law_row_bent" zH_ f fd)(B:BN mg)(Kn:KN mg)(Kx:KX K mg)(gaa:CF P w K mg base "_law_next" 1 (sp1 K 2 zp_))(gaj:CF P w K mg base "_law_one" 2 (sp1 K 2 zP_)):FnOk P w K mg base (CX1 P w) 3 f fd ["_law_feed_here", "_law_row", "_law_odd"] (sp1 K 3 jk_) :=
 Js_ (k:=2) Fn sc__law_row_bent (λcdv A outer s H E hr =>
 (zf_ (z2_ (sh:=[.p,.f,.f,.f,.dead]) (zT_ (i:=3) sc__law_row_bent.nd rfl (by first|exact Or.inl rfl|exact Or.inr rfl) (zC_ (i:=0) gaa (hr.mono (by decide)) rfl rfl (by first|exact Or.inl rfl|exact Or.inr (Or.inl rfl)|exact Or.inr (Or.inr rfl)) (zd_ (zh_ (zo_ zu_ zS_ (ao (zK_ zX_ ul_ rfl B.len PySem.boot_len (zm_ (ao (av 1)) zt_ (za_ rfl)) (by decide) (by decide) rfl rfl)) (ao zc_))) zk_ (za_ rfl)) rfl (by decide) rfl rfl) rfl (.inl rfl)))
  (zf_ (z2_ (sh:=[.p,.f,.f,.f,.f]) (zT_ (i:=4) sc__law_row_bent.nd rfl (by first|exact Or.inl rfl|exact Or.inr rfl) (zC_ (i:=0) gaa (hr.mono (by decide)) rfl rfl (by first|exact Or.inl rfl|exact Or.inr (Or.inl rfl)|exact Or.inr (Or.inr rfl)) (zd_ (zh_ zc_) zk_ (za_ rfl)) rfl (by decide) rfl rfl) rfl (.inl rfl)))
  (zf_ (jC_ (zU_ (zO_ (zaN_ (zl_ hr)) zaP_ (ao (av 4)) (ao zc_) rfl))
  (zj_ (zq_ (Yy_ zu_ zS_ (Yy_ zu_ zS_ (zh_ (zB_ (ao (av 1)) zE_ (zz_ (av 3)))) (ZS_ (zd_ (zC_ (i:=0) gaj (hr.mono (by decide)) rfl rfl (by first|exact Or.inl rfl|exact Or.inr (Or.inl rfl)|exact Or.inr (Or.inr rfl)) (zd_ (zh_ (av 2)) zk_ (za_ rfl)) rfl (by decide) rfl rfl) zk_ (za_ rfl)) (by decide +kernel))) (zh_ (zB_ (ao (av 1)) (zz_ (zo_ zu_ zS_ (ao (av 3)) (ao (av 4)))) zE_)))))
  zw_)
  (zf_ (jC_ (zU_ (zO_ (jD_ (zl_ hr)) jN_ (ao (av 4)) (ao zc_) rfl))
  (zj_ (zq_ (zh_ (zo_ zu_ zS_ (ao (zB_ (ao (av 1)) zE_ (zz_ (av 3)))) (ao (zB_ (ao (av 1)) (zz_ (zo_ zu_ zS_ (ao (av 3)) (ao zc_))) zE_))))))
  zw_)
  (zf_ (jC_ (zU_ (zO_ (jD_ (zl_ hr)) jN_ (ao (av 4)) (ao zc_) rfl))
  (zj_ (zq_ (zh_ (zo_ zu_ zS_ (ao (zo_ zu_ zS_ (ao (zB_ (ao (av 1)) zE_ (zz_ (av 3)))) (ao (zB_ (ao (av 1)) (zz_ (zo_ uG_ uH_ (ao (av 3)) (ao zc_))) (zz_ (av 3)))))) (ao (zB_ (ao (av 1)) (zz_ (av 3)) zE_))))))
  zw_)
  (zf_ (jC_ (zU_ (zO_ (jD_ (zl_ hr)) jN_ (ao (av 4)) (ao zc_) rfl))
  (zj_ (zq_ (zh_ (zo_ zu_ zS_ (ao (zB_ (ao (av 1)) (zz_ (av 3)) zE_)) (ao (zB_ (ao (av 1)) zE_ (zz_ (av 3))))))))
  zw_)
  (zj_ (zq_ (zh_ (uC_ (jv_ (zl_ hr)) js_ (ao (ap_z (j2_ (zb_ (ap_z (Yw_ (JB_ rfl) Qt_ rfl B.list (by decide +kernel) (zm_ (ao (av 1)) zt_ (za_ rfl)) (by decide) (by decide) rfl rfl)) (zb_ (zo_ zu_ zS_ (ao (av 1)) (ao (av 1))) zi_ (za_ rfl)) (za_ rfl)) (by decide +kernel)))) (ao (zo_ uG_ uH_ (ao (av 4)) (ao zc_))) (λ_ _=>rfl))))))))))))
 (λg ds hl=>match ds,hl with | [gap,gaQ],_=>by kernel_rfl)
theorem y5_{f:Addr}{fd:FuncData}(Fn:Fun K "_law_row_bent" "_law_row_bent" zH_ f fd)(hmg:mg "_law_row_bent" = some (.ref f))(B:BN mg)(Kn:KN mg)(Kx:KX K mg)(gaa:CF P w K mg base "_law_next" 1 (sp1 K 2 zp_))(gaj:CF P w K mg base "_law_one" 2 (sp1 K 2 zP_)):CF P w K mg base "_law_row_bent" 3 (sp1 K 3 jk_) :=
 ⟨f,fd,["_law_feed_here", "_law_row", "_law_odd"],y9_ Fn B Kn Kx gaa gaj,hmg,Fn.kp,(bnd3 Fn λ_ _ _ _ _ _ _ _ _=>rfl)⟩
noncomputable abbrev jp_:Stmt:=top 22
noncomputable abbrev Qb_:List Str:=["_law_feed_here", "_law_rule_here", "_law_rooms", "_law_starts", "_law_meets", "_law_says", "_law_way", "_law_odd", "_law_at", "_law_meeting", "_law_some"]
theorem sc__law_bent:FnScope Qb_ ["_law_feed_here", "_law_rule_here"] (ze_ jp_):=⟨rfl,rfl,rfl,by decide +kernel,rfl,by decide +kernel,by decide +kernel⟩
def jq_(gab:List D)(gar:D):M (D×List D) :=
 un4 gar λy1 y2 y3 y4=>bd (zg_ gab (.int 6)) λr5=>bd (oM (opEq r5.1 (.int 0))) λb6=>if b6 then
  bd (bd (bd (oM (zL_ y1 (.int 1))) λx7=>bd (oM (uZ_ y1 (.int 1))) λx8=>bd (oM (fStr [y1])) λx9=>bd (oM (JT_ y1)) λx10=>.ret [(.int 0),(.int 41),x7,x8,(.bool true),x9,.none,x10]) λl11=>.ret (PyData.list l11)) λx12=>bd (jy_ r5.2 x12) λr13=>.ret ((.tuple [r13.1,y2,y3,y4]),r13.2)
  else
  bd (oM (opEq r5.1 (.int 1))) λb14=>if b14 then
  bd (bd (bd (oM (JT_ (.int 1))) λx15=>.ret [y1,x15,(.bool true),(.bool false),(.int 0),(.str "0"),.none,(.tuple [(.int 0)])]) λl16=>.ret (PyData.list l16)) λx17=>bd (zI_ r5.2 y2 x17) λr18=>.ret ((.tuple [y1,r18.1,y3,y4]),r18.2)
  else
  bd (oM (opEq r5.1 (.int 2))) λb19=>if b19 then
  bd (zI_ r5.2 y4 (PyData.list [(.int 0),(.int 1),.none,(.str "yes"),(.bool true),(.bool false)])) λr20=>.ret ((.tuple [y1,y2,y3,r20.1]),r20.2)
  else
  bd (bd (bd (bd (oM (uZ_ y1 (.int 1))) λx21=>.ret (.tuple [(.int 0),x21,(.int 0),(.int 0)])) λx22=>bd (bd (oM (uZ_ y1 (.int 1))) λx23=>.ret (.tuple [(.int 0),(.int 0),x23,(.int 0)])) λx24=>.ret [(.tuple [(.int 0),(.int 0),(.int 0),(.int 0)]),(.tuple [(.int 0),(.int 1),(.int 1),(.int 0)]),(.tuple [(.int 1),(.int 0),(.int 0),(.int 0)]),x22,(.tuple [(.int 0),(.int 0),(.int 0),y1]),x24]) λl25=>.ret (PyData.list l25)) λx26=>bd (bd (bd (bd (bd (bd (oM (uZ_ y1 (.int 1))) λx27=>.ret [(.int 0),(.int 0),(.int 0),x27]) λl28=>.ret (PyData.list l28)) λx29=>bd (bd (oM (JT_ (.int 1))) λx30=>.ret (.tuple [(.int 0),x30,(.int 0),(.int 0)])) λx31=>.ret [(.tuple [(.int 0),(.int 0),(.int 0)]),x29,(.tuple [(.int 0),(.int 0),(.int 0),(.bool true)]),x31]) λl32=>.ret (PyData.list l32)) λx33=>oM (zL_ x26 x33)) λx34=>bd (bd (bd (bd (bd (oM (uZ_ y1 (.int 1))) λx35=>bd (oM (uZ_ y1 (.int 1))) λx36=>.ret (.tuple [x35,x36,(.int 0),(.int 0)])) λx37=>.ret [x37,.none,(.tuple [])]) λl38=>.ret (PyData.list l38)) λx39=>oM (zL_ x34 x39)) λx40=>bd (bd (oM (opEq r5.1 (.int 3))) λb41=>if b41 then oM (opNe y3 (.tuple []))else .ret false) λb42=>if b42 then
  bd (oM (fLen [y3])) λx43=>bd (zg_ r5.2 x43) λr44=>bd (oM (jK_ y3 r44.1)) λx45=>bd (bd (bd (oM (JT_ (.int 1))) λx46=>bd (oM (uZ_ y1 (.int 1))) λx47=>.ret [y1,x46,(.int 0),x47,(.bool true),.none]) λl48=>.ret (PyData.list l48)) λx49=>bd (zI_ r44.2 x45 x49) λr50=>bd (bd (bd (bd (bd (asI r44.1) λhi51=>oM (fCut y3 none hi51)) λx52=>oM (zL_ x52 (.tuple [r50.1]))) λx55=>bd (bd (bd (oM (zL_ r44.1 (.int 1))) λx53=>asI x53) λlo54=>oM (fCut y3 lo54 none)) λx56=>oM (zL_ x55 x56)) λx57=>.ret (.tuple [y1,y2,x57,y4])) λx58=>.ret (x58,r50.2)
  else
  bd (oM (Wm_ r5.1 (.int 5))) λb59=>if b59 then
  bd (zI_ r5.2 y3 x40) λr60=>.ret ((.tuple [y1,y2,r60.1,y4]),r60.2)
  else
  bd (bd (bd (bd (oM (y2_ [gar])) λl61=>.ret (PyData.list l61)) λx62=>bd (bd (asI (.int 3)) λhi63=>oM (fCut gar none hi63)) λx64=>bd (oM (zL_ gar (.tuple [(.int 0)]))) λx65=>.ret [x62,x64,x65,.none,(.bool true),(.int 4),(.str "rule"),(.tuple []),(.tuple [y1,y2,y4,y3])]) λl66=>.ret (PyData.list l66)) λx67=>bd (jy_ r5.2 x67) λr68=>.ret (r68.1,r68.2)
def ua_:List D->List D->M (D×List D):=λgab l=>match l with
 | [gar]=>jq_ gab gar
 | _=>.bad
set_option maxHeartbeats 4000000 in
theorem Ya_{f:Addr}{fd:FuncData}(Fn:Fun K "_law_bent" "_law_bent" jp_ f fd)(B:BN mg)(Kn:KN mg)(Kx:KX K mg)(gaa:CF P w K mg base "_law_next" 1 (sp1 K 2 zp_))(gaj:CF P w K mg base "_law_one" 2 (sp1 K 2 zP_))(gao:CF P w K mg base "_law_row_bent" 3 (sp1 K 3 jk_)):FnOk P w K mg base (CX1 P w) 4 f fd ["_law_feed_here", "_law_rule_here"] (sp1 K 2 ua_) :=
 Js_ (k:=3) Fn sc__law_bent (λcdv A outer s H E hr =>
 (zf_ (z2_ (sh:=[.p,.f,.f,.f,.f,.f,.dead,.dead,.dead,.dead,.dead]) (zbn_ (zh_ (av 1)) (Xr_ rfl (jI_ (zy_ (i:=2) (Nat.zero_le _) sc__law_bent.nd rfl (by first|exact Or.inl rfl|exact Or.inr rfl) (.inl rfl)) (jI_ (zy_ (i:=3) (Nat.zero_le _) sc__law_bent.nd rfl (by first|exact Or.inl rfl|exact Or.inr rfl) (.inl rfl)) (jI_ (zy_ (i:=4) (Nat.zero_le _) sc__law_bent.nd rfl (by first|exact Or.inl rfl|exact Or.inr rfl) (.inl rfl)) (jI_ (zy_ (i:=5) (Nat.zero_le _) sc__law_bent.nd rfl (by first|exact Or.inl rfl|exact Or.inr rfl) (.inl rfl)) Y5_ rfl) rfl) rfl) rfl) rfl rfl) rfl rfl rfl))
  (zf_ (z2_ (sh:=[.p,.f,.f,.f,.f,.f,.f,.dead,.dead,.dead,.dead]) (zT_ (i:=6) sc__law_bent.nd rfl (by first|exact Or.inl rfl|exact Or.inr rfl) (zC_ (i:=0) gaa (hr.mono (by decide)) rfl rfl (by first|exact Or.inl rfl|exact Or.inr (Or.inl rfl)|exact Or.inr (Or.inr rfl)) (zd_ (zh_ zc_) zk_ (za_ rfl)) rfl (by decide) rfl rfl) rfl (.inl rfl)))
  (zf_ (jC_ (zU_ (zO_ (jD_ (zl_ hr)) jN_ (ao (av 6)) (ao zc_) rfl))
  (zj_ (zq_ (ZS_ (zd_ (zC_ (i:=0) gaj (hr.mono (by decide)) rfl rfl (by first|exact Or.inl rfl|exact Or.inr (Or.inl rfl)|exact Or.inr (Or.inr rfl)) (zd_ (zh_ (ap_z (j2_ (zb_ zc_ (zb_ zc_ (zb_ (zo_ zu_ zS_ (ao (av 2)) (ao zc_)) (zb_ (zo_ uG_ uH_ (ao (av 2)) (ao zc_)) (zb_ jz_ (zb_ (ZQ_ Yi_ zdX_ rfl B.str (by decide +kernel) (zm_ (ao (av 2)) zt_ (za_ rfl)) (by decide) (by decide) rfl rfl) (zb_ JD_ (zb_ (Xm_ Um_ UK_ (ao (av 2))) zi_ (za_ rfl)) (za_ rfl)) (za_ rfl)) (za_ rfl)) (za_ rfl)) (za_ rfl)) (za_ rfl)) (za_ rfl)) (by decide +kernel)))) zk_ (za_ rfl)) rfl (by decide) rfl rfl) (zd_ (zh_ (av 3)) (zd_ (zh_ (av 4)) (zd_ (zh_ (av 5)) zk_ (za_ rfl)) (za_ rfl)) (za_ rfl)) (za_ rfl)) (by decide +kernel))))
  zw_)
  (zf_ (jC_ (zU_ (zO_ (jD_ (zl_ hr)) jN_ (ao (av 6)) (ao zc_) rfl))
  (zj_ (zq_ (ZS_ (zd_ (zh_ (av 2)) (zd_ (zC_ (i:=0) gao (hr.mono (by decide)) rfl rfl (by first|exact Or.inl rfl|exact Or.inr (Or.inl rfl)|exact Or.inr (Or.inr rfl)) (zd_ (zh_ (av 3)) (zd_ (zh_ (ap_z (j2_ (zb_ (av 2) (zb_ (Xm_ Um_ UK_ (ao zc_)) (zb_ jz_ (zb_ jz_ (zb_ zc_ (zb_ Xn_ (zb_ JD_ (zb_ (zJ_ (zb_ zc_ zi_ (za_ rfl)) (by decide +kernel)) zi_ (za_ rfl)) (za_ rfl)) (za_ rfl)) (za_ rfl)) (za_ rfl)) (za_ rfl)) (za_ rfl)) (za_ rfl)) (by decide +kernel)))) zk_ (za_ rfl)) (za_ rfl)) rfl (by decide) rfl rfl) (zd_ (zh_ (av 4)) (zd_ (zh_ (av 5)) zk_ (za_ rfl)) (za_ rfl)) (za_ rfl)) (za_ rfl)) (by decide +kernel))))
  zw_)
  (zf_ (jC_ (zU_ (zO_ (jD_ (zl_ hr)) jN_ (ao (av 6)) (ao zc_) rfl))
  (zj_ (zq_ (ZS_ (zd_ (zh_ (av 2)) (zd_ (zh_ (av 3)) (zd_ (zh_ (av 4)) (zd_ (zC_ (i:=0) gao (hr.mono (by decide)) rfl rfl (by first|exact Or.inl rfl|exact Or.inr (Or.inl rfl)|exact Or.inr (Or.inr rfl)) (zd_ (zh_ (av 5)) (zd_ (zh_ (ap_z (j2_ (zb_ zc_ (zb_ zc_ (zb_ JD_ (zb_ Xn_ (zb_ jz_ (zb_ jz_ zi_ (za_ rfl)) (za_ rfl)) (za_ rfl)) (za_ rfl)) (za_ rfl)) (za_ rfl)) (by decide +kernel)))) zk_ (za_ rfl)) (za_ rfl)) rfl (by decide) rfl rfl) zk_ (za_ rfl)) (za_ rfl)) (za_ rfl)) (za_ rfl)) (by decide +kernel))))
  zw_)
  (zf_ (z2_ (sh:=[.p,.f,.f,.f,.f,.f,.f,.f,.dead,.dead,.dead]) (zT_ (i:=7) sc__law_bent.nd rfl (by first|exact Or.inl rfl|exact Or.inr rfl) (zh_ (ap_z (j2_ (zb_ (zJ_ (zb_ zc_ (zb_ zc_ (zb_ zc_ (zb_ zc_ zi_ (za_ rfl)) (za_ rfl)) (za_ rfl)) (za_ rfl)) (by decide +kernel)) (zb_ (zJ_ (zb_ zc_ (zb_ zc_ (zb_ zc_ (zb_ zc_ zi_ (za_ rfl)) (za_ rfl)) (za_ rfl)) (za_ rfl)) (by decide +kernel)) (zb_ (zJ_ (zb_ zc_ (zb_ zc_ (zb_ zc_ (zb_ zc_ zi_ (za_ rfl)) (za_ rfl)) (za_ rfl)) (za_ rfl)) (by decide +kernel)) (zb_ (zJ_ (zb_ zc_ (zb_ (zo_ uG_ uH_ (ao (av 2)) (ao zc_)) (zb_ zc_ (zb_ zc_ zi_ (za_ rfl)) (za_ rfl)) (za_ rfl)) (za_ rfl)) (by decide +kernel)) (zb_ (zJ_ (zb_ zc_ (zb_ zc_ (zb_ zc_ (zb_ (av 2) zi_ (za_ rfl)) (za_ rfl)) (za_ rfl)) (za_ rfl)) (by decide +kernel)) (zb_ (zJ_ (zb_ zc_ (zb_ zc_ (zb_ (zo_ uG_ uH_ (ao (av 2)) (ao zc_)) (zb_ zc_ zi_ (za_ rfl)) (za_ rfl)) (za_ rfl)) (za_ rfl)) (by decide +kernel)) zi_ (za_ rfl)) (za_ rfl)) (za_ rfl)) (za_ rfl)) (za_ rfl)) (za_ rfl)) (by decide +kernel)))) rfl (.inl rfl)))
  (zf_ (z2_ (sh:=[.p,.f,.f,.f,.f,.f,.f,.f,.dead,.dead,.dead]) (zT_ (i:=7) sc__law_bent.nd rfl (by first|exact Or.inl rfl|exact Or.inr rfl) (zh_ (zo_ zu_ zS_ (ao (av 7)) (ao (ap_z (j2_ (zb_ (zJ_ (zb_ zc_ (zb_ zc_ (zb_ zc_ zi_ (za_ rfl)) (za_ rfl)) (za_ rfl)) (by decide +kernel)) (zb_ (ap_z (j2_ (zb_ zc_ (zb_ zc_ (zb_ zc_ (zb_ (zo_ uG_ uH_ (ao (av 2)) (ao zc_)) zi_ (za_ rfl)) (za_ rfl)) (za_ rfl)) (za_ rfl)) (by decide +kernel))) (zb_ (zJ_ (zb_ zc_ (zb_ zc_ (zb_ zc_ (zb_ jz_ zi_ (za_ rfl)) (za_ rfl)) (za_ rfl)) (za_ rfl)) (by decide +kernel)) (zb_ (zJ_ (zb_ zc_ (zb_ (Xm_ Um_ UK_ (ao zc_)) (zb_ zc_ (zb_ zc_ zi_ (za_ rfl)) (za_ rfl)) (za_ rfl)) (za_ rfl)) (by decide +kernel)) zi_ (za_ rfl)) (za_ rfl)) (za_ rfl)) (za_ rfl)) (by decide +kernel)))))) rfl (.inl rfl)))
  (zf_ (z2_ (sh:=[.p,.f,.f,.f,.f,.f,.f,.f,.dead,.dead,.dead]) (zT_ (i:=7) sc__law_bent.nd rfl (by first|exact Or.inl rfl|exact Or.inr rfl) (zh_ (zo_ zu_ zS_ (ao (av 7)) (ao (ap_z (j2_ (zb_ (zJ_ (zb_ (zo_ uG_ uH_ (ao (av 2)) (ao zc_)) (zb_ (zo_ uG_ uH_ (ao (av 2)) (ao zc_)) (zb_ zc_ (zb_ zc_ zi_ (za_ rfl)) (za_ rfl)) (za_ rfl)) (za_ rfl)) (by decide +kernel)) (zb_ JD_ (zb_ (zJ_ zi_ (by decide +kernel)) zi_ (za_ rfl)) (za_ rfl)) (za_ rfl)) (by decide +kernel)))))) rfl (.inl rfl)))
  (zf_ (jC_ (zU_ (Z9_ (QW_ (zO_ (jD_ (zl_ hr)) jN_ (ao (av 6)) (ao zc_) rfl) (Xe_ (zO_ (Qs_ (zl_ hr)) jN_ (ao (av 4)) (ao (zJ_ zi_ (by decide +kernel))) rfl)))))
  (zf_ (z2_ (sh:=[.p,.dead,.f,.f,.f,.f,.dead,.dead,.f,.dead,.dead]) (zT_ (i:=8) sc__law_bent.nd rfl (by first|exact Or.inl rfl|exact Or.inr rfl) (zC_ (i:=0) gaa (hr.mono (by decide)) rfl rfl (by first|exact Or.inl rfl|exact Or.inr (Or.inl rfl)|exact Or.inr (Or.inr rfl)) (zd_ (zh_ (zK_ zX_ ul_ rfl B.len PySem.boot_len (zm_ (ao (av 4)) zt_ (za_ rfl)) (by decide) (by decide) rfl rfl)) zk_ (za_ rfl)) rfl (by decide) rfl rfl) rfl (.inl rfl)))
  (zf_ (z2_ (sh:=[.p,.dead,.f,.f,.f,.f,.dead,.dead,.f,.f,.dead]) (zT_ (i:=9) sc__law_bent.nd rfl (by first|exact Or.inl rfl|exact Or.inr rfl) (zC_ (i:=0) gao (hr.mono (by decide)) rfl rfl (by first|exact Or.inl rfl|exact Or.inr (Or.inl rfl)|exact Or.inr (Or.inr rfl)) (zd_ (zh_ (uC_ (jv_ (zl_ hr)) js_ (ao (av 4)) (ao (av 8)) (λ_ _=>rfl))) (zd_ (zh_ (ap_z (j2_ (zb_ (av 2) (zb_ (Xm_ Um_ UK_ (ao zc_)) (zb_ zc_ (zb_ (zo_ uG_ uH_ (ao (av 2)) (ao zc_)) (zb_ jz_ (zb_ JD_ zi_ (za_ rfl)) (za_ rfl)) (za_ rfl)) (za_ rfl)) (za_ rfl)) (za_ rfl)) (by decide +kernel)))) zk_ (za_ rfl)) (za_ rfl)) rfl (by decide) rfl rfl) rfl (.inl rfl)))
  (zj_ (zq_ (zh_ (zJ_ (zb_ (av 2) (zb_ (av 3) (zb_ (zo_ zu_ zS_ (ao (zo_ zu_ zS_ (ao (zB_ (ao (av 4)) zE_ (zz_ (av 8)))) (ao (zJ_ (zb_ (av 9) zi_ (za_ rfl)) (by decide +kernel))))) (ao (zB_ (ao (av 4)) (zz_ (zo_ zu_ zS_ (ao (av 8)) (ao zc_))) zE_))) (zb_ (av 5) zi_ (za_ rfl)) (za_ rfl)) (za_ rfl)) (za_ rfl)) (by decide +kernel)))))))
  zw_)
  (zf_ (jC_ (zU_ (zO_ (zaN_ (zl_ hr)) zaP_ (ao (av 6)) (ao zc_) rfl))
  (zj_ (zq_ (ZS_ (zd_ (zh_ (av 2)) (zd_ (zh_ (av 3)) (zd_ (zC_ (i:=0) gao (hr.mono (by decide)) rfl rfl (by first|exact Or.inl rfl|exact Or.inr (Or.inl rfl)|exact Or.inr (Or.inr rfl)) (zd_ (zh_ (av 4)) (zd_ (zh_ (av 7)) zk_ (za_ rfl)) (za_ rfl)) rfl (by decide) rfl rfl) (zd_ (zh_ (av 5)) zk_ (za_ rfl)) (za_ rfl)) (za_ rfl)) (za_ rfl)) (by decide +kernel))))
  zw_)
  (zf_ (z2_ (sh:=[.p,.dead,.dead,.dead,.dead,.dead,.dead,.dead,.dead,.dead,.f]) (zT_ (i:=10) sc__law_bent.nd rfl (by first|exact Or.inl rfl|exact Or.inr rfl) (zh_ (ap_z (j2_ (zb_ (ap_z (Yw_ (JB_ rfl) Qt_ rfl B.list (by decide +kernel) (zm_ (ao (av 1)) zt_ (za_ rfl)) (by decide) (by decide) rfl rfl)) (zb_ (zB_ (ao (av 1)) zE_ (zz_ zc_)) (zb_ (zo_ zu_ zS_ (ao (av 1)) (ao (zJ_ (zb_ zc_ zi_ (za_ rfl)) (by decide +kernel)))) (zb_ JD_ (zb_ jz_ (zb_ zc_ (zb_ Xn_ (zb_ (zJ_ zi_ (by decide +kernel)) (zb_ (zJ_ (zb_ (av 2) (zb_ (av 3) (zb_ (av 5) (zb_ (av 4) zi_ (za_ rfl)) (za_ rfl)) (za_ rfl)) (za_ rfl)) (by decide +kernel)) zi_ (za_ rfl)) (za_ rfl)) (za_ rfl)) (za_ rfl)) (za_ rfl)) (za_ rfl)) (za_ rfl)) (za_ rfl)) (za_ rfl)) (by decide +kernel)))) rfl (.inl rfl)))
  (zj_ (zq_ (zC_ (i:=0) gaj (hr.mono (by decide)) rfl rfl (by first|exact Or.inl rfl|exact Or.inr (Or.inl rfl)|exact Or.inr (Or.inr rfl)) (zd_ (zh_ (av 10)) zk_ (za_ rfl)) rfl (by decide) rfl rfl)))))))))))))))
 (λg ds hl=>match ds,hl with | [gar],_=>by kernel_rfl)
theorem US_{f:Addr}{fd:FuncData}(Fn:Fun K "_law_bent" "_law_bent" jp_ f fd)(hmg:mg "_law_bent" = some (.ref f))(B:BN mg)(Kn:KN mg)(Kx:KX K mg)(gaa:CF P w K mg base "_law_next" 1 (sp1 K 2 zp_))(gaj:CF P w K mg base "_law_one" 2 (sp1 K 2 zP_))(gao:CF P w K mg base "_law_row_bent" 3 (sp1 K 3 jk_)):CF P w K mg base "_law_bent" 4 (sp1 K 2 ua_) :=
 ⟨f,fd,["_law_feed_here", "_law_rule_here"],Ya_ Fn B Kn Kx gaa gaj gao,hmg,Fn.kp,(bnd2 Fn λ_ _ _ _ _ _ _ _=>rfl)⟩
noncomputable abbrev z7_:Stmt:=top 23
noncomputable abbrev YE_:List Str:=["_law_thing", "_law_held", "_law_found"]
theorem sc__law_right:FnScope YE_ ["_law_thing"] (ze_ z7_):=⟨rfl,rfl,rfl,by decide +kernel,rfl,by decide +kernel,by decide +kernel⟩
def jM_(gaf:D):M D :=
 bd (oM (WS_ [gaf])) λx1=>bd (uo_ gaf) λx2=>bd (bd (bd (oM (isTo "bool" x2)) λb6=>if b6 then bd (bd (zR_ gaf) λx3=>oM (opEq x2 x3)) λb5=>if b5 then bd (oM (WS_ [gaf])) λx4=>oM (opEq x4 x1)else .ret false else .ret false) λb7=>.ret (.bool b7)) λx8=>.ret x8
def jS_:List D->M D:=λl=>match l with
 | [gaf]=>jM_ gaf
 | _=>.bad
set_option maxHeartbeats 4000000 in
theorem J9_{f:Addr}{fd:FuncData}(Fn:Fun K "_law_right" "_law_right" z7_ f fd)(B:BN mg)(Kn:KN mg)(Kx:KX K mg)(gax:CF P w K mg base "is_rule" 6 (spD K 1 jV_))(gal:CF P w K mg base "_law_is_rule" 2 (spD K 1 zW_)):FnOk P w K mg base (CX1 P w) 7 f fd ["_law_thing"] (spD K 1 jS_) :=
 un_ (k:=6) Fn sc__law_right (λcdv A outer s H E hr =>
 (zf_ (z2_ (sh:=[.f,.f,.dead]) (zT_ (i:=1) sc__law_right.nd rfl (by first|exact Or.inl rfl|exact Or.inr rfl) (zh_ (zK_ (Yj_ (zl_ hr) hr.gd) Wo_ rfl B.repr (by decide +kernel) (zm_ (ao (av 0)) zt_ (za_ rfl)) (by decide) (by decide) rfl rfl)) rfl (.inl rfl)))
  (zf_ (z2_ (sh:=[.f,.f,.f]) (zT_ (i:=2) sc__law_right.nd rfl (by first|exact Or.inl rfl|exact Or.inr rfl) (zh_ (uq_ gax (hr.mono (by decide)) rfl (zb_ (av 0) zi_ (za_ rfl)) rfl (by decide) rfl rfl)) rfl (.inl rfl)))
  (zj_ (zq_ (zh_ (ap_b (yb_ (yJ_ (T := "bool") (by decide) rfl B.isinstance rfl B.bool (by decide +kernel) (ao (av 2)) rfl rfl rfl) (yb_ (Yz_ (jD_ (zl_ hr)) jN_ (ao (av 2)) (ao (uq_ gal (hr.mono (by decide)) rfl (zb_ (av 0) zi_ (za_ rfl)) rfl (by decide) rfl rfl)) rfl) (ZT_ (Yz_ (jD_ (zl_ hr)) jN_ (ao (zK_ (Yj_ (zl_ hr) hr.gd) Wo_ rfl B.repr (by decide +kernel) (zm_ (ao (av 0)) zt_ (za_ rfl)) (by decide) (by decide) rfl rfl)) (ao (av 1)) rfl)))))))))))
 (λds hl=>match ds,hl with | [gaf],_=>by kernel_rfl)
theorem JY_{f:Addr}{fd:FuncData}(Fn:Fun K "_law_right" "_law_right" z7_ f fd)(hmg:mg "_law_right" = some (.ref f))(B:BN mg)(Kn:KN mg)(Kx:KX K mg)(gax:CF P w K mg base "is_rule" 6 (spD K 1 jV_))(gal:CF P w K mg base "_law_is_rule" 2 (spD K 1 zW_)):CF P w K mg base "_law_right" 7 (spD K 1 jS_) :=
 ⟨f,fd,["_law_thing"],J9_ Fn B Kn Kx gax gal,hmg,Fn.kp,(bnd1 Fn λ_ _ _ _ _ _ _=>rfl)⟩
noncomputable abbrev ZX_:Stmt:=top 24
noncomputable abbrev zfP_:List Str:=["_law_script", "_law_k", "_law_feed_here", "_law_sorts", "_law_rule_here", "_law_turn", "_law_thing"]
theorem sc_law:FnScope zfP_ ["_law_script"] (ze_ ZX_):=⟨rfl,rfl,rfl,by decide +kernel,rfl,by decide +kernel,by decide +kernel⟩
noncomputable def zar_(gag:D):M D :=
 .ret (.bool true)
noncomputable def zaq_(kn5:D×Unit->M D)(gag:D)(gac:List D)(gah:D):M D :=
 kn5 (gag,())
def Zf_(kn5:D×Unit->M D)(kn15:D×List D×D×Unit->M D)(gag:D)(gac:List D)(gah:D)(gaO:D):M D :=
 bd (bd (bd (jM_ gaO) λx24=>oM (truD x24)) λb25=>.ret (!b25)) λb26=>if b26 then
  .ret (.bool false)
  else
  kn15 (gag,gac,gah,())
def Ze_(kn5:D×Unit->M D)(gag:D)(gac:List D)(gah:D)(d_:D)(kn15:D×List D×D×Unit->M D):M D :=
 bd (jq_ gac gah) λr16=>bd (bd (oM (opEq d_ (.int 3))) λb21=>if b21 then bd (oM (isTo "tuple" r16.1)) λb20=>if b20 then bd (bd (oM (fLen [r16.1])) λx17=>oM (opEq x17 (.int 4))) λb19=>if b19 then bd (zR_ r16.1) λx18=>oM (truD x18)else .ret false else .ret false else .ret false) λb22=>if b22 then
  bd (jq_ r16.2 r16.1) λr23=>Zf_ kn5 kn15 gag r23.2 gah r23.1
  else
  Zf_ kn5 kn15 gag r16.2 gah r16.1
noncomputable def zap_(kn5:D×Unit->M D)(gag:D)(gac:List D)(gah:D):M D :=
 kn5 (gag,())
def QT_(kn5:D×Unit->M D)(kn33:D×List D×D×Unit->M D)(gag:D)(gac:List D)(gah:D)(gaO:D):M D :=
 bd (bd (bd (jM_ gaO) λx42=>oM (truD x42)) λb43=>.ret (!b43)) λb44=>if b44 then
  .ret (.bool false)
  else
  kn33 (gag,gac,gah,())
def QS_(kn5:D×Unit->M D)(gag:D)(gac:List D)(gah:D)(d_:D)(kn33:D×List D×D×Unit->M D):M D :=
 bd (jq_ gac gah) λr34=>bd (bd (oM (opEq d_ (.int 3))) λb39=>if b39 then bd (oM (isTo "tuple" r34.1)) λb38=>if b38 then bd (bd (oM (fLen [r34.1])) λx35=>oM (opEq x35 (.int 4))) λb37=>if b37 then bd (zR_ r34.1) λx36=>oM (truD x36)else .ret false else .ret false else .ret false) λb40=>if b40 then
  bd (jq_ r34.2 r34.1) λr41=>QT_ kn5 kn33 gag r41.2 gah r41.1
  else
  QT_ kn5 kn33 gag r34.2 gah r34.1
def Ud_(gag:D)(d_:D)(kn5:D×Unit->M D):M D :=
 bd (uB_ gag d_) λl6=>bd (zg_ l6 (.int 4)) λr7=>bd (oM (zL_ (.int 1) r7.1)) λx8=>bd (zg_ r7.2 (.int 4)) λr9=>bd (oM (opEq r9.1 (.int 1))) λb10=>if b10 then bd (ud_ r9.2 x8) λr11=>bd (bd (uo_ r11.1) λx12=>oM (UH_ x12 (.bool true))) λb13=>if b13 then
  .ret (.bool false)
  else
  bd (oM (jh_ [(.int 4)])) λl14=>forS (λs27 d28 kn=>Ze_ kn5 s27.1 s27.2.1 s27.2.2.1 d28 kn) l14 (gag,r11.2,r11.1,()) (λs27=>zaq_ kn5 s27.1 s27.2.1 s27.2.2.1)else bd (jZ_ r9.2 (.int 5) x8) λr29=>bd (bd (uo_ r29.1) λx30=>oM (UH_ x30 (.bool true))) λb31=>if b31 then
  .ret (.bool false)
  else
  bd (oM (jh_ [(.int 4)])) λl32=>forS (λs45 d46 kn=>QS_ kn5 s45.1 s45.2.1 s45.2.2.1 d46 kn) l32 (gag,r29.2,r29.1,()) (λs45=>zap_ kn5 s45.1 s45.2.1 s45.2.2.1)
def zas_(gan:D):M D :=
 bd (bd (bd (bd (oM (fLen [gan])) λx1=>oM (WT_ [(.int 4),x1])) λx2=>oM (zL_ (.int 2) x2)) λx3=>oM (jh_ [x3])) λl4=>forS (λs47 d48 kn=>Ud_ s47.1 d48 kn) l4 (gan,()) (λs47=>zar_ s47.1)
def UW_:List D->M D:=λl=>match l with
 | [gan]=>zas_ gan
 | _=>.bad
set_option maxHeartbeats 4000000 in
theorem zaZ_{f:Addr}{fd:FuncData}(Fn:Fun K "law" "law" ZX_ f fd)(B:BN mg)(Kn:KN mg)(Kx:KX K mg)(gaF:CF P w K mg base "_law_feed" 1 (spL K 2 j9_))(gaa:CF P w K mg base "_law_next" 1 (sp1 K 2 zp_))(gaB:CF P w K mg base "_law_great" 3 (sp1 K 2 jT_))(gaG:CF P w K mg base "_law_rule" 3 (sp1 K 3 j8_))(gax:CF P w K mg base "is_rule" 6 (spD K 1 jV_))(gay:CF P w K mg base "_law_bent" 4 (sp1 K 2 ua_))(gal:CF P w K mg base "_law_is_rule" 2 (spD K 1 zW_))(gaC:CF P w K mg base "_law_right" 7 (spD K 1 jS_)):FnOk P w K mg base (CX1 P w) 8 f fd ["_law_script"] (spD K 1 UW_) :=
 un_ (k:=7) Fn sc_law (λcdv A outer s H E hr =>
 (zf_ (yn_ (sh:=[.f,.dead,.dead,.dead,.dead,.dead,.dead]) PassesOwn.leaving rfl (uP_ (j3_ rfl B.range (zb_ (zo_ zu_ zS_ (ao zc_) (ao (zK_ (W9_ rfl) zbV_ rfl B.min (by decide +kernel) (zm_ (ao zc_) (zm_ (ao (zK_ zX_ ul_ rfl B.len PySem.boot_len (zm_ (ao (av 0)) zt_ (za_ rfl)) (by decide) (by decide) rfl rfl)) zt_ (za_ rfl)) (za_ rfl)) (by decide) (by decide) rfl rfl))) zi_ (za_ rfl)) rfl)) (zy_ (i:=1) (Nat.zero_le _) sc_law.nd rfl (by first|exact Or.inl rfl|exact Or.inr rfl) (.inl rfl))
  (zf_ (z2_ (sh:=[.f,.dead,.o,.dead,.dead,.dead,.dead]) (Uf_ (i:=2) sc_law.nd rfl (by first|exact Or.inl rfl|exact Or.inr rfl) (Yx_ (zfM_ gaF (hr.mono (by decide)) rfl (zb_ (av 0) (zb_ (av 1) zi_ (za_ rfl)) (za_ rfl)) rfl (by decide) rfl rfl)) rfl (.inl rfl)))
  (zf_ (z2_ (sh:=[.f,.dead,.o,.f,.dead,.dead,.dead]) (zT_ (i:=3) sc_law.nd rfl (by first|exact Or.inl rfl|exact Or.inr rfl) (Yy_ zu_ zS_ (zh_ zc_) (zC_ (i:=2) gaa (hr.mono (by decide)) rfl rfl (by first|exact Or.inl rfl|exact Or.inr (Or.inl rfl)|exact Or.inr (Or.inr rfl)) (zd_ (zh_ zc_) zk_ (za_ rfl)) rfl (by decide) rfl rfl)) rfl (.inl rfl)))
  (zf_ (z2_ (sh:=[.f,.dead,.o,.dead,.f,.dead,.dead]) (zT_ (i:=4) sc_law.nd rfl (by first|exact Or.inl rfl|exact Or.inr rfl) (zfO_ (Xs_ (jD_ (zl_ hr)) jN_ (zC_ (i:=2) gaa (hr.mono (by decide)) rfl rfl (by first|exact Or.inl rfl|exact Or.inr (Or.inl rfl)|exact Or.inr (Or.inr rfl)) (zd_ (zh_ zc_) zk_ (za_ rfl)) rfl (by decide) rfl rfl) (zh_ zc_) rfl) (zC_ (i:=2) gaB (hr.mono (by decide)) rfl rfl (by first|exact Or.inl rfl|exact Or.inr (Or.inl rfl)|exact Or.inr (Or.inr rfl)) (zd_ (zh_ (av 3)) zk_ (za_ rfl)) rfl (by decide) rfl rfl) (zC_ (i:=2) gaG (hr.mono (by decide)) rfl rfl (by first|exact Or.inl rfl|exact Or.inr (Or.inl rfl)|exact Or.inr (Or.inr rfl)) (zd_ (zh_ zc_) (zd_ (zh_ (av 3)) zk_ (za_ rfl)) (za_ rfl)) rfl (by decide) rfl rfl)) rfl (.inl rfl)))
  (zf_ (jC_ (zU_ (zO_ XW_ jN_ (ao (uq_ gax (hr.mono (by decide)) rfl (zb_ (av 4) zi_ (za_ rfl)) rfl (by decide) rfl rfl)) (ao jz_) rfl))
  (zj_ (zq_ (zh_ jz_)))
  zw_)
  (zj_ (yn_ (sh:=[.f,.dead,.o,.dead,.f,.dead,.dead]) PassesOwn.leaving rfl (uP_ (j3_ rfl B.range (zb_ zc_ zi_ (za_ rfl)) rfl)) (zy_ (i:=5) (Nat.zero_le _) sc_law.nd rfl (by first|exact Or.inl rfl|exact Or.inr rfl) (.inl rfl))
  (zf_ (z2_ (sh:=[.f,.dead,.o,.dead,.f,.f,.f]) (zT_ (i:=6) sc_law.nd rfl (by first|exact Or.inl rfl|exact Or.inr rfl) (zC_ (i:=2) gay (hr.mono (by decide)) rfl rfl (by first|exact Or.inl rfl|exact Or.inr (Or.inl rfl)|exact Or.inr (Or.inr rfl)) (zd_ (zh_ (av 4)) zk_ (za_ rfl)) rfl (by decide) rfl rfl) rfl (.inl rfl)))
  (zf_ (z2_ (sh:=[.f,.dead,.o,.dead,.f,.dead,.f]) (jC_ (zU_ (Z9_ (QW_ (zO_ (jD_ (zl_ hr)) jN_ (ao (av 5)) (ao zc_) rfl) (QW_ (at_b (yJ_ (T := "tuple") (by decide) rfl B.isinstance rfl B.tuple (by decide +kernel) (ao (av 6)) rfl rfl rfl) (λ_=>rfl)) (QW_ (zO_ (jD_ (zl_ hr)) jN_ (ao (zK_ zX_ ul_ rfl B.len PySem.boot_len (zm_ (ao (av 6)) zt_ (za_ rfl)) (by decide) (by decide) rfl rfl)) (ao zc_) rfl) (Xe_ (y4_ (ao (uq_ gal (hr.mono (by decide)) rfl (zb_ (av 6) zi_ (za_ rfl)) rfl (by decide) rfl rfl)) (λ_=>rfl))))))))
  (zj_ (zT_ (i:=6) sc_law.nd rfl (by first|exact Or.inl rfl|exact Or.inr rfl) (zC_ (i:=2) gay (hr.mono (by decide)) rfl rfl (by first|exact Or.inl rfl|exact Or.inr (Or.inl rfl)|exact Or.inr (Or.inr rfl)) (zd_ (zh_ (av 6)) zk_ (za_ rfl)) rfl (by decide) rfl rfl) rfl (.inl rfl)))
  zw_))
  (zj_ (jC_ (zU_ (up_ (y4_ (ao (uq_ gaC (hr.mono (by decide)) rfl (zb_ (av 6) zi_ (za_ rfl)) rfl (by decide) rfl rfl)) (λ_=>rfl))))
  (zj_ (zq_ (zh_ jz_)))
  zw_)))) (λ_=>rfl))))))) (λ_=>rfl))
  (zj_ (zq_ (zh_ jz_)))))
 (λds hl=>match ds,hl with | [gan],_=>by kernel_rfl)
theorem zfR_{f:Addr}{fd:FuncData}(Fn:Fun K "law" "law" ZX_ f fd)(hmg:mg "law" = some (.ref f))(B:BN mg)(Kn:KN mg)(Kx:KX K mg)(gaF:CF P w K mg base "_law_feed" 1 (spL K 2 j9_))(gaa:CF P w K mg base "_law_next" 1 (sp1 K 2 zp_))(gaB:CF P w K mg base "_law_great" 3 (sp1 K 2 jT_))(gaG:CF P w K mg base "_law_rule" 3 (sp1 K 3 j8_))(gax:CF P w K mg base "is_rule" 6 (spD K 1 jV_))(gay:CF P w K mg base "_law_bent" 4 (sp1 K 2 ua_))(gal:CF P w K mg base "_law_is_rule" 2 (spD K 1 zW_))(gaC:CF P w K mg base "_law_right" 7 (spD K 1 jS_)):CF P w K mg base "law" 8 (spD K 1 UW_) :=
 ⟨f,fd,["_law_script"],zaZ_ Fn B Kn Kx gaF gaa gaB gaG gax gay gal gaC,hmg,Fn.kp,(bnd1 Fn λ_ _ _ _ _ _ _=>rfl)⟩
end
end
end K01
namespace L4
open PySem PySem.Spec PyProof.Rows L2 L3
theorem bdR{S T:Type}(s:S)(k:S->M T):bd (.ret s) k=k s:=id rfl
theorem oMS{S:Type}(s:S):oM (some s)=.ret s:=id rfl
theorem yF_{step:D->M (Option D)}{g:D->D}:∀(ds:List D),(∀d∈ds,step d=.ret (some (g d)))->j4_ step ds=.ret (ds.map g)
 | [],_=>rfl
 | d::r,h=>by
  rw[j4_,h d List.mem_cons_self,yF_ r λd hd=>h d (zzg _ hd)]
  rfl
theorem uj_{S:Type}{ds:List S}(h:ds.length<=1000):fitM ds=.ret ds:=if_pos (Jm_ h)
theorem Y1_{α:Type}(xs:List α)(i:Nat)(h:i<xs.length):atI xs (i:Int)=some (xs[i]'h):=by
 unfold atI ixN
 rw[if_pos (Int.natCast_nonneg _),if_pos (by lia)]
 simp[h]
theorem zbj_{α:Type}(xs:List α)(i:Int)(h0:0<=i)(h:i<xs.length):∃x∈xs,atI xs i=some x:=by
 obtain⟨n,rfl⟩:=Int.eq_ofNat_of_zero_le h0
 exact⟨_,List.getElem_mem _,Y1_ xs n (by lia)⟩
noncomputable def u3_(s:Str):Bool:=PyData.strOk s&&decide ((reprText s).length<=24)&&PyData.strOk (reprText s)
def Ok(k:Nat):Nat->D->Prop
 | 0,_=>False
 | _+1,.none=>True
 | _+1,.bool _=>True
 | _+1,.int i=>i.natAbs<10^(16+k)
 | _+1,.str s=>u3_ s=true
 | n+1,.list ds=>ds.length<=6+k/\∀d∈ds,Ok k n d
 | n+1,.tuple ds=>ds.length<=6+k/\∀d∈ds,Ok k n d
 | _+1,.dict _=>False
theorem J4_:∀{ds:List D},(∀d∈ds,d.canLay0=true)->PyData.canLayAll0 ds=true
 | [],_=>by simp[PyData.canLayAll0]
 | d::r,h=>by
  simp only[PyData.canLayAll0,Bool.and_eq_true]
  exact⟨h d List.mem_cons_self,J4_ λe he=>h e (zzg _ he)⟩
theorem ux_{n:Nat}:∀{ds:List D},(∀d∈ds,d.depth<=n)->PyData.depthAll ds<=n
 | [],_=>by simp[PyData.depthAll]
 | d::r,h=>by
  simp only[PyData.depthAll]
  exact Nat.max_le.mpr ⟨h d List.mem_cons_self,ux_ λe he=>h e (zzg _ he)⟩
theorem zeb_{m:Nat}(h:m<10^36):m.log2<1920:=by
 by_cases h0:m=0
 ·subst h0;decide
 ·exact(Nat.log2_lt h0).mpr (Nat.lt_of_lt_of_le h (by decide +kernel))
theorem strOk_iff{s:Str}:PyData.strOk s=true↔∀c∈s.cps.toList,c<1114112:=by
 unfold PyData.strOk
 rw[<-Array.all_toList,List.all_eq_true]
 simp
theorem jB_(s:String):PyData.strOk (Str.ofString s)=true:=by
 rw[strOk_iff,signs_ofString]
 intro c hc
 obtain⟨ch,_,rfl⟩:=List.mem_map.mp hc
 have:=ch.valid
 have e:ch.toNat=ch.val.toNat:=rfl
 rw[e]
 rcases this with h|⟨_,h⟩
 ·have h':ch.val.toNat<0xd800:=h
  lia
 ·have h':ch.val.toNat<0x110000:=h
  lia
theorem yr_{a b:Str}(ha:PyData.strOk a=true)(hb:PyData.strOk b=true):PyData.strOk (a++b)=true:=by
 rw[strOk_iff]at *
 intro c hc
 rcases mem_cps_append.mp hc with h|h
 ·exact ha c h
 ·exact hb c h
theorem Jd_{sep:Str}{ts:List Str}(hs:PyData.strOk sep=true)(h:∀t∈ts,PyData.strOk t=true):PyData.strOk (Str.join sep ts)=true:=by
 rw[strOk_iff]at *
 intro c hc
 rcases(mem_join sep c ts).mp hc with ⟨t,ht,hc⟩|⟨_,hc⟩
 ·exact strOk_iff.mp (h t ht) c hc
 ·exact hs c hc
theorem WF_{ts:List Str}:(Str.join ", " ts).length<=piled ts:=by
 by_cases h:ts=[]
 ·subst h;exact Nat.zero_le _
 ·have:=join_length_add ts h;lia
noncomputable def lim:Nat->Nat
 | 0=>24
 | n+1=>4+9*(lim n+2)
theorem eqI(a b:Int):opEq (.int a) (.int b)=some (a==b):=by
 unfold opEq eqOk
 simp[PyData.canLay0,PyData.depth,PyData.eqv]
theorem neI(a b:Int):opNe (.int a) (.int b)=some (!(a==b)):=by
 unfold opNe eqOk
 simp[PyData.canLay0,PyData.depth,PyData.eqv]
theorem gtI(a b:Int):opGt (.int a) (.int b)=some (decide (b<a)):=id rfl
theorem geI(a b:Int):opGe (.int a) (.int b)=some (decide (b<=a)):=id rfl
theorem addI(a b:Int):zL_ (.int a) (.int b)=some (.int (a+b)):=id rfl
theorem subI(a b:Int):uZ_ (.int a) (.int b)=some (.int (a - b)):=id rfl
theorem modI(i j:Int)(h:0<j):Zr_ (.int i) (.int j)=some (.int (i % j)):=if_pos h
theorem divI(i j:Int)(h:0<j)(h2:j<1073741824):Wn_ (.int i) (.int j)=some (.int (i / j)):=if_pos (by simp[h,h2])
theorem mulL(i j:Int)(h : -(2^64)<i)(h2:i<2^64):u5_ (.int i) (.int j)=some (.int (i*j)):=if_pos (by simp only[X2_,Bool.or_eq_true,Bool.and_eq_true,zzi];exact .inl ⟨h,h2⟩)
theorem mulR(i j:Int)(h : -(2^64)<j)(h2:j<2^64):u5_ (.int i) (.int j)=some (.int (i*j)):=if_pos (by simp only[X2_,Bool.or_eq_true,Bool.and_eq_true,zzi];exact .inr ⟨h,h2⟩)
theorem asB_b(b:Bool):asB (.bool b)=.ret b:=id rfl
theorem JI_(b:Bool):truD (.bool b)=some b:=id rfl
theorem lenT(ds:List D):fLen [.tuple ds]=some (.int ds.length):=id rfl
theorem lenL(ds:List D):fLen [.list ds]=some (.int ds.length):=id rfl
theorem seqT(ds:List D):seqD (.tuple ds)=some ds:=id rfl
theorem seqL(ds:List D):seqD (.list ds)=some ds:=id rfl
theorem tupL(ds:List D):uI_ [.list ds]=some (.tuple ds):=id rfl
theorem tupT(ds:List D):uI_ [.tuple ds]=some (.tuple ds):=id rfl
theorem cutT(ds:List D)(lo hi:Option Int):fCut (.tuple ds) lo hi=some (.tuple (L4.cutD ds lo hi)):=id rfl
theorem ixTn(ds:List D)(n:Nat)(h:n<ds.length):opIx (.tuple ds) (.int n)=some ds[n]:=Y1_ ds n h
theorem ixT0(a:D)(r:List D):opIx (.tuple (a::r)) (.int 0)=some a:=ixTn (a::r) 0 (by simp)
theorem ixT1(a b:D)(r:List D):opIx (.tuple (a::b::r)) (.int 1)=some b:=ixTn (a::b::r) 1 (by simp)
theorem ixT2(a b c:D)(r:List D):opIx (.tuple (a::b::c::r)) (.int 2)=some c:=ixTn (a::b::c::r) 2 (by simp)
theorem ixT3(a b c d:D)(r:List D):opIx (.tuple (a::b::c::d::r)) (.int 3)=some d:=ixTn (a::b::c::d::r) 3 (by simp)
theorem ix3_0(a b c:D):opIx (.list [a,b,c]) (.int 0)=some a:=id rfl
theorem ix3_1(a b c:D):opIx (.list [a,b,c]) (.int 1)=some b:=id rfl
theorem ix3_2(a b c:D):opIx (.list [a,b,c]) (.int 2)=some c:=id rfl
theorem put3_0(a b c d:D):putD [a,b,c] (.int 0) d=some [d,b,c]:=id rfl
theorem put3_2(a b c d:D):putD [a,b,c] (.int 2) d=some [a,b,d]:=id rfl
theorem addT(a b:List D)(h:a.length+b.length<=1000):zL_ (.tuple a) (.tuple b)=some (.tuple (a++b)):=if_pos (Jm_ h)
theorem cut_lo(ds:List D)(n:Nat):L4.cutD ds (some n) none=ds.drop n:=by
 unfold L4.cutD
 rw[HT.sIx_nat,HT.sIx_none]
 by_cases h:n<=ds.length
 ·rw[Nat.min_eq_left h,List.take_of_length_le (by rw[List.length_drop];lia)]
 ·rw[Nat.min_eq_right (by lia),List.drop_of_length_le (Nat.le_refl _),List.drop_of_length_le (by lia)]
  simp
theorem cut_hi(ds:List D)(n:Nat):L4.cutD ds none (some n)=ds.take n:=by
 unfold L4.cutD
 rw[HT.sIx_nat,HT.sIx_none]
 by_cases h:n<=ds.length
 ·rw[Nat.min_eq_left h];simp
 ·rw[Nat.min_eq_right (by lia)]
  simp
  rw[List.take_of_length_le (by lia)]
theorem iteB(a b:Bool):(if a=true then(M.ret b)else .ret false)=.ret (a&&b):=by cases a<;>rfl
theorem iteO(a b:Bool):(if a=true then(M.ret true)else .ret b)=.ret (a||b):=by cases a<;>rfl
theorem zcL_(n m:Nat):((n:Int)==(m:Int))=decide (n=m):=by
 by_cases h:n=m
 ·simp[h]
 ·simp only[h,decide_false];rw[beq_eq_false_iff_ne];lia
theorem Xa_(ds:List D)(p:D->Bool):boolsOf (ds.map λd=>PyData.bool (p d))=some (ds.map p):=by
 have:(ds.map λd=>PyData.bool (p d))=(ds.map p).map PyData.bool:=by simp
 rw[this,Y0_]
theorem all_map(ds:List D)(p:D->Bool):fAll [.list (ds.map λd=>PyData.bool (p d))]=some (ds.all p):=by
 show(boolsOf _).map _=_
 rw[Xa_]
 simp
theorem Wy_(ds:List D)(p:D->Bool):inOk (.bool false) (ds.map λd=>PyData.bool (p d))=true:=by
 have h1:PyData.canLayAll0 (ds.map λd=>PyData.bool (p d))=true:=J4_ λd hd=>by
  obtain⟨x,_,rfl⟩:=List.mem_map.mp hd
  simp[PyData.canLay0]
 unfold inOk
 simp[h1,PyData.canLay0,PyData.depth]
theorem Yv_(p:D->Bool):∀ds:List D,((ds.map λd=>PyData.bool (p d)).any λy=>PyData.eqv y (.bool false)) = !ds.all p
 | []=>rfl
 | d::r=>by
  rw[List.map_cons,List.any_cons,Yv_ p r,List.all_cons]
  simp only[PyData.eqv]
  cases p d<;>simp
theorem ZH_(ds:List D)(p:D->Bool):opIn (.bool false) (.list (ds.map λd=>PyData.bool (p d)))=some (!ds.all p):=by
 show(if inOk _ _ then _ else none)=_
 rw[if_pos (Wy_ ds p),Yv_]
noncomputable def sW(lo hi:Int):D->Bool
 | .int i=>decide (lo<=i)&&decide (i<=hi)
 | _=>false
noncomputable def sS(w:Str):D->Bool
 | .str s=>s==w
 | _=>false
def Ey(d:D):Prop:=d.canLay0=true/\d.depth<=1000
theorem QG_{S T ι:Type}{step:T->D->(T->M S)->M S}{e:ι->D}{F:List ι->T}{k:T->M S}:∀(is pre:List ι),
  (∀p i q,is=p++i::q->∀kn:T->M S,step (F (pre++p)) (e i) kn=kn (F (pre++p++[i])))->forC step (is.map e) (F pre) k=k (F (pre++is))
 | [],pre,_=>by simp[forC]
 | i::r,pre,h=>by
  show step (F pre) (e i) _=_
  have h0:=h [] i r rfl (λs'=>forC step (r.map e) s' k)
  rw[List.append_nil]at h0
  rw[h0]
  have:=QG_ (step:=step) (e:=e) (F:=F) (k:=k) r (pre++[i]) λp j q hq kn=>by
   have:=h (i::p) j q (by rw[hq];rfl) kn
   simpa using this
  rw[this]
  simp
theorem zak_{S T ι:Type}{step:T->D->(T->M S)->M S}{e:ι->D}{F:List ι->T}{k:T->M S}(is:List ι)
  (h:∀p i q,is=p++i::q->∀kn:T->M S,step (F p) (e i) kn=kn (F (p++[i]))):forS step (is.map e) (F []) k=k (F is):=by
 rw[ZJ_]
 have:=QG_ (step:=step) (e:=e) (F:=F) (k:=k) is [] (by simpa using h)
 simpa using this
theorem WO_{S T:Type}{step:T->D->(T->M S)->M S}{R:M S->Prop}{P:Nat->T->Prop}{k:T->M S}:∀(ds:List D) (i:Nat) (s:T),
  (∀(j:Nat) (s:T) (d:D),ds[j]? = some d->P (i+j) s->∀kn:T->M S,(∀s',P (i+j+1) s'->R (kn s'))->R (step s d kn)) ->
  P i s->(∀s',P (i+ds.length) s'->R (k s'))->R (forC step ds s k)
 | [],i,s,_,hp,hk=>hk s hp
 | d::r,i,s,h,hp,hk=>by
  show R (step s d _)
  refine h 0 s d rfl hp _ λs' hp'=>?_
  refine WO_ r (i+1) s' (λj s d hd hp kn hkn=>h (j+1) s d (by simpa using hd) (by rw[show i+(j+1)=i+1+j by lia];exact hp) kn λs' q=>hkn s' (by rw[show i+1+j+1=i+(j+1)+1 by lia];exact q)) hp' λs' hs=>hk s' ?_
  rw[show i+(d::r).length=i+1+r.length by simp;lia];exact hs
theorem ZK_{S T:Type}{step:T->D->(T->M S)->M S}{R:M S->Prop}{P:Nat->T->Prop}{k:T->M S}(ds:List D)(s:T)
  (h:∀(j:Nat) (s:T) (d:D),ds[j]? = some d->P j s->∀kn:T->M S,(∀s',P (j+1) s'->R (kn s'))->R (step s d kn))
  (hp:P 0 s) (hk:∀s',P ds.length s'->R (k s')):R (forS step ds s k):=by
 rw[ZJ_]
 exact WO_ ds 0 s (by simpa using h) hp (by simpa using hk)
theorem Yf_{T ι:Type}{step:T->D->M (Option D×T)}{P:Nat->T->Prop}{e:ι->D}{R:ι->Prop}:∀(ds:List D) (i:Nat) (s:T),
  (∀(j:Nat) (s:T) (d:D),ds[j]? = some d->P (i+j) s->∃x s',step s d=.ret (some (e x),s')/\P (i+j+1) s'/\R x)->P i s ->
  ∃xs s',uy_ step ds s=.ret (List.map e xs,s')/\P (i+ds.length) s'/\xs.length=ds.length/\∀x∈xs,R x
 | [],i,s,_,hp=>⟨[],s,rfl,hp,rfl,λ_ h=>by cases h⟩
 | d::r,i,s,h,hp=>by
  obtain⟨x,s1,e1,p1,r1⟩:=h 0 s d rfl hp
  obtain⟨xs,s2,e2,p2,l2,r2⟩:=Yf_ r (i+1) s1 (λj s d hd hp=>by
   have:=h (j+1) s d (by simpa using hd) (by rw[show i+(j+1)=i+1+j by lia];exact hp)
   rw[show i+(j+1)+1=i+1+j+1 by lia]at this
   exact this) p1
  refine⟨x::xs,s2,?_,?_,by simp[l2],?_⟩
  ·rw[uy_,e1];simp only[Zv_,ZP_];rw[e2];rfl
  ·rw[show i+(d::r).length=i+1+r.length by simp;lia];exact p2
  ·intro y hy
   cases hy with
   | head=>exact r1
   | tail _ h=>exact r2 y h
theorem yE_{T ι:Type}{step:T->D->M (Option D×T)}{P:Nat->T->Prop}{e:ι->D}{R:ι->Prop}(ds:List D)(s:T)
  (h:∀(j:Nat) (s:T) (d:D),ds[j]? = some d->P j s->∃x s',step s d=.ret (some (e x),s')/\P (j+1) s'/\R x) (hp:P 0 s) :
  ∃xs s',uy_ step ds s=.ret (List.map e xs,s')/\P ds.length s'/\xs.length=ds.length/\∀x∈xs,R x:=by
 have:=Yf_ (step:=step) (P:=P) (e:=e) (R:=R) ds 0 s (by simpa using h) hp
 simpa using this
noncomputable abbrev iN(n:Nat):D:=.int (n:Int)
noncomputable def rng(lo hi:Nat):List Nat:=(List.range (hi - lo)).map (lo + ·)
theorem Jg_(lo hi:Nat):(rng lo hi).length=hi - lo:=by simp[rng]
theorem Jj_(lo n:Nat):yu_ (lo:Int) n=((List.range n).map (lo + ·)).map iN:=by
 unfold yu_
 rw[List.map_map]
 apply List.map_congr_left
 intro a _
 show PyData.int _=PyData.int _
 congr 1
theorem Zk_{n:Nat}(h:n<=100000):yd_ (n:Int)=true:=by
 unfold yd_
 simp only[Bool.and_eq_true,zzi]
 lia
theorem uL_(n:Nat)(h:n<=100000):jh_ [.int (n:Int)]=some ((List.range n).map iN):=by
 unfold jh_
 simp only[Zk_ h,if_true]
 have:=Jj_ 0 n
 simp only[Int.toNat_natCast]
 rw[show(0:Int)=((0:Nat):Int)from rfl,this]
 simp
theorem zbD_(lo hi:Nat)(h:lo<=100000)(h2:hi<=100000):yS_ [.int (lo:Int),.int (hi:Int)]=some ((rng lo hi).map iN):=by
 unfold yS_
 simp only[Zk_ h,Zk_ h2,Bool.and_self,if_true]
 rw[show((hi:Int) - (lo:Int)).toNat=hi - lo by lia,Jj_]
 rfl
mutual
noncomputable def sz:D->Nat
 | .list ds=>1+szs ds
 | .tuple ds=>1+szs ds
 | .none=>1
 | .bool _=>1
 | .int _=>1
 | .str _=>1
 | .dict _=>1
noncomputable def szs:List D->Nat
 | []=>0
 | d::r=>sz d+szs r
end
mutual
noncomputable def Sm:D->Prop
 | .list ds=>Sms ds
 | .tuple ds=>Sms ds
 | .none=>True
 | .bool _=>True
 | .int i=>i.natAbs<10^19
 | .str s=>u3_ s=true
 | .dict _=>False
noncomputable def Sms:List D->Prop
 | []=>True
 | d::r=>Sm d/\Sms r
end
theorem Ug_:∀{ds:List D},Sms ds->∀d∈ds,Sm d
 | [],_,d,h=>by cases h
 | e::r,hs,d,h=>by
  have hs':Sm e/\Sms r:=by simpa[Sms]using hs
  rcases List.mem_cons.mp h with rfl|h
  ·exact hs'.1
  ·exact Ug_ hs'.2 d h
theorem YA_:∀{ds:List D},(∀d∈ds,Sm d)->Sms ds
 | [],_=>by simp[Sms]
 | e::r,h=>by
  simp only[Sms]
  exact⟨h e List.mem_cons_self,YA_ λd hd=>h d (zzg _ hd)⟩
theorem VS_{B:Nat}:∀{ds:List D},(∀d∈ds,sz d<=B)->szs ds<=ds.length*B
 | [],_=>by simp[szs]
 | e::r,h=>by
  simp only[szs,List.length_cons,Nat.succ_mul]
  have h1:=h e List.mem_cons_self
  have h2:=VS_ (ds:=r) λd hd=>h d (zzg _ hd)
  lia
mutual
theorem Sm.lay:∀{d:D},Sm d->d.canLay0=true
 | .none,h=>by simp[PyData.canLay0]
 | .bool _,h=>by simp[PyData.canLay0]
 | .int _,h=>by simp[PyData.canLay0]
 | .str s,h=>by
  have h':u3_ s=true:=by simpa[Sm]using h
  unfold u3_ at h'
  simp only[Bool.and_eq_true]at h'
  simp[PyData.canLay0,h'.1.1]
 | .list ds,h=>by simp only[PyData.canLay0];exact Sms.lay (by simpa[Sm]using h)
 | .tuple ds,h=>by simp only[PyData.canLay0];exact Sms.lay (by simpa[Sm]using h)
 | .dict _,h=>by simp[Sm]at h
theorem Sms.lay:∀{ds:List D},Sms ds->PyData.canLayAll0 ds=true
 | [],_=>by simp[PyData.canLayAll0]
 | d::r,h=>by
  simp only[Sms]at h
  simp only[PyData.canLayAll0,Bool.and_eq_true]
  exact⟨Sm.lay h.1,Sms.lay h.2⟩
end
mutual
theorem Sm.show:∀{d:D},Sm d->d.showable=true
 | .none,h=>by simp[PyData.showable]
 | .bool _,h=>by simp[PyData.showable]
 | .int i,h=>by
  have h':i.natAbs<10^19:=by simpa[Sm]using h
  simp only[PyData.showable,zzi]
  exact zeb_ (Nat.lt_of_lt_of_le h' (Nat.pow_le_pow_right (by decide) (by decide)))
 | .str s,h=>by simp[PyData.showable]
 | .list ds,h=>by simp only[PyData.showable];exact Sms.show (by simpa[Sm]using h)
 | .tuple ds,h=>by simp only[PyData.showable];exact Sms.show (by simpa[Sm]using h)
 | .dict _,h=>by simp[Sm]at h
theorem Sms.show:∀{ds:List D},Sms ds->PyData.showableAll ds=true
 | [],_=>by simp[PyData.showableAll]
 | d::r,h=>by
  simp only[Sms]at h
  simp only[PyData.showableAll,Bool.and_eq_true]
  exact⟨Sm.show h.1,Sms.show h.2⟩
end
mutual
theorem Sm.text:∀{d:D},Sm d->d.shown.length+2<=30*sz d/\PyData.strOk d.shown=true
 | .none,h=>by refine⟨?_,by simp only[PyData.shown];exact jB_ _⟩;simp only[PyData.shown,sz];decide
 | .bool b,h=>by
  refine⟨?_,by cases b<;>simp only[PyData.shown]<;>exact jB_ _⟩
  cases b<;>simp only[PyData.shown,sz]<;>decide
 | .int i,h=>by
  have h':i.natAbs<10^19:=by simpa[Sm]using h
  refine⟨?_,by simp only[PyData.shown];exact jB_ _⟩
  simp only[PyData.shown,sz]
  have h1:=int_text_length_le10 (a:=i) (k:=19) (by decide) h'
  have h2:(Str.ofString (toString i)).length=(toString i).length:=by
   show(Str.ofString (toString i)).cps.size=_
   rw[<-Array.length_toList,signs_ofString,zzd,String.length_toList]
  lia
 | .str s,h=>by
  have h':u3_ s=true:=by simpa[Sm]using h
  unfold u3_ at h'
  simp only[Bool.and_eq_true,zzi]at h'
  simp only[PyData.shown,sz]
  exact⟨by lia,h'.2⟩
 | .list ds,h=>by
  obtain⟨h1,h2⟩:=Sms.text (ds:=ds) (by simpa[Sm]using h)
  have h5:(Str.join ", " (PyData.shownAll ds)).length<=piled (PyData.shownAll ds):=WF_
  have h6:PyData.strOk (Str.join ", " (PyData.shownAll ds))=true:=Jd_ (jB_ _) h2
  simp only[PyData.shown,listText_eq_join,sz]
  refine⟨?_,yr_ (yr_ (jB_ _) h6) (jB_ _)⟩
  rw[strLen_append,strLen_append]
  have e1:((("[" : String):Str)).length=1:=rfl
  have e2:((("]" : String):Str)).length=1:=rfl
  rw[e1,e2];lia
 | .tuple ds,h=>by
  obtain⟨h1,h2⟩:=Sms.text (ds:=ds) (by simpa[Sm]using h)
  have h5:(Str.join ", " (PyData.shownAll ds)).length<=piled (PyData.shownAll ds):=WF_
  have h6:PyData.strOk (Str.join ", " (PyData.shownAll ds))=true:=Jd_ (jB_ _) h2
  simp only[PyData.shown,tupleText,sz]
  refine⟨?_,yr_ (yr_ (jB_ _) h6) (jB_ _)⟩
  rw[strLen_append,strLen_append]
  have e1:((("(" : String):Str)).length=1:=rfl
  have e3:(((if(PyData.shownAll ds).length==1 then ",)" else ")" : String):Str)).length<=2:=by split<;>decide
  rw[e1];lia
 | .dict _,h=>by simp[Sm]at h
theorem Sms.text:∀{ds:List D},Sms ds->piled (PyData.shownAll ds)<=30*szs ds/\∀t∈PyData.shownAll ds,PyData.strOk t=true
 | [],_=>by simp[PyData.shownAll,piled,szs]
 | d::r,h=>by
  simp only[Sms]at h
  obtain⟨h1,h2⟩:=Sm.text h.1
  obtain⟨h3,h4⟩:=Sms.text h.2
  simp only[PyData.shownAll,szs]
  refine⟨?_,λt ht=>?_⟩
  ·rw[piled_cons];lia
  ·rcases List.mem_cons.mp ht with rfl|ht
   ·exact h2
   ·exact h4 t ht
end
theorem sz_pos(d:D):1<=sz d:=by cases d<;>simp[sz]
theorem zfe_{d:D}(h:Sm d)(hs:sz d<=30000)(hd:d.depth<=60):WS_ [d]=some (.str d.shown):=by
 obtain⟨t1,t2⟩:=h.text
 show(if Uv_ d then some (PyData.str d.shown)else none)=_
 unfold Uv_
 rw[if_pos]
 simp only[Bool.and_eq_true,zzi]
 exact⟨⟨⟨h.show,h.lay⟩,by lia⟩,Nat.le_trans (show d.shown.length<=1000000 by lia) (by decide)⟩
theorem zdZ_{d:D}(h:Sm d):opNe (.str d.shown) (.str d.shown)=some false:=by
 obtain⟨t1,t2⟩:=h.text
 unfold opNe eqOk
 rw[if_pos]
 ·simp[PyData.eqv]
 ·simp[PyData.canLay0,t2,PyData.depth]
theorem zcm_(ds:List D)(k:D):jK_ (.list ds) k=opIx (.list ds) k:=id rfl
theorem Z5_(ds:List D)(k:D):jK_ (.tuple ds) k=opIx (.tuple ds) k:=id rfl
theorem leA(a b:Int):u0_ (.int a) (.int b)=some (decide (a<=b)):=id rfl
theorem ltA(a b:Int):Wm_ (.int a) (.int b)=some (decide (a<b)):=id rfl
theorem zcr_(d:D)(ds:List D):UI_ d (.list ds)=opIn d (.list ds):=id rfl
theorem J0_(d:D)(ds:List D):uT_ d (.tuple ds)=yh_ d (.tuple ds):=id rfl
theorem zfB_{ι:Type}(e:ι->D)(is:List ι)(n:Nat)(h:n<is.length):opIx (.tuple (is.map e)) (.int (n:Int))=some (e is[n]):=by
 have:=Y1_ (is.map e) n (by simpa using h)
 rw[List.getElem_map]at this
 exact this
theorem Xl_(ds:List D)(d:D)(h:ds.length<=100000):mApp ds [d]=some (ds++[d]):=if_pos (Nat.lt_of_le_of_lt h (by decide))
abbrev pD(p:Nat×Nat):D:=.tuple [iN p.1,iN p.2]
theorem zea_(a b:Nat):((a:Int)==(b:Int))=decide (a=b):=zcL_ a b
theorem QI_(p q:Nat×Nat):PyData.eqv (pD p) (pD q)=decide (p=q):=by
 simp only[pD,iN,PyData.eqv,PyData.eqvAll,zea_,Bool.and_true]
 rw[Bool.eq_iff_iff]
 simp[Prod.ext_iff]
theorem Qz_(p:Nat×Nat):(pD p).canLay0=true/\(pD p).depth<=1000:=by
 simp[pD,PyData.canLay0,PyData.canLayAll0,PyData.depth,PyData.depthAll]
theorem YQ_(p q r:Nat×Nat):yh_ (pD p) (.tuple [pD q,pD r])=some (!(decide (q=p)||decide (r=p))):=by
 have hi:inOk (pD p) [pD q,pD r]=true:=by
  unfold inOk
  simp[Qz_,PyData.canLayAll0]
 rw[show yh_ (pD p) (.tuple [pD q,pD r])=if inOk (pD p) [pD q,pD r]then some (!([pD q,pD r].any λy=>PyData.eqv y (pD p)))else none from rfl,if_pos hi]
 simp only[List.any_cons,List.any_nil,QI_,Bool.or_false]
theorem eqN(a b:Nat):opEq (iN a) (iN b)=some (decide (a=b)):=by
 show opEq (.int a) (.int b)=_
 rw[eqI,zea_]
theorem addN(a b:Nat):zL_ (iN a) (iN b)=some (iN (a+b)):=by
 show some (PyData.int ((a:Int)+(b:Int)))=_
 rw[<-Int.natCast_add]
noncomputable abbrev Mt:=Nat×Nat×Nat×Nat
abbrev mD(m:Mt):D:=.tuple [iN m.1,iN m.2.1,iN m.2.2.1,iN m.2.2.2]
structure Rl where
 n:Nat
 st:List Nat
 ms:List Mt
 sy:List Bool
abbrev Rl.d(r:Rl):D:=.tuple [iN r.n,.tuple (r.st.map iN),.tuple (r.ms.map mD),.tuple (r.sy.map PyData.bool)]
def plt(p q:Nat×Nat):Prop:=p.1<q.1\/p.1=q.1/\p.2<q.2
structure MtOk(n:Nat)(m:Mt):Prop where
 ab:m.1<=m.2.1
 b:m.2.1<n
 c:m.2.2.1<n
 d:m.2.2.2<n
 ne:m.2.2≠(m.1,m.2.1)
 ne':m.2.2≠(m.2.1,m.1)
structure Wf(r:Rl):Prop where
 n1:1<=r.n
 st:∀s∈r.st,s<r.n
 sy:r.sy.length=r.n
 ms:∀m∈r.ms,MtOk r.n m
 so:r.ms.Pairwise λm m'=>plt (m.1,m.2.1) (m'.1,m'.2.1)
noncomputable def look(ms:List Mt)(p:Nat×Nat):Option (Nat×Nat):=(ms.find? λm=>decide (m.1=p.1)&&decide (m.2.1=p.2)).map (·.2.2)
def turn(ms:List Mt)(i j:Nat):Nat×Nat:=if i<=j then(look ms (i,j)).getD (i,j)else let t:=(look ms (j,i)).getD (j,i);(t.2,t.1)
theorem min2(a b:Nat):WT_ [.int (a:Int),.int (b:Int)]=some (iN (min a b)):=by
 show some (PyData.int _)=_
 congr 2
 split<;>lia
abbrev kvM(m:Mt):D×D:=(pD (m.1,m.2.1),pD m.2.2)
theorem zeR_(p:Nat×Nat):yB_ (pD p)=true:=id rfl
theorem zev_(p:Nat×Nat):uM_ (pD p)=false:=id rfl
theorem zcR_(a:Nat):zL_ (.int 1) (iN a)=some (iN (a+1)):=by
 show some (PyData.int (1+(a:Int)))=some (PyData.int ((a+1:Nat):Int))
 rw[Int.natCast_add,Int.add_comm]
 rfl
theorem zdn_{lo hi j:Nat}{d:D}(h:((rng lo hi).map iN)[j]? = some d):d=iN (lo+j)/\lo+j<hi:=by
 rw[List.getElem?_map]at h
 obtain⟨x,hx,rfl⟩:=Option.map_eq_some_iff.mp h
 have hl:=(List.getElem?_eq_some_iff.mp hx).1
 rw[Jg_]at hl
 unfold rng at hx
 rw[List.getElem?_map,List.getElem?_range hl]at hx
 cases hx
 exact⟨rfl,by lia⟩
theorem j6_{n j:Nat}{d:D}(h:((List.range n).map iN)[j]? = some d):d=iN j/\j<n:=by
 rw[List.getElem?_map]at h
 obtain⟨x,hx,rfl⟩:=Option.map_eq_some_iff.mp h
 have hl:=(List.getElem?_eq_some_iff.mp hx).1
 rw[List.length_range]at hl
 rw[List.getElem?_range hl]at hx
 cases hx
 exact⟨rfl,hl⟩
structure Ahd(n a b:Nat)(ms:List Mt):Prop where
 ok:∀m∈ms,MtOk n m
 so:ms.Pairwise λm m'=>plt (m.1,m.2.1) (m'.1,m'.2.1)
 ah:∀m∈ms,plt (m.1,m.2.1) (a,b)
 le:ms.length<=a*n+b
theorem Ahd.next{n a b:Nat}{ms:List Mt}(h:Ahd n a b ms):Ahd n a (b+1) ms :=
 ⟨h.ok,h.so,λm hm=>by rcases h.ah m hm with q|⟨q,q2⟩<;>simp only[plt]at * <;> lia,by have:=h.le;lia⟩
theorem Ahd.add{n a b:Nat}{ms:List Mt}{c d:Nat}(h:Ahd n a b ms)(hm:MtOk n (a,b,c,d)):Ahd n a (b+1) (ms++[(a,b,c,d)]):=by
 refine⟨λm hm'=>?_,?_,λm hm'=>?_,by have:=h.le;simp;lia⟩
 ·rcases List.mem_append.mp hm' with q|q
  ·exact h.ok m q
  ·rw[List.mem_singleton.mp q];exact hm
 ·rw[List.pairwise_append]
  refine⟨h.so,List.pairwise_singleton _ _,λm hm x hx=>?_⟩
  rw[List.mem_singleton.mp hx]
  exact h.ah m hm
 ·rcases List.mem_append.mp hm' with q|q
  ·rcases h.ah m q with q|⟨q,q2⟩<;>simp only[plt]at * <;> lia
  ·rw[List.mem_singleton.mp q];exact .inr ⟨rfl,Nat.lt_succ_self _⟩
theorem Ahd.row{n a b:Nat}{ms:List Mt}(h:Ahd n a b ms)(hb:b<=n):Ahd n (a+1) (a+1) ms :=
 ⟨h.ok,h.so,λm hm=>by rcases h.ah m hm with q|⟨q,q2⟩<;>simp only[plt]at * <;> lia,by have:=h.le;rw[Nat.succ_mul];lia⟩
noncomputable instance (p q:Nat×Nat):Decidable (plt p q):=inferInstanceAs (Decidable (_\/_))
theorem zaK_{p q r:Nat×Nat}(h1:plt p q)(h2:plt q r):plt p r:=by
 unfold plt at *;omega
theorem Qo_{p q:Nat×Nat}(h:plt p q):p≠q:=by
 rintro rfl
 unfold plt at h;omega
theorem QC_(p:Nat×Nat):L4.keyD (pD p)=[(p.1:Int),(p.2:Int)]:=yq_ [(p.1:Int),(p.2:Int)]
theorem QB_{p q:Nat×Nat}(h:L4.keyD (pD p)=L4.keyD (pD q)):p=q:=by
 rw[QC_,QC_]at h
 injection h with h1 h2
 injection h2 with h2 _
 exact Prod.ext (by omega) (by omega)
theorem zdM_{p q:Nat×Nat}(h:pD p=pD q):p=q:=QB_ (by rw[h])
theorem leK_pD{p q:Nat×Nat}:leK (pD p) (pD q)=true↔p=q\/plt p q:=by
 unfold leK
 rw[QC_,QC_,HT.lexLt_cons,Bool.not_eq_true']
 by_cases h:(q.1:Int)=p.1
 ·rw[if_pos h,HT.lexLt_cons]
  by_cases h2:(q.2:Int)=p.2
  ·rw[if_pos h2]
   refine⟨λ_=>.inl (Prod.ext (by omega) (by omega)),λ_=>rfl⟩
  ·rw[if_neg h2,decide_eq_false_iff_not]
   unfold plt
   constructor
   ·intro _;right;omega
   ·rintro(z|z)
    ·rw[z]at h2;omega
    ·omega
 ·rw[if_neg h,decide_eq_false_iff_not]
  unfold plt
  constructor
  ·intro _;right;omega
  ·rintro(z|z)
   ·rw[z]at h;omega
   ·omega
noncomputable def dedN(ps:List (Nat×Nat))(acc:List (Nat×Nat)):List (Nat×Nat):=ps.foldl (λacc p=>if p∈acc then acc else acc++[p]) acc
theorem WY_:∀(ps acc:List (Nat×Nat)),(ps.map pD).foldl dedK (acc.map pD)=(dedN ps acc).map pD
 | [],acc=>rfl
 | p::ps,acc=>by
  show(ps.map pD).foldl dedK (dedK (acc.map pD) (pD p))=(dedN ps (if p∈acc then acc else acc++[p])).map pD
  rw[<-WY_ ps]
  congr 1
  unfold dedK
  have e:(L4.keyD (pD p)∈(acc.map pD).map L4.keyD)↔p∈acc:=by
   rw[List.map_map]
   constructor
   ·intro h
    obtain⟨q,hq,e⟩:=List.mem_map.mp h
    exact QB_ e▸hq
   ·intro h
    exact List.mem_map.mpr ⟨p,h,rfl⟩
  by_cases h:p∈acc
  ·rw[if_pos h,if_pos (e.mpr h)]
  ·rw[if_neg h,if_neg (λz=>h (e.mp z)),List.map_append];rfl
theorem zbg_:∀(ps acc:List (Nat×Nat)),acc.Nodup->(dedN ps acc).Nodup
 | [],acc,h=>h
 | p::ps,acc,h=>by
  refine zbg_ ps _ ?_
  show(if p∈acc then acc else acc++[p]).Nodup
  split
  ·exact h
  ·rename_i hp
   rw[List.nodup_append]
   exact⟨h,List.nodup_cons.mpr ⟨(λz=>nomatch z),List.Pairwise.nil⟩,λa ha b hb z=>hp (by rw[<-List.mem_singleton.mp hb,<-z];exact ha)⟩
theorem WX_:∀(ps acc:List (Nat×Nat)) (p:Nat×Nat),p∈dedN ps acc->p∈acc\/p∈ps
 | [],acc,p,h=>.inl h
 | q::ps,acc,p,h=>by
  rcases WX_ ps (if q∈acc then acc else acc++[q]) p h with h|h
  ·split at h
   ·exact .inl h
   ·rcases List.mem_append.mp h with h|h
    ·exact .inl h
    ·exact .inr (by rw[List.mem_singleton.mp h];exact List.mem_cons_self)
  ·exact .inr (zzg _ h)
theorem WZ_:∀(ps acc:List (Nat×Nat)),(dedN ps acc).length<=acc.length+ps.length
 | [],acc=>Nat.le_refl _
 | q::ps,acc=>by
  have:=WZ_ ps (if q∈acc then acc else acc++[q])
  rw[List.length_cons]
  show(dedN ps (if q∈acc then acc else acc++[q])).length<=_
  split at this
  ·rename_i h;rw[if_pos h];omega
  ·rename_i h
   rw[if_neg h]
   rw[zzf,List.length_singleton]at this
   omega
theorem zbh_:∀(ps acc:List (Nat×Nat)),(acc++ps).Nodup->dedN ps acc=acc++ps
 | [],acc,_=>(List.append_nil _).symm
 | q::ps,acc,h=>by
  have h2:=(List.nodup_append.mp h).2.2
  have hq:q∉acc:=λz=>h2 q z q List.mem_cons_self rfl
  show dedN ps (if q∈acc then acc else acc++[q])=_
  rw[if_neg hq,zbh_ ps,List.append_assoc]
  ·rfl
  ·rw[List.append_assoc];exact h
theorem zcn_(p:Nat×Nat):y0_ (pD p)=true:=id rfl
theorem zaD_{ps:List (Nat×Nat)}(h:ps.Pairwise plt):(ps.map pD).Pairwise λx y=>leK x y=true:=by
 rw[List.pairwise_map]
 exact h.imp λh=>leK_pD.mpr (.inr h)
theorem zay_(ps:List (Nat×Nat))(h:ps.length<64):∃L:List (Nat×Nat),fSet [.list (ps.map pD)]=some (L.map pD)/\L.Pairwise plt/\(∀p∈L,p∈ps)/\(ps.Pairwise plt->L=ps)/\L.length<=ps.length:=by
 have e1:dedD (ps.map pD)=(dedN ps []).map pD:=WY_ ps []
 obtain⟨L,p1,p2⟩:=JQ_ (f:=pD) (zs:=dedN ps []) (l:=ur_ ((dedN ps []).map pD)) (jb_ _)
 have nd:L.Nodup:=p1.nodup_iff.mpr (zbg_ ps [] .nil)
 have so:=jJ_ ((dedN ps []).map pD)
 rw[p2,List.pairwise_map]at so
 have pw:L.Pairwise plt:=by
  refine(List.Pairwise.and so nd).imp λ{a b} hh=>?_
  rcases leK_pD.mp hh.1 with z|z
  ·exact absurd z hh.2
  ·exact z
 refine⟨L,?_,pw,λp hp=>?_,λhp=>?_,?_⟩
 ·show(if setOk (ps.map pD)=true then some (ur_ (dedD (ps.map pD)))else none)=_
  have:setOk (ps.map pD)=true:=by
   unfold setOk
   rw[Bool.and_eq_true,zzi,zzd,List.all_eq_true]
   exact⟨h,λd hd=>by obtain⟨p,_,rfl⟩:=List.mem_map.mp hd;exact zcn_ p⟩
  rw[if_pos this,e1,p2]
 ·rcases WX_ ps [] p (p1.mem_iff.mp hp)with z|z
  ·cases z
  ·exact z
 ·have nd2:ps.Nodup:=hp.imp λh=>Qo_ h
  have e2:dedN ps []=ps:=zbh_ ps [] nd2
  rw[e2]at p1
  have:=uJ_ (R:=λx y=>leK x y=true) (a:=L.map pD) (b:=ps.map pD) (λx hx y hy h1 h2=>by
   obtain⟨a,_,rfl⟩:=List.mem_map.mp hx
   obtain⟨b,_,rfl⟩:=List.mem_map.mp hy
   rcases leK_pD.mp h1 with z|z
   ·rw[z]
   ·rcases leK_pD.mp h2 with z2|z2
    ·rw[z2]
    ·exact absurd rfl (Qo_ (zaK_ z z2))) (p1.map pD) (zaD_ pw) (zaD_ hp)
  exact List.map_inj_right (λ{x y}=>zdM_) |>.mp this
 ·rw[p1.length_eq]
  have:=WZ_ ps []
  rw[List.length_nil]at this
  omega
theorem Yc_:∀(a b:List (Nat×Nat)),PyData.eqvAll (a.map pD) (b.map pD)=decide (a=b)
 | [],[]=>rfl
 | [],_::_=>rfl
 | _::_,[]=>rfl
 | p::a,q::b=>by
  show(PyData.eqv (pD p) (pD q)&&PyData.eqvAll (a.map pD) (b.map pD))=_
  rw[Yc_ a b,QI_]
  by_cases h:p=q
  ·subst h;simp
  ·simp[h]
end L4
namespace K01
open PySem PySem.Spec PyProof.Rows L2 L3 L4
def Fd(T:Nat)(f:List D):Prop:=∃a b t:Int,f=[.int a,.int b,.int t]/\0<=t/\t<=T
theorem Fd.le{T T':Nat}{f:List D}(h:Fd T f)(hl:T<=T'):Fd T' f:=by
 obtain⟨a,b,t,e,h0,h1⟩:=h
 exact⟨a,b,t,e,h0,by lia⟩
theorem Qw_{T:Nat}{f:List D}{m:Int}(h:Fd T f)(hT:T<=1000000)(hm:0<m)(hm2:m<1073741824) :
  ∃(r:Int) (f':List D),zg_ f (.int m)=.ret (.int r,f')/\0<=r/\r<m/\Fd (T+1) f':=by
 obtain⟨a,b,t,rfl,h0,h1⟩:=h
 unfold zg_
 simp only[zcm_]
 rw[L4.ix3_0,oMS,bdR,L4.gtI,oMS,bdR]
 by_cases ha:0<a
 ·simp only[ha,decide_true,if_true]
  simp only[oMS,bdR,L4.modI _ _ hm,L4.divI _ _ hm hm2,L4.put3_0]
  exact⟨_,_,rfl,Int.emod_nonneg _ (by lia),Int.emod_lt_of_pos _ hm,_,_,_,rfl,h0,by lia⟩
 ·simp only[ha,decide_false]
  rw[if_neg (by decide)]
  simp only[oMS,bdR,L4.ix3_2,L4.ix3_1,L4.put3_2,L4.addI]
  rw[L4.mulL 41 _ (by decide) (by decide),L4.mulL (t+1) (t+1) (by lia) (by lia)]
  simp only[oMS,bdR,L4.addI]
  have tb:(t+1)*(t+1)<=1000001*1000001:=Int.mul_le_mul (by lia) (by lia) (by lia) (by lia)
  have tb0:0<=(t+1)*(t+1):=Int.mul_nonneg (by lia) (by lia)
  rw[L4.mulR _ ((t+1)*(t+1)+69621) (by lia) (by lia)]
  simp only[oMS,bdR]
  rw[L4.modI _ _ (by decide)]
  simp only[oMS,bdR]
  rw[L4.modI _ _ (by decide)]
  simp only[oMS,bdR,L4.addI]
  have g1:=Int.emod_nonneg ((b+41*(t+1)+3)*((t+1)*(t+1)+69621)) (b:=(998244353:Int)) (by decide)
  have g2:=Int.emod_lt_of_pos ((b+41*(t+1)+3)*((t+1)*(t+1)+69621)) (b:=(998244353:Int)) (by decide)
  rw[L4.mulL _ _ (by lia) (by lia)]
  simp only[oMS,bdR,L4.addI]
  rw[L4.modI _ _ (by decide)]
  simp only[oMS,bdR]
  rw[L4.divI _ _ (by decide) (by decide)]
  simp only[oMS,bdR]
  rw[L4.modI _ _ hm]
  exact⟨_,_,rfl,Int.emod_nonneg _ (by lia),Int.emod_lt_of_pos _ hm,_,_,_,rfl,by lia,by lia⟩
theorem zV_{T:Nat}{f:List D}{m:Nat}(h:Fd T f)(hT:T<=1000000)(hm:0<m)(hm2:m<=1000000000) :
  ∃(r:Nat) (f':List D),zg_ f (.int (m:Int))=.ret (iN r,f')/\r<m/\Fd (T+1) f':=by
 obtain⟨r,f',e,h1,h2,h3⟩:=Qw_ h hT (m:=(m:Int)) (by lia) (by lia)
 obtain⟨n,rfl⟩:=Int.eq_ofNat_of_zero_le h1
 exact⟨n,f',e,by lia,h3⟩
theorem zcv_(ns:List Int)(k:Int)(hn:ns.length<=63):∃f,uB_ (.list (ns.map PyData.int)) (.int k)=.ret f/\Fd 0 f:=by
 unfold uB_
 simp only[zcm_]
 have e1:fLen [.list (ns.map PyData.int)]=some (.int ns.length):=by rw[L4.lenL,zzd]
 have p18:Wl_ (.int 10) (.int 18)=some (.int 1000000000000000000):=id rfl
 have tail:∀c:Int,∃f,(bd (bd (bd (oM (fAbs [.int c])) λx6=>bd (oM (Wl_ (.int 10) (.int 18))) λx7=>oM (opGe x6 x7)) λb8=>if b8 then oM (fAbs [.int c])else .ret (.int 0)) λx9=>bd (bd (bd (oM (Zr_ (.int c) (.int 1000003))) λx10=>bd (oM (u5_ (.int 7919) (.int k))) λx11=>oM (zL_ x10 x11)) λx12=>.ret [x9,x12,(.int 0)]) λl13=>M.ret l13)=.ret f/\Fd 0 f:=λc=>by
  have a1:fAbs [.int c]=some (.int (if c<0 then -c else c)):=id rfl
  simp only[a1,p18,oMS,bdR,L4.geI]
  rw[L4.modI _ _ (by decide),L4.mulL _ _ (by decide) (by decide)]
  simp only[oMS,bdR,L4.addI]
  generalize (if c<0 then -c else c)=A
  generalize decide ((1000000000000000000:Int)<=A)=B
  cases B
  ·exact⟨_,rfl,_,_,_,rfl,Int.le_refl _,Int.le_refl _⟩
  ·exact⟨_,rfl,_,_,_,rfl,Int.le_refl _,Int.le_refl _⟩
 simp only[e1,oMS,bdR,L4.gtI]
 by_cases h:0<(ns.length:Int)
 ·simp only[h,decide_true,if_true]
  rw[L4.modI _ _ h,oMS,bdR]
  have m1:=Int.emod_nonneg k (b:=(ns.length:Int)) (by lia)
  have m2:=Int.emod_lt_of_pos k h
  obtain⟨x,hx,e⟩:=zbj_ (ns.map PyData.int) (k % ns.length) m1 (by rw[zzd];exact m2)
  obtain⟨i,hi,rfl⟩:=List.mem_map.mp hx
  have e2:opIx (.list (ns.map PyData.int)) (.int (k % ns.length))=some (.int i):=e
  rw[e2,oMS,bdR]
  exact tail i
 ·simp only[h,decide_false]
  rw[if_neg (by decide),bdR]
  exact tail 0
theorem UJ_{T:Nat}{f:List D}{m:List D}(hm:0<m.length)(hm2:m.length<100000)(h:Fd T f)(hT:T<=1000000) :
  ∃(x:D) (f':List D),jy_ f (.list m)=.ret (x,f')/\x∈m/\Fd (T+1) f':=by
 unfold jy_
 simp only[zcm_]
 obtain⟨r,f',t1,t2,t3,t4⟩:=Qw_ h hT (m:=(m.length:Int)) (by lia) (by lia)
 obtain⟨x,hx,e⟩:=zbj_ m r t2 t3
 have e2:opIx (.list m) (.int r)=some x:=e
 rw[L4.lenL,oMS,bdR,t1,bdR]
 simp only[e2,oMS,bdR]
 exact⟨x,f',rfl,hx,t4⟩
def zcT_(T most sorts:Nat)(m:M (D×List D)):Prop:=∃(r:Rl) (f':List D),m=.ret (r.d,f')/\Wf r/\r.n<=most/\r.st.length=sorts/\r.ms.length<=2000/\Fd (T+7000) f'
theorem zbB_{R:M (D×List D)->Prop}{T n a sorts often:Nat}{f:List D}{ms:List Mt}{kn22:List D×D×D×D×List D×Unit->M (D×List D)}(hf:Fd T f)(hT:T<=990000)(hn:n<=40)(ha:a<n)(ho:1<=often)(ho2:often<=3)(hA:Ahd n a a ms)
  (k:∀f' ms',Fd (T+4*n) f'->Ahd n (a+1) (a+1) ms'->R (kn22 (f',iN sorts,iN n,iN often,ms'.map mD,()))):R (uk_ f (iN sorts) (iN n) (iN often) (ms.map mD) (iN a) kn22):=by
 unfold uk_
 rw[zbD_ a n (by lia) (by lia),oMS,bdR]
 refine ZK_ (P:=λi s=>∃f ms,s=(f,iN sorts,iN n,iN often,List.map mD ms,iN a,())/\Fd (T+4*i) f/\Ahd n a (a+i) ms) _ _ ?_ ⟨f,ms,rfl,hf,hA⟩ ?_
 ·rintro i s d hd ⟨f,ms,rfl,hf,hA⟩ kn hkn
  obtain⟨rfl,hi⟩:=zdn_ hd
  unfold u8_
  dsimp only
  obtain⟨c,f1,e1,hc,hf1⟩:=zV_ (m:=n) hf (by lia) (by lia) (by lia)
  obtain⟨e,f2,e2,he,hf2⟩:=zV_ (m:=n) hf1 (by lia) (by lia) (by lia)
  obtain⟨x,f3,e3,hx,hf3⟩:=UJ_ (m:=[iN (a+i),iN a,iN e]) (by simp) (by simp) hf2 (by lia)
  obtain⟨x',f4,e4,_,hf4⟩:=zV_ (m:=often) hf3 (by lia) (by lia) (by lia)
  have hd:∃d,d<n/\x=iN d:=by
   simp only[List.mem_cons,List.mem_nil_iff,or_false]at hx
   rcases hx with rfl|rfl|rfl
   ·exact⟨_,hi,rfl⟩
   ·exact⟨_,ha,rfl⟩
   ·exact⟨_,he,rfl⟩
  obtain⟨d,hd,rfl⟩:=hd
  rw[e1,bdR];dsimp only
  rw[e2,bdR];dsimp only
  rw[e3,bdR];dsimp only
  rw[e4,bdR];dsimp only
  rw[eqI,oMS,bdR]
  have skip:R (kn (f4,iN sorts,iN n,iN often,List.map mD ms,iN a,())):=hkn _ ⟨f4,ms,rfl,hf4.le (by lia),hA.next⟩
  split
  ·rw[J0_,show(PyData.tuple [iN c,iN d])=pD (c,d)from rfl,show(PyData.tuple [PyData.tuple [iN a,iN (a+i)],PyData.tuple [iN (a+i),iN a]])=.tuple [pD (a,a+i),pD (a+i,a)]from rfl,YQ_,oMS,bdR]
   split
   ·rename_i hne
    have hle:=hA.le
    have hlen:(ms.map mD).length<=100000:=by
     rw[zzd]
     have:a*n<=40*40:=Nat.mul_le_mul (by lia) hn
     lia
    rw[Xl_ _ _ hlen,oMS,bdR]
    have hne':¬ ((a,a+i)=(c,d))/\¬ ((a+i,a)=(c,d)):=by
     simp only[Bool.not_eq_true',Bool.or_eq_false_iff,decide_eq_false_iff_not]at hne
     exact hne
    have:=hkn (f4,iN sorts,iN n,iN often,List.map mD (ms++[(a,a+i,c,d)]),iN a,()) ⟨f4,_,rfl,hf4.le (by lia),hA.add ⟨by simp,hi,hc,hd,λz=>hne'.1 z.symm,λz=>hne'.2 z.symm⟩⟩
    rw[List.map_append]at this
    exact this
   ·exact skip
  ·exact skip
 ·rintro s ⟨f,ms,rfl,hf,hA⟩
  rw[zzd,Jg_]at hf hA
  unfold u9_
  exact k f ms (hf.le (by lia)) (hA.row (by lia))
theorem zbz_{T:Nat}{f:List D}{most sorts:Nat}(h:Fd T f)(hT:T<=900000)(hm:1<=most)(hm2:most<=40)(hs:1<=sorts)(hs2:sorts<=4):zcT_ T most sorts (jZ_ f (iN most) (iN sorts)):=by
 unfold jZ_
 obtain⟨n0,f1,e1,h1,hf1⟩:=zV_ (m:=most) h (by lia) (by lia) (by lia)
 obtain⟨o0,f2,e2,h2,hf2⟩:=zV_ (m:=3) hf1 (by lia) (by lia) (by lia)
 have e2':zg_ f1 (.int 3)=.ret (iN o0,f2):=e2
 rw[e1,bdR];dsimp only
 rw[zcR_,oMS,bdR,e2',bdR];dsimp only
 rw[zcR_,oMS,bdR,uL_ _ (by lia),oMS,bdR]
 generalize hn:n0+1=n
 have hn40:n<=40:=by lia
 have hb:∀j,j<=n->4*n*j<=6400:=λj hj=>by
  have:n*j<=40*40:=Nat.mul_le_mul hn40 (by lia)
  have e:4*n*j=4*(n*j):=Nat.mul_assoc _ _ _
  lia
 refine ZK_ (P:=λj s=>∃f ms,s=(f,iN sorts,iN n,iN (o0+1),List.map mD ms,())/\Fd (T+2+4*n*j) f/\Ahd n j j ms) _ _ ?_ ⟨f2,[],rfl,hf2.le (by lia),⟨λ_ h=>(nomatch h),.nil,λ_ h=>(nomatch h),Nat.zero_le _⟩⟩ ?_
 ·rintro j s d hd ⟨f,ms,rfl,hf,hA⟩ kn hkn
  obtain⟨rfl,hj⟩:=j6_ hd
  dsimp only
  refine zbB_ hf (by have:=hb j (by lia);lia) hn40 hj (by lia) (by lia) hA λf' ms' hf' hA'=>hkn _ ⟨f',ms',rfl,hf'.le ?_,hA'⟩
  rw[Nat.mul_succ];lia
 ·rintro s ⟨f,ms,rfl,hf,hA⟩
  rw[zzd,List.length_range]at hf hA
  dsimp only
  unfold ya_
  have hfb:=hb n (Nat.le_refl _)
  rw[uL_ sorts (by lia),oMS,bdR]
  obtain⟨st,s1,c1,⟨f1,hs1,hf1⟩,l1,r1⟩:=yE_ (P:=λj (s:List D×D×D×List D×Unit)=>∃f,s=(f,iN sorts,iN n,List.map mD ms,())/\Fd (T+6402+j) f) (e:=iN) (R:=λx=>x<n)
   (step:=λs7 d8=>bd (zg_ s7.1 s7.2.2.1) λr9=>.ret (some r9.1,(r9.2,s7.2.1,s7.2.2.1,s7.2.2.2.1,()))) ((List.range sorts).map iN) (f,iN sorts,iN n,List.map mD ms,())
   (by
    rintro j s d hd ⟨f,rfl,hf⟩
    obtain⟨rfl,hj⟩:=j6_ hd
    obtain⟨x,f',e,hx,hf'⟩:=zV_ (m:=n) hf (by lia) (by lia) (by lia)
    dsimp only
    rw[e,bdR]
    exact⟨x,_,rfl,⟨f',rfl,hf'⟩,hx⟩) ⟨f,rfl,hf.le (by lia)⟩
  subst hs1
  rw[zzd,List.length_range]at hf1 l1
  rw[c1,bdR];dsimp only
  rw[uj_ (by rw[zzd];lia),bdR,tupL,oMS,bdR,tupL,oMS,bdR,uL_ n (by lia),oMS,bdR]
  obtain⟨sy,s2,c2,⟨f2,hs2,hf2⟩,l2,_⟩:=yE_ (P:=λj (s:List D×D×Unit)=>∃f,s=(f,iN n,())/\Fd (T+6402+sorts+j) f) (e:=PyData.bool) (R:=λ_=>True)
   (step:=λs15 d16=>bd (zg_ s15.1 (.int 2)) λr17=>bd (oM (opEq r17.1 (.int 0))) λb18=>.ret (some (.bool b18),(r17.2,s15.2.1,()))) ((List.range n).map iN) (f1,iN n,())
   (by
    rintro j s d hd ⟨f,rfl,hf⟩
    obtain⟨rfl,hj⟩:=j6_ hd
    obtain⟨x,f',e,hx,hf'⟩:=zV_ (m:=2) hf (by lia) (by lia) (by lia)
    have e':zg_ f (.int 2)=.ret (iN x,f'):=e
    dsimp only
    rw[e',bdR];dsimp only
    rw[eqI,oMS,bdR]
    exact⟨_,_,rfl,⟨f',rfl,hf'⟩,trivial⟩) ⟨f1,rfl,hf1⟩
  subst hs2
  rw[zzd,List.length_range]at hf2 l2
  rw[c2,bdR];dsimp only
  rw[uj_ (by rw[zzd];lia),bdR,tupL,oMS,bdR]
  exact⟨⟨n,st,ms,sy⟩,f2,rfl,⟨(show 1<=n by lia),r1,l2,hA.ok,hA.so⟩,(show n<=most by lia),l1,(show ms.length<=2000 by
   have:=hA.le
   have:n*n<=40*40:=Nat.mul_le_mul hn40 hn40
   lia),hf2.le (by lia)⟩
theorem jO_{d:D}(h:Sm d)(T:String):isTo T d=some (isT T d):=by
 refine zcp_ ?_
 cases d<;>first|rfl|(exact absurd h (by simp[Sm]))
theorem Uk_{d:D}(hd:Sm d)(l h:Int):jY_ d (.int l) (.int h)=.ret (.bool (L4.sW l h d)):=by
 unfold jY_ yX_
 rw[jO_ hd,jO_ hd]
 cases d with
 | int i =>
  have t1:isT "int" (.int i)=true:=id rfl
  have t2:isT "bool" (.int i)=false:=id rfl
  simp only[t1,t2,if_true,bdR,oMS,L4.asB_b,L4.leA,Bool.not_false,L4.iteB,L4.sW,Bool.true_and]
 | bool i =>
  have t1:isT "int" (.bool i)=true:=id rfl
  have t2:isT "bool" (.bool i)=true:=id rfl
  simp only[t1,t2,if_true,bdR,oMS,L4.asB_b,Bool.not_true,L4.sW]
  rfl
 | none=>rfl
 | str i=>rfl
 | list i=>rfl
 | tuple i=>rfl
 | dict i=>exact absurd hd (by simp[Sm])
theorem Zy_{d:D}(hd:Sm d)(l h:Int):ja_ d (.int l) (.int h)=.ret (.bool (L4.sW l h d)):=by
 unfold ja_
 rw[jO_ hd,jO_ hd]
 cases d with
 | int i =>
  have t1:isT "int" (.int i)=true:=id rfl
  have t2:isT "bool" (.int i)=false:=id rfl
  simp only[t1,t2,if_true,bdR,oMS,L4.asB_b,L4.leA,Bool.not_false,L4.iteB,L4.sW,Bool.true_and]
 | bool i =>
  have t1:isT "int" (.bool i)=true:=id rfl
  have t2:isT "bool" (.bool i)=true:=id rfl
  simp only[t1,t2,if_true,bdR,oMS,L4.asB_b,Bool.not_true,L4.sW]
  rfl
 | none=>rfl
 | str i=>rfl
 | list i=>rfl
 | tuple i=>rfl
 | dict i=>exact absurd hd (by simp[Sm])
noncomputable def tupN(n:Int):D->Bool
 | .tuple ds=>((ds.length:Int)==n)
 | _=>false
theorem yK_{d:D}(hd:Sm d)(n:Int):jd_ d (.int n)=.ret (.bool (tupN n d)):=by
 unfold jd_
 rw[jO_ hd]
 cases d with
 | tuple ds =>
  have t1:isT "tuple" (.tuple ds)=true:=id rfl
  simp only[t1,if_true,bdR,oMS,L4.lenT,L4.eqI,tupN]
 | none=>rfl
 | str i=>rfl
 | list i=>rfl
 | int i=>rfl
 | bool i=>rfl
 | dict i=>exact absurd hd (by simp[Sm])
theorem yo_{ds:List D}(hd:∀d∈ds,Sm d)(hl:ds.length<=1000)(n:Int):jG_ (.int n) (.tuple ds)=.ret (.bool (ds.all (L4.sW 0 (n - 1)))):=by
 unfold jG_
 rw[seqT,oMS,bdR,yF_ (g:=λd=>.bool (L4.sW 0 (n - 1) d)) ds (λd h=>by rw[subI,oMS,bdR,Uk_ (hd d h),bdR]),bdR,uj_ (by rw[zzd];exact hl),bdR,bdR,all_map,oMS,bdR,bdR]
theorem ym_{ds:List D}(hd:∀d∈ds,Sm d)(hl:ds.length<=1000)(n:Int):(bd (bd (bd (oM (seqD (.tuple ds))) λl55=>bd (j4_ (λd52=>bd (bd (oM (uZ_ (.int n) (.int 1))) λx53=>ja_ d52 (.int 0) x53) λx54=>.ret (some x54)) l55) fitM) λl56=>.ret (PyData.list l56)) λx57=>oM (UI_ (.bool false) x57))=.ret (!ds.all (L4.sW 0 (n - 1))):=by
 rw[seqT,oMS,bdR,yF_ (g:=λd=>.bool (L4.sW 0 (n - 1) d)) ds (λd h=>by rw[subI,oMS,bdR,Zy_ (hd d h),bdR]),bdR,uj_ (by rw[zzd];exact hl),bdR,bdR,zcr_,ZH_,oMS]
noncomputable def isBo:D->Bool
 | .bool _=>true
 | _=>false
theorem zad_{d:D}(h:Sm d):isT "bool" d=isBo d:=by
 cases d<;>first|rfl|(exact absurd h (by simp[Sm]))
noncomputable def ZY_(n:Int):D->Bool
 | .tuple ds=>((ds.length:Int)==n)&&ds.all isBo
 | _=>false
def uh_(n:Int):D->Bool
 | .tuple ds=>(decide (1<=(ds.length:Int))&&decide ((ds.length:Int)<=4))&&ds.all (L4.sW 0 (n - 1))
 | _=>false
theorem QU_{ds:List D}(hd:∀d∈ds,Sm d):j4_ (λd2=>bd (bd (oM (isTo "bool" d2)) λb3=>.ret (.bool b3)) λx4=>.ret (some x4)) ds=.ret (ds.map λd=>.bool (isBo d)) :=
 yF_ (g:=λd=>.bool (isBo d)) ds (λd h=>by rw[jO_ (hd d h),oMS,bdR,bdR,zad_ (hd d h)])
theorem VD_{d:D}(hd:Sm d)(hl:∀ds,d=.tuple ds->ds.length<=1000)(n:Int):uW_ (.int n) d=.ret (.bool (ZY_ n d)):=by
 unfold uW_
 rw[yK_ hd,bdR,asB_b,bdR]
 cases d with
 | tuple ds =>
  have hs:∀d∈ds,Sm d:=Ug_ (by simpa[Sm]using hd)
  have e:ZY_ n (.tuple ds)=(((ds.length:Int)==n)&&ds.all isBo):=rfl
  rw[e,show tupN n (.tuple ds)=((ds.length:Int)==n)from rfl]
  generalize ((ds.length:Int)==n)=b
  cases b with
  | false=>rfl
  | true =>
   rw[if_pos rfl,seqT,oMS,bdR,QU_ hs,bdR,uj_ (by rw[zzd];exact hl ds rfl),bdR,bdR,all_map,oMS,bdR,bdR]
   simp
 | none=>rfl
 | str i=>rfl
 | list i=>rfl
 | int i=>rfl
 | bool i=>rfl
 | dict i=>exact absurd hd (by simp[Sm])
theorem Yt_{d:D}(hd:Sm d)(hl:∀ds,d=.tuple ds->ds.length<=1000)(n:Int):uc_ (.int n) d=.ret (.bool (uh_ n d)):=by
 unfold uc_
 rw[jO_ hd,oMS,bdR,bdR]
 cases d with
 | tuple ds =>
  have hs:∀d∈ds,Sm d:=Ug_ (by simpa[Sm]using hd)
  have t1:isT "tuple" (.tuple ds)=true:=id rfl
  have e:uh_ n (.tuple ds)=((decide (1<=(ds.length:Int))&&decide ((ds.length:Int)<=4))&&ds.all (L4.sW 0 (n - 1))):=rfl
  rw[e,t1,Bool.not_true,if_neg (by decide),lenT,oMS,bdR,leA,oMS,bdR,leA,oMS,iteB,bdR]
  generalize (decide (1<=(ds.length:Int))&&decide ((ds.length:Int)<=4))=b
  cases b with
  | false=>rw[bdR,Bool.not_false,if_pos rfl,Bool.false_and]
  | true=>rw[bdR,Bool.not_true,if_neg (by decide),yo_ hs (hl ds rfl),bdR,Bool.true_and]
 | none=>rfl
 | str i=>rfl
 | list i=>rfl
 | int i=>rfl
 | bool i=>rfl
 | dict i=>exact absurd hd (by simp[Sm])
def Bnd(N:Nat)(m:Mt):Prop:=m.1<N/\m.2.1<N/\m.2.2.1<N/\m.2.2.2<N
noncomputable instance (N:Nat)(m:Mt):Decidable (Bnd N m):=inferInstanceAs (Decidable (_/\_))
noncomputable def sMt(m:Mt):Bool:=decide (m.1<=m.2.1) && !(decide ((m.1,m.2.1)=m.2.2)||decide ((m.2.1,m.1)=m.2.2))
def mt?(N:Nat):D->Option Mt
 | .tuple [.int a,.int b,.int c,.int e]=>if(0<=a/\0<=b/\0<=c/\0<=e)/\Bnd N (a.toNat,b.toNat,c.toNat,e.toNat)/\sMt (a.toNat,b.toNat,c.toNat,e.toNat)=true then some (a.toNat,b.toNat,c.toNat,e.toNat)else none
 | _=>none
theorem zca_{N:Nat}{m:Mt}(h:Bnd N m):mt? N (mD m)=if sMt m then some m else none:=by
 show(if(0<=(m.1:Int)/\0<=(m.2.1:Int)/\0<=(m.2.2.1:Int)/\0<=(m.2.2.2:Int))/\Bnd N ((m.1:Int).toNat,(m.2.1:Int).toNat,(m.2.2.1:Int).toNat,(m.2.2.2:Int).toNat)/\sMt ((m.1:Int).toNat,(m.2.1:Int).toNat,(m.2.2.1:Int).toNat,(m.2.2.2:Int).toNat)=true then some ((m.1:Int).toNat,(m.2.1:Int).toNat,(m.2.2.1:Int).toNat,(m.2.2.2:Int).toNat)else none)=_
 simp only[Int.toNat_natCast]
 by_cases q:sMt m=true
 ·rw[if_pos q,if_pos ⟨by omega,h,q⟩]
 ·rw[if_neg q,if_neg (λz=>q z.2.2)]
theorem J1_{N:Nat}{d:D}{m:Mt}(h:mt? N d=some m):d=mD m/\Bnd N m/\sMt m=true:=by
 unfold mt? at h
 split at h
 ·rename_i a b c e
  split at h
  ·rename_i q
   cases h
   refine⟨?_,q.2.1,q.2.2⟩
   show _=PyData.tuple [.int (a.toNat:Int),.int (b.toNat:Int),.int (c.toNat:Int),.int (e.toNat:Int)]
   rw[Int.toNat_of_nonneg q.1.1,Int.toNat_of_nonneg q.1.2.1,Int.toNat_of_nonneg q.1.2.2.1,Int.toNat_of_nonneg q.1.2.2.2]
  ·cases h
 ·cases h
theorem Uu_{N:Nat}{d:D}(h:L4.sW 0 ((N:Int) - 1) d=true):∃i:Nat,d=iN i/\i<N:=by
 cases d with
 | int i =>
  simp only[L4.sW,Bool.and_eq_true,zzi]at h
  exact⟨i.toNat,by show _=PyData.int (i.toNat:Int);rw[Int.toNat_of_nonneg h.1],by omega⟩
 | _=>cases h
theorem UV_{N i:Nat}(h:i<N):L4.sW 0 ((N:Int) - 1) (iN i)=true:=by
 simp only[L4.sW,Bool.and_eq_true,zzi];omega
theorem zcW_{N:Nat}{d:D}:(∃m:Mt,d=mD m/\Bnd N m)\/(mt? N d=none/\(tupN 4 d=false\/∃ds,d=.tuple ds/\ds.length=4/\ds.all (L4.sW 0 ((N:Int) - 1))=false)):=by
 by_cases h:∃m:Mt,d=mD m/\Bnd N m
 ·exact .inl h
 ·refine .inr ⟨?_,?_⟩
  ·cases q:mt? N d with
   | none=>rfl
   | some m=>exact absurd ⟨m,(J1_ q).1,(J1_ q).2.1⟩ h
  ·cases d with
   | tuple ds =>
    by_cases h4:ds.length=4
    ·refine .inr ⟨ds,rfl,h4,?_⟩
     cases q:ds.all (L4.sW 0 ((N:Int) - 1))with
     | false=>rfl
     | true =>
      exfalso
      match ds,h4,q with
      | [a,b,c,e],_,q =>
       rw[List.all_eq_true]at q
       obtain⟨a',rfl,ha⟩:=Uu_ (q a (by simp))
       obtain⟨b',rfl,hb⟩:=Uu_ (q b (by simp))
       obtain⟨c',rfl,hc⟩:=Uu_ (q c (by simp))
       obtain⟨e',rfl,he⟩:=Uu_ (q e (by simp))
       exact h ⟨(a',b',c',e'),rfl,ha,hb,hc,he⟩
    ·refine .inl ?_
     show((ds.length:Int)==4)=false
     rw[beq_eq_false_iff_ne]
     omega
   | _=>exact .inl rfl
theorem uf_{ds:List D}(h:Sm (.tuple ds)):∀d∈ds,Sm d:=Ug_ (by simpa[Sm]using h)
theorem Xb_{N:Nat}{m:Mt}(h:Bnd N m):[iN m.1,iN m.2.1,iN m.2.2.1,iN m.2.2.2].all (L4.sW 0 ((N:Int) - 1))=true:=by
 obtain⟨h1,h2,h3,h4⟩:=h
 rw[List.all_cons,List.all_cons,List.all_cons,List.all_cons,UV_ h1,UV_ h2,UV_ h3,UV_ h4];rfl
theorem U0_{N:Nat}{d:D}(hd:Sm d):ub_ (iN N) d=.ret (.bool (mt? N d).isSome):=by
 unfold ub_
 rw[yK_ hd,bdR,JI_,oMS,bdR,bdR]
 rcases zcW_ (N:=N) (d:=d)with ⟨m,rfl,hb⟩|⟨hn,h4|⟨ds,rfl,h4,ha⟩⟩
 ·have r4:jG_ (iN N) (mD m)=.ret (.bool true):=by rw[yo_ (uf_ hd) (by simp),Xb_ hb]
  have t4:tupN 4 (mD m)=true:=rfl
  rw[t4,Bool.not_true,if_neg (by decide),r4,bdR,JI_,oMS,bdR,bdR,Bool.not_true,if_neg (by decide)]
  rw[Z5_,ixT0,oMS,bdR,Z5_,ixT1,oMS,bdR,gtI,oMS,bdR,zca_ hb]
  by_cases hab:m.1<=m.2.1
  ·rw[if_neg (by simp;omega)]
   have e1:fCut (mD m) (some 2) none=some (pD m.2.2):=rfl
   have e2:fCut (mD m) none (some 2)=some (pD (m.1,m.2.1)):=rfl
   have a2:asI (.int 2)=.ret (some 2):=id rfl
   simp only[a2,bdR,e1,e2,oMS]
   rw[show(PyData.tuple [pD (m.1,m.2.1),PyData.tuple [iN m.2.1,iN m.1]])=.tuple [pD (m.1,m.2.1),pD (m.2.1,m.1)]from rfl,J0_,YQ_,oMS,bdR,bdR]
   have:sMt m = !(decide ((m.1,m.2.1)=m.2.2)||decide ((m.2.1,m.1)=m.2.2)):=by
    unfold sMt;rw[decide_eq_true hab,Bool.true_and]
   rw[<-this]
   cases sMt m<;>rfl
  ·rw[if_pos (by simp;omega)]
   have:sMt m=false:=by unfold sMt;rw[decide_eq_false hab,Bool.false_and]
   rw[this];rfl
 ·rw[h4,Bool.not_false,if_pos rfl,bdR,if_pos rfl,hn];rfl
 ·have t4:tupN 4 (.tuple ds)=true:=by show((ds.length:Int)==4)=true;rw[beq_iff_eq];omega
  rw[t4,Bool.not_true,if_neg (by decide),yo_ (uf_ hd) (by omega),ha,bdR,JI_,oMS,bdR,bdR,Bool.not_false,if_pos rfl,hn];rfl
theorem zdg_(a b:Nat):ur_ [iN a,iN b]=[iN (min a b),iN (max a b)]:=by
 have key:∀x y:Nat,leK (iN x) (iN y)=decide (x<=y):=λx y=>by
  show(!HT.lexLt [(y:Int)] [(x:Int)])=_
  rw[HT.lexLt_cons]
  by_cases h:(y:Int)=x
  ·rw[if_pos h,HT.lexLt_nil_nil,decide_eq_true (by omega)];rfl
  ·rw[if_neg h]
   by_cases h2:(y:Int)<x
   ·rw[decide_eq_true h2,decide_eq_false (by omega)];rfl
   ·rw[decide_eq_false h2,decide_eq_true (by omega)];rfl
 have pm:([iN (min a b),iN (max a b)]:List D).Perm [iN a,iN b]:=by
  by_cases h:a<=b
  ·rw[Nat.min_eq_left h,Nat.max_eq_right h]
  ·rw[Nat.min_eq_right (by omega),Nat.max_eq_left (by omega)];exact .swap _ _ _
 refine uJ_ (R:=λx y=>leK x y=true) (λx hx y hy h1 h2=>?_) ((jb_ _).trans pm.symm) (jJ_ _) ?_
 ·have w:∀z∈([iN (min a b),iN (max a b)]:List D),∃n:Nat,z=iN n:=λz hz=>by
   rcases List.mem_cons.mp hz with rfl|hz
   ·exact⟨_,rfl⟩
   ·exact⟨_,List.mem_singleton.mp hz⟩
  obtain⟨n,rfl⟩:=w x hx
  obtain⟨k,rfl⟩:=w y hy
  rw[key,zzi]at h1 h2
  rw[Nat.le_antisymm h1 h2]
 ·rw[List.pairwise_cons,List.pairwise_cons]
  refine⟨λz hz=>?_,(λz hz=>nomatch hz),.nil⟩
  rw[List.mem_singleton.mp hz,key,zzi]
  omega
theorem zba_(a b:Nat):PyData.eqv (iN a) (iN b)=decide (a=b):=by
 have:=eqN a b
 unfold opEq at this
 rw[if_pos (by rfl)]at this
 exact Option.some.inj this
noncomputable def prs(N:Nat)(ds:List D):List (Nat×Nat):=(ds.filterMap (mt? N)).map λm=>(m.1,m.2.1)
noncomputable def alls(N:Nat)(ds:List D):Bool:=ds.all λd=>(mt? N d).isSome
def uF_(N:Nat):D->Bool
 | .tuple ds=>alls N ds&&decide ((prs N ds).Pairwise plt)
 | _=>false
theorem yv_{N:Nat}{d:D}{m:Mt}(h:mt? N d=some m)(ds:List D):prs N (d::ds)=(m.1,m.2.1)::prs N ds:=by
 unfold prs;rw[List.filterMap_cons,h];rfl
theorem yH_{N:Nat}{d:D}{m:Mt}(h:mt? N d=some m)(ds:List D):alls N (d::ds)=alls N ds:=by
 unfold alls;rw[List.all_cons,h];rfl
theorem uO_{N:Nat}{d:D}(h:mt? N d=none)(ds:List D):alls N (d::ds)=false:=by
 unfold alls;rw[List.all_cons,h];rfl
def ahd:Option (Nat×Nat)->D
 | none=>.tuple [.int 0,.int (-1)]
 | some p=>pD p
noncomputable def ltO:Option (Nat×Nat)->Nat×Nat->Bool
 | none,_=>true
 | some p,q=>decide (plt p q)
theorem Qy_(a b:Nat)(c d:Int):u0_ (pD (a,b)) (.tuple [.int c,.int d])=some (if(a:Int)=c then decide ((b:Int)<=d)else decide ((a:Int)<=c)):=by
 show some (HT.lexLe [(a:Int),(b:Int)] [c,d])=_
 simp only[HT.lexLe]
 by_cases h:(b:Int)=d
 ·simp[h]
 ·simp[h]
theorem zec_(q:Option (Nat×Nat))(r:Nat×Nat):u0_ (pD r) (ahd q)=some (!ltO q r):=by
 cases q with
 | none =>
  show u0_ (pD (r.1,r.2)) (.tuple [.int 0,.int (-1)])=some false
  rw[Qy_]
  by_cases h:(r.1:Int)=0
  ·rw[if_pos h];congr 1;rw[decide_eq_false_iff_not];omega
  ·rw[if_neg h];congr 1;rw[decide_eq_false_iff_not];omega
 | some p =>
  show u0_ (pD (r.1,r.2)) (.tuple [.int (p.1:Int),.int (p.2:Int)])=some (!decide (plt p r))
  rw[Qy_]
  congr 1
  by_cases h:(r.1:Int)=p.1
  ·rw[if_pos h]
   by_cases h2:plt p r
   ·rw[decide_eq_true h2,decide_eq_false (by unfold plt at h2;omega)];rfl
   ·rw[decide_eq_false h2,decide_eq_true (by unfold plt at h2;omega)];rfl
  ·rw[if_neg h]
   by_cases h2:plt p r
   ·rw[decide_eq_true h2,decide_eq_false (by unfold plt at h2;omega)];rfl
   ·rw[decide_eq_false h2,decide_eq_true (by unfold plt at h2;omega)];rfl
theorem pw_o(q:Option (Nat×Nat))(r:Nat×Nat)(l:List (Nat×Nat)):decide ((q.toList++r::l).Pairwise plt)=(ltO q r&&decide ((r::l).Pairwise plt)):=by
 cases q with
 | none=>rfl
 | some p =>
  show decide ((p::r::l).Pairwise plt)=(decide (plt p r)&&decide ((r::l).Pairwise plt))
  by_cases h:plt p r
  ·rw[decide_eq_true h,Bool.true_and]
   refine decide_eq_decide.mpr ?_
   rw[List.pairwise_cons (a:=p)]
   refine⟨λz=>z.2,λz=>⟨λb hb=>?_,z⟩⟩
   rcases List.mem_cons.mp hb with rfl|hb
   ·exact h
   ·exact zaK_ h ((List.pairwise_cons.mp z).1 b hb)
  ·rw[decide_eq_false h,Bool.false_and,decide_eq_false_iff_not]
   exact λz=>h ((List.pairwise_cons.mp z).1 r List.mem_cons_self)
theorem Vk_{N:Nat}{q:Option (Nat×Nat)}{d:D}{kn:D×D×Unit->M D}(hs:Sm d):jH_ (iN N) (ahd q) d kn=match mt? N d with
  | none=>.ret (.bool false)
  | some m=>if ltO q (m.1,m.2.1)then kn (iN N,pD (m.1,m.2.1),())else .ret (.bool false):=by
 unfold jH_
 rw[U0_ hs,bdR,JI_,oMS,bdR,bdR]
 cases hm:mt? N d with
 | none=>rfl
 | some m =>
  obtain⟨rfl,hb,_⟩:=J1_ hm
  have e2:fCut (mD m) none (some 2)=some (pD (m.1,m.2.1)):=rfl
  have a2:asI (.int 2)=.ret (some 2):=id rfl
  rw[show(!(some m).isSome)=false from rfl,if_neg (by decide),a2,bdR,e2,oMS,bdR,zec_,oMS,bdR]
  dsimp only
  cases ltO q (m.1,m.2.1)with
  | false=>rw[Bool.not_false,if_pos rfl,if_neg (by decide)]
  | true=>rw[Bool.not_true,if_neg (by decide),if_pos rfl,bdR]
theorem Jl_{N:Nat}:∀(ds:List D) (q:Option (Nat×Nat)),(∀d∈ds,Sm d)->forC (λ(s15:D×D×Unit) d16 kn=>jH_ s15.1 s15.2.1 d16 kn) ds (iN N,ahd q,()) (λs15=>u7_ s15.1 s15.2.1)=.ret (.bool (alls N ds&&decide ((q.toList++prs N ds).Pairwise plt)))
 | [],q,_=>by
  show M.ret (PyData.bool true)=_
  have:decide ((q.toList++prs N []).Pairwise plt)=true:=by
   rw[zzi]
   cases q with
   | none=>exact .nil
   | some p=>exact List.pairwise_cons.mpr ⟨(λ_ h=>nomatch h),.nil⟩
  rw[this];rfl
 | d::ds,q,hd=>by
  refine(Vk_ (kn:=λs'=>forC _ ds s' _) (hd d List.mem_cons_self)).trans ?_
  cases hm:mt? N d with
  | none=>rw[uO_ hm];rfl
  | some m =>
   dsimp only
   rw[yH_ hm,yv_ hm,pw_o]
   cases ltO q (m.1,m.2.1)with
   | false=>rw[if_neg (by decide),Bool.false_and,Bool.and_false]
   | true =>
    rw[if_pos rfl,Bool.true_and]
    exact Jl_ ds (some (m.1,m.2.1)) λd h=>hd d (zzg _ h)
theorem Y4_{N:Nat}{d:D}(hd:Sm d):uA_ (iN N) d=.ret (.bool (uF_ N d)):=by
 unfold uA_
 rw[jO_ hd,oMS,bdR,bdR]
 cases d with
 | tuple ds =>
  have t1:isT "tuple" (.tuple ds)=true:=id rfl
  have e:JT_ (.int 1)=some (.int (-1)):=id rfl
  rw[t1,Bool.not_true,if_neg (by decide),e,oMS,bdR,bdR,seqT,oMS,bdR,ZJ_]
  exact Jl_ ds none (uf_ hd)
 | none=>rfl
 | str i=>rfl
 | list i=>rfl
 | int i=>rfl
 | bool i=>rfl
 | dict i=>exact absurd hd (by simp[Sm])
theorem fs2(a b:Nat):u6_ [.tuple [iN a,iN b]]=some [iN (min a b),iN (max a b)]:=by
 rw[<-zdg_];rfl
theorem fs2L(a b:Nat):u6_ [.list [iN a,iN b]]=some [iN (min a b),iN (max a b)]:=by
 rw[<-zdg_];rfl
theorem eqL2(a b c e:Nat):opEq (.list [iN a,iN b]) (.list [iN c,iN e])=some (decide (a=c)&&decide (b=e)):=by
 have:PyData.eqv (.list [iN a,iN b]) (.list [iN c,iN e])=(decide (a=c)&&decide (b=e)):=by
  show(PyData.eqv (iN a) (iN c)&&(PyData.eqv (iN b) (iN e)&&true))=_
  rw[zba_,zba_,Bool.and_true]
 show(if eqOk (.list [iN a,iN b]) (.list [iN c,iN e])=true then some (PyData.eqv (.list [iN a,iN b]) (.list [iN c,iN e]))else none)=_
 rw[if_pos (by rfl),this]
theorem X7_{N:Nat}{acc:List (Nat×Nat)}{d:D}{kn:D×List D×Unit->M D}(hs:Sm d)(ha:acc.length<=1000):je_ (iN N) (acc.map pD) d kn=match mt? N d with
  | none=>.ret (.bool false)
  | some m=>kn (iN N,(acc++[(m.1,m.2.1)]).map pD,()):=by
 unfold je_
 rw[jO_ hs,oMS,bdR,bdR]
 rcases zcW_ (N:=N) (d:=d)with ⟨m,rfl,hb⟩|⟨hn,h4|⟨ds,rfl,h4,hal⟩⟩
 ·have t1:isT "tuple" (mD m)=true:=id rfl
  have n4:opNe (.int (([iN m.1,iN m.2.1,iN m.2.2.1,iN m.2.2.2].length:Nat):Int)) (.int 4)=some false:=id rfl
  have e1:fCut (mD m) (some 2) none=some (.tuple [iN m.2.2.1,iN m.2.2.2]):=rfl
  have e2:fCut (mD m) none (some 2)=some (.tuple [iN m.1,iN m.2.1]):=rfl
  have a2:asI (.int 2)=.ret (some 2):=id rfl
  rw[t1,Bool.not_true,if_neg (by decide),lenT,oMS,bdR,n4,oMS,bdR,if_neg (by decide),ym_ (uf_ hs) (by simp),Xb_ hb,bdR,Bool.not_true,if_neg (by decide)]
  rw[Z5_,ixT0,oMS,bdR,Z5_,ixT1,oMS,bdR,gtI,oMS,bdR,zca_ hb,a2,bdR,e2,oMS,bdR,fs2,oMS,bdR,bdR,bdR,e1,oMS,bdR,fs2,oMS,bdR,bdR,eqL2,oMS]
  by_cases hab:m.1<=m.2.1
  ·rw[if_neg (by simp;omega),bdR]
   have es:(decide (min m.1 m.2.1=min m.2.2.1 m.2.2.2)&&decide (max m.1 m.2.1=max m.2.2.1 m.2.2.2)) = !sMt m:=by
    unfold sMt
    rw[decide_eq_true hab,Bool.true_and,Bool.not_not]
    rw[Bool.eq_iff_iff]
    simp only[Bool.and_eq_true,Bool.or_eq_true,zzi,Prod.ext_iff]
    omega
   rw[es]
   cases sMt m with
   | false=>rfl
   | true =>
    rw[Bool.not_true,if_neg (by decide),bdR,show(PyData.tuple [iN m.1,iN m.2.1])=pD (m.1,m.2.1)from rfl,Xl_ _ _ (by rw[zzd];omega),oMS,bdR,if_pos rfl]
    dsimp only
    rw[List.map_append]
    rfl
  ·rw[if_pos (by simp;omega),bdR,if_pos rfl]
   have:sMt m=false:=by unfold sMt;rw[decide_eq_false hab,Bool.false_and]
   rw[this];rfl
 ·rw[hn]
  cases d with
  | tuple ds =>
   have t1:isT "tuple" (.tuple ds)=true:=id rfl
   rw[t1,Bool.not_true,if_neg (by decide),lenT,oMS,bdR,neI,oMS,bdR]
   have:((ds.length:Int)==4)=false:=h4
   rw[this];rfl
  | none=>rfl
  | str i=>rfl
  | list i=>rfl
  | int i=>rfl
  | bool i=>rfl
  | dict i=>exact absurd hs (by simp[Sm])
 ·have t1:isT "tuple" (.tuple ds)=true:=id rfl
  have:((ds.length:Int)==4)=true:=by rw[beq_iff_eq];omega
  rw[hn,t1,Bool.not_true,if_neg (by decide),lenT,oMS,bdR,neI,oMS,bdR,this,Bool.not_true,if_neg (by decide),ym_ (uf_ hs) (by omega),hal,bdR]
  rfl
theorem eqPs(a b:List (Nat×Nat)):opEq (.list (a.map pD)) (.list (b.map pD))=some (decide (a=b)):=by
 have la:∀l:List (Nat×Nat),PyData.canLayAll0 (l.map pD)=true:=λl=>J4_ λd hd=>by obtain⟨p,_,rfl⟩:=List.mem_map.mp hd;exact(Qz_ p).1
 have dp:PyData.depthAll (a.map pD)<=900:=ux_ λd hd=>by obtain⟨p,_,rfl⟩:=List.mem_map.mp hd;simp[pD,PyData.depth,PyData.depthAll]
 have e:PyData.eqv (.list (a.map pD)) (.list (b.map pD))=decide (a=b):=by rw[PyData.eqv];exact Yc_ a b
 have l1:PyData.canLay0 (.list (a.map pD))=true:=by rw[PyData.canLay0];exact la a
 have l2:PyData.canLay0 (.list (b.map pD))=true:=by rw[PyData.canLay0];exact la b
 have d1:PyData.depth (.list (a.map pD))<=1000:=by rw[PyData.depth];omega
 unfold opEq eqOk
 rw[l1,l2,decide_eq_true d1,e];rfl
theorem zcf_{N:Nat}{acc:List (Nat×Nat)}(h:acc.length<64):jf_ (iN N) (acc.map pD)=.ret (.bool (decide (acc.Pairwise plt))):=by
 obtain⟨L,e1,e2,_,e4,_⟩:=zay_ acc h
 unfold jf_
 rw[e1,oMS,bdR,bdR,eqPs,oMS,bdR,bdR]
 congr 2
 refine decide_eq_decide.mpr ⟨λz=>z▸e2,λz=>(e4 z).symm⟩
theorem QA_{N:Nat}:∀(ds:List D) (acc:List (Nat×Nat)),(∀d∈ds,Sm d)->acc.length+ds.length<64->forC (λ(s74:D×List D×Unit) d75 kn=>je_ s74.1 s74.2.1 d75 kn) ds (iN N,acc.map pD,()) (λs74=>jf_ s74.1 s74.2.1)=.ret (.bool (alls N ds&&decide ((acc++prs N ds).Pairwise plt)))
 | [],acc,_,h=>by
  refine(zcf_ (N:=N) h).trans ?_
  rw[show prs N []=[]from rfl,List.append_nil,show alls N []=true from rfl,Bool.true_and]
 | d::ds,acc,hd,h=>by
  rw[List.length_cons]at h
  refine(X7_ (kn:=λs'=>forC _ ds s' _) (hd d List.mem_cons_self) (by omega)).trans ?_
  cases hm:mt? N d with
  | none=>rw[uO_ hm];rfl
  | some m =>
   dsimp only
   refine(QA_ ds (acc++[(m.1,m.2.1)]) (λd h=>hd d (zzg _ h)) (by rw[zzf,List.length_singleton];omega)).trans ?_
   rw[yH_ hm,yv_ hm,List.append_assoc];rfl
def ye_:D->Bool
 | .tuple [a,b,c,e]=>match a with
  | .int n=>(decide (1<=n)&&decide (n<=40))&&(uh_ n b&&(uF_ n.toNat c&&ZY_ n e))
  | _=>false
 | _=>false
structure Gd(d:D):Prop where
 sm:Sm d
 z:L4.sz d<=900
 dp:d.depth<=50
 w:∀a b ms e,d=.tuple [a,b,.tuple ms,e]->ms.length<64
theorem YH_{d:D}:∀{ds:List D},d∈ds->L4.sz d<=L4.szs ds
 | [],h=>by cases h
 | e::ds,h=>by
  rw[L4.szs]
  rcases List.mem_cons.mp h with rfl|h
  ·omega
  ·have:=YH_ h;omega
theorem VR_:∀(ds:List D),ds.length<=L4.szs ds
 | []=>Nat.le_refl _
 | e::ds=>by
  rw[L4.szs,List.length_cons]
  have:=VR_ ds
  have:=L4.sz_pos e
  omega
theorem zaV_{ds:List D}(h:L4.sz (.tuple ds)<=900):ds.length<=1000:=by
 have:=VR_ ds
 rw[L4.sz]at h
 omega
theorem zaz_{l h:Int}{d:D}(q:L4.sW l h d=true):∃i,d=.int i/\l<=i/\i<=h:=by
 cases d with
 | int i=>simp only[L4.sW,Bool.and_eq_true,zzi]at q;exact⟨i,rfl,q.1,q.2⟩
 | _=>cases q
theorem Qi_{a b c e:D}(h:L4.sW 1 40 a=false):ye_ (.tuple [a,b,c,e])=false:=by
 cases a with
 | int n =>
  show((decide (1<=n)&&decide (n<=40))&&_)=false
  rw[show(decide (1<=n)&&decide (n<=40))=false from h,Bool.false_and]
 | _=>rfl
theorem Zm_{n:Nat}{b c e:D}(h:1<=n)(h2:n<=40):ye_ (.tuple [iN n,b,c,e])=(uh_ n b&&(uF_ n c&&ZY_ n e)):=by
 show((decide (1<=(n:Int))&&decide ((n:Int)<=40))&&(uh_ n b&&(uF_ ((n:Int).toNat) c&&ZY_ n e)))=_
 rw[decide_eq_true (by omega),decide_eq_true (by omega),Int.toNat_natCast];rfl
theorem no4{d:D}(h:tupN 4 d=false):ye_ d=false:=by
 cases d with
 | tuple ds =>
  match ds,h with
  | [],_=>rfl
  | [_],_=>rfl
  | [_,_],_=>rfl
  | [_,_,_],_=>rfl
  | _::_::_::_::_::_,_=>rfl
 | _=>rfl
theorem tup4{d:D}(h:tupN 4 d=true):∃a b c e,d=.tuple [a,b,c,e]:=by
 cases d with
 | tuple ds =>
  have h4:ds.length=4:=by
   have:((ds.length:Int)==4)=true:=h
   rw[beq_iff_eq]at this
   omega
  match ds,h4 with
  | [a,b,c,e],_=>exact⟨a,b,c,e,rfl⟩
 | _=>cases h
theorem notup{d:D}(hs:Sm d)(h:¬ ∃ds,d=.tuple ds):isT "tuple" d=false:=by
 cases d with
 | tuple ds=>exact absurd ⟨ds,rfl⟩ h
 | none=>rfl
 | str i=>rfl
 | list i=>rfl
 | int i=>rfl
 | bool i=>rfl
 | dict i=>exact absurd hs (by simp[Sm])
theorem zcZ_{S:Type}(a b c e:D)(k:D->D->D->D->M S):un4 (.tuple [a,b,c,e]) k=k a b c e:=rfl
theorem ZC_{d:D}(g:Gd d):uo_ d=.ret (.bool (ye_ d)):=by
 unfold uo_
 rw[yK_ g.sm,bdR,JI_,oMS,bdR,bdR]
 cases h4:tupN 4 d with
 | false=>rw[Bool.not_false,if_pos rfl,no4 h4]
 | true =>
  obtain⟨a,b,c,e,rfl⟩:=tup4 h4
  have sm:=uf_ g.sm
  have hz:=g.z
  rw[L4.sz]at hz
  have hl:∀x∈[a,b,c,e],∀ds,x=.tuple ds->ds.length<=1000:=λx hx ds z=>by
   have:=YH_ hx
   rw[z]at this
   exact zaV_ (by omega)
  rw[Bool.not_true,if_neg (by decide),Z5_,ixT0,oMS,bdR,Uk_ (sm a (by simp)),bdR,JI_,oMS,bdR,bdR]
  cases hw:L4.sW 1 40 a with
  | false=>rw[Bool.not_false,if_pos rfl,Qi_ hw]
  | true =>
   obtain⟨i,rfl,h1,h2⟩:=zaz_ hw
   obtain⟨n,rfl⟩:∃n:Nat,i=(n:Int):=⟨i.toNat,by omega⟩
   rw[Bool.not_true,if_neg (by decide),Z5_,ixT1,oMS,bdR,Yt_ (sm b (by simp)) (hl b (by simp)),bdR,asB_b,bdR,Z5_,ixT2,oMS,bdR,show(PyData.int (n:Int))=iN n from rfl,Y4_ (sm c (by simp)),bdR,asB_b,bdR,Z5_,ixT3,oMS,bdR,show iN n=(PyData.int (n:Int))from rfl,VD_ (sm e (by simp)) (hl e (by simp)),bdR,asB_b,iteB,iteB,bdR,bdR]
   rw[show(PyData.int (n:Int))=iN n from rfl,Zm_ (by omega) (by omega)]
theorem Jn_{d:D}(g:Gd d):zR_ d=.ret (.bool (ye_ d)):=by
 unfold zR_
 rw[jO_ g.sm,oMS,bdR,bdR]
 cases h4:tupN 4 d with
 | false =>
  rw[no4 h4]
  cases d with
  | tuple ds =>
   have t1:isT "tuple" (.tuple ds)=true:=id rfl
   rw[t1,Bool.not_true,if_neg (by decide),lenT,oMS,bdR,neI,oMS,bdR,show((ds.length:Int)==4)=false from h4]
   rfl
  | none=>rfl
  | str i=>rfl
  | list i=>rfl
  | int i=>rfl
  | bool i=>rfl
  | dict i=>exact absurd g.sm (by simp[Sm])
 | true =>
  obtain⟨a,b,c,e,rfl⟩:=tup4 h4
  have sm:=uf_ g.sm
  have hz:=g.z
  rw[L4.sz]at hz
  have hl:∀x∈[a,b,c,e],∀ds,x=.tuple ds->ds.length<=1000:=λx hx ds z=>by
   have:=YH_ hx
   rw[z]at this
   exact zaV_ (by omega)
  have t1:isT "tuple" (.tuple [a,b,c,e])=true:=id rfl
  have n4:opNe (.int (([a,b,c,e].length:Nat):Int)) (.int 4)=some false:=id rfl
  rw[t1,Bool.not_true,if_neg (by decide),lenT,oMS,bdR,n4,oMS,bdR,if_neg (by decide),Z5_,ixT0,oMS,bdR,Zy_ (sm a (by simp)),bdR,JI_,oMS,bdR,bdR]
  cases hw:L4.sW 1 40 a with
  | false=>rw[Bool.not_false,if_pos rfl,Qi_ hw]
  | true =>
   obtain⟨i,rfl,h1,h2⟩:=zaz_ hw
   obtain⟨n,rfl⟩:∃n:Nat,i=(n:Int):=⟨i.toNat,by omega⟩
   have c1:fCut (.tuple [PyData.int (n:Int),b,c,e]) (some 1) none=some (.tuple [b,c,e]):=rfl
   have a1:asI (.int 1)=.ret (some 1):=id rfl
   have cT:j4_ (λd15=>bd (bd (oM (isTo "tuple" d15)) λb16=>M.ret (PyData.bool b16)) λx17=>.ret (some x17)) [b,c,e]=.ret ([b,c,e].map λd=>.bool (isT "tuple" d)) :=
    yF_ (g:=λd=>.bool (isT "tuple" d)) _ (λd h=>by rw[jO_ (sm d (zzg _ h)),oMS,bdR,bdR])
   rw[Bool.not_true,if_neg (by decide)]
   rw[zcZ_]
   rw[a1,bdR,c1,oMS,bdR,seqT,oMS,bdR,cT,bdR,uj_ (by simp),bdR,bdR,zcr_,ZH_,oMS,bdR]
   rw[show ye_ (.tuple [PyData.int (n:Int),b,c,e])=_ from Zm_ (n:=n) (by omega) (by omega)]
   by_cases hb:∃bs,b=.tuple bs
   ·obtain⟨bs,rfl⟩:=hb
    by_cases hc:∃cs,c=.tuple cs
    ·obtain⟨cs,rfl⟩:=hc
     by_cases he:∃es,e=.tuple es
     ·obtain⟨es,rfl⟩:=he
      have tt:([.tuple bs,.tuple cs,.tuple es]:List D).all (isT "tuple")=true:=id rfl
      have e1:uh_ n (.tuple bs)=((decide (1<=(bs.length:Int))&&decide ((bs.length:Int)<=4))&&bs.all (L4.sW 0 ((n:Int) - 1))):=rfl
      have e2:ZY_ n (.tuple es)=(((es.length:Int)==n)&&es.all isBo):=rfl
      have hbs:=uf_ (sm (.tuple bs) (by simp))
      have hcs:=uf_ (sm (.tuple cs) (by simp))
      have hes:=uf_ (sm (.tuple es) (by simp))
      rw[tt,Bool.not_true,if_neg (by decide),lenT,oMS,bdR,neI,oMS,bdR,lenT,oMS,bdR,leA,oMS,bdR,leA,oMS,iteB,bdR,iteO,bdR,e1,e2]
      rw[ym_ hbs (hl _ (by simp) bs rfl),bdR,seqT,oMS,bdR,QU_ hes,bdR,uj_ (by rw[zzd];exact hl _ (by simp) es rfl),bdR,bdR,zcr_,ZH_,oMS,iteO,bdR,seqT,oMS,bdR,ZJ_]
      have lp:=QA_ (N:=n) cs [] hcs (by rw[List.length_nil,Nat.zero_add];exact g.w _ _ cs _ rfl)
      rw[show((iN n,List.map pD ([]:List (Nat×Nat)),()):D×List D×Unit)=(PyData.int (n:Int),[],())from rfl]at lp
      rw[lp,List.nil_append]
      have e3:uF_ n (.tuple cs)=(alls n cs&&decide ((prs n cs).Pairwise plt)):=rfl
      rw[<-e3]
      generalize ((es.length:Int)==(n:Int))=p
      generalize (decide (1<=(bs.length:Int))&&decide ((bs.length:Int)<=4))=st
      generalize bs.all (L4.sW 0 ((n:Int) - 1))=A
      generalize es.all isBo=B
      generalize uF_ n (.tuple cs)=M0
      cases p<;>cases st<;>cases A<;>cases B<;>cases M0<;>rfl
     ·have:([.tuple bs,.tuple cs,e]:List D).all (isT "tuple")=false:=by
       rw[List.all_cons,List.all_cons,List.all_cons,notup (sm e (by simp)) he,Bool.false_and,Bool.and_false,Bool.and_false]
      rw[this,show ZY_ n e=false by cases e<;>first|rfl|exact absurd ⟨_,rfl⟩ he,Bool.and_false,Bool.and_false];rfl
    ·have:([.tuple bs,c,e]:List D).all (isT "tuple")=false:=by
      rw[List.all_cons,List.all_cons,notup (sm c (by simp)) hc,Bool.false_and,Bool.and_false]
     rw[this,show uF_ n c=false by cases c<;>first|rfl|exact absurd ⟨_,rfl⟩ hc,Bool.false_and,Bool.and_false];rfl
   ·have:([b,c,e]:List D).all (isT "tuple")=false:=by
     rw[List.all_cons,notup (sm b (by simp)) hb,Bool.false_and]
    rw[this,show uh_ n b=false by cases b<;>first|rfl|exact absurd ⟨_,rfl⟩ hb,Bool.false_and];rfl
def El(B k:Nat)(d:D):Prop:=Sm d/\L4.sz d<=B/\d.depth<=k
theorem El.le{B k B' k':Nat}{d:D}(h:El B k d)(hb:B<=B')(hk:k<=k'):El B' k' d:=⟨h.1,Nat.le_trans h.2.1 hb,Nat.le_trans h.2.2 hk⟩
theorem yD_{B k n:Nat}{ds:List D}(h:∀d∈ds,El B k d)(hn:ds.length<=n):El (1+n*B) (k+1) (.tuple ds):=by
 refine⟨by rw[Sm];exact YA_ λd hd=>(h d hd).1,?_,?_⟩
 ·rw[L4.sz]
  have:=VS_ (λd hd=>(h d hd).2.1)
  have:=Nat.mul_le_mul_right B hn
  omega
 ·rw[PyData.depth]
  have:=ux_ (n:=k) (ds:=ds) (λd hd=>(h d hd).2.2)
  omega
theorem zbd_{B k n:Nat}{ds:List D}(h:∀d∈ds,El B k d)(hn:ds.length<=n):El (1+n*B) (k+1) (.list ds):=by
 refine⟨by rw[Sm];exact YA_ λd hd=>(h d hd).1,?_,?_⟩
 ·rw[L4.sz]
  have:=VS_ (λd hd=>(h d hd).2.1)
  have:=Nat.mul_le_mul_right B hn
  omega
 ·rw[PyData.depth]
  have:=ux_ (n:=k) (ds:=ds) (λd hd=>(h d hd).2.2)
  omega
theorem jL_{i:Int}(h:i.natAbs<1000):El 1 1 (.int i):=⟨by rw[Sm];exact Nat.lt_trans h (by decide),by rw[L4.sz];decide,by rw[PyData.depth];decide⟩
theorem yT_{n:Nat}(h:n<1000):El 1 1 (iN n):=jL_ (by omega)
theorem yU_(b:Bool):El 1 1 (.bool b):=⟨by rw[Sm];trivial,by rw[L4.sz];decide,by rw[PyData.depth];decide⟩
theorem el_none:El 1 1 .none:=⟨by rw[Sm];trivial,by rw[L4.sz];decide,by rw[PyData.depth];decide⟩
theorem zbc_{s:Str}(h:u3_ s=true):El 1 1 (.str s):=⟨by rw[Sm];exact h,by rw[L4.sz];decide,by rw[PyData.depth];decide⟩
theorem el_4{B1 B2 B3 B4 k:Nat}{a b c e:D}(h1:El B1 k a)(h2:El B2 k b)(h3:El B3 k c)(h4:El B4 k e):El (1+(B1+B2+B3+B4)) (k+1) (.tuple [a,b,c,e]):=by
 refine⟨?_,?_,?_⟩
 ·rw[Sm]
  refine YA_ λd hd=>?_
  simp only[List.mem_cons,List.not_mem_nil,or_false]at hd
  rcases hd with rfl|rfl|rfl|rfl
  ·exact h1.1
  ·exact h2.1
  ·exact h3.1
  ·exact h4.1
 ·have g1:=h1.2.1;have g2:=h2.2.1;have g3:=h3.2.1;have g4:=h4.2.1
  rw[L4.sz,L4.szs,L4.szs,L4.szs,L4.szs,L4.szs];omega
 ·rw[PyData.depth]
  have:=ux_ (n:=k) (ds:=[a,b,c,e]) (λd hd=>by
   simp only[List.mem_cons,List.not_mem_nil,or_false]at hd
   rcases hd with rfl|rfl|rfl|rfl
   ·exact h1.2.2
   ·exact h2.2.2
   ·exact h3.2.2
   ·exact h4.2.2)
  omega
theorem zcD_{ds:List D}{lo hi:Option Int}{d:D}(h:d∈L4.cutD ds lo hi):d∈ds:=List.mem_of_mem_drop (List.mem_of_mem_take h)
theorem zcC_(ds:List D)(n:Nat)(h:n<=ds.length):(L4.cutD ds (some ((n:Int) - 1)) (some (n:Int))).length<=1:=by
 cases n with
 | zero =>
  unfold L4.cutD
  rw[show(some ((0:Nat):Int))=some (((0:Nat):Int))from rfl,HT.sIx_nat,Nat.min_eq_left h]
  simp
 | succ n =>
  rw[show(((n+1:Nat):Int) - 1)=((n:Nat):Int) by omega]
  unfold L4.cutD
  rw[HT.sIx_nat,HT.sIx_nat,Nat.min_eq_left h,Nat.min_eq_left (by omega),List.length_take]
  omega
def RB(ds odd:List D)(t:D):Prop:=(∃ds',t=.tuple ds'/\(∀x∈ds',x∈ds\/x∈odd)/\(ds'.length<=ds.length+1\/ds'=ds++ds))\/t=.list ds
theorem Qj_{T:Nat}{f ds odd:List D}(hf:Fd T f)(hT:T<=900000)(hd:ds.length<=100)(ho:odd≠[])(ho2:odd.length<=100):∃t f',zI_ f (.tuple ds) (.list odd)=.ret (t,f')/\RB ds odd t/\Fd (T+3) f':=by
 unfold zI_
 obtain⟨at',f1,e1,h1,hf1⟩:=zV_ (m:=ds.length+1) hf (by omega) (by omega) (by omega)
 obtain⟨way,f2,e2,h2,hf2⟩:=zV_ (m:=7) hf1 (by omega) (by omega) (by omega)
 have e2':zg_ f1 (.int 7)=.ret (iN way,f2):=e2
 have a1:zL_ (.int (ds.length:Int)) (.int 1)=some (.int ((ds.length+1:Nat):Int)):=by rw[addI];rfl
 have hi:asI (iN at')=.ret (some (at':Int)):=id rfl
 have ct:fCut (.tuple ds) none (some (at':Int))=some (.tuple (ds.take at')):=by rw[cutT,L4.cut_hi]
 have cl:∀k:Nat,fCut (.tuple ds) (some (k:Int)) none=some (.tuple (ds.drop k)):=λk=>by rw[cutT,L4.cut_lo]
 rw[lenT,oMS,bdR,a1,oMS,bdR,e1,bdR];dsimp only
 rw[e2',bdR];dsimp only
 rw[show(iN way)=PyData.int (way:Int)from rfl,ltA,oMS,bdR]
 by_cases w2:(way:Int)<2
 ·rw[if_pos (by simpa using w2)]
  obtain⟨x,f3,e3,hx,hf3⟩:=UJ_ (m:=odd) (List.length_pos_iff.mpr ho) (by omega) hf2 (by omega)
  have a2:zL_ (iN at') (.int (way:Int))=some (iN (at'+way)):=addN at' way
  have ai:asI (iN (at'+way))=.ret (some ((at'+way:Nat):Int)):=id rfl
  have l1:=List.length_take_le at' ds
  have l2:(ds.take at').length=at':=by rw[List.length_take];omega
  rw[hi,bdR,ct,oMS,bdR,e3,bdR];dsimp only
  rw[addT _ _ (by simp;omega),oMS,bdR,a2,oMS,bdR,ai,bdR,cl,oMS,bdR,addT _ _ (by simp;omega),oMS,bdR]
  refine⟨_,f3,rfl,.inl ⟨_,rfl,λy hy=>?_,.inl ?_⟩,hf3.le (by omega)⟩
  ·rcases List.mem_append.mp hy with hy|hy
   ·rcases List.mem_append.mp hy with hy|hy
    ·exact .inl (List.mem_of_mem_take hy)
    ·exact .inr (by rw[List.mem_singleton.mp hy];exact hx)
   ·exact .inl (List.mem_of_mem_drop hy)
  ·rw[zzf,zzf,l2,List.length_singleton,List.length_drop];omega
 ·rw[if_neg (by simpa using w2),eqI,oMS,bdR]
  have l2:(ds.take at').length=at':=by rw[List.length_take];omega
  by_cases w3:way=2
  ·subst w3
   have a2:zL_ (iN at') (.int 1)=some (iN (at'+1)):=addN at' 1
   have ai:asI (iN (at'+1))=.ret (some ((at'+1:Nat):Int)):=id rfl
   rw[if_pos (by decide),hi,bdR,ct,oMS,bdR,a2,oMS,bdR,ai,bdR,cl,oMS,bdR,addT _ _ (by simp;omega),oMS,bdR]
   refine⟨_,f2,rfl,.inl ⟨_,rfl,λy hy=>?_,.inl ?_⟩,hf2.le (by omega)⟩
   ·rcases List.mem_append.mp hy with hy|hy
    ·exact .inl (List.mem_of_mem_take hy)
    ·exact .inl (List.mem_of_mem_drop hy)
   ·rw[zzf,l2,List.length_drop];omega
  ·rw[if_neg (by rw[beq_iff_eq];omega),eqI,oMS,bdR]
   by_cases w4:way=3
   ·subst w4
    have a2:uZ_ (iN at') (.int 1)=some (.int ((at':Int) - 1)):=subI _ _
    have ai:asI (.int ((at':Int) - 1))=.ret (some ((at':Int) - 1)):=id rfl
    have c1:=zcC_ ds at' (by omega)
    rw[if_pos (by decide),hi,bdR,ct,oMS,bdR,a2,oMS,bdR,ai,bdR,bdR,cutT,oMS,bdR,addT _ _ (by simp;omega),oMS,bdR,bdR,cl,oMS,bdR,addT _ _ (by simp;omega),oMS,bdR]
    refine⟨_,f2,rfl,.inl ⟨_,rfl,λy hy=>?_,.inl ?_⟩,hf2.le (by omega)⟩
    ·rcases List.mem_append.mp hy with hy|hy
     ·rcases List.mem_append.mp hy with hy|hy
      ·exact .inl (List.mem_of_mem_take hy)
      ·exact .inl (zcD_ hy)
     ·exact .inl (List.mem_of_mem_drop hy)
    ·rw[zzf,zzf,l2,List.length_drop];omega
   ·rw[if_neg (by rw[beq_iff_eq];omega),eqI,oMS,bdR]
    by_cases w5:way=4
    ·subst w5
     rw[if_pos (by decide),hi,bdR,cl,oMS,bdR,bdR,ct,oMS,bdR,addT _ _ (by simp;omega),oMS,bdR]
     refine⟨_,f2,rfl,.inl ⟨_,rfl,λy hy=>?_,.inl ?_⟩,hf2.le (by omega)⟩
     ·rcases List.mem_append.mp hy with hy|hy
      ·exact .inl (List.mem_of_mem_drop hy)
      ·exact .inl (List.mem_of_mem_take hy)
     ·rw[zzf,l2,List.length_drop];omega
    ·have fl:y2_ [.tuple ds]=some ds:=id rfl
     rw[if_neg (by rw[beq_iff_eq];omega),fl,oMS,bdR,bdR,addT _ _ (by omega),oMS,bdR,bdR,bdR,subI,oMS,bdR]
     obtain rfl|rfl:way=5\/way=6:=by omega
     ·have ix:jK_ (.list [.list ds,.tuple (ds++ds)]) (.int (((5:Nat):Int) - 5))=some (.list ds):=id rfl
      rw[ix,oMS,bdR]
      exact⟨_,f2,rfl,.inr rfl,hf2.le (by omega)⟩
     ·have ix:jK_ (.list [.list ds,.tuple (ds++ds)]) (.int (((6:Nat):Int) - 5))=some (.tuple (ds++ds)):=id rfl
      rw[ix,oMS,bdR]
      exact⟨_,f2,rfl,.inl ⟨_,rfl,λy hy=>.inl ((List.mem_append.mp hy).elim id id),.inr rfl⟩,hf2.le (by omega)⟩
theorem Qx_{N:Nat}:∀{ds:List D},ds.all (L4.sW 0 ((N:Int) - 1))=true->∃st:List Nat,ds=st.map iN/\∀s∈st,s<N
 | [],_=>⟨[],rfl,λ_ h=>nomatch h⟩
 | d::ds,h=>by
  rw[List.all_cons,Bool.and_eq_true]at h
  obtain⟨i,rfl,hi⟩:=Uu_ h.1
  obtain⟨st,rfl,hs⟩:=Qx_ h.2
  exact⟨i::st,rfl,λs hs'=>by
   rcases List.mem_cons.mp hs' with rfl|hs'
   ·exact hi
   ·exact hs s hs'⟩
theorem list_bool:∀{ds:List D},ds.all isBo=true->∃sy:List Bool,ds=sy.map PyData.bool
 | [],_=>⟨[],rfl⟩
 | d::ds,h=>by
  rw[List.all_cons,Bool.and_eq_true]at h
  obtain⟨sy,rfl⟩:=list_bool h.2
  cases d with
  | bool b=>exact⟨b::sy,rfl⟩
  | _=>cases h.1
theorem zbZ_{N:Nat}{m:Mt}(hb:Bnd N m)(hs:sMt m=true):MtOk N m:=by
 unfold sMt at hs
 rw[Bool.and_eq_true,zzi,Bool.not_eq_true',Bool.or_eq_false_iff,decide_eq_false_iff_not,decide_eq_false_iff_not]at hs
 exact⟨hs.1,hb.2.1,hb.2.2.1,hb.2.2.2,λz=>hs.2.1 z.symm,λz=>hs.2.2 z.symm⟩
theorem zbX_{N:Nat}{m:Mt}(h:MtOk N m):mt? N (mD m)=some m:=by
 have h1:=h.ab;have h2:=h.b
 have hb:Bnd N m:=⟨by omega,h.b,h.c,h.d⟩
 rw[zca_ hb]
 have:sMt m=true:=by
  unfold sMt
  rw[Bool.and_eq_true,zzi,Bool.not_eq_true',Bool.or_eq_false_iff,decide_eq_false_iff_not,decide_eq_false_iff_not]
  exact⟨h1,λz=>h.ne z.symm,λz=>h.ne' z.symm⟩
 rw[if_pos this]
theorem Ww_{N:Nat}:∀{ds:List D},alls N ds=true->∃ms:List Mt,ds=ms.map mD/\prs N ds=ms.map (λm=>(m.1,m.2.1))/\∀m∈ms,MtOk N m
 | [],_=>⟨[],rfl,rfl,λ_ h=>nomatch h⟩
 | d::ds,h=>by
  cases hm:mt? N d with
  | none=>rw[uO_ hm]at h;cases h
  | some m =>
   rw[yH_ hm]at h
   obtain⟨ms,rfl,e,hs⟩:=Ww_ h
   obtain⟨rfl,hb,hs2⟩:=J1_ hm
   exact⟨m::ms,rfl,by rw[yv_ hm,e];rfl,λx hx=>by
    rcases List.mem_cons.mp hx with rfl|hx
    ·exact zbZ_ hb hs2
    ·exact hs x hx⟩
theorem mts{N:Nat}:∀{ms:List Mt},(∀m∈ms,MtOk N m)->alls N (ms.map mD)=true/\prs N (ms.map mD)=ms.map (λm=>(m.1,m.2.1))
 | [],_=>⟨rfl,rfl⟩
 | m::ms,h=>by
  have hm:=zbX_ (h m List.mem_cons_self)
  obtain⟨a,b⟩:=mts λx hx=>h x (zzg _ hx)
  exact⟨by rw[List.map_cons,yH_ hm,a],by rw[List.map_cons,yv_ hm,b];rfl⟩
structure Ru(r:Rl):Prop where
 w:Wf r
 n:r.n<=40
 s1:1<=r.st.length
 s4:r.st.length<=4
theorem zbA_{d:D}(h:ye_ d=true):∃r:Rl,d=r.d/\Ru r:=by
 unfold ye_ at h
 split at h
 ·rename_i a b c e
  split at h
  ·rename_i n
   simp only[Bool.and_eq_true,zzi]at h
   obtain⟨⟨h1,h2⟩,h3,h4,h5⟩:=h
   obtain⟨N,rfl⟩:∃N:Nat,n=(N:Int):=⟨n.toNat,by omega⟩
   rw[Int.toNat_natCast]at h4
   cases b with
   | tuple bs =>
    cases c with
    | tuple cs =>
     cases e with
     | tuple es =>
      simp only[uh_,uF_,ZY_,Bool.and_eq_true,zzi,beq_iff_eq]at h3 h4 h5
      obtain⟨st,rfl,hst⟩:=Qx_ h3.2
      obtain⟨ms,rfl,e1,hms⟩:=Ww_ h4.1
      obtain⟨sy,rfl⟩:=list_bool h5.2
      rw[zzd]at h3 h5
      have h42:=h4.2
      rw[e1,List.pairwise_map]at h42
      exact⟨⟨N,st,ms,sy⟩,rfl,⟨show 1<=N by omega,hst,show sy.length=N by omega,hms,h42⟩,show N<=40 by omega,show 1<=st.length by omega,show st.length<=4 by omega⟩
     | _=>cases h5
    | _=>cases h4
   | _=>cases h3
  ·cases h
 ·cases h
theorem Wp_{r:Rl}(h:Ru r):ye_ r.d=true:=by
 have h1:=h.w.n1;have h2:=h.n;have h3:=h.s1;have h4:=h.s4
 rw[show ye_ r.d=_ from Zm_ (n:=r.n) h1 h2]
 obtain⟨m1,m2⟩:=mts h.w.ms
 have e1:uh_ r.n (.tuple (r.st.map iN))=true:=by
  show((decide (1<=((r.st.map iN).length:Int))&&decide (((r.st.map iN).length:Int)<=4))&&(r.st.map iN).all (L4.sW 0 ((r.n:Int) - 1)))=true
  rw[Bool.and_eq_true,Bool.and_eq_true,zzi,zzi,zzd,List.all_eq_true]
  refine⟨⟨by omega,by omega⟩,λd hd=>?_⟩
  obtain⟨i,hi,rfl⟩:=List.mem_map.mp hd
  exact UV_ (h.w.st i hi)
 have e2:uF_ r.n (.tuple (r.ms.map mD))=true:=by
  show(alls r.n (r.ms.map mD)&&decide ((prs r.n (r.ms.map mD)).Pairwise plt))=true
  rw[m1,m2,Bool.true_and,zzi,List.pairwise_map]
  exact h.w.so
 have e3:ZY_ r.n (.tuple (r.sy.map PyData.bool))=true:=by
  show((((r.sy.map PyData.bool).length:Int)==(r.n:Int))&&(r.sy.map PyData.bool).all isBo)=true
  rw[Bool.and_eq_true,beq_iff_eq,zzd,h.w.sy,List.all_eq_true]
  refine⟨rfl,λd hd=>?_⟩
  obtain⟨i,hi,rfl⟩:=List.mem_map.mp hd
  rfl
 rw[e1,e2,e3];rfl
theorem elS{r:Rl}(h:Ru r):El 5 2 (.tuple (r.st.map iN)):=yD_ (B:=1) (n:=4) (λd hd=>by
 obtain⟨i,hi,rfl⟩:=List.mem_map.mp hd
 have:=h.w.st i hi;have:=h.n
 exact yT_ (by omega)) (by rw[zzd];exact h.s4)
theorem elm{r:Rl}(h:Ru r){m:Mt}(hm:m∈r.ms):El 5 2 (mD m):=by
 have h1:=h.w.ms m hm;have h2:=h.n
 have:=h1.ab;have:=h1.b;have:=h1.c;have:=h1.d
 exact(el_4 (yT_ (n:=m.1) (by omega)) (yT_ (n:=m.2.1) (by omega)) (yT_ (n:=m.2.2.1) (by omega)) (yT_ (n:=m.2.2.2) (by omega))).le (by omega) (by omega)
theorem elM{r:Rl}(h:Ru r){L:Nat}(hL:r.ms.length<=L):El (1+L*10) 4 (.tuple (r.ms.map mD)):=(yD_ (B:=10) (k:=3) (λd hd=>by
 obtain⟨m,hm,rfl⟩:=List.mem_map.mp hd
 exact(elm h hm).le (by omega) (by omega)) (by rw[zzd];exact hL)).le (Nat.le_refl _) (by omega)
theorem elY{r:Rl}(h:Ru r):El 41 2 (.tuple (r.sy.map PyData.bool)):=yD_ (B:=1) (n:=40) (λd hd=>by
 obtain⟨i,hi,rfl⟩:=List.mem_map.mp hd
 exact yU_ i) (by rw[zzd,h.w.sy];exact h.n)
theorem zan_{t:D}(h:El 900 50 t)(w:∀a b ms e,t=.tuple [a,b,.tuple ms,e]->ms.length<64):Gd t:=⟨h.1,h.2.1,h.2.2,w⟩
structure Bt(L:Nat)(t:D):Prop where
 gd:Gd t
 ti:∀a b ms e,t=.tuple [a,b,.tuple ms,e]->ye_ t=true->ms.length<=L
theorem ZO_{L:Nat}{a b e:D}{ms:List D}(hL:L<=30)(h1:El 20 4 a)(h2:El 60 4 b)(h3:El (1+L*10) 4 (.tuple ms))(h4:El 200 4 e)(hm:ms.length<=L):Bt (L+1) (.tuple [a,b,.tuple ms,e]):=by
 refine⟨zan_ ((el_4 h1 h2 h3 h4).le (by omega) (by omega)) ?_,?_⟩
 ·rintro a' b' ms' e' z
  injection z with z;injection z with _ z;injection z with _ z;injection z with z _;injection z with z
  subst z;omega
 ·rintro a' b' ms' e' z _
  injection z with z;injection z with _ z;injection z with _ z;injection z with z _;injection z with z
  subst z;omega
theorem Yn_{L:Nat}{t:D}(h:El 900 50 t)(h2:∀a b ms e,t≠.tuple [a,b,.tuple ms,e]):Bt L t:=⟨zan_ h λa b ms e z=>absurd z (h2 a b ms e),λa b ms e z=>absurd z (h2 a b ms e)⟩
theorem XM_{ds odd:List D}{t:D}{B k n:Nat}(h:RB ds odd t)(hd:∀d∈ds,El B k d)(ho:∀d∈odd,El B k d)(hn:ds.length+1<=n)(hn2:ds.length+ds.length<=n):El (1+n*B) (k+1) t:=by
 rcases h with ⟨ds',rfl,hm,hl⟩|rfl
 ·refine yD_ (λd hd'=>(hm d hd').elim (hd d) (ho d)) ?_
  rcases hl with hl|rfl
  ·omega
  ·rw[zzf];exact hn2
 ·exact zbd_ hd (by omega)
theorem zdf_{n:Nat}(h:n<=40):∃s,fStr [iN n]=some (.str s)/\u3_ s=true:=by
 have all:∀k:Fin 41,u3_ (Str.ofString (toString ((k.val:Nat):Int)))=true:=by decide +kernel
 refine⟨_,if_pos ?_,all ⟨n,by omega⟩⟩
 rw[Int.natAbs_natCast]
 exact Nat.lt_of_le_of_lt (Nat.log2_le_self n) (by omega)
theorem zcx_{s:Str}(h:u3_ s=true):El 2 2 (.str s):=(zbc_ h).le (by omega) (by omega)
theorem zdb_{N:Nat}{ds:List D}(h:uF_ N (.tuple (ds++ds))=true):ds=[]:=by
 have h':(alls N (ds++ds)&&decide ((prs N (ds++ds)).Pairwise plt))=true:=h
 rw[Bool.and_eq_true,zzi]at h'
 obtain⟨h1,h2⟩:=h'
 cases ds with
 | nil=>rfl
 | cons d ds =>
  exfalso
  cases hm:mt? N d with
  | none=>rw[List.cons_append,uO_ hm]at h1;cases h1
  | some m =>
   rw[List.cons_append,yv_ hm,List.pairwise_cons]at h2
   have hin:(m.1,m.2.1)∈prs N (ds++d::ds):=by
    unfold prs
    refine List.mem_map.mpr ⟨m,List.mem_filterMap.mpr ⟨d,?_,hm⟩,rfl⟩
    exact List.mem_append.mpr (.inr List.mem_cons_self)
   exact Qo_ (h2.1 _ hin) rfl
theorem Jf_{a b c e:D}(h:ye_ (.tuple [a,b,c,e])=true):∃N,uF_ N c=true:=by
 cases a with
 | int n =>
  have h':((decide (1<=n)&&decide (n<=40))&&(uh_ n b&&(uF_ n.toNat c&&ZY_ n e)))=true:=h
  simp only[Bool.and_eq_true]at h'
  exact⟨_,h'.2.2.1⟩
 | _=>cases h
theorem zeI_{L:Nat}{r:Rl}{odd:List D}{x:D}(h:Ru r)(hL:L<=30)(hm:r.ms.length<=L)(hx:RB (r.ms.map mD) odd x)(ho:∀d∈odd,El 10 3 d):Bt (L+1) (.tuple [iN r.n,.tuple (r.st.map iN),x,.tuple (r.sy.map PyData.bool)]):=by
 have hl:(r.ms.map mD).length=r.ms.length:=zzd _
 have ex:El (1+61*10) 4 x:=XM_ (B:=10) (k:=3) (n:=61) hx (λd hd=>by
  obtain⟨m,hm',rfl⟩:=List.mem_map.mp hd
  exact(elm h hm').le (by omega) (by omega)) ho (by omega) (by omega)
 have hn:=h.n
 have el:=el_4 ((yT_ (n:=r.n) (by omega)).le (Nat.le_refl 1) (show 1<=4 by omega)) ((elS h).le (Nat.le_refl 5) (show 2<=4 by omega)) ex ((elY h).le (Nat.le_refl 41) (show 2<=4 by omega))
 refine⟨zan_ (el.le (by omega) (by omega)) ?_,?_⟩
 ·rintro a b ms e z
  injection z with z;injection z with _ z;injection z with _ z;injection z with z _
  rcases hx with ⟨ds',rfl,_,hl'⟩|rfl
  ·injection z with z
   subst z
   rcases hl' with hl'|rfl
   ·omega
   ·rw[zzf];omega
  ·cases z
 ·rintro a b ms e z hr
  obtain⟨N,hN⟩:=Jf_ hr
  injection z with z;injection z with _ z;injection z with _ z;injection z with z _
  rcases hx with ⟨ds',rfl,_,hl'⟩|rfl
  ·injection z with z
   subst z
   rcases hl' with hl'|rfl
   ·omega
   ·rw[zdb_ hN];exact Nat.zero_le _
  ·cases z
theorem zcJ_{L:Nat}{r:Rl}(h:Ru r)(hL:L<=30)(hm:r.ms.length<=L):Bt (L+1) (.tuple [iN r.n,.tuple (r.st.map iN),.tuple (r.sy.map PyData.bool),.tuple (r.ms.map mD)]):=by
 have hn:=h.n
 have el:=el_4 ((yT_ (n:=r.n) (by omega)).le (Nat.le_refl 1) (show 1<=4 by omega)) ((elS h).le (Nat.le_refl 5) (show 2<=4 by omega)) ((elY h).le (Nat.le_refl 41) (show 2<=4 by omega)) (elM h hm)
 refine⟨zan_ (el.le (by omega) (by omega)) ?_,?_⟩
 ·rintro a b ms e z
  injection z with z;injection z with _ z;injection z with _ z;injection z with z _;injection z with z
  subst z
  rw[zzd,h.w.sy];omega
 ·rintro a b ms e z hr
  obtain⟨N,hN⟩:=Jf_ hr
  exfalso
  have h':(alls N (r.sy.map PyData.bool)&&_)=true:=hN
  have h1:=h.w.n1
  have h2:=h.w.sy
  cases q:r.sy with
  | nil=>rw[q]at h2;have:(0:Nat)=r.n:=h2;omega
  | cons s sy =>
   rw[q,List.map_cons,uO_ (show mt? N (.bool s)=none from rfl),Bool.false_and]at h'
   cases h'
def UU_(n:Nat):List D:=[.tuple [.int 0,.int 0,.int 0,.int 0],.tuple [.int 0,.int 1,.int 1,.int 0],.tuple [.int 1,.int 0,.int 0,.int 0],.tuple [.int 0,.int ((n:Int) - 1),.int 0,.int 0],.tuple [.int 0,.int 0,.int 0,iN n],.tuple [.int 0,.int 0,.int ((n:Int) - 1),.int 0],.tuple [.int 0,.int 0,.int 0],.list [.int 0,.int 0,.int 0,.int ((n:Int) - 1)],.tuple [.int 0,.int 0,.int 0,.bool true],.tuple [.int 0,.int (-1),.int 0,.int 0],.tuple [.int ((n:Int) - 1),.int ((n:Int) - 1),.int 0,.int 0],.none,.tuple []]
theorem X0_{n:Nat}(h:n<=40):∀d∈UU_ n,El 10 3 d:=by
 have i0:El 1 1 (.int 0):=jL_ (by decide)
 have i1:El 1 1 (.int 1):=jL_ (by decide)
 have im:El 1 1 (.int (-1)):=jL_ (by decide)
 have ie:El 1 1 (.int ((n:Int) - 1)):=jL_ (by omega)
 have iN':El 1 1 (iN n):=yT_ (by omega)
 have t4:∀{a b c e:D},El 1 1 a->El 1 1 b->El 1 1 c->El 1 1 e->El 10 3 (.tuple [a,b,c,e]):=λa b c e=>(el_4 a b c e).le (by omega) (by omega)
 intro d hd
 simp only[UU_,List.mem_cons,List.not_mem_nil,or_false]at hd
 rcases hd with rfl|rfl|rfl|rfl|rfl|rfl|rfl|rfl|rfl|rfl|rfl|rfl|rfl
 ·exact t4 i0 i0 i0 i0
 ·exact t4 i0 i1 i1 i0
 ·exact t4 i1 i0 i0 i0
 ·exact t4 i0 ie i0 i0
 ·exact t4 i0 i0 i0 iN'
 ·exact t4 i0 i0 ie i0
 ·exact(yD_ (B:=1) (k:=1) (n:=3) (λd hd=>by
   simp only[List.mem_cons,List.not_mem_nil,or_false]at hd
   rcases hd with rfl|rfl|rfl<;>exact i0) (by simp)).le (by omega) (by omega)
 ·exact(zbd_ (B:=1) (k:=1) (n:=4) (λd hd=>by
   simp only[List.mem_cons,List.not_mem_nil,or_false]at hd
   rcases hd with rfl|rfl|rfl|rfl
   ·exact i0
   ·exact i0
   ·exact i0
   ·exact ie) (by simp)).le (by omega) (by omega)
 ·exact t4 i0 i0 i0 (yU_ true)
 ·exact t4 i0 im i0 i0
 ·exact t4 ie ie i0 i0
 ·exact el_none.le (by omega) (by omega)
 ·exact(yD_ (B:=1) (k:=1) (n:=0) (λd hd=>by cases hd) (by simp)).le (by omega) (by omega)
theorem neE(ms:List Mt)(hl:∀m∈ms,El 5 2 (mD m)):opNe (.tuple (ms.map mD)) (.tuple [])=some (!ms.isEmpty):=by
 have l1:PyData.canLay0 (.tuple (ms.map mD))=true:=by
  rw[PyData.canLay0]
  refine J4_ λd hd=>?_
  obtain⟨m,hm,rfl⟩:=List.mem_map.mp hd
  exact(hl m hm).1.lay
 have d1:PyData.depth (.tuple (ms.map mD))<=1000:=by
  rw[PyData.depth]
  have:=ux_ (n:=2) (ds:=ms.map mD) (λd hd=>by
   obtain⟨m,hm,rfl⟩:=List.mem_map.mp hd
   exact(hl m hm).2.2)
  omega
 have e:PyData.eqv (.tuple (ms.map mD)) (.tuple [])=ms.isEmpty:=by
  cases ms<;>rfl
 unfold opNe eqOk
 rw[l1,decide_eq_true d1,e];rfl
theorem mem8{a b c d e f g h x:D}(hx:x∈[a,b,c,d,e,f,g,h]){P:D->Prop}(h1:P a)(h2:P b)(h3:P c)(h4:P d)(h5:P e)(h6:P f)(h7:P g)(h8:P h):P x:=by
 simp only[List.mem_cons,List.not_mem_nil,or_false]at hx
 rcases hx with rfl|rfl|rfl|rfl|rfl|rfl|rfl|rfl<;>assumption
theorem mem6{a b c d e f x:D}(hx:x∈[a,b,c,d,e,f]){P:D->Prop}(h1:P a)(h2:P b)(h3:P c)(h4:P d)(h5:P e)(h6:P f):P x:=by
 simp only[List.mem_cons,List.not_mem_nil,or_false]at hx
 rcases hx with rfl|rfl|rfl|rfl|rfl|rfl<;>assumption
theorem negN(n:Nat):JT_ (iN n)=some (.int (-(n:Int))):=id rfl
theorem neg1:JT_ (.int 1)=some (.int (-1)):=id rfl
theorem zbe_{B k:Nat}{ds:List D}(h1:∀d∈ds,Sm d)(h2:L4.szs ds<=B)(h3:∀d∈ds,d.depth<=k):El (1+B) (k+1) (.tuple ds):=by
 refine⟨by rw[Sm];exact YA_ h1,by rw[L4.sz];omega,?_⟩
 rw[PyData.depth]
 have:=ux_ (n:=k) (ds:=ds) h3
 omega
theorem zfI_{B k:Nat}{ds:List D}(h:El B k (.tuple ds)):El B k (.list ds):=by
 obtain⟨h1,h2,h3⟩:=h
 exact⟨by rw[Sm]at *;exact h1,by rw[L4.sz]at *;exact h2,by rw[PyData.depth]at *;exact h3⟩
theorem Xc_{T L:Nat}{f:List D}{r:Rl}(hf:Fd T f)(hT:T<=890000)(h:Ru r)(hL:L<=30)(hm:r.ms.length<=L):∃t f',jq_ f r.d=.ret (t,f')/\Bt (L+1) t/\Fd (T+6) f':=by
 have hn:=h.n
 have hsl:=h.s4
 have hyl:r.sy.length<=40:=by rw[h.w.sy];exact h.n
 have i0:El 2 2 (.int 0):=(jL_ (by decide)).le (by omega) (by omega)
 have im:El 2 2 (.int (-1)):=(jL_ (by decide)).le (by omega) (by omega)
 have ie:El 2 2 (.int ((r.n:Int) - 1)):=(jL_ (by omega)).le (by omega) (by omega)
 have iN':El 2 2 (iN r.n):=(yT_ (by omega)).le (by omega) (by omega)
 have bt:El 2 2 (.bool true):=(yU_ true).le (by omega) (by omega)
 have bf:El 2 2 (.bool false):=(yU_ false).le (by omega) (by omega)
 have no:El 2 2 .none:=el_none.le (by omega) (by omega)
 have t1:El 2 2 (.tuple [.int 0]):=(yD_ (B:=1) (k:=1) (n:=1) (λd hd=>by rw[List.mem_singleton.mp hd];exact jL_ (by decide)) (by simp)).le (by omega) (by omega)
 unfold jq_
 obtain⟨way,f1,e1,h1,hf1⟩:=zV_ (m:=6) hf (by omega) (by omega) (by omega)
 have e1':zg_ f (.int 6)=.ret (iN way,f1):=e1
 rw[zcZ_,e1',bdR];dsimp only
 rw[show(iN way)=PyData.int (way:Int)from rfl,eqI,oMS,bdR]
 by_cases w0:way=0
 ·subst w0
  obtain⟨s,es,ws⟩:=zdf_ hn
  obtain⟨x,f2,e2,hx,hf2⟩:=UJ_ (m:=[.int 0,.int 41,.int ((r.n:Int)+1),.int ((r.n:Int) - 1),.bool true,.str s,.none,.int (-(r.n:Int))]) (by simp) (by simp) hf1 (by omega)
  rw[if_pos (by decide),addI,oMS,bdR,subI,oMS,bdR,es,oMS,bdR,negN,oMS,bdR,bdR,bdR,e2,bdR]
  refine⟨_,f2,rfl,?_,hf2.le (by omega)⟩
  have hx':El 20 4 x:=(mem8 (P:=El 2 2) hx i0 ((jL_ (by decide)).le (by omega) (by omega)) ((jL_ (by omega)).le (by omega) (by omega)) ie bt (zcx_ ws) no ((jL_ (by omega)).le (by omega) (by omega))).le (by omega) (by omega)
  exact ZO_ hL hx' ((elS h).le (by omega) (by omega)) (elM h hm) ((elY h).le (by omega) (by omega)) (by rw[zzd];exact hm)
 ·rw[if_neg (by rw[beq_iff_eq];omega),eqI,oMS,bdR]
  by_cases w1:way=1
  ·subst w1
   obtain⟨x,f2,e2,hx,hf2⟩:=Qj_ (ds:=r.st.map iN) (odd:=[iN r.n,.int (-1),.bool true,.bool false,.int 0,.str "0",.none,.tuple [.int 0]]) hf1 (by omega) (by rw[zzd];omega) (by simp) (by simp)
   rw[if_pos (by decide),neg1,oMS,bdR,bdR,bdR,e2,bdR]
   refine⟨_,f2,rfl,?_,hf2.le (by omega)⟩
   have hx':El 60 4 x:=(XM_ (B:=2) (k:=2) (n:=8) hx (λd hd=>by
    obtain⟨i,hi,rfl⟩:=List.mem_map.mp hd
    have:=h.w.st i hi
    exact(yT_ (by omega)).le (by omega) (by omega)) (λd hd=>mem8 (P:=El 2 2) hd iN' im bt bf i0 (zcx_ (by decide +kernel)) no t1) (by rw[zzd];omega) (by rw[zzd];omega)).le (by omega) (by omega)
   exact ZO_ hL (iN'.le (by omega) (by omega)) hx' (elM h hm) ((elY h).le (by omega) (by omega)) (by rw[zzd];exact hm)
  ·rw[if_neg (by rw[beq_iff_eq];omega),eqI,oMS,bdR]
   by_cases w2:way=2
   ·subst w2
    obtain⟨x,f2,e2,hx,hf2⟩:=Qj_ (ds:=r.sy.map PyData.bool) (odd:=[.int 0,.int 1,.none,.str "yes",.bool true,.bool false]) hf1 (by omega) (by rw[zzd];omega) (by simp) (by simp)
    rw[if_pos (by decide),e2,bdR]
    refine⟨_,f2,rfl,?_,hf2.le (by omega)⟩
    have hx':El 200 4 x:=(XM_ (B:=2) (k:=2) (n:=81) hx (λd hd=>by
     obtain⟨i,hi,rfl⟩:=List.mem_map.mp hd
     exact(yU_ i).le (by omega) (by omega)) (λd hd=>mem6 (P:=El 2 2) hd i0 ((jL_ (by decide)).le (by omega) (by omega)) no (zcx_ (by decide +kernel)) bt bf) (by rw[zzd];omega) (by rw[zzd];omega)).le (by omega) (by omega)
    exact ZO_ hL (iN'.le (by omega) (by omega)) ((elS h).le (by omega) (by omega)) (elM h hm) hx' (by rw[zzd];exact hm)
   ·rw[if_neg (by rw[beq_iff_eq];omega)]
    have l1:zL_ (.list [.tuple [.int 0,.int 0,.int 0,.int 0],.tuple [.int 0,.int 1,.int 1,.int 0],.tuple [.int 1,.int 0,.int 0,.int 0],.tuple [.int 0,.int ((r.n:Int) - 1),.int 0,.int 0],.tuple [.int 0,.int 0,.int 0,iN r.n],.tuple [.int 0,.int 0,.int ((r.n:Int) - 1),.int 0]]) (.list [.tuple [.int 0,.int 0,.int 0],.list [.int 0,.int 0,.int 0,.int ((r.n:Int) - 1)],.tuple [.int 0,.int 0,.int 0,.bool true],.tuple [.int 0,.int (-1),.int 0,.int 0]])=some (.list ((UU_ r.n).take 10)):=id rfl
    have l2:zL_ (.list ((UU_ r.n).take 10)) (.list [.tuple [.int ((r.n:Int) - 1),.int ((r.n:Int) - 1),.int 0,.int 0],.none,.tuple []])=some (.list (UU_ r.n)):=id rfl
    simp only[subI,neg1,oMS,bdR]
    rw[l1,oMS,bdR,l2,oMS,bdR,eqI,oMS,bdR,neE r.ms (λm hm'=>elm h hm'),oMS,iteB,bdR]
    by_cases w3:way=3/\r.ms≠[]
    ·obtain⟨rfl,hne⟩:=w3
     have hpos:0<r.ms.length:=List.length_pos_iff.mpr hne
     rw[if_pos (by cases q:r.ms with
      | nil=>exact absurd q hne
      | cons _ _=>rfl)]
     obtain⟨at',f2,e2,h2,hf2⟩:=zV_ (m:=r.ms.length) hf1 (by omega) hpos (by omega)
     have hm':r.ms[at']∈r.ms:=List.getElem_mem h2
     have h3:=h.w.ms _ hm'
     have:=h3.ab;have:=h3.b;have:=h3.c;have:=h3.d
     obtain⟨x,f3,e3,hx,hf3⟩:=Qj_ (ds:=[iN r.ms[at'].1,iN r.ms[at'].2.1,iN r.ms[at'].2.2.1,iN r.ms[at'].2.2.2]) (odd:=[iN r.n,.int (-1),.int 0,.int ((r.n:Int) - 1),.bool true,.none]) hf2 (by omega) (by simp) (by simp) (by simp)
     have ex:El 10 3 x:=(XM_ (B:=1) (k:=1) (n:=8) hx (λd hd=>by
      simp only[List.mem_cons,List.not_mem_nil,or_false]at hd
      rcases hd with rfl|rfl|rfl|rfl<;>exact yT_ (by omega)) (λd hd=>mem6 (P:=El 1 1) hd (yT_ (by omega)) (jL_ (by decide)) (jL_ (by decide)) (jL_ (by omega)) (yU_ true) el_none) (by simp) (by simp)).le (by omega) (by omega)
     have hi:asI (iN at')=.ret (some (at':Int)):=id rfl
     have a2:zL_ (iN at') (.int 1)=some (iN (at'+1)):=addN at' 1
     have ai:asI (iN (at'+1))=.ret (some ((at'+1:Nat):Int)):=id rfl
     have hl:(r.ms.map mD).length=r.ms.length:=zzd _
     have l2:((r.ms.map mD).take at').length=at':=by rw[List.length_take];omega
     rw[lenT,oMS,bdR,hl,e2,bdR];dsimp only
     rw[Z5_,zfB_ mD r.ms at' h2,oMS,bdR,e3,bdR];dsimp only
     rw[hi,bdR,cutT,L4.cut_hi,oMS,bdR,addT _ _ (by simp;omega),oMS,bdR,a2,oMS,bdR,ai,bdR,cutT,L4.cut_lo,oMS,bdR,addT _ _ (by simp;omega),oMS,bdR,bdR]
     refine⟨_,f3,rfl,?_,hf3.le (by omega)⟩
     have hlen:(((r.ms.map mD).take at'++[x])++(r.ms.map mD).drop (at'+1)).length<=L:=by
      rw[zzf,zzf,l2,List.length_singleton,List.length_drop,hl];omega
     refine ZO_ hL (iN'.le (by omega) (by omega)) ((elS h).le (by omega) (by omega)) (yD_ (B:=10) (k:=3) (λd hd=>?_) hlen) ((elY h).le (by omega) (by omega)) hlen
     have old:∀d∈r.ms.map mD,El 10 3 d:=λd hd=>by
      obtain⟨m,hm',rfl⟩:=List.mem_map.mp hd
      exact(elm h hm').le (by omega) (by omega)
     rcases List.mem_append.mp hd with hd|hd
     ·rcases List.mem_append.mp hd with hd|hd
      ·exact old d (List.mem_of_mem_take hd)
      ·rw[List.mem_singleton.mp hd];exact ex
     ·exact old d (List.mem_of_mem_drop hd)
    ·rw[if_neg (by
      intro z
      rw[Bool.and_eq_true,beq_iff_eq,Bool.not_eq_true',List.isEmpty_eq_false_iff]at z
      exact w3 ⟨by omega,z.2⟩),ltA,oMS,bdR]
     by_cases w5:(way:Int)<5
     ·obtain⟨x,f2,e2,hx,hf2⟩:=Qj_ (ds:=r.ms.map mD) (odd:=UU_ r.n) hf1 (by omega) (by rw[zzd];omega) (by simp[UU_]) (by simp[UU_])
      rw[if_pos (by simpa using w5),e2,bdR]
      exact⟨_,f2,rfl,zeI_ h hL hm hx (X0_ hn),hf2.le (by omega)⟩
     ·have c1:y2_ [r.d]=some [iN r.n,.tuple (r.st.map iN),.tuple (r.ms.map mD),.tuple (r.sy.map PyData.bool)]:=id rfl
      have c2:fCut r.d none (some 3)=some (.tuple [iN r.n,.tuple (r.st.map iN),.tuple (r.ms.map mD)]):=rfl
      have c3:zL_ r.d (.tuple [.int 0])=some (.tuple [iN r.n,.tuple (r.st.map iN),.tuple (r.ms.map mD),.tuple (r.sy.map PyData.bool),.int 0]):=id rfl
      have a3:asI (.int 3)=.ret (some 3):=id rfl
      obtain⟨x,f2,e2,hx,hf2⟩:=UJ_ (m:=[.list [iN r.n,.tuple (r.st.map iN),.tuple (r.ms.map mD),.tuple (r.sy.map PyData.bool)],.tuple [iN r.n,.tuple (r.st.map iN),.tuple (r.ms.map mD)],.tuple [iN r.n,.tuple (r.st.map iN),.tuple (r.ms.map mD),.tuple (r.sy.map PyData.bool),.int 0],.none,.bool true,.int 4,.str "rule",.tuple [],.tuple [iN r.n,.tuple (r.st.map iN),.tuple (r.sy.map PyData.bool),.tuple (r.ms.map mD)]]) (by simp) (by simp) hf1 (by omega)
      rw[if_neg (by simpa using w5),c1,oMS,bdR,bdR,a3,bdR,c2,oMS,bdR,c3,oMS,bdR,bdR,bdR,e2,bdR]
      refine⟨_,f2,rfl,?_,hf2.le (by omega)⟩
      have eA:El 2 4 (iN r.n):=iN'.le (by omega) (by omega)
      have eB:El 5 4 (.tuple (r.st.map iN)):=(elS h).le (by omega) (by omega)
      have eC:=elM h hm
      have eD:El 41 4 (.tuple (r.sy.map PyData.bool)):=(elY h).le (by omega) (by omega)
      have z1:=eA.2.1;have z2:=eB.2.1;have z3:=eC.2.1;have z4:=eD.2.1
      dsimp only
      simp only[List.mem_cons,List.not_mem_nil,or_false]at hx
      rcases hx with rfl|rfl|rfl|rfl|rfl|rfl|rfl|rfl|rfl
      ·exact Yn_ (zfI_ ((el_4 eA eB eC eD).le (by omega) (by omega))) (λ_ _ _ _ z=>by cases z)
      ·refine Yn_ ((zbe_ (B:=400) (k:=4) (λd hd=>?_) (by rw[L4.szs,L4.szs,L4.szs,L4.szs];omega) (λd hd=>?_)).le (by omega) (by omega)) (λ_ _ _ _ z=>by simp at z)
       ·simp only[List.mem_cons,List.not_mem_nil,or_false]at hd
        rcases hd with rfl|rfl|rfl
        ·exact eA.1
        ·exact eB.1
        ·exact eC.1
       ·simp only[List.mem_cons,List.not_mem_nil,or_false]at hd
        rcases hd with rfl|rfl|rfl
        ·exact eA.2.2
        ·exact eB.2.2
        ·exact eC.2.2
      ·have e0:El 2 4 (.int 0):=i0.le (by omega) (by omega)
       have z5:=e0.2.1
       refine Yn_ ((zbe_ (B:=500) (k:=4) (λd hd=>?_) (by rw[L4.szs,L4.szs,L4.szs,L4.szs,L4.szs,L4.szs];omega) (λd hd=>?_)).le (by omega) (by omega)) (λ_ _ _ _ z=>by simp at z)
       ·simp only[List.mem_cons,List.not_mem_nil,or_false]at hd
        rcases hd with rfl|rfl|rfl|rfl|rfl
        ·exact eA.1
        ·exact eB.1
        ·exact eC.1
        ·exact eD.1
        ·exact e0.1
       ·simp only[List.mem_cons,List.not_mem_nil,or_false]at hd
        rcases hd with rfl|rfl|rfl|rfl|rfl
        ·exact eA.2.2
        ·exact eB.2.2
        ·exact eC.2.2
        ·exact eD.2.2
        ·exact e0.2.2
      ·exact Yn_ (no.le (by omega) (by omega)) (λ_ _ _ _ z=>by cases z)
      ·exact Yn_ (bt.le (by omega) (by omega)) (λ_ _ _ _ z=>by cases z)
      ·exact Yn_ ((jL_ (by decide)).le (by omega) (by omega)) (λ_ _ _ _ z=>by cases z)
      ·exact Yn_ ((zbc_ (by decide +kernel)).le (by omega) (by omega)) (λ_ _ _ _ z=>by cases z)
      ·exact Yn_ ((yD_ (B:=1) (k:=1) (n:=0) (λd hd=>by cases hd) (by simp)).le (by omega) (by omega)) (λ_ _ _ _ z=>by simp at z)
      ·exact zcJ_ h hL hm
def GEnd(T:Nat)(m:M (D×List D)):Prop:=∃(r:Rl) (f':List D),m=.ret (r.d,f')/\Ru r/\r.ms.length<=5/\Fd (T+200) f'
theorem WN_{T n sorts:Nat}{f:List D}{ms:List Mt}(hf:Fd T f)(hT:T<=990000)(hn:1<=n)(hn2:n<=40)(hs:1<=sorts)(hs2:sorts<=4)(hm:∀m∈ms,MtOk n m)(so:ms.Pairwise λm m'=>plt (m.1,m.2.1) (m'.1,m'.2.1))(hl:ms.length<=5) :
  ∃(r:Rl) (f':List D),j0_ f (iN sorts) (iN n) (ms.map mD)=.ret (r.d,f')/\Ru r/\r.ms.length<=5/\Fd (T+50) f':=by
 unfold j0_
 rw[uL_ n (by omega),oMS,bdR]
 obtain⟨sy,s2,c2,⟨f2,hs2',hf2⟩,l2,_⟩:=yE_ (P:=λj (s:List D×D×D×List D×Unit)=>∃f,s=(f,iN sorts,iN n,ms.map mD,())/\Fd (T+j) f) (e:=PyData.bool) (R:=λ_=>True)
  (step:=λs16 d17=>bd (zg_ s16.1 (.int 2)) λr18=>bd (oM (opEq r18.1 (.int 0))) λb19=>.ret (some (.bool b19),(r18.2,s16.2.1,s16.2.2.1,s16.2.2.2.1,()))) ((List.range n).map iN) (f,iN sorts,iN n,ms.map mD,())
  (by
   rintro j s d hd ⟨f,rfl,hf⟩
   obtain⟨rfl,hj⟩:=j6_ hd
   obtain⟨x,f',e,hx,hf'⟩:=zV_ (m:=2) hf (by omega) (by omega) (by omega)
   have e':zg_ f (.int 2)=.ret (iN x,f'):=e
   dsimp only
   rw[e',bdR];dsimp only
   rw[eqI,oMS,bdR]
   exact⟨_,_,rfl,⟨f',rfl,hf'⟩,trivial⟩) ⟨f,rfl,hf⟩
 subst hs2'
 rw[zzd,List.length_range]at hf2 l2
 rw[c2,bdR];dsimp only
 rw[uj_ (by rw[zzd];omega),bdR,tupL,oMS,bdR,uL_ sorts (by omega),oMS,bdR]
 obtain⟨st,s3,c3,⟨f3,hs3,hf3⟩,l3,r3⟩:=yE_ (P:=λj (s:List D×D×D×List D×D×Unit)=>∃f,s=(f,iN sorts,iN n,ms.map mD,.tuple (sy.map PyData.bool),())/\Fd (T+n+j) f) (e:=iN) (R:=λx=>x<n)
  (step:=λs24 d25=>bd (zg_ s24.1 s24.2.2.1) λr26=>.ret (some r26.1,(r26.2,s24.2.1,s24.2.2.1,s24.2.2.2.1,s24.2.2.2.2.1,()))) ((List.range sorts).map iN) (f2,iN sorts,iN n,ms.map mD,.tuple (sy.map PyData.bool),())
  (by
   rintro j s d hd ⟨f,rfl,hf⟩
   obtain⟨rfl,hj⟩:=j6_ hd
   obtain⟨x,f',e,hx,hf'⟩:=zV_ (m:=n) hf (by omega) (by omega) (by omega)
   dsimp only
   rw[e,bdR]
   exact⟨x,_,rfl,⟨f',rfl,hf'⟩,hx⟩) ⟨f2,rfl,hf2⟩
 subst hs3
 rw[zzd,List.length_range]at hf3 l3
 rw[c3,bdR];dsimp only
 rw[uj_ (by rw[zzd];omega),bdR,tupL,oMS,bdR,tupL,oMS,bdR]
 exact⟨⟨n,st,ms,sy⟩,f3,rfl,⟨⟨hn,r3,l2,hm,so⟩,hn2,show 1<=st.length by omega,show st.length<=4 by omega⟩,hl,hf3.le (by omega)⟩
theorem zeS_{S:Type}(p:Nat×Nat)(k:D->D->M S):un2 (pD p) k=k (iN p.1) (iN p.2):=rfl
theorem zai_{T sorts:Nat}{f:List D}(hf:Fd T f)(hT:T<=900000)(hs:1<=sorts)(hs2:sorts<=4):GEnd T (ud_ f (iN sorts)):=by
 unfold ud_
 obtain⟨x,f1,e1,hx,hf1⟩:=UJ_ (m:=[.int 40,.int 39,.int 7,.int 12]) (by simp) (by simp) hf (by omega)
 obtain⟨n,rfl,hn,hn2⟩:∃n:Nat,x=iN n/\1<=n/\n<=40:=by
  simp only[List.mem_cons,List.not_mem_nil,or_false]at hx
  rcases hx with rfl|rfl|rfl|rfl
  ·exact⟨40,rfl,by omega,by omega⟩
  ·exact⟨39,rfl,by omega,by omega⟩
  ·exact⟨7,rfl,by omega,by omega⟩
  ·exact⟨12,rfl,by omega,by omega⟩
 obtain⟨k,f2,e2,hk,hf2⟩:=zV_ (m:=6) hf1 (by omega) (by omega) (by omega)
 have e2':zg_ f1 (.int 6)=.ret (iN k,f2):=e2
 rw[e1,bdR];dsimp only
 rw[e2',bdR];dsimp only
 rw[uL_ k (by omega),oMS,bdR]
 obtain⟨ps,s3,c3,⟨f3,hs3,hf3⟩,l3,r3⟩:=yE_ (P:=λj (s:List D×D×D×Unit)=>∃f,s=(f,iN sorts,iN n,())/\Fd (T+2+2*j) f) (e:=pD) (R:=λp=>p.1<=p.2/\p.2<n)
  (step:=λs4 d5=>bd (zg_ s4.1 s4.2.2.1) λr6=>bd (zg_ r6.2 s4.2.2.1) λr7=>bd (oM (u6_ [(.list [r6.1,r7.1])])) λx8=>bd (oM (uI_ [(PyData.list x8)])) λx9=>.ret (some x9,(r7.2,s4.2.1,s4.2.2.1,()))) ((List.range k).map iN) (f2,iN sorts,iN n,())
  (by
   rintro j s d hd ⟨f,rfl,hf⟩
   obtain⟨rfl,hj⟩:=j6_ hd
   obtain⟨a,f',e,ha,hf'⟩:=zV_ (m:=n) hf (by omega) (by omega) (by omega)
   obtain⟨b,f'',e'',hb,hf''⟩:=zV_ (m:=n) hf' (by omega) (by omega) (by omega)
   dsimp only
   rw[e,bdR];dsimp only
   rw[e'',bdR];dsimp only
   rw[fs2L,oMS,bdR,tupL,oMS,bdR]
   exact⟨(min a b,max a b),_,rfl,⟨f'',rfl,hf''.le (by omega)⟩,by show min a b<=max a b;omega,by show max a b<n;omega⟩) ⟨f2,rfl,hf2.le (by omega)⟩
 subst hs3
 rw[zzd,List.length_range]at hf3 l3
 obtain⟨L,g1,g2,g3,_,g5⟩:=zay_ ps (by omega)
 rw[c3,bdR];dsimp only
 rw[uj_ (by rw[zzd];omega),bdR,g1,oMS,bdR,bdR,seqL,oMS,bdR]
 refine ZK_ (P:=λi (s:List D×D×D×List D×Unit)=>∃(f:List D) (ms:List Mt),s=(f,iN sorts,iN n,List.map mD ms,())/\Fd (T+20+2*i) f/\(∀m∈ms,MtOk n m)/\(ms.Pairwise λ(m m':Mt)=>plt (m.1,m.2.1) (m'.1,m'.2.1))/\(∀m∈ms,(m.1,m.2.1)∈L.take i)/\ms.length<=i) _ _ ?_ ⟨f3,[],rfl,hf3.le (by omega),(λ_ h=>nomatch h),List.Pairwise.nil,(λ_ h=>nomatch h),Nat.le_refl _⟩ ?_
 ·rintro i s d hd ⟨f,ms,rfl,hf,i1,i2,i3,i4⟩ kn hkn
  rw[List.getElem?_map]at hd
  obtain⟨p,hp,rfl⟩:=Option.map_eq_some_iff.mp hd
  have hpL:=List.mem_of_getElem? hp
  obtain⟨hab,hbn⟩:=r3 p (g3 p hpL)
  have hiL:i<L.length:=(List.getElem?_eq_some_iff.mp hp).1
  have up:∀q∈L.take i,plt q p:=λq hq=>by
   obtain⟨j,hj,ej⟩:=List.mem_take_iff_getElem.mp hq
   have:=List.pairwise_iff_getElem.mp g2 j i (by omega) hiL (by omega)
   rw[ej]at this
   obtain⟨hi',ei⟩:=List.getElem?_eq_some_iff.mp hp
   rw[ei]at this
   exact this
  have tk:∀q∈L.take i,q∈L.take (i+1):=λq hq=>by
   obtain⟨j,hj,ej⟩:=List.mem_take_iff_getElem.mp hq
   exact List.mem_take_iff_getElem.mpr ⟨j,by omega,ej⟩
  unfold uN_
  obtain⟨c,f4,e4,hc,hf4⟩:=zV_ (m:=n) hf (by omega) (by omega) (by omega)
  obtain⟨e,f5,e5,he,hf5⟩:=zV_ (m:=n) hf4 (by omega) (by omega) (by omega)
  dsimp only
  rw[zeS_,e4,bdR];dsimp only
  rw[e5,bdR];dsimp only
  rw[J0_,show(PyData.tuple [iN c,iN e])=pD (c,e)from rfl,show(PyData.tuple [PyData.tuple [iN p.1,iN p.2],PyData.tuple [iN p.2,iN p.1]])=.tuple [pD (p.1,p.2),pD (p.2,p.1)]from rfl,YQ_,oMS,bdR]
  split
  ·rename_i hne
   have hne':¬ ((p.1,p.2)=(c,e))/\¬ ((p.2,p.1)=(c,e)):=by
    simp only[Bool.not_eq_true',Bool.or_eq_false_iff,decide_eq_false_iff_not]at hne
    exact hne
   rw[Xl_ _ _ (by rw[zzd];omega),oMS,bdR]
   have:=hkn (f5,iN sorts,iN n,List.map mD (ms++[(p.1,p.2,c,e)]),()) ⟨f5,_,rfl,hf5.le (by omega),λm hm=>?_,?_,λm hm=>?_,by rw[zzf,List.length_singleton];omega⟩
   ·rw[List.map_append]at this
    exact this
   ·rcases List.mem_append.mp hm with hm|hm
    ·exact i1 m hm
    ·rw[List.mem_singleton.mp hm]
     exact⟨hab,hbn,hc,he,λz=>hne'.1 z.symm,λz=>hne'.2 z.symm⟩
   ·rw[List.pairwise_append]
    refine⟨i2,List.pairwise_cons.mpr ⟨(λ_ h=>nomatch h),.nil⟩,λm hm m' hm'=>?_⟩
    rw[List.mem_singleton.mp hm']
    exact up _ (i3 m hm)
   ·rcases List.mem_append.mp hm with hm|hm
    ·exact tk _ (i3 m hm)
    ·rw[List.mem_singleton.mp hm]
     obtain⟨hi',ei⟩:=List.getElem?_eq_some_iff.mp hp
     exact List.mem_take_iff_getElem.mpr ⟨i,by omega,ei⟩
  ·exact hkn _ ⟨f5,ms,rfl,hf5.le (by omega),i1,i2,λm hm=>tk _ (i3 m hm),by omega⟩
 ·rintro s ⟨f,ms,rfl,hf,i1,i2,i3,i4⟩
  rw[zzd]at hf i4
  dsimp only
  obtain⟨r,f',e,h1,h2,h3⟩:=WN_ hf (by omega) hn hn2 hs hs2 i1 i2 (by omega)
  exact⟨r,f',e,h1,h2,h3.le (by omega)⟩
theorem zeD_{d:D}(h:Sm d):opEq (.str d.shown) (.str d.shown)=some true:=by
 have:=zdZ_ h
 unfold opNe at this
 unfold opEq
 split at this
 ·rename_i q
  rw[if_pos q]
  have:=Option.some.inj this
  rw[Bool.not_eq_false']at this
  rw[this]
 ·cases this
theorem XI_{t:D}(g:Gd t):jM_ t=.ret (.bool true):=by
 unfold jM_
 have hz:=g.z;have hd:=g.dp
 have r1:=zfe_ g.sm (by omega) (by omega)
 have tb:isTo "bool" (.bool (ye_ t))=some true:=id rfl
 have eb:∀b:Bool,opEq (.bool b) (.bool b)=some true:=λb=>by cases b<;>rfl
 rw[r1,oMS,bdR,ZC_ g,bdR,tb,oMS,bdR,if_pos rfl,Jn_ g,bdR,eb,oMS,bdR,if_pos rfl,bdR,zeD_ g.sm,oMS,bdR,bdR]
theorem zdm_{r:Rl}(h:Ru r)(hm:r.ms.length<=30):Gd r.d:=by
 have hn:=h.n
 have:=ZO_ (L:=30) (Nat.le_refl _) ((yT_ (n:=r.n) (by omega)).le (show 1<=20 by omega) (show 1<=4 by omega)) ((elS h).le (show 5<=60 by omega) (show 2<=4 by omega)) (elM h hm) ((elY h).le (show 41<=200 by omega) (show 2<=4 by omega)) (by rw[zzd];exact hm)
 exact this.gd
theorem zep_{kn5:D×Unit->M D}{kn15:D×List D×D×Unit->M D}{s:D}{f:List D}{r t:D}(g:Gd t):Zf_ kn5 kn15 s f r t=kn15 (s,f,r,()):=by
 unfold Zf_
 rw[XI_ g,bdR,JI_,oMS,bdR,bdR,Bool.not_true,if_neg (by decide)]
theorem zfd_(kn5:D×Unit->M D)(s:D)(f:List D)(r d:D)(kn:D×List D×D×Unit->M D):QS_ kn5 s f r d kn=Ze_ kn5 s f r d kn:=rfl
theorem zcE_{t:D}(g:Gd t)(i:Nat):(bd (oM (opEq (iN i) (.int 3))) λb21=>if b21 then bd (oM (isTo "tuple" t)) λb20=>if b20 then bd (bd (oM (fLen [t])) λx17=>oM (opEq x17 (.int 4))) λb19=>if b19 then bd (zR_ t) λx18=>oM (truD x18)else .ret false else .ret false else .ret false)=.ret (decide (i=3)&&ye_ t):=by
 rw[show opEq (iN i) (.int 3)=some (decide (i=3))from eqN i 3,oMS,bdR,jO_ g.sm,oMS,bdR]
 by_cases h:i=3
 ·rw[decide_eq_true h,if_pos rfl,Bool.true_and]
  cases h4:tupN 4 t with
  | false =>
   rw[no4 h4]
   cases t with
   | tuple ds =>
    have t1:isT "tuple" (.tuple ds)=true:=id rfl
    rw[t1,if_pos rfl,lenT,oMS,bdR,eqI,oMS,bdR,show((ds.length:Int)==4)=false from h4]
    rfl
   | none=>rfl
   | str i=>rfl
   | list i=>rfl
   | int i=>rfl
   | bool i=>rfl
   | dict i=>exact absurd g.sm (by simp[Sm])
  | true =>
   obtain⟨a,b,c,e,rfl⟩:=tup4 h4
   have t1:isT "tuple" (.tuple [a,b,c,e])=true:=id rfl
   have n4:opEq (.int (([a,b,c,e].length:Nat):Int)) (.int 4)=some true:=id rfl
   rw[t1,if_pos rfl,lenT,oMS,bdR,n4,oMS,bdR,if_pos rfl,Jn_ g,bdR,JI_,oMS]
 ·rw[decide_eq_false h,if_neg (by decide),Bool.false_and]
theorem VK_{T L i:Nat}{f:List D}{r:Rl}{R:M D->Prop}{kn5:D×Unit->M D}{kn:D×List D×D×Unit->M D}{s:D}(hf:Fd T f)(hT:T<=880000)(h:Ru r)(hL:L<=29)(hm:r.ms.length<=L)(k:∀f',Fd (T+12) f'->R (kn (s,f',r.d,()))):R (Ze_ kn5 s f r.d (iN i) kn):=by
 obtain⟨t,f1,e1,b1,hf1⟩:=Xc_ hf (by omega) h (show L<=30 by omega) hm
 unfold Ze_
 rw[e1,bdR];dsimp only
 rw[zcE_ b1.gd,bdR]
 by_cases hr:(decide (i=3)&&ye_ t)=true
 ·rw[if_pos hr]
  rw[Bool.and_eq_true]at hr
  obtain⟨r2,rfl,h2⟩:=zbA_ hr.2
  have hl:=b1.ti _ _ _ _ rfl hr.2
  rw[zzd]at hl
  obtain⟨t2,f2,e2,b2,hf2⟩:=Xc_ hf1 (by omega) h2 (show L+1<=30 by omega) hl
  rw[e2,bdR];dsimp only
  rw[zep_ b2.gd]
  exact k f2 (hf2.le (by omega))
 ·rw[if_neg hr,zep_ b1.gd]
  exact k f1 (hf1.le (by omega))
theorem few{r:Rl}(w:Wf r)(hn:r.n<=5):r.ms.length<=25:=by
 have nd:(r.ms.map λm=>(m.1,m.2.1)).Nodup:=by
  unfold List.Nodup
  rw[List.pairwise_map]
  exact w.so.imp λh=>Qo_ h
 have sub:(r.ms.map λm=>(m.1,m.2.1)) ⊆ (List.range 5).flatMap λa=>(List.range 5).map λb=>(a,b):=λp hp=>by
  obtain⟨m,hm,rfl⟩:=List.mem_map.mp hp
  have h1:=w.ms m hm
  have:=h1.ab;have:=h1.b
  exact List.mem_flatMap.mpr ⟨m.1,List.mem_range.mpr (by omega),List.mem_map.mpr ⟨m.2.1,List.mem_range.mpr (by omega),rfl⟩⟩
 have:=nd.length_le_of_subset sub
 rw[zzd]at this
 exact this
theorem zef_(ns:List Int)(hn:ns.length<=63)(k:Nat)(kn5:D×Unit->M D):Ud_ (.list (ns.map PyData.int)) (iN k) kn5=kn5 (.list (ns.map PyData.int),()):=by
 unfold Ud_
 obtain⟨f,e1,hf⟩:=zcv_ ns k hn
 rw[e1,bdR]
 obtain⟨s,f1,e2,hs,hf1⟩:=zV_ (m:=4) hf (by decide) (by decide) (by decide)
 rw[show zg_ f (.int 4)=_ from e2,bdR];dsimp only
 rw[zcR_,oMS,bdR]
 obtain⟨z,f2,e3,hz,hf2⟩:=zV_ (m:=4) hf1 (by decide) (by decide) (by decide)
 rw[show zg_ f1 (.int 4)=_ from e3,bdR];dsimp only
 rw[show opEq (iN z) (.int 1)=some (decide (z=1))from eqN z 1,oMS,bdR]
 have nb:UH_ (.bool true) (.bool true)=some false:=id rfl
 have r4:jh_ [.int 4]=some ((List.range 4).map iN):=uL_ 4 (by omega)
 by_cases hz1:z=1
 ·rw[decide_eq_true hz1,if_pos rfl]
  obtain⟨r,f3,e4,hr,hl,hf3⟩:=zai_ hf2 (by omega) (show 1<=s+1 by omega) (show s+1<=4 by omega)
  rw[e4,bdR];dsimp only
  rw[ZC_ (zdm_ hr (by omega)),Wp_ hr,bdR,nb,oMS,bdR,if_neg (by decide),r4,oMS,bdR]
  refine ZK_ (R:=λm=>m=kn5 (.list (ns.map PyData.int),())) (P:=λi (s:D×List D×D×Unit)=>∃f,s=(.list (ns.map PyData.int),f,r.d,())/\Fd (10000+12*i) f) _ _ ?_ ⟨f3,rfl,hf3.le (by omega)⟩ ?_
  ·rintro i s' d hd ⟨f,rfl,hf⟩ kn hkn
   obtain⟨rfl,hi⟩:=j6_ hd
   exact VK_ (R:=λm=>m=kn5 (.list (ns.map PyData.int),())) (kn5:=kn5) hf (by omega) hr (show 25<=29 by omega) (by omega) λf' hf'=>hkn _ ⟨f',rfl,hf'.le (by omega)⟩
  ·rintro s' ⟨f,rfl,_⟩
   rfl
 ·rw[decide_eq_false hz1,if_neg (by decide)]
  obtain⟨r,f3,e4,hw,hn5,hst,_,hf3⟩:=zbz_ (most:=5) (sorts:=s+1) hf2 (by omega) (by omega) (by omega) (by omega) (by omega)
  have hr:Ru r:=⟨hw,by omega,by omega,by omega⟩
  have hl:=few hw hn5
  rw[show jZ_ f2 (.int 5) (iN (s+1))=_ from e4,bdR];dsimp only
  rw[ZC_ (zdm_ hr (by omega)),Wp_ hr,bdR,nb,oMS,bdR,if_neg (by decide),r4,oMS,bdR]
  refine ZK_ (R:=λm=>m=kn5 (.list (ns.map PyData.int),())) (P:=λi (s:D×List D×D×Unit)=>∃f,s=(.list (ns.map PyData.int),f,r.d,())/\Fd (10000+12*i) f) _ _ ?_ ⟨f3,rfl,hf3.le (by omega)⟩ ?_
  ·rintro i s' d hd ⟨f,rfl,hf⟩ kn hkn
   obtain⟨rfl,hi⟩:=j6_ hd
   dsimp only
   rw[zfd_]
   exact VK_ (R:=λm=>m=kn5 (.list (ns.map PyData.int),())) (kn5:=kn5) hf (by omega) hr (show 25<=29 by omega) hl λf' hf'=>hkn _ ⟨f',rfl,hf'.le (by omega)⟩
  ·rintro s' ⟨f,rfl,_⟩
   rfl
theorem main:∀ns:List Int,ns.length<=63->zas_ (.list (ns.map PyData.int))=.ret (.bool true):=by
 intro ns hn
 unfold zas_
 have e1:fLen [.list (ns.map PyData.int)]=some (.int (ns.length:Int)):=by rw[L4.lenL,zzd]
 have e2:WT_ [.int 4,.int (ns.length:Int)]=some (iN (min 4 ns.length)):=min2 4 ns.length
 have e3:zL_ (.int 2) (iN (min 4 ns.length))=some (iN (2+min 4 ns.length)):=addN 2 _
 rw[e1,oMS,bdR,e2,oMS,bdR,e3,oMS,bdR,uL_ _ (by omega),oMS,bdR]
 refine(zak_ (e:=iN) (F:=λ_=>(PyData.list (ns.map PyData.int),())) (List.range _) ?_).trans rfl
 intro p x t hpt kn
 dsimp only
 exact zef_ ns hn x kn
end K01
namespace PySem.W.Fast
noncomputable def tw4728703945011017910:=()
noncomputable def tw907193257548120083:=()
noncomputable def tw8188121742011913224:=()
noncomputable def tw5407732698157684001:=()
noncomputable def tw2230801349391146022:=()
noncomputable def tw8681215619546551832:=()
noncomputable def tw10589109832301260750:=()
noncomputable def tw18102777453784199799:=()
noncomputable def tw8133406156725864044:=()
noncomputable def tw8305544339630254761:=()
noncomputable def tw5729836428626588466:=()
noncomputable def tw15258166151480633273:=()
noncomputable def tw5659868918395361812:=()
noncomputable def tw8111530448961084714:=()
noncomputable def tw9051734079900804428:=()
noncomputable def tw6402652239932266449:=()
noncomputable def tw7721862623324712593:=()
noncomputable def tw18158551432826424199:=()
noncomputable def tw6504277311134268176:=()
noncomputable def tw3213600476397044031:=()
noncomputable def tw3842203879330862564:=()
noncomputable def tw11713304239252384755:=()
noncomputable def tw12740694679005863050:=()
noncomputable def tw6038294250003912919:=()
noncomputable def tw8197277439847757780:=()
noncomputable def tw10834420205464596568:=()
noncomputable def tw17930721564749669779:=()
noncomputable def tw10848073072227883482:=()
noncomputable def tw54424234247417811:=()
noncomputable def tw3649814325367536612:=()
noncomputable def tw2176007739556271074:=()
noncomputable def tw18000152860217581355:=()
noncomputable def tw15499923908217098363:=()
noncomputable def tw13252622079768432745:=()
noncomputable def tw12235152195802105188:=()
noncomputable def tw12342822029626093947:=()
noncomputable def tw13601580456659270079:=()
noncomputable def tw11540209324268362988:=()
noncomputable def tw6865271759859828088:=()
noncomputable def tw1424719417316949378:=()
noncomputable def tw1811895472993713511:=()
noncomputable def tw15351886623084830490:=()
noncomputable def tw6050155476985940304:=()
noncomputable def tw17441990573503309047:=()
noncomputable def tw1546137854257883597:=()
noncomputable def tw13199879622815522879:=()
noncomputable def tw4865326042684979492:=()
noncomputable def tw10552374054704221898:=()
noncomputable def tw9409121312685317927:=()
noncomputable def tw649746250580157554:=()
noncomputable def tw13017536779572534005:=()
noncomputable def tw13943936355639713468:=()
noncomputable def tw12784938917678493631:=()
noncomputable def tw12908303154162887572:=()
noncomputable def tw13160583070578648308:=()
noncomputable def tw12313837954282954244:=()
noncomputable def tw995670841278255001:=()
noncomputable def tw3962156482495561233:=()
noncomputable def tw630987911979483255:=()
noncomputable def tw16223528070538454520:=()
noncomputable def tw13686037553794519330:=()
noncomputable def tw6784969087353345287:=()
noncomputable def tw9596364326731256367:=()
noncomputable def tw15911867236148636541:=()
noncomputable def tw11395696946578381827:=()
noncomputable def tw15667293082363434614:=()
noncomputable def tw11390321056628606591:=()
noncomputable def tw14499727024266693598:=()
noncomputable def tw4579870349581558317:=()
noncomputable def tw2209408026508230219:=()
noncomputable def tw6921767132450082334:=()
noncomputable def tw5348400839868241063:=()
noncomputable def tw311428197883478301:=()
noncomputable def tw6219635787421540596:=()
noncomputable def tw15014547711147761891:=()
noncomputable def tw16625153937702188177:=()
noncomputable def tw5454968769629473852:=()
noncomputable def tw4017307037308098314:=()
noncomputable def tw10014177927505492298:=()
noncomputable def tw15243416294919131980:=()
noncomputable def tw15129731681203649642:=()
noncomputable def tw2559185447611732363:=()
noncomputable def tw3076516379044534114:=()
noncomputable def tw5079365429060773017:=()
noncomputable def tw7311757173711035434:=()
noncomputable def tw12025224444250882965:=()
noncomputable def tw3230896118404775298:=()
noncomputable def tw12223824337942831879:=()
noncomputable def tw3487141284263346852:=()
noncomputable def tw3390053808125176344:=()
noncomputable def tw6724411435788265462:=()
noncomputable def tw5509890880355841957:=()
noncomputable def tw4395099569185755146:=()
noncomputable def tw10723274808236932836:=()
noncomputable def tw12709270224820135826:=()
noncomputable def tw9000499909867139814:=()
noncomputable def tw5115266388360063870:=()
noncomputable def tw8082153836796901040:=()
noncomputable def tw375320521720296462:=()
noncomputable def tw15664694080172483119:=()
noncomputable def tw3827119181381495539:=()
noncomputable def tw13471675464775575094:=()
noncomputable def tw9901337444229743857:=()
noncomputable def tw7285754678257398283:=()
noncomputable def tw2813937708678865541:=()
noncomputable def tw17383068058910838587:=()
noncomputable def tw8545349188633120612:=()
noncomputable def tw3638298231582366802:=()
noncomputable def tw8869015409196078767:=()
noncomputable def tw2333043165868419989:=()
noncomputable def tw1581945237920241837:=()
noncomputable def tw2331078446987584036:=()
noncomputable def tw14169701184295860253:=()
noncomputable def tw12525198293821658676:=()
noncomputable def tw14564901831608034097:=()
noncomputable def tw12545044970283327213:=()
noncomputable def tw17295705637468429947:=()
noncomputable def tw18079612467710703362:=()
noncomputable def tw8307531402852032475:=()
noncomputable def tw4786536365577804497:=()
noncomputable def tw16501210499921604744:=()
noncomputable def tw13643148476957958862:=()
noncomputable def tw9690019896067468329:=()
noncomputable def tw6631216811642156966:=()
noncomputable def tw12724208205204296235:=()
noncomputable def tw17197268280992404339:=()
noncomputable def tw8047781416334197263:=()
end PySem.W.Fast
namespace K01
open PySem PySem.Spec PyProof.Rows L2 L3 L4
theorem all_mk{l:PySem.W.OpenLaw}{w:World}{K:Fg}{h:Heap}{mg:Str->Option Value}{fa f0 f1 f2 f3 f4 f5 f6 f7 f8 f9 f10 f11 f12 f13 f14 f15 f16 f17 f18 f19:Addr}(X:K.In h)(G:h.Ns mainGlobals mg)(hfa:mg "law" = some (.ref fa))
  {oc0 kV0 dc0 pm0 cd0 ct0:Value} {od0 an0:Option Addr} {sl0:Array (Option Value)}
  {oc1 kV1 dc1 pm1 cd1 ct1:Value} {od1 an1:Option Addr} {sl1:Array (Option Value)}
  {oc2 kV2 dc2 pm2 cd2 ct2:Value} {od2 an2:Option Addr} {sl2:Array (Option Value)}
  {oc3 kV3 dc3 pm3 cd3 ct3:Value} {od3 an3:Option Addr} {sl3:Array (Option Value)}
  {oc4 kV4 dc4 pm4 cd4 ct4:Value} {od4 an4:Option Addr} {sl4:Array (Option Value)}
  {oc5 kV5 dc5 pm5 cd5 ct5:Value} {od5 an5:Option Addr} {sl5:Array (Option Value)}
  {oc6 kV6 dc6 pm6 cd6 ct6:Value} {od6 an6:Option Addr} {sl6:Array (Option Value)}
  {oc7 kV7 dc7 pm7 cd7 ct7:Value} {od7 an7:Option Addr} {sl7:Array (Option Value)}
  {oc8 kV8 dc8 pm8 cd8 ct8:Value} {od8 an8:Option Addr} {sl8:Array (Option Value)}
  {oc9 kV9 dc9 pm9 cd9 ct9:Value} {od9 an9:Option Addr} {sl9:Array (Option Value)}
  {oc10 kV10 dc10 pm10 cd10 ct10:Value} {od10 an10:Option Addr} {sl10:Array (Option Value)}
  {oc11 kV11 dc11 pm11 cd11 ct11:Value} {od11 an11:Option Addr} {sl11:Array (Option Value)}
  {oc12 kV12 dc12 pm12 cd12 ct12:Value} {od12 an12:Option Addr} {sl12:Array (Option Value)}
  {oc13 kV13 dc13 pm13 cd13 ct13:Value} {od13 an13:Option Addr} {sl13:Array (Option Value)}
  {oc14 kV14 dc14 pm14 cd14 ct14:Value} {od14 an14:Option Addr} {sl14:Array (Option Value)}
  {oc15 kV15 dc15 pm15 cd15 ct15:Value} {od15 an15:Option Addr} {sl15:Array (Option Value)}
  {oc16 kV16 dc16 pm16 cd16 ct16:Value} {od16 an16:Option Addr} {sl16:Array (Option Value)}
  {oc17 kV17 dc17 pm17 cd17 ct17:Value} {od17 an17:Option Addr} {sl17:Array (Option Value)}
  {oc18 kV18 dc18 pm18 cd18 ct18:Value} {od18 an18:Option Addr} {sl18:Array (Option Value)}
  {oc19 kV19 dc19 pm19 cd19 ct19:Value} {od19 an19:Option Addr} {sl19:Array (Option Value)}
  {u_MOST_ROOMS:Value}
  {u_MOST_SORTS:Value}
  (a0:PySem.W.nsIn K mainGlobals "is_whole" = some (some (.ref f0))) (l0:K.lookup f0=some ⟨oc0,od0,.func (PySem.W.fnOf "is_whole" "is_whole" (zv_ jE_) (zs_ jE_) (ze_ jE_) .none kV0 dc0 pm0 an0 cd0 ct0),sl0⟩) (c0:PySem.W.codeIn K cd0 "is_whole" = true) (k0:PySem.W.keepIn K (.ref f0)=true)
  (a1:PySem.W.nsIn K mainGlobals "is_within" = some (some (.ref f1))) (l1:K.lookup f1=some ⟨oc1,od1,.func (PySem.W.fnOf "is_within" "is_within" (zv_ jl_) (zs_ jl_) (ze_ jl_) .none kV1 dc1 pm1 an1 cd1 ct1),sl1⟩) (c1:PySem.W.codeIn K cd1 "is_within" = true) (k1:PySem.W.keepIn K (.ref f1)=true)
  (a2:PySem.W.nsIn K mainGlobals "is_tuple_of" = some (some (.ref f2))) (l2:K.lookup f2=some ⟨oc2,od2,.func (PySem.W.fnOf "is_tuple_of" "is_tuple_of" (zv_ zY_) (zs_ zY_) (ze_ zY_) .none kV2 dc2 pm2 an2 cd2 ct2),sl2⟩) (c2:PySem.W.codeIn K cd2 "is_tuple_of" = true) (k2:PySem.W.keepIn K (.ref f2)=true)
  (a3:PySem.W.nsIn K mainGlobals "are_rooms" = some (some (.ref f3))) (l3:K.lookup f3=some ⟨oc3,od3,.func (PySem.W.fnOf "are_rooms" "are_rooms" (zv_ z5_) (zs_ z5_) (ze_ z5_) .none kV3 dc3 pm3 an3 cd3 ct3),sl3⟩) (c3:PySem.W.codeIn K cd3 "are_rooms" = true) (k3:PySem.W.keepIn K (.ref f3)=true)
  (a4:PySem.W.nsIn K mainGlobals "are_starts" = some (some (.ref f4))) (l4:K.lookup f4=some ⟨oc4,od4,.func (PySem.W.fnOf "are_starts" "are_starts" (zv_ z4_) (zs_ z4_) (ze_ z4_) .none kV4 dc4 pm4 an4 cd4 ct4),sl4⟩) (c4:PySem.W.codeIn K cd4 "are_starts" = true) (k4:PySem.W.keepIn K (.ref f4)=true)
  (a5:PySem.W.nsIn K mainGlobals "is_meeting" = some (some (.ref f5))) (l5:K.lookup f5=some ⟨oc5,od5,.func (PySem.W.fnOf "is_meeting" "is_meeting" (zv_ z3_) (zs_ z3_) (ze_ z3_) .none kV5 dc5 pm5 an5 cd5 ct5),sl5⟩) (c5:PySem.W.codeIn K cd5 "is_meeting" = true) (k5:PySem.W.keepIn K (.ref f5)=true)
  (a6:PySem.W.nsIn K mainGlobals "are_meets" = some (some (.ref f6))) (l6:K.lookup f6=some ⟨oc6,od6,.func (PySem.W.fnOf "are_meets" "are_meets" (zv_ jm_) (zs_ jm_) (ze_ jm_) .none kV6 dc6 pm6 an6 cd6 ct6),sl6⟩) (c6:PySem.W.codeIn K cd6 "are_meets" = true) (k6:PySem.W.keepIn K (.ref f6)=true)
  (a7:PySem.W.nsIn K mainGlobals "are_says" = some (some (.ref f7))) (l7:K.lookup f7=some ⟨oc7,od7,.func (PySem.W.fnOf "are_says" "are_says" (zv_ jr_) (zs_ jr_) (ze_ jr_) .none kV7 dc7 pm7 an7 cd7 ct7),sl7⟩) (c7:PySem.W.codeIn K cd7 "are_says" = true) (k7:PySem.W.keepIn K (.ref f7)=true)
  (a8:PySem.W.nsIn K mainGlobals "is_rule" = some (some (.ref f8))) (l8:K.lookup f8=some ⟨oc8,od8,.func (PySem.W.fnOf "is_rule" "is_rule" (zv_ jW_) (zs_ jW_) (ze_ jW_) .none kV8 dc8 pm8 an8 cd8 ct8),sl8⟩) (c8:PySem.W.codeIn K cd8 "is_rule" = true) (k8:PySem.W.keepIn K (.ref f8)=true)
  (a9:PySem.W.nsIn K mainGlobals "_law_feed" = some (some (.ref f9))) (l9:K.lookup f9=some ⟨oc9,od9,.func (PySem.W.fnOf "_law_feed" "_law_feed" (zv_ jo_) (zs_ jo_) (ze_ jo_) .none kV9 dc9 pm9 an9 cd9 ct9),sl9⟩) (c9:PySem.W.codeIn K cd9 "_law_feed" = true) (k9:PySem.W.keepIn K (.ref f9)=true)
  (a10:PySem.W.nsIn K mainGlobals "_law_next" = some (some (.ref f10))) (l10:K.lookup f10=some ⟨oc10,od10,.func (PySem.W.fnOf "_law_next" "_law_next" (zv_ jn_) (zs_ jn_) (ze_ jn_) .none kV10 dc10 pm10 an10 cd10 ct10),sl10⟩) (c10:PySem.W.codeIn K cd10 "_law_next" = true) (k10:PySem.W.keepIn K (.ref f10)=true)
  (a11:PySem.W.nsIn K mainGlobals "_law_one" = some (some (.ref f11))) (l11:K.lookup f11=some ⟨oc11,od11,.func (PySem.W.fnOf "_law_one" "_law_one" (zv_ jF_) (zs_ jF_) (ze_ jF_) .none kV11 dc11 pm11 an11 cd11 ct11),sl11⟩) (c11:PySem.W.codeIn K cd11 "_law_one" = true) (k11:PySem.W.keepIn K (.ref f11)=true)
  (a12:PySem.W.nsIn K mainGlobals "_law_rule" = some (some (.ref f12))) (l12:K.lookup f12=some ⟨oc12,od12,.func (PySem.W.fnOf "_law_rule" "_law_rule" (zv_ zZ_) (zs_ zZ_) (ze_ zZ_) .none kV12 dc12 pm12 an12 cd12 ct12),sl12⟩) (c12:PySem.W.codeIn K cd12 "_law_rule" = true) (k12:PySem.W.keepIn K (.ref f12)=true)
  (a13:PySem.W.nsIn K mainGlobals "_law_great" = some (some (.ref f13))) (l13:K.lookup f13=some ⟨oc13,od13,.func (PySem.W.fnOf "_law_great" "_law_great" (zv_ zF_) (zs_ zF_) (ze_ zF_) .none kV13 dc13 pm13 an13 cd13 ct13),sl13⟩) (c13:PySem.W.codeIn K cd13 "_law_great" = true) (k13:PySem.W.keepIn K (.ref f13)=true)
  (a14:PySem.W.nsIn K mainGlobals "_law_whole" = some (some (.ref f14))) (l14:K.lookup f14=some ⟨oc14,od14,.func (PySem.W.fnOf "_law_whole" "_law_whole" (zv_ z6_) (zs_ z6_) (ze_ z6_) .none kV14 dc14 pm14 an14 cd14 ct14),sl14⟩) (c14:PySem.W.codeIn K cd14 "_law_whole" = true) (k14:PySem.W.keepIn K (.ref f14)=true)
  (a15:PySem.W.nsIn K mainGlobals "_law_is_rule" = some (some (.ref f15))) (l15:K.lookup f15=some ⟨oc15,od15,.func (PySem.W.fnOf "_law_is_rule" "_law_is_rule" (zv_ zr_) (zs_ zr_) (ze_ zr_) .none kV15 dc15 pm15 an15 cd15 ct15),sl15⟩) (c15:PySem.W.codeIn K cd15 "_law_is_rule" = true) (k15:PySem.W.keepIn K (.ref f15)=true)
  (a16:PySem.W.nsIn K mainGlobals "_law_row_bent" = some (some (.ref f16))) (l16:K.lookup f16=some ⟨oc16,od16,.func (PySem.W.fnOf "_law_row_bent" "_law_row_bent" (zv_ zH_) (zs_ zH_) (ze_ zH_) .none kV16 dc16 pm16 an16 cd16 ct16),sl16⟩) (c16:PySem.W.codeIn K cd16 "_law_row_bent" = true) (k16:PySem.W.keepIn K (.ref f16)=true)
  (a17:PySem.W.nsIn K mainGlobals "_law_bent" = some (some (.ref f17))) (l17:K.lookup f17=some ⟨oc17,od17,.func (PySem.W.fnOf "_law_bent" "_law_bent" (zv_ jp_) (zs_ jp_) (ze_ jp_) .none kV17 dc17 pm17 an17 cd17 ct17),sl17⟩) (c17:PySem.W.codeIn K cd17 "_law_bent" = true) (k17:PySem.W.keepIn K (.ref f17)=true)
  (a18:PySem.W.nsIn K mainGlobals "_law_right" = some (some (.ref f18))) (l18:K.lookup f18=some ⟨oc18,od18,.func (PySem.W.fnOf "_law_right" "_law_right" (zv_ z7_) (zs_ z7_) (ze_ z7_) .none kV18 dc18 pm18 an18 cd18 ct18),sl18⟩) (c18:PySem.W.codeIn K cd18 "_law_right" = true) (k18:PySem.W.keepIn K (.ref f18)=true)
  (a19:PySem.W.nsIn K mainGlobals "law" = some (some (.ref f19))) (l19:K.lookup f19=some ⟨oc19,od19,.func (PySem.W.fnOf "law" "law" (zv_ ZX_) (zs_ ZX_) (ze_ ZX_) .none kV19 dc19 pm19 an19 cd19 ct19),sl19⟩) (c19:PySem.W.codeIn K cd19 "law" = true) (k19:PySem.W.keepIn K (.ref f19)=true)
  (z_range:PySem.W.nsIn K mainGlobals "range" = some none)
  (z_len:PySem.W.nsIn K mainGlobals "len" = some none)
  (z_tuple:PySem.W.nsIn K mainGlobals "tuple" = some none)
  (z_list:PySem.W.nsIn K mainGlobals "list" = some none)
  (z_max:PySem.W.nsIn K mainGlobals "max" = some none)
  (z_min:PySem.W.nsIn K mainGlobals "min" = some none)
  (z_sum:PySem.W.nsIn K mainGlobals "sum" = some none)
  (z_abs:PySem.W.nsIn K mainGlobals "abs" = some none)
  (z_repr:PySem.W.nsIn K mainGlobals "repr" = some none)
  (z_enumerate:PySem.W.nsIn K mainGlobals "enumerate" = some none)
  (z_isinstance:PySem.W.nsIn K mainGlobals "isinstance" = some none)
  (z_all:PySem.W.nsIn K mainGlobals "all" = some none)
  (z_any:PySem.W.nsIn K mainGlobals "any" = some none)
  (z_int:PySem.W.nsIn K mainGlobals "int" = some none)
  (z_str:PySem.W.nsIn K mainGlobals "str" = some none)
  (z_bool:PySem.W.nsIn K mainGlobals "bool" = some none)
  (z_zip:PySem.W.nsIn K mainGlobals "zip" = some none)
  (z_sorted:PySem.W.nsIn K mainGlobals "sorted" = some none)
  (z_set:PySem.W.nsIn K mainGlobals "set" = some none)
  (z_dict:PySem.W.nsIn K mainGlobals "dict" = some none)
  (z_reversed:PySem.W.nsIn K mainGlobals "reversed" = some none)
  (g_MOST_ROOMS:PySem.W.nsIn K mainGlobals "MOST_ROOMS" = some (some u_MOST_ROOMS)) (r_MOST_ROOMS:RelV (.int 40) u_MOST_ROOMS)
  (g_MOST_SORTS:PySem.W.nsIn K mainGlobals "MOST_SORTS" = some (some u_MOST_SORTS)) (r_MOST_SORTS:RelV (.int 4) u_MOST_SORTS) :
  ∃fd:FuncData,(∀(s:Shared) (v:Value),BindsTo s fd ⟨[v],[]⟩ [("_law_script",v)])/\∀base:Heap,K.In base->base.Ns mainGlobals mg->FnOk l.prog w K mg base (CX1 l.prog w) 8 fa fd ["_law_script"] (spD K 1 UW_):=by
 have e:=hfa.symm.trans (PySem.W.mg_of X G a19)
 cases e
 have B:BN mg:=⟨PySem.W.mg_none_of X G z_range,PySem.W.mg_none_of X G z_len,PySem.W.mg_none_of X G z_tuple,PySem.W.mg_none_of X G z_list,PySem.W.mg_none_of X G z_max,PySem.W.mg_none_of X G z_min,PySem.W.mg_none_of X G z_sum,PySem.W.mg_none_of X G z_abs,PySem.W.mg_none_of X G z_repr,PySem.W.mg_none_of X G z_enumerate,PySem.W.mg_none_of X G z_isinstance,PySem.W.mg_none_of X G z_all,PySem.W.mg_none_of X G z_any,PySem.W.mg_none_of X G z_int,PySem.W.mg_none_of X G z_str,PySem.W.mg_none_of X G z_bool,PySem.W.mg_none_of X G z_zip,PySem.W.mg_none_of X G z_sorted,PySem.W.mg_none_of X G z_set,PySem.W.mg_none_of X G z_dict,PySem.W.mg_none_of X G z_reversed⟩
 have Kn:KN mg:=⟨⟨_,PySem.W.mg_of X G g_MOST_ROOMS,r_MOST_ROOMS⟩,⟨_,PySem.W.mg_of X G g_MOST_SORTS,r_MOST_SORTS⟩⟩
 have Kx:KX K mg:=⟨trivial⟩
 have F0:=jw_ (st:=jE_) l0 c0 k0
 have F1:=jw_ (st:=jl_) l1 c1 k1
 have F2:=jw_ (st:=zY_) l2 c2 k2
 have F3:=jw_ (st:=z5_) l3 c3 k3
 have F4:=jw_ (st:=z4_) l4 c4 k4
 have F5:=jw_ (st:=z3_) l5 c5 k5
 have F6:=jw_ (st:=jm_) l6 c6 k6
 have F7:=jw_ (st:=jr_) l7 c7 k7
 have F8:=jw_ (st:=jW_) l8 c8 k8
 have F9:=jw_ (st:=jo_) l9 c9 k9
 have F10:=jw_ (st:=jn_) l10 c10 k10
 have F11:=jw_ (st:=jF_) l11 c11 k11
 have F12:=jw_ (st:=zZ_) l12 c12 k12
 have F13:=jw_ (st:=zF_) l13 c13 k13
 have F14:=jw_ (st:=z6_) l14 c14 k14
 have F15:=jw_ (st:=zr_) l15 c15 k15
 have F16:=jw_ (st:=zH_) l16 c16 k16
 have F17:=jw_ (st:=jp_) l17 c17 k17
 have F18:=jw_ (st:=z7_) l18 c18 k18
 have F19:=jw_ (st:=ZX_) l19 c19 k19
 refine⟨PySem.W.fnOf "law" "law" (zv_ ZX_) (zs_ ZX_) (ze_ ZX_) .none kV19 dc19 pm19 an19 cd19 ct19,λs v=>.of_eq rfl,λbase _ _=>?_⟩
 have gaH:=YN_ (P:=l.prog) (w:=w) (base:=base) F0 (PySem.W.mg_of X G a0) B Kn Kx
 have gas:=UM_ (P:=l.prog) (w:=w) (base:=base) F1 (PySem.W.mg_of X G a1) B Kn Kx gaH
 have gai:=Z0_ (P:=l.prog) (w:=w) (base:=base) F2 (PySem.W.mg_of X G a2) B Kn Kx
 have gat:=UN_ (P:=l.prog) (w:=w) (base:=base) F3 (PySem.W.mg_of X G a3) B Kn Kx gas
 have gaA:=JW_ (P:=l.prog) (w:=w) (base:=base) F4 (PySem.W.mg_of X G a4) B Kn Kx gat
 have gaz:=JV_ (P:=l.prog) (w:=w) (base:=base) F5 (PySem.W.mg_of X G a5) B Kn Kx gai gat
 have gaE:=UO_ (P:=l.prog) (w:=w) (base:=base) F6 (PySem.W.mg_of X G a6) B Kn Kx gaz
 have gaI:=YO_ (P:=l.prog) (w:=w) (base:=base) F7 (PySem.W.mg_of X G a7) B Kn Kx gai
 have gax:=Vj_ (P:=l.prog) (w:=w) (base:=base) F8 (PySem.W.mg_of X G a8) B Kn Kx gai gas gaA gaE gaI
 have gaF:=UR_ (P:=l.prog) (w:=w) (base:=base) F9 (PySem.W.mg_of X G a9) B Kn Kx
 have gaa:=UQ_ (P:=l.prog) (w:=w) (base:=base) F10 (PySem.W.mg_of X G a10) B Kn Kx
 have gaj:=YP_ (P:=l.prog) (w:=w) (base:=base) F11 (PySem.W.mg_of X G a11) B Kn Kx gaa
 have gaG:=UP_ (P:=l.prog) (w:=w) (base:=base) F12 (PySem.W.mg_of X G a12) B Kn Kx gaa gaj
 have gaB:=JZ_ (P:=l.prog) (w:=w) (base:=base) F13 (PySem.W.mg_of X G a13) B Kn Kx gaj gaa
 have gaw:=JX_ (P:=l.prog) (w:=w) (base:=base) F14 (PySem.W.mg_of X G a14) B Kn Kx
 have gal:=Zu_ (P:=l.prog) (w:=w) (base:=base) F15 (PySem.W.mg_of X G a15) B Kn Kx gaw
 have gao:=y5_ (P:=l.prog) (w:=w) (base:=base) F16 (PySem.W.mg_of X G a16) B Kn Kx gaa gaj
 have gay:=US_ (P:=l.prog) (w:=w) (base:=base) F17 (PySem.W.mg_of X G a17) B Kn Kx gaa gaj gao
 have gaC:=JY_ (P:=l.prog) (w:=w) (base:=base) F18 (PySem.W.mg_of X G a18) B Kn Kx gax gal
 exact zaZ_ F19 B Kn Kx gaF gaa gaB gaG gax gay gal gaC
theorem walk{l:PySem.W.OpenLaw}{q:Program}{loose:List Str}{XP:(Str->Option Value)->Heap->Prop}{YP:World->Heap->Prop}{d:DefRec}{K:Params->Fg}(main:∀ns:List Int,ns.length<=63->zas_ (.list (ns.map PyData.int))=.ret (.bool true))(hn:l.most=some 63)(hdf:d.params.defaults=[])
  (hY:∀(w:World) (h:Heap),YP w h->(K w.params).In h)
  (F:∀(w:World) (mg:Str->Option Value) (fa:Addr) (h:Heap),(K w.params).In h->h.Ns mainGlobals mg->mg d.name=some (.ref fa) ->
   ∃fd:FuncData,(∀(s:Shared) (u:Value),BindsTo s fd ⟨[u],[]⟩ [("_law_script",u)])/\∀base:Heap,(K w.params).In base->base.Ns mainGlobals mg->FnOk l.prog w (K w.params) mg base (CX1 l.prog w) 8 fa fd ["_law_script"] (spD (K w.params) 1 UW_)) :
  PySem.W.WalkO q loose XP YP l.row.toRowW d [] (λf vs=>PySem.call f vs) :=
 L2.walk_of (n:=63) (k:=8) (x := "_law_script") (CX:=λw=>CX1 l.prog w) (sp:=λw=>spD (K w.params) 1 UW_) hn (by decide) hdf ⟨rfl,by decide,by decide,rfl⟩ hY F (λw H a ns hl _ hS=>Wz_ hS (main ns hl)) λ_ _ _ _ _ ⟨_,_,_,_,_,_,_,_,_,_,z⟩=>z
end K01
open PySem PySem.W PyProof.Rows
set_option maxRecDepth 100000 in
set_option maxHeartbeats 0 in
theorem PySem.Challenge.cw_passersby_k01_rules_of_any_thing_holds : PySem.Challenge.rw_passersby_k01_rules_of_any_thing.Holds := by
 w_on;o_law;k_head;(case hw=>w_witness2)
 k_fill
 refine K01.walk (l:=PySem.Challenge.rw_passersby_k01_rules_of_any_thing) K01.main rfl rfl (λw h Y=>PySem.W.kIn_of Y) ?F
 case F =>
  intro w mg fa h KX G hmg
  refine' K01.all_mk KX G hmg ?a0 ?l0 ?c0 ?k0 ?a1 ?l1 ?c1 ?k1 ?a2 ?l2 ?c2 ?k2 ?a3 ?l3 ?c3 ?k3 ?a4 ?l4 ?c4 ?k4 ?a5 ?l5 ?c5 ?k5 ?a6 ?l6 ?c6 ?k6 ?a7 ?l7 ?c7 ?k7 ?a8 ?l8 ?c8 ?k8 ?a9 ?l9 ?c9 ?k9 ?a10 ?l10 ?c10 ?k10 ?a11 ?l11 ?c11 ?k11 ?a12 ?l12 ?c12 ?k12 ?a13 ?l13 ?c13 ?k13 ?a14 ?l14 ?c14 ?k14 ?a15 ?l15 ?c15 ?k15 ?a16 ?l16 ?c16 ?k16 ?a17 ?l17 ?c17 ?k17 ?a18 ?l18 ?c18 ?k18 ?a19 ?l19 ?c19 ?k19 ?z_range ?z_len ?z_tuple ?z_list ?z_max ?z_min ?z_sum ?z_abs ?z_repr ?z_enumerate ?z_isinstance ?z_all ?z_any ?z_int ?z_str ?z_bool ?z_zip ?z_sorted ?z_set ?z_dict ?z_reversed ?g_MOST_ROOMS ?r_MOST_ROOMS ?g_MOST_SORTS ?r_MOST_SORTS
  (case a0=>k_is)
  (case l0=>k_is)
  (case c0=>k_is)
  (case k0=>k_is)
  (case a1=>k_is)
  (case l1=>k_is)
  (case c1=>k_is)
  (case k1=>k_is)
  (case a2=>k_is)
  (case l2=>k_is)
  (case c2=>k_is)
  (case k2=>k_is)
  (case a3=>k_is)
  (case l3=>k_is)
  (case c3=>k_is)
  (case k3=>k_is)
  (case a4=>k_is)
  (case l4=>k_is)
  (case c4=>k_is)
  (case k4=>k_is)
  (case a5=>k_is)
  (case l5=>k_is)
  (case c5=>k_is)
  (case k5=>k_is)
  (case a6=>k_is)
  (case l6=>k_is)
  (case c6=>k_is)
  (case k6=>k_is)
  (case a7=>k_is)
  (case l7=>k_is)
  (case c7=>k_is)
  (case k7=>k_is)
  (case a8=>k_is)
  (case l8=>k_is)
  (case c8=>k_is)
  (case k8=>k_is)
  (case a9=>k_is)
  (case l9=>k_is)
  (case c9=>k_is)
  (case k9=>k_is)
  (case a10=>k_is)
  (case l10=>k_is)
  (case c10=>k_is)
  (case k10=>k_is)
  (case a11=>k_is)
  (case l11=>k_is)
  (case c11=>k_is)
  (case k11=>k_is)
  (case a12=>k_is)
  (case l12=>k_is)
  (case c12=>k_is)
  (case k12=>k_is)
  (case a13=>k_is)
  (case l13=>k_is)
  (case c13=>k_is)
  (case k13=>k_is)
  (case a14=>k_is)
  (case l14=>k_is)
  (case c14=>k_is)
  (case k14=>k_is)
  (case a15=>k_is)
  (case l15=>k_is)
  (case c15=>k_is)
  (case k15=>k_is)
  (case a16=>k_is)
  (case l16=>k_is)
  (case c16=>k_is)
  (case k16=>k_is)
  (case a17=>k_is)
  (case l17=>k_is)
  (case c17=>k_is)
  (case k17=>k_is)
  (case a18=>k_is)
  (case l18=>k_is)
  (case c18=>k_is)
  (case k18=>k_is)
  (case a19=>k_is)
  (case l19=>k_is)
  (case c19=>k_is)
  (case k19=>k_is)
  (case z_range=>k_is)
  (case z_len=>k_is)
  (case z_tuple=>k_is)
  (case z_list=>k_is)
  (case z_max=>k_is)
  (case z_min=>k_is)
  (case z_sum=>k_is)
  (case z_abs=>k_is)
  (case z_repr=>k_is)
  (case z_enumerate=>k_is)
  (case z_isinstance=>k_is)
  (case z_all=>k_is)
  (case z_any=>k_is)
  (case z_int=>k_is)
  (case z_str=>k_is)
  (case z_bool=>k_is)
  (case z_zip=>k_is)
  (case z_sorted=>k_is)
  (case z_set=>k_is)
  (case z_dict=>k_is)
  (case z_reversed=>k_is)
  (case g_MOST_ROOMS=>k_is)
  (case r_MOST_ROOMS=>first|exact⟨_,rfl⟩|rfl)
  (case g_MOST_SORTS=>k_is)
  (case r_MOST_SORTS=>first|exact⟨_,rfl⟩|rfl)
