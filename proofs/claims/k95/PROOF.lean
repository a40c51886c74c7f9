import PyProof.Rows.All
import Wide.All
import OpenK.AllK
import Wide.FinOn
import Lean
import PyProof.EqAt
import PyProof.EqKinds
import PyProof.TupleCall
import PySem.Challenge.RW_passersby_k95_whole_a_joined_crowd_does
noncomputable section
set_option Elab.async false
set_option linter.all false
set_option maxRecDepth 100000
noncomputable def zza:=@PySem.wpAny_bind
noncomputable def zzb:=@PySem.wpAny_pure
noncomputable def zzc:=@PySem.Heap.get?_push_of_some
noncomputable def zzd:=@List.length_map
noncomputable def zze:=@PySem.Heap.get?_push_size
noncomputable def zzf:=@List.length_append
noncomputable def zzg:=@List.mem_cons_of_mem
noncomputable def zzi:=@decide_eq_true_eq
namespace L2
open PySem PySem.Spec PyProof.Rows
noncomputable abbrev Key:=Sum Int Str
noncomputable def V5_:Key->Value->Bool
 | .inl k,v=>Value.isInt k v
 | .inr x,v=>Value.isStrOf x v
noncomputable def keyH(w:World):Key->Int
 | .inl k=>hashInt k
 | .inr x=>hashStr w x
theorem zN_:∀{k:Key} {v:Value},V5_ k v=true->(∃i t,k=Sum.inl i/\v=Value.int i t)\/(∃x t,k=Sum.inr x/\v=Value.str x t)
 | .inl i,v,h=>by
  obtain⟨t,e⟩:=Value.isInt_shape (k:=i) (v:=v) h
  exact .inl ⟨i,t,rfl,e⟩
 | .inr x,v,h=>by
  obtain⟨t,e⟩:=Value.isStrOf_shape (x:=x) (v:=v) h
  exact .inr ⟨x,t,rfl,e⟩
theorem XG_(i:Int)(t:Tok):V5_ (.inl i) (.int i t)=true:=by simp[V5_,Value.isInt]
theorem XF_(x:Str)(t:Tok):V5_ (.inr x) (.str x t)=true:=by simp[V5_,Value.isStrOf]
theorem zhm_(a b:Int):decide ((Sum.inl a:Key)=Sum.inl b)=(a==b):=by
 by_cases e:a=b
 ·subst e;simp
 ·have h:¬ (Sum.inl a:Key)=Sum.inl b:=λq=>e (Sum.inl.inj q)
  rw[decide_eq_false h]
  exact(beq_eq_false_iff_ne.mpr e).symm
theorem zhj_(a b:Str):decide ((Sum.inr a:Key)=Sum.inr b)=decide (a=b):=by
 by_cases e:a=b
 ·subst e;simp
 ·have h:¬ (Sum.inr a:Key)=Sum.inr b:=λq=>e (Sum.inr.inj q)
  rw[decide_eq_false h,decide_eq_false e]
theorem zhl_(a:Int)(b:Str):decide ((Sum.inl a:Key)=Sum.inr b)=false:=decide_eq_false (λq=>nomatch q)
theorem zhk_(a:Str)(b:Int):decide ((Sum.inr a:Key)=Sum.inl b)=false:=decide_eq_false (λq=>nomatch q)
def zE_(prog:Program)(w:World):PySem.KeyKind prog w Key where
 is:=V5_
 hash:=keyH w
 inj:=λv a b ha hb=>by
  rcases zN_ ha with ⟨i,t,rfl,rfl⟩|⟨x,t,rfl,rfl⟩
  ·rcases zN_ hb with ⟨j,u,rfl,e⟩|⟨y,u,rfl,e⟩
   ·injection e with e1 _;rw[e1]
   ·exact nomatch e
  ·rcases zN_ hb with ⟨j,u,rfl,e⟩|⟨y,u,rfl,e⟩
   ·exact nomatch e
   ·injection e with e1 _;rw[e1]
 byValue:=λk v h=>by
  rcases zN_ h with ⟨i,t,rfl,rfl⟩|⟨x,t,rfl,rfl⟩<;>rfl
 pyHash:=λhv h=>by
  rcases zN_ hv with ⟨i,t,rfl,rfl⟩|⟨x,t,rfl,rfl⟩
  ·exact wpAny_pyHash_int h
  ·exact wpAny_pyHash_str h
 eqBool:=λhu hv h=>by
  rcases zN_ hu with ⟨i,t,rfl,rfl⟩|⟨x,t,rfl,rfl⟩
  ·rcases zN_ hv with ⟨j,u,rfl,rfl⟩|⟨y,u,rfl,rfl⟩
   ·rw[zhm_]at h;exact wpAny_eqBool_int h
   ·rw[zhl_]at h;exact SeqAt.EqAt.int_str i t y u _ _ _ _ h
  ·rcases zN_ hv with ⟨j,u,rfl,rfl⟩|⟨y,u,rfl,rfl⟩
   ·rw[zhk_]at h;exact SeqAt.EqAt.str_int x t j u _ _ _ _ h
   ·rw[zhj_]at h;exact wpAny_eqBool_str h
 «strs»:=λk x t v h=>by
  rcases zN_ h with ⟨i,u,rfl,e⟩|⟨y,u,rfl,e⟩
  ·exact nomatch e
  ·injection e with e1 _
   subst e1
   cases v<;>rfl
theorem Qh_(prog:Program)(w:World)(i:Int)(t:Tok):(zE_ prog w).is (.inl i) (.int i t)=true:=XG_ i t
theorem Qg_(prog:Program)(w:World)(x:Str)(t:Tok):(zE_ prog w).is (.inr x) (.str x t)=true:=XF_ x t
inductive V where
 | non|bl (b:Bool)|int (i:Int)|str (x:Str)|byt (b:Array UInt8)|flt (b:UInt64)|ref (a:Addr)|ty (n:String)
 deriving DecidableEq
noncomputable def RelV:V->Value->Prop
 | .non,u=>u=Value.none
 | .bl b,u=>u=Value.bool b
 | .int i,u=>∃t,u=Value.int i t
 | .str x,u=>∃t,u=Value.str x t
 | .byt b,u=>∃t,u=Value.bytes b t
 | .flt b,u=>∃t,u=Value.float b t
 | .ref a,u=>u=Value.ref a
 | .ty n,u=>u=Value.type n
abbrev Vals:List V->List Value->Prop:=Paired RelV
theorem Vals.length{xs:List V}{us:List Value}(r:Vals xs us):xs.length=us.length:=Paired.length r
theorem Vals.get:∀{xs:List V} {us:List Value} {i:Nat} {x:V},Vals xs us->xs[i]? = some x->∃u,us[i]? = some u/\RelV x u
 | _,_,_,_,.nil,e=>by simp at e
 | _,_,0,_,.cons r _,e=>by simp at e;subst e;exact⟨_,rfl,r⟩
 | _,_,i+1,x,.cons _ t,e=>by
  obtain⟨u,h1,h2⟩:=Vals.get (i:=i) (x:=x) t (by simpa using e)
  exact⟨u,by simpa using h1,h2⟩
theorem Vals.set{x:V}{u:Value}(r:RelV x u):∀{xs:List V} {us:List Value} (i:Nat),Vals xs us->Vals (xs.set i x) (us.set i u)
 | _,_,_,.nil=>.nil
 | _,_,0,.cons _ t=>.cons r t
 | _,_,i+1,.cons q t=>.cons q (Vals.set r i t)
theorem Vals.append:∀{xs ys:List V} {us ws:List Value},Vals xs us->Vals ys ws->Vals (xs++ys) (us++ws):=by
 intro xs ys us ws h s
 induction h with
 | nil=>exact s
 | cons r _ ih=>exact .cons r ih
theorem Vals.take:∀{xs:List V} {us:List Value} (n:Nat),Vals xs us->Vals (xs.take n) (us.take n)
 | _,_,0,_=>.nil
 | _,_,_+1,.nil=>.nil
 | _,_,n+1,.cons r t=>.cons r (Vals.take n t)
theorem Vals.drop:∀{xs:List V} {us:List Value} (n:Nat),Vals xs us->Vals (xs.drop n) (us.drop n)
 | _,_,0,r=>r
 | _,_,_+1,.nil=>.nil
 | _,_,n+1,.cons _ t=>Vals.drop n t
noncomputable def RelO:Option V->Option Value->Prop
 | some v,some u=>RelV v u
 | none,none=>True
 | _,_=>False
def KV{κ:Type}:List (κ×V)->List (κ×Value)->Prop:=Paired λ(p:κ×V) (q:κ×Value)=>p.1=q.1/\RelV p.2 q.2
noncomputable def kV:Key->V
 | .inl i=>.int i
 | .inr x=>.str x
inductive HO where
 | lst (xs:List V)
 | tup (xs:List V)
 | dK (kvs:List (Key×V))|dT (kvs:List (List Key×V))
 | set (S:Int->Bool) (n:Nat)
 | ins (C dx:Addr) (fs:List (Str×V))
 | own (x:Addr)
 | xd (fs:List (Str×V))
 | met (f x:Addr)
 | rng (lo hi:Int)
 | frz (o:Obj) (u:HO)
 | tbl (ps:Array Value)
 | ext (φ:Heap->Prop)
noncomputable abbrev Hp:=Addr->Option HO
noncomputable def upd(H:Hp)(a:Addr)(o:HO):Hp:=λb=>if b=a then some o else H b
theorem zn_{H:Hp}{a:Addr}{o:HO}:upd H a o a=some o:=by unfold upd;rw[if_pos rfl]
theorem zj_{H:Hp}{a b:Addr}{o:HO}(h:b≠a):upd H a o b=H b:=by unfold upd;rw[if_neg h]
theorem zgZ_{H:Hp}{a b:Addr}{o u:HO}(h:H a=some o)(h':H b=some u)(d:o≠u):a≠b:=by
 intro e;subst e;rw[h]at h';exact d (Option.some.inj h')
theorem zr_{H:Hp}{a b:Addr}{o:HO}(h:H a=some o)(h':H b=none):a≠b:=by
 intro e;subst e;rw[h]at h';cases h'
section
variable (P:Program)(w:World)
def _root_.L2.TupN(h:Heap)(a:Addr):Prop:=∃o,h.get? a=some o/\o.dict=none
theorem _root_.L2.TupN.new(h:Heap)(items:Array Value):TupN (h.push { cls:=.type "tuple",data:=.seq items }) h.objs.size:=⟨_,zze _ rfl,rfl⟩
def ObjOk(H:Hp)(h:Heap)(a:Addr):HO->Prop
 | .lst xs=>xs.length<=sizeLine/\∃(its:List Value) (n:Nat),Vals xs its/\h.get? a=some { cls:=.type "list",data:=.seq its.toArray n }
 | .tup xs=>xs.length<=sizeLine/\∃its:List Value,Vals xs its/\IsTup h a its.toArray/\TupN h a
 | .dK kvs=>kvs.length<=sizeLine/\(a==sysModules)=false/\∃vs,KV kvs vs/\h.DictOf (zE_ P w) a vs
 | .dT kvs=>kvs.length<=sizeLine/\(a==sysModules)=false/\∃xs:List (List Key×Addr×Value),
   Paired (λ(p:List Key×V) (q:List Key×Addr×Value)=>p.1=q.1/\H q.2.1=some (.tup (p.1.map kV))/\RelV p.2 q.2.2) kvs xs /\
   ∃o es ep,h.get? a=some o/\o.ExactDict/\o.data=.dict es ep/\es.toList=xs.map (entryOfKey (tupleKind (zE_ P w)))/\(xs.map (·.1)).Nodup
 | .set S n=>h.SetOf (intKind P w) a S n
 | .ins C dx fs=>H dx=some (.own a)/\fs.length<=1000/\dx≠a/\h.get? a=some (PySem.W.instObj C dx) /\
   ∃mA,h.Ns1 dx mA/\(∀f,RelO (fs.lookup f) (mA f))/\PySem.Within mA (fs.map (·.1))
 | .own _=>∃o,h.get? a=some o
 | .xd fs=>∃mA,h.Ns1 a mA/\∀f,RelO (fs.lookup f) (mA f)
 | .rng lo hi=>∃t u v,h.get? a=some { cls:=.type "range",data:=.fields #[.int lo t,.int hi u,.int 1 v] }
 | .frz o u=>h.get? a=some o/\ObjOk H h a u
 | .tbl ps=>h.get? a=some { cls:=.none,data:=.fields ps }
 | .met f x=>h.get? a=some (PySem.W.methodObj (.ref f) (.ref x))
 | .ext φ=>φ h/\(∃o,h.get? a=some o)/\∀h1 h2:Heap,φ h1->(∀o,h1.get? a=some o->h2.get? a=some o)->φ h2
def HOk(H:Hp)(h:Heap):Prop:=∀a o,H a=some o->ObjOk P w H h a o
end
section
variable {P:Program}{w:World}{H H':Hp}{h h':Heap}{a:Addr}{o:HO}
theorem ObjOk.lt(x:ObjOk P w H h a o):a<h.objs.size:=by
 cases o with
 | lst xs=>obtain⟨_,_,_,_,e⟩:=x;exact Heap.lt_size e
 | tup xs=>obtain⟨_,_,_,p⟩:=x;exact p.1.lt
 | dK kvs=>obtain⟨_,_,_,_,o,_,_,e,_⟩:=x;exact Heap.lt_size e
 | dT kvs=>obtain⟨_,_,_,_,o,_,_,e,_⟩:=x;exact Heap.lt_size e
 | set S n=>obtain⟨o,_,_,_,e,_⟩:=x;exact Heap.lt_size e
 | ins C dx fs=>obtain⟨_,_,_,e,_⟩:=x;exact Heap.lt_size e
 | own y=>obtain⟨_,e⟩:=x;exact Heap.lt_size e
 | xd fs=>obtain⟨_,⟨_,_,_,e,_⟩,_⟩:=x;exact Heap.lt_size e
 | rng lo hi=>obtain⟨_,_,_,e⟩:=x;exact Heap.lt_size e
 | frz ob u=>obtain⟨e,_⟩:=x;exact Heap.lt_size e
 | tbl ps=>exact Heap.lt_size (show h.get? a=some _ from x)
 | met f y=>exact Heap.lt_size (show h.get? a=some _ from x)
 | ext φ=>obtain⟨_,⟨_,e⟩,_⟩:=x;exact Heap.lt_size e
theorem Paired.mapP{α β:Type}{F G:α->β->Prop}:∀{l₁:List α} {l₂:List β},Paired F l₁ l₂->(∀a b,F a b->G a b)->Paired G l₁ l₂:=by
 intro l₁ l₂ h f
 induction h with
 | nil=>exact .nil
 | cons r _ ih=>exact .cons (f _ _ r) ih
theorem ObjOk.stay(x:ObjOk P w H h a o)(k:∀b u,(b=a\/H b=some (.own a))->h.get? b=some u->h'.get? b=some u)
  (ho:∀b,H b=some (.own a)->H' b=some (.own a)) (ht:∀b xs,H b=some (.tup xs)->H' b=some (.tup xs)):ObjOk P w H' h' a o:=by
 induction o with
 | lst xs=>obtain⟨z,its,n,r,e⟩:=x;exact⟨z,its,n,r,k _ _ (.inl rfl) e⟩
 | tup xs=>obtain⟨z,its,r,⟨ob,e,c⟩,ob2,e2,c2⟩:=x;exact⟨z,its,r,⟨ob,k _ _ (.inl rfl) e,c⟩,ob2,k _ _ (.inl rfl) e2,c2⟩
 | dK kvs=>obtain⟨z,y,vs,r,ob,es,ep,e,c⟩:=x;exact⟨z,y,vs,r,ob,es,ep,k _ _ (.inl rfl) e,c⟩
 | dT kvs =>
  obtain⟨z,y,xs,r,ob,es,ep,e,c⟩:=x
  exact⟨z,y,xs,Paired.mapP r λp q z=>⟨z.1,ht _ _ z.2.1,z.2.2⟩,ob,es,ep,k _ _ (.inl rfl) e,c⟩
 | set S n=>obtain⟨ob,es,ep,t,e,c⟩:=x;exact⟨ob,es,ep,t,k _ _ (.inl rfl) e,c⟩
 | ins C dx fs =>
  obtain⟨d,z,ne,e,mA,⟨od,es,ep,e2,c⟩,r⟩:=x
  exact⟨ho _ d,z,ne,k _ _ (.inl rfl) e,mA,⟨od,es,ep,k _ _ (.inr d) e2,c⟩,r⟩
 | own y=>obtain⟨ob,e⟩:=x;exact⟨ob,k _ _ (.inl rfl) e⟩
 | xd fs=>obtain⟨mA,⟨od,es,ep,e,c⟩,r⟩:=x;exact⟨mA,⟨od,es,ep,k _ _ (.inl rfl) e,c⟩,r⟩
 | rng lo hi=>obtain⟨t,u,v,e⟩:=x;exact⟨t,u,v,k _ _ (.inl rfl) e⟩
 | frz ob u ih=>obtain⟨e,q⟩:=x;exact⟨k _ _ (.inl rfl) e,ih q⟩
 | tbl ps =>
  have e:h.get? a=some { cls:=.none,data:=.fields ps }:=x
  show h'.get? a=some { cls:=.none,data:=.fields ps }
  exact k a _ (.inl rfl) e
 | met f y =>
  have e:h.get? a=some (PySem.W.methodObj (.ref f) (.ref y)):=x
  show h'.get? a=some (PySem.W.methodObj (.ref f) (.ref y))
  exact k a _ (.inl rfl) e
 | ext φ=>obtain⟨p,⟨o,e⟩,st⟩:=x;exact⟨st _ _ p λo q=>k _ _ (.inl rfl) q,⟨o,k _ _ (.inl rfl) e⟩,st⟩
theorem HOk.lt(x:HOk P w H h)(e:H a=some o):a<h.objs.size:=(x a o e).lt
theorem HOk.fresh(x:HOk P w H h)(e:h.objs.size<=a):H a=none:=by
 cases q:H a with
 | none=>rfl
 | some u=>exact absurd (Nat.lt_of_lt_of_le (x.lt q) e) (Nat.lt_irrefl _)
theorem HOk.kept(x:HOk P w H h)(k:∀b u,h.get? b=some u->h'.get? b=some u):HOk P w H h':=λa o e =>
 (x a o e).stay (λb u _ q=>k b u q) (λ_ q=>q) λ_ _ q=>q
theorem HOk.laid(x:HOk P w H h)(k:∀b u,h.get? b=some u->h'.get? b=some u)(hp:h.objs.size<=a)(new:ObjOk P w (upd H a o) h' a o):HOk P w (upd H a o) h':=λb u e=>by
 have hn:=x.fresh hp
 by_cases hb:b=a
 ·subst hb;rw[zn_]at e;cases e;exact new
 ·rw[zj_ hb]at e
  exact(x b u e).stay (λc v _ q=>k c v q) (λc q=>by rw[zj_ (zr_ q hn)];exact q) λc xs q=>by rw[zj_ (zr_ q hn)];exact q
end
def Rd(H:Hp)(a:Addr)(u:HO):Prop:=H a=some u\/∃o,H a=some (.frz o u)
theorem Rd.ok{P:Program}{w:World}{H:Hp}{h:Heap}{a:Addr}{u:HO}(r:Rd H a u)(x:HOk P w H h):ObjOk P w H h a u:=by
 rcases r with r|⟨o,r⟩
 ·exact x a u r
 ·obtain⟨_,q⟩:=x a _ r
  exact q
noncomputable def Mut:Option HO->Prop
 | some (.lst _)=>True
 | some (.dK _)=>True
 | some (.dT _)=>True
 | some (.set _ _)=>True
 | some (.ins _ _ _)=>True
 | some (.ext _)=>True
 | _=>False
section
variable {P:Program}{w:World}{H:Hp}{h h':Heap}{x e:Addr}{o':HO}
theorem HOk.write(ok:HOk P w H h)(mu:Mut (H x))(he:e=x\/H e=some (.own x))(k:∀b u,b≠e->h.get? b=some u->h'.get? b=some u)(heo:∃u,h'.get? e=some u)
  (new:ObjOk P w (upd H x o') h' x o'):HOk P w (upd H x o') h':=λb u q=>by
 have nown:∀c y,H c=some (.own y)->c≠x:=λc y r z=>by subst z;rw[r]at mu;exact mu
 have ntup:∀c xs,H c=some (.tup xs)->c≠x:=λc xs r z=>by subst z;rw[r]at mu;exact mu
 by_cases hb:b=x
 ·subst hb;rw[zn_]at q;cases q;exact new
 ·rw[zj_ hb]at q
  by_cases hbe:b=e
  ·have q':H b=some (.own x):=by
    rcases he with z|z
    ·exact absurd (hbe.trans z) hb
    ·rw[hbe];exact z
   rw[q]at q';cases q'
   obtain⟨v,hv⟩:=heo
   exact⟨v,by rw[hbe];exact hv⟩
  ·refine(ok b u q).stay (λc v hc r=>k c v ?_ r) (λc r=>by rw[zj_ (nown c b r)];exact r) λc xs r=>by rw[zj_ (ntup c xs r)];exact r
   rcases hc with rfl|hc
   ·exact hbe
   ·rintro rfl
    rcases he with z|z
    ·exact nown c b hc z
    ·rw[hc]at z;cases z;exact hb rfl
end
structure Un(fs ex:List Addr)(H H':Hp)(h h':Heap):Prop where
 keep:∀b o,h.get? b=some o->H b=none->b∉fs->b∉ex->h'.get? b=some o
 slot:∀b o,h.get? b=some o->H b=none->b∈fs->b∉ex->∃sl,h'.get? b=some { o with slots:=sl }
 free:∀b o,h.get? b=some o->H b=none->b∉ex->H' b=none
 there:∀b o,h.get? b=some o->b∉ex->∃o',h'.get? b=some o'
 tups:∀b xs,H b=some (.tup xs)->H' b=some (.tup xs)
 frzs:∀b o u,H b=some (.frz o u)->H' b=some (.frz o u)
 tbls:∀b ps,H b=some (.tbl ps)->∃more,H' b=some (.tbl (ps++more))
section
variable {fs fs' ex ex':List Addr}{H H1 H2:Hp}{h h1 h2 h':Heap}{a x e:Addr}{o:HO}
theorem Un.any(u:Un fs ex H H1 h h1){b:Addr}{ob:Obj}(q:h.get? b=some ob)(n:H b=none)(hx:b∉ex):∃sl,h1.get? b=some { ob with slots:=sl }:=by
 by_cases hb:b∈fs
 ·exact u.slot b ob q n hb hx
 ·exact⟨ob.slots,u.keep b ob q n hb hx⟩
theorem Un.kept(k:∀b u,h.get? b=some u->h'.get? b=some u):Un fs ex H H h h' :=
 ⟨λb ob q _ _ _=>k b ob q,λb ob q _ _ _=>⟨ob.slots,k b ob q⟩,λ_ _ _ n _=>n,λb ob q _=>⟨ob,k b ob q⟩,λ_ _ q=>q,λ_ _ _ q=>q,λ_ ps q=>⟨#[],by rw[q];simp⟩⟩
theorem Un.refl:Un fs ex H H h h:=Un.kept λ_ _ q=>q
theorem Un.laid(k:∀b u,h.get? b=some u->h'.get? b=some u)(hp:h.objs.size<=a)(hn:H a=none):Un fs ex H (upd H a o) h h' where
 keep:=λb u q _ _ _=>k b u q
 slot:=λb u q _ _ _=>⟨u.slots,k b u q⟩
 free:=λb u q n _=>by rw[zj_ (Nat.ne_of_lt (Nat.lt_of_lt_of_le (Heap.lt_size q) hp))];exact n
 there:=λb u q _=>⟨u,k b u q⟩
 tups:=λb xs q=>by rw[zj_ (zr_ q hn)];exact q
 frzs:=λb u xs q=>by rw[zj_ (zr_ q hn)];exact q
 tbls:=λb ps q=>⟨#[],by rw[zj_ (zr_ q hn),q];simp⟩
theorem Un.write(mu:Mut (H x))(he:e=x\/H e=some (.own x))(k:∀b u,b≠e->h.get? b=some u->h'.get? b=some u)(heo:∃u,h'.get? e=some u):Un fs ex H (upd H x o) h h':=by
 have hx:∀b,H b=none->b≠x:=λb n z=>by subst z;rw[n]at mu;exact mu
 have hb:∀b,H b=none->b≠e:=λb n z=>by
  subst z
  rcases he with r|r
  ·exact hx b n r
  ·rw[n]at r;cases r
 have hm:∀b u,H b=some u->¬ Mut (some u)->b≠x:=λb u q nm z=>by subst z;rw[q]at mu;exact nm mu
 refine⟨λb u q n _ _=>k b u (hb b n) q,λb u q n _ _=>⟨u.slots,k b u (hb b n) q⟩,λb u q n _=>by rw[zj_ (hx b n)];exact n,λb u q _=>?_,
  λb xs q=>by rw[zj_ (hm b _ q λz=>z)];exact q,λb u xs q=>by rw[zj_ (hm b _ q λz=>z)];exact q,λb ps q=>⟨#[],by rw[zj_ (hm b _ q λz=>z),q];simp⟩⟩
 by_cases hbe:b=e
 ·subst hbe;exact heo
 ·exact⟨u,k b u hbe q⟩
end
noncomputable def trk(h:Heap)(H:Hp):List Addr:=(List.range h.objs.size).filter λa=>(H a).isSome
def hidT(h:Heap)(H:Hp):Heap:=PySem.W.hideAll h (trk h H)
theorem XN_(h:Heap)(H:Hp):(hidT h H).objs.size=h.objs.size:=PySem.W.hideAll_size _ _
theorem zbU_{h:Heap}{H:Hp}{b:Addr}{o:Obj}(e:h.get? b=some o)(n:H b=none):(hidT h H).get? b=some o :=
 PySem.W.hideAll_get _ e λhm=>by
  have q:(H b).isSome=true:=(List.mem_filter.mp hm).2
  rw[n]at q;simp at q
theorem zeF_{h:Heap}{H:Hp}{b:Addr}{o:Obj}(e:(hidT h H).get? b=some o):h.get? b=some o/\H b=none:=by
 have e':h.get? b=some o:=PySem.W.of_hideAll (trk h H) e
 refine⟨e',?_⟩
 cases q:H b with
 | none=>rfl
 | some x =>
  have hm:b∈trk h H:=List.mem_filter.mpr ⟨List.mem_range.mpr (Heap.lt_size e'),by simp[q]⟩
  have z:(hidT h H).get? b=none:=PySem.W.hideAll_none (trk h H) hm
  rw[z]at e;cases e
structure Mod(K:PySem.W.Frag)(mg:Str->Option Value)(base:Heap):Prop where
 kin:K.In base
 glob:base.Ns mainGlobals mg
 blt:∃mb,base.Ns builtinsNs mb/\∀x:Str,x ≠ "__name__" -> mb x=bootBuiltins x
 nolimit:base.NoLimit
structure Cx where
 prog:Program
 w:World
 K:PySem.W.Frag
 mg:Str->Option Value
 base:Heap
 A:Around
 N:List Str
 s₀:Shared
 H₀:Hp
 env:Env
 outer:List Env
 stack:List Env
 ex:List Addr
 fn:Str->Bool
 calm:Bool
 pn:List (Addr×Obj)
 xe:Value->Shared->Prop
noncomputable def frs(l:List Env):List Addr:=l.filterMap (·.frame)
abbrev Cx.fs(X:Cx):List Addr:=frs X.outer
def Vis(sc:Scope)(x:Str):Prop:=sc.names.lookup x=some .local\/sc.names.lookup x=some .cell\/sc.names.lookup x=some .free
def Loc(sc:Scope)(x:Str):Prop:=sc.names.lookup x=some .local\/sc.names.lookup x=some .cell
def Look(env:Env)(h:Heap)(m:Str->Option Value)(x:Str)(u:Value):Prop :=
 (env.kindOf x=some .local/\m x=some u)\/((env.kindOf x=some .cell\/env.kindOf x=some .free)/\∃c,env.cells.lookup x=some c/\h.IsCell c (some u))
structure Cx.Ok(X:Cx):Prop where
 mod:Mod X.K X.mg X.base
 kind:X.env.scope.kind=.function
 glob:X.env.globals=mainGlobals
 blt:X.env.builtins=builtinsNs
 above:X.s₀.heap.objs.size<=X.env.locals
 inj:∀x y c,X.env.cells.lookup x=some c->X.env.cells.lookup y=some c->x=y
 has:∀x,(X.env.kindOf x=some .cell\/X.env.kindOf x=some .free)->∃c,X.env.cells.lookup x=some c
 cab:∀x c,X.fn x=true->X.env.cells.lookup x=some c->X.s₀.heap.objs.size<=c
 hd:X.calm=true->X.A.handled=none
 frames:X.A.frames=some X.stack
 stk:X.stack=X.outer\/(X.stack=X.env::X.outer/\X.env.frame=some X.env.locals)
 exf:∀b∈X.ex,b≠X.env.locals/\∀x c,X.env.cells.lookup x=some c->c≠b
 bs:∀b o,X.base.get? b=some o->X.s₀.heap.get? b=some o/\X.H₀ b=none
 bsz:X.base.objs.size<=X.s₀.heap.objs.size
 noex:∀b o,X.base.get? b=some o->b∉X.ex
 exfs:∀b∈X.ex,b∉X.fs
 funs:X.s₀.heap.FunFrames X.base X.outer
 frf:∀b∈X.fs,X.H₀ b=none
structure Inv(X:Cx)(pins:List (Addr×Obj))(σ:List (Option V))(H:Hp)(s:Shared):Prop where
 ok:X.Ok
 os:s.os=X.s₀.os
 bare:AllBare s.gens
 base:Un X.fs X.ex X.H₀ H X.s₀.heap s.heap
 loc:∃m,s.heap.Ns X.env.locals m/\∀(i:Nat) (x:Str) (v:V),X.N[i]? = some x->σ[i]? = some (some v)->Vis X.env.scope x->∃u,RelV v u/\Look X.env s.heap m x u
 cell:∀x c,X.env.cells.lookup x=some c->∃v,s.heap.IsCell c v
 free:H X.env.locals=none
 freeC:∀x c,X.env.cells.lookup x=some c->H c=none
 pin:∀p∈X.pn++pins,s.heap.get? p.1=some p.2/\H p.1=none/\p.1≠X.env.locals/\p.1∉X.fs/\∀v,p.2.data≠.cell v
 hok:HOk X.prog X.w H s.heap
 len:σ.length=X.N.length
section
variable {X:Cx}{pins:List (Addr×Obj)}{σ:List (Option V)}{H H':Hp}{s:Shared}{h':Heap}
theorem Cx.Ok.nofr(ok:X.Ok){b:Addr}{o:Obj}(e:X.base.get? b=some o):b∉X.fs:=λhb=>by
 have:=(ok.funs.mem hb).1
 rw[e]at this;cases this
theorem Inv.bs(I:Inv X pins σ H s):∀b o,X.base.get? b=some o->s.heap.get? b=some o/\H b=none:=λb o e =>
 ⟨I.base.keep b o (I.ok.bs b o e).1 (I.ok.bs b o e).2 (I.ok.nofr e) (I.ok.noex b o e),I.base.free b o (I.ok.bs b o e).1 (I.ok.bs b o e).2 (I.ok.noex b o e)⟩
theorem Inv.bk(I:Inv X pins σ H s):∀b o,X.base.get? b=some o->s.heap.get? b=some o:=λb o e=>(I.bs b o e).1
theorem Inv.mod(I:Inv X pins σ H s):Mod X.K X.mg X.base:=I.ok.mod
theorem Inv.kIn(I:Inv X pins σ H s):X.K.In s.heap:=I.ok.mod.kin.keeps I.bk
theorem Inv.lt(I:Inv X pins σ H s):X.env.locals<s.heap.objs.size:=let ⟨_,hn,_⟩:=I.loc;hn.lt
theorem Inv.sz(I:Inv X pins σ H s):X.s₀.heap.objs.size<=s.heap.objs.size:=Nat.le_trans I.ok.above (Nat.le_of_lt I.lt)
theorem Inv.nofs(I:Inv X pins σ H s){a:Addr}(h:s.heap.objs.size<=a):a∉X.fs:=λhb=>by
 obtain⟨_,o,ho,_⟩:=I.ok.funs.mem hb
 exact absurd (Nat.lt_of_lt_of_le (Heap.lt_size ho) (Nat.le_trans I.sz h)) (Nat.lt_irrefl _)
theorem Inv.cne(I:Inv X pins σ H s):∀x c,X.env.cells.lookup x=some c->c≠X.env.locals:=λx c e z=>by
 obtain⟨v,o,ho,hd⟩:=I.cell x c e
 obtain⟨m,⟨o',es,ep,ho',hd',_⟩,_⟩:=I.loc
 rw[z,ho']at ho;cases ho;rw[hd']at hd;cases hd
theorem Inv.funs(I:Inv X pins σ H s):s.heap.FunFrames X.base X.outer:=by
 have all:∀(l:List Env),(∀b∈frs l,b∈X.fs)->X.s₀.heap.FunFrames X.base l->s.heap.FunFrames X.base l:=by
  intro l
  induction l with
  | nil=>intro _ _;trivial
  | cons env r ih =>
   intro hs hl
   obtain⟨hk,⟨L,o,hf,hn,ho,hd⟩,hr⟩:=hl
   have hL:L∈X.fs:=hs L (by unfold frs;rw[List.filterMap_cons,hf];exact List.mem_cons_self)
   obtain⟨sl,e⟩:=I.base.slot L o ho (I.ok.frf L hL) hL λz=>I.ok.exfs L z hL
   exact⟨hk,⟨L,_,hf,hn,e,hd⟩,ih (λb hb=>hs b (by unfold frs;rw[List.filterMap_cons,hf];exact zzg _ hb)) hr⟩
 exact all X.outer (λ_ hb=>hb) I.ok.funs
theorem Inv.stack(I:Inv X pins σ H s):s.heap.FunFrames X.base X.stack:=by
 rcases I.ok.stk with e|⟨e,hf⟩
 ·rw[e];exact I.funs
 ·rw[e]
  obtain⟨m,hn,_⟩:=I.loc
  refine .cons (by rw[I.ok.kind];decide) hf hn ?_ I.funs
  exact Heap.get?_none_of_le (Nat.le_trans I.ok.bsz I.ok.above)
theorem Inv.stkSub(I:Inv X pins σ H s):∀b∈frs X.stack,b∈X.env.locals::X.fs:=λb hb=>by
 rcases I.ok.stk with e|⟨e,hf⟩
 ·rw[e]at hb;exact zzg _ hb
 ·rw[e]at hb
  unfold frs at hb
  rw[List.filterMap_cons,hf]at hb
  exact hb
theorem Inv.stkFree(I:Inv X pins σ H s):∀b∈frs X.stack,H b=none:=λb hb=>by
 rcases List.mem_cons.mp (I.stkSub b hb)with e|hb
 ·rw[e];exact I.free
 ·obtain⟨_,o,ho,_⟩:=I.ok.funs.mem hb
  exact I.base.free b o ho (I.ok.frf b hb) λz=>I.ok.exfs b z hb
theorem Inv.step{g':Array GenState}{t':Nat}{d':Drawn}{ch:List Addr}(I:Inv X pins σ H s)
  (hch:∀b∈ch,(b∈X.ex\/X.s₀.heap.objs.size<=b)/\b≠X.env.locals/\(∀x c,X.env.cells.lookup x=some c->c≠b)/\∀p∈X.pn++pins,p.1≠b)
  (keep:∀b o,b≠X.env.locals->b∉X.fs->b∉ch->s.heap.get? b=some o->H b=none->h'.get? b=some o)
  (slot:∀b o,b≠X.env.locals->b∈X.fs->b∉ch->s.heap.get? b=some o->H b=none->∃sl,h'.get? b=some { o with slots:=sl }) (free:∀b o,b∉ch->s.heap.get? b=some o->H b=none->H' b=none)
  (there:∀b o,b∉ch->s.heap.get? b=some o->∃o',h'.get? b=some o')
  (tups:∀b xs,H b=some (.tup xs)->H' b=some (.tup xs)) (frzs:∀b o u,H b=some (.frz o u)->H' b=some (.frz o u)) (tbls:∀b ps,H b=some (.tbl ps)->∃more,H' b=some (.tbl (ps++more)))
  (ns:∀m,s.heap.Ns X.env.locals m->h'.Ns X.env.locals m) (hok:HOk X.prog X.w H' h') (hg:AllBare g') :
  Inv X pins σ H' { s with heap:=h',gens:=g',drawn:=d',toks:=t' }:=by
 have neL:∀b o,X.s₀.heap.get? b=some o->b≠X.env.locals:=λb o e=>Nat.ne_of_lt (Nat.lt_of_lt_of_le (Heap.lt_size e) I.ok.above)
 have neC:∀b o,X.s₀.heap.get? b=some o->b∉X.ex->b∉ch:=λb o e hx hb=>by
  rcases(hch b hb).1 with z|z
  ·exact hx z
  ·exact absurd (Nat.lt_of_lt_of_le (Heap.lt_size e) z) (Nat.lt_irrefl _)
 have cellK:∀x c,X.env.cells.lookup x=some c->∀v,s.heap.IsCell c v->h'.IsCell c v:=λx c e v ⟨o,ho,hd⟩=>by
  have nch:c∉ch:=λz=>(hch c z).2.2.1 x c e rfl
  by_cases hc:c∈X.fs
  ·obtain⟨sl,q⟩:=slot c o (I.cne x c e) hc nch ho (I.freeC x c e)
   exact⟨_,q,hd⟩
  ·exact⟨o,keep c o (I.cne x c e) hc nch ho (I.freeC x c e),hd⟩
 refine⟨I.ok,I.os,hg,⟨λb o e n hb hx=>?_,λb o e n hb hx=>?_,λb o e n hx=>?_,λb o e hx=>?_,λb xs e=>tups b xs (I.base.tups b xs e),λb o xs e=>frzs b o xs (I.base.frzs b o xs e),λb ps e=>?_⟩,?_,λx c e=>?_,?_,λx c e=>?_,λp hp=>?_,hok,I.len⟩
 ·exact keep b o (neL b o e) hb (neC b o e hx) (I.base.keep b o e n hb hx) (I.base.free b o e n hx)
 ·obtain⟨sl,e1⟩:=I.base.slot b o e n hb hx
  obtain⟨sl',e2⟩:=slot b _ (neL b o e) hb (neC b o e hx) e1 (I.base.free b o e n hx)
  exact⟨sl',e2⟩
 ·obtain⟨o',e1⟩:=I.base.there b o e hx
  exact free b o' (neC b o e hx) e1 (I.base.free b o e n hx)
 ·obtain⟨o',e1⟩:=I.base.there b o e hx
  exact there b o' (neC b o e hx) e1
 ·obtain⟨m1,e1⟩:=I.base.tbls b ps e
  obtain⟨m2,e2⟩:=tbls b _ e1
  exact⟨m1++m2,by rw[e2,Array.append_assoc]⟩
 ·obtain⟨m,hn,hl⟩:=I.loc
  refine⟨m,ns m hn,λi x v e1 e2 e3=>?_⟩
  obtain⟨u,r,l⟩:=hl i x v e1 e2 e3
  refine⟨u,r,?_⟩
  rcases l with l|⟨k,c,e,z⟩
  ·exact .inl l
  ·exact .inr ⟨k,c,e,cellK x c e _ z⟩
 ·obtain⟨v,z⟩:=I.cell x c e
  exact⟨v,cellK x c e v z⟩
 ·obtain⟨m,⟨o,_,_,ho,_⟩,_⟩:=I.loc
  exact free _ o (λz=>(hch _ z).2.1 rfl) ho I.free
 ·obtain⟨v,o,ho,hd⟩:=I.cell x c e
  exact free c o (λz=>(hch c z).2.2.1 x c e rfl) ho (I.freeC x c e)
 ·obtain⟨e,n,ne,nf,d⟩:=I.pin p hp
  have nch:p.1∉ch:=λz=>(hch p.1 z).2.2.2 p hp rfl
  exact⟨keep p.1 p.2 ne nf nch e n,free p.1 p.2 nch e n,ne,nf,d⟩
theorem Inv.un{t':Nat}(I:Inv X pins σ H s)(u:Un X.fs [] H H' s.heap h')(hok:HOk X.prog X.w H' h'):Inv X pins σ H' { s with heap:=h',toks:=t' }:=by
 obtain⟨m,⟨o,es,ep,ho,r⟩,_⟩:=id I.loc
 obtain⟨sl,hL⟩:=u.any ho I.free (by simp)
 exact I.step (g':=s.gens) (d':=s.drawn) (ch:=[]) (λ_ z=>nomatch z) (λb o _ hb _ e n=>u.keep b o e n hb (by simp)) (λb o _ hb _ e n=>u.slot b o e n hb (by simp)) (λb o _ e n=>u.free b o e n (by simp)) (λb o _ e=>u.there b o e (by simp)) u.tups u.frzs u.tbls (λm' hm=>by
  obtain⟨o',es',ep',ho',r'⟩:=hm
  rw[ho]at ho';cases ho'
  exact⟨_,es',ep',hL,r'⟩) hok I.bare
theorem Inv.call{g':Array GenState}{t':Nat}{d':Drawn}{ch:List Addr}(I:Inv X pins σ H s)(u:Un (frs X.stack) ch H H' s.heap h')(hok:HOk X.prog X.w H' h')(hg:AllBare g')
  (hch:∀b∈ch,(b∈X.ex\/X.s₀.heap.objs.size<=b)/\b≠X.env.locals/\(∀x c,X.env.cells.lookup x=some c->c≠b)/\∀p∈X.pn++pins,p.1≠b) :
  Inv X pins σ H' { s with heap:=h',gens:=g',drawn:=d',toks:=t' }:=by
 obtain⟨m,⟨o,es,ep,ho,r⟩,_⟩:=id I.loc
 obtain⟨sl,hL⟩:=u.any ho I.free λz=>(hch _ z).2.1 rfl
 exact I.step (ch:=ch) hch (λb o hL hb hc e n=>u.keep b o e n (λz=>(List.mem_cons.mp (I.stkSub b z)).elim hL hb) hc) (λb o _ _ hc e n=>u.any e n hc) (λb o hc e n=>u.free b o e n hc) (λb o hc e=>u.there b o e hc) u.tups u.frzs u.tbls (λm' hm=>by
  obtain⟨o',es',ep',ho',r'⟩:=hm
  rw[ho]at ho';cases ho'
  exact⟨_,es',ep',hL,r'⟩) hok hg
theorem Inv.turned{t':Nat}{it:Addr}(I:Inv X pins σ H s)(k:∀b o,b≠it->s.heap.get? b=some o->h'.get? b=some o)(hn:H it=none)(hL:it≠X.env.locals)
  (h1:it∈X.ex\/X.s₀.heap.objs.size<=it) (h2:∀x c,X.env.cells.lookup x=some c->c≠it) (h3:∀p∈X.pn++pins,p.1≠it):Inv X pins σ H { s with heap:=h',toks:=t' }:=by
 have nit:∀b u,H b=some u->b≠it:=λb u e z=>by rw[z,hn]at e;cases e
 refine I.step (g':=s.gens) (d':=s.drawn) (ch:=[it]) (λb hb=>?_) (λb o _ _ hc e _=>k b o (λz=>hc (by simp[z])) e) (λb o _ _ hc e _=>⟨o.slots,k b o (λz=>hc (by simp[z])) e⟩) (λ_ _ _ _ n=>n)
  (λb o hc e=>⟨o,k b o (λz=>hc (by simp[z])) e⟩) (λ_ _ e=>e) (λ_ _ _ e=>e) (λb ps e=>⟨#[],by rw[e];simp⟩) (λm hm=>?_) (λb u e=>?_) I.bare
 ·have e:b=it:=by simpa using hb
  subst e
  exact⟨h1,hL,h2,h3⟩
 ·obtain⟨o,es,ep,ho,r⟩:=hm
  exact⟨o,es,ep,k _ o (Ne.symm hL) ho,r⟩
 ·refine(I.hok b u e).stay (λc v hc q=>k c v ?_ q) (λ_ q=>q) λ_ _ q=>q
  rcases hc with z|z
  ·rw[z];exact nit b u e
  ·exact nit c _ z
theorem Inv.tok(I:Inv X pins σ H s)(t:Nat):Inv X pins σ H { s with toks:=t }:=I.un (h':=s.heap) (t':=t) Un.refl I.hok
theorem Inv.kept{t':Nat}(I:Inv X pins σ H s)(k:∀b u,s.heap.get? b=some u->h'.get? b=some u):Inv X pins σ H { s with heap:=h',toks:=t' }:=I.un (Un.kept k) (I.hok.kept k)
theorem Inv.laid{a:Addr}{o:HO}{t':Nat}(I:Inv X pins σ H s)(k:∀b u,s.heap.get? b=some u->h'.get? b=some u)(hp:s.heap.objs.size<=a)(new:ObjOk X.prog X.w (upd H a o) h' a o) :
  Inv X pins σ (upd H a o) { s with heap:=h',toks:=t' }:=I.un (Un.laid k hp (I.hok.fresh hp)) (I.hok.laid k hp new)
theorem Inv.write{x e:Addr}{o:HO}{t':Nat}(I:Inv X pins σ H s)(mu:Mut (H x))(he:e=x\/H e=some (.own x))(k:∀b u,b≠e->s.heap.get? b=some u->h'.get? b=some u)(heo:∃u,h'.get? e=some u)
  (new:ObjOk X.prog X.w (upd H x o) h' x o):Inv X pins σ (upd H x o) { s with heap:=h',toks:=t' }:=I.un (Un.write mu he k heo) (I.hok.write mu he k heo new)
theorem Inv.pins_of{pins':List (Addr×Obj)}(I:Inv X pins σ H s)(h:∀p∈pins',s.heap.get? p.1=some p.2/\H p.1=none/\p.1≠X.env.locals/\p.1∉X.fs/\∀v,p.2.data≠.cell v):Inv X pins' σ H s :=
 ⟨I.ok,I.os,I.bare,I.base,I.loc,I.cell,I.free,I.freeC,λp hp=>(List.mem_append.mp hp).elim (λz=>I.pin p (List.mem_append_left _ z)) (h p),I.hok,I.len⟩
theorem Q3_{N:List Str}(hN:N.Nodup){i j:Nat}{x:Str}(a:N[i]? = some x)(b:N[j]? = some x):i=j:=by
 obtain⟨h1,e1⟩:=List.getElem?_eq_some_iff.mp a
 obtain⟨h2,e2⟩:=List.getElem?_eq_some_iff.mp b
 exact(List.getElem_inj hN).mp (e1.trans e2.symm)
theorem UQ_{M:Model}{A:Around}{E:Value->Shared->Prop}{i:Nat}{x:Str}{v:V}{u:Value}{Q:Unit->Shared->Prop}(I:Inv X pins σ H s)(hN:X.N.Nodup)(hi:X.N[i]? = some x)(hx:Loc X.env.scope x)(r:RelV v u)
  (h:∀s',Inv X pins (σ.set i (some v)) H s'->(∃a,Heap.SameBut a s.heap s'.heap/\(a=X.env.locals\/X.env.cells.lookup x=some a))->Q () s') (hf:X.fn x=true\/X.env.scope.names.lookup x=some .local:=by first|exact .inl rfl|exact .inr rfl|assumption):wpAny M A (storeName X.env x u) Q E s:=by
 obtain⟨m,hn,hl⟩:=id I.loc
 have hcls:(X.env.scope.kind==.class||(X.env.scope.kind==.module&&X.env.locals != X.env.globals))=false:=by rw[I.ok.kind];rfl
 have hiσ:i<σ.length:=by rw[I.len];exact(List.getElem?_eq_some_iff.mp hi).1
 have cne:=I.cne
 have tracked:∀{a:Addr} {h':Heap},(∃o,s.heap.get? a=some o/\H a=none)->Heap.SameBut a s.heap h'->HOk X.prog X.w H h':=λ{a h'} ha hs b ob e=>by
  obtain⟨_,_,hfree⟩:=ha
  refine(I.hok b ob e).stay (λc w' hc q=>(hs.2 c ?_).trans q) (λ_ q=>q) λ_ _ q=>q
  rintro rfl
  rcases hc with rfl|hc
  ·rw[hfree]at e;cases e
  ·rw[hfree]at hc;cases hc
 rcases hx with hk|hk
 ·refine wpAny_storeName_local hk hn (λh' hn' hs=>?_) hcls
  obtain⟨oL,_,_,hoL,_⟩:=id hn
  refine h _ ⟨I.ok,I.os,I.bare,⟨λb o e n hb hx=>?_,λb o e n hb hx=>?_,I.base.free,λb o e hx=>?_,I.base.tups,I.base.frzs,I.base.tbls⟩,⟨_,hn',λj y v' e1 e2 e3=>?_⟩,λy c e=>?_,I.free,I.freeC,λp hp=>?_,tracked ⟨oL,hoL,I.free⟩ hs,by simpa using I.len⟩ ⟨_,hs,.inl rfl⟩
  ·exact(hs.2 b (Nat.ne_of_lt (Nat.lt_of_lt_of_le (Heap.lt_size e) I.ok.above))).trans (I.base.keep b o e n hb hx)
  ·obtain⟨sl,e1⟩:=I.base.slot b o e n hb hx
   exact⟨sl,(hs.2 b (Nat.ne_of_lt (Nat.lt_of_lt_of_le (Heap.lt_size e) I.ok.above))).trans e1⟩
  ·obtain⟨o',e1⟩:=I.base.there b o e hx
   exact⟨o',(hs.2 b (Nat.ne_of_lt (Nat.lt_of_lt_of_le (Heap.lt_size e) I.ok.above))).trans e1⟩
  ·by_cases hj:j=i
   ·subst hj
    rw[hi]at e1;cases e1
    rw[List.getElem?_set_self hiσ]at e2
    cases e2
    exact⟨u,r,.inl ⟨hk,by simp⟩⟩
   ·rw[List.getElem?_set_ne (Ne.symm hj)]at e2
    obtain⟨u',r',q⟩:=hl j y v' e1 e2 e3
    refine⟨u',r',?_⟩
    rcases q with ⟨k,e⟩|⟨k,c,e,z⟩
    ·refine .inl ⟨k,?_⟩
     have:y≠x:=λe=>hj (Q3_ hN e1 (e▸hi))
     simp[this,e]
    ·exact .inr ⟨k,c,e,z.sameBut hs (cne y c e)⟩
  ·obtain⟨w',z⟩:=I.cell y c e
   exact⟨w',z.sameBut hs (cne y c e)⟩
  ·obtain⟨e,n,ne,nf,d⟩:=I.pin p hp
   exact⟨(hs.2 p.1 ne).trans e,n,ne,nf,d⟩
 ·have hfn:X.fn x=true:=by
   rcases hf with z|z
   ·exact z
   ·rw[z]at hk;cases hk
  obtain⟨c,hc⟩:=I.ok.has x (.inl hk)
  obtain⟨w',z⟩:=I.cell x c hc
  refine wpAny_storeName_cell I.ok.kind hk hc z (λh' hc' hs=>?_)
  obtain⟨oc,hoc,hocd⟩:=id z
  refine h { s with heap:=h' } ⟨I.ok,I.os,I.bare,⟨λb o e n hb hx=>?_,λb o e n hb hx=>?_,I.base.free,λb o e hx=>?_,I.base.tups,I.base.frzs,I.base.tbls⟩,⟨m,hn.sameBut hs (Ne.symm (cne x c hc)),λj y v' e1 e2 e3=>?_⟩,λy c' e=>?_,I.free,I.freeC,λp hp=>?_,tracked ⟨oc,hoc,I.freeC x c hc⟩ hs,by simpa using I.len⟩ ⟨c,hs,.inr hc⟩
  ·exact(hs.2 b (Nat.ne_of_lt (Nat.lt_of_lt_of_le (Heap.lt_size e) (I.ok.cab x c hfn hc)))).trans (I.base.keep b o e n hb hx)
  ·obtain⟨sl,e1⟩:=I.base.slot b o e n hb hx
   exact⟨sl,(hs.2 b (Nat.ne_of_lt (Nat.lt_of_lt_of_le (Heap.lt_size e) (I.ok.cab x c hfn hc)))).trans e1⟩
  ·obtain⟨o',e1⟩:=I.base.there b o e hx
   exact⟨o',(hs.2 b (Nat.ne_of_lt (Nat.lt_of_lt_of_le (Heap.lt_size e) (I.ok.cab x c hfn hc)))).trans e1⟩
  ·by_cases hj:j=i
   ·subst hj
    rw[hi]at e1;cases e1
    rw[List.getElem?_set_self hiσ]at e2
    cases e2
    exact⟨u,r,.inr ⟨.inl hk,c,hc,hc'⟩⟩
   ·rw[List.getElem?_set_ne (Ne.symm hj)]at e2
    obtain⟨u',r',q⟩:=hl j y v' e1 e2 e3
    refine⟨u',r',?_⟩
    rcases q with q|⟨k,c',e,z'⟩
    ·exact .inl q
    ·refine .inr ⟨k,c',e,z'.sameBut hs ?_⟩
     rintro rfl
     exact hj (Q3_ hN e1 (I.ok.inj _ _ _ e hc▸hi))
  ·by_cases hcc:c'=c
   ·subst hcc;exact⟨_,hc'⟩
   ·obtain⟨w2,z2⟩:=I.cell y c' e
    exact⟨w2,z2.sameBut hs hcc⟩
  ·obtain⟨e,n,ne,nf,d⟩:=I.pin p hp
   refine⟨(hs.2 p.1 ?_).trans e,n,ne,nf,d⟩
   intro q
   rw[q,hoc]at e
   have q':oc=p.2:=Option.some.inj e
   exact d w' (by rw[<-q'];exact hocd)
theorem yd_{M:Model}{A:Around}{E:Value->Shared->Prop}{i:Nat}{x:Str}{v:V}{u:Value}{Q:Unit->Shared->Prop}(I:Inv X pins σ H s)(hN:X.N.Nodup)(hi:X.N[i]? = some x)(hx:Loc X.env.scope x)(r:RelV v u)
  (h:∀s',Inv X pins (σ.set i (some v)) H s'->Q () s') (hf:X.fn x=true\/X.env.scope.names.lookup x=some .local:=by first|exact .inl rfl|exact .inr rfl|assumption):wpAny M A (storeName X.env x u) Q E s :=
 UQ_ I hN hi hx r (λs' I' _=>h s' I') hf
theorem Inv.call'{s':Shared}{ch:List Addr}(I:Inv X pins σ H s)(ho:s'.os=s.os)(u:Un (frs X.stack) ch H H' s.heap s'.heap)(hok:HOk X.prog X.w H' s'.heap)(hg:AllBare s'.gens)
  (hch:∀b∈ch,(b∈X.ex\/X.s₀.heap.objs.size<=b)/\b≠X.env.locals/\(∀x c,X.env.cells.lookup x=some c->c≠b)/\∀p∈X.pn++pins,p.1≠b):Inv X pins σ H' s':=by
 obtain⟨h',g',d',t',o'⟩:=s'
 have e:o'=s.os:=ho
 subst e
 exact I.call (g':=g') (t':=t') (d':=d') u hok hg hch
end
noncomputable abbrev XK:=Value->Option Addr->Hp->Prop
noncomputable abbrev St:=List (Option V)
noncomputable abbrev VK:=V->Hp->Prop
noncomputable abbrev TE:=St->Hp->VK->Prop
noncomputable abbrev TT:=St->Hp->(Bool->Hp->Prop)->Prop
noncomputable abbrev TA:=St->Hp->(List V->Hp->Prop)->Prop
structure Ends where
 nx:St->Hp->Prop
 rt:VK
 bk:St->Hp->Prop:=λ_ _=>False
 ct:St->Hp->Prop:=λ_ _=>False
noncomputable abbrev TS:=Ends->St->Hp->Prop
def EP(X:Cx)(pins:List (Addr×Obj))(σ:St)(Q:VK)(u:Value)(s':Shared):Prop:=∃v H',Inv X pins σ H' s'/\RelV v u/\Q v H'
def TP(X:Cx)(pins:List (Addr×Obj))(σ:St)(Q:Bool->Hp->Prop)(b:Bool)(s':Shared):Prop:=∃H',Inv X pins σ H' s'/\Q b H'
def AP(X:Cx)(pins:List (Addr×Obj))(σ:St)(Q:List V->Hp->Prop)(us:List Value)(s':Shared):Prop:=∃vs H',Inv X pins σ H' s'/\Vals vs us/\Q vs H'
def SP(X:Cx)(pins:List (Addr×Obj))(D:Ends)(f:Flow)(s':Shared):Prop :=
 match f with
 | .next=>∃σ' H',Inv X pins σ' H' s'/\D.nx σ' H'
 | .brk=>∃σ' H',Inv X pins σ' H' s'/\D.bk σ' H'
 | .cont=>∃σ' H',Inv X pins σ' H' s'/\D.ct σ' H'
 | .ret u=>∃v σ' H',Inv X pins σ' H' s'/\RelV v u/\D.rt v H'
def PE(X:Cx)(e:Expr)(t:TE):Prop :=
 ∀(pins:List (Addr×Obj)) (s:Shared) (σ:St) (H:Hp) (Q:VK),Inv X pins σ H s->t σ H Q->wpAny (model X.prog X.w) X.A (eval e X.env) (EP X pins σ Q) X.xe s
def PT(X:Cx)(e:Expr)(t:TT):Prop :=
 ∀(pins:List (Addr×Obj)) (s:Shared) (σ:St) (H:Hp) (Q:Bool->Hp->Prop),Inv X pins σ H s->t σ H Q->wpAny (model X.prog X.w) X.A (isTrue e X.env (eval e X.env)) (TP X pins σ Q) X.xe s
def PW(X:Cx)(e:Expr)(t:TT):Prop :=
 ∀(whole:Sem Value) (pins:List (Addr×Obj)) (s:Shared) (σ:St) (H:Hp) (Q:Bool->Hp->Prop),Inv X pins σ H s->t σ H Q->wpAny (model X.prog X.w) X.A (isTrue e X.env whole) (TP X pins σ Q) X.xe s
def PA(X:Cx)(es:List Expr)(t:TA):Prop :=
 ∀(pos:Pos) (pins:List (Addr×Obj)) (s:Shared) (σ:St) (H:Hp) (Q:List V->Hp->Prop),Inv X pins σ H s->t σ H Q->wpAny (model X.prog X.w) X.A (spliced (backTo pos (starEach es X.env))) (AP X pins σ Q) X.xe s
def PS(X:Cx)(st:Stmt)(t:TS):Prop :=
 ∀(pins:List (Addr×Obj)) (s:Shared) (σ:St) (H:Hp) (D:Ends),Inv X pins σ H s->t D σ H->wpAny (model X.prog X.w) X.A (exec st X.env) (SP X pins D) X.xe s
def PSs(X:Cx)(st:List Stmt)(t:TS):Prop :=
 ∀(pins:List (Addr×Obj)) (s:Shared) (σ:St) (H:Hp) (D:Ends),Inv X pins σ H s->t D σ H->wpAny (model X.prog X.w) X.A (execs st X.env) (SP X pins D) X.xe s
theorem thn{α:Type}{t:Sem α}{Q Q':α->Shared->Prop}{M:Model}{A:Around}{E:Value->Shared->Prop}{s:Shared}(h:wpAny M A t Q E s)(hQ:∀a s,Q a s->Q' a s):wpAny M A t Q' E s:=wpAny_mono h hQ λ_ _ x=>x
section
variable {X:Cx}
noncomputable def tVar(i:Nat):TE:=λσ H Q=>∃v,σ[i]? = some (some v)/\Q v H
noncomputable def tC(v:V):TE:=λ_ H Q=>Q v H
theorem uK_{i:Nat}{x:Str}{pos:Pos}(hN:X.N[i]? = some x)(hv:Vis X.env.scope x)(hd:(x==("__debug__" : Str))=false:=by decide)(hcd:(x==("__classdict__" : Str))=false:=by decide):PE X (.Name x pos) (tVar i):=by
 intro pins s σ H Q I h
 obtain⟨v,e,h⟩:=h
 obtain⟨m,hn,hl⟩:=I.loc
 obtain⟨u,r,l⟩:=hl i x v hN e hv
 have fin:EP X pins σ Q u s:=⟨v,H,I,r,h⟩
 rcases l with ⟨hk,hm⟩|⟨hk,c,hc,hcell⟩
 ·exact wpAny_Name (wpAny_loadName_local I.ok.kind hk hn hm fin) hd
 ·rcases hk with hk|hk
  ·exact wpAny_Name (wpAny_loadName_cell I.ok.kind hk hc hcell fin) hd
  ·exact wpAny_Name (wpAny_loadName_free I.ok.kind hk hc hcell fin hcd) hd
theorem zgD_{i j pos}:PE X (.Constant (.int i) j pos) (tC (.int i)):=λ_ _ _ H _ I h=>wpAny_Constant_int ⟨.int i,H,I.tok _,⟨_,rfl⟩,h⟩
theorem ziA_{b j pos}:PE X (.Constant (.bool b) j pos) (tC (.bl b)):=λ_ _ _ H _ I h=>Constant_bool ⟨.bl b,H,I,rfl,h⟩
theorem zgB_{j pos}:PE X (.Constant .none j pos) (tC .non):=λ_ _ _ H _ I h=>Constant_none ⟨.non,H,I,rfl,h⟩
theorem zgy_{x j pos}:PE X (.Constant (.str x) j pos) (tC (.str x)):=λ_ _ _ H _ I h=>Calls.Constant_str ⟨.str x,H,I.tok _,⟨_,rfl⟩,h⟩
def Gl(X:Cx)(x:Str):Prop:=X.env.kindOf x=some .globalImplicit
theorem Qo_{E:Value->Shared->Prop}{pins:List (Addr×Obj)}{s:Shared}{σ:St}{H:Hp}{x:Str}{u:Value}{pos:Pos}{Q:Value->Shared->Prop}(I:Inv X pins σ H s)(hg:Gl X x)(hm:X.mg x=some u)(h:Q u s)
  (hd:(x==("__debug__" : Str))=false:=by decide):wpAny (model X.prog X.w) X.A (eval (.Name x pos) X.env) Q E s :=
 Calls.Name_function_global I.ok.kind hg (Calls.loadGlobal_global (by rw[I.ok.glob];exact I.mod.glob.keeps I.bk) hm h) hd
theorem uN_{E:Value->Shared->Prop}{pins:List (Addr×Obj)}{s:Shared}{σ:St}{H:Hp}{x:Str}{u:Value}{pos:Pos}{Q:Value->Shared->Prop}(I:Inv X pins σ H s)(hg:Gl X x)(hm:X.mg x=none)(hv:bootBuiltins x=some u)(h:Q u s)
  (hn:x ≠ "__name__":=by decide) (hd:(x==("__debug__" : Str))=false:=by decide):wpAny (model X.prog X.w) X.A (eval (.Name x pos) X.env) Q E s:=by
 obtain⟨mb,h1,h2⟩:=I.mod.blt
 exact Calls.Name_function_global I.ok.kind hg (Calls.loadGlobal_builtin (by rw[I.ok.glob];exact I.mod.glob.keeps I.bk) hm (by rw[I.ok.blt];exact h1.keeps I.bk) ((h2 x hn).trans hv) h) hd
theorem zeq_{x:Str}{v:V}{u:Value}{pos:Pos}(hg:Gl X x)(hm:X.mg x=none)(hv:bootBuiltins x=some u)(r:RelV v u)(hn:x ≠ "__name__":=by decide)(hd:(x==("__debug__" : Str))=false:=by decide):PE X (.Name x pos) (tC v) :=
 λ_ _ _ H _ I h=>uN_ I hg hm hv ⟨v,H,I,r,h⟩ hn hd
variable {a b:Expr}{ta tb:TE}{pos:Pos}
variable {tA tB':TT}{rest:List Expr}
noncomputable def tAnd(t u:TT):TT:=λσ H Q=>t σ H λc H1=>if c=true then u σ H1 Q else Q false H1
noncomputable def tOr(t u:TT):TT:=λσ H Q=>t σ H λc H1=>if c=true then Q true H1 else u σ H1 Q
noncomputable def tNot(t:TT):TT:=λσ H Q=>t σ H λc H1=>Q (!c) H1
theorem WS_(ha:PT X a tA):PW X (.BoolOp .And [a] pos) tA:=by
 intro wh pins s σ H Q I h
 refine isTrue_and (thn (ha pins s σ H Q I h) λc s1 e=>?_)
 cases c with
 | true=>exact isTrue_and_nil e
 | false=>exact e
theorem zgp_(ha:PT X a tA):PW X (.BoolOp .Or [a] pos) tA:=by
 intro wh pins s σ H Q I h
 refine isTrue_or (thn (ha pins s σ H Q I h) λc s1 e=>?_)
 cases c with
 | false=>exact isTrue_or_nil e
 | true=>exact e
theorem zcL_(ha:PT X a tA)(hb:PW X (.BoolOp .And (b::rest) pos) tB'):PW X (.BoolOp .And (a::b::rest) pos) (tAnd tA tB'):=by
 intro wh pins s σ H Q I h
 refine isTrue_and (thn (ha pins s σ H _ I h) λc s1 ⟨H1,I1,q1⟩=>?_)
 cases c with
 | true=>exact hb wh pins s1 σ H1 Q I1 q1
 | false=>exact⟨H1,I1,q1⟩
theorem ziv_(ha:PT X a tA)(hb:PW X (.BoolOp .Or (b::rest) pos) tB'):PW X (.BoolOp .Or (a::b::rest) pos) (tOr tA tB'):=by
 intro wh pins s σ H Q I h
 refine isTrue_or (thn (ha pins s σ H _ I h) λc s1 ⟨H1,I1,q1⟩=>?_)
 cases c with
 | true=>exact⟨H1,I1,q1⟩
 | false=>exact hb wh pins s1 σ H1 Q I1 q1
theorem zgq_(ha:PT X a tA):PT X (.UnaryOp .Not a pos) (tNot tA):=by
 intro pins s σ H Q I h
 exact isTrue_not (ha pins s σ H (λc H1=>Q (!c) H1) I h)
noncomputable def zif_(ta tb:TE):TE:=λσ H Q=>ta σ H λx H1=>∃c,x=.bl c/\if c=true then tb σ H1 Q else Q (.bl false) H1
noncomputable def zia_(ta:TE):TE:=λσ H Q=>ta σ H λx H1=>∃c,x=.bl c/\Q (.bl (!c)) H1
theorem zgz_{op}{t:TE}(h:PE X a t):PE X (.BoolOp op [a] pos) t:=λpins s σ H Q I hw=>BoolOp_one (h pins s σ H Q I hw)
theorem zgE_(ha:PE X a ta)(hb:PE X (.BoolOp .And (b::rest) pos) tb):PE X (.BoolOp .And (a::b::rest) pos) (zif_ ta tb):=by
 intro pins s σ H Q I h
 refine BoolOp_and (thn (ha pins s σ H _ I h) λv s1 ⟨x,H1,I1,r1,q1⟩=>?_)
 obtain⟨c,rfl,q1⟩:=q1
 cases r1
 refine wpAny_truthy_bool ?_
 cases c with
 | true=>exact hb pins s1 σ H1 Q I1 q1
 | false=>exact⟨.bl false,H1,I1,rfl,q1⟩
theorem zgA_(ha:PE X a ta):PE X (.UnaryOp .Not a pos) (zia_ ta):=by
 intro pins s σ H Q I h
 refine UnaryOp_ (thn (ha pins s σ H _ I h) λv s1 ⟨x,H1,I1,r1,q1⟩=>?_)
 obtain⟨c,rfl,q1⟩:=q1
 cases r1
 exact not_of (wpAny_truthy_bool ⟨.bl (!c),H1,I1,rfl,q1⟩)
noncomputable def tIf(t:TT)(ta tb:TE):TE:=λσ H Q=>t σ H λc H1=>if c=true then ta σ H1 Q else tb σ H1 Q
theorem zbg_{c:Expr}(hc:PT X c tA)(ha:PE X a ta)(hb:PE X b tb):PE X (.IfExp c a b pos) (tIf tA ta tb):=by
 intro pins s σ H Q I h
 refine wpAny_IfExp (thn (hc pins s σ H _ I h) λd s1 ⟨H1,I1,q1⟩=>?_)
 cases d with
 | true=>exact ha pins s1 σ H1 Q I1 q1
 | false=>exact hb pins s1 σ H1 Q I1 q1
end
def SqL(K:PySem.W.Frag)(H:Hp)(a:Addr)(xs:List V):Prop :=
 Rd H a (.lst xs) \/
  ∃(o:Obj) (its:Array Value) (n:Nat),K.lookup a=some o/\o.cls=.type "list" /\ o.dict=none/\o.data=.seq its n/\its.size<=sizeLine/\Vals xs its.toList
def SqT(K:PySem.W.Frag)(H:Hp)(a:Addr)(xs:List V):Prop :=
 Rd H a (.tup xs) \/
  ∃(o:Obj) (its:Array Value) (n:Nat),K.lookup a=some o/\o.cls=.type "tuple" /\ o.data=.seq its n/\its.size<=sizeLine/\Vals xs its.toList
noncomputable def absV:Value->Option V
 | .none=>some .non
 | .bool b=>some (.bl b)
 | .int i _=>some (.int i)
 | .str x _=>some (.str x)
 | .bytes b _=>some (.byt b)
 | .float b _=>some (.flt b)
 | .ref a=>some (.ref a)
 | .type n=>some (.ty n)
 | _=>none
theorem RelV.abs{x:V}{u:Value}(r:RelV x u):absV u=some x:=by
 cases x with
 | non=>cases r;rfl
 | bl _=>cases r;rfl
 | int _=>obtain⟨t,rfl⟩:=r;rfl
 | str _=>obtain⟨t,rfl⟩:=r;rfl
 | byt _=>obtain⟨t,rfl⟩:=r;rfl
 | flt _=>obtain⟨t,rfl⟩:=r;rfl
 | ref _=>cases r;rfl
 | ty _=>cases r;rfl
theorem RelV.inj{x y:V}{u:Value}(r:RelV x u)(q:RelV y u):x=y:=Option.some.inj (r.abs.symm.trans q.abs)
theorem Vals.inj:∀{xs ys:List V} {us:List Value},Vals xs us->Vals ys us->xs=ys:=by
 intro xs ys us h
 induction h generalizing ys with
 | nil=>intro h2;cases h2;rfl
 | cons r _ ih =>
  intro h2
  cases h2 with
  | cons r' t'=>rw[r.inj r',ih t']
section
variable {X:Cx}{pins:List (Addr×Obj)}{σ:St}{H:Hp}{s:Shared}{a:Addr}{xs ys:List V}
theorem SqL.of{K:PySem.W.Frag}(h:H a=some (.lst xs)):SqL K H a xs:=.inl (.inl h)
theorem SqT.of{K:PySem.W.Frag}(h:H a=some (.tup xs)):SqT K H a xs:=.inl (.inl h)
theorem Inv.list(I:Inv X pins σ H s)(h:SqL X.K H a xs):∃its:List Value,Vals xs its/\PlainL s.heap a its.toArray/\xs.length<=sizeLine:=by
 rcases h with h|⟨o,its,n,hk,hc,hd,hs,hz,r⟩
 ·obtain⟨z,its,n,r,e⟩:=h.ok I.hok
  exact⟨its,r,⟨_,n,e,rfl,rfl,rfl⟩,z⟩
 ·refine⟨its.toList,r,⟨o,n,I.kIn a o hk,hc,hd,by simpa using hs⟩,?_⟩
  have e:=r.length
  simp only[Array.length_toList]at e
  lia
theorem Inv.tuple(I:Inv X pins σ H s)(h:SqT X.K H a xs):∃its:List Value,Vals xs its/\IsTup s.heap a its.toArray/\xs.length<=sizeLine:=by
 rcases h with h|⟨o,its,n,hk,hc,hs,hz,r⟩
 ·obtain⟨z,its,r,p⟩:=h.ok I.hok
  exact⟨its,r,p.1,z⟩
 ·refine⟨its.toList,r,⟨o,I.kIn a o hk,hc,n,by simpa using hs⟩,?_⟩
  have e:=r.length
  simp only[Array.length_toList]at e
  lia
theorem Inv.list_inj(I:Inv X pins σ H s)(h:SqL X.K H a xs)(h':SqL X.K H a ys):xs=ys:=by
 obtain⟨its,r,⟨o,n,e,_,_,d⟩,_⟩:=I.list h
 obtain⟨its',r',⟨o',n',e',_,_,d'⟩,_⟩:=I.list h'
 rw[e]at e';cases e'
 rw[d]at d'
 injection d' with d1 _
 have:its=its':=by simpa using congrArg Array.toList d1
 subst this
 exact r.inj r'
theorem Inv.tuple_inj(I:Inv X pins σ H s)(h:SqT X.K H a xs)(h':SqT X.K H a ys):xs=ys:=by
 obtain⟨its,r,⟨o,e,_,n,d⟩,_⟩:=I.tuple h
 obtain⟨its',r',⟨o',e',_,n',d'⟩,_⟩:=I.tuple h'
 rw[e]at e';cases e'
 rw[d]at d'
 injection d' with d1 _
 have:its=its':=by simpa using congrArg Array.toList d1
 subst this
 exact r.inj r'
end
section
variable {X:Cx}{st:Stmt}{rest:List Stmt}{t u:TS}{e:Expr}{te:TE}{pos:Pos}
noncomputable def zfJ_:TS:=λD σ H=>D.nx σ H
noncomputable def tSeq(t u:TS):TS:=λD σ H=>t { D with nx:=u D } σ H
theorem Y7_:PSs X [] zfJ_:=λ_ _ σ H _ I h=>wpAny_execs_nil ⟨σ,H,I,h⟩
theorem Ue_(h1:PS X st t)(h2:PSs X rest u):PSs X (st::rest) (tSeq t u):=by
 intro pins s σ H D I h
 refine wpAny_execs_cons (thn (h1 pins s σ H { D with nx:=u D } I h) λf s1 q=>?_)
 cases f with
 | next =>
  obtain⟨σ',H',I',q⟩:=q
  exact h2 pins s1 σ' H' D I' q
 | ret v=>exact q
 | brk=>exact q
 | cont=>exact q
theorem zed_(h1:PS X st t):PSs X [st] t:=by
 intro pins s σ H D I h
 refine wpAny_execs_cons (thn (h1 pins s σ H D I h) λf s1 q=>?_)
 cases f with
 | next=>exact wpAny_execs_nil q
 | ret v=>exact q
 | brk=>exact q
 | cont=>exact q
theorem zee_:PS X (.Pass pos) zfJ_:=λ_ _ σ H _ I h=>wpAny_Pass ⟨σ,H,I,h⟩
theorem Inv.quiet{pins:List (Addr×Obj)}{σ:St}{H:Hp}{s:Shared}(I:Inv X pins σ H s):interactive X.env=false:=by simp[interactive,I.ok.kind]
noncomputable def zib_(te:TE):TS:=λD σ H=>te σ H λ_ H1=>D.nx σ H1
theorem zef_(he:PE X e te)(hs:swapsWith e none pos.line X.env=pure false:=by rfl):PS X (.Expr e pos) (zib_ te):=by
 intro pins s σ H D I h
 exact wpAny_Expr_any (thn (he pins s σ H _ I h) λv s1 ⟨x,H1,I1,r1,q1⟩=>⟨σ,H1,I1,q1⟩) I.quiet hs
noncomputable def tRet(te:TE):TS:=λD σ H=>te σ H D.rt
theorem zcN_(he:PE X e te):PS X (.Return (some e) pos) (tRet te):=by
 intro pins s σ H D I h
 exact wpAny_Return_some (thn (he pins s σ H _ I h) λv s1 ⟨x,H1,I1,r1,q1⟩=>⟨x,σ,H1,I1,r1,q1⟩)
noncomputable def tIfS(c:TT)(t u:TS):TS:=λD σ H=>c σ H λb H1=>if b=true then t D σ H1 else u D σ H1
theorem zix_{c:Expr}{a b:List Stmt}{tc:TT}(hc:PT X c tc)(ha:PSs X a t)(hb:PSs X b u):PS X (.If c a b pos) (tIfS tc t u):=by
 intro pins s σ H D I h
 refine wpAny_If (thn (hc pins s σ H _ I h) λd s1 ⟨H1,I1,q1⟩=>?_)
 cases d with
 | true=>exact ha pins s1 σ H1 D I1 q1
 | false=>exact hb pins s1 σ H1 D I1 q1
end
noncomputable abbrev TG:=V->St->Hp->(St->Hp->Prop)->Prop
noncomputable abbrev TGs:=List V->St->Hp->(St->Hp->Prop)->Prop
def PG(X:Cx)(target:Expr)(t:TG):Prop :=
 ∀(pins:List (Addr×Obj)) (s:Shared) (σ:St) (H:Hp) (v:V) (u:Value) (Q:St->Hp->Prop),Inv X pins σ H s->RelV v u->t v σ H Q ->
  wpAny (model X.prog X.w) X.A (assign target X.env u) (λ_ s'=>∃σ' H',Inv X pins σ' H' s'/\Q σ' H') X.xe s
def PGs(X:Cx)(ts:List Expr)(t:TGs):Prop :=
 ∀(pins:List (Addr×Obj)) (s:Shared) (σ:St) (H:Hp) (vs:List V) (us:List Value) (Q:St->Hp->Prop),Inv X pins σ H s->Vals vs us->t vs σ H Q ->
  wpAny (model X.prog X.w) X.A (assignInOrder ((assignEach ts X.env).map (·.2)) us) (λ_ s'=>∃σ' H',Inv X pins σ' H' s'/\Q σ' H') X.xe s
noncomputable abbrev TSet:=V->V->V->Hp->(Hp->Prop)->Prop
def PSet(X:Cx)(t:TSet):Prop :=
 ∀(pins:List (Addr×Obj)) (s:Shared) (σ:St) (H:Hp) (o i v:V) (ov iv u:Value) (Q:Hp->Prop),Inv X pins σ H s->RelV o ov->RelV i iv->RelV v u->t o i v H Q ->
  wpAny (model X.prog X.w) X.A (setItem ov iv u) (λ_ s'=>∃H',Inv X pins σ H' s'/\Q H') X.xe s
noncomputable abbrev TIp:=V->V->Hp->VK->Prop
def PIp(X:Cx)(op:Operator)(t:TIp):Prop :=
 ∀(pins:List (Addr×Obj)) (s:Shared) (σ:St) (H:Hp) (x y:V) (v u:Value) (Q:VK),Inv X pins σ H s->RelV x v->RelV y u->t x y H Q ->
  wpAny (model X.prog X.w) X.A (inplaceOp op v u) (EP X pins σ Q) X.xe s
section
variable {X:Cx}{pos:Pos}
noncomputable def XQ_(i:Nat):TG:=λv σ H Q=>Q (σ.set i (some v)) H
theorem zen_{i:Nat}{x:Str}(hN:X.N.Nodup)(hi:X.N[i]? = some x)(hx:Loc X.env.scope x)(hf:X.fn x=true\/X.env.scope.names.lookup x=some .local:=by first|exact .inl rfl|exact .inr rfl|assumption):PG X (.Name x pos) (XQ_ i):=by
 intro pins s σ H v u Q I r h
 exact wpAny_assign_Name (yd_ I hN hi hx r (λs' I'=>⟨_,H,I',h⟩) hf)
noncomputable def gNil:TGs:=λvs σ H Q=>vs=[]/\Q σ H
noncomputable def ziZ_(t:TG)(u:TGs):TGs:=λvs σ H Q=>∃v r,vs=v::r/\t v σ H λσ' H'=>u r σ' H' Q
theorem zem_:PGs X [] gNil:=by
 intro pins s σ H vs us Q I r h
 obtain⟨e,h⟩:=h
 subst e
 cases r
 exact assignInOrder_nil ⟨σ,H,I,h⟩
theorem zbd_{e:Expr}{es:List Expr}{t:TG}{u:TGs}(h1:PG X e t)(h2:PGs X es u)
  (hs:(assignEach (e::es) X.env).map (·.2)=assign e X.env::(assignEach es X.env).map (·.2):=by rfl):PGs X (e::es) (ziZ_ t u):=by
 intro pins s σ H vs us Q I r h
 obtain⟨v,vr,e1,h⟩:=h
 subst e1
 cases r with
 | cons r rr =>
  rw[hs]
  refine assignInOrder_cons (thn (h1 pins s σ H _ _ _ I r h) λ_ s1 ⟨σ1,H1,I1,q1⟩=>?_)
  exact h2 pins s1 σ1 H1 _ _ Q I1 rr q1
noncomputable def gTup(K:PySem.W.Frag)(n:Nat)(t:TGs):TG:=λv σ H Q=>∃a xs,v=.ref a/\SqT K H a xs/\xs.length=n/\t xs σ H Q
theorem zgw_{es:List Expr}{k:Nat}{t:TGs}{n:Nat}(hc:X.calm=true)(h:PGs X es t)
  (hn:(assignEach es X.env).length=n:=by rfl) (hst:(assignEach es X.env).findIdx? (·.1)=none:=by rfl):PG X (.Tuple es k pos) (gTup X.K n t):=by
 intro pins s σ H v u Q I r hw
 obtain⟨a,xs,e1,hq,hl,hw⟩:=hw
 subst e1
 cases r
 obtain⟨its,rv,ht,hz⟩:=I.tuple hq
 refine assign_Tuple_tuple (I.ok.hd hc) ht (by simp[hn,<-hl,rv.length]) hst λh' hx=>?_
 have I1:Inv X pins σ H { s with heap:=h' }:=I.kept (t':=s.toks) λb o e=>hx b o (Nat.ne_of_lt (Heap.lt_size e)) e
 exact h pins _ σ H xs _ Q I1 (by simpa using rv) hw
noncomputable def gSub(to ti:TE)(t:TSet):TG:=λv σ H Q=>to σ H λo H1=>ti σ H1 λi H2=>t o i v H2 λH3=>Q σ H3
theorem zgx_{o i:Expr}{to ti:TE}{t:TSet}(ho:PE X o to)(hi:PE X i ti)(hs:PSet X t)
  (ha:∀v,assign (.Subscript o i pos) X.env v=(do
   let ov <-holding [v] (eval o X.env)
   let iv <-holding [v,ov] (eval i X.env)
   standAt pos
   holding [v,ov,iv] (setItem ov iv v)
   release [v,ov,iv] []):=by intro _;rfl):PG X (.Subscript o i pos) (gSub to ti t):=by
 intro pins s σ H v u Q I r h
 rw[ha]
 refine zza (wpAny_holding (thn (ho pins s σ H _ I h) λov s1 ⟨x,H1,I1,r1,q1⟩=>?_))
 refine zza (wpAny_holding (thn (hi pins s1 σ H1 _ I1 q1) λiv s2 ⟨y,H2,I2,r2,q2⟩=>?_))
 refine zza (wpAny_standAt (zza (wpAny_holding (thn (hs pins s2 σ H2 x y v ov iv u _ I2 r1 r2 r q2) λ_ s3 ⟨H3,I3,q3⟩=>?_))))
 exact wpAny_release ⟨σ,H3,I3,q3⟩
noncomputable def tAsg(te:TE)(g:TG):TS:=λD σ H=>te σ H λx H1=>g x σ H1 D.nx
theorem zcO_{tg e:Expr}{te:TE}{g:TG}(he:PE X e te)(hg:PG X tg g)(hs:swapsWithSole [tg] e pos.line X.env=pure false:=by rfl)(hw:swappedStores [tg] e X.env=pure none:=by rfl)
  (h1:(assignEach [tg] X.env).map (·.2)=[assign tg X.env]:=by rfl):PS X (.Assign [tg] e pos) (tAsg te g):=by
 intro pins s σ H D I h
 refine wpAny_Assign_stores (thn (he pins s σ H _ I h) λv s1 ⟨x,H1,I1,r1,q1⟩=>?_) hs hw
 rw[h1]
 exact thn (hg pins s1 σ H1 x v _ I1 r1 q1) λ_ s2 q=>q
theorem U6_{i:Nat}{x:Str}{e:Expr}{te:TE}{pos':Pos}(hN:X.N.Nodup)(hi:X.N[i]? = some x)(hx:Loc X.env.scope x)(he:PE X e te)(hs:swapsWith e (some (.Name x pos')) pos.line X.env=pure false:=by rfl)(hf:X.fn x=true\/X.env.scope.names.lookup x=some .local:=by first|exact .inl rfl|exact .inr rfl|assumption) :
  PS X (.Assign [.Name x pos'] e pos) (tAsg te (XQ_ i)):=by
 intro pins s σ H D I h
 refine wpAny_Assign_Name (thn (he pins s σ H _ I h) λv s1 ⟨y,H1,I1,r1,q1⟩=>?_) hs
 exact yd_ I1 hN hi hx r1 (λs2 I2=>⟨_,H1,I2,q1⟩) hf
noncomputable def tPar(i j:Nat)(ta:TA):TS:=λD σ H=>ta σ H λvs H1=>∃v w,vs=[v,w]/\D.nx ((σ.set i (some v)).set j (some w)) H1
theorem zgr_{i j:Nat}{x y:Str}{a b:Expr}{ta:TA}{px py pt:Pos}{kt k2 pt2}(hc:X.calm=true)(hN:X.N.Nodup)(hi:X.N[i]? = some x)(hj:X.N[j]? = some y)(hij:i≠j)
  (hx:X.env.scope.names.lookup x=some .local) (hy:X.env.scope.names.lookup y=some .local) (ha:PA X [a,b] ta)
  (hw:swappedStores [.Tuple [.Name x px,.Name y py] kt pt] (.Tuple [a,b] k2 pt2) X.env=pure (some [x,y]))
  (hs:swapsWithSole [.Tuple [.Name x px,.Name y py] kt pt] (.Tuple [a,b] k2 pt2) pos.line X.env=pure false:=by rfl) :
  PS X (.Assign [.Tuple [.Name x px,.Name y py] kt pt] (.Tuple [a,b] k2 pt2) pos) (tPar i j ta):=by
 intro pins s σ H D I h
 rw[exec_Assign_arm]
 refine zza (wpAny_standAt ?_)
 rw[hs]
 refine zza (zzb ?_)
 rw[if_neg (by decide)]
 refine zza (Tuple_ (thn (ha _ pins s σ H _ I h) λus s1 ⟨vs,H1,I1,r1,q1⟩=>?_))
 obtain⟨v,w,e1,q1⟩:=q1
 subst e1
 obtain⟨u1,u2,rfl,rv,rw'⟩:∃u1 u2,us=[u1,u2]/\RelV v u1/\RelV w u2:=by
  cases r1 with
  | cons p q =>
   cases q with
   | cons p' q' =>
    cases q'
    exact⟨_,_,rfl,p,p'⟩
 refine wpAny_newObj_type ?_ (by show 2<=sizeLine;decide)
 have I2:Inv X pins σ H1 { s1 with heap:=s1.heap.push { cls:=.type "tuple",data:=.seq [u1,u2].toArray } }:=I1.kept (t':=s1.toks) λb o e=>zzc _ e
 rw[hw]
 refine zza (zzb ?_)
 show wpAny (model X.prog X.w) X.A (do rule "assign.swapped-stores";let items <-unpackItems (.ref s1.heap.objs.size) 2 none;assignInOrder [λv=>bindName X.env y v,λv=>bindName X.env x v] items.reverse;pure Flow.next) _ _ _
 refine zza (wpAny_rule (zza (unpackItems_tuple (items:=#[u1,u2]) (I.ok.hd hc) (IsTup.new s1.heap _) λh' hx'=>?_)))
 have I3:=I2.kept (h':=h') (t':=s1.toks) λb o e=>hx' b o (Nat.ne_of_lt (Heap.lt_size e)) e
 show wpAny _ _ (assignInOrder [λv=>bindName X.env y v,λv=>bindName X.env x v] [u2,u1] >>= λ_=>pure Flow.next) _ _ _
 refine zza (assignInOrder_cons (wpAny_bindName (yd_ I3 hN hj (.inl hy) rw' (λs2 I4=>?_) (.inr hy))))
 refine assignInOrder_cons (wpAny_bindName (yd_ I4 hN hi (.inl hx) rv (λs3 I5=>assignInOrder_nil (zzb ?_)) (.inr hx)))
 rw[List.set_comm _ _ (Ne.symm hij)]at I5
 exact⟨_,H1,I5,q1⟩
noncomputable def tAug(i:Nat)(te:TE)(ti:TIp):TS:=λD σ H=>∃x,σ[i]? = some (some x)/\te σ H λy H1=>ti x y H1 λz H2=>D.nx (σ.set i (some z)) H2
theorem zgt_{i:Nat}{x:Str}{e:Expr}{te:TE}{op:Operator}{ti:TIp}{pos':Pos}(hN:X.N.Nodup)(hi:X.N[i]? = some x)(hx:Loc X.env.scope x)(he:PE X e te)(ho:PIp X op ti)(hf:X.fn x=true\/X.env.scope.names.lookup x=some .local:=by first|exact .inl rfl|exact .inr rfl|assumption) :
  PS X (.AugAssign (.Name x pos') op e pos) (tAug i te ti):=by
 intro pins s σ H D I h
 obtain⟨v,e1,h⟩:=h
 obtain⟨m,hn,hl⟩:=I.loc
 have vis:Vis X.env.scope x:=by rcases hx with k|k;exact .inl k;exact .inr (.inl k)
 obtain⟨u,r,l⟩:=hl i x v hi e1 vis
 refine wpAny_AugAssign_Name ?_
 have go:wpAny (model X.prog X.w) X.A (eval e X.env) (λw s₂=>wpAny (model X.prog X.w) X.A (inplaceOp op u w) (λr s₃=>wpAny (model X.prog X.w) X.A (storeName X.env x r) (λ_=>SP X pins D .next) X.xe s₃) X.xe s₂) X.xe s:=by
  refine thn (he pins s σ H _ I h) λw s1 ⟨y,H1,I1,r1,q1⟩=>?_
  refine thn (ho pins s1 σ H1 v y u w _ I1 r r1 q1) λz s2 ⟨zv,H2,I2,r2,q2⟩=>?_
  exact yd_ I2 hN hi hx r2 (λs3 I3=>⟨_,H2,I3,q2⟩) hf
 rcases l with ⟨hk,hm⟩|⟨hk,c,hc,hcell⟩
 ·exact wpAny_loadName_local I.ok.kind hk hn hm go
 ·rcases hk with hk|hk
  ·exact wpAny_loadName_cell I.ok.kind hk hc hcell go
  ·rcases hx with k|k
   ·have:X.env.scope.names.lookup x=some .free:=hk
    rw[k]at this;cases this
   ·have:X.env.scope.names.lookup x=some .free:=hk
    rw[k]at this;cases this
noncomputable def zie_(to ti te:TE)(tget:V->V->Hp->VK->Prop)(tip:TIp)(tset:TSet):TS:=λD σ H=>to σ H λo H1=>ti σ H1 λi H2=>tget o i H2 λx H3=>te σ H3 λy H4=>tip x y H4 λz H5=>tset o i z H5 λH6=>D.nx σ H6
def PGet(X:Cx)(t:V->V->Hp->VK->Prop):Prop :=
 ∀(pins:List (Addr×Obj)) (s:Shared) (σ:St) (H:Hp) (o i:V) (ov iv:Value) (Q:VK),Inv X pins σ H s->RelV o ov->RelV i iv->t o i H Q ->
  wpAny (model X.prog X.w) X.A (getItem ov iv) (EP X pins σ Q) X.xe s
theorem zeh_{o i e:Expr}{to ti te:TE}{tget:V->V->Hp->VK->Prop}{tip:TIp}{tset:TSet}{op:Operator}{tpos:Pos}(ho:PE X o to)(hi:PE X i ti)(hg:PGet X tget)(he:PE X e te)(hp:PIp X op tip)(hs:PSet X tset)
  (ha:∀ov iv new,augStore i ov iv new=(do holding [new,ov,iv] (setItem ov iv new);release [new,ov,iv] [];pure .next):=by intros;rfl):PS X (.AugAssign (.Subscript o i tpos) op e pos) (zie_ to ti te tget tip tset):=by
 intro pins s σ H D I h
 refine wpAny_AugAssign_SubscriptAny (thn (ho pins s σ H _ I h) λov s1 ⟨x1,H1,I1,r1,q1⟩=>?_) ha
 refine thn (hi pins s1 σ H1 _ I1 q1) λiv s2 ⟨x2,H2,I2,r2,q2⟩=>?_
 refine thn (hg pins s2 σ H2 x1 x2 ov iv _ I2 r1 r2 q2) λold s3 ⟨x3,H3,I3,r3,q3⟩=>?_
 refine thn (he pins s3 σ H3 _ I3 q3) λv s4 ⟨x4,H4,I4,r4,q4⟩=>?_
 refine thn (hp pins s4 σ H4 x3 x4 old v _ I4 r3 r4 q4) λnew s5 ⟨x5,H5,I5,r5,q5⟩=>?_
 exact thn (hs pins s5 σ H5 x1 x2 x5 ov iv new _ I5 r1 r2 r5 q5) λ_ s6 ⟨H6,I6,q6⟩=>⟨σ,H6,I6,q6⟩
noncomputable def ipI(f:Int->Int->Int):TIp:=λx y H Q=>∃i j,x=.int i/\y=.int j/\Q (.int (f i j)) H
theorem Vc_:PIp X .Add (ipI λi j=>i+j):=by
 intro pins s σ H x y v u Q I r1 r2 h
 obtain⟨i,j,e1,e2,q⟩:=h
 subst e1;subst e2
 obtain⟨t,rfl⟩:=r1
 obtain⟨t',rfl⟩:=r2
 exact iadd_int ⟨.int _,H,I.tok _,⟨_,rfl⟩,q⟩
theorem zhr_:PIp X .Sub (ipI λi j=>i - j):=by
 intro pins s σ H x y v u Q I r1 r2 h
 obtain⟨i,j,e1,e2,q⟩:=h
 subst e1;subst e2
 obtain⟨t,rfl⟩:=r1
 obtain⟨t',rfl⟩:=r2
 exact isub_int ⟨.int _,H,I.tok _,⟨_,rfl⟩,q⟩
end
section
variable {X:Cx}{pos:Pos}
noncomputable def zfI_(c:TT)(tb:TS):TS:=λD σ H=>∃W:Nat->St->Hp->Prop,(∃m,W m σ H)/\∀m σ H,W m σ H ->
 c σ H λb H1=>if b=true then ∃N:St->Hp->Prop,(∀σ' H',N σ' H'->∃m',m'<m/\W m' σ' H')/\tb { D with nx:=N,ct:=N,bk:=D.nx } σ H1 else D.nx σ H1
theorem zaZ_{c:Expr}{body:List Stmt}{tc:TT}{tb:TS}(hp:PassesOwn (model X.prog X.w) X.A X.env X.xe)(hc:PT X c tc)(hb:PSs X body tb):PS X (.While c body [] pos) (zfI_ tc tb):=by
 intro pins s σ H D I h
 obtain⟨W,⟨m0,w0⟩,turn⟩:=h
 refine wpAny_While (codeAny_whileLoop (λn s'=>∃σ' H',Inv X pins σ' H' s'/\W n σ' H') ?_ m0 ⟨σ,H,I,w0⟩)
 rintro n s1 ⟨σ1,H1,I1,w1⟩
 refine wpAny_passesOwn hp (thn (hc pins s1 σ1 H1 _ I1 (turn n σ1 H1 w1)) λb s2 ⟨H2,I2,q2⟩=>?_)
 cases b with
 | true =>
  obtain⟨N,hN,q2⟩:=q2
  rw[if_pos rfl]
  refine wpAny_passesOwn hp (thn (hb pins s2 σ1 H2 _ I2 q2) λf s3 q3=>?_)
  cases f with
  | next =>
   obtain⟨σ3,H3,I3,n3⟩:=q3
   obtain⟨m',hm,w3⟩:=hN σ3 H3 n3
   exact⟨m',hm,σ3,H3,I3,w3⟩
  | cont =>
   obtain⟨σ3,H3,I3,n3⟩:=q3
   obtain⟨m',hm,w3⟩:=hN σ3 H3 n3
   exact⟨m',hm,σ3,H3,I3,w3⟩
  | brk=>exact q3
  | ret v=>exact q3
 | false =>
  rw[if_neg Bool.false_ne_true]
  exact wpAny_execs_nil ⟨σ1,H2,I2,q2⟩
end
structure It where
 go:Nat->Hp->Prop
 yld:Nat->Hp->V->Hp->Prop
 stop:Nat->Hp->Prop
def FpOk(X:Cx)(pins:List (Addr×Obj))(H:Hp)(b:Addr):Prop :=
 H b=none/\b≠X.env.locals/\b∉X.fs/\(b∈X.ex\/X.s₀.heap.objs.size<=b)/\(∀x c,X.env.cells.lookup x=some c->c≠b)/\∀p∈X.pn++pins,p.1≠b
theorem Inv.fpOk{X:Cx}{pins:List (Addr×Obj)}{σ:St}{H H':Hp}{s:Shared}{b:Addr}(I:Inv X pins σ H s)(hb:s.heap.objs.size<=b)(hn:H' b=none):FpOk X pins H' b:=by
 refine⟨hn,Nat.ne_of_gt (Nat.lt_of_lt_of_le I.lt hb),I.nofs hb,.inr (Nat.le_trans I.sz hb),λx c e z=>?_,λp hp z=>?_⟩
 ·obtain⟨v,q⟩:=I.cell x c e
  exact absurd (Nat.lt_of_lt_of_le q.lt (by rw[z];exact hb)) (Nat.lt_irrefl _)
 ·exact absurd (Nat.lt_of_lt_of_le (Heap.lt_size (I.pin p hp).1) (by rw[z];exact hb)) (Nat.lt_irrefl _)
structure Turn(P:Program)(w:World)(K:PySem.W.Frag)(tg:Expr)(J:It)(fp:List Addr)(it:Addr)(tn:Nat->Heap->Prop):Prop where
 mem:it∈fp
 obj:∀i h,tn i h->∀b∈fp,∃o,h.get? b=some o/\∀v,o.data≠.cell v
 keep:∀i h h',tn i h->(∀b∈fp,∀o,h.get? b=some o->h'.get? b=some o)->tn i h'
 item:∀(X:Cx),X.prog=P->X.w=w->X.K=K->X.calm=true->∀(i:Nat) (pins:List (Addr×Obj)) (s:Shared) (σ:St) (H:Hp) (E:Value->Shared->Prop),Inv X pins σ H s->(∀b∈fp,FpOk X pins H b)->tn i s.heap->J.go i H ->
  wpAny (model P w) X.A (pyNext (.ref it)) (λr s1=>∃u,r=some u /\
   wpAny (model P w) X.A (letOwnedTupleGo tg (.ref it) u) (λ_ s2=>∃x H',Inv X pins σ H' s2/\RelV x u/\J.yld i H x H'/\tn (i+1) s2.heap/\∀b∈fp,H' b=none) E s1) E s
 done:∀(X:Cx),X.prog=P->X.w=w->X.K=K->X.calm=true->∀(i:Nat) (pins:List (Addr×Obj)) (s:Shared) (σ:St) (H:Hp) (E:Value->Shared->Prop),Inv X pins σ H s->(∀b∈fp,FpOk X pins H b)->tn i s.heap->J.stop i H ->
  wpAny (model P w) X.A (pyNext (.ref it)) (λr s1=>r=none/\Inv X pins σ H s1) E s
 self:∀(A:Around) (i:Nat) (s:Shared) (Q:Value->Shared->Prop) (E:Value->Shared->Prop),tn i s.heap->Q (.ref it) s->wpAny (model P w) A (pyIter (.ref it)) Q E s
noncomputable abbrev TI:=St->Hp->(It->Hp->Prop)->Prop
def PIE(X:Cx)(pins:List (Addr×Obj))(σ:St)(tg:Expr)(R:It->Hp->Prop)(itv:Value)(s2:Shared):Prop :=
 ∃(it:Addr) (fp:List Addr) (tn:Nat->Heap->Prop) (J:It) (H':Hp),itv=.ref it/\Inv X pins σ H' s2/\Turn X.prog X.w X.K tg J fp it tn/\tn 0 s2.heap/\(∀b∈fp,FpOk X pins H' b)/\R J H'
def PI(X:Cx)(tg iter:Expr)(wi:TI):Prop :=
 ∀(pins:List (Addr×Obj)) (s:Shared) (σ:St) (H:Hp) (R:It->Hp->Prop),Inv X pins σ H s->wi σ H R ->
  wpAny (model X.prog X.w) X.A (eval iter X.env) (λv s1=>wpAny (model X.prog X.w) X.A (pyIter v) (PIE X pins σ tg R) X.xe s1) X.xe s
theorem zeY_{M:Model}{A:Around}{E:Value->Shared->Prop}{s:Shared}{tg:Expr}{it:Addr}{u:Value}{o:Obj}{n:String}{vs:Array Value}{Q:Unit->Shared->Prop}(ho:s.heap.get? it=some o)(hc:o.cls=.type n)(hd:o.data=.fields vs)
  (hn:["enumerate", "zip", "dict_itemiterator", "dict_reverseitemiterator", "odict_iterator", "itertools.zip_longest", "itertools.pairwise"].contains n=false) (hQ:Q () s):wpAny M A (letOwnedTupleGo tg (.ref it) u) Q E s:=by
 unfold letOwnedTupleGo
 cases tg<;>first
  | exact zzb hQ
  | (cases u<;>first
     | exact zzb hQ
     | (refine zza (wpAny_load ho ?_)
        rw[hc,hd]
        show wpAny M A (if(["enumerate", "zip", "dict_itemiterator", "dict_reverseitemiterator", "odict_iterator", "itertools.zip_longest", "itertools.pairwise"].contains n&&vs[0]? == some (rawInt _))=true then _ else _) Q E s
        rw[if_neg (by intro h;rw[hn,Bool.false_and]at h;cases h)]
        exact zzb hQ))
noncomputable def Itl(K:PySem.W.Frag)(a:Addr):It :=
 ⟨λi H=>∃xs x,SqL K H a xs/\xs[i]? = some x,λi H x H'=>H'=H/\∀xs,SqL K H a xs->xs[i]? = some x,λi H=>∃xs,SqL K H a xs/\xs.length<=i⟩
noncomputable def Itt(K:PySem.W.Frag)(a:Addr):It :=
 ⟨λi H=>∃xs x,SqT K H a xs/\xs[i]? = some x,λi H x H'=>H'=H/\∀xs,SqT K H a xs->xs[i]? = some x,λi H=>∃xs,SqT K H a xs/\xs.length<=i⟩
noncomputable def Itr(lo:Int)(n:Nat):It:=⟨λi _=>i<n,λi H x H'=>H'=H/\x=.int (lo+i),λi _=>n<=i⟩
theorem Wx_{P:Program}{w:World}{K:PySem.W.Frag}{tg:Expr}(a it:Addr):Turn P w K tg (Itl K a) [it] it (λi h=>h.IsListIter it a i) where
 mem:=by simp
 obj:=λi h st b hb=>by
  have e:b=it:=by simpa using hb
  subst e
  obtain⟨o,e,c,d⟩:=st
  exact⟨o,e,λv z=>by rw[d]at z;cases z⟩
 keep:=λi h h' st k=>st.at λo e=>k it (by simp) o e
 item:=by
  intro X hP hw hK hc i pins s σ H E I hf st hg
  subst hP hw hK
  obtain⟨xs,x,hq,hx⟩:=hg
  obtain⟨its,rv,p,hz⟩:=I.list hq
  obtain⟨u,hu,ru⟩:=rv.get hx
  obtain⟨f0,f1,f2,f3,f4,f5⟩:=hf it (by simp)
  refine wpAny_pyNext_list_item st p.isList (x:=u) (by simpa using hu) λh' st' sb=>?_
  have I1:Inv X pins σ H { s with heap:=h' }:=I.turned (t':=s.toks) (λb o hb e=>(sb.2 b hb).trans e) f0 f1 f3 f4 f5
  obtain⟨o,e,c,d⟩:=id st'
  exact⟨u,rfl,zeY_ (s:={ s with heap:=h' }) e c d (by decide) ⟨x,H,I1,ru,⟨rfl,λys hy=>by rw[I.list_inj hy hq];exact hx⟩,st',λb hb=>(hf b hb).1⟩⟩
 done:=by
  intro X hP hw hK hc i pins s σ H E I hf st hg
  subst hP hw hK
  obtain⟨xs,hq,hx⟩:=hg
  obtain⟨its,rv,p,hz⟩:=I.list hq
  obtain⟨f0,f1,f2,f3,f4,f5⟩:=hf it (by simp)
  have hl:=rv.length
  exact wpAny_pyNext_list_end (I.ok.hd hc) st p.isList (by simp;lia) λh' eb=>⟨rfl,I.turned (t':=s.toks) (λb o hb e=>eb b o hb e) f0 f1 f3 f4 f5⟩
 self:=λ_ _ _ _ _ st h=>wpAny_pyIter_listiter st h
theorem VC_{P:Program}{w:World}{K:PySem.W.Frag}{tg:Expr}(a it:Addr):Turn P w K tg (Itt K a) [it] it (λi h=>h.IsTupleIter it a i) where
 mem:=by simp
 obj:=λi h st b hb=>by
  have e:b=it:=by simpa using hb
  subst e
  obtain⟨o,e,c,d⟩:=st
  exact⟨o,e,λv z=>by rw[d]at z;cases z⟩
 keep:=λi h h' st k=>st.at λo e=>k it (by simp) o e
 item:=by
  intro X hP hw hK hc i pins s σ H E I hf st hg
  subst hP hw hK
  obtain⟨xs,x,hq,hx⟩:=hg
  obtain⟨its,rv,p,hz⟩:=I.tuple hq
  obtain⟨u,hu,ru⟩:=rv.get hx
  obtain⟨f0,f1,f2,f3,f4,f5⟩:=hf it (by simp)
  refine wpAny_pyNext_tuple_item st (show s.heap.IsTuple a its.toArray from p) (x:=u) (by simpa using hu) λh' st' sb=>?_
  have I1:Inv X pins σ H { s with heap:=h' }:=I.turned (t':=s.toks) (λb o hb e=>(sb.2 b hb).trans e) f0 f1 f3 f4 f5
  obtain⟨o,e,c,d⟩:=id st'
  exact⟨u,rfl,zeY_ (s:={ s with heap:=h' }) e c d (by decide) ⟨x,H,I1,ru,⟨rfl,λys hy=>by rw[I.tuple_inj hy hq];exact hx⟩,st',λb hb=>(hf b hb).1⟩⟩
 done:=by
  intro X hP hw hK hc i pins s σ H E I hf st hg
  subst hP hw hK
  obtain⟨xs,hq,hx⟩:=hg
  obtain⟨its,rv,p,hz⟩:=I.tuple hq
  obtain⟨f0,f1,f2,f3,f4,f5⟩:=hf it (by simp)
  have hl:=rv.length
  exact wpAny_pyNext_tuple_end (I.ok.hd hc) st (show s.heap.IsTuple a its.toArray from p) (by simp;lia) λh' eb=>⟨rfl,I.turned (t':=s.toks) (λb o hb e=>eb b o hb e) f0 f1 f3 f4 f5⟩
 self:=λ_ _ _ _ _ st h=>wpAny_pyIter_tupleiter st h
theorem VD_{P:Program}{w:World}{K:PySem.W.Frag}{tg:Expr}(it:Addr)(lo:Int)(n:Nat):Turn P w K tg (Itr lo n) [it] it (λi h=>IsRangeIter h it (lo+(i:Nat)*1) ((n:Int) - (i:Nat)) 1) where
 mem:=by simp
 obj:=λi h st b hb=>by
  have e:b=it:=by simpa using hb
  subst e
  exact⟨_,st,λv z=>by
   have z':Data.fields _=Data.cell v:=z
   cases z'⟩
 keep:=λi h h' st k=>k it (by simp) _ st
 item:=by
  intro X hP hw hK hc i pins s σ H E I hf st hg
  subst hP hw hK
  obtain⟨f0,f1,f2,f3,f4,f5⟩:=hf it (by simp)
  have W:=Walks.range (prog:=X.prog) (w:=X.w) (I.ok.hd hc) it lo 1 n
  refine W.item i s _ _ hg st λv h' tk hv st' kk=>?_
  obtain⟨t,rfl⟩:=hv
  have I1:Inv X pins σ H { s with heap:=h',toks:=tk }:=I.turned (λb o hb e=>kk b o (by simpa using hb) e) f0 f1 f3 f4 f5
  refine⟨_,rfl,zeY_ (s:={ s with heap:=h',toks:=tk }) (n := "range_iterator") st' rfl rfl (by decide) ⟨.int (lo+i),H,I1,⟨t,?_⟩,⟨rfl,rfl⟩,st',λb hb=>(hf b hb).1⟩⟩
  rw[Int.mul_one]
 done:=by
  intro X hP hw hK hc i pins s σ H E I hf st hg
  subst hP hw hK
  obtain⟨f0,f1,f2,f3,f4,f5⟩:=hf it (by simp)
  exact wpAny_pyNext_range_end (I.ok.hd hc) st (by have:n<=i:=hg;lia) λh' eb=>⟨rfl,I.turned (t':=s.toks) (λb o hb e=>eb b o hb e) f0 f1 f3 f4 f5⟩
 self:=λ_ _ _ _ _ st h=>wpAny_pyIter_rangeiter st h
section
variable {X:Cx}{tg:Expr}
theorem QS_{pins:List (Addr×Obj)}{σ:St}{H:Hp}{s:Shared}{R:It->Hp->Prop}{E:Value->Shared->Prop}{lo hi:Int}{t u v:Tok}{tk:Nat}(I:Inv X pins σ H s)(h1 : -(2^62)<=lo)(h2:lo<2^62)(h3 : -(2^62)<=hi)(h4:hi<2^62)
  (q:R (Itr lo (hi - lo).toNat) H):wpAny (model X.prog X.w) X.A (pyIter (.ref s.heap.objs.size)) (PIE X pins σ tg R) E { s with heap:=s.heap.push { cls:=.type "range",data:=.fields #[.int lo t,.int hi u,.int 1 v] },toks:=tk }:=by
 refine wpAny_pyIter_range (IsRange.new ..) (small_one h1 h2 h3 h4) ?_
 have I1:Inv X pins σ H { s with heap:=s.heap.push { cls:=.type "range",data:=.fields #[.int lo t,.int hi u,.int 1 v] },toks:=tk }:=I.kept λb o e=>zzc _ e
 refine⟨(s.heap.push { cls:=.type "range",data:=.fields #[.int lo t,.int hi u,.int 1 v] }).objs.size,[(s.heap.push { cls:=.type "range",data:=.fields #[.int lo t,.int hi u,.int 1 v] }).objs.size],_,_,H,rfl,
  I1.kept (t':=tk) λb o e=>zzc _ e,VD_ _ lo (hi - lo).toNat,?_,λb hb=>?_,q⟩
 ·have e1:lo+((0:Nat):Int)*1=lo:=by simp
  have e2:(((hi - lo).toNat:Nat):Int) - ((0:Nat):Int)=Builtin.Range.rangeSize lo hi 1:=by rw[rangeSize_one];split<;>lia
  show IsRangeIter _ _ (lo+((0:Nat):Int)*1) ((((hi - lo).toNat:Nat):Int) - ((0:Nat):Int)) 1
  rw[e1,e2]
  exact zze _ rfl
 ·have e:b=(s.heap.push { cls:=.type "range",data:=.fields #[.int lo t,.int hi u,.int 1 v] }).objs.size:=by simpa using hb
  subst e
  exact I1.fpOk (Nat.le_refl _) (I1.hok.fresh (Nat.le_refl _))
def ziT_(ta:TA):TI:=λσ H R=>ta σ H λvs H1=>∃j:Int,vs=[.int j] /\ -(2^62)<=j/\j<2^62/\R (Itr 0 j.toNat) H1
def ziS_(ta:TA):TI:=λσ H R=>ta σ H λvs H1=>∃i j:Int,vs=[.int i,.int j]/\(-(2^62)<=i/\i<2^62 /\ -(2^62)<=j/\j<2^62)/\R (Itr i (j - i).toNat) H1
theorem U8_{a:Expr}{ta:TA}{p pos:Pos}(hg:Gl X "range")(hm:X.mg "range" = none)(ha:PA X [a] ta)(hs:starEach [a] X.env=[(false,eval a X.env)]:=by rfl):PI X tg (.Call (.Name "range" p) [a] [] pos) (ziT_ ta):=by
 intro pins s σ H R I h
 refine Call_ (uN_ I hg hm boot_range (PyProof.Rows.callWith_type1 (thn (ha pos pins s σ H _ I h) λus s1 ⟨vs,H1,I1,r1,q1⟩=>?_) hs rfl))
 obtain⟨j,e,q1,q2,q⟩:=q1
 subst e
 cases r1 with
 | cons r rr =>
  cases rr
  obtain⟨t,rfl⟩:=r
  exact call_range_1 (QS_ I1 (by lia) (by lia) q1 q2 (by simpa using q))
theorem WY_{a b:Expr}{ta:TA}{p pos:Pos}(hg:Gl X "range")(hm:X.mg "range" = none)(ha:PA X [a,b] ta)(hs:starEach [a,b] X.env=[(false,eval a X.env),(false,eval b X.env)]:=by rfl)(hs2:starEach [b] X.env=[(false,eval b X.env)]:=by rfl) :
  PI X tg (.Call (.Name "range" p) [a,b] [] pos) (ziS_ ta):=by
 intro pins s σ H R I h
 refine Call_ (uN_ I hg hm boot_range (PyProof.Rows.callWith_type1 (thn (ha pos pins s σ H _ I h) λus s1 ⟨vs,H1,I1,r1,q1⟩=>?_) (by rw[hs,hs2]) (by rw[hs2];rfl)))
 obtain⟨i,j,e,⟨q1,q2,q3,q4⟩,q⟩:=q1
 subst e
 cases r1 with
 | cons r rr =>
  cases rr with
  | cons r' rr =>
   cases rr
   obtain⟨t,rfl⟩:=r
   obtain⟨t',rfl⟩:=r'
   exact call_range_2 (QS_ I1 q1 q2 q3 q4 q)
noncomputable def tFor(wi:TI)(g:TG)(tb:TS):TS:=λD σ H=>wi σ H λJ H1=>∃W:Nat->Nat->St->Hp->Prop,(∃m,W 0 m σ H1)/\∀i m σ H,W i m σ H ->
 (J.stop i H/\D.nx σ H)\/(J.go i H/\∃N:St->Hp->Prop,(∀σ' H',N σ' H'->∃m',m'<m/\W (i+1) m' σ' H')/\∀x H',J.yld i H x H'->g x σ H' λσ2 H2=>tb { D with nx:=N,ct:=N,bk:=D.nx } σ2 H2)
noncomputable def U7_(fp:List Addr)(h:Heap):List (Addr×Obj):=fp.filterMap λb=>(h.get? b).map λo=>(b,o)
theorem uv_{fp:List Addr}{h:Heap}{b:Addr}{o:Obj}(hb:b∈fp)(e:h.get? b=some o):(b,o)∈U7_ fp h:=List.mem_filterMap.mpr ⟨b,hb,by rw[e];rfl⟩
theorem Xk_{fp:List Addr}{h:Heap}{p:Addr×Obj}(hp:p∈U7_ fp h):p.1∈fp/\h.get? p.1=some p.2:=by
 obtain⟨b,hb,e⟩:=List.mem_filterMap.mp hp
 cases q:h.get? b with
 | none=>rw[q]at e;cases e
 | some o =>
  rw[q]at e
  have e':(b,o)=p:=Option.some.inj e
  subst e'
  exact⟨hb,q⟩
theorem Inv.pinned{pins:List (Addr×Obj)}{σ:St}{H:Hp}{s:Shared}{fp:List Addr}(I:Inv X pins σ H s)(hf:∀b∈fp,FpOk X pins H b)(ho:∀b∈fp,∃o,s.heap.get? b=some o/\∀v,o.data≠.cell v):Inv X (pins++U7_ fp s.heap) σ H s :=
 I.pins_of λp hp=>(List.mem_append.mp hp).elim (λz=>I.pin p (List.mem_append_right _ z)) λz=>by
  obtain⟨hb,e⟩:=Xk_ z
  obtain⟨f0,f1,f2,_⟩:=hf p.1 hb
  obtain⟨o,e',d⟩:=ho p.1 hb
  rw[e]at e';cases e'
  exact⟨e,f0,f1,f2,d⟩
theorem Inv.unpinned{pins pl:List (Addr×Obj)}{σ:St}{H:Hp}{s:Shared}(I:Inv X (pins++pl) σ H s):Inv X pins σ H s:=I.pins_of λp hp=>I.pin p (List.mem_append_right _ (List.mem_append_left _ hp))
theorem zgs_{iter:Expr}{body:List Stmt}{wi:TI}{g:TG}{tb:TS}{pos:Pos}(hp:PassesOwn (model X.prog X.w) X.A X.env X.xe)(hc:X.calm=true)(hi:PI X tg iter wi)(hg:PG X tg g)(hb:PSs X body tb)
  (hs:∀x,foldedSetIterable iter X.env x=pure x:=by intro _;rfl):PS X (.For tg iter body [] pos) (tFor wi g tb):=by
 intro pins s σ H D I h
 refine wpAny_For (thn (hi pins s σ H _ I h) λv s1 h1=>thn h1 λitv s2 h2=>?_) hs
 obtain⟨it,fp,tn,J,H2,e,I2,T,st2,f2,W,⟨m0,w0⟩,turn⟩:=h2
 subst e
 have stat:∀{H':Hp},(∀b∈fp,H' b=none)->∀b∈fp,FpOk X pins H' b:=λhn b hb=>⟨hn b hb,(f2 b hb).2⟩
 refine codeAny_forLoop_any (λn s'=>∃i σ' H',Inv X pins σ' H' s'/\tn i s'.heap/\(∀b∈fp,H' b=none)/\W i n σ' H') ?_ m0 ⟨0,σ,H2,I2,st2,λb hb=>(f2 b hb).1,w0⟩
 rintro n s3 ⟨i,σ3,H3,I3,st3,fr3,w3⟩
 rcases turn i n σ3 H3 w3 with ⟨stop,qn⟩|⟨go,N,hN,step⟩
 ·refine wpAny_passesOwn hp (thn (T.done X rfl rfl rfl hc i pins s3 σ3 H3 X.xe I3 (stat fr3) st3 stop) λr s4 ⟨hr,I4⟩=>?_)
  subst hr
  exact wpAny_execs_nil ⟨σ3,H3,I4,qn⟩
 ·refine wpAny_passesOwn hp (thn (T.item X rfl rfl rfl hc i pins s3 σ3 H3 X.xe I3 (stat fr3) st3 go) λr s4 ⟨u,hr,h4⟩=>?_)
  subst hr
  refine wpAny_passesOwn hp (thn h4 λ_ s5 ⟨x,H5,I5,r5,y5,st5,fr5⟩=>?_)
  have I5':=I5.pinned (stat fr5) (T.obj _ _ st5)
  refine wpAny_passesOwn hp (thn (hg _ s5 σ3 H5 x u _ I5' r5 (step x H5 y5)) λ_ s6 ⟨σ6,H6,I6,q6⟩=>?_)
  refine wpAny_passesOwn hp (thn (hb _ s6 σ6 H6 _ I6 q6) λf s7 q7=>?_)
  have again:∀{σ7:St} {H7:Hp},Inv X (pins++U7_ fp s5.heap) σ7 H7 s7->N σ7 H7->∃m,m<n/\∃i σ' H',Inv X pins σ' H' s7/\tn i s7.heap/\(∀b∈fp,H' b=none)/\W i m σ' H':=λ{σ7 H7} I7 n7=>by
   obtain⟨m',hm,w7⟩:=hN σ7 H7 n7
   refine⟨m',hm,i+1,σ7,H7,I7.unpinned,T.keep _ _ _ st5 λb hb o e=>(I7.pin (b,o) (List.mem_append_right _ (List.mem_append_right _ (uv_ hb e)))).1,λb hb=>?_,w7⟩
   obtain⟨o,e,d⟩:=T.obj _ _ st5 b hb
   exact(I7.pin (b,o) (List.mem_append_right _ (List.mem_append_right _ (uv_ hb e)))).2.1
  cases f with
  | next=>obtain⟨σ7,H7,I7,n7⟩:=q7;exact again I7 n7
  | cont=>obtain⟨σ7,H7,I7,n7⟩:=q7;exact again I7 n7
  | brk=>obtain⟨σ7,H7,I7,q7⟩:=q7;exact⟨σ7,H7,I7.unpinned,q7⟩
  | ret v=>obtain⟨x7,σ7,H7,I7,r7,q7⟩:=q7;exact⟨x7,σ7,H7,I7.unpinned,r7,q7⟩
end
noncomputable abbrev R2:=V->V->Hp->VK->Prop
def OpR(X:Cx)(f:Value->Value->Sem Value)(r:R2):Prop :=
 ∀(pins:List (Addr×Obj)) (s:Shared) (σ:St) (H:Hp) (x y:V) (v u:Value) (Q:VK),Inv X pins σ H s->RelV x v->RelV y u->r x y H Q ->
  wpAny (model X.prog X.w) X.A (f v u) (EP X pins σ Q) X.xe s
def UnR(X:Cx)(f:Value->Sem Value)(r:V->Hp->VK->Prop):Prop :=
 ∀(pins:List (Addr×Obj)) (s:Shared) (σ:St) (H:Hp) (x:V) (v:Value) (Q:VK),Inv X pins σ H s->RelV x v->r x H Q ->
  wpAny (model X.prog X.w) X.A (f v) (EP X pins σ Q) X.xe s
def CallR(X:Cx)(f:Value)(r:List V->Hp->VK->Prop):Prop :=
 ∀(pins:List (Addr×Obj)) (s:Shared) (σ:St) (H:Hp) (xs:List V) (us:List Value) (Q:VK),Inv X pins σ H s->Vals xs us->r xs H Q ->
  wpAny (model X.prog X.w) X.A (call f us) (EP X pins σ Q) X.xe s
def TruR(X:Cx)(r:V->Hp->(Bool->Hp->Prop)->Prop):Prop :=
 ∀(pins:List (Addr×Obj)) (s:Shared) (σ:St) (H:Hp) (x:V) (v:Value) (Q:Bool->Hp->Prop),Inv X pins σ H s->RelV x v->r x H Q ->
  wpAny (model X.prog X.w) X.A (truthy v) (TP X pins σ Q) X.xe s
noncomputable def tOp(r:R2)(ta tb:TE):TE:=λσ H Q=>ta σ H λx H1=>tb σ H1 λy H2=>r x y H2 Q
noncomputable def tUn(r:V->Hp->VK->Prop)(ta:TE):TE:=λσ H Q=>ta σ H λx H1=>r x H1 Q
noncomputable def rI(C:Int->Int->Prop)(g:Int->Int->V):R2:=λx y H Q=>∃i j,x=.int i/\y=.int j/\C i j/\Q (g i j) H
noncomputable def rI0(g:Int->Int->V):R2:=λx y H Q=>∃i j,x=.int i/\y=.int j/\Q (g i j) H
def rU(g:Int->V):V->Hp->VK->Prop:=λx H Q=>∃i,x=.int i/\Q (g i) H
section
variable {X:Cx}{a b c:Expr}{ta tb tc:TE}{pos:Pos}
theorem binT(ha:PE X a ta)(hb:PE X b tb){pins:List (Addr×Obj)}{s:Shared}{σ:St}{H:Hp}{R:V->V->Hp->Prop}(I:Inv X pins σ H s)
  (h:ta σ H λx H1=>tb σ H1 λy H2=>R x y H2) {Q:Value->Shared->Prop} {f:Value->Value->Sem Value}
  (hf:∀v u s2 x y H2,Inv X pins σ H2 s2->RelV x v->RelV y u->R x y H2->wpAny (model X.prog X.w) X.A (f v u) Q X.xe s2) :
  wpAny (model X.prog X.w) X.A (eval a X.env) (λv s₁=>wpAny (model X.prog X.w) X.A (eval b X.env) (λu s₂=>wpAny (model X.prog X.w) X.A (f v u) Q X.xe s₂) X.xe s₁) X.xe s:=by
 refine thn (ha pins s σ H _ I h) λv s1 ⟨x,H1,I1,r1,q1⟩=>?_
 refine thn (hb pins s1 σ H1 _ I1 q1) λu s2 ⟨y,H2,I2,r2,q2⟩=>?_
 exact hf v u s2 x y H2 I2 r1 r2 q2
theorem zeo_{op:Operator}{r:R2}(ho:OpR X (binaryOp op) r)(ha:PE X a ta)(hb:PE X b tb):PE X (.BinOp a op b pos) (tOp r ta tb):=by
 intro pins s σ H Q I h
 exact wpAny_BinOp (binT ha hb I h λv u s2 x y H2 I2 rx ry q=>ho pins s2 σ H2 x y v u Q I2 rx ry q)
theorem ziy_{op:UnaryOp}{r:V->Hp->VK->Prop}(ho:UnR X (unaryOp op) r)(ha:PE X a ta):PE X (.UnaryOp op a pos) (tUn r ta):=by
 intro pins s σ H Q I h
 exact UnaryOp_ (thn (ha pins s σ H _ I h) λv s1 ⟨x,H1,I1,r1,q1⟩=>ho pins s1 σ H1 x v Q I1 r1 q1)
theorem opI{f:Value->Value->Sem Value}{C:Int->Int->Prop}{g:Int->Int->Int}
  (rule:∀(i j:Int) (t u:Tok) (s:Shared) (Q:Value->Shared->Prop) (E:Value->Shared->Prop),C i j->Q (.int (g i j) s.toks) { s with toks:=s.toks+1 }->wpAny (model X.prog X.w) X.A (f (.int i t) (.int j u)) Q E s) :
  OpR X f (rI C λi j=>.int (g i j)):=by
 intro pins s σ H x y v u Q I rx ry h
 obtain⟨i,j,rfl,rfl,hc,q⟩:=h
 obtain⟨t,rfl⟩:=rx
 obtain⟨t',rfl⟩:=ry
 exact rule i j t t' s _ _ hc ⟨.int (g i j),H,I.tok _,⟨_,rfl⟩,q⟩
theorem opI0{f:Value->Value->Sem Value}{g:Int->Int->Int}
  (rule:∀(i j:Int) (t u:Tok) (s:Shared) (Q:Value->Shared->Prop) (E:Value->Shared->Prop),Q (.int (g i j) s.toks) { s with toks:=s.toks+1 }->wpAny (model X.prog X.w) X.A (f (.int i t) (.int j u)) Q E s) :
  OpR X f (rI0 λi j=>.int (g i j)):=by
 intro pins s σ H x y v u Q I rx ry h
 obtain⟨i,j,rfl,rfl,q⟩:=h
 obtain⟨t,rfl⟩:=rx
 obtain⟨t',rfl⟩:=ry
 exact rule i j t t' s _ _ ⟨.int (g i j),H,I.tok _,⟨_,rfl⟩,q⟩
theorem opB0{f:Value->Value->Sem Value}{g:Int->Int->Bool}
  (rule:∀(i j:Int) (t u:Tok) (s:Shared) (Q:Value->Shared->Prop) (E:Value->Shared->Prop),Q (.bool (g i j)) s->wpAny (model X.prog X.w) X.A (f (.int i t) (.int j u)) Q E s) :
  OpR X f (rI0 λi j=>.bl (g i j)):=by
 intro pins s σ H x y v u Q I rx ry h
 obtain⟨i,j,rfl,rfl,q⟩:=h
 obtain⟨t,rfl⟩:=rx
 obtain⟨t',rfl⟩:=ry
 exact rule i j t t' s _ _ ⟨.bl (g i j),H,I,rfl,q⟩
def CDiv(i j:Int):Prop:=0<j/\j<1073741824
def CPow(i j:Int):Prop:=0<=j/\j<=1000000/\i.natAbs<2^64
def CMul(i j:Int):Prop:=(-(2^64)<i/\i<2^64)\/(-(2^64)<j/\j<2^64)
theorem CMul.ok{i j:Int}(h:CMul i j):IntMulOk i j:=by
 rcases h with ⟨h1,h2⟩|⟨h1,h2⟩
 ·exact .of_left (intBits_le_64 h1 h2)
 ·exact .of_right (intBits_le_64 h1 h2)
theorem op_add:OpR X (binaryOp .Add) (rI0 λi j=>.int (i+j)):=opI0 λ_ _ _ _ _ _ _ q=>add_int q
theorem zcT_:OpR X (binaryOp .Sub) (rI0 λi j=>.int (i - j)):=opI0 λ_ _ _ _ _ _ _ q=>sub_int q
theorem Yb_:OpR X (binaryOp .Mult) (rI CMul λi j=>.int (i*j)):=opI λ_ _ _ _ _ _ _ hc q=>mul_int q hc.ok
theorem W6_:OpR X (binaryOp .FloorDiv) (rI CDiv λi j=>.int (i / j)):=opI λi j _ _ _ _ _ hc q=>by
 have h1:(0:Int)<j:=hc.1
 have h2:j<1073741824:=hc.2
 exact floordiv_int (by lia) (by rw[Int.fdiv_eq_ediv_of_nonneg i (by lia)];exact q) (.inl (PyProof.noPylong_small (by lia)))
theorem ZM_:OpR X (binaryOp .Mod) (rI (λ_ j=>0<j) λi j=>.int (i % j)):=opI λi j _ _ _ _ _ hc q=>by
 have h1:(0:Int)<j:=hc
 exact mod_int' (by lia) (by rw[Int.fmod_eq_emod_of_nonneg i (by lia)];exact q)
theorem zgO_:OpR X (binaryOp .Pow) (rI CPow λi j=>.int (i^j.toNat)):=opI λ_ _ _ _ _ _ _ hc q=>pow_int_small hc.1 hc.2.1 hc.2.2 q
theorem unI{f:Value->Sem Value}{g:Int->Int}
  (rule:∀(i:Int) (t:Tok) (s:Shared) (Q:Value->Shared->Prop) (E:Value->Shared->Prop),Q (.int (g i) s.toks) { s with toks:=s.toks+1 }->wpAny (model X.prog X.w) X.A (f (.int i t)) Q E s) :
  UnR X f (rU λi=>.int (g i)):=by
 intro pins s σ H x v Q I rx h
 obtain⟨i,rfl,q⟩:=h
 obtain⟨t,rfl⟩:=rx
 exact rule i t s _ _ ⟨.int (g i),H,I.tok _,⟨_,rfl⟩,q⟩
theorem UN_:UnR X (unaryOp .USub) (rU λi=>.int (-i)):=unI λ_ _ _ _ _ q=>neg_int q
end
section
variable {X:Cx}{a b c:Expr}{ta tb tc:TE}{pos:Pos}
theorem XV_{pins:List (Addr×Obj)}{σ:St}{H:Hp}{s:Shared}{Q:VK}{k k':Bool}(I:Inv X pins σ H s)(q:Q (.bl k) H)(e:k=k'):EP X pins σ Q (.bool k') s:=by
 subst e
 exact⟨.bl k,H,I,rfl,q⟩
theorem ziD_:OpR X (compareOp .Lt) (rI0 λi j=>.bl (decide (i<j))):=opB0 λ_ _ _ _ _ _ _ q=>lt_int q
theorem ziE_:OpR X (compareOp .LtE) (rI0 λi j=>.bl (decide (i<=j))):=opB0 λ_ _ _ _ _ _ _ q=>le_int q
theorem W5_:OpR X (compareOp .Gt) (rI0 λi j=>.bl (decide (j<i))):=opB0 λ_ _ _ _ _ _ _ q=>gt_int q
theorem zew_:OpR X (compareOp .GtE) (rI0 λi j=>.bl (decide (j<=i))):=opB0 λ_ _ _ _ _ _ _ q=>ge_int q
theorem zgR_:OpR X (compareOp .Is) (λx y H Q=>y=.non/\Q (.bl (decide (x=.non))) H):=by
 intro pins s σ H x y v u Q I rx ry h
 obtain⟨rfl,q⟩:=h
 cases ry
 refine is_none_gen (XV_ I q ?_)
 cases x<;>first
  | (cases rx;rfl)
  | (obtain⟨t,rfl⟩:=rx;rfl)
theorem zev_:OpR X (compareOp .IsNot) (λx y H Q=>y=.non/\Q (.bl (!decide (x=.non))) H):=by
 intro pins s σ H x y v u Q I rx ry h
 obtain⟨rfl,q⟩:=h
 cases ry
 refine isnot_none_gen (XV_ I q ?_)
 cases x<;>first
  | (cases rx;rfl)
  | (obtain⟨t,rfl⟩:=rx;rfl)
theorem Ya_:OpR X (compareOp .NotIn) (λx y H Q=>∃i j,x=.str i/\y=.str j/\Q (.bl (!(!(Builtin.Str.occurrences j i 0 j.length 1).isEmpty))) H):=by
 intro pins s σ H x y v u Q I rx ry h
 obtain⟨i,j,rfl,rfl,q⟩:=h
 obtain⟨t,rfl⟩:=rx
 obtain⟨t',rfl⟩:=ry
 exact notIn_str (XV_ I q rfl)
theorem OpR.or{f:Value->Value->Sem Value}{r r':R2}(h:OpR X f r)(h':OpR X f r'):OpR X f (λx y H Q=>r x y H Q\/r' x y H Q):=by
 intro pins s σ H x y v u Q I rx ry q
 rcases q with q|q
 ·exact h pins s σ H x y v u Q I rx ry q
 ·exact h' pins s σ H x y v u Q I rx ry q
theorem W2_{op:CmpOp}{r:R2}(ho:OpR X (compareOp op) r)(ha:PE X a ta)(hb:PE X b tb)(hm:behindInMarks op b=false):PE X (.Compare a [op] [b] pos) (tOp r ta tb):=by
 intro pins s σ H Q I h
 exact wpAny_Compare1 (binT ha hb I h λv u s2 x y H2 I2 rx ry q=>ho pins s2 σ H2 x y v u Q I2 rx ry q) hm
noncomputable def zhX_(t:TE):TT:=λσ H Q=>t σ H λx H'=>∃k,x=.bl k/\Q k H'
theorem WW_{op:CmpOp}{r:R2}(ho:OpR X (compareOp op) r)(ha:PE X a ta)(hb:PE X b tb)(hm:behindInMarks op b=false):PT X (.Compare a [op] [b] pos) (zhX_ (tOp r ta tb)):=by
 intro pins s σ H Q I h
 refine wpAny_isTrue_Compare1 (thn (ha pins s σ H _ I h) λv s1 ⟨x,H1,I1,r1,q1⟩=>thn (hb pins s1 σ H1 _ I1 q1) λu s2 ⟨y,H2,I2,r2,q2⟩ =>
  thn (ho pins s2 σ H2 x y v u _ I2 r1 r2 q2) λc s3 ⟨z,H3,I3,r3,k,e,q3⟩=>?_) hm
 subst e
 cases r3
 exact wpAny_truthy_bool ⟨H3,I3,q3⟩
noncomputable def zcH_(r r':R2)(ta tb tc:TE):TE:=λσ H Q=>ta σ H λx H1=>tb σ H1 λy H2=>r x y H2 λz H3=>∃k,z=.bl k /\
 (if k=true then tc σ H3 λw' H4=>r' y w' H4 Q else Q (.bl false) H3)
theorem zbj_{op op':CmpOp}{r r':R2}(ho:OpR X (compareOp op) r)(ho':OpR X (compareOp op') r')(ha:PE X a ta)(hb:PE X b tb)(hc:PE X c tc)
  (hm:lastMarks [op,op'] [b,c]=false:=by with_unfolding_all rfl):PE X (.Compare a [op,op'] [b,c] pos) (zcH_ r r' ta tb tc):=by
 intro pins s σ H Q I h
 refine Compare_chain (thn (ha pins s σ H _ I h) λv s1 ⟨x,H1,I1,r1,q1⟩=>chain_link (thn (hb pins s1 σ H1 _ I1 q1) λu s2 ⟨y,H2,I2,r2,q2⟩ =>
  thn (ho pins s2 σ H2 x y v u _ I2 r1 r2 q2) λd s3 ⟨z,H3,I3,r3,k,e,q3⟩=>?_)) hm
 subst e
 cases r3
 refine wpAny_truthy_bool ?_
 cases k with
 | false=>exact ite_ff ⟨.bl false,H3,I3,rfl,q3⟩
 | true=>exact ite_tt (chain_last (thn (hc pins s3 σ H3 _ I3 q3) λw' s4 ⟨z',H4,I4,r4,q4⟩=>ho' pins s4 σ H4 y z' u w' Q I4 r2 r4 q4))
def TruV(K:PySem.W.Frag)(x:V)(H:Hp)(k:Bool):Prop :=
 match x with
 | .non=>k=false
 | .bl b=>k=b
 | .int i=>k=(i != 0)
 | .str y=>y.length<=sizeLine/\k=((y.length:Int) != 0)
 | .byt y=>y.size<=sizeLine/\k=((y.size:Int) != 0)
 | .ref p=>(∃xs,SqL K H p xs/\k = !xs.isEmpty)\/(∃xs,SqT K H p xs/\k = !xs.isEmpty)\/∃kvs,H p=some (.dK kvs)/\k = !kvs.isEmpty
 | _=>False
theorem V8_{κ:Type}{kvs:List (κ×V)}{vs:List (κ×Value)}(r:KV kvs vs):(!vs.isEmpty) = !kvs.isEmpty:=by
 cases r<;>rfl
theorem JL_{xs:List V}{its:List Value}(r:Vals xs its):(!its.toArray.isEmpty) = !xs.isEmpty:=by
 cases r<;>simp
theorem y6_:(sizeLine:Nat)<2^63:=by rw[sizeLine_eq];decide
theorem zfG_:TruR X (λx H Q=>∃k,TruV X.K x H k/\Q k H):=by
 intro pins s σ H x v Q I rx h
 obtain⟨k,e,q⟩:=h
 have hl:=y6_
 have hs:sizeLine=16777216:=sizeLine_eq
 cases x with
 | non =>
  cases rx
  have e':k=false:=e
  subst e'
  exact truthy_none ⟨H,I,q⟩
 | bl b =>
  cases rx
  have e':k=b:=e
  subst e'
  exact wpAny_truthy_bool ⟨H,I,q⟩
 | int i =>
  obtain⟨t,rfl⟩:=rx
  have e':k=(i != 0):=e
  subst e'
  exact PySem.P.truthy_int ⟨H,I,q⟩
 | str y =>
  obtain⟨t,rfl⟩:=rx
  obtain⟨hy,e'⟩:y.length<=sizeLine/\k=((y.length:Int) != 0):=e
  subst e'
  exact PySem.P.truthy_str (by lia) ⟨H,I.tok _,q⟩
 | byt y =>
  obtain⟨t,rfl⟩:=rx
  obtain⟨hy,e'⟩:y.size<=sizeLine/\k=((y.size:Int) != 0):=e
  subst e'
  exact PySem.W.truthy_bytes (by lia) ⟨H,I.tok _,q⟩
 | ref p =>
  cases rx
  have e':(∃xs,SqL X.K H p xs/\k = !xs.isEmpty)\/(∃xs,SqT X.K H p xs/\k = !xs.isEmpty)\/∃kvs,H p=some (.dK kvs)/\k = !kvs.isEmpty:=e
  rcases e' with ⟨xs,hx,e'⟩|⟨xs,hx,e'⟩|⟨kvs,hx,e'⟩
  ·subst e'
   obtain⟨its,r,pl,hz⟩:=I.list hx
   have hlen:=r.length
   exact wpAny_truthy_list pl.isList (by simp only[List.size_toArray];lia) ⟨H,I.tok _,by rw[JL_ r];exact q⟩
  ·subst e'
   obtain⟨its,r,pl,hz⟩:=I.tuple hx
   have hlen:=r.length
   exact truthy_tuple pl (by simp only[List.size_toArray];lia) ⟨H,I.tok _,by rw[JL_ r];exact q⟩
  ·subst e'
   obtain⟨hz,hS,vs,r,m⟩:kvs.length<=sizeLine/\(p==sysModules)=false/\∃vs,KV kvs vs/\s.heap.DictOf (zE_ X.prog X.w) p vs:=I.hok p _ hx
   have hlen:kvs.length=vs.length:=Paired.length r
   exact wpAny_truthy_dict hS m (by lia) ⟨H,I.tok _,by rw[V8_ r];exact q⟩
 | _=>exact(show False from e).elim
theorem QV_(ha:PE X a ta)(he:∀whole,isTrue a X.env whole=(do let v <-whole;standAt a.pos;holding [v] (truthy v))) :
  PT X a (λσ H Q=>ta σ H λx H'=>∃k,TruV X.K x H' k/\Q k H'):=by
 intro pins s σ H Q I h
 exact isTrue_plain (thn (ha pins s σ H _ I h) λv s1 ⟨x,H1,I1,r1,q1⟩=>zfG_ pins s1 σ H1 x v Q I1 r1 q1) (he _)
theorem VP_:OpR X (binaryOp .Add) (λx y H Q=>∃i j,x=.str i/\y=.str j/\i.length+j.length<=sizeLine/\Q (.str (i++j)) H):=by
 intro pins s σ H x y v u Q I rx ry h
 obtain⟨i,j,rfl,rfl,hz,q⟩:=h
 obtain⟨t,rfl⟩:=rx
 obtain⟨t',rfl⟩:=ry
 exact add_str (λt' tk=>⟨.str (i++j),H,I.tok _,⟨_,rfl⟩,q⟩) hz
theorem vals1{x:V}{us:List Value}(r:Vals [x] us):∃u,us=[u]/\RelV x u:=by
 cases r with
 | cons r1 r2=>cases r2;exact⟨_,rfl,r1⟩
theorem vals2{x y:V}{us:List Value}(r:Vals [x,y] us):∃u w',us=[u,w']/\RelV x u/\RelV y w':=by
 cases r with
 | cons r1 r2 =>
  cases r2 with
  | cons r3 r4=>cases r4;exact⟨_,_,rfl,r1,r3⟩
theorem Vp_:CallR X (.builtin "abs") (λxs H Q=>∃i,xs=[.int i]/\Q (.int (if i<0 then -i else i)) H):=by
 intro pins s σ H xs us Q I r h
 obtain⟨i,rfl,q⟩:=h
 obtain⟨u,rfl,t,rfl⟩:=vals1 r
 exact call_abs_int λu tk=>⟨.int (if i<0 then -i else i),H,I.tok _,⟨_,rfl⟩,q⟩
theorem zaf_(hc:X.calm=true):CallR X (.builtin "min") (λxs H Q=>∃i j,xs=[.int i,.int j]/\Q (.int (if j<i then j else i)) H):=by
 intro pins s σ H xs us Q I r h
 obtain⟨i,j,rfl,q⟩:=h
 obtain⟨u,w',rfl,⟨t,rfl⟩,⟨t',rfl⟩⟩:=vals2 r
 refine min_two_ints (I.ok.hd hc) λh' tk k=>⟨_,H,I.kept k,?_,q⟩
 by_cases hj:j<i
 ·rw[if_pos hj,if_pos hj];exact⟨_,rfl⟩
 ·rw[if_neg hj,if_neg hj];exact⟨_,rfl⟩
theorem zah_:CallR X (.type "int") (λxs H Q=>(∃i,xs=[.int i]/\Q (.int i) H)\/∃k,xs=[.bl k]/\Q (.int (if k then 1 else 0)) H):=by
 intro pins s σ H xs us Q I r h
 rcases h with ⟨i,rfl,q⟩|⟨k,rfl,q⟩
 ·obtain⟨u,rfl,t,rfl⟩:=vals1 r
  exact call_int_int ⟨.int i,H,I,⟨_,rfl⟩,q⟩
 ·obtain⟨u,rfl,r1⟩:=vals1 r
  cases r1
  exact call_int_bool ⟨.int (if k then 1 else 0),H,I.tok _,⟨_,rfl⟩,q⟩
end
theorem Xt_{h:Heap}{dx:Addr}{mA:Str->Option Value}(n:h.Ns1 dx mA):∃od,h.get? dx=some od/\∀name,PySem.W.lookIn name od=some (mA name):=by
 obtain⟨o,es,ep,ho,hd,hk,_,hm⟩:=n
 refine⟨o,ho,λname=>?_⟩
 have e:=hm name
 unfold nsFind findBy at e
 rw[<-Array.find?_toList]at e
 unfold PySem.W.lookIn
 rw[hd]
 dsimp only
 split
 ·rename_i y q
  rw[q]at e
  exact congrArg some e
 ·rename_i q
  rw[q]at e
  have a:es.toList.any (·.refKey)=false:=by
   rw[List.any_eq_false]
   intro y hy
   obtain⟨z,t,hkey⟩:=hk y (Array.mem_toList_iff.mp hy)
   simp[DictEntry.refKey,hkey]
  have a':¬ es.toList.any (·.refKey)=true:=by rw[a];exact Bool.false_ne_true
  rw[if_neg a']
  exact congrArg some e
theorem RelO.some_of{v:V}{o:Option Value}(r:RelO (some v) o):∃u,o=some u/\RelV v u:=by
 cases o with
 | none=>exact(show False from r).elim
 | some u=>exact⟨u,rfl,r⟩
def up_(K:PySem.W.Frag)(C:Addr)(f:Str):Prop:=PySem.W.findIn K (.ref C) f=some none
structure Room(k:Nat)(A:Around):Prop where
 hd:A.handled=none
 dp:A.depth+3*k+5<recursionLimit
 un:A.units+16*k+1200<cLine
 gd:A.guards=some []
theorem Room.mono{j k:Nat}{A:Around}(r:Room k A)(h:j<=k):Room j A:=⟨r.hd,by have:=r.dp;lia,by have:=r.un;lia,r.gd⟩
theorem Room.deeper{k:Nat}{A:Around}(r:Room (k+1) A)(env:Env):Room k (A.deeper env) :=
 ⟨r.hd,by have:=r.dp;show A.depth+1+3*k+5<_;lia,by have:=r.un;show A.units+3+16*k+1200<_;lia,r.gd⟩
theorem V0_{A:Around}{C:Addr}{us:List Value}{kw:List (Str×Value)}:(A.under (.builtin "type.__call__" ⟨.ref C::us,kw⟩)).depth=A.depth+1:=by
 first|rfl|simp[Around.under,Code.weight,Code.isCreation,Code.isGuard,Code.isCaller,Code.frames,Code.isFrame,guardIds]
theorem VZ_{A:Around}{C:Addr}{us:List Value}{kw:List (Str×Value)}:(A.under (.builtin "type.__call__" ⟨.ref C::us,kw⟩)).units=A.units+1:=by
 first|rfl|simp[Around.under,Code.cUnits,Code.frames,Code.isFrame]
theorem Room.make{k:Nat}{A:Around}(r:Room (k+1) A)(C:Addr)(us:List Value)(kw:List (Str×Value)):Room k (A.under (.builtin "type.__call__" ⟨.ref C::us,kw⟩)) :=
 ⟨r.hd,by have:=r.dp;rw[V0_];lia,by have:=r.un;rw[VZ_];lia,by first|exact r.gd|simpa[Around.under,Code.isGuard,guardIds]using r.gd⟩
theorem Room.depth{k:Nat}{A:Around}(r:Room k A):A.depth<recursionLimit:=by have:=r.dp;lia
noncomputable def tNil:TA:=λ_ H Q=>Q [] H
noncomputable def zid_(ta:TE)(tr:TA):TA:=λσ H Q=>ta σ H λx H1=>tr σ H1 λxs H2=>Q (x::xs) H2
section
variable {X:Cx}{e:Expr}{es:List Expr}{te:TE}{t:TA}{pos:Pos}
theorem QY_:PA X [] tNil:=λ_ _ _ _ H Q I h=>Calls.spliced_nil ⟨[],H,I,.nil,h⟩
theorem yK_(ha:PE X e te)(hr:PA X es t)(hs:starEach (e::es) X.env=(false,eval e X.env)::starEach es X.env:=by rfl):PA X (e::es) (zid_ te t):=by
 intro pos pins s σ H Q I h
 rw[hs]
 show wpAny _ _ (spliced ((false,eval e X.env)::backTo pos (starEach es X.env))) _ _ s
 refine Calls.spliced_cons (thn (ha pins s σ H _ I h) λu s1 ⟨x,H1,I1,r1,q1⟩=>?_)
 exact thn (hr pos pins s1 σ H1 _ I1 q1) λus s2 ⟨xs,H2,I2,r2,q2⟩=>⟨x::xs,H2,I2,.cons r1 r2,q2⟩
def tTup(t:TA):TE:=λσ H Q=>t σ H λxs H1=>xs.length<=sizeLine/\∀p,H1 p=none->Q (.ref p) (upd H1 p (.tup xs))
def tLst(t:TA):TE:=λσ H Q=>t σ H λxs H1=>xs.length<=sizeLine/\∀p,H1 p=none->Q (.ref p) (upd H1 p (.lst xs))
theorem zcQ_{x1}(h:PA X es t):PE X (.Tuple es x1 pos) (tTup t):=by
 intro pins s σ H Q I hq
 refine wpAny_Tuple_spliced (thn (h pos pins s σ H _ I hq) λus s1 ⟨xs,H1,I1,r,z,q⟩=>⟨by rw[<-r.length];exact z,?_⟩)
 have hf:H1 s1.heap.objs.size=none:=I1.hok.fresh (Nat.le_refl _)
 refine⟨.ref s1.heap.objs.size,upd H1 s1.heap.objs.size (.tup xs),I1.laid (t':=s1.toks) (λb u e=>zzc _ e) (Nat.le_refl _) ?_,rfl,q _ hf⟩
 exact⟨z,us,r,⟨_,zze _ rfl,rfl,_,rfl⟩,⟨_,zze _ rfl,rfl⟩⟩
theorem zcR_(h:PA X es t):PE X (.List es pos) (tLst t):=by
 intro pins s σ H Q I hq
 refine wpAny_List_spliced (thn (h pos pins s σ H _ I hq) λus s1 ⟨xs,H1,I1,r,z,q⟩=>⟨by rw[<-r.length];exact z,?_⟩)
 have hf:H1 s1.heap.objs.size=none:=I1.hok.fresh (Nat.le_refl _)
 refine⟨.ref s1.heap.objs.size,upd H1 s1.heap.objs.size (.lst xs),I1.laid (t':=s1.toks) (λb u e=>zzc _ e) (Nat.le_refl _) ?_,rfl,q _ hf⟩
 exact⟨z,us,0,r,zze _ rfl⟩
end
noncomputable abbrev Sp:=List V->Hp->VK->XK->Prop
noncomputable abbrev CXT:=List Env->Hp->Shared->XK->Value->Shared->Prop
structure Env0(P:Program)(w:World)(K:PySem.W.Frag)(mg:Str->Option Value)(base:Heap)(A:Around)(outer:List Env)(s:Shared)(H:Hp):Prop where
 frames:A.frames=some outer
 mod:Mod K mg base
 bs:∀b o,base.get? b=some o->s.heap.get? b=some o/\H b=none
 bsz:base.objs.size<=s.heap.objs.size
 funs:s.heap.FunFrames base outer
 frf:∀b∈frs outer,H b=none
 hok:HOk P w H s.heap
 bare:AllBare s.gens
def CE(outer:List Env)(P:Program)(w:World)(H:Hp)(s:Shared)(Q:VK)(u:Value)(s':Shared):Prop :=
 ∃v H',s'.os=s.os/\AllBare s'.gens/\Un (frs outer) [] H H' s.heap s'.heap/\HOk P w H' s'.heap/\RelV v u/\Q v H'
def CR(CX:CXT)(outer:List Env)(P:Program)(w:World)(H:Hp)(s:Shared)(Q:VK)(E:XK)(r:Result)(s':Shared):Prop :=
 match r with
 | .ok (.ret u)=>CE outer P w H s Q u s'
 | .ok _=>False
 | .error e=>CX outer H s E e s'
structure FnOk(P:Program)(w:World)(K:PySem.W.Frag)(mg:Str->Option Value)(base:Heap)(CX:CXT)(k:Nat)(f:Addr)(fd:FuncData)(ps:List Str)(sp:Sp):Prop where
 len:∀vs H Q E,sp vs H Q E->vs.length=ps.length
 run:∀(A:Around) (outer:List Env) (s:Shared) (H:Hp) (args:Args) (us:List Value) (vs:List V) (Q:VK) (E:XK),Room k A->Env0 P w K mg base A outer s H->BindsTo s fd args (ps.zip us)->Vals vs us->sp vs H Q E ->
  codeAny (model P w) A (.call (.ref f) args) (CR CX outer P w H s Q E) s
theorem Env0.make{P:Program}{w:World}{K:PySem.W.Frag}{mg:Str->Option Value}{base:Heap}{A:Around}{outer:List Env}{s:Shared}{H:Hp}(e:Env0 P w K mg base A outer s H)(C:Addr)(us:List Value)(kw:List (Str×Value)) :
  Env0 P w K mg base (A.under (.builtin "type.__call__" ⟨.ref C::us,kw⟩)) outer s H:=⟨by first|exact e.frames|(simpa[Around.under,Code.envs,Code.isFrame,pushEnvs]using e.frames),e.mod,e.bs,e.bsz,e.funs,e.frf,e.hok,e.bare⟩
section
variable {X:Cx}{pins:List (Addr×Obj)}{σ:St}{H:Hp}{s s':Shared}
theorem Inv.env0(I:Inv X pins σ H s):Env0 X.prog X.w X.K X.mg X.base X.A X.stack s H :=
 ⟨I.ok.frames,I.ok.mod,I.bs,Nat.le_trans I.ok.bsz I.sz,I.stack,I.stkFree,I.hok,I.bare⟩
theorem Inv.after{Q:VK}{u:Value}(I:Inv X pins σ H s)(h:CE X.stack X.prog X.w H s Q u s'):EP X pins σ Q u s':=by
 obtain⟨v,H',os,bare,un,hok,r,q⟩:=h
 obtain⟨hh,g,d,t,os'⟩:=s'
 obtain rfl:os'=s.os:=os
 exact⟨v,H',I.call (h':=hh) (g':=g) (d':=d) (t':=t) (ch:=[]) un hok bare (λb z=>absurd z (by simp)),r,q⟩
end
def Binds(K:PySem.W.Frag)(fd:FuncData)(ps:List Str)(ds:List Value):Prop :=
 ∀(s:Shared) (us:List Value),K.In s.heap->(us++ds).length=ps.length->BindsTo s fd ⟨us,[]⟩ (ps.zip (us++ds))
theorem Binds.all{K:PySem.W.Frag}{fd:FuncData}{ps:List Str}(h:∀us:List Value,us.length=ps.length->bindArgs fd ⟨us,[]⟩=pure (ps.zip us)):Binds K fd ps []:=λs us _ hl=>by
 rw[List.append_nil]at hl ⊢
 exact .of_eq (h us hl)
structure FnScope(N P:List Str)(sc:Scope):Prop where
 kind:sc.kind=.function
 co:sc.isCoroutine=false
 gen:sc.isGenerator=false
 nd:N.Nodup
 pre:N.take P.length=P
 par:∀x∈P,sc.names.lookup x=some .local\/sc.names.lookup x=some .cell
 nofree:∀y∈sc.names,y.2≠.free
theorem YQ_{kindOf:Str->Option NameKind}{x:Str}:∀{binds:List (Str×Value)} {m:Str->Option Value},(∀v,(x,v)∉binds)->bindL kindOf binds m x=m x
 | [],_,_=>rfl
 | (n,v)::r,m,h=>by
  unfold bindL
  rw[YQ_ λw hw=>h w (zzg _ hw)]
  split
  ·have:x≠n:=by rintro rfl;exact h v List.mem_cons_self
   simp[this]
  ·rfl
theorem YS_{kindOf:Str->Option NameKind}{x:Str}:∀{binds:List (Str×Value)} {m:Str->Option Value},(∀v,(x,v)∉binds)->bindC kindOf binds m x=m x
 | [],_,_=>rfl
 | (n,v)::r,m,h=>by
  unfold bindC
  rw[YS_ λw hw=>h w (zzg _ hw)]
  split
  ·rfl
  ·have:x≠n:=by rintro rfl;exact h v List.mem_cons_self
   simp[this]
theorem YR_{kindOf:Str->Option NameKind}{x:Str}{v:Value}:∀{P:List Str} {vs:List Value} {i:Nat} {m:Str->Option Value},P.Nodup->P[i]? = some x->vs[i]? = some v->kindOf x=some .local ->
  bindL kindOf (P.zip vs) m x=some v
 | [],_,_,_,_,h,_,_=>by simp at h
 | _::_,[],_,_,_,_,h,_=>by simp at h
 | p::P,w::vs,0,m,nd,h1,h2,hk=>by
  simp at h1 h2;subst h1;subst h2
  show bindL kindOf ((p,w)::P.zip vs) m p=_
  unfold bindL
  rw[YQ_ λv hv=>(List.nodup_cons.mp nd).1 (List.of_mem_zip hv).1,if_pos hk]
  simp
 | p::P,w::vs,i+1,m,nd,h1,h2,hk=>by
  show bindL kindOf ((p,w)::P.zip vs) m x=_
  unfold bindL
  exact YR_ (i:=i) (List.nodup_cons.mp nd).2 (by simpa using h1) (by simpa using h2) hk
theorem YT_{kindOf:Str->Option NameKind}{x:Str}{v:Value}:∀{P:List Str} {vs:List Value} {i:Nat} {m:Str->Option Value},P.Nodup->P[i]? = some x->vs[i]? = some v->kindOf x≠some .local ->
  bindC kindOf (P.zip vs) m x=some v
 | [],_,_,_,_,h,_,_=>by simp at h
 | _::_,[],_,_,_,_,h,_=>by simp at h
 | p::P,w::vs,0,m,nd,h1,h2,hk=>by
  simp at h1 h2;subst h1;subst h2
  show bindC kindOf ((p,w)::P.zip vs) m p=_
  unfold bindC
  rw[YS_ λv hv=>(List.nodup_cons.mp nd).1 (List.of_mem_zip hv).1,if_neg hk]
  simp
 | p::P,w::vs,i+1,m,nd,h1,h2,hk=>by
  show bindC kindOf ((p,w)::P.zip vs) m x=_
  unfold bindC
  exact YT_ (i:=i) (List.nodup_cons.mp nd).2 (by simpa using h1) (by simpa using h2) hk
noncomputable def start(N:List Str)(vs:List V):St:=vs.map some++List.replicate (N.length - vs.length) none
noncomputable def cxOf(CX:CXT)(P:Program)(w:World)(K:PySem.W.Frag)(mg:Str->Option Value)(base:Heap)(N:List Str)(qual:Str)(scope:Scope)(f:Addr)(cd:Value)(A:Around)(outer:List Env)(s:Shared)(H:Hp)(E:XK):Cx where
 prog:=P
 w:=w
 K:=K
 mg:=mg
 base:=base
 A:=A.deeper (envOfC qual scope s.heap.objs.size f cd)
 N:=N
 s₀:=s
 H₀:=H
 env:=envOfC qual scope s.heap.objs.size f cd
 outer:=outer
 stack:=envOfC qual scope s.heap.objs.size f cd::outer
 ex:=[]
 calm:=true
 fn:=λ_=>true
 pn:=[]
 xe:=λe s'=>wpAny (model P w) (A.deeper (envOfC qual scope s.heap.objs.size f cd)) (leaving (envOfC qual scope s.heap.objs.size f cd) e) (λ_ s''=>CX outer H s E e s'') (λe' s''=>CX outer H s E e' s'') s'
theorem Vn_{sc:Scope}{n:Nat}{x:Str}(h:sc.names.lookup x=some .cell):∃c,(cellsFrom n sc.names []).lookup x=some c:=by
 have q:=PySem.W.cellsFrom_some sc.names n [] (.inl h)
 exact Option.isSome_iff_exists.mp q
theorem XL_{CX:CXT}{P:Program}{w:World}{K:PySem.W.Frag}{mg:Str->Option Value}{base:Heap}{N ps:List Str}{qual:Str}{scope:Scope}{f:Addr}{cd:Value}{A:Around}{outer:List Env}{s s1:Shared}{H:Hp}{E:XK}{us:List Value}{vs:List V}
  (S:FnScope N ps scope) (hd:A.handled=none) (e0:Env0 P w K mg base A outer s H) (hl:vs.length=ps.length) (r:Vals vs us)
  (x:InCallC s s.heap.objs.size (bindL (envOfC qual scope s.heap.objs.size f cd).kindOf (ps.zip us) λ_=>none) (cellsFrom (s.heap.objs.size+1) scope.names []) (bindC (envOfC qual scope s.heap.objs.size f cd).kindOf (ps.zip us) λ_=>none) s1) :
  Inv (cxOf CX P w K mg base N qual scope f cd A outer s H E) [] (start N vs) H s1:=by
 have hpl:ps.length<=N.length:=by have:=congrArg List.length S.pre;rw[List.length_take]at this;lia
 obtain⟨h1,tk,rfl,hk⟩:=x.done
 have noA:∀b:Addr,b∉(cxOf CX P w K mg base N qual scope f cd A outer s H E).ex:=λb z=>absurd (show b∈([]:List Addr)from z) (by simp)
 refine⟨⟨e0.mod,S.kind,rfl,rfl,Nat.le_refl _,λy z c h1 h2=>?_,λy hy=>?_,λy c _ h=>?_,λ_=>hd,Around.frames_deeper e0.frames,.inr ⟨rfl,rfl⟩,λb z=>absurd z (noA b),e0.bs,e0.bsz,λb _ _=>noA b,λb z=>absurd z (noA b),e0.funs,e0.frf⟩,
  rfl,e0.bare,Un.kept hk,⟨_,x.toInCall.ns,λi y v h1 h2 h3=>?_⟩,λy c h=>⟨_,x.cell y c h⟩,e0.hok.fresh (Nat.le_refl _),λy c h=>?_,λp hp=>absurd (show p∈([]:List (Addr×Obj))from hp) (by simp),e0.hok.kept hk,?_⟩
 ·exact name_of_addr x.apart (PySem.mem_of_lookup h1) (PySem.mem_of_lookup h2)
 ·have hy:scope.names.lookup y=some .cell\/scope.names.lookup y=some .free:=hy
  rcases hy with hy|hy
  ·exact Vn_ hy
  ·exact absurd rfl (S.nofree _ (PySem.mem_of_lookup hy))
 ·exact Nat.le_of_lt (x.above y c (PySem.mem_of_lookup h))
 ·have hi:i<vs.length:=by
   unfold start at h2
   by_cases hi:i<vs.length
   ·exact hi
   ·rw[List.getElem?_append_right (by simpa using hi)]at h2
    rw[List.getElem?_replicate]at h2
    split at h2<;>cases h2
  have ha:vs[i]? = some v:=by
   unfold start at h2
   rw[List.getElem?_append_left (by simpa using hi),List.getElem?_map]at h2
   cases e:vs[i]? with
   | none=>rw[e]at h2;cases h2
   | some a=>rw[e]at h2;cases h2;rfl
  obtain⟨u,hu,rv⟩:=r.get ha
  have hp:ps[i]? = some y:=by
   rw[<-S.pre,List.getElem?_take_of_lt (by lia)];exact h1
  have ndP:ps.Nodup:=by rw[<-S.pre];exact S.nd.sublist (List.take_sublist _ _)
  refine⟨u,rv,?_⟩
  rcases S.par y (List.mem_of_getElem? hp)with k|k
  ·exact .inl ⟨k,YR_ ndP hp hu k⟩
  ·obtain⟨c,e⟩:=Vn_ (n:=s.heap.objs.size+1) k
   refine .inr ⟨.inl k,c,e,?_⟩
   have q:=x.cell y c e
   rw[YT_ ndP hp hu (by show scope.names.lookup y≠_;rw[k];decide)]at q
   exact q
 ·exact e0.hok.fresh (Nat.le_of_lt (x.above y c (PySem.mem_of_lookup h)))
 ·unfold start
  show _=N.length
  rw[zzf,zzd,List.length_replicate]
  lia
theorem zhA_{CX:CXT}{P:Program}{w:World}{K:PySem.W.Frag}{mg:Str->Option Value}{base:Heap}{k:Nat}{f:Addr}{name qual:Str}{params:Arguments}{body:List Stmt}{scope:Scope}{dV kV doc pm cdv ct oc:Value}{an od:Option Addr}
  {osl:Array (Option Value)} {N ps:List Str} {sp:Sp} (lk:K.lookup f=some ⟨oc,od,.func (PySem.W.fnOf name qual params body scope dV kV doc pm an cdv ct),osl⟩) (hcd:PySem.W.codeIn K cdv qual=true) (S:FnScope N ps scope)
  (len:∀vs H Q E,sp vs H Q E->vs.length=ps.length)
  (hbody:∀(A:Around) (outer:List Env) (s:Shared) (H:Hp) (vs:List V) (Q:VK) (E:XK),Room k (A.deeper (envOfC qual scope s.heap.objs.size f cdv))->sp vs H Q E ->
   ∃t,PSs (cxOf CX P w K mg base N qual scope f cdv A outer s H E) body t/\t { nx:=λ_ H'=>Q .non H',rt:=Q } (start N vs) H) :
  FnOk P w K mg base CX (k+1) f (PySem.W.fnOf name qual params body scope dV kV doc pm an cdv ct) ps sp:=by
 refine⟨len,λA outer s H args us vs Q E hr e0 hb r hsp=>?_⟩
 have hl:=len _ _ _ _ hsp
 have KX:K.In s.heap:=e0.mod.kin.keeps λb o e=>(e0.bs b o e).1
 have lim:s.heap.NoLimit:=e0.mod.nolimit.keeps λb o e=>(e0.bs b o e).1
 have hkind:∀y∈ps.zip us,scope.names.lookup y.1=some .local\/(scope.names.lookup y.1=some .cell/\((cellsFrom (s.heap.objs.size+1) scope.names []).lookup y.1).isSome=true):=λ⟨n,v⟩ hy=>by
  rcases S.par n (List.of_mem_zip hy).1 with q|q
  ·exact .inl q
  ·exact .inr ⟨q,PySem.W.cellsFrom_some _ _ _ (.inl q)⟩
 refine codeAny_call_function hr.depth (KX _ _ lk) rfl S.co S.gen rfl (PySem.W.codeRec_of KX hcd) (hb _ _ _ _ ?_)
 refine wpAny_newFunctionEnv_cells S.kind hkind λenv he s1 x=>?_
 subst he
 refine⟨lim.keeps x.toInCall.keep,codeAny_func ?_⟩
 obtain⟨t,ht,hq⟩:=hbody A outer s H vs Q E (hr.deeper _) hsp
 have I:Inv (cxOf CX P w K mg base N qual scope f cdv A outer s H E) [] (start N vs) H s1:=XL_ S hr.hd e0 hl r x
 refine wpAny_mono (ht [] s1 (start N vs) H _ I hq) (λfl s' hs=>?_) λe s' hs=>hs
 have fin:∀{σ':St} {H':Hp} {v:V} {u:Value},Inv (cxOf CX P w K mg base N qual scope f cdv A outer s H E) [] σ' H' s'->RelV v u->Q v H'->CE outer P w H s Q u s' :=
  λ{σ' H' v u} J rv q=>⟨v,H',J.os,J.bare,J.base,J.hok,rv,q⟩
 cases fl with
 | ret u =>
  obtain⟨v,σ',H',J,rv,q⟩:=hs
  exact fin J rv q
 | next =>
  obtain⟨σ',H',J,q⟩:=hs
  exact fin (v:=V.non) (u:=Value.none) J rfl q
 | brk =>
  obtain⟨_,_,_,q⟩:=hs
  exact False.elim q
 | cont =>
  obtain⟨_,_,_,q⟩:=hs
  exact False.elim q
section
variable {X:Cx}{x:Str}{p pos:Pos}{e:Expr}{es:List Expr}{t:TA}{id T:String}{r:List V->Hp->VK->Prop}
noncomputable def tCB(r:List V->Hp->VK->Prop)(t:TA):TE:=λσ H Q=>t σ H λvs H1=>r vs H1 Q
theorem Zj_(hc:CallR X (.builtin id) r)(hg:Gl X x)(hm:X.mg x=none)(hv:bootBuiltins x=some (.builtin id))(ha:PA X (e::es) t)(hn:x ≠ "__name__":=by decide)(hdb:(x==("__debug__" : Str))=false:=by decide)
  (he:starEach (e::es) X.env=(false,eval e X.env)::starEach es X.env:=by rfl) (hpl:(backTo pos (starEach es X.env)).any (·.1)=false:=by rfl):PE X (.Call (.Name x p) (e::es) [] pos) (tCB r t):=by
 intro pins s σ H Q I h
 refine wpAny_Call_Name_kw (uN_ I hg hm hv ?_ hn hdb)
 exact PyProof.Rows.callWith_builtin1 (thn (ha pos pins s σ H _ I h) λus s1 ⟨vs,H1,I1,r1,q1⟩=>hc pins s1 σ H1 vs us Q I1 r1 q1) he hpl
theorem ZL_(hc:CallR X (.type T) r)(hg:Gl X x)(hm:X.mg x=none)(hv:bootBuiltins x=some (.type T))(ha:PA X (e::es) t)(hn:x ≠ "__name__":=by decide)(hdb:(x==("__debug__" : Str))=false:=by decide)
  (he:starEach (e::es) X.env=(false,eval e X.env)::starEach es X.env:=by rfl) (hpl:(backTo pos (starEach es X.env)).any (·.1)=false:=by rfl):PE X (.Call (.Name x p) (e::es) [] pos) (tCB r t):=by
 intro pins s σ H Q I h
 refine wpAny_Call_Name_kw (uN_ I hg hm hv ?_ hn hdb)
 exact PyProof.Rows.callWith_type1 (thn (ha pos pins s σ H _ I h) λus s1 ⟨vs,H1,I1,r1,q1⟩=>hc pins s1 σ H1 vs us Q I1 r1 q1) he hpl
end
end L2
namespace HT
open PySem PyProof.Rows
noncomputable def lexLt:List Int->List Int->Bool
 | [],[]=>false
 | [],_::_=>true
 | _::_,[]=>false
 | x::xs,y::ys=>if x=y then lexLt xs ys else decide (x<y)
theorem lexLt_cons(x y:Int)(xs ys:List Int):lexLt (x::xs) (y::ys)=if x=y then lexLt xs ys else decide (x<y):=rfl
theorem lexLt_nil_nil:lexLt [] []=false:=rfl
theorem Jr_(y:Int)(ys:List Int):lexLt [] (y::ys)=true:=rfl
theorem Js_(x:Int)(xs:List Int):lexLt (x::xs) []=false:=rfl
theorem Vg_(A:Around)(s:Shared)(a:Int)(t:Tok)(c:Int)(u:Tok):∃e,SeqAt.EqAt A s (.int a t) (.int c u) e/\(e=true↔a=c) :=
 ⟨(a==c),SeqAt.EqAt.int_int a t c u,by simp⟩
theorem zaW_(A:Around)(s:Shared)(a:Int)(t:Tok)(c:Int)(u:Tok)(prog:Program)(w:World)(E:Value->Shared->Prop)(Q:Value->Shared->Prop)(h:Q (.bool (decide (a<c))) s) :
  wpAny (model prog w) A (richCompare .Lt (.int a t) (.int c u)) Q E s :=
 (PyProof.Rows.lt_int h:wpAny (model prog w) A (compareOp .Lt (.int a t) (.int c u)) Q E s)
section
open PySem.SeqAt
open PySem.AutoSeq1 (wpAny_loadPart')
open PySem.MeetsSeq PySem.MeetsSeq2 PySem.MeetsSeq3
theorem J1_(l b:Addr)(items items2:Array Value)(n n2:Nat)(dd dd2:Option Addr)(sl sl2:Array (Option Value))(ns ms:List Int)(hi:IntsAre items.toList ns)(hj:IntsAre items2.toList ms) :
  Meets (Builtin.«tuple.__lt__» ⟨[.ref l,.ref b],[]⟩)
   (λ_ R s=>s.heap.get? l=some { cls:=.type "tuple",dict:=dd,data:=.seq items n,slots:=sl }/\s.heap.get? b=some { cls:=.type "tuple",dict:=dd2,data:=.seq items2 n2,slots:=sl2 } /\
    R (.ok (.ret (.bool (lexLt ns ms)))) s) :=
 .of_wp λprog w A R s h=>by
  obtain⟨hp,g,d,tk,os⟩:=s;obtain⟨hl,hb,h⟩:=h
  have f2:=AutoSeq1.sub_tuple_tuple
  have z1:items.size=ns.length:=by rw[<-hi.length];simp
  have z2:items2.size=ms.length:=by rw[<-hj.length];simp
  wp_walk using wpAny_loadPart' hl,wpAny_loadPart' hb,wpAny_forIn_list _ (λrest b s'=>b.1=none/\s'=⟨hp,g,d,tk,os⟩/\∃(vs ws:List Value) (ns' ms':List Int),rest=vs.zip ws /\
   IntsAre vs ns'/\IntsAre ws ms'/\ns'.length+items2.size=ms'.length+items.size/\R (.ok (.ret (.bool (lexLt ns' ms')))) ⟨hp,g,d,tk,os⟩) _
  case turn =>
   rintro⟨y,x⟩ rest b s' ⟨hb',rfl,vs,ws,ns',ms',hz,hvi,hwi,hlen,hR⟩
   cases hvi with
   | nil=>rw[List.zip_nil_left]at hz;cases hz
   | cons a t hvi' =>
    cases hwi with
    | nil=>rw[List.zip_nil_right]at hz;cases hz
    | cons c u hwi' =>
     rw[List.zip_cons_cons]at hz
     injection hz with hyx hrest
     injection hyx with hy hx
     subst hy hx
     rw[lexLt_cons]at hR
     simp only[List.length_cons]at hlen
     obtain⟨e,he,hiff⟩:=Vg_ A.in1 ⟨hp,g,d,tk,os⟩ a t c u
     refine zza (he prog w _ _ ?_)
     cases e with
     | true =>
      rw[if_pos (hiff.mp rfl)]at hR
      wp_walk
      exact⟨rfl,rfl,_,_,_,_,hrest,hvi',hwi',by lia,hR⟩
     | false =>
      rw[if_neg (λq=>absurd (hiff.mpr q) Bool.false_ne_true)]at hR
      have hri:=zaW_ A.in1 ⟨hp,g,d,tk,os⟩ a t c u prog w
      wp_walk using hri
      exact⟨_,rfl,by simpa using hR⟩
  case fin =>
   rintro⟨b1,b2⟩ s' ⟨hb',rfl,vs,ws,ns',ms',hz,hvi,hwi,hlen,hR⟩
   simp only at hb'
   subst hb'
   have hv:lexLt ns' ms'=decide (items.size<items2.size):=by
    cases hvi with
    | nil =>
     cases hwi with
     | nil =>
      simp only[List.length_nil]at hlen
      rw[lexLt_nil_nil]
      exact(decide_eq_false (by lia)).symm
     | cons c u hw =>
      simp only[List.length_nil,List.length_cons]at hlen
      rw[Jr_]
      exact(decide_eq_true (by lia)).symm
    | cons a t hv =>
     cases hwi with
     | nil =>
      simp only[List.length_nil,List.length_cons]at hlen
      rw[Js_]
      exact(decide_eq_false (by lia)).symm
     | cons c u hw =>
      rw[List.zip_cons_cons]at hz
      cases hz
   rw[hv]at hR
   wp_walk
   exact⟨_,rfl,by simpa[Builtin.Tuple.tupleCompareSizes]using hR⟩
  case h =>
   exact⟨rfl,rfl,items.toList,items2.toList,ns,ms,rfl,hi,hj,by lia,h⟩
end
section
variable {prog:Program}{w:World}{A:Around}{E:Value->Shared->Prop}{s:Shared}
theorem lt_tupInts{l b:Addr}{items items2:Array Value}{ns ms:List Int}{Q:Value->Shared->Prop}(hl:IsTup s.heap l items)(hb:IsTup s.heap b items2)(hi:IntsAre items.toList ns)(hj:IntsAre items2.toList ms)
  (hu:A.units<cLine) (h:Q (.bool (lexLt ns ms)) s):wpAny (model prog w) A (compareOp .Lt (.ref l) (.ref b)) Q E s:=by
 obtain⟨⟨cls,dd,data,sl⟩,ho,hc,n,hd⟩:=id hl
 obtain⟨⟨cls2,dd2,data2,sl2⟩,ho2,hc2,n2,hd2⟩:=id hb
 simp only at hc hd hc2 hd2
 subst hc hd hc2 hd2
 exact richCompare_meets_room (op:=.Lt) ⟨_,ho,rfl⟩ ⟨_,ho2,rfl⟩ PySem.F.slot_tuple_lt PySem.F.entry_tuple_lt (PySem.F.args_tuple_lt_2 _ _) (J1_ l b items items2 n n2 dd dd2 sl sl2 ns ms hi hj)
  ⟨ho,ho2,show Value.bool (lexLt ns ms)≠Value.notImplemented/\Q (.bool (lexLt ns ms)) s from⟨(λx=>nomatch x),h⟩⟩ hu
theorem cat_tup{t b:Addr}{vs ws:List Value}{Q:Value->Shared->Prop}(ht:IsTup s.heap t vs.toArray)(hb:IsTup s.heap b ws.toArray)(hv:vs≠[])
  (h1:ws=[]->Q (.ref t) s) (h2:ws≠[]->Q (.ref s.heap.objs.size) { s with heap:=s.heap.push { cls:=.type "tuple",data:=.seq (vs++ws).toArray } })
  (hsz:vs.length+ws.length<=sizeLine):wpAny (model prog w) A (binaryOp .Add (.ref t) (.ref b)) Q E s:=by
 obtain⟨⟨cls,dd,data,sl⟩,ho,hc,n,hd⟩:=id ht
 obtain⟨⟨cls2,dd2,data2,sl2⟩,ho2,hc2,n2,hd2⟩:=id hb
 simp only at hc hd hc2 hd2
 subst hc hd hc2 hd2
 have e:vs.toArray++ws.toArray=(vs++ws).toArray:=by simp
 by_cases hw:ws=[]
 ·exact concat_meets ⟨_,ho,rfl⟩ ⟨_,ho2,rfl⟩ noFill_tuple_add seq_tuple_add PySem.F.slot_tuple_add PySem.F.entry_tuple_add (PySem.F.args_tuple_add_2 _ _)
   (tuple_addW1 t b vs.toArray ws.toArray n n2 dd dd2 sl sl2 (by simpa using hv) (by simp[hw])) ⟨ho,ho2,h1 hw⟩
 ·refine concat_meets ⟨_,ho,rfl⟩ ⟨_,ho2,rfl⟩ noFill_tuple_add seq_tuple_add PySem.F.slot_tuple_add PySem.F.entry_tuple_add (PySem.F.args_tuple_add_2 _ _)
   (tuple_addW2 t b vs.toArray ws.toArray n n2 dd dd2 sl sl2 (by simpa using hv) (by simpa using hw) (by rw[List.size_toArray,List.size_toArray];exact hsz)) ⟨ho,ho2,?_⟩
  rw[e]
  exact h2 hw
noncomputable def sIx(n d:Nat):Option Int->Nat
 | none=>d
 | some v=>if v<0 then(v+(n:Int)).toNat else min v.toNat n
theorem zfV_(n d:Nat)(hd:d<=n)(o:Option Int):sIx n d o<=n:=by
 cases o with
 | none=>exact hd
 | some v =>
  show(if v<0 then(v+(n:Int)).toNat else min v.toNat n)<=n
  by_cases hv:v<0
  ·rw[if_pos hv];lia
  ·rw[if_neg hv];exact Nat.min_le_right _ _
theorem zac_(v:Int)(n d:Nat):(if v<0 then max (v+(n:Int)) 0 else min v (n:Int))=((sIx n d (some v):Nat):Int):=by
 show(if v<0 then max (v+(n:Int)) 0 else min v (n:Int))=(((if v<0 then(v+(n:Int)).toNat else min v.toNat n):Nat):Int)
 by_cases hv:v<0
 ·simp only[if_pos hv];lia
 ·simp only[if_neg hv];lia
theorem Wm_(lo hi:Option Int)(n:Nat):Builtin.Slice.sliceAdjust lo hi 1 (n:Int)=(((sIx n 0 lo:Nat):Int),((sIx n n hi:Nat):Int)):=by
 have h1:¬ ((1:Int)<0):=by lia
 unfold Builtin.Slice.sliceAdjust
 simp only[h1,if_false]
 refine Prod.ext ?_ ?_
 ·cases lo with
  | none=>rfl
  | some v=>exact zac_ v n 0
 ·cases hi with
  | none=>rfl
  | some v=>exact zac_ v n n
theorem VN_(i j:Nat):Builtin.Slice.slicePlaces (i:Int) (j:Int) 1=j - i:=by
 unfold Builtin.Slice.slicePlaces
 have h1:(1:Int)>0:=by lia
 simp only[h1,if_true,Int.ediv_one]
 split<;>lia
theorem Jz_{v:Value}{o:Option Int}{Q:Option Int->Shared->Prop}(p:IsPart v o)(h:Q o s):wpAny (model prog w) A (Builtin.Slice.slicePartIndex v) Q E s:=by
 cases p with
 | none=>exact slicePart_none h
 | int i t=>exact slicePart_int h
theorem j8_{sl:Addr}{vl vu:Value}{lo hi:Option Int}{n:Nat}{Q:Int×Int×Nat->Shared->Prop}(hs:s.heap.IsSliceOf sl vl vu .none)(pl:IsPart vl lo)(pu:IsPart vu hi)
  (h:Q (((sIx n 0 lo:Nat):Int),1,sIx n n hi - sIx n 0 lo) s):wpAny (model prog w) A (Builtin.Slice.sliceApplied (.ref sl) (pure (n:Int))) Q E s:=by
 obtain⟨os,hos,hcs,hds⟩:=id hs
 unfold Builtin.Slice.sliceApplied Builtin.Slice.sliceFields
 refine zza (zza (wpAny_field hos hds (x:=vl) rfl (zza (wpAny_field hos hds (x:=vu) rfl (zza (wpAny_field hos hds (x:=.none) rfl (zzb ?_)))))))
 refine zza (slicePart_none ?_)
 show wpAny _ _ (if((1:Int)==0)=true then _ else _) _ _ s
 rw[if_neg (by decide)]
 refine zza (Jz_ pl (zza (Jz_ pu (zza (zzb ?_)))))
 show wpAny _ _ (match Builtin.Slice.sliceAdjust lo hi 1 (n:Int)with|(lo,hi)=>pure (lo,(1:Int),Builtin.Slice.slicePlaces lo hi 1)) _ _ s
 rw[Wm_ lo hi n]
 show wpAny _ _ (pure (((sIx n 0 lo:Nat):Int),(1:Int),Builtin.Slice.slicePlaces ((sIx n 0 lo:Nat):Int) ((sIx n n hi:Nat):Int) 1)) _ _ s
 rw[VN_]
 exact zzb h
theorem zbb_(xs:Array Value)(i k:Nat):((List.range k).filterMap λ(m:Nat)=>xs[((i:Int)+(m:Int)*1).toNat]?).toArray=((xs.toList.drop i).take k).toArray:=by
 have e:(λ(m:Nat)=>xs[((i:Int)+(m:Int)*1).toNat]?)=λm=>xs[i+m]?:=by
  funext m
  have:((i:Int)+(m:Int)*1).toNat=i+m:=by lia
  rw[this]
 rw[e]
 have:=pick_run xs i k
 rw[List.filterMap_map]at this
 have e2:((λx=>xs[x]?)∘λx=>i+x)=λm=>xs[i+m]?:=rfl
 rw[e2]at this
 rw[this]
theorem getItem_tuple_cut{t sl:Addr}{items:Array Value}{vl vu:Value}{lo hi:Option Int}{Q:Value->Shared->Prop}(ht:IsTup s.heap t items)(hs:s.heap.IsSliceOf sl vl vu .none)(pl:IsPart vl lo)(pu:IsPart vu hi)
  (hw:¬ (sIx items.size 0 lo=0/\sIx items.size items.size hi=items.size))
  (h:Q (.ref s.heap.objs.size) { s with heap:=s.heap.push { cls:=.type "tuple",data:=.seq ((items.toList.drop (sIx items.size 0 lo)).take (sIx items.size items.size hi - sIx items.size 0 lo)).toArray } })
  (hsz:items.size<=sizeLine):wpAny (model prog w) A (getItem (.ref t) (.ref sl)) Q E s:=by
 have htake:sizeOk (.seq ((items.toList.drop (sIx items.size 0 lo)).take (sIx items.size items.size hi - sIx items.size 0 lo)).toArray):=by
  show((items.toList.drop (sIx items.size 0 lo)).take (sIx items.size items.size hi - sIx items.size 0 lo)).toArray.size<=sizeLine
  rw[List.size_toArray,List.length_take,List.length_drop,Array.length_toList]
  lia
 have hj:sIx items.size items.size hi<=items.size:=zfV_ _ _ (Nat.le_refl _) hi
 obtain⟨os,hos,hcs,hds⟩:=id hs
 have hTs:s.TypeIs (.ref sl) "slice":=⟨os,hos,hcs⟩
 unfold getItem
 try with_reducible refine wpAny_holding ?_
 first|refine zza (zzb ?_)|skip
 refine zza (wpAny_sequenceKey ht.typeIs (by decide) ?_)
 refine zza (wpAny_callSpecial?_slot (name:=Str.ofString "__getitem__") ht.typeIs PyProof.Rows.slot_tuple_getitem
  (wpAny_call_entry PyProof.Rows.slot_tuple_getitem ht.typeIs entry_tuple_getitem ?_ (args_tuple_getitem _ _)))
 show wpAny _ _ (Builtin.Tuple.tupleItemsOf (.ref t) >>= _) _ _ s
 refine zza (tupleItemsOf_ ht ?_)
 refine zza (wpAny_typeOf hTs ?_)
 rw[if_pos (by decide)]
 refine zza (j8_ hs pl pu ?_)
 have hno:¬ ((((sIx items.size 0 lo:Nat):Int)==0&&(1:Int)==1&&(sIx items.size items.size hi - sIx items.size 0 lo)==items.size)=true):=by
  intro q
  rw[Bool.and_eq_true,Bool.and_eq_true]at q
  have q1:((sIx items.size 0 lo:Nat):Int)=0:=eq_of_beq q.1.1
  have q2:sIx items.size items.size hi - sIx items.size 0 lo=items.size:=eq_of_beq q.2
  exact hw ⟨by lia,by lia⟩
 show wpAny _ _ (if(((sIx items.size 0 lo:Nat):Int)==0&&(1:Int)==1&&(sIx items.size items.size hi - sIx items.size 0 lo)==items.size)=true then _ else _) _ _ s
 rw[if_neg hno,zbb_]
 first
  | exact zza (m:=Builtin.Tuple.tupleExact _) (wpAny_newObj_type (zzb ⟨_,rfl,zzb h⟩) htake)
  | exact zza (m:=Builtin.Tuple.tupleExact _) (wpAny_newObj_type (zza (zzb (zzb ⟨_,rfl,zzb h⟩))) htake)
  | exact zza (zza (m:=Builtin.Tuple.tupleExact _) (wpAny_newObj_type (zzb (zzb ⟨_,rfl,zzb h⟩)) htake))
  | exact zza (zza (m:=Builtin.Tuple.tupleExact _) (wpAny_newObj_type (zzb ⟨_,rfl,zzb h⟩) htake))
end
end HT
namespace L2
open PySem PySem.Spec PyProof.Rows
noncomputable abbrev TO:=St->Hp->(Option Int->Hp->Prop)->Prop
def PO(X:Cx)(e:Option Expr)(t:TO):Prop :=
 ∀(pins:List (Addr×Obj)) (s:Shared) (σ:St) (H:Hp) (Q:Option Int->Hp->Prop),Inv X pins σ H s->t σ H Q ->
  wpAny (model X.prog X.w) X.A (evalPart e X.env) (λu s'=>∃o H',Inv X pins σ H' s'/\IsPart u o/\Q o H') X.xe s
noncomputable def zdK_:TO:=λ_ H Q=>Q none H
noncomputable def zhZ_(t:TE):TO:=λσ H Q=>t σ H λx H1=>∃i,x=.int i/\Q (some i) H1
theorem intsAre_of{ns:List Int}:∀{us:List Value},Vals (ns.map V.int) us->IntsAre us ns:=by
 induction ns with
 | nil=>intro us r;rw[List.map_nil]at r;cases r;exact .nil
 | cons n ns ih =>
  intro us r
  rw[List.map_cons]at r
  cases r with
  | cons r1 r2 =>
   obtain⟨t,e⟩:=r1
   subst e
   exact .cons n t (ih r2)
section
variable {X:Cx}{e:Expr}{te:TE}{lo hi:Option Expr}{tl th:TO}{pos p2:Pos}
theorem zek_:PO X none zdK_:=by
 intro pins s σ H Q I h
 rw[evalPart_none]
 exact zzb ⟨none,H,I,.none,h⟩
theorem zej_(h:PE X e te):PO X (some e) (zhZ_ te):=by
 intro pins s σ H Q I hw
 rw[evalPart_some]
 refine thn (h pins s σ H _ I hw) λu s1 ⟨x,H1,I1,r1,q1⟩=>?_
 obtain⟨i,rfl,q⟩:=q1
 obtain⟨t,rfl⟩:=r1
 exact⟨some i,H1,I1,.int i t,q⟩
def SlR(X:Cx)(r:V->Option Int->Option Int->Hp->VK->Prop):Prop :=
 ∀(pins:List (Addr×Obj)) (s:Shared) (σ:St) (H:Hp) (x:V) (v vl vu:Value) (lo hi:Option Int) (sl:Addr) (Q:VK),Inv X pins σ H s->RelV x v->s.heap.IsSliceOf sl vl vu .none->IsPart vl lo->IsPart vu hi->r x lo hi H Q ->
  ∃T id,typeLookup (.type T) "__getitem__" = pure (some (.builtin id))/\s.TypeIs v T/\wpAny (model X.prog X.w) X.A (getItem v (.ref sl)) (EP X pins σ Q) X.xe s
theorem SlR.or{r r':V->Option Int->Option Int->Hp->VK->Prop}(h:SlR X r)(h':SlR X r'):SlR X (λx lo hi H Q=>r x lo hi H Q\/r' x lo hi H Q):=by
 intro pins s σ H x v vl vu lo hi sl Q I rx hs pl pu q
 rcases q with q|q
 ·exact h pins s σ H x v vl vu lo hi sl Q I rx hs pl pu q
 ·exact h' pins s σ H x v vl vu lo hi sl Q I rx hs pl pu q
noncomputable def tSl(r:V->Option Int->Option Int->Hp->VK->Prop)(te:TE)(tl th:TO):TE:=λσ H Q=>te σ H λx H1=>tl σ H1 λl H2=>th σ H2 λu H3=>r x l u H3 Q
theorem zbf_{r:V->Option Int->Option Int->Hp->VK->Prop}(hr:SlR X r)(he:PE X e te)(hl:PO X lo tl)(hu:PO X hi th):PE X (.Subscript e (.Slice lo hi none p2) pos) (tSl r te tl th):=by
 intro pins s σ H Q I h
 refine Subscript_ (thn (he pins s σ H _ I h) λv s1 ⟨x,H1,I1,r1,q1⟩=>?_)
 refine wpAny_Slice (thn (hl pins s1 σ H1 _ I1 q1) λvl s2 ⟨l,H2,I2,pl,q2⟩=>thn (hu pins s2 σ H2 _ I2 q2) λvu s3 ⟨u,H3,I3,pu,q3⟩=>?_)
 rw[evalPart_none]
 refine zzb ?_
 have I4:Inv X pins σ H3 { s3 with heap:=s3.heap.push { cls:=.type "slice",data:=.fields #[vl,vu,.none] } }:=I3.kept (t':=s3.toks) λb ob q=>zzc _ q
 obtain⟨T,id,hT,ht,hg⟩:=hr pins { s3 with heap:=s3.heap.push { cls:=.type "slice",data:=.fields #[vl,vu,.none] } } σ H3 x v vl vu l u s3.heap.objs.size Q I4 r1 (Heap.IsSliceOf.new ..) pl pu q3
 show wpAny (model X.prog X.w) X.A (subscriptTail e (.Slice lo hi none p2) v (.ref s3.heap.objs.size)) (EP X pins σ Q) X.xe { s3 with heap:=s3.heap.push { cls:=.type "slice",data:=.fields #[vl,vu,.none] } }
 exact tail_any (ops:=[.ref s3.heap.objs.size,v]) ht hT hg (by with_unfolding_all rfl)
def cutV(xs:List V)(lo hi:Option Int):List V:=(xs.drop (HT.sIx xs.length 0 lo)).take (HT.sIx xs.length xs.length hi - HT.sIx xs.length 0 lo)
theorem Z9_(xs:List V)(lo hi:Option Int):(cutV xs lo hi).length<=xs.length:=by
 unfold cutV
 rw[List.length_take,List.length_drop]
 lia
def rSlT(K:PySem.W.Frag):V->Option Int->Option Int->Hp->VK->Prop:=λx lo hi H Q=>∃a xs,x=.ref a/\SqT K H a xs /\
 ¬ (HT.sIx xs.length 0 lo=0/\HT.sIx xs.length xs.length hi=xs.length)/\∀p,H p=none->Q (.ref p) (upd H p (.tup (cutV xs lo hi)))
theorem sl_tup:SlR X (rSlT X.K):=by
 intro pins s σ H x v vl vu lo hi sl Q I rx hs pl pu h
 obtain⟨a,xs,rfl,hx,hw,q⟩:=h
 cases rx
 obtain⟨its,r,ht,hz⟩:=I.tuple hx
 have hlen:its.toArray.size=xs.length:=by rw[List.size_toArray];exact r.length.symm
 refine⟨"tuple",_,PyProof.Rows.slot_tuple_getitem.lookup,ht.typeIs,?_⟩
 refine HT.getItem_tuple_cut ht hs pl pu (by rw[hlen];exact hw) ?_ (by rw[hlen];exact hz)
 rw[hlen]
 refine⟨.ref s.heap.objs.size,_,I.laid (t':=s.toks) (o:=.tup (cutV xs lo hi)) (λb ob q=>zzc _ q) (Nat.le_refl _) ?_,rfl,q _ (I.hok.fresh (Nat.le_refl _))⟩
 exact⟨Nat.le_trans (Z9_ xs lo hi) hz,_,(r.drop (HT.sIx xs.length 0 lo)).take (HT.sIx xs.length xs.length hi - HT.sIx xs.length 0 lo),IsTup.new _ _,TupN.new _ _⟩
noncomputable def rLtT(K:PySem.W.Frag):R2:=λx y H Q=>∃a b ns ms,x=.ref a/\y=.ref b/\SqT K H a (ns.map V.int)/\SqT K H b (ms.map V.int)/\Q (.bl (HT.lexLt ns ms)) H
theorem zgP_(hu:X.A.units<cLine):OpR X (compareOp .Lt) (rLtT X.K):=by
 intro pins s σ H x y v u Q I rx ry h
 obtain⟨a,b,ns,ms,rfl,rfl,ha,hb,q⟩:=h
 cases rx
 cases ry
 obtain⟨its,r1,p1,_⟩:=I.tuple ha
 obtain⟨its2,r2,p2,_⟩:=I.tuple hb
 have i1:IntsAre its.toArray.toList ns:=intsAre_of r1
 have i2:IntsAre its2.toArray.toList ms:=intsAre_of r2
 exact HT.lt_tupInts p1 p2 i1 i2 hu ⟨.bl (HT.lexLt ns ms),H,I,rfl,q⟩
def ziu_(K:PySem.W.Frag):R2:=λx y H Q=>∃a b xs ys,x=.ref a/\y=.ref b/\SqT K H a xs/\SqT K H b ys/\xs≠[]/\xs.length+ys.length<=sizeLine /\
 (ys=[]->Q (.ref a) H)/\(ys≠[]->∀p,H p=none->Q (.ref p) (upd H p (.tup (xs++ys))))
theorem Vals.nil_iff{xs:List V}{us:List Value}(r:Vals xs us):us=[]↔xs=[]:=by
 cases r with
 | nil=>simp
 | cons _ _=>simp
theorem zex_:OpR X (binaryOp .Add) (ziu_ X.K):=by
 intro pins s σ H x y v u Q I rx ry h
 obtain⟨a,b,xs,ys,rfl,rfl,ha,hb,hx,hz,q1,q2⟩:=h
 cases rx
 cases ry
 obtain⟨its,r1,p1,_⟩:=I.tuple ha
 obtain⟨its2,r2,p2,_⟩:=I.tuple hb
 refine HT.cat_tup p1 p2 (λz=>hx (r1.nil_iff.mp z)) (λz=>⟨.ref a,H,I,rfl,q1 (r2.nil_iff.mp z)⟩) (λz=>?_) (by rw[<-r1.length,<-r2.length];exact hz)
 refine⟨.ref s.heap.objs.size,_,I.laid (t':=s.toks) (o:=.tup (xs++ys)) (λb ob q=>zzc _ q) (Nat.le_refl _) ?_,rfl,q2 (λw=>z (r2.nil_iff.mpr w)) _ (I.hok.fresh (Nat.le_refl _))⟩
 exact⟨by rw[zzf];exact hz,_,r1.append r2,IsTup.new _ _,TupN.new _ _⟩
end
noncomputable def ixN(n:Nat)(i:Int):Option Nat:=if 0<=i then(if i<n then some i.toNat else none)else if -(n:Int)<=i then some (i+n).toNat else none
def atI{α:Type}(xs:List α)(i:Int):Option α:=(ixN xs.length i).bind λj=>xs[j]?
theorem XH_{n:Nat}{i:Int}{j:Nat}(h:ixN n i=some j):seqIndex? i n=some j/\j<n /\ -(n:Int)<=i/\i<n:=by
 unfold ixN at h
 by_cases h0:0<=i
 ·rw[if_pos h0]at h
  by_cases h1:i<n
  ·rw[if_pos h1]at h
   have e:i.toNat=j:=Option.some.inj h
   exact⟨by rw[seqIndex_of h0 h1,e],by lia,by lia,h1⟩
  ·rw[if_neg h1]at h;cases h
 ·rw[if_neg h0]at h
  by_cases h1 : -(n:Int)<=i
  ·rw[if_pos h1]at h
   have e:(i+n).toNat=j:=Option.some.inj h
   exact⟨by rw[seqIndex_neg (by lia) h1,e],by lia,h1,by lia⟩
  ·rw[if_neg h1]at h;cases h
theorem UD_{α:Type}{xs:List α}{i:Int}{v:α}(h:atI xs i=some v):∃j,seqIndex? i xs.length=some j/\xs[j]? = some v/\j<xs.length /\ -(xs.length:Int)<=i/\i<xs.length:=by
 unfold atI at h
 cases e:ixN xs.length i with
 | none=>rw[e]at h;cases h
 | some j =>
  rw[e]at h
  obtain⟨h1,h2,h3,h4⟩:=XH_ e
  exact⟨j,h1,h,h2,h3,h4⟩
def QH_(b:Expr):Prop:=∀o i,subscripted b false o i=operate [o,i] (getItem o i)
def IxR(X:Cx)(r:R2):Prop :=
 ∀(value slice:Expr) (pins:List (Addr×Obj)) (s:Shared) (σ:St) (H:Hp) (x y:V) (v u:Value) (Q:VK),Inv X pins σ H s->RelV x v->RelV y u->r x y H Q ->
  subscripted slice false v u=operate [v,u] (getItem v u)->wpAny (model X.prog X.w) X.A (subscriptTail value slice v u) (EP X pins σ Q) X.xe s
def MtR(X:Cx)(id:String)(r:V->List V->Hp->VK->Prop):Prop :=
 ∀(pins:List (Addr×Obj)) (s:Shared) (σ:St) (H:Hp) (x:V) (xs:List V) (v:Value) (us:List Value) (Q:VK),Inv X pins σ H s->RelV x v->Vals xs us->r x xs H Q ->
  wpAny (model X.prog X.w) X.A (call (.builtin id) (v::us)) (EP X pins σ Q) X.xe s
section
variable {X:Cx}{a b:Expr}{ta tb:TE}{pos:Pos}
theorem IxR.or{r r':R2}(h:IxR X r)(h':IxR X r'):IxR X (λx y H Q=>r x y H Q\/r' x y H Q):=by
 intro value slice pins s σ H x y v u Q I rx ry q hs
 rcases q with q|q
 ·exact h value slice pins s σ H x y v u Q I rx ry q hs
 ·exact h' value slice pins s σ H x y v u Q I rx ry q hs
theorem zgC_{r:R2}(hr:IxR X r)(ha:PE X a ta)(hb:PE X b tb)(hs:QH_ b):PE X (.Subscript a b pos) (tOp r ta tb):=by
 intro pins s σ H Q I h
 exact Subscript_ (binT ha hb I h λv u s2 x y H2 I2 rx ry q=>hr a b pins s2 σ H2 x y v u Q I2 rx ry q (hs _ _))
def rIxL(K:PySem.W.Frag):R2:=λx y H Q=>∃p xs i v,x=.ref p/\y=.int i/\SqL K H p xs/\atI xs i=some v/\Q v H
def rIxT(K:PySem.W.Frag):R2:=λx y H Q=>∃p xs i v,x=.ref p/\y=.int i/\SqT K H p xs/\atI xs i=some v/\Q v H
def rIxS:R2:=λx y H Q=>∃z i c,x=.str z/\y=.int i/\z.length<=sizeLine/\atI z.cps.toList i=some c/\Q (.str ⟨#[c]⟩) H
theorem ix_list:IxR X (rIxL X.K):=by
 intro value slice pins s σ H x y v u Q I rx ry h hs
 obtain⟨p,xs,i,z,rfl,rfl,hq,he,q⟩:=h
 cases rx
 obtain⟨t,rfl⟩:=ry
 obtain⟨its,r,pl,hz⟩:=I.list hq
 obtain⟨j,h1,h2,h3,h4,h5⟩:=UD_ he
 obtain⟨w,ew,rw'⟩:=r.get h2
 have hl:=r.length
 have hn:=y6_
 have fin:EP X pins σ Q w s:=⟨z,H,I,rw',q⟩
 by_cases h0:0<=i
 ·have hj:i.toNat=j:=by
   rw[seqIndex_of h0 h5]at h1
   exact Option.some.inj h1
  exact item_listR pl.isList h0 (by lia) (by rw[hj];simpa using ew) fin hs
 ·have hj:(i+(its.toArray.size:Int)).toNat=j:=by
   rw[seqIndex_neg (by lia) h4]at h1
   rw[List.size_toArray,<-hl]
   exact Option.some.inj h1
  exact subscriptTail_builtinR (x:=w) pl.isList.typeIs slot_list_getitem.lookup
   (wpAny_getItem_list_neg (Q:=λr s'=>r=w/\EP X pins σ Q r s') pl.isList (by lia) (by rw[List.size_toArray]<;>lia) (by lia) (by rw[hj];simpa using ew) ⟨rfl,fin⟩) hs
theorem ix_tup:IxR X (rIxT X.K):=by
 intro value slice pins s σ H x y v u Q I rx ry h hs
 obtain⟨p,xs,i,z,rfl,rfl,hq,he,q⟩:=h
 cases rx
 obtain⟨t,rfl⟩:=ry
 obtain⟨its,r,pl,hz⟩:=I.tuple hq
 obtain⟨j,h1,h2,h3,h4,h5⟩:=UD_ he
 obtain⟨w,ew,rw'⟩:=r.get h2
 have hl:=r.length
 have hn:=y6_
 have fin:EP X pins σ Q w s:=⟨z,H,I,rw',q⟩
 exact subscriptTail_builtinR (x:=w) pl.typeIs slot_tuple_getitem.lookup
  (getItem_tuple (j:=j) (Q:=λr s'=>r=w/\EP X pins σ Q r s') pl (by lia) (by lia) (by rw[List.size_toArray,<-hl];exact h1) (by simpa using ew) ⟨rfl,fin⟩) hs
theorem zhn_:IxR X rIxS:=by
 intro value slice pins s σ H x y v u Q I rx ry h hs
 obtain⟨z,i,c,rfl,rfl,hz,he,q⟩:=h
 obtain⟨t,rfl⟩:=rx
 obtain⟨t',rfl⟩:=ry
 obtain⟨j,h1,h2,h3,h4,h5⟩:=UD_ he
 have hl:z.cps.toList.length=z.length:=by simp[Str.length]
 rw[hl]at h1 h4 h5
 have hn:=y6_
 exact tail_any (typeIs_str s z t) slot_str_getitem.lookup (getItem_str (c:=c) (by
  have e1:decide (i < -(2^63:Int))=false:=decide_eq_false (by lia)
  have e2:decide (i>=2^63)=false:=decide_eq_false (by lia)
  rw[e1,e2,Bool.or_false]) (by rw[h1];simpa using h2) ⟨.str ⟨#[c]⟩,H,I.tok _,⟨_,rfl⟩,q⟩) hs
def rIx(K:PySem.W.Frag):R2:=λx y H Q=>rIxL K x y H Q\/rIxT K x y H Q\/rIxS x y H Q
theorem zho_:IxR X (rIx X.K):=ix_list.or (ix_tup.or zhn_)
theorem VY_(its:List Value)(n j:Nat)(u:Value):Obj.mapSeq (·.setIfInBounds j u) { cls:=.type "list",data:=.seq its.toArray n }={ cls:=.type "list",data:=.seq (its.set j u).toArray n }:=by
 simp[Obj.mapSeq]
theorem Inv.lst{pins:List (Addr×Obj)}{σ:St}{H:Hp}{s:Shared}{p:Addr}{xs:List V}(I:Inv X pins σ H s)(h:H p=some (.lst xs)) :
  ∃(its:List Value) (n:Nat),Vals xs its/\s.heap.get? p=some { cls:=.type "list",data:=.seq its.toArray n }/\xs.length<=sizeLine:=by
 obtain⟨z,its,n,r,e⟩:=I.hok p _ h
 exact⟨its,n,r,e,z⟩
theorem Inv.lstUpd{pins:List (Addr×Obj)}{σ:St}{H:Hp}{s:Shared}{p:Addr}{xs ys:List V}{its its':List Value}{n n':Nat}{f:Obj->Obj}(I:Inv X pins σ H s)(h:H p=some (.lst xs))
  (ho:s.heap.get? p=some { cls:=.type "list",data:=.seq its.toArray n }) (hf:f { cls:=.type "list",data:=.seq its.toArray n }={ cls:=.type "list",data:=.seq its'.toArray n' }) (r:Vals ys its') (hz:ys.length<=sizeLine) (t:Nat) :
  Inv X pins σ (upd H p (.lst ys)) { s with heap:=s.heap.update p f,toks:=t }:=by
 have e:(s.heap.update p f).get? p=some { cls:=.type "list",data:=.seq its'.toArray n' }:=by
  rw[Heap.get?_update_self f ho (by rw[hf]<;>rfl),hf]
 refine I.write (x:=p) (e:=p) (by rw[h];trivial) (.inl rfl) (λb u hb q=>(Heap.get?_update_other _ _ (Ne.symm hb)).trans q) ⟨_,e⟩ ?_
 exact⟨hz,its',n',r,e⟩
def zis_:V->V->V->Hp->(Hp->Prop)->Prop:=λo i v H Q=>∃p xs k j,o=.ref p/\i=.int k/\H p=some (.lst xs)/\ixN xs.length k=some j/\Q (upd H p (.lst (xs.set j v)))
theorem set_list:PSet X zis_:=by
 intro pins s σ H o i v ov iv u Q I ro ri rv h
 obtain⟨p,xs,k,j,rfl,rfl,hp,hj,q⟩:=h
 cases ro
 obtain⟨t,rfl⟩:=ri
 obtain⟨its,n,r,ho,hz⟩:=I.lst hp
 obtain⟨h1,h2,h3,h4⟩:=XH_ hj
 have hl:=r.length
 have hn:=y6_
 have I':Inv X pins σ (upd H p (.lst (xs.set j v))) { s with heap:=s.heap.update p (Obj.mapSeq (·.setIfInBounds j u)) } :=
  I.lstUpd hp ho (VY_ its n j u) (r.set rv j) (by rw[List.length_set];exact hz) s.toks
 by_cases h0:0<=k
 ·have hk:k.toNat=j:=by
   rw[seqIndex_of h0 h4]at h1
   exact Option.some.inj h1
  exact PySem.W.ki_setAt ho h0 (by lia) (by rw[List.size_toArray,<-hl];exact h4) (by rw[hk];exact⟨_,I',q⟩)
 ·have hk:(k+(its.toArray.size:Int)).toNat=j:=by
   rw[seqIndex_neg (by lia) h3]at h1
   rw[List.size_toArray,<-hl]
   exact Option.some.inj h1
  exact PySem.W.ki_setBack ho (by lia) (by rw[List.size_toArray,<-hl];exact h3) (by lia) (by rw[hk];exact⟨_,I',q⟩)
theorem UW_(lo hi:Option Int)(n:Nat):(sliceBounds lo hi none n).1=((HT.sIx n 0 lo:Nat):Int)/\(sliceBounds lo hi none n).2.1=((HT.sIx n n hi:Nat):Int)/\(sliceBounds lo hi none n).2.2=1:=by
 refine⟨?_,?_,rfl⟩
 ·cases lo with
  | none=>simp[sliceBounds,HT.sIx]
  | some i =>
   simp only[sliceBounds,HT.sIx,Option.getD_none,show(1:Int)>0 by decide,if_true]
   by_cases h:i<0
   ·simp only[h,if_true]<;>lia
   ·simp only[h,if_false]<;>lia
 ·cases hi with
  | none=>simp[sliceBounds,HT.sIx]
  | some i =>
   simp only[sliceBounds,HT.sIx,Option.getD_none,show(1:Int)>0 by decide,if_true]
   by_cases h:i<0
   ·simp only[h,if_true]<;>lia
   ·simp only[h,if_false]<;>lia
theorem J4_(its:List Value)(lo hi:Option Int):slicePick its.toArray lo hi none=((its.drop (HT.sIx its.length 0 lo)).take (HT.sIx its.length its.length hi - HT.sIx its.length 0 lo)).toArray:=by
 obtain⟨h1,h2,h3⟩:=UW_ lo hi its.toArray.size
 unfold slicePick
 rw[h1,h2,h3]
 simp only[sliceRange_one,pick_run,List.size_toArray]<;>rfl
def rSlL(K:PySem.W.Frag):V->Option Int->Option Int->Hp->VK->Prop:=λx lo hi H Q=>∃a xs,x=.ref a/\SqL K H a xs/\∀p,H p=none->Q (.ref p) (upd H p (.lst (cutV xs lo hi)))
theorem zdO_:SlR X (rSlL X.K):=by
 intro pins s σ H x v vl vu lo hi sl Q I rx hs pl pu h
 obtain⟨a,xs,rfl,hx,q⟩:=h
 cases rx
 obtain⟨its,r,ht,hz⟩:=I.list hx
 have hlen:=r.length
 refine⟨"list",_,slot_list_getitem.lookup,ht.isList.typeIs,?_⟩
 refine wpAny_getItem_list_slice ht.isList hs pl pu .none (by simp) ?_ (by rw[List.size_toArray]<;>lia)
 rw[J4_,<-hlen]
 refine⟨.ref s.heap.objs.size,_,I.laid (t':=s.toks) (o:=.lst (cutV xs lo hi)) (λb ob q=>zzc _ q) (Nat.le_refl _) ?_,rfl,q _ (I.hok.fresh (Nat.le_refl _))⟩
 exact⟨Nat.le_trans (Z9_ xs lo hi) hz,_,0,(r.drop (HT.sIx xs.length 0 lo)).take (HT.sIx xs.length xs.length hi - HT.sIx xs.length 0 lo),zze _ rfl⟩
theorem YN_:CallR X (.builtin "len") (λxs H Q=>∃p ys,xs=[.ref p]/\(SqL X.K H p ys\/SqT X.K H p ys)/\Q (.int ys.length) H):=by
 intro pins s σ H xs us Q I r h
 obtain⟨p,ys,rfl,hq,q⟩:=h
 obtain⟨u,rfl,rx⟩:=vals1 r
 cases rx
 have hn:=y6_
 rcases hq with hq|hq
 ·obtain⟨its,r',pl,hz⟩:=I.list hq
  have hlen:=r'.length
  exact Calls.call_len_list pl.isList (by simp only[List.size_toArray]<;>lia) ⟨.int ys.length,H,I.tok _,⟨s.toks+1,by rw[List.size_toArray,hlen]⟩,q⟩
 ·obtain⟨its,r',pl,hz⟩:=I.tuple hq
  have hlen:=r'.length
  exact len_tuple pl (by simp only[List.size_toArray]<;>lia) ⟨.int ys.length,H,I.tok _,⟨s.toks+1,by rw[List.size_toArray,hlen]⟩,q⟩
theorem YM_:CallR X (.builtin "len") (λxs H Q=>∃z,xs=[.str z]/\z.length<=sizeLine/\Q (.int z.length) H):=by
 intro pins s σ H xs us Q I r h
 obtain⟨z,rfl,hz,q⟩:=h
 obtain⟨u,rfl,t,rfl⟩:=vals1 r
 have hn:=y6_
 exact len_str (by lia) ⟨.int z.length,H,I.tok _,⟨_,rfl⟩,q⟩
theorem CallR.or{f:Value}{r r':List V->Hp->VK->Prop}(h:CallR X f r)(h':CallR X f r'):CallR X f (λxs H Q=>r xs H Q\/r' xs H Q):=by
 intro pins s σ H xs us Q I rs q
 rcases q with q|q
 ·exact h pins s σ H xs us Q I rs q
 ·exact h' pins s σ H xs us Q I rs q
theorem YL_:CallR X (.type "list") (λxs H Q=>∃p ys,xs=[.ref p]/\(SqL X.K H p ys\/SqT X.K H p ys)/\∀l,H l=none->Q (.ref l) (upd H l (.lst ys))):=by
 intro pins s σ H xs us Q I r h
 obtain⟨p,ys,rfl,hq,q⟩:=h
 obtain⟨u,rfl,rx⟩:=vals1 r
 cases rx
 have fin:∀(its:List Value),Vals ys its->ys.length<=sizeLine->∀(h':Heap) (c':Nat),(∀b o',s.heap.get? b=some o'->h'.get? b=some o') ->
   h'.get? s.heap.objs.size=some { cls:=.type "list",dict:=none,data:=.seq its.toArray c',slots:=#[] }->EP X pins σ Q (.ref s.heap.objs.size) { s with heap:=h' }:=λits r' hz h' c' kp e =>
  ⟨.ref s.heap.objs.size,_,I.laid (t':=s.toks) kp (Nat.le_refl _) (show ObjOk X.prog X.w _ h' _ (.lst ys)from⟨hz,its,c',r',e⟩),rfl,q _ (I.hok.fresh (Nat.le_refl _))⟩
 rcases hq with hq|hq
 ·obtain⟨its,r',pl,hz⟩:=I.list hq
  have hlen:=r'.length
  obtain⟨o,ho,hc,n,hd⟩:=pl.isList
  exact call_list_seq p (.inl rfl) ho hc hd (λh' c' kp e=>fin its r' hz h' c' kp e) (by simp only[List.size_toArray]<;>lia)
 ·obtain⟨its,r',pl,hz⟩:=I.tuple hq
  have hlen:=r'.length
  obtain⟨o,ho,hc,n,hd⟩:=pl
  exact call_list_seq p (.inr rfl) ho hc hd (λh' c' kp e=>fin its r' hz h' c' kp e) (by simp only[List.size_toArray]<;>lia)
theorem zR_:CallR X (.type "tuple") (λxs H Q=>∃p ys,xs=[.ref p]/\((SqL X.K H p ys/\∀l,H l=none->Q (.ref l) (upd H l (.tup ys)))\/(SqT X.K H p ys/\Q (.ref p) H))):=by
 intro pins s σ H xs us Q I r h
 obtain⟨p,ys,rfl,h⟩:=h
 obtain⟨u,rfl,rx⟩:=vals1 r
 cases rx
 rcases h with ⟨hq,q⟩|⟨hq,q⟩
 ·obtain⟨its,r',pl,hz⟩:=I.list hq
  have hlen:=r'.length
  refine call_tuple_list pl.isList (λh' kp=>?_) (by simp only[List.size_toArray]<;>lia)
  have I1:Inv X pins σ H { s with heap:=h' }:=I.kept (t':=s.toks) kp
  have I2:Inv X pins σ (upd H h'.objs.size (.tup ys)) { s with heap:=h'.push { cls:=.type "tuple",data:=.seq its.toArray } } :=
   I1.laid (t':=s.toks) (λb o e=>zzc _ e) (Nat.le_refl _) (show ObjOk X.prog X.w _ _ _ (.tup ys)from⟨hz,its,r',IsTup.new _ _,TupN.new _ _⟩)
  exact⟨.ref h'.objs.size,_,I2,rfl,q _ (I1.hok.fresh (Nat.le_refl _))⟩
 ·obtain⟨its,r',pl,hz⟩:=I.tuple hq
  exact call_tuple_same pl ⟨.ref p,H,I,rfl,q⟩
def tyV(K:PySem.W.Frag)(T:String)(x:V)(H:Hp):Prop:=match x with
 | .str _=>T = "str"
 | .int _=>T = "int"
 | .ref p=>(T = "list" /\ ∃xs,SqL K H p xs)\/(T = "tuple" /\ ∃o,K.lookup p=some o/\o.cls=.type "tuple" /\ o.dict=none) \/
   (T = "dict" /\ ((∃kvs,H p=some (.dK kvs))\/∃kvs,H p=some (.dT kvs)))\/(T = "set" /\ ∃S n,H p=some (.set S n))
 | _=>False
theorem zcF_{pins:List (Addr×Obj)}{σ:St}{H:Hp}{s:Shared}{T:String}{x:V}{v:Value}(I:Inv X pins σ H s)(r:RelV x v)(ty:tyV X.K T x H) :
  s.TypeIs v T/\∀a,v=.ref a->∃ob,s.heap.get? a=some ob/\ob.dict=none:=by
 cases x with
 | str z =>
  obtain⟨t,rfl⟩:=r
  cases (show T = "str" from ty)
  exact⟨typeIs_str s z t,λ_ e=>nomatch e⟩
 | int i =>
  obtain⟨t,rfl⟩:=r
  cases (show T = "int" from ty)
  exact⟨typeIs_int s i t,λ_ e=>nomatch e⟩
 | ref p =>
  cases r
  rcases ty with ⟨rfl,xs,hq⟩|⟨rfl,o,hk,hc,hd⟩|⟨rfl,hk⟩|⟨rfl,S,n,hk⟩
  ·obtain⟨its,_,pl,_⟩:=I.list hq
   refine⟨pl.isList.typeIs,λa e=>?_⟩
   cases e
   obtain⟨o,n,e,c,hd,_⟩:=pl
   exact⟨o,e,hd⟩
  ·refine⟨⟨o,I.kIn p o hk,hc⟩,λa e=>?_⟩
   cases e
   exact⟨o,I.kIn _ o hk,hd⟩
  ·have z:∃o,s.heap.get? p=some o/\o.ExactDict:=by
    rcases hk with ⟨kvs,hk⟩|⟨kvs,hk⟩
    ·obtain⟨_,_,_,_,o,_,_,e,ex,_⟩:=I.hok p _ hk
     exact⟨o,e,ex⟩
    ·obtain⟨_,_,_,_,o,_,_,e,ex,_⟩:=I.hok p _ hk
     exact⟨o,e,ex⟩
   obtain⟨o,e,ex⟩:=z
   refine⟨⟨o,e,ex.1⟩,λa e2=>?_⟩
   cases e2
   exact⟨o,e,ex.2.1⟩
  ·obtain⟨o,_,_,_,e,ex,_⟩:=I.hok p _ hk
   refine⟨⟨o,e,ex.1⟩,λa e2=>?_⟩
   cases e2
   exact⟨o,e,ex.2.1⟩
 | _=>exact False.elim ty
noncomputable def tBM(K:PySem.W.Frag)(T:String)(r:V->List V->Hp->VK->Prop)(to:TE)(t:TA):TE:=λσ H Q=>to σ H λx H1=>tyV K T x H1/\t σ H1 λxs H2=>r x xs H2 Q
variable {o e:Expr}{es:List Expr}{to:TE}{t:TA}{name:Str}{apos cpos:Pos}{T id:String}{r:V->List V->Hp->VK->Prop}
theorem ziz_(pa:PlainAttrs T)(slot:Slot T name id)(hty:typeOf (.builtin id)=pure (.type "method_descriptor"))(hm:MtR X id r)(ho:PE X o to)(ha:PA X (e::es) t)
  (hbase:attributeBase o name X.env (eval o X.env)=eval o X.env:=by rfl)
  (hfew:((backTo cpos (starEach (e::es) X.env)).all (λx=>!x.1)&&(backToKw cpos (keywordEach [] X.env)).all (λx=>x.1.isSome)
   && decide ((e::es).length+([]:List Keyword).length+(if([]:List Keyword).isEmpty then 0 else 1)<30))=true:=by rfl)
  (hline:(apos.endLine==cpos.line)=true:=by rfl) (hs:starEach (e::es) X.env=(false,eval e X.env)::starEach es X.env:=by rfl) (hplain:(backTo cpos (starEach es X.env)).any (·.1)=false:=by rfl) :
  PE X (.Call (.Attribute o name apos) (e::es) [] cpos) (tBM X.K T r to t):=by
 intro pins s σ H Q I h
 refine wpAny_Call_method_late hbase hfew hline rfl (thn (ho pins s σ H _ I h) λv s1 ⟨x,H1,I1,r1,ty,q1⟩=>?_)
 obtain⟨h1,h2⟩:=zcF_ I1 r1 ty
 refine⟨T,id,pa,slot,hty,h1,h2,?_⟩
 have hA:=ha cpos pins s1 σ H1 _ I1 q1
 rw[hs]at hA ⊢
 refine Calls.callWith_builtin (by show(false||(backTo cpos (starEach es X.env)).any (·.1))=false;rw[hplain]<;>rfl) (Calls.evalArgs_plain ?_)
 exact thn hA λus s2 ⟨vs,H2,I2,r2,q2⟩=>hm pins s2 σ H2 x vs v us Q I2 r1 r2 q2
end
def MtM(X:Cx)(id:String)(r:V->List V->Hp->VK->Prop):Prop :=
 ∀(pins:List (Addr×Obj)) (s:Shared) (σ:St) (H:Hp) (x:V) (xs:List V) (v:Value) (us:List Value) (Q:VK),Inv X pins σ H s->RelV x v->Vals xs us->r x xs H Q ->
  wpAny (model X.prog X.w) X.A (call (.builtin id) (v::us)) (EP X pins σ Q) X.xe s
theorem Vals.one:∀{x:V} {us:List Value},Vals [x] us->∃u,us=[u]/\RelV x u:=by
 intro x us h
 cases h with
 | cons r t=>cases t;exact⟨_,rfl,r⟩
theorem Vals.rep{xs:List V}{us:List Value}(h:Vals xs us):∀k:Nat,Vals (List.replicate k xs).flatten (List.replicate k us).flatten
 | 0=>.nil
 | k+1=>by
  rw[List.replicate_succ,List.replicate_succ,List.flatten_cons,List.flatten_cons]
  exact Vals.append h (Vals.rep h k)
theorem foldl_rep(its:List Value):∀(k:Nat) (acc:List Value),
  List.foldl (λx1 x2=>x1++x2) acc.toArray (List.replicate k its.toArray)=(acc++(List.replicate k its).flatten).toArray
 | 0,acc=>by simp
 | k+1,acc=>by
  have e:acc.toArray++its.toArray=(acc++its).toArray:=by simp
  have e2:(acc++its)++(List.replicate k its).flatten=acc++(List.replicate (k+1) its).flatten:=by
   rw[List.replicate_succ,List.flatten_cons,List.append_assoc]
  rw[<-e2,<-foldl_rep its k (acc++its),<-e,List.replicate_succ,List.foldl_cons]
section
variable {X:Cx}{pins:List (Addr×Obj)}{σ:St}{H:Hp}{s:Shared}{l b:Addr}{xs ys zs:List V}
theorem Inv.lset{its its':List Value}{n:Nat}{f:Array Value->Array Value}{t':Nat}(I:Inv X pins σ H s)(hH:H l=some (.lst xs))
  (e:s.heap.get? l=some { cls:=.type "list",data:=.seq its.toArray n }) (hf:f its.toArray=its'.toArray) (hv:Vals ys its') (hz:ys.length<=sizeLine) :
  Inv X pins σ (upd H l (.lst ys)) { s with heap:=s.heap.update l (Obj.mapSeq f),toks:=t' }:=by
 have q:=PySem.IsL.update e f
 rw[hf]at q
 refine I.write (x:=l) (e:=l) (by rw[hH];exact trivial) (.inl rfl) (λb' u hb hu=>(Heap.get?_update_other s.heap (Obj.mapSeq f) (Ne.symm hb)).trans hu) ⟨_,q⟩ ?_
 exact⟨hz,its',_,hv,q⟩
theorem Inv.lnew{its:List Value}{t':Nat}(I:Inv X pins σ H s)(hv:Vals ys its)(hz:ys.length<=sizeLine) :
  Inv X pins σ (upd H s.heap.objs.size (.lst ys)) { s with heap:=s.heap.push { cls:=.type "list",data:=.seq its.toArray },toks:=t' } :=
 I.laid (λ_ _ q=>zzc _ q) (Nat.le_refl _) ⟨hz,its,0,hv,zze _ rfl⟩
theorem Inv.fresh(I:Inv X pins σ H s):H s.heap.objs.size=none:=I.hok.fresh (Nat.le_refl _)
theorem Inv.lstM(I:Inv X pins σ H s)(hH:H l=some (.lst xs)):xs.length<=sizeLine/\∃(its:List Value) (n:Nat),Vals xs its/\xs.length=its.length/\s.heap.get? l=some { cls:=.type "list",data:=.seq its.toArray n }:=by
 obtain⟨z,its,n,r,e⟩:=I.hok l _ hH
 exact⟨z,its,n,r,r.length,e⟩
theorem zbr_{n:Nat}(h:n<=sizeLine):Builtin.List.listTooLong n=false:=by
 unfold Builtin.List.listTooLong
 exact decide_eq_false (by lia)
end
section
variable {X:Cx}
def zea_:V->List V->Hp->VK->Prop:=λx vs H Q=>∃l xs y,x=.ref l/\vs=[y]/\H l=some (.lst xs)/\xs.length<sizeLine/\Q .non (upd H l (.lst (xs++[y])))
theorem Xn_:MtM X "list.append" zea_:=by
 intro pins s σ H x vs v us Q I rx rv h
 obtain⟨l,xs,y,rfl,rfl,hH,hz,q⟩:=h
 cases rx
 obtain⟨u,rfl,ru⟩:=rv.one
 obtain⟨z,its,n,r,hl,e⟩:=I.lstM hH
 refine call_meets F.slot_list_append ⟨_,e,rfl⟩ F.entry_list_append (F.args_list_append_2 _ _) (PySem.list_append l its.toArray n u (by rw[List.size_toArray];lia)) ⟨e,?_⟩
 refine⟨.non,_,I.lset (its':=its++[u]) hH e (by simp) (r.append (.cons ru .nil)) ?_,rfl,q⟩
 rw[zzf,List.length_singleton]
 lia
def rRep:R2:=λx y H Q=>∃l k xs,x=.ref l/\y=.int k/\H l=some (.lst xs) /\ -(2^63)<=k/\k<2^63/\xs.length*k.toNat<=sizeLine /\
 ∀p,H p=none->Q (.ref p) (upd H p (.lst (List.replicate k.toNat xs).flatten))
theorem len_rep{α:Type}(xs:List α)(k:Nat):(List.replicate k xs).flatten.length=k*xs.length:=by
 induction k with
 | zero=>simp
 | succ k ih=>rw[List.replicate_succ,List.flatten_cons,zzf,ih,Nat.succ_mul,Nat.add_comm]
theorem zgN_:OpR X (binaryOp .Mult) rRep:=by
 intro pins s σ H x y v u Q I rx ry h
 obtain⟨l,k,xs,rfl,rfl,hH,h1,h2,hz,q⟩:=h
 cases rx
 obtain⟨t,rfl⟩:=ry
 obtain⟨z,its,n,r,hl,e⟩:=I.lstM hH
 have hlen:its.toArray.size*k.toNat<=sizeLine:=by rw[List.size_toArray,<-hl];exact hz
 have hcap:¬ its.toArray.size*k.toNat>(2^63 - 1) / 8:=by
  have:(sizeLine:Nat)<=(2^63 - 1) / 8:=by decide
  lia
 have hfit:¬ (!Builtin.List.listFitsIndex k)=true:=by
  rw[fitsIndex_both h1 h2]
  exact Bool.false_ne_true
 have hlong:¬ Builtin.List.listTooLong (its.toArray.size*k.toNat)=true:=by
  rw[zbr_ hlen]
  exact Bool.false_ne_true
 have hnew:List.foldl (λx1 x2=>x1++x2) #[] (List.replicate (if its.toArray.isEmpty=true then 0 else k.toNat) its.toArray)=(List.replicate k.toNat its).flatten.toArray:=by
  have f0:∀m:Nat,List.foldl (λx1 x2=>x1++x2) #[] (List.replicate m its.toArray)=(List.replicate m its).flatten.toArray:=λm=>by
   have:=foldl_rep its m []
   rw[List.nil_append]at this
   exact this
  rw[f0]
  cases its with
  | nil=>simp
  | cons a r'=>rw[if_neg (by simp)]
 refine wpAny_binaryOp_repeat_ref (T := "list") (U := "int") (by decide) ⟨_,e,rfl⟩ (λs'=>typeIs_int s' k t) noFill_list_mul F.fills_int_mul F.slot_int_rmul repeat_list F.slot_int_index.lookup
  (call_meets F.slot_int_rmul (typeIs_int s k t) F.entry_int_rmul (F.args_int_rmul_2 _ _) (int___rmul___int_list k t l its.toArray n)
   ⟨e,rfl,⟨_,e,rfl⟩,call_meets F.slot_list_mul ⟨_,e,rfl⟩ F.entry_list_mul (F.args_list_mul_2 _ _) (AutoListH.list___mul___list_int_3 l its.toArray n k t hfit hcap hlong) ⟨e,?_⟩⟩)
 rw[hnew]
 exact⟨.ref _,_,I.lnew (t':=s.toks) (r.rep k.toNat) (by rw[len_rep,Nat.mul_comm];exact hz),rfl,q _ I.fresh⟩
end
end L2
namespace Att
open PySem PySem.W PySem.Calls PyProof.Rows
theorem Z4_{P:Params}{h:Heap}:∀(ns:List Int) (vs:List Value),WellAll P h vs (ns.map WData.int)->IntsAre vs ns:=by
 intro ns
 induction ns with
 | nil =>
  intro vs w
  rw[List.map_nil]at w
  cases w
  exact .nil
 | cons n ns ih =>
  intro vs w
  rw[List.map_cons]at w
  cases w with
  | cons a b =>
   cases a
   exact .cons _ _ (ih _ b)
theorem WI_{l:OpenLaw}{n:Nat}(hn:l.most=some n){P:Params}{h:Heap}{args:List WData}{vals:List Value}
  (hpre:l.row.toRowW.claim.pre args=true) (hwl:WellAll P h vals args) :
  ∃a vs ns,vals=[Value.ref a]/\args=[WData.list (ns.map WData.int)]/\h.get? a=some { cls:=.type "list",data:=.seq vs.toArray }/\IntsAre vs ns/\ns.length<=n:=by
 have hsh:WShape.hasAll [] args [.list .int]=true:=(pre_splitW hpre).1
 have hc:l.pre.holds [] { args:=args }=true:=(pre_splitW hpre).2
 obtain⟨d,r,rfl,h1,h2⟩:=hasAllW_cons hsh
 obtain rfl:=hasAllW_nil h2
 obtain⟨xs,rfl,h3⟩:=hasW_list h1
 obtain⟨ns,rfl⟩:=items_int h3
 have hlen:ns.length<=n:=by
  unfold OpenLaw.pre at hc
  have h4:(WTm.not (.lt (.lit (.int (n:Int))) (.len (.arg 0)))).holds [] { args:=[.list (ns.map .int)] }=true:=by
   have h4:=(holds_andW hc).1
   rw[hn]at h4
   exact h4
  have h5:=condW_of h4 (w_not (w_lt w_lit (w_len_list (w_arg rfl))))
  rw[zzd]at h5
  refine Nat.le_of_not_lt λq=>?_
  have q':(n:Int)<((ns.length:Nat):Int):=by lia
  first
   | (rw[decide_eq_true q']at h5;exact absurd h5 (by decide))
   | (simp at h5;lia)
 cases hwl with
 | cons w1 w2 =>
  cases w2
  cases w1 with
  | list ho hall=>exact⟨_,_,ns,rfl,rfl,ho,Z4_ ns _ hall,hlen⟩
theorem WX_(l:OpenLaw)(args:List WData):l.row.toRowW.claim.post args (.bool true) args=true :=
 postW_of (r:=l.row.toRowW) (X:=(true==true))
  (show WShape.has [] (.bool true) .bool=true by first|rfl|decide|simp[WShape.has,WShape.arms,WShape.armsAll])
  (show(WTm.eq .res (.lit (.bool true))).value [] { args:=args,res:=some (.bool true),after:=args }=some (.bool (true==true))from w_eq_bool (w_res rfl) w_lit) rfl
theorem attach_call{l:OpenLaw}{n:Nat}{q:Program}{loose:List Str}{XP:(Str->Option Value)->Heap->Prop}{YP:World->Heap->Prop}{d:DefRec}
  (hn:l.most=some n) (hdf:d.params.defaults=[])
  (call:∀(w:World) (s₀ s₁:Shared) (mg mb:Str->Option Value) (fa:Addr) (o:Obj) (pm cd doc:Value) (a:Addr) (vs:List Value) (ns:List Int),
   Ground q loose [] XP w s₀ mg mb s₁.heap->YP w s₁.heap ->
   s₁.heap.get? fa=some o->o.data=.func (docDef d.name d.params d.body d.scope pm cd doc)->s₁.heap.CodeRec cd d.name->mg d.name=some (.ref fa) ->
   s₁.heap.get? a=some { cls:=.type "list",data:=.seq vs.toArray }->IntsAre vs ns->ns.length<=n->s₁.gens = #[] ->
   codeAny (model l.prog w) callerA (.call (.ref fa) ⟨[.ref a],[]⟩) (λr s'=>r=.ok (.ret (.bool true))/\OldK s₁.heap s'.heap/\s'.os=s₁.os/\AllBare s'.gens) s₁) :
  WalkO q loose XP YP l.row.toRowW d [] (λf vs=>PySem.call f vs):=by
 intro w s₀ s₁ mg mb G Y fa o pm cd doc dV kV ho hd hcd hD hmg hg args vals as hpre hlay hrd hwl hlo
 obtain rfl:dV=.none:=Dflts.none hD hdf
 obtain rfl:kV=.none:=Dflts.noKw hD
 obtain⟨a,vs,ns,rfl,rfl,hobj,hints,hlen⟩:=WI_ hn hpre hwl
 refine enter_call (codeAny_mono (call w s₀ s₁ mg mb fa o pm cd doc a vs ns G Y ho (fd_plain hd) hcd hmg hobj hints hlen hg) λr s' hq=>?_)
 obtain⟨rfl,h2,h3,h4⟩:=hq
 exact⟨.inl ⟨.bool true,.bool true,[],rfl,λ_=>rfl,.bool true,WX_ l _,λ_=>⟨List.Pairwise.nil,λ_ hm=>(nomatch hm)⟩⟩,h2,h3,h4⟩
end Att
namespace L2
open PySem PySem.Spec PyProof.Rows
theorem UM_:∀{vs:List Value} {ns:List Int},IntsAre vs ns->Vals (ns.map V.int) vs
 | _,_,.nil=>.nil
 | _,_,.cons n t h=>.cons ⟨t,rfl⟩ (UM_ h)
def Only(H:Hp):Prop:=∀b,H b=none\/∃o xs,H b=some (.frz o (.lst xs))
theorem zbG_{P:Program}{w:World}{K:PySem.W.Frag}{mg mb:Str->Option Value}{CX:CXT}{k:Nat}{fa a:Addr}{fd:FuncData}{x:Str}{sp:Sp}{s₁:Shared}{vs:List Value}{ns:List Int}
  (KX:K.In s₁.heap) (hns:s₁.heap.Ns mainGlobals mg) (hb:s₁.heap.Ns builtinsNs mb) (hbb:∀x:Str,x ≠ "__name__" -> mb x=bootBuiltins x) (hlim:s₁.heap.NoLimit) (hg:s₁.gens = #[])
  (ha:s₁.heap.get? a=some { cls:=.type "list",data:=.seq vs.toArray }) (hi:IntsAre vs ns) (hl:ns.length<=sizeLine) (hr:Room k callerA)
  (F:∀base:Heap,K.In base->base.Ns mainGlobals mg->FnOk P w K mg base CX k fa fd [x] sp) (hbind:∀(s:Shared) (u:Value),BindsTo s fd ⟨[u],[]⟩ [(x,u)])
  (hsp:∀H:Hp,Only H->SqL K H a (ns.map V.int)->sp [.ref a] H (λv _=>v=.bl true) λ_ _ _=>False)
  (hCX:∀H e s',CX [] H s₁ (λ_ _ _=>False) e s'->False) :
  codeAny (model P w) callerA (.call (.ref fa) ⟨[.ref a],[]⟩) (λr s'=>r=.ok (.ret (.bool true))/\OldK s₁.heap s'.heap/\s'.os=s₁.os/\AllBare s'.gens) s₁:=by
 have rv:=UM_ hi
 have lenV:=hi.length
 have core:∀H:Hp,Only H->SqL K H a (ns.map V.int)->HOk P w H s₁.heap->(∀b,H b≠none->b=a)->(H a≠none->K.lookup a=none) ->
   codeAny (model P w) callerA (.call (.ref fa) ⟨[.ref a],[]⟩) (λr s'=>r=.ok (.ret (.bool true))/\OldK s₁.heap s'.heap/\s'.os=s₁.os/\AllBare s'.gens) s₁:=by
  intro H hO hS hok hA hK
  have base_of:∀{b:Addr} {o:Obj},s₁.heap.get? b=some o->H b=none->(hidT s₁.heap H).get? b=some o:=λe n=>zbU_ e n
  have noA:∀{b:Addr} {o:Obj} {es:Array DictEntry} {ep:Nat},s₁.heap.get? b=some o->o.data=.dict es ep->H b=none:=λ{b o es ep} e d=>by
   cases q:H b with
   | none=>rfl
   | some u =>
    have e':b=a:=hA b (by rw[q];simp)
    subst e'
    rw[ha]at e;cases e
    have d':Data.seq vs.toArray _=Data.dict es ep:=d
    cases d'
  have nsK:∀{b:Addr} {m:Str->Option Value},s₁.heap.Ns b m->(hidT s₁.heap H).Ns b m:=λ{b m} ⟨o,es,ep,e,d,r⟩=>⟨o,es,ep,base_of e (noA e d),d,r⟩
  have hKb:K.In (hidT s₁.heap H):=λb o e=>base_of (KX b o e) (by
   cases q:H b with
   | none=>rfl
   | some u =>
    have e':b=a:=hA b (by rw[q];simp)
    subst e'
    rw[hK (by rw[q];simp)]at e;cases e)
  have hM:Mod K mg (hidT s₁.heap H):=⟨hKb,nsK hns,⟨mb,nsK hb,hbb⟩,let ⟨mc,h1,h2⟩:=hlim;⟨mc,nsK h1,h2⟩⟩
  have e0:Env0 P w K mg (hidT s₁.heap H) callerA [] s₁ H:=⟨rfl,hM,λb o e=>zeF_ e,Nat.le_of_eq (XN_ _ _),trivial,λb hb=>absurd (show b∈([]:List Addr)from hb) (by simp),hok,.of_eq hg⟩
  refine codeAny_mono ((F _ hKb (nsK hns)).run callerA [] s₁ H ⟨[.ref a],[]⟩ [.ref a] [.ref a] _ _ hr e0 (hbind s₁ (.ref a)) (.cons rfl .nil) (hsp H hO hS)) λr s' h=>?_
  cases r with
  | error e=>exact(hCX H e s' h).elim
  | ok fl =>
   cases fl with
   | next=>exact False.elim h
   | brk=>exact False.elim h
   | cont=>exact False.elim h
   | ret u =>
    obtain⟨v,H',os,bare,un,hok',r',q⟩:=h
    have q':v=.bl true:=q
    subst q'
    obtain rfl:u=Value.bool true:=r'
    refine⟨rfl,OldK.of_keep λb o e=>?_,os,bare⟩
    cases q:H b with
    | none=>exact un.keep b o e q (by intro z;exact absurd (show b∈([]:List Addr)from z) (by simp)) (by simp)
    | some u =>
     rcases hO b with z|⟨ob,xs,z⟩
     ·rw[q]at z;cases z
     ·have z2:=un.frzs b ob _ z
      obtain⟨e1,_⟩:=hok b _ z
      obtain⟨e2,_⟩:=hok' b _ z2
      rw[e]at e1;cases e1
      exact e2
 cases hk:K.lookup a with
 | some o =>
  have e:=KX a o hk
  rw[ha]at e
  cases e
  refine core (λ_=>none) (λ_=>.inl rfl) (.inr ⟨_,vs.toArray,_,hk,rfl,rfl,rfl,by rw[List.size_toArray,lenV];exact hl,by simpa using rv⟩) (λb u z=>by have z':(none:Option HO)=some u:=z;cases z') (λb z=>absurd rfl z) λz=>absurd rfl z
 | none =>
  refine core (λb=>if b=a then some (.frz { cls:=.type "list",data:=.seq vs.toArray } (.lst (ns.map V.int)))else none) (λb=>?_) (.inl (.inr ⟨{ cls:=.type "list",data:=.seq vs.toArray },if_pos rfl⟩)) (λb u z=>?_) (λb z=>?_) λ_=>hk
  ·by_cases hb:b=a
   ·exact .inr ⟨_,_,if_pos hb⟩
   ·exact .inl (if_neg hb)
  ·by_cases hb:b=a
   ·have z':=(if_pos hb).symm.trans z
    cases z'
    subst hb
    exact⟨ha,by rw[zzd];exact hl,vs,_,rv,ha⟩
   ·have z':=(if_neg hb).symm.trans z
    cases z'
  ·by_cases hb:b=a
   ·exact hb
   ·exact absurd (if_neg hb) z
theorem walk_of{l:PySem.W.OpenLaw}{n k:Nat}{q:Program}{loose:List Str}{XP:(Str->Option Value)->Heap->Prop}{YP:World->Heap->Prop}{d:DefRec}{K:Params->PySem.W.Frag}{CX:World->CXT}{sp:World->Sp}{x:Str}
  (hn:l.most=some n) (hn2:n<=sizeLine) (hdf:d.params.defaults=[]) (hr:Room k callerA)
  (hY:∀(w:World) (h:Heap),YP w h->(K w.params).In h)
  (F:∀(w:World) (mg:Str->Option Value) (fa:Addr) (h:Heap),(K w.params).In h->h.Ns mainGlobals mg->mg d.name=some (.ref fa) ->
   ∃fd:FuncData,(∀(s:Shared) (u:Value),BindsTo s fd ⟨[u],[]⟩ [(x,u)]) /\
    ∀base:Heap,(K w.params).In base->base.Ns mainGlobals mg->FnOk l.prog w (K w.params) mg base (CX w) k fa fd [x] (sp w))
  (hsp:∀(w:World) (H:Hp) (a:Addr) (ns:List Int),ns.length<=n->Only H->SqL (K w.params) H a (ns.map V.int)->sp w [.ref a] H (λv _=>v=.bl true) λ_ _ _=>False)
  (hCX:∀(w:World) (H:Hp) (s:Shared) (e:Value) (s':Shared),CX w [] H s (λ_ _ _=>False) e s'->False) :
  PySem.W.WalkO q loose XP YP l.row.toRowW d [] (λf vs=>PySem.call f vs):=by
 refine Att.attach_call hn hdf λw s₀ s₁ mg mb fa o pm cd doc a vs ns G Y ho hd hcd hmg hobj hints hlen hg=>?_
 have KX:=hY w _ Y
 obtain⟨fd,hb,hF⟩:=F w mg fa _ KX G.T.g hmg
 exact zbG_ KX G.T.g G.T.b G.T.builtins G.T.nolimit hg hobj hints (Nat.le_trans hlen hn2) hr hF hb (λH hO hS=>hsp w H a ns hlen hO hS) λH e s'=>hCX w H s₁ e s'
noncomputable def z5_(s:Stmt):Arguments:=match s with
 | .FunctionDef _ a _ _ _ _ _ _ _ _=>a
 | _=>{ posonlyargs:=[],args:=[],vararg:=none,kwonlyargs:=[],kw_defaults:=[],kwarg:=none,defaults:=[] }
noncomputable def zK_(s:Stmt):List Stmt:=match s with
 | .FunctionDef _ _ b _ _ _ _ _ _ _=>b
 | _=>[]
noncomputable def zd_(s:Stmt):Scope:=match s with
 | .FunctionDef _ _ _ _ _ _ sc _ _ _=>sc
 | _=>{ kind:=.function,names:=[],isGenerator:=false,isCoroutine:=false }
structure Fun(K:PySem.W.Frag)(x qual:Str)(st:Stmt)(f:Addr)(fd:FuncData):Prop where
 ex:∃(oc:Value) (od:Option Addr) (kV doc pm:Value) (an:Option Addr) (cdv ct:Value) (osl:Array (Option Value)),
  fd=PySem.W.fnOf x qual (z5_ st) (zK_ st) (zd_ st) .none kV doc pm an cdv ct/\K.lookup f=some ⟨oc,od,.func fd,osl⟩/\PySem.W.codeIn K cdv qual=true
 kp:PySem.W.keepIn K (.ref f)=true
section
variable {P:Program}{w:World}{K:PySem.W.Frag}{mg:Str->Option Value}{base:Heap}
theorem Fun.binds{x qual:Str}{st:Stmt}{f:Addr}{fd:FuncData}{ps:List Str}(F:Fun K x qual st f fd)
  (h:∀(kV doc pm:Value) (an:Option Addr) (cdv ct:Value) (us:List Value),us.length=ps.length->bindArgs (PySem.W.fnOf x qual (z5_ st) (zK_ st) (zd_ st) .none kV doc pm an cdv ct) ⟨us,[]⟩=pure (ps.zip us)):Binds K fd ps []:=by
 obtain⟨oc,od,kV,doc,pm,an,cdv,ct,osl,rfl,lk,hcd⟩:=F.ex
 exact .all (h kV doc pm an cdv ct)
theorem zdk_{x qual:Str}{st:Stmt}{f:Addr}{oc:Value}{od an:Option Addr}{osl:Array (Option Value)}{kV doc pm cdv ct:Value}(l:K.lookup f=some ⟨oc,od,.func (PySem.W.fnOf x qual (z5_ st) (zK_ st) (zd_ st) .none kV doc pm an cdv ct),osl⟩)
  (c:PySem.W.codeIn K cdv qual=true) (k:PySem.W.keepIn K (.ref f)=true):Fun K x qual st f (PySem.W.fnOf x qual (z5_ st) (zK_ st) (zd_ st) .none kV doc pm an cdv ct):=⟨⟨oc,od,kV,doc,pm,an,cdv,ct,osl,rfl,l,c⟩,k⟩
end
theorem iteF{A B:Prop}(h:B):if false=true then A else B:=by
 rw[if_neg Bool.false_ne_true]
 exact h
theorem iteT{A B:Prop}(h:A):if true=true then A else B:=by
 rw[if_pos rfl]
 exact h
def Same(H H':Hp):Prop:=∀b o,H b=some o->H' b=some o
theorem Same.refl(H:Hp):Same H H:=λ_ _ h=>h
theorem Same.trans{H H1 H2:Hp}(a:Same H H1)(b:Same H1 H2):Same H H2:=λc o h=>b c o (a c o h)
theorem Same.free{H H':Hp}(e:Same H H'){l:Addr}(h:H' l=Option.none):H l=Option.none:=by
 cases q:H l with
 | none=>rfl
 | some o =>
  rw[e l o q]at h
  cases h
theorem Same.seq{K:PySem.W.Frag}{H H':Hp}{a:Addr}{xs:List V}(e:Same H H')(h:SqL K H a xs):SqL K H' a xs:=by
 rcases h with (h|⟨o,h⟩)|h
 ·exact .inl (.inl (e _ _ h))
 ·exact .inl (.inr ⟨o,e _ _ h⟩)
 ·exact .inr h
noncomputable def zB_(X:Cx)(N':List Str)(scope:Scope)(cl:List (Str×Addr))(s₂:Shared)(H₂:Hp)(fp:List Addr)(C:Addr):Cx :=
 { X with N:=N',s₀:=s₂,H₀:=H₂,env:=compEnvC scope cl C X.env,outer:=X.stack,ex:=fp,fn:=λ_=>false,pn:=[],xe:=λ_ _=>False }
noncomputable def lobj(ys:List Value)(k:Nat):Obj:={ cls:=.type "list",data:=.seq ys.toArray k }
section
variable {prog:Program}{w:World}{A:Around}{R:Result->Shared->Prop}{s:Shared}
theorem uI_{elt target iter:Expr}{ifs:List Expr}{scope:Scope}{pos:Pos}{it acc:Value}{env:Env}(I:Nat->Shared->Prop)
  (turn:∀n s,I n s->wpAny (model prog w) A (pyNext it) (λr s₁=>match r with
   | none=>R (.ok .next) s₁
   | some v=>wpAny (model prog w) A (letOwnedTupleGo target it v) (λ_ s₁'=>wpAny (model prog w) A (assign target env v) (λ_ s₂ =>
     wpAny (model prog w) A (forIn ifs true λc r=>if r=true then do let ok <-isTrue c env (eval c env);pure (ForInStep.yield ok)else pure (ForInStep.yield r)) (λok s₃ =>
      if ok=true then wpAny (model prog w) A (eval elt env) (λx s₄ =>
       wpAny (model prog w) A (call (.builtin "list.append") [acc,x]) (λ_ s₅=>∃m,m<n/\I m s₅) (λ_ _=>False) s₄) (λ_ _=>False) s₃
      else ∃m,m<n/\I m s₃) (λ_ _=>False) s₂) (λ_ _=>False) s₁') (λ_ _=>False) s₁) (λ_ _=>False) s)
  (n:Nat) (h:I n s) :
  codeAny (model prog w) A (.compLoop (.ListComp elt [⟨target,iter,ifs,0⟩] scope pos) 0 it acc env) R s:=by
 refine codeAny_loop rfl I (λn s hI=>?_) n h
 show wpAny _ A ((compTurn (.ListComp elt [⟨target,iter,ifs,0⟩] scope pos) 0 it acc env).onRaise (λx=>do noteFrame x env;theTreesLotGoes x)) _ _ s
 refine wpAny_noted ?_
 rw[compTurn_list]
 refine zza (wpAny_standAt (zza (wpAny_mono (turn n s hI) (λr s₁ h₁=>?_) λ_ _ h'=>h'.elim)))
 cases r with
 | none=>exact zzb h₁
 | some v =>
  refine zza (wpAny_mono h₁ (λ_ s₁' h₁'=>?_) λ_ _ h'=>h'.elim)
  refine zza (wpAny_mono h₁' (λ_ s₂ h₂=>zza (wpAny_mono h₂ (λok s₃ h₃=>?_) λ_ _ h'=>h'.elim)) λ_ _ h'=>h'.elim)
  cases ok with
  | false=>exact zzb ⟨rfl,h₃⟩
  | true =>
   exact zza (zza (wpAny_mono h₃ (λx s₄ h₄=>zza (wpAny_mono h₄ (λ_ s₅ h₅=>zzb (zzb ⟨rfl,h₅⟩)) λ_ _ h'=>h'.elim)) λ_ _ h'=>h'.elim))
end
def PTs(X:Cx)(ifs:List Expr)(t:TT):Prop :=
 ∀(pins:List (Addr×Obj)) (s:Shared) (σ:St) (H:Hp) (Q:Bool->Hp->Prop),Inv X pins σ H s->t σ H Q ->
  wpAny (model X.prog X.w) X.A (forIn ifs true λc r=>if r=true then do let ok <-isTrue c X.env (eval c X.env);pure (ForInStep.yield ok)else pure (ForInStep.yield r)) (TP X pins σ Q) X.xe s
theorem zec_{X:Cx}:PTs X [] (λ_ H Q=>Q true H):=λ_ _ _ H _ I h=>wpAny_tests_nil ⟨H,I,h⟩
theorem zeb_{X:Cx}{c:Expr}{t:TT}(h:PT X c t):PTs X [c] t:=λpins s σ H Q I q=>wpAny_tests_one (h pins s σ H Q I q)
theorem jE_{env:Env}:∀{names:List (Str×NameKind)} {x:Str},
  (names.map λ(n,k)=>if(k==NameKind.free&&env.scope.kind==.function&&env.kindOf n==some .cell)then(n,NameKind.cell)else(n,k)).lookup x
   = (names.lookup x).map λk=>if(k==NameKind.free&&env.scope.kind==.function&&env.kindOf x==some .cell)then NameKind.cell else k
 | [],_=>rfl
 | (n,k)::r,x=>by
  have ih:=@jE_ env r x
  show List.lookup x ((if(k==NameKind.free&&env.scope.kind==.function&&env.kindOf n==some .cell)=true then(n,NameKind.cell)else(n,k))::_)=_
  cases hx:x==n with
  | true =>
   have e:x=n:=by simpa using hx
   subst e
   by_cases hc:(k==NameKind.free&&env.scope.kind==.function&&env.kindOf x==some .cell)=true
   ·rw[if_pos hc];simp only[List.lookup_cons,hx,Option.map_some,if_pos hc]
   ·rw[if_neg hc];simp only[List.lookup_cons,hx,Option.map_some,if_neg hc]
  | false =>
   by_cases hc:(k==NameKind.free&&env.scope.kind==.function&&env.kindOf n==some .cell)=true
   ·rw[if_pos hc];simp only[List.lookup_cons,hx];exact ih
   ·rw[if_neg hc];simp only[List.lookup_cons,hx];exact ih
theorem yR_{env:Env}:∀(names:List (Str×NameKind)) (acc:List (Str×Addr)),(∀x∈names,x.2=.free->∃c,env.cells.lookup x.1=some c) ->
  (∀x c,acc.lookup x=some c->env.cells.lookup x=some c) ->
  ∃cl,(forIn names acc λ(x:Str×NameKind) (cs:List (Str×Addr))=>(if(x.2==NameKind.free)=true then(do let c <-cellOf env x.1;pure (ForInStep.yield ((x.1,c)::cs)))else pure (ForInStep.yield cs):Sem (ForInStep (List (Str×Addr)))))=pure cl /\
   (∀x c,cl.lookup x=some c->env.cells.lookup x=some c)/\(∀x,(acc.lookup x).isSome->(cl.lookup x).isSome)/\∀x∈names,x.2=.free->(cl.lookup x.1).isSome
 | [],acc,_,ha=>⟨acc,rfl,ha,λ_ h=>h,λ_ h=>nomatch h⟩
 | (n,k)::r,acc,hn,ha=>by
  cases hk:(k==NameKind.free)with
  | true =>
   obtain⟨c,hc⟩:=hn (n,k) List.mem_cons_self (by simpa using hk)
   have ha':∀x d,((n,c)::acc).lookup x=some d->env.cells.lookup x=some d:=λx d e=>by
    rw[List.lookup_cons]at e
    cases q:x==n with
    | true =>
     rw[q]at e
     have:x=n:=by simpa using q
     subst this
     exact hc.trans e
    | false=>rw[q]at e;exact ha x d e
   obtain⟨cl,e,h1,h2,h3⟩:=yR_ r ((n,c)::acc) (λx hx=>hn x (zzg _ hx)) ha'
   have grow:∀x,(acc.lookup x).isSome->(((n,c)::acc).lookup x).isSome:=λx hx=>by
    rw[List.lookup_cons]
    cases q:x==n with
    | true=>rfl
    | false=>exact hx
   refine⟨cl,?_,h1,λx hx=>h2 x (grow x hx),λx hx hf=>?_⟩
   ·rw[List.forIn_cons]
    have q:cellOf env n=pure c:=by
     unfold cellOf
     rw[hc]
    simp only[hk,if_true,q]
    exact e
   ·rcases List.mem_cons.mp hx with rfl|hx
    ·exact h2 _ (by simp[List.lookup_cons])
    ·exact h3 x hx hf
  | false =>
   obtain⟨cl,e,h1,h2,h3⟩:=yR_ r acc (λx hx=>hn x (zzg _ hx)) ha
   refine⟨cl,?_,h1,h2,λx hx hf=>?_⟩
   ·rw[List.forIn_cons]
    simp only[hk,Bool.false_eq_true,if_false]
    exact e
   ·rcases List.mem_cons.mp hx with rfl|hx
    ·exfalso;have:k=.free:=hf;subst this;simp at hk
    ·exact h3 x hx hf
theorem JS_{env:Env}{scope:Scope}(h:∀x∈scope.names,x.2=.free->∃c,env.cells.lookup x.1=some c) :
  ∃cl,closureFor scope env=pure cl/\(∀x c,cl.lookup x=some c->env.cells.lookup x=some c)/\∀x∈scope.names,x.2=.free->(cl.lookup x.1).isSome:=by
 obtain⟨cl,e,h1,_,h3⟩:=yR_ (env:=env) scope.names [] h (λx c e=>by simp at e)
 refine⟨cl,?_,h1,h3⟩
 unfold closureFor
 have q:(forIn scope.names [] λ(x:Str×NameKind) (cs:List (Str×Addr))=>(match x with|(name,kind)=>if(kind==NameKind.free)=true then(do let c <-cellOf env name;pure (ForInStep.yield ((name,c)::cs)))else pure (ForInStep.yield cs):Sem (ForInStep (List (Str×Addr)))))=pure cl:=e
 first
  | (simp only[];rw[q];rfl)
  | (show(do let cs <-_;pure cs)=_;rw[q];rfl)
  | (rw[show(forIn scope.names [] _)=pure cl from q];rfl)
structure CompOk(X:Cx)(N':List Str)(k:Nat)(scope:Scope):Prop where
 kind:scope.kind=.function
 len:N'.length=X.N.length+k
 nocell:∀y∈scope.names,y.2≠.cell
 names:∀y∈scope.names,y.2=.local->scope.names.lookup y.1=some .local
 outer:∀(i:Nat) x,i<X.N.length->N'[i]? = some x->(scope.names.lookup x).isSome->(scope.names.lookup x=some .free\/scope.names.lookup x=some .local\/scope.names.lookup x=some .cell)->X.N[i]? = some x/\scope.names.lookup x=some .free
 free:∀y∈scope.names,y.2=.free->X.env.kindOf y.1=some .cell\/X.env.kindOf y.1=some .free
def zaL_(wi:TI)(k:Nat)(g:TG)(tc:TT)(te:TE):TE:=λσ H Q=>wi σ H λJ H1=>∃W:Nat->Nat->List V->St->Hp->Prop,(∃m,W 0 m [] (σ++List.replicate k none) H1) /\
 ∀i m vs σ' H',W i m vs σ' H'->vs.length<=sizeLine /\
  ((J.stop i H'/\∀p,H' p=none->Q (.ref p) (upd H' p (.lst vs))) \/
   (J.go i H'/\∀x H2,J.yld i H' x H2->g x σ' H2 λσ3 H3=>tc σ3 H3 λb H4=>if b=true then te σ3 H4 λy H5=>∃m',m'<m/\W (i+1) m' (vs++[y]) σ3 H5 else ∃m',m'<m/\W (i+1) m' vs σ3 H4))
section
variable {X:Cx}{pins:List (Addr×Obj)}{σ:St}{H2:Hp}{s2:Shared}
theorem HOk.track{P:Program}{w:World}{H:Hp}{h:Heap}{D:Addr}{vs:List V}{ys:List Value}{k:Nat}(x:HOk P w H h)(hn:H D=none)(hl:vs.length<=sizeLine)(r:Vals vs ys)(e:h.get? D=some (lobj ys k)) :
  HOk P w (upd H D (.lst vs)) h:=λb u q=>by
 by_cases hb:b=D
 ·subst hb
  rw[zn_]at q
  cases q
  exact⟨hl,ys,k,r,e⟩
 ·rw[zj_ hb]at q
  exact(x b u q).stay (λ_ _ _ z=>z) (λc z=>by rw[zj_ (zr_ z hn)];exact z) λc xs z=>by rw[zj_ (zr_ z hn)];exact z
theorem YG_{elt tg iter:Expr}{ifs:List Expr}{scope:Scope}{pos:Pos}{N':List Str}{k:Nat}{cl:List (Str×Addr)}{J:It}{fp:List Addr}{it:Addr}{tn:Nat->Heap->Prop}{g:TG}{tc:TT}{te:TE}{E:Value->Shared->Prop}
  {RR:Value->Addr->Result->Shared->Prop} {Q:VK}
  (hc:X.calm=true) (S:CompOk X N' k scope) (hcl:∀x c,cl.lookup x=some c->X.env.cells.lookup x=some c) (hcf:∀x∈scope.names,x.2=.free->(cl.lookup x.1).isSome)
  (I:Inv X pins σ H2 s2) (T:Turn X.prog X.w X.K tg J fp it tn) (st:tn 0 s2.heap) (ff:∀b∈fp,FpOk X pins H2 b)
  (hg:∀C,PG (zB_ X N' scope cl s2 H2 fp C) tg g) (ht:∀C,PTs (zB_ X N' scope cl s2 H2 fp C) ifs tc) (he:∀C,PE (zB_ X N' scope cl s2 H2 fp C) elt te)
  (rd:∃W:Nat->Nat->List V->St->Hp->Prop,(∃m,W 0 m [] (σ++List.replicate k none) H2) /\
   ∀i m vs σ' H',W i m vs σ' H'->vs.length<=sizeLine /\
    ((J.stop i H'/\∀p,H' p=none->Q (.ref p) (upd H' p (.lst vs))) \/
     (J.go i H'/\∀x H2,J.yld i H' x H2->g x σ' H2 λσ3 H3=>tc σ3 H3 λb H4=>if b=true then te σ3 H4 λy H5=>∃m',m'<m/\W (i+1) m' (vs++[y]) σ3 H5 else ∃m',m'<m/\W (i+1) m' vs σ3 H4)))
  (hRR:∀D C s' H',Inv X pins σ H' s'->(∃m,s'.heap.Ns C m)->FpOk X pins H' C->Q (.ref D) H'->RR (.ref D) C (.ok .next) s') :
  wpAny (model X.prog X.w) X.A (newList []) (λacc s₃=>wpAny (model X.prog X.w) X.A (newFunctionEnv scope X.env.globals cl [] X.env.qual none .none (some X.env)) (λcenv s₄ =>
   codeAny (model X.prog X.w) X.A (.compStart (.ListComp elt [⟨tg,iter,ifs,0⟩] scope pos) 0 (.ref it) acc { cenv with scope:=relabel scope X.env }) (RR acc cenv.locals) s₄) E s₃) E s2:=by
 obtain⟨W,⟨m0,w0⟩,turn⟩:=rd
 refine wpAny_newObj_type (wpAny_newFunctionEnv S.nocell (by intro y hy;simp at hy) (λh₁ hns₁ hsb₁=>?_) S.kind)
 dsimp only at hns₁ hsb₁ ⊢
 generalize hH2:s2.heap.push { cls:=.type "list",dict:=none,data:=.seq ([]:List Value).toArray }=G2 at hns₁ hsb₁ ⊢
 have hCs:G2.objs.size=s2.heap.objs.size+1:=by rw[<-hH2,Heap.size_push]
 have hDC:s2.heap.objs.size≠G2.objs.size:=by rw[hCs];exact Nat.ne_of_lt (Nat.lt_succ_self _)
 have hCle:s2.heap.objs.size<=G2.objs.size:=by rw[hCs];exact Nat.le_succ _
 have below:∀b,b<s2.heap.objs.size->b≠G2.objs.size/\b≠s2.heap.objs.size:=λb hb=>⟨by rw[hCs];exact Nat.ne_of_lt (Nat.lt_succ_of_lt hb),Nat.ne_of_lt hb⟩
 have old:∀b o,s2.heap.get? b=some o->h₁.get? b=some o:=λb o e=>hsb₁.extBut b o (below b (Heap.lt_size e)).1 (zzc _ (hH2▸zzc _ e))
 have hacc:h₁.get? s2.heap.objs.size=some (lobj [] 0):=hsb₁.extBut _ _ hDC (zzc _ (hH2▸zze _ rfl))
 generalize hDe:s2.heap.objs.size=D at *
 generalize hCe:G2.objs.size=C at *
 have fpD:FpOk X pins H2 D:=I.fpOk (by rw[hDe];exact Nat.le_refl _) (I.hok.fresh (by rw[hDe];exact Nat.le_refl _))
 have fpC:∀H',H' C=none->FpOk X pins H' C:=λH' hn=>I.fpOk (by rw[hDe];exact hCle) hn
 have hfpD:∀b∈fp,b<D:=λb hb=>by
  obtain⟨o,e,_⟩:=T.obj _ _ st b hb
  rw[<-hDe];exact Heap.lt_size e
 have nofr:∀b,D<=b->b∉frs X.stack:=λb hb hm=>by
  rcases List.mem_cons.mp (I.stkSub b hm)with e|hm
  ·have:=I.lt;rw[hDe]at this;rw[e]at hb;exact absurd (Nat.lt_of_lt_of_le this hb) (Nat.lt_irrefl _)
  ·exact I.nofs (by rw[hDe];exact hb) hm
 let X':=zB_ X N' scope cl s2 H2 fp C
 have cellLt:∀x c,cl.lookup x=some c->c<D:=λx c e=>by
  obtain⟨v,z⟩:=I.cell x c (hcl x c e)
  rw[<-hDe];exact z.lt
 have ok':X'.Ok:=by
  refine⟨I.ok.mod,S.kind,I.ok.glob,I.ok.blt,?_,λx y c e1 e2=>I.ok.inj x y c (hcl _ _ e1) (hcl _ _ e2),λx hx=>?_,λx c hf _=>(nomatch hf),I.ok.hd,I.ok.frames,.inl rfl,λb hb=>⟨?_,λx c e z=>?_⟩,I.bs,?_,λb o e hb=>?_,λb hb hm=>?_,I.stack,I.stkFree⟩
  ·show s2.heap.objs.size<=C
   rw[hDe];exact hCle
  ·have hx':(relabel scope X.env).names.lookup x=some .cell\/(relabel scope X.env).names.lookup x=some .free:=hx
   have e:=jE_ (env:=X.env) (names:=scope.names) (x:=x)
   have e':(relabel scope X.env).names.lookup x=(scope.names.lookup x).map λk=>if(k==NameKind.free&&X.env.scope.kind==.function&&X.env.kindOf x==some .cell)then NameKind.cell else k:=e
   rw[e']at hx'
   cases q:scope.names.lookup x with
   | none=>rw[q]at hx';rcases hx' with z|z<;>cases z
   | some kd =>
    have hmem:=PySem.mem_of_lookup q
    rw[q]at hx'
    have hkd:kd=.free:=by
     by_cases hz:kd=.free
     ·exact hz
     ·exfalso
      have hb:(kd==NameKind.free)=false:=by simpa using hz
      simp only[hb,Bool.false_and,Bool.false_eq_true,if_false,Option.map_some]at hx'
      rcases hx' with z|z
      ·exact S.nocell _ hmem (Option.some.inj z)
      ·exact hz (Option.some.inj z)
    exact Option.isSome_iff_exists.mp (hcf _ hmem hkd)
  ·exact Nat.ne_of_lt (Nat.lt_of_lt_of_le (hfpD b hb) hCle)
  ·exact(ff b hb).2.2.2.2.1 x c (hcl x c e) z
  ·exact Nat.le_trans I.ok.bsz I.sz
  ·obtain⟨_,_,_,hx,_⟩:=ff b hb
   rcases hx with hx|hx
   ·exact I.ok.noex b o e hx
   ·exact absurd (Nat.lt_of_lt_of_le (Heap.lt_size (I.ok.bs b o e).1) hx) (Nat.lt_irrefl _)
  ·obtain⟨_,hl,hfs,_⟩:=ff b hb
   rcases List.mem_cons.mp (I.stkSub b hm)with e|hm
   ·exact hl e
   ·exact hfs hm
 have lenσ:(σ++List.replicate k none).length=N'.length:=by rw[zzf,List.length_replicate,I.len,S.len]
 have I0:Inv X' [(D,lobj [] 0)] (σ++List.replicate k none) H2 { s2 with heap:=h₁,toks:=s2.toks+([]:List (Str×Value)).length }:=by
  refine⟨ok',rfl,I.bare,Un.kept old,⟨_,hns₁,λi x v e1 e2 e3=>?_⟩,λx c e=>?_,I.hok.fresh (by rw[hDe];exact hCle),λx c e=>I.freeC x c (hcl x c e),λp hp=>?_,I.hok.kept old,lenσ⟩
  ·have hi:i<σ.length:=by
    by_cases hi:i<σ.length
    ·exact hi
    ·rw[List.getElem?_append_right (Nat.not_lt.mp hi),List.getElem?_replicate]at e2
     split at e2<;>cases e2
   rw[List.getElem?_append_left hi]at e2
   have e':(relabel scope X.env).names.lookup x=(scope.names.lookup x).map λk=>if(k==NameKind.free&&X.env.scope.kind==.function&&X.env.kindOf x==some .cell)then NameKind.cell else k:=jE_ (env:=X.env) (names:=scope.names) (x:=x)
   have hsome:∃kd,scope.names.lookup x=some kd/\(kd=.free\/kd=.local\/kd=.cell):=by
    have e3':(relabel scope X.env).names.lookup x=some .local\/(relabel scope X.env).names.lookup x=some .cell\/(relabel scope X.env).names.lookup x=some .free:=e3
    rw[e']at e3'
    cases q:scope.names.lookup x with
    | none=>rw[q]at e3';rcases e3' with z|z|z<;>cases z
    | some kd =>
     refine⟨kd,rfl,?_⟩
     rw[q]at e3'
     by_cases hz:kd=.free
     ·exact .inl hz
     ·have hb:(kd==NameKind.free)=false:=by simpa using hz
      simp only[hb,Bool.false_and,Bool.false_eq_true,if_false,Option.map_some,Option.some.injEq]at e3'
      rcases e3' with z|z|z
      ·exact .inr (.inl z)
      ·exact .inr (.inr z)
      ·exact .inl z
   obtain⟨kd,hk1,hk2⟩:=hsome
   obtain⟨hN,hfree⟩:=S.outer i x (by rw[<-I.len];exact hi) e1 (by rw[hk1];rfl) (by rcases hk2 with z|z|z<;>subst z<;>simp[hk1])
   have hmem:=PySem.mem_of_lookup hfree
   have hko:=S.free _ hmem rfl
   have hkx:X.env.kindOf x=some .cell\/X.env.kindOf x=some .free:=hko
   obtain⟨m,hn,hl⟩:=I.loc
   obtain⟨u,r,lk⟩:=hl i x v hN e2 (by rcases hkx with z|z;exact .inr (.inl z);exact .inr (.inr z))
   refine⟨u,r,.inr ⟨?_,?_⟩⟩
   ·show(relabel scope X.env).names.lookup x=some .cell\/(relabel scope X.env).names.lookup x=some .free
    rw[e',hfree,Option.map_some]
    split
    ·exact .inl rfl
    ·exact .inr rfl
   ·rcases lk with ⟨kl,_⟩|⟨_,c,ec,hcell⟩
    ·rcases hkx with z|z<;>(rw[z]at kl;cases kl)
    ·obtain⟨c',ec'⟩:=Option.isSome_iff_exists.mp (hcf _ hmem rfl)
     have q:=hcl _ _ ec'
     rw[ec]at q
     cases q
     exact⟨c,ec',hcell.keeps old⟩
  ·obtain⟨v,z⟩:=I.cell x c (hcl x c e)
   exact⟨v,z.keeps old⟩
  ·have hp':p∈([]:List (Addr×Obj))++[(D,lobj [] 0)]:=hp
   have ep:p=(D,lobj [] 0):=by simpa using hp'
   subst ep
   exact⟨hacc,fpD.1,hDC,nofr D (Nat.le_refl _),λv z=>nomatch z⟩
 have stat:∀{H':Hp} {o:Obj},(∀b∈fp,H' b=none)->∀b∈fp,FpOk X' [(D,o)] H' b:=λ{H' o} hn b hb=>by
  refine⟨hn b hb,Nat.ne_of_lt (Nat.lt_of_lt_of_le (hfpD b hb) hCle),ok'.exfs b hb,.inl hb,λx c e z=>(ff b hb).2.2.2.2.1 x c (hcl x c e) z,λp hp=>?_⟩
  have hp':p∈([]:List (Addr×Obj))++[(D,o)]:=hp
  have ep:p=(D,o):=by simpa using hp'
  subst ep
  exact Nat.ne_of_gt (hfpD b hb)
 have loop:∀s₃:Shared,s₃={ s2 with heap:=h₁,toks:=s2.toks+([]:List (Str×Value)).length } ->
   codeAny (model X.prog X.w) X.A (.compLoop (.ListComp elt [⟨tg,iter,ifs,0⟩] scope pos) 0 (.ref it) (.ref D) (compEnvC scope cl C X.env)) (RR (.ref D) C) s₃:=by
  rintro s₃ rfl
  refine uI_ (λn s'=>∃i vs ys kk σ' H',Inv X' [(D,lobj ys kk)] σ' H' s'/\tn i s'.heap/\(∀b∈fp,H' b=none)/\Vals vs ys/\W i n vs σ' H') ?_ m0
   ⟨0,[],[],0,_,H2,I0,T.keep _ _ _ st λb _ o e=>old b o e,λb hb=>(ff b hb).1,.nil,w0⟩
  rintro n s3 ⟨i,vs,ys,kk,σ3,H3,I3,st3,fr3,rv,w3⟩
  obtain⟨hvl,hcase⟩:=turn i n vs σ3 H3 w3
  have pinD:∀{o:Obj} {σ' H' s'},Inv X' [(D,o)] σ' H' s'->s'.heap.get? D=some o/\H' D=none:=λJ=>⟨(J.pin _ (List.mem_append_right _ List.mem_cons_self)).1,(J.pin _ (List.mem_append_right _ List.mem_cons_self)).2.1⟩
  rcases hcase with ⟨stop,qn⟩|⟨go,step⟩
  ·refine thn (T.done X' rfl rfl rfl hc i _ s3 σ3 H3 (λ_ _=>False) I3 (stat fr3) st3 stop) λr s4 ⟨hr,I4⟩=>?_
   subst hr
   obtain⟨gD,nD⟩:=pinD I4
   obtain⟨m',hm',_⟩:=I4.loc
   have hC4:H3 C=none:=I4.free
   have u0:Un (frs X.stack) fp H2 H3 s2.heap s4.heap:=I4.base
   have neD:∀b o,s2.heap.get? b=some o->b≠D:=λb o e=>by rw[<-hDe];exact Nat.ne_of_lt (Heap.lt_size e)
   have u1:Un (frs X.stack) fp H2 (upd H3 D (.lst vs)) s2.heap s4.heap :=
    ⟨u0.keep,u0.slot,λb o e n hx=>by rw[zj_ (neD b o e)];exact u0.free b o e n hx,u0.there,
     λb xs e=>by have q:=u0.tups b xs e;rw[zj_ (zr_ q nD)];exact q,
     λb o u e=>by have q:=u0.frzs b o u e;rw[zj_ (zr_ q nD)];exact q,
     λb ps e=>by obtain⟨more,q⟩:=u0.tbls b ps e;exact⟨more,by rw[zj_ (zr_ q nD)];exact q⟩⟩
   have I5:Inv X pins σ (upd H3 D (.lst vs)) s4:=I.call' I4.os u1 (I4.hok.track nD hvl rv gD) I4.bare λb hb=>⟨(ff b hb).2.2.2.1,(ff b hb).2.1,(ff b hb).2.2.2.2.1,(ff b hb).2.2.2.2.2⟩
   exact hRR D C s4 _ I5 ⟨m',hm'⟩ (fpC _ (by rw[zj_ (Ne.symm hDC)];exact hC4)) (qn D nD)
  ·refine thn (T.item X' rfl rfl rfl hc i _ s3 σ3 H3 (λ_ _=>False) I3 (stat fr3) st3 go) λr s4 ⟨u,hr,h4⟩=>?_
   subst hr
   refine thn h4 λ_ s5 ⟨x,H5,I5,r5,y5,st5,fr5⟩=>?_
   have I5':=I5.pinned (stat fr5) (T.obj _ _ st5)
   refine thn (hg C _ s5 σ3 H5 x u _ I5' r5 (step x H5 y5)) λ_ s6 ⟨σ6,H6,I6,q6⟩=>?_
   refine thn (ht C _ s6 σ6 H6 _ I6 q6) λok s7 ⟨H7,I7,q7⟩=>?_
   have unpin:∀{σ' H' s'},Inv X' ([(D,lobj ys kk)]++U7_ fp s5.heap) σ' H' s'->Inv X' [(D,lobj ys kk)] σ' H' s'/\tn (i+1) s'.heap/\∀b∈fp,H' b=none:=λ{σ' H' s'} J =>
    ⟨J.unpinned,T.keep _ _ _ st5 λb hb o e=>(J.pin (b,o) (List.mem_append_right _ (List.mem_append_right _ (uv_ hb e)))).1,λb hb=>by
     obtain⟨o,e,d⟩:=T.obj _ _ st5 b hb
     exact(J.pin (b,o) (List.mem_append_right _ (List.mem_append_right _ (uv_ hb e)))).2.1⟩
   cases ok with
   | false =>
    rw[if_neg Bool.false_ne_true]
    rw[if_neg Bool.false_ne_true]at q7
    obtain⟨m',hm',w7⟩:=q7
    obtain⟨J1,J2,J3⟩:=unpin I7
    exact⟨m',hm',i+1,vs,ys,kk,σ6,H7,J1,J2,J3,rv,w7⟩
   | true =>
    rw[if_pos rfl]
    rw[if_pos rfl]at q7
    refine thn (he C _ s7 σ6 H7 _ I7 q7) λuy s8 ⟨y,H8,I8,r8,m',hm',w8⟩=>?_
    obtain⟨J1,J2,J3⟩:=unpin I8
    obtain⟨gD,nD⟩:=pinD J1
    refine append_at (hsz:=by show ys.toArray.size<=sizeLine;rw[List.size_toArray,<-rv.length];exact hvl) gD λh9 hs9 hD9=>?_
    have J1':Inv X' [] σ6 H8 s8:=J1.pins_of λp hp=>nomatch hp
    have J9:Inv X' [] σ6 H8 { s8 with heap:=h9 }:=J1'.turned (t':=s8.toks) (it:=D) (λb o hb e=>hs9.extBut b o hb e) nD hDC (.inr (by show s2.heap.objs.size<=D;rw[hDe];exact Nat.le_refl _)) (λx c e=>Nat.ne_of_lt (cellLt x c e)) λp hp=>nomatch hp
    have eo:({ cls:=.type "list",data:=.seq (ys.toArray.push uy) (kk+1) }:Obj)=lobj (ys++[uy]) (kk+1):=by
     unfold lobj
     rw[List.push_toArray]
    refine⟨m',hm',i+1,vs++[y],ys++[uy],kk+1,σ6,H8,J9.pins_of λp hp=>?_,T.keep _ _ _ J2 λb hb o e=>hs9.extBut b o (Nat.ne_of_lt (hfpD b hb)) e,J3,rv.append (.cons r8 .nil),w8⟩
    have ep:p=(D,lobj (ys++[uy]) (kk+1)):=by simpa using hp
    subst ep
    exact⟨by show h9.get? D=_;rw[hD9,eo],nD,hDC,nofr D (Nat.le_refl _),λv z=>nomatch z⟩
 exact codeAny_compStart_list (loop _ rfl) (T.self _ 0 _ _ _ (T.keep _ _ _ st λb _ o e=>old b o e) (loop _ rfl))
end
section
variable {X:Cx}
theorem W1_{elt tg iter:Expr}{ifs:List Expr}{scope:Scope}{pos:Pos}{N':List Str}{k:Nat}{wi:TI}{g:TG}{tc:TT}{te:TE}
  (hc:X.calm=true) (S:CompOk X N' k scope) (hcells:∀x∈scope.names,x.2=.free->∃c,X.env.cells.lookup x.1=some c) (hi:PI X tg iter wi)
  (hg:∀cl s H fp C,PG (zB_ X N' scope cl s H fp C) tg g) (ht:∀cl s H fp C,PTs (zB_ X N' scope cl s H fp C) ifs tc) (he:∀cl s H fp C,PE (zB_ X N' scope cl s H fp C) elt te)
  (hs:∀x,foldedSetIterable iter X.env x=pure x:=by intro _;rfl) :
  PE X (.ListComp elt [⟨tg,iter,ifs,0⟩] scope pos) (zaL_ wi k g tc te):=by
 intro pins s σ H Q I h
 obtain⟨cl,hclos,h1,h2⟩:=JS_ (env:=X.env) (scope:=scope) hcells
 rw[eval_ListComp]
 refine wpAny_comprehension_free (use:=none) rfl hs hclos S.kind S.names (thn (hi pins s σ H _ I h) λxv s1 h1'=>thn h1' λitv s2 h2'=>?_)
 obtain⟨it,fp,tn,J,H2,e,I2,T,st2,f2,rd⟩:=h2'
 subst e
 refine YG_ hc S h1 h2 I2 T st2 f2 (λC=>hg _ _ _ _ C) (λC=>ht _ _ _ _ C) (λC=>he _ _ _ _ C) rd λD C s' H' I' ⟨m,hm⟩ fC q=>?_
 refine⟨m,hm,λh' hs'=>⟨.ref D,H',?_,rfl,q⟩⟩
 exact I'.turned (t':=s'.toks) (it:=C) (λb o hb e=>hs'.extBut b o hb e) fC.1 fC.2.1 fC.2.2.2.1 fC.2.2.2.2.1 fC.2.2.2.2.2
theorem VM_{elt tg iter:Expr}{ifs:List Expr}{scope:Scope}{pos pos' spos:Pos}{N':List Str}{k i:Nat}{y:Str}{wi:TI}{g:TG}{tc:TT}{te:TE}
  (hN:X.N.Nodup) (hy:X.N[i]? = some y) (hly:Loc X.env.scope y) (hfn:X.fn y=true\/X.env.scope.names.lookup y=some .local)
  (hc:X.calm=true) (S:CompOk X N' k scope) (hcells:∀x∈scope.names,x.2=.free->∃c,X.env.cells.lookup x.1=some c) (hi:PI X tg iter wi)
  (hg:∀cl s H fp C,PG (zB_ X N' scope cl s H fp C) tg g) (ht:∀cl s H fp C,PTs (zB_ X N' scope cl s H fp C) ifs tc) (he:∀cl s H fp C,PE (zB_ X N' scope cl s H fp C) elt te)
  (hsw:swapsWith (.ListComp elt [⟨tg,iter,ifs,0⟩] scope pos) (some (.Name y pos')) spos.line X.env=pure true)
  (hs:∀x,foldedSetIterable iter X.env x=pure x:=by intro _;rfl) :
  PS X (.Assign [.Name y pos'] (.ListComp elt [⟨tg,iter,ifs,0⟩] scope pos) spos) (tAsg (zaL_ wi k g tc te) (XQ_ i)):=by
 intro pins s σ H D₀ I h
 obtain⟨cl,hclos,h1,h2⟩:=JS_ (env:=X.env) (scope:=scope) hcells
 rw[exec_Assign_Name_used _ _ _ _ hsw]
 refine zza (wpAny_standAt (zza ?_))
 show wpAny _ X.A (do let _ <-comprehension (.ListComp elt [⟨tg,iter,ifs,0⟩] scope pos) scope X.env _ (newList []) false (eval iter X.env) (some (assign (.Name y pos') X.env))) _ _ s
 refine zza (wpAny_mono (wpAny_comprehension_free (use:=some (assign (.Name y pos') X.env)) (Q:=λ_ s'=>SP X pins D₀ .next s') rfl hs hclos S.kind S.names
  (thn (hi pins s σ H _ I h) λxv s1 h1'=>thn h1' λitv s2 h2'=>?_)) (λ_ s' hq=>zzb (zzb hq)) λ_ _ e=>e)
 obtain⟨it,fp,tn,J,H2,e,I2,T,st2,f2,rd⟩:=h2'
 subst e
 refine YG_ (Q:=λx H1=>XQ_ i x σ H1 D₀.nx) hc S h1 h2 I2 T st2 f2 (λC=>hg _ _ _ _ C) (λC=>ht _ _ _ _ C) (λC=>he _ _ _ _ C) rd λD C s' H' I' ⟨m,hm⟩ fC q=>?_
 show wpAny _ X.A (assign (.Name y pos') X.env (.ref D)) _ _ _
 refine wpAny_assign_Name (UQ_ I' hN hy hly (show RelV (.ref D) (.ref D)from rfl) (λs'' I'' ⟨a,hsb,ha⟩=>?_) hfn)
 have hCa:C≠a:=by
  rcases ha with rfl|ha
  ·exact fC.2.1
  ·exact λz=>fC.2.2.2.2.1 y a ha z.symm
 refine⟨m,hm.sameBut hsb hCa,λh' hs'=>⟨_,H',?_,q⟩⟩
 exact I''.turned (t':=s''.toks) (it:=C) (λb o hb e=>hs'.extBut b o hb e) fC.1 fC.2.1 fC.2.2.2.1 fC.2.2.2.2.1 fC.2.2.2.2.2
end
section
variable {κ:Type}[DecidableEq κ]
noncomputable def valV(kvs:List (κ×V))(k:κ):Option V:=(kvs.find? λkv=>decide (kv.1=k)).map (·.2)
noncomputable def putK(kvs:List (κ×V))(k:κ)(v:V):List (κ×V) :=
 if(kvs.any λkv=>decide (kv.1=k))=true then kvs.map (λkv=>if kv.1=k then(kv.1,v)else kv)else kvs++[(k,v)]
theorem JZ_{p:κ×V}{r:List (κ×V)}{k:κ}(e:p.1=k):valV (p::r) k=some p.2:=by simp[valV,List.find?_cons,e]
theorem J0_{p:κ×V}{r:List (κ×V)}{k:κ}(e:¬ p.1=k):valV (p::r) k=valV r k:=by simp[valV,List.find?_cons,e]
theorem QL_(k:κ):∀kvs:List (κ×V),(kvs.any λkv=>decide (kv.1=k))=(valV kvs k).isSome
 | []=>rfl
 | p::r=>by
  rw[List.any_cons]
  by_cases e:p.1=k
  ·simp only[JZ_ e,decide_eq_true e,Bool.true_or,Option.isSome_some]
  ·rw[J0_ e,decide_eq_false e,Bool.false_or];exact QL_ k r
theorem u1_(kvs:List (κ×V))(k:κ)(v:V):(putK kvs k v).length<=kvs.length+1:=by
 unfold putK
 split
 ·rw[zzd];lia
 ·rw[zzf,List.length_cons,List.length_nil];lia
theorem RelO.isSome_eq{o:Option V}{u:Option Value}(r:RelO o u):o.isSome=u.isSome:=by
 cases o with
 | none=>cases u with
  | none=>rfl
  | some _=>exact(show False from r).elim
 | some _=>cases u with
  | none=>exact(show False from r).elim
  | some _=>rfl
theorem RelO.getD{o:Option V}{u:Option Value}{d:V}{d':Value}(r:RelO o u)(rd:RelV d d'):RelV (o.getD d) (u.getD d'):=by
 cases o with
 | none=>cases u with
  | none=>exact rd
  | some _=>exact(show False from r).elim
 | some _=>cases u with
  | none=>exact(show False from r).elim
  | some _=>exact r
theorem KV.val{kvs:List (κ×V)}{vs:List (κ×Value)}(r:KV kvs vs)(k:κ):RelO (valV kvs k) (valueAt vs k):=by
 unfold KV at r
 induction r with
 | nil=>exact True.intro
 | @cons p q ps qs h t ih =>
  obtain⟨h1,h2⟩:=h
  by_cases e:p.1=k
  ·have e':q.1=k:=h1.symm.trans e
   have b:valueAt (q::qs) k=some q.2:=by simp[valueAt,List.find?_cons,e']
   rw[JZ_ e,b];exact h2
  ·have e':¬ q.1=k:=λz=>e (h1.trans z)
   have b:valueAt (q::qs) k=valueAt qs k:=by simp[valueAt,List.find?_cons,e']
   rw[J0_ e,b];exact ih
theorem KV.any{kvs:List (κ×V)}{vs:List (κ×Value)}(r:KV kvs vs)(k:κ):(kvs.any λkv=>decide (kv.1=k))=vs.any λkv=>decide (kv.1=k):=by
 unfold KV at r
 induction r with
 | nil=>rfl
 | cons h t ih=>rw[List.any_cons,List.any_cons,ih,h.1]
theorem KV.repl{kvs:List (κ×V)}{vs:List (κ×Value)}(r:KV kvs vs)(k:κ){y:V}{u:Value}(ry:RelV y u) :
  KV (kvs.map λkv=>if kv.1=k then(kv.1,y)else kv) (vs.map λkv=>if kv.1=k then(kv.1,u)else kv):=by
 unfold KV at r ⊢
 induction r with
 | nil=>exact .nil
 | @cons p q ps qs h t ih =>
  rw[List.map_cons,List.map_cons]
  refine .cons ?_ ih
  obtain⟨h1,h2⟩:=h
  by_cases e:p.1=k
  ·rw[if_pos e,if_pos (h1.symm.trans e)];exact⟨h1,ry⟩
  ·rw[if_neg e,if_neg (λz=>e (h1.trans z))];exact⟨h1,h2⟩
theorem KV.put{kvs:List (κ×V)}{vs:List (κ×Value)}(r:KV kvs vs)(k:κ){y:V}{u:Value}(ry:RelV y u):KV (putK kvs k y) (stored vs k u):=by
 unfold putK stored
 rw[r.any k]
 by_cases e:(vs.any λkv=>decide (kv.1=k))=true
 ·rw[if_pos e,if_pos e];exact r.repl k ry
 ·rw[if_neg e,if_neg e];exact Paired.snoc r ⟨rfl,ry⟩
theorem KV.length{kvs:List (κ×V)}{vs:List (κ×Value)}(r:KV kvs vs):kvs.length=vs.length:=Paired.length r
end
theorem Qs_{P:Program}{w:World}{k:Key}{u:Value}(r:RelV (kV k) u):(zE_ P w).is k u=true:=by
 cases k with
 | inl i=>obtain⟨t,e⟩:=(show ∃t,u=Value.int i t from r);subst e;exact Qh_ P w i t
 | inr x=>obtain⟨t,e⟩:=(show ∃t,u=Value.str x t from r);subst e;exact Qg_ P w x t
theorem Yx_{P:Program}{w:World}:∀{ks:List Key} {us:List Value},Vals (ks.map kV) us->ItemsAre (zE_ P w) ks us
 | [],_,r=>by rw[List.map_nil]at r;cases r;exact .nil
 | k::ks,_,r=>by
  rw[List.map_cons]at r
  cases r with
  | cons h t=>exact .cons (Qs_ h) (Yx_ t)
abbrev KT(H:Hp):List (List Key×V)->List (List Key×Addr×Value)->Prop:=Paired λp q=>p.1=q.1/\H q.2.1=some (.tup (p.1.map kV))/\RelV p.2 q.2.2
theorem KT.val{H:Hp}{kvs:List (List Key×V)}{xs:List (List Key×Addr×Value)}(r:KT H kvs xs)(k:List Key):RelO (valV kvs k) ((atKey xs k).map (·.2)):=by
 induction r with
 | nil=>exact True.intro
 | @cons p q ps qs h t ih =>
  obtain⟨h1,_,h2⟩:=h
  by_cases e:p.1=k
  ·have e':q.1=k:=h1.symm.trans e
   have b:atKey (q::qs) k=some q.2:=by simp[atKey,List.find?_cons,e']
   rw[JZ_ e,b];exact h2
  ·have e':¬ q.1=k:=λz=>e (h1.trans z)
   have b:atKey (q::qs) k=atKey qs k:=by simp[atKey,List.find?_cons,e']
   rw[J0_ e,b];exact ih
theorem KT.repl{H:Hp}{kvs:List (List Key×V)}{xs:List (List Key×Addr×Value)}(r:KT H kvs xs)(k:List Key){y:V}{u:Value}(ry:RelV y u) :
  KT H (kvs.map λkv=>if kv.1=k then(kv.1,y)else kv) (xs.map (putAt k u)):=by
 induction r with
 | nil=>exact .nil
 | @cons p q ps qs h t ih =>
  rw[List.map_cons,List.map_cons]
  refine .cons ?_ ih
  obtain⟨h1,h2,h3⟩:=h
  unfold putAt
  by_cases e:p.1=k
  ·rw[if_pos e,if_pos (h1.symm.trans e)];exact⟨h1,h2,ry⟩
  ·rw[if_neg e,if_neg (λz=>e (h1.trans z))];exact⟨h1,h2,h3⟩
theorem KT.put{H:Hp}{kvs:List (List Key×V)}{xs:List (List Key×Addr×Value)}(r:KT H kvs xs)(k:List Key){b:Addr}{y:V}{u:Value}(hb:H b=some (.tup (k.map kV)))(ry:RelV y u) :
  KT H (putK kvs k y) (storedH xs k b u):=by
 have e:(kvs.any λkv=>decide (kv.1=k))=(atKey xs k).isSome:=by
  rw[QL_,(r.val k).isSome_eq,Option.isSome_map]
 unfold putK storedH
 rw[e]
 by_cases q:(atKey xs k).isSome=true
 ·rw[if_pos q,if_pos q];exact r.repl k ry
 ·rw[if_neg q,if_neg q];exact Paired.snoc r ⟨rfl,hb,ry⟩
theorem KT.keeps{H H':Hp}{kvs:List (List Key×V)}{xs:List (List Key×Addr×Value)}(r:KT H kvs xs)(ht:∀b ys,H b=some (.tup ys)->H' b=some (.tup ys)):KT H' kvs xs :=
 Paired.mapP r λ_ _ z=>⟨z.1,ht _ _ z.2.1,z.2.2⟩
section
variable {P:Program}{w:World}{H:Hp}{h:Heap}{a:Addr}
theorem zgi_{u:HO}(ok:HOk P w H h)(e:Rd H a u):ObjOk P w H h a u:=e.ok ok
theorem QA_{kvs:List (Key×V)}(ok:HOk P w H h)(e:Rd H a (.dK kvs)):kvs.length<=sizeLine/\(a==sysModules)=false/\∃vs,KV kvs vs/\h.DictOf (zE_ P w) a vs :=
 show ObjOk P w H h a (.dK kvs)from zgi_ ok e
theorem zcf_{kvs:List (Key×V)}(ok:HOk P w H h)(e:H a=some (.dK kvs)):kvs.length<=sizeLine/\(a==sysModules)=false/\∃vs,KV kvs vs/\h.DictOf (zE_ P w) a vs:=QA_ ok (.inl e)
theorem y7_{ks:List Key}(ok:HOk P w H h)(e:H a=some (.tup (ks.map kV))):(tupleKind (zE_ P w)).is h ks a:=by
 obtain⟨_,its,r,⟨o,h1,h2,n,h3⟩,_⟩:=(show ObjOk P w H h a (.tup (ks.map kV))from ok a _ e)
 exact⟨o,its.toArray,n,h1,h2,h3,by simpa using Yx_ r⟩
theorem Wa_{kvs:List (List Key×V)}(ok:HOk P w H h)(e:Rd H a (.dT kvs)):kvs.length<=sizeLine/\(a==sysModules)=false /\
  ∃xs,KT H kvs xs/\h.DictOfH (tupleKind (zE_ P w)) a xs:=by
 obtain⟨z,y,xs,r,o,es,ep,h1,h2,h3,h4,h5⟩:=(show ObjOk P w H h a (.dT kvs)from zgi_ ok e)
 refine⟨z,y,xs,r,o,es,ep,h1,h2,h3,h4,λx hx=>?_,h5⟩
 have all:∀{l:List (List Key×V)} {m:List (List Key×Addr×Value)},KT H l m->∀x∈m,(tupleKind (zE_ P w)).is h x.1 x.2.1:=by
  intro l m q
  induction q with
  | nil=>intro x hx;exact nomatch hx
  | @cons p q ps qs hq t ih =>
   intro x hx
   rcases List.mem_cons.mp hx with e|hx
   ·subst e
    exact y7_ ok (by rw[<-hq.1];exact hq.2.1)
   ·exact ih x hx
 exact all r x hx
theorem Wb_{kvs:List (List Key×V)}(ok:HOk P w H h)(e:H a=some (.dT kvs)):kvs.length<=sizeLine/\(a==sysModules)=false /\
  ∃xs,KT H kvs xs/\h.DictOfH (tupleKind (zE_ P w)) a xs:=Wa_ ok (.inl e)
end
def DGet(H:Hp)(a:Addr)(y:V)(r:Option V):Prop :=
 (∃kvs k,Rd H a (.dK kvs)/\y=kV k/\r=valV kvs k)\/∃kvs k b,Rd H a (.dT kvs)/\y=.ref b/\H b=some (.tup (k.map kV))/\r=valV kvs k
def DPut(H:Hp)(a:Addr)(y v:V)(H':Hp):Prop :=
 (∃kvs k,H a=some (.dK kvs)/\y=kV k/\kvs.length<sizeLine/\H'=upd H a (.dK (putK kvs k v))) \/
 ∃kvs k b,H a=some (.dT kvs)/\y=.ref b/\H b=some (.tup (k.map kV))/\kvs.length<sizeLine/\H'=upd H a (.dT (putK kvs k v))
theorem DGet.k{H:Hp}{a:Addr}{kvs:List (Key×V)}{k:Key}(e:H a=some (.dK kvs)):DGet H a (kV k) (valV kvs k):=.inl ⟨kvs,k,.inl e,rfl,rfl⟩
theorem DGet.t{H:Hp}{a b:Addr}{kvs:List (List Key×V)}{k:List Key}(e:H a=some (.dT kvs))(eb:H b=some (.tup (k.map kV))):DGet H a (.ref b) (valV kvs k):=.inr ⟨kvs,k,b,.inl e,rfl,eb,rfl⟩
theorem DPut.k{H:Hp}{a:Addr}{kvs:List (Key×V)}{k:Key}{v:V}(e:H a=some (.dK kvs))(hl:kvs.length<sizeLine):DPut H a (kV k) v (upd H a (.dK (putK kvs k v))):=.inl ⟨kvs,k,e,rfl,hl,rfl⟩
theorem DPut.t{H:Hp}{a b:Addr}{kvs:List (List Key×V)}{k:List Key}{v:V}(e:H a=some (.dT kvs))(eb:H b=some (.tup (k.map kV)))(hl:kvs.length<sizeLine) :
  DPut H a (.ref b) v (upd H a (.dT (putK kvs k v))):=.inr ⟨kvs,k,b,e,rfl,eb,hl,rfl⟩
section
variable {X:Cx}{pins:List (Addr×Obj)}{σ:St}{H:Hp}{s:Shared}{a:Addr}{y v:V}{u r:Value}{o:Option V}{A:Around}{E:Value->Shared->Prop}
theorem Inv.big(I:Inv X pins σ H s):sysModules<s.heap.objs.size:=by
 have h:mainGlobals<s.heap.objs.size:=(I.mod.glob.keeps I.bk).lt
 exact Nat.lt_trans (by decide) h
theorem X4_{Q:Value->Shared->Prop}(hu:A.units+1<cLine)(I:Inv X pins σ H s)(g:DGet H a y (some v))(ry:RelV y u)(h:∀w' s',Inv X pins σ H s'->RelV v w'->Q w' s') :
  wpAny (model X.prog X.w) A (getItem (.ref a) u) Q E s:=by
 rcases g with ⟨kvs,k,e,ey,l⟩|⟨kvs,k,b,e,ey,eb,l⟩
 ·subst ey
  obtain⟨z,hd,vs,rel,dd⟩:=QA_ I.hok e
  obtain⟨w',hw,rw'⟩:=RelO.some_of (v:=v) (o:=valueAt vs k) (by rw[l];exact rel.val k)
  exact wpAny_getItem_of (Qs_ ry) dd.mapOf hw (h w' _ (I.tok _) rw')
 ·subst ey
  cases (show u=Value.ref b from ry)
  obtain⟨z,hd,xs,rel,dd⟩:=Wa_ I.hok e
  obtain⟨w',hw,rw'⟩:=RelO.some_of (v:=v) (o:=(atKey xs k).map (·.2)) (by rw[l];exact rel.val k)
  obtain⟨p,hp,hp2⟩:=Option.map_eq_some_iff.mp hw
  refine wpAny_getItem_heap (tupleKind_room_in1 hu) (y7_ I.hok eb) dd hp ?_
  rw[hp2]
  exact h w' _ (I.tok _) rw'
theorem zfg_{Q:Value->Shared->Prop}(hu:A.units+1<cLine)(I:Inv X pins σ H s)(g:DGet H a y o)(ry:RelV y u)(h:∀s',Inv X pins σ H s'->Q (.bool (!o.isSome)) s') :
  wpAny (model X.prog X.w) A (compareOp .NotIn u (.ref a)) Q E s:=by
 rcases g with ⟨kvs,k,e,ey,l⟩|⟨kvs,k,b,e,ey,eb,l⟩
 ·subst ey
  obtain⟨z,hd,vs,rel,dd⟩:=QA_ I.hok e
  refine wpAny_notIn_of (Qs_ ry) hd dd.mapOf ?_
  rw[<-(rel.val k).isSome_eq,<-l]
  exact h _ (I.tok _)
 ·subst ey
  cases (show u=Value.ref b from ry)
  obtain⟨z,hd,xs,rel,dd⟩:=Wa_ I.hok e
  refine wpAny_notIn_heap (tupleKind_room_in1 hu) (y7_ I.hok eb) hd dd ?_
  have q:=(rel.val k).isSome_eq
  rw[Option.isSome_map]at q
  rw[<-q,<-l]
  exact h _ (I.tok _)
theorem QC_{h':Heap}{t':Nat}{ob:HO}(I:Inv X pins σ H s)(mu:Mut (H a))(hs:Heap.SameBut a s.heap h')(he:∃q,h'.get? a=some q)(new:ObjOk X.prog X.w (upd H a ob) h' a ob) :
  Inv X pins σ (upd H a ob) { s with heap:=h',toks:=t' } :=
 I.write (x:=a) (e:=a) mu (.inl rfl) (λb q hb z=>(hs.2 b hb).trans z) he new
theorem zhG_{P:Program}{w:World}{H':Hp}{h':Heap}{kvs:List (Key×V)}{vs:List (Key×Value)}(z:kvs.length<=sizeLine)(hd:(a==sysModules)=false)(rel:KV kvs vs)(dd:h'.DictOf (zE_ P w) a vs) :
  ObjOk P w H' h' a (.dK kvs):=⟨z,hd,vs,rel,dd⟩
theorem X3_{H':Hp}{Q:Unit->Shared->Prop}(hu:A.units+1<cLine)(I:Inv X pins σ H s)(g:DPut H a y v H')(ry:RelV y u)(rv:RelV v r)(h:∀s',Inv X pins σ H' s'->Q () s') :
  wpAny (model X.prog X.w) A (setItem (.ref a) u r) Q E s:=by
 rcases g with ⟨kvs,k,e,ey,l,eH⟩|⟨kvs,k,b,e,ey,eb,l,eH⟩
 ·subst ey eH
  obtain⟨z,hd,vs,rel,dd⟩:=zcf_ I.hok e
  have hz:vs.length<=sizeLine:=by rw[<-rel.length];exact z
  have hl:(putK kvs k v).length<=sizeLine:=by have:=u1_ kvs k v;lia
  refine wpAny_setItem_pairs (hsz:=hz) (Qs_ ry) dd λh' dd' hs=>h _ ?_
  have he:∃q,h'.get? a=some q:=let ⟨q,_,_,hq,_⟩:=dd';⟨q,hq⟩
  exact QC_ I (by rw[e];exact True.intro) hs he (zhG_ hl hd (rel.put k rv) dd')
 ·subst ey eH
  cases (show u=Value.ref b from ry)
  obtain⟨z,hd,xs,rel,dd⟩:=Wb_ I.hok e
  have hz:xs.length<=sizeLine:=by rw[<-Paired.length rel];exact z
  have hl:(putK kvs k v).length<=sizeLine:=by have:=u1_ kvs k v;lia
  refine wpAny_setItem_heap (hsz:=hz) (tupleKind_room_in1 hu) (y7_ I.hok eb) dd λh' dd' hs=>h _ ?_
  obtain⟨q,es,ep,hq,h2,h3,h4,_,h5⟩:=dd'
  refine QC_ I (by rw[e];exact True.intro) hs ⟨q,hq⟩ ⟨hl,hd,_,(rel.put k eb rv).keeps λc ys ec=>?_,q,es,ep,hq,h2,h3,h4,h5⟩
  rw[zj_ (zgZ_ ec e (λz=>nomatch z))]
  exact ec
end
section
variable {X:Cx}{pins:List (Addr×Obj)}{σ:St}{H:Hp}{s:Shared}{a:Addr}{kvs:List (Key×V)}{k:Key}{u:Value}{A:Around}{E:Value->Shared->Prop}
theorem zjf_{Q:Value->Shared->Prop}(I:Inv X pins σ H s)(e:Rd H a (.dK kvs))(h:∀t s',Inv X pins σ H s'->Q (.int kvs.length t) s'):wpAny (model X.prog X.w) A (call (.builtin "len") [.ref a]) Q E s:=by
 obtain⟨z,hd,vs,rel,dd⟩:=QA_ I.hok e
 refine call_len_dict hd dd (by rw[<-rel.length];rw[sizeLine_eq]at z;lia) ?_
 rw[<-rel.length]
 exact h _ _ (I.tok _)
end
theorem QB_{X:Cx}{pins:List (Addr×Obj)}{σ:St}{H:Hp}{s:Shared}{a:Addr}{y:V}{o:Option V}(I:Inv X pins σ H s)(g:DGet H a y o):s.TypeIs (.ref a) "dict":=by
 rcases g with ⟨kvs,k,e,_,_⟩|⟨kvs,k,b,e,_,_,_⟩
 ·obtain⟨_,_,vs,_,dd⟩:=QA_ I.hok e
  exact dd.typeIs
 ·obtain⟨_,_,xs,_,dd⟩:=Wa_ I.hok e
  exact dd.typeIs
noncomputable def zin_(td ty tv:TE):TS:=λD σ H=>tv σ H λv H1=>td σ H1 λx H2=>ty σ H2 λy H3=>∃a H4,x=.ref a/\DPut H3 a y v H4/\D.nx σ H4
section
variable {X:Cx}{o i e value:Expr}{pos pos' tpos:Pos}{td ty tv:TE}
theorem zeg_(hu:X.A.units+1<cLine)(ho:PE X o td)(hi:PE X i ty)(hv:PE X value tv)(hs:swapsWith value (some (.Subscript o i pos')) pos.line X.env=pure false) :
  PS X (.Assign [.Subscript o i pos'] value pos) (zin_ td ty tv):=by
 intro pins s σ H D I h
 refine wpAny_Assign_Subscript (thn (hv pins s σ H _ I h) λr s1 ⟨v,H1,I1,rv,q1⟩=>thn (ho pins s1 σ H1 _ I1 q1) λu s2 ⟨x,H2,I2,rx,q2⟩=>thn (hi pins s2 σ H2 _ I2 q2) λiv s3 ⟨y,H3,I3,ry,a,H4,ex,g,q3⟩=>?_) hs
 subst ex
 obtain rfl:u=Value.ref a:=rx
 exact X3_ hu I3 g ry rv λs4 I4=>⟨σ,H4,I4,q3⟩
end
theorem zcg_{P:Program}{w:World}{H:Hp}(h:Heap)(hb:sysModules<h.objs.size):ObjOk P w H (h.push { cls:=.type "dict",data:=.dict #[] }) h.objs.size (.dK []) :=
 ⟨Nat.zero_le _,beq_eq_false_iff_ne.mpr (Ne.symm (Nat.ne_of_lt hb)),[],.nil,Heap.DictOf.new h⟩
theorem Vi_{P:Program}{w:World}{H:Hp}(h:Heap)(hb:sysModules<h.objs.size):ObjOk P w H (h.push { cls:=.type "dict",data:=.dict #[] }) h.objs.size (.dT []) :=
 ⟨Nat.zero_le _,beq_eq_false_iff_ne.mpr (Ne.symm (Nat.ne_of_lt hb)),[],.nil,_,#[],0,zze _ rfl,⟨rfl,rfl,rfl⟩,rfl,rfl,List.nodup_nil⟩
def zfL_:TE:=λ_ H Q=>∀p,H p=none->Q (.ref p) (upd H p (.dK []))
def zfK_:TE:=λ_ H Q=>∀p,H p=none->Q (.ref p) (upd H p (.dT []))
section
variable {X:Cx}{pos:Pos}
theorem zbi_:PE X (.Dict [] [] pos) zfL_:=λpins s σ H Q I h =>
 wpAny_Dict_empty ⟨.ref s.heap.objs.size,_,I.laid (a:=s.heap.objs.size) (o:=.dK []) (t':=s.toks) (λ_ _ q=>zzc _ q) (Nat.le_refl _) (zcg_ s.heap I.big),rfl,h _ (I.hok.fresh (Nat.le_refl _))⟩
theorem zbh_:PE X (.Dict [] [] pos) zfK_:=λpins s σ H Q I h =>
 wpAny_Dict_empty ⟨.ref s.heap.objs.size,_,I.laid (a:=s.heap.objs.size) (o:=.dT []) (t':=s.toks) (λ_ _ q=>zzc _ q) (Nat.le_refl _) (Vi_ s.heap I.big),rfl,h _ (I.hok.fresh (Nat.le_refl _))⟩
end
noncomputable def zcG_:List (TE×TE)->St->Hp->(List (V×V)->Hp->Prop)->Prop
 | [],_,H,Q=>Q [] H
 | (tk,tv)::r,σ,H,Q=>tk σ H λx H1=>tv σ H1 λy H2=>zcG_ r σ H2 λps H3=>Q ((x,y)::ps) H3
abbrev VV:List (V×V)->List (Value×Value)->Prop:=Paired λp q=>RelV p.1 q.1/\RelV p.2 q.2
def PPs(X:Cx)(pos:Pos)(keys:List (Option Expr))(values:List Expr)(trs:List (TE×TE)):Prop :=
 ∀(pins:List (Addr×Obj)) (s:Shared) (σ:St) (H:Hp) (Q:List (V×V)->Hp->Prop),Inv X pins σ H s->zcG_ trs σ H Q ->
  wpAny (model X.prog X.w) X.A (evalPairs (pairTrees keys values X.env pos)) (λvs s'=>∃ps H',Inv X pins σ H' s'/\VV ps vs/\Q ps H') X.xe s
theorem zei_{X:Cx}{pos:Pos}:PPs X pos [] [] []:=λpins s σ H Q I h=>pairTrees_nil_walk ⟨[],H,I,.nil,h⟩
theorem zba_{X:Cx}{pos:Pos}{k v:Expr}{ks:List (Option Expr)}{vs:List Expr}{tk tv:TE}{trs:List (TE×TE)}(hk:PE X k tk)(hv:PE X v tv)(hr:PPs X pos ks vs trs) :
  PPs X pos (some k::ks) (v::vs) ((tk,tv)::trs):=λpins s σ H Q I h =>
 pairTrees_cons_walk (thn (hk pins s σ H _ I h) λu s1 ⟨x,H1,I1,rx,q1⟩=>thn (hv pins s1 σ H1 _ I1 q1) λw2 s2 ⟨y,H2,I2,ry,q2⟩ =>
  thn (hr pins s2 σ H2 _ I2 q2) λws s3 ⟨ps,H3,I3,rel,q3⟩=>⟨(x,y)::ps,H3,I3,.cons ⟨rx,ry⟩ rel,q3⟩)
structure M1(X:Cx)(o:Expr)(m:Str)(apos:Pos)(e:Expr)(cpos:Pos):Prop where
 base:attributeBase o m X.env (eval o X.env)=eval o X.env
 few:((backTo cpos (starEach [e] X.env)).all (λx=>!x.1)&&(backToKw cpos (keywordEach [] X.env)).all (λx=>x.1.isSome)
  && decide (([e]:List Expr).length+([]:List Keyword).length+(if([]:List Keyword).isEmpty then 0 else 1)<30))=true
 line:(apos.endLine==cpos.line)=true
 trees:backTo cpos (starEach [e] X.env)=[(false,eval e X.env)]
def IsD(H:Hp)(a:Addr):Prop:=(∃kvs,Rd H a (.dK kvs))\/∃kvs,Rd H a (.dT kvs)
theorem zhq_{X:Cx}{pins:List (Addr×Obj)}{σ:St}{H:Hp}{s:Shared}{a:Addr}(I:Inv X pins σ H s)(d:IsD H a) :
  s.TypeIs (.ref a) "dict" /\ (∀b,Value.ref a=.ref b->∃ob,s.heap.get? b=some ob/\ob.dict=none)/\(a==sysModules)=false:=by
 rcases d with ⟨kvs,e⟩|⟨kvs,e⟩
 ·obtain⟨_,hd,vs,_,dd⟩:=QA_ I.hok e
  refine⟨dd.typeIs,λb q=>?_,hd⟩
  cases q
  obtain⟨ob,_,_,h1,h2,_⟩:=dd
  exact⟨ob,h1,h2.2.1⟩
 ·obtain⟨_,hd,xs,_,dd⟩:=Wa_ I.hok e
  refine⟨dd.typeIs,λb q=>?_,hd⟩
  cases q
  obtain⟨ob,_,_,h1,h2,_⟩:=dd
  exact⟨ob,h1,h2.2.1⟩
section
variable {X:Cx}{pins:List (Addr×Obj)}{σ:St}{H:Hp}{s:Shared}{a:Addr}{y d:V}{u r:Value}{o:Option V}{A:Around}{E:Value->Shared->Prop}
theorem zhH_{Q:Value->Shared->Prop}(hu:A.units+1<cLine)(I:Inv X pins σ H s)(g:DGet H a y o)(ry:RelV y u)(h:∀w' s',Inv X pins σ H s'->RelV (o.getD .non) w'->Q w' s') :
  wpAny (model X.prog X.w) A (call (.builtin "dict.get") [.ref a,u]) Q E s:=by
 rcases g with ⟨kvs,k,e,ey,l⟩|⟨kvs,k,b,e,ey,eb,l⟩
 ·subst ey
  obtain⟨z,hd,vs,rel,dd⟩:=QA_ I.hok e
  refine call_meetsIn PySem.F.slot_dict_get dd.typeIs PySem.F.entry_dict_get (PySem.F.args_dict_get_2 _ _) (meets_dict_get (zE_ X.prog X.w) a (Qs_ ry) hd) ⟨_,dd.mapOf,h _ _ (I.tok _) ?_⟩
  rw[l]
  exact(rel.val k).getD rfl
 ·subst ey
  cases (show u=Value.ref b from ry)
  obtain⟨z,hd,xs,rel,dd⟩:=Wa_ I.hok e
  refine call_meetsIn PySem.F.slot_dict_get dd.typeIs PySem.F.entry_dict_get (PySem.F.args_dict_get_2 _ _) (meetsH_dict_get (tupleKind (zE_ X.prog X.w)) a b hd) ⟨tupleKind_room_in1 hu,k,xs,y7_ I.hok eb,dd,h _ _ (I.tok _) ?_⟩
  rw[l]
  exact(rel.val k).getD rfl
end
end L2
namespace L4
open PySem PySem.Spec PyProof.Rows L2 PySem.W
def XO(e C:Addr)(dd:Option Addr):Heap->Prop:=λh=>∃oe,h.get? e=some oe/\oe.cls=.ref C/\oe.dict=dd/\PySem.W.notCls oe=true
def XD(dx:Addr)(fs:List (Str×V)):Heap->Prop:=λh=>∃mA,h.Ns1 dx mA/\PySem.Within mA (fs.map (·.1))/\∀f,RelO (fs.lookup f) (mA f)
noncomputable abbrev bmV:List Value:=[.type "ValueError",.type "Exception",.type "BaseException",.type "object"]
structure XC(K:Frag)(C D fI:Addr):Prop where
 obj:∃nm q N bs sn sub ab col dd k0 k1 k2 k3 k5,K.lookup C=some (excClassObj nm q C N bs (.ref D::bmV) true sn sub ab col dd k0 k1 k2 k3 k5 "ValueError.__new__")
 tl:tailIn K bmV (.ref D::bmV)=true
 ini:findIn K (.ref C) "__init__" = some (some (.ref fI))
 fn:typeIn K (.ref fI)=some (.type "function")
 sa:findIn K (.ref C) "__setattr__" = some (some (.builtin "object.__setattr__"))
 ga:findIn K (.ref C) "__getattribute__" = some (some (.builtin "BaseException.__getattribute__"))
 gr:findIn K (.ref C) "__getattr__" = some none
structure KC(K:Frag)(C:Addr):Prop where
 ha:findIn K (.ref C) "__class__" = some (some (.builtin "object.__class__"))
 hn:specialIn K (.builtin "object.__class__") "__get__" = some (some (.builtin "getset_descriptor.__get__"))
 htk:takesIn K (.builtin "object.__class__")=some true
noncomputable def tyOk(T:String):Bool:=T == "bool" || T == "int" || T == "str" || T == "list" || T == "tuple" || T == "dict"
structure XQ(K:Frag)(C:Addr)(x:Str):Prop where
 ns:nsIn K mainGlobals x=some (some (.ref C))
 xc:∃D fI,XC K C D fI
 kc:KC K C
 no:∀T,tyOk T=true->kitOne K (.ref C) (.type T)=some false
def FX(F:Hp)(dd:Option Addr)(fv:List (Str×V)):Prop:=(dd=none/\fv=[])\/∃dx,dd=some dx/\F dx=some (.ext (XD dx fv))
theorem FX.mono{F F':Hp}{dd:Option Addr}{fv:List (Str×V)}(e:Same F F')(h:FX F dd fv):FX F' dd fv:=h.imp id λ⟨dx,h1,h2⟩=>⟨dx,h1,e _ _ h2⟩
end L4
namespace L3
open PySem PySem.Spec PyProof.Rows L2
noncomputable abbrev D:=PyData
noncomputable abbrev Fg:=PySem.W.Frag
noncomputable def keyD:Key->D
 | .inl i=>.int i
 | .inr x=>.str x
noncomputable def keyT(k:List Key):D:=.tuple (k.map keyD)
mutual
inductive Rep(K:Fg)(F:Hp):V->D->Prop
 | non:Rep K F .non .none
 | bl (b):Rep K F (.bl b) (.bool b)
 | int (i):Rep K F (.int i) (.int i)
 | str (x):Rep K F (.str x) (.str x)
 | tup {a vs ds}:F a=some (.tup vs)->RepL K F vs ds->Rep K F (.ref a) (.tuple ds)
 | lst {a vs ds}:SqL K F a vs->RepL K F vs ds->Rep K F (.ref a) (.list ds)
 | dct {a kvs es}:F a=some (.dT kvs)->es.map (·.1)=kvs.map (λp=>keyT p.1)->RepL K F (kvs.map (·.2)) (es.map (·.2))->Rep K F (.ref a) (.dict es)
 | dck {a kvs es}:F a=some (.dK kvs)->es.map (·.1)=kvs.map (λp=>keyD p.1)->RepL K F (kvs.map (·.2)) (es.map (·.2))->Rep K F (.ref a) (.dict es)
 | exc {a C dd cl fv es}:F a=some (.ext (L4.XO a C dd))->L4.XQ K C cl->L4.FX F dd fv->es.map (·.1)=fv.map (λp=>.str p.1)->RepL K F (fv.map (·.2)) (es.map (·.2))->Rep K F (.ref a) (.dict ((.none,.str cl)::es))
 | fn {a f}:PySem.W.nsIn K mainGlobals f=some (some (.ref a))->Rep K F (.ref a) (.dict [(.bool true,.str f)])
inductive RepL(K:Fg)(F:Hp):List V->List D->Prop
 | nil:RepL K F [] []
 | cons {v d vs ds}:Rep K F v d->RepL K F vs ds->RepL K F (v::vs) (d::ds)
end
theorem zv_{K:Fg}{F F':Hp}{a:Addr}{xs:List V}(e:Same F F')(h:SqT K F a xs):SqT K F' a xs:=by
 rcases h with (h|⟨o,h⟩)|h
 ·exact .inl (.inl (e _ _ h))
 ·exact .inl (.inr ⟨o,e _ _ h⟩)
 ·exact .inr h
theorem Rep.mono{K:Fg}{F F':Hp}(e:Same F F'){v:V}{d:D}(h:Rep K F v d):Rep K F' v d :=
 Rep.rec (motive_1:=λv d _=>Rep K F' v d) (motive_2:=λvs ds _=>RepL K F' vs ds) .non .bl .int .str (λh _ r=>.tup (e _ _ h) r) (λh _ r=>.lst (e.seq h) r) (λh k _ r=>.dct (e _ _ h) k r) (λh k _ r=>.dck (e _ _ h) k r) (λh q f k _ r=>.exc (e _ _ h) q (f.mono e) k r) (λh=>.fn h) .nil (λ_ _ a b=>.cons a b) h
theorem RepL.mono{K:Fg}{F F':Hp}(e:Same F F'){vs:List V}{ds:List D}(h:RepL K F vs ds):RepL K F' vs ds:=by
 induction vs generalizing ds with
 | nil=>cases h;exact .nil
 | cons v vs ih=>cases h with
  | cons a b=>exact .cons (a.mono e) (ih b)
noncomputable def repI(K:Fg)(F:Hp):D->V->Prop
 | .none,v=>v=.non
 | .bool b,v=>v=.bl b
 | .int i,v=>v=.int i
 | .str x,v=>v=.str x
 | .tuple ds,v=>∃a vs,v=.ref a/\F a=some (.tup vs)/\RepL K F vs ds
 | .list ds,v=>∃a vs,v=.ref a/\SqL K F a vs/\RepL K F vs ds
 | _,_=>True
theorem Rep.inv{K:Fg}{F:Hp}{v:V}{d:D}(h:Rep K F v d):repI K F d v :=
 Rep.casesOn (motive_1:=λv d _=>repI K F d v) h rfl (λ_=>rfl) (λ_=>rfl) (λ_=>rfl) (λh r=>⟨_,_,rfl,h,r⟩) (λh r=>⟨_,_,rfl,h,r⟩) (λ_ _ _=>True.intro) (λ_ _ _=>True.intro) (λ_ _ _ _ _=>True.intro) (λ_=>True.intro)
theorem Rep.int_inv{K:Fg}{F:Hp}{v:V}{i:Int}(h:Rep K F v (.int i)):v=.int i:=h.inv
theorem Rep.bool_inv{K:Fg}{F:Hp}{v:V}{i:Bool}(h:Rep K F v (.bool i)):v=.bl i:=h.inv
theorem Rep.str_inv{K:Fg}{F:Hp}{v:V}{i:Str}(h:Rep K F v (.str i)):v=.str i:=h.inv
theorem Rep.tup_inv{K:Fg}{F:Hp}{v:V}{ds:List D}(h:Rep K F v (.tuple ds)):∃a vs,v=.ref a/\F a=some (.tup vs)/\RepL K F vs ds:=h.inv
theorem Rep.lst_inv{K:Fg}{F:Hp}{v:V}{ds:List D}(h:Rep K F v (.list ds)):∃a vs,v=.ref a/\SqL K F a vs/\RepL K F vs ds:=h.inv
noncomputable def zgg_(K:Fg)(F:Hp):List D->List V->Prop
 | [],vs=>vs=[]
 | d::ds,vs=>∃v us,vs=v::us/\Rep K F v d/\RepL K F us ds
theorem RepL.inv{K:Fg}{F:Hp}{vs:List V}{ds:List D}(h:RepL K F vs ds):zgg_ K F ds vs :=
 RepL.casesOn (motive_2:=λvs ds _=>zgg_ K F ds vs) h rfl (λa b=>⟨_,_,rfl,a,b⟩)
theorem RepL.one_inv{K:Fg}{F:Hp}{vs:List V}{d:D}(h:RepL K F vs [d]):∃v,vs=[v]/\Rep K F v d:=by
 obtain⟨v,us,rfl,a,b⟩:=(h.inv:∃v us,vs=v::us/\Rep K F v d/\RepL K F us [])
 obtain rfl:us=[]:=b.inv
 exact⟨v,rfl,a⟩
theorem RepL.two_inv{K:Fg}{F:Hp}{vs:List V}{d e:D}(h:RepL K F vs [d,e]):∃v u,vs=[v,u]/\Rep K F v d/\Rep K F u e:=by
 obtain⟨v,us,rfl,a,b⟩:=(h.inv:∃v us,vs=v::us/\Rep K F v d/\RepL K F us [e])
 obtain⟨u,rfl,c⟩:=b.one_inv
 exact⟨v,u,rfl,a,c⟩
theorem RepL.length{K:Fg}{F:Hp}:∀{vs ds},RepL K F vs ds->vs.length=ds.length
 | _,_,.nil=>rfl
 | _,_,.cons _ r=>by simp[RepL.length r]
theorem RepL.get{K:Fg}{F:Hp}:∀{vs ds} {i:Nat} {d:D},RepL K F vs ds->ds[i]? = some d->∃v,vs[i]? = some v/\Rep K F v d
 | _,_,_,_,.nil,e=>by simp at e
 | _,_,0,_,.cons h _,e=>by simp at e;subst e;exact⟨_,rfl,h⟩
 | _,_,i+1,d,.cons _ r,e=>by
  obtain⟨v,h1,h2⟩:=RepL.get (i:=i) (d:=d) r (by simpa using e)
  exact⟨v,by simpa using h1,h2⟩
theorem RepL.append{K:Fg}{F:Hp}{vs:List V}{ds:List D}{us:List V}{es:List D}(h:RepL K F vs ds)(s:RepL K F us es):RepL K F (vs++us) (ds++es):=by
 induction vs generalizing ds with
 | nil=>cases h;exact s
 | cons v vs ih=>cases h with
  | cons a b=>exact .cons a (ih b)
theorem RepL.take{K:Fg}{F:Hp}:∀{vs ds} (n:Nat),RepL K F vs ds->RepL K F (vs.take n) (ds.take n)
 | _,_,0,_=>.nil
 | _,_,_+1,.nil=>.nil
 | _,_,n+1,.cons h r=>.cons h (RepL.take n r)
theorem RepL.drop{K:Fg}{F:Hp}:∀{vs ds} (n:Nat),RepL K F vs ds->RepL K F (vs.drop n) (ds.drop n)
 | _,_,0,r=>r
 | _,_,_+1,.nil=>.nil
 | _,_,n+1,.cons _ r=>RepL.drop n r
theorem RepL.set{K:Fg}{F:Hp}{v:V}{d:D}(h:Rep K F v d):∀{vs ds} (i:Nat),RepL K F vs ds->RepL K F (vs.set i v) (ds.set i d)
 | _,_,_,.nil=>.nil
 | _,_,0,.cons _ r=>.cons h r
 | _,_,i+1,.cons q r=>.cons q (RepL.set h i r)
theorem RepL.ints{K:Fg}{F:Hp}:∀(ns:List Int),RepL K F (ns.map V.int) (ns.map PyData.int)
 | []=>.nil
 | n::r=>.cons (.int n) (RepL.ints r)
section
variable {X:Cx}{pins:List (Addr×Obj)}{σ:L2.St}{H:Hp}{s:Shared}
theorem U1_{u:List Value}(r:Vals [] u):∃as,ReadsAll s.heap u [] as:=by cases r;exact⟨_,.nil⟩
theorem JD_{v:V}{d:D}{vs:List V}{ds:List D}(h:d.canLay0=true->∀{u},RelV v u->∃as,Reads s.heap u d as)(t:PyData.canLayAll0 ds=true->∀{us},Vals vs us->∃as,ReadsAll s.heap us ds as)(c:PyData.canLayAll0 (d::ds)=true){us:List Value}(r:Vals (v::vs) us):∃as,ReadsAll s.heap us (d::ds) as:=by
 simp only[PyData.canLayAll0,Bool.and_eq_true]at c
 cases r with
 | cons r rr =>
  obtain⟨as,ra⟩:=h c.1 r
  obtain⟨bs,rb⟩:=t c.2 rr
  exact⟨_,.cons ra rb⟩
theorem WM_(I:Inv X pins σ H s){a:Addr}{vs:List V}{ds:List D}(hq:H a=some (.tup vs))(ih:PyData.canLayAll0 ds=true->∀{us},Vals vs us->∃as,ReadsAll s.heap us ds as)(c:(PyData.tuple ds).canLay0=true){u:Value}(r:RelV (.ref a) u):∃as,Reads s.heap u (.tuple ds) as:=by
 cases r
 obtain⟨its,rv,⟨o,e1,e2,n',e3⟩,hz⟩:=I.tuple (SqT.of hq)
 obtain⟨as,ra⟩:=ih (by simpa[PyData.canLay0]using c) rv
 exact⟨_,.tuple e1 e2 e3 (by simpa using ra)⟩
theorem WN_(I:Inv X pins σ H s){a:Addr}{vs:List V}{ds:List D}(hq:SqL X.K H a vs)(ih:PyData.canLayAll0 ds=true->∀{us},Vals vs us->∃as,ReadsAll s.heap us ds as)(c:(PyData.list ds).canLay0=true){u:Value}(r:RelV (.ref a) u):∃as,Reads s.heap u (.list ds) as:=by
 cases r
 obtain⟨its,rv,⟨o,n',e1,e2,e3,e4⟩,hz⟩:=I.list hq
 obtain⟨as,ra⟩:=ih (by simpa[PyData.canLay0]using c) rv
 exact⟨_,.list e1 e2 e4 (by simpa using ra)⟩
theorem yg_{es:List (D×D)}{P:Prop}(c:(PyData.dict es).canLay0=true):P:=by simp[PyData.canLay0]at c
theorem zcJ_(I:Inv X pins σ H s){v:V}{d:D}(h:Rep X.K H v d):d.canLay0=true->∀{u},RelV v u->∃as,Reads s.heap u d as :=
 Rep.rec (motive_1:=λv d _=>d.canLay0=true->∀{u},RelV v u->∃as,Reads s.heap u d as) (motive_2:=λvs ds _=>PyData.canLayAll0 ds=true->∀{us},Vals vs us->∃as,ReadsAll s.heap us ds as)
  (λ_ {_} r=>by cases r;exact⟨_,.none⟩) (λb _ {_} r=>by cases r;exact⟨_,.bool b⟩) (λi _ {_} r=>by obtain⟨t,rfl⟩:=r;exact⟨_,.int i t⟩) (λx _ {_} r=>by obtain⟨t,rfl⟩:=r;exact⟨_,.str x t⟩)
  (λhq _ ih=>WM_ I hq ih) (λhq _ ih=>WN_ I hq ih) (λ_ _ _ _ c=>yg_ c) (λ_ _ _ _ c=>yg_ c) (λ_ _ _ _ _ _ c=>yg_ c) (λ_ c=>yg_ c)
  (λ_ {_} r=>U1_ r) (λ_ _ a b=>JD_ a b) h
theorem zgh_(I:Inv X pins σ H s){vs:List V}{ds:List D}(h:RepL X.K H vs ds):PyData.canLayAll0 ds=true->∀{us},Vals vs us->∃as,ReadsAll s.heap us ds as:=by
 induction vs generalizing ds with
 | nil=>cases h;exact λ_ _ r=>U1_ r
 | cons v vs ih=>cases h with
  | cons a b=>exact JD_ (zcJ_ I a) (ih b)
end
theorem zY_{X:Cx}{pins:List (Addr×Obj)}{σ:L2.St}{H:Hp}{s:Shared}(I:Inv X pins σ H s) :
  (∀{v d},Rep X.K H v d->d.canLay0=true->∀{u},RelV v u->∃as,Reads s.heap u d as)/\(∀{vs ds},RepL X.K H vs ds->PyData.canLayAll0 ds=true->∀{us},Vals vs us->∃as,ReadsAll s.heap us ds as) :=
 ⟨λ{v d} h c {u} r=>zcJ_ I h c r,λ{vs ds} h c {us} r=>zgh_ I h c r⟩
noncomputable def isXe:List (D×D)->Bool
 | (.none,_)::_=>true
 | (.bool _,_)::_=>true
 | _=>false
noncomputable def isFn:D->Bool
 | .dict ((.bool _,_)::_)=>true
 | _=>false
inductive OC where
 | l (ds:List D)
 | t (es:List (D×D))
 | k (es:List (D×D))
inductive AV where
 | fz (d:D)
 | ol (c:OC)
 | op (c:OC)
noncomputable abbrev En:=List (Option AV)
inductive RV where
 | fz (d:D)
 | fr (c:OC)
 | bor (i:Nat)
noncomputable def NoTE:HO->Prop
 | .tup _=>False
 | .ext _=>False
 | _=>True
structure Gh where
 P:Nat->Option Addr
 O:Hp
 B:Hp
def Held(K:Fg)(F H:Hp)(a:Addr):OC->Prop
 | .l ds=>∃vs,H a=some (.lst vs)/\RepL K F vs ds
 | .t es=>∃kvs,H a=some (.dT kvs)/\es.map (·.1)=kvs.map (λp=>keyT p.1)/\RepL K F (kvs.map (·.2)) (es.map (·.2))
 | .k es=>∃kvs,H a=some (.dK kvs)/\es.map (·.1)=kvs.map (λp=>keyD p.1)/\RepL K F (kvs.map (·.2)) (es.map (·.2))
structure OwnAt(K:Fg)(G:Gh)(F H:Hp)(a:Addr)(c:OC):Prop where
 nf:F a=none
 no:G.O a=none
 he:Held K F H a c
def own(ρ:En)(i:Nat)(c:OC):Prop:=ρ[i]? = some (some (.ol c))\/ρ[i]? = some (some (.op c))
structure StOk(K:Fg)(G:Gh)(F:Hp)(σ:L2.St)(H:Hp)(ρ:En):Prop where
 fh:Same F H
 oh:Same G.O H
 fo:∀b o,G.O b=some o->F b=none/\NoTE o
 ln:σ.length=ρ.length
 fz:∀(i:Nat) (d:D),ρ[i]? = some (some (AV.fz d))->∃v,σ[i]? = some (some v)/\Rep K F v d
 ow:∀(i:Nat) (c:OC),own ρ i c->∃a:Addr,σ[i]? = some (some (V.ref a))/\OwnAt K G F H a c
 dj:∀(i j:Nat) (c e:OC) (a:Addr),own ρ i c->own ρ j e->σ[i]? = some (some (V.ref a))->σ[j]? = some (some (V.ref a))->i=j
 pp:∀(i:Nat) (a:Addr),G.P i=some a->σ[i]? = some (some (V.ref a))/\∃c,ρ[i]? = some (some (AV.op c))
 pq:∀(i:Nat) (c:OC),ρ[i]? = some (some (AV.op c))->∃a,G.P i=some a
 fb:Same G.B F
noncomputable def RVR(K:Fg)(G:Gh)(F:Hp)(σ:L2.St)(H:Hp)(ρ:En)(v:V):RV->Prop
 | .fz d=>Rep K F v d
 | .fr c=>∃a,v=.ref a/\OwnAt K G F H a c/\∀(i:Nat) (e:OC),own ρ i e->σ[i]? ≠ some (some (V.ref a))
 | .bor i=>∃c,own ρ i c/\σ[i]? = some (some v)
theorem Held.mono{K:Fg}{F F' H:Hp}{a:Addr}{c:OC}(e:Same F F')(h:Held K F H a c):Held K F' H a c:=by
 cases c with
 | l ds=>obtain⟨vs,h1,h2⟩:=h;exact⟨vs,h1,h2.mono e⟩
 | t es=>obtain⟨vs,h1,h2,h3⟩:=h;exact⟨vs,h1,h2,h3.mono e⟩
 | k es=>obtain⟨vs,h1,h2,h3⟩:=h;exact⟨vs,h1,h2,h3.mono e⟩
theorem Held.some{K:Fg}{F H:Hp}{a:Addr}{c:OC}(h:Held K F H a c):∃o,H a=some o:=by
 cases c with
 | l ds=>obtain⟨vs,h1,h2⟩:=h;exact⟨_,h1⟩
 | t es=>obtain⟨vs,h1,h2⟩:=h;exact⟨_,h1⟩
 | k es=>obtain⟨vs,h1,h2⟩:=h;exact⟨_,h1⟩
theorem Held.at{K:Fg}{F H H':Hp}{a:Addr}{c:OC}(h:Held K F H a c)(e:H' a=H a):Held K F H' a c:=by
 cases c with
 | l ds=>obtain⟨vs,h1,h2⟩:=h;exact⟨vs,e.trans h1,h2⟩
 | t es=>obtain⟨vs,h1,h2⟩:=h;exact⟨vs,e.trans h1,h2⟩
 | k es=>obtain⟨vs,h1,h2⟩:=h;exact⟨vs,e.trans h1,h2⟩
theorem z4_{F:Hp}{p:Addr}{o:HO}(h:F p=none):Same F (upd F p o):=λb u e=>by
 rw[zj_ (zr_ e h)]
 exact e
theorem jG_{F H:Hp}{p:Addr}{o:HO}(s:Same F H)(h:F p=none):Same F (upd H p o):=λb u e=>by
 rw[zj_ (zr_ e h)]
 exact s b u e
section
variable {K:Fg}{G:Gh}{F H:Hp}{σ:L2.St}{ρ:En}
theorem StOk.lay(S:StOk K G F σ H ρ){p:Addr}{o:HO}(hp:H p=none):StOk K G F σ (upd H p o) ρ:=by
 have fp:F p=none:=S.fh.free hp
 have op:G.O p=none:=S.oh.free hp
 refine⟨jG_ S.fh fp,jG_ S.oh op,S.fo,S.ln,S.fz,λi c h=>?_,S.dj,S.pp,S.pq,S.fb⟩
 obtain⟨a,e,oa⟩:=S.ow i c h
 refine⟨a,e,oa.nf,oa.no,oa.he.at ?_⟩
 obtain⟨u,hu⟩:=oa.he.some
 exact zj_ (zr_ hu hp)
theorem StOk.fresh_ne(S:StOk K G F σ H ρ){p:Addr}(hp:H p=none):∀(i:Nat) (e:OC),own ρ i e->σ[i]? ≠ some (some (V.ref p)):=λi e h q=>by
 obtain⟨a,e1,oa⟩:=S.ow i e h
 rw[e1]at q
 injection q with q;injection q with q;injection q with q
 subst q
 obtain⟨u,hu⟩:=oa.he.some
 rw[hp]at hu;cases hu
theorem StOk.freeze(S:StOk K G F σ H ρ){a:Addr}{o:HO}(ha:H a=some o)(fa:F a=none)(oa:G.O a=none)(ne:∀(i:Nat) (e:OC),own ρ i e->σ[i]? ≠ some (some (V.ref a))):StOk K G (upd F a o) σ H ρ:=by
 have sm:Same F (upd F a o):=z4_ fa
 refine⟨λb u e=>?_,S.oh,λb u e=>?_,S.ln,λi d h=>?_,λi c h=>?_,S.dj,S.pp,S.pq,S.fb.trans sm⟩
 ·by_cases hb:b=a
  ·subst hb;rw[zn_]at e;cases e;exact ha
  ·rw[zj_ hb]at e;exact S.fh b u e
 ·rw[zj_ (zr_ e oa)];exact S.fo b u e
 ·obtain⟨v,e,r⟩:=S.fz i d h;exact⟨v,e,r.mono sm⟩
 ·obtain⟨b,e,ob⟩:=S.ow i c h
  refine⟨b,e,?_,ob.no,ob.he.mono sm⟩
  rw[zj_ (λz=>ne i c h (by rw[e,z]))]
  exact ob.nf
theorem StOk.newTup(S:StOk K G F σ H ρ){p:Addr}{vs:List V}{ds:List D}(hp:H p=none)(r:RepL K F vs ds) :
  Same F (upd F p (.tup vs))/\StOk K G (upd F p (.tup vs)) σ (upd H p (.tup vs)) ρ/\Rep K (upd F p (.tup vs)) (.ref p) (.tuple ds):=by
 have fp:F p=none:=S.fh.free hp
 refine⟨z4_ fp,(S.lay hp).freeze zn_ fp (S.oh.free hp) (S.fresh_ne hp),?_⟩
 exact .tup zn_ (r.mono (z4_ fp))
theorem StOk.newLst(S:StOk K G F σ H ρ){p:Addr}{vs:List V}{ds:List D}(hp:H p=none)(r:RepL K F vs ds) :
  StOk K G F σ (upd H p (.lst vs)) ρ/\RVR K G F σ (upd H p (.lst vs)) ρ (.ref p) (.fr (.l ds)) :=
 ⟨S.lay hp,p,rfl,⟨S.fh.free hp,S.oh.free hp,vs,zn_,r⟩,S.fresh_ne hp⟩
theorem StOk.settle(S:StOk K G F σ H ρ){v:V}{ds:List D}(r:RVR K G F σ H ρ v (.fr (.l ds))) :
  ∃F',Same F F'/\StOk K G F' σ H ρ/\Rep K F' v (.list ds):=by
 obtain⟨a,rfl,oa,ne⟩:=r
 obtain⟨vs,h1,h2⟩:=oa.he
 exact⟨upd F a (.lst vs),z4_ oa.nf,S.freeze h1 oa.nf oa.no ne,.lst (.inl (.inl zn_)) (h2.mono (z4_ oa.nf))⟩
theorem Z5_{α:Type}(l:List α)(i:Nat)(x y:α)(h:l[i]? = some y):(l.set i x)[i]? = some x:=by
 rw[List.getElem?_set_self (List.getElem?_eq_some_iff.mp h).1]
noncomputable def OC.d:OC->D
 | .l ds=>.list ds
 | .t es=>.dict es
 | .k es=>.dict es
theorem XO_{a:Addr}{c:OC}(h:Held K F H a c):∃o,H a=some o/\∀F',Same F F'->F' a=some o->Rep K F' (.ref a) c.d:=by
 cases c with
 | l ds=>obtain⟨vs,h1,h2⟩:=h;exact⟨_,h1,λF' s e=>.lst (.inl (.inl e)) (h2.mono s)⟩
 | t es=>obtain⟨vs,h1,h2,h3⟩:=h;exact⟨_,h1,λF' s e=>.dct e h2 (h3.mono s)⟩
 | k es=>obtain⟨vs,h1,h2,h3⟩:=h;exact⟨_,h1,λF' s e=>.dck e h2 (h3.mono s)⟩
theorem StOk.settleC(S:StOk K G F σ H ρ){i:Nat}{oc:OC}(hi:ρ[i]? = some (some (.ol oc))){v:V}(hv:σ[i]? = some (some v)) :
  ∃F',Same F F'/\StOk K G F' σ H (ρ.set i (some (.fz oc.d)))/\Rep K F' v oc.d:=by
 obtain⟨a,e,oa⟩:=S.ow i _ (.inl hi)
 rw[hv]at e
 injection e with e;injection e with e
 subst e
 obtain⟨vo,h1,hrep⟩:=XO_ oa.he
 have sm:Same F (upd F a vo):=z4_ oa.nf
 have rp:Rep K (upd F a vo) (.ref a) oc.d:=hrep _ sm zn_
 have ne:∀j,j≠i->(ρ.set i (some (.fz oc.d)))[j]? = ρ[j]?:=λj hj=>List.getElem?_set_ne (Ne.symm hj)
 have at_i:(ρ.set i (some (.fz oc.d)))[i]? = some (some (.fz oc.d)):=Z5_ _ _ _ _ hi
 have ownj:∀j c,own (ρ.set i (some (.fz oc.d))) j c->j≠i/\own ρ j c:=λj c h=>by
  have hj:j≠i:=by
   rintro rfl
   rcases h with h|h<;>(rw[at_i]at h;cases h)
  refine⟨hj,?_⟩
  rcases h with h|h
  ·exact .inl (by rw[<-ne j hj];exact h)
  ·exact .inr (by rw[<-ne j hj];exact h)
 refine⟨upd F a vo,sm,⟨λb u e=>?_,S.oh,λb u e=>?_,by simpa using S.ln,λj d h=>?_,λj c h=>?_,λj k c e b h1 h2=>S.dj j k c e b (ownj j c h1).2 (ownj k e h2).2,λj b h=>?_,λj c h=>?_,S.fb.trans sm⟩,rp⟩
 ·by_cases hb:b=a
  ·subst hb;rw[zn_]at e;cases e;exact h1
  ·rw[zj_ hb]at e;exact S.fh b u e
 ·rw[zj_ (zr_ e oa.no)];exact S.fo b u e
 ·by_cases hj:j=i
  ·subst hj
   rw[at_i]at h
   cases h
   exact⟨_,hv,rp⟩
  ·rw[ne j hj]at h
   obtain⟨w,e,r⟩:=S.fz j d h
   exact⟨w,e,r.mono sm⟩
 ·obtain⟨hj,h'⟩:=ownj j c h
  obtain⟨b,e,ob⟩:=S.ow j c h'
  refine⟨b,e,?_,ob.no,ob.he.mono sm⟩
  rw[zj_ (λz=>hj (S.dj j i _ _ a h' (.inl hi) (by rw[e,z]) hv))]
  exact ob.nf
 ·obtain⟨q,c,q'⟩:=S.pp j b h
  refine⟨q,c,?_⟩
  have hj:j≠i:=by rintro rfl;rw[hi]at q';cases q'
  rw[ne j hj];exact q'
 ·have hj:j≠i:=by rintro rfl;rw[at_i]at h;cases h
  rw[ne j hj]at h
  exact S.pq j c h
theorem StOk.store(S:StOk K G F σ H ρ){j:Nat}{v:V}{av:AV}(hj:∀c,ρ[j]? ≠ some (some (.op c)))(hl:j<ρ.length)
  (h:(∃d,av=.fz d/\Rep K F v d)\/∃c,av=.ol c/\RVR K G F σ H ρ v (.fr c)):StOk K G F (σ.set j (some v)) H (ρ.set j (some av)):=by
 have hls:j<σ.length:=by rw[S.ln];exact hl
 have ne:∀i,i≠j->(ρ.set j (some av))[i]? = ρ[i]?:=λi hi=>List.getElem?_set_ne (Ne.symm hi)
 have nes:∀i,i≠j->(σ.set j (some v))[i]? = σ[i]?:=λi hi=>List.getElem?_set_ne (Ne.symm hi)
 have atj:(ρ.set j (some av))[j]? = some (some av):=List.getElem?_set_self hl
 have atjs:(σ.set j (some v))[j]? = some (some v):=List.getElem?_set_self hls
 have owni:∀i c,i≠j->own (ρ.set j (some av)) i c->own ρ i c:=λi c hi h=>by
  unfold own at h ⊢
  rw[ne i hi]at h
  exact h
 refine⟨S.fh,S.oh,S.fo,by simpa using S.ln,λi d q=>?_,λi c q=>?_,λi k c e a q1 q2 e1 e2=>?_,λi a q=>?_,λi c q=>?_,S.fb⟩
 ·by_cases hi:i=j
  ·subst hi
   rw[atj]at q
   rcases h with ⟨d',rfl,r⟩|⟨c,rfl,_⟩
   ·cases q;exact⟨v,atjs,r⟩
   ·cases q
  ·rw[ne i hi]at q
   obtain⟨w,e,r⟩:=S.fz i d q
   exact⟨w,by rw[nes i hi];exact e,r⟩
 ·by_cases hi:i=j
  ·subst hi
   rcases h with ⟨d',rfl,r⟩|⟨c',rfl,a,rfl,oa,_⟩
   ·rcases q with q|q<;>(rw[atj]at q;cases q)
   ·rcases q with q|q
    ·rw[atj]at q;cases q;exact⟨a,atjs,oa⟩
    ·rw[atj]at q;cases q
  ·obtain⟨a,e,oa⟩:=S.ow i c (owni i c hi q)
   exact⟨a,by rw[nes i hi];exact e,oa⟩
 ·by_cases hi:i=j
  ·by_cases hk:k=j
   ·rw[hi,hk]
   ·exfalso
    subst hi
    rw[nes k hk]at e2
    rw[atjs]at e1
    injection e1 with e1;injection e1 with e1
    subst e1
    rcases h with ⟨d',rfl,r⟩|⟨c',rfl,a',e,oa,nn⟩
    ·rcases q1 with q|q<;>(rw[atj]at q;cases q)
    ·injection e with e;subst e
     exact nn k _ (owni k _ hk q2) e2
  ·by_cases hk:k=j
   ·exfalso
    subst hk
    rw[nes i hi]at e1
    rw[atjs]at e2
    injection e2 with e2;injection e2 with e2
    subst e2
    rcases h with ⟨d',rfl,r⟩|⟨c',rfl,a',e,oa,nn⟩
    ·rcases q2 with q|q<;>(rw[atj]at q;cases q)
    ·injection e with e;subst e
     exact nn i _ (owni i _ hi q1) e1
   ·rw[nes i hi]at e1
    rw[nes k hk]at e2
    exact S.dj i k _ _ a (owni i _ hi q1) (owni k _ hk q2) e1 e2
 ·obtain⟨q1,c,q2⟩:=S.pp i a q
  have hi:i≠j:=by rintro rfl;exact hj c q2
  exact⟨by rw[nes i hi];exact q1,c,by rw[ne i hi];exact q2⟩
 ·have hi:i≠j:=by
   rintro rfl
   rw[atj]at q
   rcases h with ⟨d',rfl,r⟩|⟨c',rfl,_⟩<;>cases q
  rw[ne i hi]at q
  exact S.pq i c q
theorem StOk.change(S:StOk K G F σ H ρ){j:Nat}{a:Addr}{c c':OC}{o:HO}(hj:own ρ j c)(ha:σ[j]? = some (some (.ref a)))(hh:Held K F (upd H a o) a c') :
  StOk K G F σ (upd H a o) (ρ.set j ((ρ[j]?.join).map fun | .op _=>.op c'|_=>.ol c')):=by
 obtain⟨b,e,ob⟩:=S.ow j c hj
 rw[ha]at e
 injection e with e;injection e with e;injection e with e
 subst e
 have hl:j<ρ.length:=by rcases hj with h|h<;>exact(List.getElem?_eq_some_iff.mp h).1
 generalize hav:((ρ[j]?.join).map λ(x:AV)=>match x with | .op _=>AV.op c'|_=>AV.ol c')=av
 have ne:∀i,i≠j->(ρ.set j av)[i]? = ρ[i]?:=λi hi=>List.getElem?_set_ne (Ne.symm hi)
 have atj:(ρ.set j av)[j]? = some av:=List.getElem?_set_self hl
 have owni:∀i e,i≠j->own (ρ.set j av) i e->own ρ i e:=λi c hi h=>by
  unfold own at h ⊢
  rw[ne i hi]at h
  exact h
 have kind:(ρ[j]? = some (some (.ol c))/\av=some (.ol c'))\/(ρ[j]? = some (some (.op c))/\av=some (.op c')):=by
  rcases hj with h|h
  ·exact .inl ⟨h,by rw[<-hav,h];rfl⟩
  ·exact .inr ⟨h,by rw[<-hav,h];rfl⟩
 have ownj:∀e,own (ρ.set j av) j e->e=c':=λe h=>by
  unfold own at h
  rw[atj]at h
  rcases kind with ⟨_,k⟩|⟨_,k⟩<;>rw[k]at h<;>rcases h with h|h<;>cases h<;>rfl
 refine⟨jG_ S.fh ob.nf,jG_ S.oh ob.no,S.fo,by simpa using S.ln,λi d q=>?_,λi e q=>?_,λi k c1 e1 b q1 q2=>?_,λi b q=>?_,λi e q=>?_,S.fb⟩
 ·by_cases hi:i=j
  ·subst hi
   rw[atj]at q
   rcases kind with ⟨_,k⟩|⟨_,k⟩<;>rw[k]at q<;>cases q
  ·rw[ne i hi]at q;exact S.fz i d q
 ·by_cases hi:i=j
  ·subst hi
   have:=ownj e q
   subst this
   exact⟨a,ha,ob.nf,ob.no,hh⟩
  ·have q':=owni i e hi q
   obtain⟨b',e',ob'⟩:=S.ow i e q'
   refine⟨b',e',ob'.nf,ob'.no,ob'.he.at (zj_ λz=>hi (S.dj i j _ _ a q' hj (by rw[e',z]) ha))⟩
 ·have o1:∃e,own ρ i e:=by
   by_cases hi:i=j
   ·exact⟨c,hi▸hj⟩
   ·exact⟨_,owni i _ hi q1⟩
  have o2:∃e,own ρ k e:=by
   by_cases hk:k=j
   ·exact⟨c,hk▸hj⟩
   ·exact⟨_,owni k _ hk q2⟩
  exact S.dj i k _ _ b o1.choose_spec o2.choose_spec
 ·obtain⟨q1,e,q2⟩:=S.pp i b q
  refine⟨q1,?_⟩
  by_cases hi:i=j
  ·subst hi
   rcases kind with ⟨k1,k⟩|⟨k1,k⟩
   ·rw[k1]at q2;cases q2
   ·exact⟨c',by rw[atj,k]⟩
  ·exact⟨e,by rw[ne i hi];exact q2⟩
 ·by_cases hi:i=j
  ·subst hi
   rcases kind with ⟨k1,k⟩|⟨k1,k⟩
   ·rw[atj,k]at q;cases q
   ·exact S.pq i c k1
  ·rw[ne i hi]at q;exact S.pq i e q
end
end L3
namespace L4
open PySem PySem.Spec PyProof.Rows L2 L3
def TbOf(h:Heap)(e b:Addr):Prop:=∃oe vs,h.get? e=some oe/\oe.data=.fields vs/\vs[1]? = some (.ref b)
structure Ent(fs:List Addr)(h h':Heap)(e T:Addr)(oe:Obj)(ts:Array Value):Prop where
 keep:∀b o,h.get? b=some o->b∉fs->b≠e->h'.get? b=some o
 slot:∀b o,h.get? b=some o->b≠e->∃sl,h'.get? b=some { o with slots:=sl }
 new:h.objs.size<=T
 exc:h'.get? e=some (oe.mapFields (·.setIfInBounds 1 (.ref T)))
 way:∃oT,h'.get? T=some oT/\oT.data=.fields ts
section
variable {M:Model}{A:Around}{E:Value->Shared->Prop}{s:Shared}{base:Heap}{env:Env}{outer:List Env}{L e:Addr}{oe:Obj}{vs:Array Value}
theorem JQ_{top:Value}{nx:Bool}{Q:Unit->Shared->Prop}(hA:A.frames=some (env::outer))(hF:s.heap.FunFrames base (env::outer))(hL:env.frame=some L)
  (he:s.heap.get? e=some oe) (hd:oe.data=.fields vs) (hz:1<vs.size)
  (k:∀h' T ts,Ent (frs (env::outer)) s.heap h' e T oe ts->3<ts.size->ts[3]? = some (rawInt L)->Q () { s with heap:=h' }) :
  wpAny M A (do let a <-frameOf env;let pl <-entryPlaceOf L nx;let b <-EntryCells.newEntry top a .none (rawInt L) .none pl;setField (.ref e) 1 b) Q E s:=by
 have ne:e∉frs (env::outer):=λz=>by
  obtain⟨_,o,q,r⟩:=hF.mem z
  rw[he]at q;cases q
  exact r vs hd
 refine zza (wpAny_frameOf_fun hA hF hL λh1 so=>zza (wpAny_entryPlaceOf λpl ip=>?_))
 simp only[EntryCells.newEntry,newFields]
 refine zza (wpAny_newObj_type ?_ (ip.sizeOk5 _ _ _ _ _))
 generalize hts:([top,.ref L,.none,rawInt L,.none]++(if pl.isEmpty then List.replicate 6 Value.none else pl)).toArray=ts
 have z3:3<ts.size:=by
  rw[<-hts,List.size_toArray,zzf]
  simp only[List.length_cons,List.length_nil]
  lia
 have g3:ts[3]? = some (rawInt L):=by rw[<-hts];simp
 generalize htb:({ cls:=.type "traceback",dict:=none,data:=.fields ts }:Obj)=tb
 have fr:tb.isFreed=false:=by rw[<-htb];rfl
 have e1:h1.get? e=some oe:=by rw[so.2.1 e ne];exact he
 have lt:e<h1.objs.size:=Heap.lt_size e1
 refine wpAny_setField (zzc tb e1) hd hz ?_
 have hd':=Obj.data_mapFields hd (·.setIfInBounds 1 (Value.ref h1.objs.size))
 have up:∀b,b≠e->((h1.push tb).update e (Obj.mapFields (·.setIfInBounds 1 (.ref h1.objs.size)))).get? b=(h1.push tb).get? b:=λb hb=>Heap.get?_update_other _ _ (Ne.symm hb)
 refine k _ h1.objs.size ts ⟨λb o q nf nb=>?_,λb o q nb=>?_,by rw[so.1];exact Nat.le_refl _,?_,⟨tb,?_,?_⟩⟩ z3 g3
 ·exact(up b nb).trans (zzc _ ((so.2.1 b nf).trans q))
 ·obtain⟨sl,q'⟩:=so.2.2 b o q
  exact⟨sl,(up b nb).trans (zzc _ q')⟩
 ·exact Heap.get?_update_self _ (zzc tb e1) (Obj.isFreed_of_fields hd')
 ·exact(up _ (Nat.ne_of_gt lt)).trans (zze h1 fr)
 ·rw[<-htb]
end
structure XS(H:Hp)(h:Heap)(lo:Nat)(e C:Addr)(dd:Option Addr):Prop where
 yg:lo<=e
 trk:H e=some (.ext (XO e C dd))
 obj:∃oe vs,h.get? e=some oe/\oe.cls=.ref C/\oe.dict=dd/\oe.data=.fields vs/\1<vs.size /\
  (vs[1]? = some .none\/∃T oT ts,vs[1]? = some (.ref T)/\T≠e/\lo<=T/\H T=none/\h.get? T=some oT/\oT.data=.fields ts/\ts[3]? = some .none)
structure Mv(fs:List Addr)(h h':Heap)(e:Addr):Prop where
 keep:∀b o,h.get? b=some o->b∉fs->b≠e->¬ TbOf h e b->h'.get? b=some o
 slot:∀b o,h.get? b=some o->b≠e->¬ TbOf h e b->∃sl,h'.get? b=some { o with slots:=sl }
 there:∀b o,h.get? b=some o->∃o',h'.get? b=some o'
theorem X2_(f:Array Value->Array Value)(o:Obj):(o.mapFields f).dict=o.dict:=by
 obtain⟨c,d,dt,sl⟩:=o
 cases dt<;>rfl
theorem ziI_{L:Addr}:¬ ((Value.none==rawInt L)=true):=by simp[rawInt]
section
variable {M:Model}{A:Around}{E:Value->Shared->Prop}{s:Shared}{base:Heap}{env:Env}{outer:List Env}{L e C:Addr}{dd:Option Addr}{H:Hp}{lo:Nat}{P:Program}{w:World}
theorem JN_{oe:Obj}{vs:Array Value}{h0:Heap}{T:Addr}{ts:Array Value}{Q:Unit->Shared->Prop}(en:Ent (frs (env::outer)) h0 s.heap e T oe ts)(hd:oe.data=.fields vs)(hz:1<vs.size)(z3:3<ts.size)(hh:e<h0.objs.size)
  (k:∀h',(∀b,b≠T->h'.get? b=s.heap.get? b)->(∃oT tz,h'.get? T=some oT/\oT.data=.fields tz/\tz[3]? = some .none)->Q () { s with heap:=h' }):wpAny M A (setFlight (.ref e) none) Q E s:=by
 obtain⟨oT,q1,q2⟩:=en.way
 have d':=Obj.data_mapFields hd (·.setIfInBounds 1 (Value.ref T))
 simp only[setFlight]
 refine zza (wpAny_field en.exc d' (x:=.ref T) (by simp[hz]) ?_)
 rw[if_pos (by simp)]
 refine wpAny_setField q1 q2 z3 (k _ (λb hb=>Heap.get?_update_other _ _ (Ne.symm hb)) ⟨_,_,Heap.get?_update_self _ q1 (Obj.isFreed_of_fields (Obj.data_mapFields q2 _)),Obj.data_mapFields q2 _,by simp[z3]⟩)
theorem zbq_{Q:Unit->Shared->Prop}(hA:A.frames=some (env::outer))(hF:s.heap.FunFrames base (env::outer))(hL:env.frame=some L)(hk:HOk P w H s.heap)(xs:XS H s.heap lo e C dd)
  (k:∀h',Mv (frs (env::outer)) s.heap h' e->XS H h' lo e C dd->(∀b,TbOf h' e b->s.heap.objs.size<=b)->Q () { s with heap:=h' }) :
  wpAny M A (noteFrame (.ref e) env) (λ_ s2=>wpAny M A (setFlight (.ref e) none) Q E s2) E s:=by
 obtain⟨oe,vs,he,hc,hdd,hd,hz,tb⟩:=xs.obj
 have elt:e<s.heap.objs.size:=Heap.lt_size he
 have hlo:lo<=s.heap.objs.size:=Nat.le_trans xs.yg (Nat.le_of_lt elt)
 simp only[noteFrame,hL]
 rcases tb with tb|⟨T,oT,ts,tb,hTe,hTl,hTn,hT,hTd,t3⟩
 ·refine zza (wpAny_field he hd tb ?_)
  rw[if_neg (by decide)]
  refine JQ_ hA hF hL he hd hz λh1 T1 t1 en z3 g3=>?_
  refine JN_ (s:={ s with heap:=h1 }) en hd hz z3 elt λh2 same way=>?_
  have nT:∀b o,s.heap.get? b=some o->b≠T1:=λb o q=>Nat.ne_of_lt (Nat.lt_of_lt_of_le (Heap.lt_size q) en.new)
  have d1:=Obj.data_mapFields hd (·.setIfInBounds 1 (Value.ref T1))
  refine k h2 ⟨λb o q nf nb _=>?_,λb o q nb _=>?_,λb o q=>?_⟩ ⟨xs.yg,xs.trk,_,_,?_,?_,?_,d1,by simpa using hz,.inr ?_⟩ ?_
  ·rw[same b (nT b o q)];exact en.keep b o q nf nb
  ·obtain⟨sl,z⟩:=en.slot b o q nb
   exact⟨sl,by rw[same b (nT b o q)];exact z⟩
  ·by_cases nb:b=e
   ·subst nb;exact⟨_,by rw[same _ (nT _ o q)];exact en.exc⟩
   ·obtain⟨sl,z⟩:=en.slot b o q nb
    exact⟨_,by rw[same b (nT b o q)];exact z⟩
  ·rw[same e (nT e _ he)];exact en.exc
  ·rw[Obj.cls_mapFields];exact hc
  ·rw[X2_];exact hdd
  ·obtain⟨o1,tz,w1,w2,w3⟩:=way
   exact⟨T1,o1,tz,by simp[hz],λz=>nT e _ he z.symm,Nat.le_trans hlo en.new,hk.fresh en.new,w1,w2,w3⟩
  ·intro b ⟨oe',vs',g1,g2,g3⟩
   rw[same e (nT e _ he),en.exc]at g1
   cases g1
   rw[d1]at g2
   cases g2
   have:Value.ref T1=Value.ref b:=by simpa[hz]using g3
   injection this with this
   rw[<-this]
   exact en.new
 ·refine zza (wpAny_field he hd tb ?_)
  rw[if_pos (by simp)]
  refine zza (wpAny_field hT hTd t3 ?_)
  rw[if_neg ziI_]
  have z3':3<ts.size:=(Array.getElem?_eq_some_iff.mp t3).1
  refine zza (wpAny_setField hT hTd z3' ?_)
  have off:∀b,b≠T->(s.heap.update T (Obj.mapFields (·.setIfInBounds 3 Value.none))).get? b=s.heap.get? b:=λb hb=>Heap.get?_update_other _ _ (Ne.symm hb)
  have hF':(s.heap.update T (Obj.mapFields (·.setIfInBounds 3 Value.none))).FunFrames base (env::outer):=hF.of_keeps λb o q r=>⟨o,(off b λz=>by subst z;rw[hT]at q;cases q;exact r ts hTd).trans q,rfl⟩
  have he':(s.heap.update T (Obj.mapFields (·.setIfInBounds 3 Value.none))).get? e=some oe:=(off e (Ne.symm hTe)).trans he
  have zz:(s.heap.update T (Obj.mapFields (·.setIfInBounds 3 Value.none))).objs.size=s.heap.objs.size:=Heap.size_update ..
  refine JQ_ (s:={ s with heap:=s.heap.update T (Obj.mapFields (·.setIfInBounds 3 Value.none)) }) hA hF' hL he' hd hz λh1 T1 t1 en z3 g3=>?_
  refine JN_ (s:={ s with heap:=h1 }) en hd hz z3 (by rw[zz];exact elt) λh2 same way=>?_
  have nw:s.heap.objs.size<=T1:=by have:=en.new;rw[zz]at this;exact this
  have nT:∀b o,s.heap.get? b=some o->b≠T1:=λb o q=>Nat.ne_of_lt (Nat.lt_of_lt_of_le (Heap.lt_size q) nw)
  have isT:TbOf s.heap e T:=⟨oe,vs,he,hd,tb⟩
  have nTT:∀b,¬ TbOf s.heap e b->b≠T:=λb z q=>z (q▸isT)
  have d1:=Obj.data_mapFields hd (·.setIfInBounds 1 (Value.ref T1))
  have T0:(s.heap.update T (Obj.mapFields (·.setIfInBounds 3 Value.none))).get? T=some (oT.mapFields (·.setIfInBounds 3 Value.none)):=Heap.get?_update_self _ hT (Obj.isFreed_of_fields (Obj.data_mapFields hTd _))
  refine k h2 ⟨λb o q nf nb nt=>?_,λb o q nb nt=>?_,λb o q=>?_⟩ ⟨xs.yg,xs.trk,_,_,?_,?_,?_,d1,by simpa using hz,.inr ?_⟩ ?_
  ·rw[same b (nT b o q)];exact en.keep b o ((off b (nTT b nt)).trans q) nf nb
  ·obtain⟨sl,z⟩:=en.slot b o ((off b (nTT b nt)).trans q) nb
   exact⟨sl,by rw[same b (nT b o q)];exact z⟩
  ·by_cases nb:b=e
   ·subst nb;exact⟨_,by rw[same _ (nT _ o q)];exact en.exc⟩
   ·by_cases nt:b=T
    ·subst nt
     obtain⟨sl,z⟩:=en.slot b _ T0 nb
     exact⟨_,by rw[same b (nT b o q)];exact z⟩
    ·obtain⟨sl,z⟩:=en.slot b o ((off b nt).trans q) nb
     exact⟨_,by rw[same b (nT b o q)];exact z⟩
  ·rw[same e (nT e _ he)];exact en.exc
  ·rw[Obj.cls_mapFields];exact hc
  ·rw[X2_];exact hdd
  ·obtain⟨o1,tz,w1,w2,w3⟩:=way
   exact⟨T1,o1,tz,by simp[hz],λz=>nT e _ he z.symm,Nat.le_trans hlo nw,hk.fresh nw,w1,w2,w3⟩
  ·intro b ⟨oe',vs',g1,g2,g3⟩
   rw[same e (nT e _ he),en.exc]at g1
   cases g1
   rw[d1]at g2
   cases g2
   have:Value.ref T1=Value.ref b:=by simpa[hz]using g3
   injection this with this
   rw[<-this]
   exact nw
theorem V2_{Q:Unit->Shared->Prop}(hA:A.frames=some (env::outer))(hF:s.heap.FunFrames base (env::outer))(hL:env.frame=some L)(hk:HOk P w H s.heap)(xs:XS H s.heap lo e C dd)
  (k:∀h',Mv (frs (env::outer)) s.heap h' e->XS H h' lo e C dd->Q () { s with heap:=h' }):wpAny M A (leaving env (.ref e)) Q E s:=by
 unfold leaving
 exact zza (zbq_ hA hF hL hk xs λh' m x _=>k h' m x)
end
section
variable {fs:List Addr}{h h':Heap}{e C:Addr}{dd:Option Addr}{H:Hp}{lo:Nat}{P:Program}{w:World}
theorem XO.ok{H':Hp}(x:XO e C dd h):ObjOk P w H' h e (.ext (XO e C dd)):=by
 obtain⟨oe,q,r⟩:=x
 exact⟨⟨oe,q,r⟩,⟨oe,q⟩,λh1 h2 ⟨o,z,r⟩ k=>⟨o,k o z,r⟩⟩
theorem XS.xo(xs:XS H h lo e C dd):XO e C dd h:=by
 obtain⟨oe,vs,q,c,d,z,_⟩:=xs.obj
 exact⟨oe,q,c,d,by unfold PySem.W.notCls;rw[z]⟩
theorem XS.tb(xs:XS H h lo e C dd){b:Addr}(t:TbOf h e b):H b=none/\lo<=b/\b≠e/\∃oT ts,h.get? b=some oT/\oT.data=.fields ts:=by
 obtain⟨oe,vs,q,c,d,z,_,k⟩:=xs.obj
 obtain⟨oe',vs',q',z',k'⟩:=t
 rw[q]at q';cases q'
 rw[z]at z';cases z'
 rcases k with k|⟨T,oT,ts,k,ne,l,n,g,gd,_⟩
 ·rw[k]at k';cases k'
 ·rw[k]at k'
  cases k'
  exact⟨n,l,ne,oT,ts,g,gd⟩
theorem Mv.hok(m:Mv fs h h' e)(ok:HOk P w H h)(xs:XS H h lo e C dd)(xs':XS H h' lo e C dd)(hf:∀b∈fs,H b=none):HOk P w H h':=λa o q=>by
 by_cases ae:a=e
 ·subst ae
  rw[xs.trk]at q;cases q
  exact xs'.xo.ok
 ·refine(ok a o q).stay (λb u hb z=>?_) (λ_ z=>z) λ_ _ z=>z
  have hbH:∃v,H b=some v:=by
   rcases hb with rfl|hb
   ·exact⟨o,q⟩
   ·exact⟨_,hb⟩
  obtain⟨v,hv⟩:=hbH
  refine m.keep b u z (λy=>by rw[hf b y]at hv;cases hv) (λy=>?_) λy=>by rw[(xs.tb y).1]at hv;cases hv
  subst y
  rcases hb with rfl|hb
  ·exact ae rfl
  ·rw[xs.trk]at hb;cases hb
end
def CX1(P:Program)(w:World):CXT:=λouter H s E e s'=>∃a C dd H',e=.ref a/\s'.os=s.os/\AllBare s'.gens/\Un (frs outer) [] H H' s.heap s'.heap/\HOk P w H' s'.heap/\XS H' s'.heap s.heap.objs.size a C dd/\E (.ref C) dd H'
theorem zeM_{P:Program}{w:World}{K:Fg}{mg:Str->Option Value}{base:Heap}{N:List Str}{qual:Str}{scope:Scope}{f:Addr}{cd:Value}{A:Around}{outer:List Env}{s:Shared}{H:Hp}{E:XK}
  {pins:List (Addr×Obj)} {σ:L2.St} {H':Hp} {s':Shared} {a C:Addr} {dd:Option Addr} (I:Inv (cxOf (CX1 P w) P w K mg base N qual scope f cd A outer s H E) pins σ H' s') (xs:XS H' s'.heap s.heap.objs.size a C dd) (hE:E (.ref C) dd H') :
  (cxOf (CX1 P w) P w K mg base N qual scope f cd A outer s H E).xe (.ref a) s':=by
 have hF:=I.stack
 have hS:=I.stkFree
 refine V2_ (base:=base) (L:=s.heap.objs.size) (P:=P) (w:=w) (s:=s') I.ok.frames hF rfl I.hok xs λh1 m xs1=>?_
 have un:Un (frs outer) [] H H' s.heap s'.heap:=I.base
 have lt:∀b o,s.heap.get? b=some o->b<s.heap.objs.size:=λb o q=>Heap.lt_size q
 have ne:∀b o,s.heap.get? b=some o->b≠a:=λb o q=>Nat.ne_of_lt (Nat.lt_of_lt_of_le (lt b o q) xs.yg)
 have nt:∀b o,s.heap.get? b=some o->¬ TbOf s'.heap a b:=λb o q z=>absurd (Nat.lt_of_lt_of_le (lt b o q) (xs.tb z).2.1) (Nat.lt_irrefl _)
 refine⟨a,C,dd,H',rfl,I.os,I.bare,⟨λb o q n hb hx=>?_,λb o q n hb hx=>?_,un.free,λb o q hx=>?_,un.tups,un.frzs,un.tbls⟩,m.hok I.hok xs xs1 hS,xs1,hE⟩
 ·refine m.keep b o (un.keep b o q n hb hx) (λz=>?_) (ne b o q) (nt b o q)
  rcases List.mem_cons.mp (I.stkSub b z)with y|y
  ·exact absurd (lt b o q) (by rw[y];exact Nat.lt_irrefl _)
  ·exact hb y
 ·obtain⟨sl,z⟩:=un.slot b o q n hb hx
  obtain⟨sl',z'⟩:=m.slot b _ z (ne b o q) (nt b o q)
  exact⟨sl',z'⟩
 ·obtain⟨o',z⟩:=un.there b o q hx
  exact m.there b o' z
end L4
namespace L4
open PySem PySem.Spec PyProof.Rows L2 L3 PySem.W
section
variable {prog:Program}{w:World}{A:Around}{E:Value->Shared->Prop}{s:Shared}{K:Frag}{x C D:Addr}{ox:Obj}{name:Str}{v:Value}{Q:Unit->Shared->Prop}
theorem zaN_{cd:ClassData}{bmB:List Value}(X:K.In s.heap)(hx:s.heap.get? x=some ox)(hc:ox.cls=.ref C)(hn:notCls ox=true)(hdn:ox.dict=none)(hs:findIn K (.ref C) "__setattr__" = some (some (.builtin "object.__setattr__")))
  (hcd:clsIn K C=some cd) (hm:cd.mro=.ref C::.ref D::[.type "ValueError",.type "Exception",.type "BaseException",.type "object"]) (hd:cd.hasDict=true) (hna:findIn K (.ref C) name=some none)
  (h:∀h' dx tk,s.heap.objs.size<=dx->h'.Ns1 dx (λy=>if y=name then some v else none)->h'.get? x=some { ox with dict:=some dx }->(∀b o,b≠x->s.heap.get? b=some o->h'.get? b=some o)->Q () { s with heap:=h',toks:=tk }) :
  wpAny (model prog w) A (setAttr (.ref x) name v) Q E s:=by
 obtain⟨hp,g,d,t,os⟩:=s
 obtain⟨oc,odi,oda,osl⟩:=ox
 dsimp only at hc hdn
 subst hc hdn
 have I:PySem.W.InstAt hp x ⟨.ref C,none,oda,osl⟩ C none:=⟨hx,rfl,hn,trivial⟩
 refine PySem.W.set_plain X I hs ?_
 have SF:=F.store_ValueError
 have L0:=I.type (M:=model prog w)
 have L1:=looks_findIn (M:=model prog w) X hna
 have L4:=looks_mroIn (M:=model prog w) (r:=true) X (C:=C) (base:=.type "object") (by unfold mroIn;rw[hcd,Option.bind_some,hm];rfl)
 have LC:=looks_clsIn (M:=model prog w) X hcd
 have pass:=SF.passes (.ref x)
 have ok:=SF.args (.ref x) (.str name t) v
 refine codeAny_call_builtin SF.slot.plain SF.entry ?_
 simp only[checkBuiltinCall,SF.kind,SF.split]
 refine zza ?_
 unfold isInstance
 refine zza (L0.at (L4.at ?_))
 have LM:Looks (model prog w) hp (mroOf (.ref C)) cd.mro:=(looks_clsIn X hcd).andThen .now
 rw[if_neg (by decide)]
 have run:∀A',wpAny (model prog w) A' (Builtin.«object.__setattr__» { pos:=[Value.ref x,Value.str name t,v] }) (λfin s'=>∃f,fin=.done (.ret f)/\Q () s') E ⟨hp,g,d,t+1,os⟩:=by
  intro A'
  unfold Builtin.«object.__setattr__»
  repeat (first|rw[refuse_eq]|with_reducible refine LM.at ?_|(rw[hm,refuseLoop_ref,refuseLoop_ref,pass])|with_reducible refine L0.at ?_|with_reducible refine L1.at ?_|(with_reducible refine LC.at ?_;rw[hd])|wp_step)
  have fin:wpAny (model prog w) A' (do
    let d <-alloc { cls:=Value.type "dict",data:=Data.dict #[] }
    update x λo=>{ cls:=o.cls,dict:=some d,data:=o.data,slots:=o.slots }
    dictMade (.ref C) x d)
    (λa s'=>wpAny (model prog w) A' (match a with
     | some d=>Builtin.ObjectAttr.storeInDict d (Value.str name t) name v
     | none=>Builtin.ObjectAttr.noDictFor (Value.ref x) (Value.ref C) name (none:Option Value).isSome) (λfin s'=>∃f,fin=Fin.done (Flow.ret f)/\Q () s') E s') E ⟨hp,g,d,t+1,os⟩:=by
   refine zza (wpAny_alloc' (zza (wpAny_update' (zzc _ hx) (zzb ?_))))
   have xs:x≠hp.objs.size:=Nat.ne_of_lt (Heap.lt_size hx)
   show wpAny _ _ (Builtin.ObjectAttr.storeInDict hp.objs.size (.str name t) name v) _ _ _
   have e0:((hp.push { cls:=.type "dict",data:=.dict #[] }).update x λo=>{ cls:=o.cls,dict:=some hp.objs.size,data:=o.data,slots:=o.slots }).get? hp.objs.size=some { cls:=.type "dict",data:=.dict #[] }:=by
    rw[Heap.get?_update_other _ _ xs];exact zze hp rfl
   have n0:((hp.push { cls:=.type "dict",data:=.dict #[] }).update x λo=>{ cls:=o.cls,dict:=some hp.objs.size,data:=o.data,slots:=o.slots }).Ns hp.objs.size (λ_=>none):=⟨_,#[],_,e0,rfl,λe he=>absurd he (by simp),λ_=>rfl⟩
   unfold Builtin.ObjectAttr.storeInDict Builtin.ObjectAttr.newKeyGuard
   refine zza (zzb (zza (wpAny_nsSet1 (Heap.Ns1.of_empty n0) λh' n1 sb=>?_)))
   obtain⟨oD,esD,epD,q1,q2,q3⟩:=n1.count (PySem.Within.cons name v PySem.Within.nil)
   refine zza (wpAny_lookBehind q1 (by rw[q2];exact pastItsLine_dict (Nat.le_trans q3 (show 1<=sizeLine+1 from by decide))) (zzb ⟨_,rfl,?_⟩))
   refine h h' hp.objs.size _ (Nat.le_refl _) n1 ?_ λb o nb q=>?_
   ·rw[sb.2 x xs]
    refine Heap.get?_update_self _ (zzc _ hx) ?_
    have fr:=(Heap.get?_some_iff.mp hx).2
    cases oda<;>first|rfl|exact fr
   ·rw[sb.2 b (Nat.ne_of_lt (Heap.lt_size q)),Heap.get?_update_other _ _ (Ne.symm nb)]
    exact zzc _ q
  cases oda<;>first|exact fin|cases hn
 have fin:wpAny (model prog w) A.in1 (Builtin.«object.__setattr__» { pos:=[Value.ref x,Value.str name t,v] }) (λfin s'=>match fin with
   | .done f=>(match (Except.ok f:Result)with | .ok (.ret v)=>Q () s' | .ok a=>False | .error e=>E e s')
   | .again c'=>c'.quiet=true/\codeAny (model prog w) A c' (λr s'=>match r with | .ok (.ret v)=>Q () s' | .ok a=>False | .error e=>E e s') s') E ⟨hp,g,d,t+1,os⟩ :=
  wpAny_mono (run _) (λf s' z=>by obtain⟨u,rfl,q⟩:=z;exact q) λ_ _ z=>z
 cases hsig:Manifest.signature? "object.__setattr__" with
 | none=>exact zzb fin
 | some sig =>
  simp only[argsOk,hsig]at ok
  show wpAny _ _ (Bind.checkArgs "object.__setattr__" sig ⟨[.ref x,.str name t,v],[]⟩) _ _ _
  rw[show Bind.checkArgs "object.__setattr__" sig ⟨[.ref x,.str name t,v],[]⟩=pure ()from ok]
  exact zzb fin
end
theorem zdo_{K:Frag}{C D fI:Addr}(c:XC K C D fI):∃cd,PySem.W.clsIn K C=some cd/\cd.mro=.ref C::.ref D::bmV/\cd.hasDict=true:=by
 obtain⟨nm,q,N,bs,sn,sub,ab,col,dd,k0,k1,k2,k3,k5,lk⟩:=c.obj
 refine⟨_,by unfold PySem.W.clsIn;rw[lk],rfl,rfl⟩
section
variable {prog:Program}{w:World}{A:Around}{E:Value->Shared->Prop}{s:Shared}{K:Frag}{x C:Addr}{ox:Obj}{od:Option Obj}
theorem zfi_{Q:Option Value->Shared->Prop}(X:K.In s.heap)(I:PySem.W.InstAt s.heap x ox C od)(hga:findIn K (.ref C) "__getattribute__" = some (some (.builtin "BaseException.__getattribute__")))(hgr:findIn K (.ref C) "__getattr__" = some none)(hb:mroIn K C (.type "BaseException")=some true)
  (hf:findObj K C od "__class__" = some (.bind (.builtin "getset_descriptor.__get__") (.builtin "object.__class__"))) (hm:mroIn K C (.type "object")=some true) (h:Q (some (.ref C)) { s with toks:=s.toks+1 }):wpAny (model prog w) A (getAttr? (.ref x) "__class__") Q E s:=by
 obtain⟨hp,g,d,t,os⟩:=s
 have L0:=I.type (M:=model prog w)
 have L1:=looks_findIn (M:=model prog w) X hga
 have L2:=looks_findIn (M:=model prog w) X hgr
 have L3:=looks_find (M:=model prog w) X I hf
 have L4:=looks_mroIn (M:=model prog w) X hb
 have bnd:=F.attr_ValueError.ga.bind (.ref x)
 have ok:=F.args_bexc_ga (.ref x) (.str "__class__" t)
 have kd:builtinKind "BaseException.__getattribute__" = some .slot:=by decide +kernel
 have sp:splitId "BaseException.__getattribute__" = some ("BaseException", "__getattribute__"):=by decide +kernel
 unfold getAttr? getAttrBy?
 refine zza (wpAny_mkText (zza (wpAny_attempt ?_)))
 unfold getAttrBy
 refine wpAny_holding (zza (L0.at (zza (L1.at ?_))))
 show wpAny _ _ (getAttrByItsOwn _ _ _ _ _ _) _ _ _
 unfold getAttrByItsOwn
 repeat (any_goals (first|assumption|with_reducible refine L0.at ?_|with_reducible refine L2.at ?_|wp_step))
 refine codeAny_call_builtin F.attr_ValueError.ga.plain F.entry_bexc_ga ?_
 simp only[checkBuiltinCall,kd,sp]
 refine zza ?_
 unfold isInstance
 refine zza (L0.at (L4.at ?_))
 repeat (any_goals (first|assumption|with_reducible refine L0.at ?_|with_reducible refine L3.at ?_|wp_step))
 refine class_get (s:=⟨hp,g,d,t+1,os⟩) (ox:=ox) (od:=od) X I hm ?_
 exact zzb (handed_on rfl (zzb h))
theorem zbI_{D fI:Addr}(c:XC K C D fI)(hb:mroIn K C (.type "BaseException")=some true)
  (hf:findObj K C od "__class__" = some (.bind (.builtin "getset_descriptor.__get__") (.builtin "object.__class__"))) (hm:mroIn K C (.type "object")=some true) :
  KitX K (.ref x) (.ref C) (λh=>PySem.W.InstAt h x ox C od) where
 ty:=λ_ _ _ I=>I.type
 it:=λ_ _ X _=>by
  obtain⟨nm,q,N,bs,sn,sub,ab,col,dd,k0,k1,k2,k3,k5,ho⟩:=c.obj
  intro A' Q' E' s' k q
  unfold isType loadHead
  exact zza (wpAny_loadPart (k _ _ (X _ _ ho)) (zzb q))
 ne:=λh tp dd its n sl X htp=>by
  obtain⟨nm,q,N,bs,sn,sub,ab,col,dd',k0,k1,k2,k3,k5,ho⟩:=c.obj
  refine Bool.eq_false_iff.mpr λq=>?_
  have e:C=tp:=Value.ref.inj (beq_iff_eq.mp q)
  subst e
  have z:=(X _ _ ho).symm.trans htp
  injection z with z
  injection z with z1 z2 z3
  cases z3
 ca:=λX I k=>zfi_ X I c.ga c.gr hb hf hm k
end
def XAt(H:Hp)(a C:Addr)(dd:Option Addr):Prop:=H a=some (.ext (XO a C dd))/\∀dx,dd=some dx->∃fv,H dx=some (.ext (XD dx fv))
theorem zeX_{X:Cx}{pins:List (Addr×Obj)}{σ:L2.St}{H:Hp}{s:Shared}{a C:Addr}{dd:Option Addr}(I:Inv X pins σ H s)(h:XAt H a C dd):∃ox od,PySem.W.InstAt s.heap a ox C od:=by
 obtain⟨h1,h2⟩:=h
 obtain⟨⟨oe,q1,q2,q3,q4⟩,_⟩:=I.hok a _ h1
 cases dd with
 | none=>exact⟨oe,none,q1,q2,q4,by rw[q3];trivial⟩
 | some dx =>
  obtain⟨fv,h2⟩:=h2 dx rfl
  obtain⟨⟨mA,na,wi,r⟩,_⟩:=I.hok dx _ h2
  obtain⟨od,z1,hlk⟩:=Xt_ na
  exact⟨oe,some od,q1,q2,q4,by rw[q3];exact z1⟩
theorem Ur_{K:Frag}{C:Addr}{od:Option Obj}{name:Str}{a g:Value}(hc:(clsIn K C).isSome=true)(ha:findIn K (.ref C) name=some (some a))(hg:specialIn K a "__get__" = some (some g))(ht:takesIn K a=some true):findObj K C od name=some (.bind g a):=by
 obtain⟨cd,hc⟩:=Option.isSome_iff_exists.mp hc
 unfold findObj
 rw[hc,Option.bind_some,ha,Option.bind_some]
 simp[hg,ht]
section
variable {X:Cx}{pins:List (Addr×Obj)}{σ:L2.St}{H:Hp}{s:Shared}{a C D fI:Addr}{dd:Option Addr}{Q:Value->Shared->Prop}{E:Value->Shared->Prop}{b:Bool}
theorem V4_(c:XC X.K C D fI)(kc:KC X.K C){ox:Obj}{od:Option Obj}:KitX X.K (.ref a) (.ref C) (λh=>PySem.W.InstAt h a ox C od):=by
 obtain⟨cd,k1,k2,k3⟩:=zdo_ c
 refine zbI_ c (by unfold PySem.W.mroIn;rw[k1,Option.bind_some,k2];rfl) (Ur_ (by rw[k1];rfl) kc.ha kc.hn kc.htk) (by unfold PySem.W.mroIn;rw[k1,Option.bind_some,k2];rfl)
theorem V7_(I:Inv X pins σ H s)(c:XC X.K C D fI)(kc:KC X.K C)(h:XAt H a C dd){cv:Value}(e:kitOne X.K (.ref C) cv=some b)(q:∀tk,Q (.bool b) { s with toks:=tk }) :
  wpAny (model X.prog X.w) X.A (call (.builtin "isinstance") [.ref a,cv]) Q E s:=by
 obtain⟨ox,od,It⟩:=zeX_ I h
 exact kia_one (V4_ c kc) I.kIn It e (λz=>nomatch z) q
end
end L4
namespace L4
open PySem PySem.Spec PyProof.Rows L2 L3
structure Ex where
 cls:Str
 fs:List (Str×D)
inductive M(S:Type) where
 | ret (s:S)
 | exc (x:Ex)
 | bad
noncomputable def M.on{S T:Type}(m:M S)(x:Ex->M T)(k:S->M T):M T:=match m with
 | .ret s=>k s
 | .exc e=>x e
 | .bad=>.bad
def bd{S T:Type}(m:M S)(k:S->M T):M T:=m.on .exc k
noncomputable def oM{S:Type}(o:Option S):M S:=match o with
 | some s=>.ret s
 | none=>.bad
section
variable {S T U:Type}
@[simp] theorem zgT_(s:S)(x:Ex->M T)(k:S->M T):(M.ret s).on x k=k s:=rfl
@[simp] theorem Za_(s:S)(k:S->M T):bd (.ret s) k=k s:=rfl
end
noncomputable abbrev Pu(α:Type):=En->M α
def XR(K:Fg)(F:Hp)(C:Addr)(dd:Option Addr)(x:Ex):Prop:=XQ K C x.cls /\
 ∃fv,FX F dd fv/\Paired (λ(p:Str×V) (q:Str×D)=>p.1=q.1/\Rep K F p.2 q.2) fv x.fs
structure FzOk(K:Fg)(F:Hp)(σ:L2.St)(ρ:En):Prop where
 ln:σ.length=ρ.length
 fz:∀(i:Nat) (d:D),ρ[i]? = some (some (AV.fz d))->∃v,σ[i]? = some (some v)/\Rep K F v d
theorem _root_.L3.StOk.fzok{K:Fg}{G:Gh}{F F' H:Hp}{σ:L2.St}{ρ:En}(S:StOk K G F σ H ρ)(s:Same F F'):FzOk K F' σ ρ:=⟨S.ln,λi d q=>by
 obtain⟨v,e,r⟩:=S.fz i d q
 exact⟨v,e,r.mono s⟩⟩
structure GOk(G:Gh)(F H:Hp):Prop where
 fh:Same F H
 oh:Same G.O H
 fo:∀b o,G.O b=some o->F b=none/\NoTE o
 fb:Same G.B F
def XW(X:Cx)(G:Gh)(F:Hp)(ρ:En)(x:Ex):Prop:=∀F' H' s' a C dd pins σ,GOk G F' H'->FzOk X.K F' σ ρ->Inv X pins σ H' s'->XS H' s'.heap X.s₀.heap.objs.size a C dd->(∀p∈X.pn++pins,¬ TbOf s'.heap a p.1)->XR X.K F' C dd x->X.xe (.ref a) s'
theorem XW.mono{X:Cx}{G:Gh}{F F':Hp}{ρ:En}{x:Ex}(s:Same F F')(h:XW X G F ρ x):XW X G F' ρ x:=h
def W(X:Cx)(G:Gh)(F:Hp)(σ:L2.St)(ρ:En){α:Type}(m:M α)(C:α->Hp->Hp->Prop):Prop:=match m with
 | .ret a=>∀F' H',Same F F'->StOk X.K G F' σ H' ρ->C a F' H'
 | .exc x=>XW X G F ρ x
 | .bad=>False
section
variable {X:Cx}{G:Gh}{F F' H:Hp}{σ:L2.St}{ρ:En}{α β:Type}{m:M α}{k:α->M β}{C C':α->Hp->Hp->Prop}
theorem W.up{C:β->Hp->Hp->Prop}{m:M β}(s:Same F F')(h:W X G F σ ρ m C):W X G F' σ ρ m C:=by
 cases m with
 | ret a=>exact λF2 H2 s2 S2=>h F2 H2 (s.trans s2) S2
 | exc x=>exact XW.mono (X:=X) (G:=G) (ρ:=ρ) (x:=x) s h
 | bad=>exact h
theorem W.bind{C:β->Hp->Hp->Prop}(h:W X G F σ ρ (bd m k) C):W X G F σ ρ m λa F' H'=>W X G F' σ ρ (k a) C:=by
 cases m with
 | ret a=>exact λF2 H2 s2 S2=>W.up s2 h
 | exc x=>exact h
 | bad=>exact h
theorem W.imp(h:W X G F σ ρ m C)(w:∀a F' H',Same F F'->StOk X.K G F' σ H' ρ->C a F' H'->C' a F' H'):W X G F σ ρ m C':=by
 cases m with
 | ret a=>exact λF2 H2 s2 S2=>w a F2 H2 s2 S2 (h F2 H2 s2 S2)
 | exc x=>exact h
 | bad=>exact h
theorem W.opt{o:Option α}(h:W X G F σ ρ (oM o) C):∃a,o=some a/\∀F' H',Same F F'->StOk X.K G F' σ H' ρ->C a F' H':=by
 cases o with
 | none=>exact h.elim
 | some a=>exact⟨a,rfl,h⟩
end
@[irreducible] noncomputable def tSem(X:Cx)(e:Expr):TE:=λσ H Q=>∀(pins:List (Addr×Obj)) (s:Shared),Inv X pins σ H s->wpAny (model X.prog X.w) X.A (eval e X.env) (EP X pins σ Q) X.xe s
@[irreducible] noncomputable def VG_(X:Cx)(e:Expr):TT:=λσ H Q=>∀(pins:List (Addr×Obj)) (s:Shared),Inv X pins σ H s->wpAny (model X.prog X.w) X.A (isTrue e X.env (eval e X.env)) (TP X pins σ Q) X.xe s
@[irreducible] noncomputable def VF_(X:Cx)(e:Expr):TT:=λσ H Q=>∀(whole:Sem Value) (pins:List (Addr×Obj)) (s:Shared),Inv X pins σ H s->wpAny (model X.prog X.w) X.A (isTrue e X.env whole) (TP X pins σ Q) X.xe s
@[irreducible] noncomputable def yD_(X:Cx)(es:List Expr):TA:=λσ H Q=>∀(pos:Pos) (pins:List (Addr×Obj)) (s:Shared),Inv X pins σ H s->wpAny (model X.prog X.w) X.A (spliced (backTo pos (starEach es X.env))) (AP X pins σ Q) X.xe s
section
variable {X:Cx}{e:Expr}{es:List Expr}{σ:L2.St}{H:Hp}
theorem zm_:PE X e (tSem X e):=λpins s σ H Q I h=>by unfold tSem at h;exact h pins s I
theorem uf_:PT X e (VG_ X e):=λpins s σ H Q I h=>by unfold VG_ at h;exact h pins s I
theorem U5_:PW X e (VF_ X e):=λwh pins s σ H Q I h=>by unfold VF_ at h;exact h wh pins s I
theorem zS_:PA X es (yD_ X es):=λpos pins s σ H Q I h=>by unfold yD_ at h;exact h pos pins s I
theorem sem{t:TE}{Q:VK}(h:PE X e t)(q:t σ H Q):tSem X e σ H Q:=by unfold tSem;exact λpins s I=>h pins s σ H Q I q
theorem semT{t:TT}{Q:Bool->Hp->Prop}(h:PT X e t)(q:t σ H Q):VG_ X e σ H Q:=by unfold VG_;exact λpins s I=>h pins s σ H Q I q
theorem semW{t:TT}{Q:Bool->Hp->Prop}(h:PW X e t)(q:t σ H Q):VF_ X e σ H Q:=by unfold VF_;exact λwh pins s I=>h wh pins s σ H Q I q
theorem semA{t:TA}{Q:List V->Hp->Prop}(h:PA X es t)(q:t σ H Q):yD_ X es σ H Q:=by unfold yD_;exact λpos pins s I=>h pos pins s σ H Q I q
end
noncomputable def ownL(ρ:En)(i:Nat):Option (List D):=match ρ[i]? with
 | some (some (.ol (.l ds)))=>some ds
 | some (some (.op (.l ds)))=>some ds
 | _=>none
theorem Zk_{ρ:En}{i:Nat}{ds:List D}(h:ownL ρ i=some ds):own ρ i (.l ds):=by
 unfold ownL at h
 split at h
 ·rename_i q;cases h;exact .inl q
 ·rename_i q;cases h;exact .inr q
 ·cases h
def VO(K:Fg)(F:Hp)(σ:L2.St)(ρ:En)(v:V)(d:D):Prop:=Rep K F v d\/∃i c,own ρ i c/\σ[i]? = some (some v)/\d=c.d
inductive VOs(K:Fg)(F:Hp)(σ:L2.St)(ρ:En):List V->List D->Prop
 | nil:VOs K F σ ρ [] []
 | cons {v d vs ds}:VO K F σ ρ v d->VOs K F σ ρ vs ds->VOs K F σ ρ (v::vs) (d::ds)
theorem VO.mono{K:Fg}{F F':Hp}{σ:L2.St}{ρ:En}{v:V}{d:D}(s:Same F F')(h:VO K F σ ρ v d):VO K F' σ ρ v d:=h.imp (Rep.mono s) id
def OR(K:Fg)(F H:Hp)(v:V)(d:D):Prop:=Rep K F v d\/∃a c,v=.ref a/\d=c.d/\Held K F H a c
inductive ORs(K:Fg)(F H:Hp):List V->List D->Prop
 | nil:ORs K F H [] []
 | cons {v d vs ds}:OR K F H v d->ORs K F H vs ds->ORs K F H (v::vs) (d::ds)
theorem VO.or{K:Fg}{G:Gh}{F H:Hp}{σ:L2.St}{ρ:En}{v:V}{d:D}(S:StOk K G F σ H ρ)(h:VO K F σ ρ v d):OR K F H v d:=by
 rcases h with h|⟨i,c,ho,hv,rfl⟩
 ·exact .inl h
 ·obtain⟨a,e1,oa⟩:=S.ow i _ ho
  rw[hv]at e1
  injection e1 with e1;injection e1 with e1
  exact .inr ⟨a,c,e1,rfl,oa.he⟩
theorem VOs.ors{K:Fg}{G:Gh}{F H:Hp}{σ:L2.St}{ρ:En}(S:StOk K G F σ H ρ):∀{vs ds},VOs K F σ ρ vs ds->ORs K F H vs ds
 | _,_,.nil=>.nil
 | _,_,.cons h t=>.cons (h.or S) (t.ors S)
section
variable {K:Fg}{F H:Hp}{v:V}{ds:List D}
theorem OR.rep{d:D}(s:Same F H)(h:OR K F H v d):Rep K H v d:=by
 rcases h with h|⟨a,c,rfl,rfl,h1⟩
 ·exact h.mono s
 ·obtain⟨o,e,r⟩:=XO_ h1;exact r H s e
theorem OR.list(s:Same F H)(h:OR K F H v (.list ds)):∃a vs,v=.ref a/\SqL K H a vs/\RepL K F vs ds:=by
 rcases h with h|⟨a,c,e,e2,h1⟩
 ·obtain⟨a,vs,e,h1,h2⟩:=h.lst_inv
  exact⟨a,vs,e,s.seq h1,h2⟩
 ·cases c<;>cases e2
  obtain⟨vs,h1,h2⟩:=h1
  exact⟨a,vs,e,.inl (.inl h1),h2⟩
theorem OR.tuple(s:Same F H)(h:OR K F H v (.tuple ds)):∃a vs,v=.ref a/\SqT K H a vs/\RepL K F vs ds:=by
 rcases h with h|⟨a,c,e,e2,h1⟩
 ·obtain⟨a,vs,e,h1,h2⟩:=h.tup_inv
  exact⟨a,vs,e,SqT.of (s _ _ h1),h2⟩
 ·cases c<;>cases e2
theorem OR.tup'(h:OR K F H v (.tuple ds)):Rep K F v (.tuple ds):=by
 rcases h with h|⟨a,c,e,e2,h1⟩
 ·exact h
 ·cases c<;>cases e2
theorem OR.int{i:Int}(h:OR K F H v (.int i)):v=.int i:=by
 rcases h with h|⟨a,c,e,e2,h1⟩
 ·exact h.inv
 ·cases c<;>cases e2
theorem OR.bool{i:Bool}(h:OR K F H v (.bool i)):v=.bl i:=by
 rcases h with h|⟨a,c,e,e2,h1⟩
 ·exact h.inv
 ·cases c<;>cases e2
theorem OR.str{i:Str}(h:OR K F H v (.str i)):v=.str i:=by
 rcases h with h|⟨a,c,e,e2,h1⟩
 ·exact h.inv
 ·cases c<;>cases e2
theorem OR.none(h:OR K F H v .none):v=.non:=by
 rcases h with h|⟨a,c,e,e2,h1⟩
 ·exact h.inv
 ·cases c<;>cases e2
theorem zG_{vs:List V}{d:D}{ds:List D}(h:ORs K F H vs (d::ds)):∃v r,vs=v::r/\OR K F H v d/\ORs K F H r ds:=by
 cases h with|cons a b=>exact⟨_,_,rfl,a,b⟩
theorem zT_{vs:List V}(h:ORs K F H vs []):vs=[]:=by cases h;rfl
end
def AP(X:Cx)(e:Expr)(p:Pu D):Prop :=
 ∀(G:Gh) (F:Hp) (σ:L2.St) (H:Hp) (ρ:En) (Q:VK),StOk X.K G F σ H ρ->W X G F σ ρ (p ρ) (λd F' H'=>∀v,Rep X.K F' v d->Q v H')->tSem X e σ H Q
def AO(X:Cx)(e:Expr)(p:Pu D):Prop :=
 ∀(G:Gh) (F:Hp) (σ:L2.St) (H:Hp) (ρ:En) (Q:VK),StOk X.K G F σ H ρ->W X G F σ ρ (p ρ) (λd F' H'=>∀v,VO X.K F' σ ρ v d->Q v H')->tSem X e σ H Q
def AT(X:Cx)(e:Expr)(p:Pu Bool):Prop :=
 ∀(G:Gh) (F:Hp) (σ:L2.St) (H:Hp) (ρ:En) (Q:Bool->Hp->Prop),StOk X.K G F σ H ρ->W X G F σ ρ (p ρ) (λd F' H'=>Q d H')->VG_ X e σ H Q
def AW(X:Cx)(e:Expr)(p:Pu Bool):Prop :=
 ∀(G:Gh) (F:Hp) (σ:L2.St) (H:Hp) (ρ:En) (Q:Bool->Hp->Prop),StOk X.K G F σ H ρ->W X G F σ ρ (p ρ) (λd F' H'=>Q d H')->VF_ X e σ H Q
def AB(X:Cx)(e:Expr)(p:Pu Bool):Prop :=
 ∀(G:Gh) (F:Hp) (σ:L2.St) (H:Hp) (ρ:En) (Q:VK),StOk X.K G F σ H ρ->W X G F σ ρ (p ρ) (λd F' H'=>Q (.bl d) H')->tSem X e σ H Q
def AA{α:Type}(X:Cx)(es:List Expr)(m:(List D->M α)->En->M α):Prop :=
 ∀(G:Gh) (F:Hp) (σ:L2.St) (H:Hp) (ρ:En) (Q:List V->Hp->Prop) (k:List D->M α) (C:α->Hp->Hp->Prop),StOk X.K G F σ H ρ->W X G F σ ρ (m k ρ) C ->
  (∀ds vs F' H',Same F F'->StOk X.K G F' σ H' ρ->vs.length=es.length->RepL X.K F' vs ds->W X G F' σ ρ (k ds) C->Q vs H')->yD_ X es σ H Q
def AAo{α:Type}(X:Cx)(es:List Expr)(m:(List D->M α)->En->M α):Prop :=
 ∀(G:Gh) (F:Hp) (σ:L2.St) (H:Hp) (ρ:En) (Q:List V->Hp->Prop) (k:List D->M α) (C:α->Hp->Hp->Prop),StOk X.K G F σ H ρ->W X G F σ ρ (m k ρ) C ->
  (∀ds vs F' H',Same F F'->StOk X.K G F' σ H' ρ->VOs X.K F' σ ρ vs ds->W X G F' σ ρ (k ds) C->Q vs H')->yD_ X es σ H Q
def Frs(K:Fg)(G:Gh)(F:Hp)(σ:L2.St)(H:Hp)(ρ:En)(v:V)(c:OC):Prop:=∃a,v=.ref a/\OwnAt K G F H a c/\∀(i:Nat) (e:OC),own ρ i e->σ[i]? ≠ some (some (V.ref a))
def AL(X:Cx)(e:Expr)(p:Pu (List D)):Prop :=
 ∀(G:Gh) (F:Hp) (σ:L2.St) (H:Hp) (ρ:En) (Q:VK),StOk X.K G F σ H ρ->W X G F σ ρ (p ρ) (λds F' H'=>∀v,Frs X.K G F' σ H' ρ v (.l ds)->Q v H')->tSem X e σ H Q
noncomputable def pVar(i:Nat):Pu D:=λρ=>match ρ[i]? with
 | some (some (.fz d))=>.ret d
 | _=>.bad
noncomputable def zgG_(i:Nat):Pu D:=λρ=>match ρ[i]? with
 | some (some (.ol c))=>.ret c.d
 | some (some (.op c))=>.ret c.d
 | _=>.bad
noncomputable def pCon(d:D):Pu D:=λ_=>.ret d
def pBin(f:D->D->Option D)(a b:Pu D):Pu D:=λρ=>bd (a ρ) λx=>bd (b ρ) λy=>oM (f x y)
def zgM_(f:D->D->Option Bool)(a b:Pu D):Pu Bool:=λρ=>bd (a ρ) λx=>bd (b ρ) λy=>oM (f x y)
def pUn(f:D->Option D)(a:Pu D):Pu D:=λρ=>bd (a ρ) λx=>oM (f x)
noncomputable abbrev Pa(α:Type):=(List D->M α)->En->M α
noncomputable def pNil{α:Type}:Pa α:=λk _=>k []
def zgJ_{α:Type}(a:Pu D)(r:Pa α):Pa α:=λk ρ=>bd (a ρ) λx=>r (λxs=>k (x::xs)) ρ
noncomputable def fitM{S:Type}(ds:List S):M (List S):=if ds.length<=sizeLine then .ret ds else .bad
noncomputable def pTup(ps:Pa D):Pu D:=λρ=>ps (λds=>.ret (.tuple ds)) ρ
noncomputable def pLst(ps:Pa (List D)):Pu (List D):=λρ=>ps (λds=>.ret ds) ρ
theorem JI_{n:Nat}(h:n<=1000):n<=sizeLine:=Nat.le_trans h (by decide)
def zgL_(f:List D->Option D)(ps:Pa D):Pu D:=λρ=>ps (λds=>oM (f ds)) ρ
def zgK_(f:List D->Option Bool)(ps:Pa Bool):Pu Bool:=λρ=>ps (λds=>oM (f ds)) ρ
def y1_(f:List D->Option (List D))(ps:Pa (List D)):Pu (List D):=λρ=>ps (λds=>oM (f ds)) ρ
def pB(p:Pu Bool):Pu D:=λρ=>bd (p ρ) λb=>.ret (.bool b)
def pZ(p:Pu (List D)):Pu D:=λρ=>bd (p ρ) λds=>.ret (.list ds)
noncomputable def asB(d:D):M Bool:=match d with
 | .bool b=>.ret b
 | _=>.bad
def pAsB(p:Pu D):Pu Bool:=λρ=>bd (p ρ) asB
noncomputable def truD:D->Option Bool
 | .none=>some false
 | .bool b=>some b
 | .int i=>some (i != 0)
 | .str x=>if x.length<=sizeLine then some ((x.length:Int) != 0)else none
 | .list ds=>some (!ds.isEmpty)
 | .tuple ds=>some (!ds.isEmpty)
 | .dict _=>none
def pTru(p:Pu D):Pu Bool:=λρ=>bd (p ρ) λd=>oM (truD d)
def pAnd(a b:Pu Bool):Pu Bool:=λρ=>bd (a ρ) λt=>if t then b ρ else .ret false
def pOr(a b:Pu Bool):Pu Bool:=λρ=>bd (a ρ) λt=>if t then .ret true else b ρ
def pNot(a:Pu Bool):Pu Bool:=λρ=>bd (a ρ) λt=>.ret (!t)
def pIf{α:Type}(c:Pu Bool)(a b:Pu α):Pu α:=λρ=>bd (c ρ) λt=>if t then a ρ else b ρ
def OpD(K:Fg)(r:R2)(f:D->D->Option D):Prop :=
 ∀(G:Gh) (F:Hp) (σ:L2.St) (H:Hp) (ρ:En) (x y:V) (dx dy:D) (res:D) (Q:VK),StOk K G F σ H ρ->OR K F H x dx->OR K F H y dy->f dx dy=some res ->
  (∀v F' H',Same F F'->StOk K G F' σ H' ρ->Rep K F' v res->Q v H')->r x y H Q
def OpB(K:Fg)(r:R2)(f:D->D->Option Bool):Prop :=
 ∀(G:Gh) (F:Hp) (σ:L2.St) (H:Hp) (ρ:En) (x y:V) (dx dy:D) (res:Bool) (Q:VK),StOk K G F σ H ρ->OR K F H x dx->OR K F H y dy->f dx dy=some res->Q (.bl res) H->r x y H Q
def UnD(K:Fg)(r:V->Hp->VK->Prop)(f:D->Option D):Prop :=
 ∀(G:Gh) (F:Hp) (σ:L2.St) (H:Hp) (ρ:En) (x:V) (dx:D) (res:D) (Q:VK),StOk K G F σ H ρ->OR K F H x dx->f dx=some res ->
  (∀v F' H',Same F F'->StOk K G F' σ H' ρ->Rep K F' v res->Q v H')->r x H Q
def UJ_(K:Fg)(r:List V->Hp->VK->Prop)(f:List D->Option D):Prop :=
 ∀(G:Gh) (F:Hp) (σ:L2.St) (H:Hp) (ρ:En) (xs:List V) (ds:List D) (res:D) (Q:VK),StOk K G F σ H ρ->ORs K F H xs ds->f ds=some res ->
  (∀v F' H',Same F F'->StOk K G F' σ H' ρ->Rep K F' v res->Q v H')->r xs H Q
def Vz_(K:Fg)(r:List V->Hp->VK->Prop)(f:List D->Option Bool):Prop :=
 ∀(G:Gh) (F:Hp) (σ:L2.St) (H:Hp) (ρ:En) (xs:List V) (ds:List D) (res:Bool) (Q:VK),StOk K G F σ H ρ->ORs K F H xs ds->f ds=some res->Q (.bl res) H->r xs H Q
def Wr_(K:Fg)(r:List V->Hp->VK->Prop)(f:List D->Option (List D)):Prop :=
 ∀(G:Gh) (F:Hp) (σ:L2.St) (H:Hp) (ρ:En) (xs:List V) (ds:List D) (res:List D) (Q:VK),StOk K G F σ H ρ->ORs K F H xs ds->f ds=some res ->
  (∀v F' H',Same F F'->StOk K G F' σ H' ρ->Frs K G F' σ H' ρ v (.l res)->Q v H')->r xs H Q
section
variable {X:Cx}{e a b c:Expr}{es rest:List Expr}{p pa pb:Pu D}{ta tb tc:Pu Bool}{ps:Pa D}{pb':Pa Bool}{pl:Pa (List D)}{α:Type}{pα:Pa α}{qs:Pu (List D)}{pos:Pos}
theorem zhO_{i:Nat}{x:Str}(hN:X.N[i]? = some x)(hv:Vis X.env.scope x)(hd:(x==("__debug__" : Str))=false:=by decide)(hcd:(x==("__classdict__" : Str))=false:=by decide):AP X (.Name x pos) (pVar i) :=
 λG F σ H ρ Q S w=>sem (uK_ hN hv hd hcd)<|by
  unfold pVar at w
  split at w
  ·rename_i d q
   obtain⟨v,e1,r1⟩:=S.fz i d q
   exact⟨v,e1,w F H (Same.refl _) S v r1⟩
  ·exact w.elim
theorem zF_{i:Nat}{x:Str}(hN:X.N[i]? = some x)(hv:Vis X.env.scope x)(hd:(x==("__debug__" : Str))=false:=by decide)(hcd:(x==("__classdict__" : Str))=false:=by decide):AO X (.Name x pos) (zgG_ i) :=
 λG F σ H ρ Q S w=>sem (uK_ hN hv hd hcd)<|by
  have go:∀c:OC,own ρ i c->W X G F σ ρ (.ret c.d) (λd F' H'=>∀v,VO X.K F' σ ρ v d->Q v H')->tVar i σ H Q:=λds ho w=>by
   obtain⟨a,e1,oa⟩:=S.ow i _ ho
   exact⟨_,e1,w F H (Same.refl _) S _ (.inr ⟨i,ds,ho,e1,rfl⟩)⟩
  unfold zgG_ at w
  split at w
  ·rename_i ds q;exact go ds (.inl q) w
  ·rename_i ds q;exact go ds (.inr q) w
  ·exact w.elim
theorem ao(h:AP X e p):AO X e p:=λG F σ H ρ Q S w=>h G F σ H ρ Q S (w.imp λd F' H' _ _ q v r=>q v (.inl r))
theorem Vs_{v:V}{d:D}(h:PE X e (tC v))(r:∀F,Rep X.K F v d):AP X e (pCon d) :=
 λG F σ H ρ Q S w=>sem h (w F H (Same.refl _) S v (r F))
theorem ze_{i j}:AP X (.Constant (.int i) j pos) (pCon (.int i)):=Vs_ zgD_ λ_=>.int _
theorem UG_{i j}:AP X (.Constant (.bool i) j pos) (pCon (.bool i)):=Vs_ ziA_ λ_=>.bl _
theorem Jl_{i j}:AP X (.Constant (.str i) j pos) (pCon (.str i)):=Vs_ zgy_ λ_=>.str _
theorem yA_{j}:AP X (.Constant .none j pos) (pCon .none):=Vs_ zgB_ λ_=>.non
theorem Vq_{r:R2}{Q:VK}{G:Gh}{F H:Hp}{σ:L2.St}{ρ:En}{α:Type}{f:D->D->M α}{C:α->Hp->Hp->Prop}(ha:AO X a pa)(hb:AO X b pb)(S:StOk X.K G F σ H ρ)(w:W X G F σ ρ (bd (pa ρ) λx=>bd (pb ρ) λy=>f x y) C)
  (k:∀x y dx dy F' H',Same F F'->StOk X.K G F' σ H' ρ->OR X.K F' H' x dx->OR X.K F' H' y dy->W X G F' σ ρ (f dx dy) C->r x y H' Q):tOp r (tSem X a) (tSem X b) σ H Q :=
 ha G F σ H ρ _ S (w.bind.imp λdx F1 H1 s1 S1 w1 x hx=>hb G F1 σ H1 ρ _ S1 (w1.bind.imp λdy F2 H2 s2 S2 w2 y hy=>k x y dx dy F2 H2 (s1.trans s2) S2 ((hx.mono s2).or S2) (hy.or S2) w2))
theorem zQ_{op:Operator}{r:R2}{f:D->D->Option D}(ho:OpR X (binaryOp op) r)(hf:OpD X.K r f)(ha:AO X a pa)(hb:AO X b pb):AP X (.BinOp a op b pos) (pBin f pa pb) :=
 λG F σ H ρ Q S w=>sem (zeo_ ho zm_ zm_) (Vq_ ha hb S w λx y dx dy F' H' s' S' hx hy w'=>by
  obtain⟨res,e,k⟩:=w'.opt
  exact hf G F' σ H' ρ x y dx dy res Q S' hx hy e λv F2 H2 s2 S2 r2=>k F2 H2 s2 S2 v r2)
theorem zA_{r:R2}{f:D->D->Option D}(hr:IxR X r)(hf:OpD X.K r f)(ha:AO X a pa)(hb:AO X b pb)(hs:QH_ b):AP X (.Subscript a b pos) (pBin f pa pb) :=
 λG F σ H ρ Q S w=>sem (zgC_ hr zm_ zm_ hs) (Vq_ ha hb S w λx y dx dy F' H' s' S' hx hy w'=>by
  obtain⟨res,e,k⟩:=w'.opt
  exact hf G F' σ H' ρ x y dx dy res Q S' hx hy e λv F2 H2 s2 S2 r2=>k F2 H2 s2 S2 v r2)
theorem zdz_{op:CmpOp}{r:R2}{f:D->D->Option Bool}(ho:OpR X (compareOp op) r)(hf:OpB X.K r f)(ha:AO X a pa)(hb:AO X b pb)(hm:behindInMarks op b=false):AB X (.Compare a [op] [b] pos) (zgM_ f pa pb) :=
 λG F σ H ρ Q S w=>sem (W2_ ho zm_ zm_ hm) (Vq_ ha hb S w λx y dx dy F' H' s' S' hx hy w'=>by
  obtain⟨res,e,k⟩:=w'.opt
  exact hf G F' σ H' ρ x y dx dy res Q S' hx hy e (k F' H' (Same.refl _) S'))
theorem zO_{op:CmpOp}{r:R2}{f:D->D->Option Bool}(ho:OpR X (compareOp op) r)(hf:OpB X.K r f)(ha:AO X a pa)(hb:AO X b pb)(hm:behindInMarks op b=false):AT X (.Compare a [op] [b] pos) (zgM_ f pa pb) :=
 λG F σ H ρ Q S w=>semT (WW_ ho zm_ zm_ hm) (Vq_ (Q:=λx H'=>∃k,x=.bl k/\Q k H') ha hb S w λx y dx dy F' H' s' S' hx hy w'=>by
  obtain⟨res,e,k⟩:=w'.opt
  exact hf G F' σ H' ρ x y dx dy res _ S' hx hy e ⟨res,rfl,k F' H' (Same.refl _) S'⟩)
theorem ap_b(h:AB X e ta):AP X e (pB ta):=λG F σ H ρ Q S w=>h G F σ H ρ Q S (w.bind.imp λb F' H' s1 S1 w1=>w1 F' H' (Same.refl _) S1 _ (.bl b))
theorem zar_{op:UnaryOp}{r:V->Hp->VK->Prop}{f:D->Option D}(ho:UnR X (unaryOp op) r)(hf:UnD X.K r f)(ha:AO X a pa):AP X (.UnaryOp op a pos) (pUn f pa) :=
 λG F σ H ρ Q S w=>sem (ziy_ ho zm_) (ha G F σ H ρ _ S (w.bind.imp λdx F1 H1 s1 S1 w1 x hx=>by
  obtain⟨res,e,k⟩:=w1.opt
  exact hf G F1 σ H1 ρ x dx res Q S1 (hx.or S1) e λv F2 H2 s2 S2 r2=>k F2 H2 s2 S2 v r2))
theorem ap_z(h:AL X e qs):AP X e (pZ qs):=λG F σ H ρ Q S w=>h G F σ H ρ Q S (w.bind.imp λds F' H' s1 S1 w1 v fr=>by
 obtain⟨F2,s2,S2,r2⟩:=S1.settle (v:=v) (ds:=ds) fr
 exact w1 F2 H' s2 S2 v r2)
theorem zk_:AA (α:=α) X [] pNil:=λG F σ H ρ Q k C S w kk=>semA QY_ (kk [] [] F H (Same.refl _) S rfl .nil w)
theorem zb_(h:AP X e p)(hr:AA X es pα)(hs:starEach (e::es) X.env=(false,eval e X.env)::starEach es X.env):AA X (e::es) (zgJ_ p pα) :=
 λG F σ H ρ Q k C S w kk=>semA (yK_ zm_ zS_ hs) (h G F σ H ρ _ S (w.bind.imp λd F1 H1 s1 S1 w1 v r1 =>
  hr G F1 σ H1 ρ _ _ C S1 w1 λds vs F2 H2 s2 S2 hl r2 w2=>kk (d::ds) (v::vs) F2 H2 (s1.trans s2) S2 (by simp[hl]) (.cons (r1.mono s2) r2) w2))
theorem zu_:AAo (α:=α) X [] pNil:=λG F σ H ρ Q k C S w kk=>semA QY_ (kk [] [] F H (Same.refl _) S .nil w)
theorem zo_(h:AO X e p)(hr:AAo X es pα)(hs:starEach (e::es) X.env=(false,eval e X.env)::starEach es X.env):AAo X (e::es) (zgJ_ p pα) :=
 λG F σ H ρ Q k C S w kk=>semA (yK_ zm_ zS_ hs) (h G F σ H ρ _ S (w.bind.imp λd F1 H1 s1 S1 w1 v r1 =>
  hr G F1 σ H1 ρ _ _ C S1 w1 λds vs F2 H2 s2 S2 r2 w2=>kk (d::ds) (v::vs) F2 H2 (s1.trans s2) S2 (.cons (r1.mono s2) r2) w2))
theorem W.fit{α:Type}{G:Gh}{F:Hp}{σ:L2.St}{ρ:En}{ds:List α}{C:List α->Hp->Hp->Prop}(h:W X G F σ ρ (fitM ds) C):ds.length<=sizeLine/\∀F' H',Same F F'->StOk X.K G F' σ H' ρ->C ds F' H':=by
 unfold fitM at h
 split at h
 ·exact⟨by assumption,h⟩
 ·exact h.elim
theorem yz_{x1}(h:AA X es ps)(hz:es.length<=1000):AP X (.Tuple es x1 pos) (pTup ps) :=
 λG F σ H ρ Q S w=>sem (zcQ_ zS_) (h G F σ H ρ _ _ _ S w λds vs F1 H1 s1 S1 hl r1 w1=>by
  refine⟨by rw[hl];exact JI_ hz,λq hq=>?_⟩
  obtain⟨s2,S2,r2⟩:=S1.newTup hq r1
  exact w1 _ _ s2 S2 _ r2)
theorem j9_(h:AA X es pl)(hz:es.length<=1000):AL X (.List es pos) (pLst pl) :=
 λG F σ H ρ Q S w=>sem (zcR_ zS_) (h G F σ H ρ _ _ _ S w λds vs F1 H1 s1 S1 hl r1 w1=>by
  refine⟨by rw[hl];exact JI_ hz,λq hq=>?_⟩
  obtain⟨S2,r2⟩:=S1.newLst hq r1
  exact w1 _ _ (Same.refl _) S2 _ r2)
theorem yT_{r:List V->Hp->VK->Prop}{Q:VK}{G:Gh}{F H:Hp}{σ:L2.St}{ρ:En}{f:List D->M α}{C:α->Hp->Hp->Prop}(ha:AAo X es pα)(S:StOk X.K G F σ H ρ)(w:W X G F σ ρ (pα f ρ) C)
  (k:∀xs ds F' H',Same F F'->StOk X.K G F' σ H' ρ->ORs X.K F' H' xs ds->W X G F' σ ρ (f ds) C->r xs H' Q):tCB r (yD_ X es) σ H Q :=
 ha G F σ H ρ _ _ C S w λds xs F1 H1 s1 S1 hx w1=>k xs ds F1 H1 s1 S1 (hx.ors S1) w1
theorem zH_{x:Str}{p:Pos}{id:String}{r:List V->Hp->VK->Prop}{f:List D->Option D}(hc:CallR X (.builtin id) r)(hf:UJ_ X.K r f)(hg:Gl X x)(hm:X.mg x=none)(hv:bootBuiltins x=some (.builtin id))(ha:AAo X (e::es) ps)
  (hn:x ≠ "__name__") (hdb:(x==("__debug__" : Str))=false) (he:starEach (e::es) X.env=(false,eval e X.env)::starEach es X.env) (hpl:(backTo pos (starEach es X.env)).any (·.1)=false):AP X (.Call (.Name x p) (e::es) [] pos) (zgL_ f ps) :=
 λG F σ H ρ Q S w=>sem (Zj_ hc hg hm hv zS_ hn hdb he hpl) (yT_ ha S w λxs ds F' H' s' S' hx w'=>by
  obtain⟨res,e,k⟩:=w'.opt
  exact hf G F' σ H' ρ xs ds res Q S' hx e λv F2 H2 s2 S2 r2=>k F2 H2 s2 S2 v r2)
theorem zct_{x:Str}{p:Pos}{id:String}{r:List V->Hp->VK->Prop}{f:List D->Option (List D)}(hc:CallR X (.builtin id) r)(hf:Wr_ X.K r f)(hg:Gl X x)(hm:X.mg x=none)(hv:bootBuiltins x=some (.builtin id))(ha:AAo X (e::es) pl)
  (hn:x ≠ "__name__") (hdb:(x==("__debug__" : Str))=false) (he:starEach (e::es) X.env=(false,eval e X.env)::starEach es X.env) (hpl:(backTo pos (starEach es X.env)).any (·.1)=false):AL X (.Call (.Name x p) (e::es) [] pos) (y1_ f pl) :=
 λG F σ H ρ Q S w=>sem (Zj_ hc hg hm hv zS_ hn hdb he hpl) (yT_ ha S w λxs ds F' H' s' S' hx w'=>by
  obtain⟨res,e,k⟩:=w'.opt
  exact hf G F' σ H' ρ xs ds res Q S' hx e λv F2 H2 s2 S2 r2=>k F2 H2 s2 S2 v r2)
theorem Vv_{x:Str}{p:Pos}{id:String}{r:List V->Hp->VK->Prop}{f:List D->Option Bool}(hc:CallR X (.builtin id) r)(hf:Vz_ X.K r f)(hg:Gl X x)(hm:X.mg x=none)(hv:bootBuiltins x=some (.builtin id))(ha:AAo X (e::es) pb')
  (hn:x ≠ "__name__") (hdb:(x==("__debug__" : Str))=false) (he:starEach (e::es) X.env=(false,eval e X.env)::starEach es X.env) (hpl:(backTo pos (starEach es X.env)).any (·.1)=false):AB X (.Call (.Name x p) (e::es) [] pos) (zgK_ f pb') :=
 λG F σ H ρ Q S w=>sem (Zj_ hc hg hm hv zS_ hn hdb he hpl) (yT_ ha S w λxs ds F' H' s' S' hx w'=>by
  obtain⟨res,e,k⟩:=w'.opt
  exact hf G F' σ H' ρ xs ds res Q S' hx e (k F' H' (Same.refl _) S'))
theorem jP_{x:Str}{p:Pos}{T:String}{r:List V->Hp->VK->Prop}{f:List D->Option D}(hc:CallR X (.type T) r)(hf:UJ_ X.K r f)(hg:Gl X x)(hm:X.mg x=none)(hv:bootBuiltins x=some (.type T))(ha:AAo X (e::es) ps)
  (hn:x ≠ "__name__") (hdb:(x==("__debug__" : Str))=false) (he:starEach (e::es) X.env=(false,eval e X.env)::starEach es X.env) (hpl:(backTo pos (starEach es X.env)).any (·.1)=false):AP X (.Call (.Name x p) (e::es) [] pos) (zgL_ f ps) :=
 λG F σ H ρ Q S w=>sem (ZL_ hc hg hm hv zS_ hn hdb he hpl) (yT_ ha S w λxs ds F' H' s' S' hx w'=>by
  obtain⟨res,e,k⟩:=w'.opt
  exact hf G F' σ H' ρ xs ds res Q S' hx e λv F2 H2 s2 S2 r2=>k F2 H2 s2 S2 v r2)
theorem Jm_{x:Str}{p:Pos}{T:String}{r:List V->Hp->VK->Prop}{f:List D->Option (List D)}(hc:CallR X (.type T) r)(hf:Wr_ X.K r f)(hg:Gl X x)(hm:X.mg x=none)(hv:bootBuiltins x=some (.type T))(ha:AAo X (e::es) pl)
  (hn:x ≠ "__name__") (hdb:(x==("__debug__" : Str))=false) (he:starEach (e::es) X.env=(false,eval e X.env)::starEach es X.env) (hpl:(backTo pos (starEach es X.env)).any (·.1)=false):AL X (.Call (.Name x p) (e::es) [] pos) (y1_ f pl) :=
 λG F σ H ρ Q S w=>sem (ZL_ hc hg hm hv zS_ hn hdb he hpl) (yT_ ha S w λxs ds F' H' s' S' hx w'=>by
  obtain⟨res,e,k⟩:=w'.opt
  exact hf G F' σ H' ρ xs ds res Q S' hx e λv F2 H2 s2 S2 r2=>k F2 H2 s2 S2 v r2)
theorem y8_{K:Fg}{F:Hp}{vs:List V}{ds:List D}(h:RepL K F vs ds):(!vs.isEmpty) = !ds.isEmpty:=by cases h<;>rfl
theorem zak_(ha:AO X a pa)(he:∀whole,isTrue a X.env whole=(do let v <-whole;standAt a.pos;holding [v] (truthy v))):AT X a (pTru pa) :=
 λG F σ H ρ Q S w=>semT (QV_ zm_ he) (ha G F σ H ρ _ S (w.bind.imp λx F1 H1 s1 S1 w1 v hv=>by
  obtain⟨bb,hb,k⟩:=w1.opt
  refine⟨bb,?_,k F1 H1 (Same.refl _) S1⟩
  have o:=hv.or S1
  cases x with
  | none=>rw[o.none];cases hb;exact rfl
  | bool i=>rw[o.bool];cases hb;exact rfl
  | int i=>rw[o.int];cases hb;exact rfl
  | str i =>
   rw[o.str]
   unfold truD at hb
   dsimp only at hb
   split at hb
   ·rename_i hl;cases hb;exact⟨hl,rfl⟩
   ·cases hb
  | list ds=>obtain⟨a,vs,rfl,h1,h2⟩:=o.list S1.fh;cases hb;exact .inl ⟨vs,h1,(y8_ h2).symm⟩
  | tuple ds=>obtain⟨a,vs,rfl,h1,h2⟩:=o.tuple S1.fh;cases hb;exact .inr (.inl ⟨vs,h1,(y8_ h2).symm⟩)
  | dict ds=>cases hb))
theorem at_b(ha:AB X a ta)(he:∀whole,isTrue a X.env whole=(do let v <-whole;standAt a.pos;holding [v] (truthy v))):AT X a ta :=
 λG F σ H ρ Q S w=>semT (QV_ zm_ he) (ha G F σ H ρ _ S (w.imp λx F1 H1 s1 S1 w1=>⟨x,rfl,w1⟩))
theorem zaj_(ha:AT X a ta):AW X (.BoolOp .And [a] pos) ta:=λG F σ H ρ Q S w=>semW (WS_ uf_) (ha G F σ H ρ Q S w)
theorem Vr_(ha:AT X a ta):AW X (.BoolOp .Or [a] pos) ta:=λG F σ H ρ Q S w=>semW (zgp_ uf_) (ha G F σ H ρ Q S w)
theorem zdr_(ha:AT X a ta)(hb:AW X (.BoolOp .And (b::rest) pos) tb):AW X (.BoolOp .And (a::b::rest) pos) (pAnd ta tb) :=
 λG F σ H ρ Q S w=>semW (zcL_ uf_ U5_) (ha G F σ H ρ _ S (w.bind.imp λt F1 H1 s1 S1 w1=>by
  cases t with
  | true=>refine iteT ?_;exact hb G F1 σ H1 ρ Q S1 w1
  | false=>refine iteF ?_;exact w1 F1 H1 (Same.refl _) S1))
theorem zcp_(ha:AT X a ta)(hb:AW X (.BoolOp .Or (b::rest) pos) tb):AW X (.BoolOp .Or (a::b::rest) pos) (pOr ta tb) :=
 λG F σ H ρ Q S w=>semW (ziv_ uf_ U5_) (ha G F σ H ρ _ S (w.bind.imp λt F1 H1 s1 S1 w1=>by
  cases t with
  | true=>refine iteT ?_;exact w1 F1 H1 (Same.refl _) S1
  | false=>refine iteF ?_;exact hb G F1 σ H1 ρ Q S1 w1))
theorem Wk_(h:AW X e ta):AT X e ta:=λG F σ H ρ Q S w=>semT (λpins s σ H Q I h=>U5_ _ pins s σ H Q I h) (h G F σ H ρ Q S w)
theorem zds_(ha:AT X a ta):AT X (.UnaryOp .Not a pos) (pNot ta) :=
 λG F σ H ρ Q S w=>semT (zgq_ uf_) (ha G F σ H ρ _ S (w.bind.imp λt F1 H1 s1 S1 w1=>w1 F1 H1 (Same.refl _) S1))
theorem zjj_(h:AP X a pa):AB X a (pAsB pa):=λG F σ H ρ Q S w=>h G F σ H ρ Q S (w.bind.imp λd F1 H1 s1 S1 w1 v r=>by
 cases r with
 | bl b=>exact w1 F1 H1 (Same.refl _) S1
 | non=>exact w1.elim
 | int i=>exact w1.elim
 | str i=>exact w1.elim
 | tup _ _=>exact w1.elim
 | lst _ _=>exact w1.elim
 | dct _ _ _=>exact w1.elim
 | dck _ _ _=>exact w1.elim
 | exc _ _ _ _ _=>exact w1.elim
 | fn _=>exact w1.elim)
theorem zay_{op}(h:AB X a ta):AB X (.BoolOp op [a] pos) ta:=λG F σ H ρ Q S w=>sem (zgz_ zm_) (h G F σ H ρ Q S w)
theorem zaz_(ha:AB X a ta)(hb:AB X (.BoolOp .And (b::rest) pos) tb):AB X (.BoolOp .And (a::b::rest) pos) (pAnd ta tb) :=
 λG F σ H ρ Q S w=>sem (zgE_ zm_ zm_) (ha G F σ H ρ _ S (w.bind.imp λt F1 H1 s1 S1 w1=>⟨t,rfl,by
  cases t with
  | true=>refine iteT ?_;exact hb G F1 σ H1 ρ Q S1 w1
  | false=>refine iteF ?_;exact w1 F1 H1 (Same.refl _) S1⟩))
theorem zhR_(ha:AB X a ta):AB X (.UnaryOp .Not a pos) (pNot ta) :=
 λG F σ H ρ Q S w=>sem (zgA_ zm_) (ha G F σ H ρ _ S (w.bind.imp λt F1 H1 s1 S1 w1=>⟨t,rfl,w1 F1 H1 (Same.refl _) S1⟩))
theorem zat_(hc:AT X c tc)(ha:AP X a pa)(hb:AP X b pb):AP X (.IfExp c a b pos) (pIf tc pa pb) :=
 λG F σ H ρ Q S w=>sem (zbg_ uf_ zm_ zm_) (hc G F σ H ρ _ S (w.bind.imp λt F1 H1 s1 S1 w1=>by
  cases t with
  | true=>refine iteT ?_;exact ha G F1 σ H1 ρ Q S1 w1
  | false=>refine iteF ?_;exact hb G F1 σ H1 ρ Q S1 w1))
end
noncomputable def zbv_(i j:Int):Bool:=(decide (-(2^64)<i)&&decide (i<2^64))||(decide (-(2^64)<j)&&decide (j<2^64))
noncomputable def jC_:D->D->Option D
 | .int i,.int j=>some (.int (i+j))
 | .str a,.str b=>if a.length+b.length<=sizeLine then some (.str (a++b))else none
 | .tuple a,.tuple b=>if a.length+b.length<=sizeLine then some (.tuple (a++b))else none
 | .list a,.list b=>if a.length+b.length<=sizeLine then some (.list (a++b))else none
 | _,_=>none
noncomputable def Y9_:D->D->Option D
 | .int i,.int j=>some (.int (i - j))
 | _,_=>none
def uL_:D->D->Option D
 | .int i,.int j=>if zbv_ i j then some (.int (i*j))else none
 | _,_=>none
noncomputable def Yc_:D->D->Option (List D)
 | .list a,.int k=>if decide (-(2^63)<=k)&&decide (k<2^63)&&decide (a.length*k.toNat<=sizeLine)then some (List.replicate k.toNat a).flatten else none
 | _,_=>none
noncomputable def W8_:D->D->Option D
 | .int i,.int j=>if decide (0<j)&&decide (j<1073741824)then some (.int (i / j))else none
 | _,_=>none
noncomputable def ZN_:D->D->Option D
 | .int i,.int j=>if 0<j then some (.int (i % j))else none
 | _,_=>none
noncomputable def W7_:D->D->Option D
 | .int i,.int j=>if decide (0<=j)&&decide (j<=1000000)&&decide (i.natAbs<2^64)then some (.int (i^j.toNat))else none
 | _,_=>none
noncomputable def Jn_:D->Option D
 | .int i=>some (.int (-i))
 | _=>none
noncomputable def opLt:D->D->Option Bool
 | .int i,.int j=>some (decide (i<j))
 | _,_=>none
noncomputable def opLe:D->D->Option Bool
 | .int i,.int j=>some (decide (i<=j))
 | _,_=>none
noncomputable def opGt:D->D->Option Bool
 | .int i,.int j=>some (decide (j<i))
 | _,_=>none
noncomputable def opGe:D->D->Option Bool
 | .int i,.int j=>some (decide (j<=i))
 | _,_=>none
def zgn_(K:Fg):R2:=λx y H Q=>∃a b xs ys,x=.ref a/\y=.ref b/\SqT K H a xs/\SqT K H b ys/\xs.length+ys.length<=sizeLine /\
 (xs=[]->Q (.ref b) H)/\(xs≠[]->ys=[]->Q (.ref a) H)/\(xs≠[]->ys≠[]->∀p,H p=none->Q (.ref p) (upd H p (.tup (xs++ys))))
theorem op_cat0{X:Cx}:OpR X (binaryOp .Add) (zgn_ X.K):=by
 intro pins s σ H x y v u Q I rx ry h
 obtain⟨a,b,xs,ys,rfl,rfl,ha,hb,hz,q0,q1,q2⟩:=h
 by_cases hx:xs=[]
 ·cases rx
  cases ry
  obtain⟨its,r1,p1,_⟩:=I.tuple ha
  obtain⟨its2,r2,p2,_⟩:=I.tuple hb
  have hv:its=[]:=r1.nil_iff.mpr hx
  obtain⟨⟨cls,dd,data,sl⟩,ho,hc,n,hd⟩:=id p1
  obtain⟨⟨cls2,dd2,data2,sl2⟩,ho2,hc2,n2,hd2⟩:=id p2
  simp only at hc hd hc2 hd2
  subst hc hd hc2 hd2
  exact concat_meets ⟨_,ho,rfl⟩ ⟨_,ho2,rfl⟩ noFill_tuple_add seq_tuple_add PySem.F.slot_tuple_add PySem.F.entry_tuple_add (PySem.F.args_tuple_add_2 _ _)
   (tuple_addW0 a b its.toArray its2.toArray n n2 dd dd2 sl sl2 (by simp[hv])) ⟨ho,ho2,⟨.ref b,H,I,rfl,q0 hx⟩⟩
 ·exact zex_ pins s σ H _ _ v u Q I rx ry ⟨a,b,xs,ys,rfl,rfl,ha,hb,hx,hz,q1 hx,q2 hx⟩
section
variable {K:Fg}{X:Cx}
theorem noS{α:Type}{a:α}{P:Prop}(e:(none:Option α)=some a):P:=nomatch e
theorem okI{C:Int->Int->Prop}{g:Int->Int->V}{f:D->D->Option D}(h:∀dx dy res,f dx dy=some res->∃i j,dx=.int i/\dy=.int j/\C i j/\∀K F,Rep K F (g i j) res):OpD K (rI C g) f:=by
 intro G F σ H ρ x y dx dy res Q S ox oy e k
 obtain⟨i,j,rfl,rfl,hc,hr⟩:=h dx dy res e
 exact⟨i,j,ox.int,oy.int,hc,k _ F H (Same.refl _) S (hr K F)⟩
theorem okB{g:Int->Int->Bool}{f:D->D->Option Bool}(h:∀dx dy res,f dx dy=some res->∃i j,dx=.int i/\dy=.int j/\res=g i j):OpB K (rI0 λi j=>.bl (g i j)) f:=by
 intro G F σ H ρ x y dx dy res Q S ox oy e k
 obtain⟨i,j,rfl,rfl,rfl⟩:=h dx dy res e
 exact⟨i,j,ox.int,oy.int,k⟩
theorem zcX_:OpD K (rI0 λi j=>.int (i - j)) Y9_:=by
 intro G F σ H ρ x y dx dy res Q S ox oy e k
 cases dx<;>first|exact noS e|(cases dy<;>first|exact noS e|cases e)
 exact⟨_,_,ox.int,oy.int,k _ F H (Same.refl _) S (.int _)⟩
theorem ziF_:OpB K (rI0 λi j=>.bl (decide (i<j))) opLt:=okB λdx dy res e=>by
 cases dx<;>first|exact noS e|(cases dy<;>first|exact noS e|cases e)
 exact⟨_,_,rfl,rfl,rfl⟩
theorem ziG_:OpB K (rI0 λi j=>.bl (decide (i<=j))) opLe:=okB λdx dy res e=>by
 cases dx<;>first|exact noS e|(cases dy<;>first|exact noS e|cases e)
 exact⟨_,_,rfl,rfl,rfl⟩
theorem Xi_:OpB K (rI0 λi j=>.bl (decide (j<i))) opGt:=okB λdx dy res e=>by
 cases dx<;>first|exact noS e|(cases dy<;>first|exact noS e|cases e)
 exact⟨_,_,rfl,rfl,rfl⟩
theorem zeD_:OpB K (rI0 λi j=>.bl (decide (j<=i))) opGe:=okB λdx dy res e=>by
 cases dx<;>first|exact noS e|(cases dy<;>first|exact noS e|cases e)
 exact⟨_,_,rfl,rfl,rfl⟩
theorem zcZ_:OpD K (rI CDiv λi j=>.int (i / j)) W8_:=okI λdx dy res e=>by
 cases dx<;>first|exact noS e|(cases dy<;>try (exact noS e))
 rename_i i j
 dsimp only[W8_]at e
 split at e
 ·rename_i hc
  cases e
  simp only[Bool.and_eq_true,zzi]at hc
  exact⟨i,j,rfl,rfl,hc,λ_ _=>.int _⟩
 ·cases e
theorem ZO_:OpD K (rI (λ_ j=>0<j) λi j=>.int (i % j)) ZN_:=okI λdx dy res e=>by
 cases dx<;>first|exact noS e|(cases dy<;>try (exact noS e))
 rename_i i j
 dsimp only[ZN_]at e
 split at e
 ·rename_i hc
  cases e
  exact⟨i,j,rfl,rfl,hc,λ_ _=>.int _⟩
 ·cases e
theorem zgV_:OpD K (rI CPow λi j=>.int (i^j.toNat)) W7_:=okI λdx dy res e=>by
 cases dx<;>first|exact noS e|(cases dy<;>try (exact noS e))
 rename_i i j
 dsimp only[W7_]at e
 split at e
 ·rename_i hc
  cases e
  simp only[Bool.and_eq_true,zzi]at hc
  exact⟨i,j,rfl,rfl,⟨hc.1.1,hc.1.2,hc.2⟩,λ_ _=>.int _⟩
 ·cases e
theorem Ye_:UnD K (rU λi=>.int (-i)) Jn_:=by
 intro G F σ H ρ x dx res Q S ox e k
 cases dx<;>cases e
 exact⟨_,ox.int,k _ F H (Same.refl _) S (.int _)⟩
theorem y0_{F:Hp}{vs:List V}{ds:List D}(r:RepL K F vs ds):vs=[]↔ds=[]:=by cases r<;>simp
def zgm_(K:Fg):R2:=λx y H Q=>∃l b xs zs,x=.ref l/\y=.ref b/\SqL K H l xs/\SqL K H b zs/\xs.length+zs.length<=sizeLine/\∀p,H p=none->Q (.ref p) (upd H p (.lst (xs++zs)))
theorem zey_:OpR X (binaryOp .Add) (zgm_ X.K):=by
 intro pins s σ H x y v u Q I rx ry h
 obtain⟨l,b,xs,zs,rfl,rfl,hH,hB,hz,q⟩:=h
 cases rx
 cases ry
 obtain⟨its,r,pl,_⟩:=I.list hH
 obtain⟨its2,r2,pl2,_⟩:=I.list hB
 obtain⟨⟨cls,dd,data,sl⟩,ho,hc,n,hd⟩:=id pl.isList
 obtain⟨⟨cls2,dd2,data2,sl2⟩,ho2,hc2,n2,hd2⟩:=id pl2.isList
 simp only at hc hd hc2 hd2
 subst hc hd hc2 hd2
 have e:its.toArray++its2.toArray=(its++its2).toArray:=by simp
 refine concat_meets ⟨_,ho,rfl⟩ ⟨_,ho2,rfl⟩ noFill_list_add seq_list_add PySem.F.slot_list_add PySem.F.entry_list_add (PySem.F.args_list_add_2 _ _) (list_addW l b its.toArray its2.toArray n n2 dd dd2 sl sl2 (by rw[List.size_toArray,List.size_toArray,<-r.length,<-r2.length];exact hz)) ⟨ho,ho2,?_⟩
 rw[e]
 exact⟨.ref _,_,I.laid (t':=s.toks) (o:=.lst (xs++zs)) (λb ob q=>zzc _ q) (Nat.le_refl _) ⟨by rw[zzf];exact hz,_,0,r.append r2,zze _ rfl⟩,rfl,q _ (I.hok.fresh (Nat.le_refl _))⟩
noncomputable def zir_:R2:=λx y H Q=>∃i j,x=.str i/\y=.str j/\i.length+j.length<=sizeLine/\Q (.str (i++j)) H
def zgo_(K:Fg):R2:=λx y H Q=>rI0 (λi j=>.int (i+j)) x y H Q\/(zir_ x y H Q\/(zgn_ K x y H Q\/zgm_ K x y H Q))
theorem jb_:OpR X (binaryOp .Add) (zgo_ X.K):=op_add.or (OpR.or VP_ (op_cat0.or zey_))
theorem jI_:OpD K (zgo_ K) jC_:=by
 intro G F σ H ρ x y dx dy res Q S ox oy e k
 cases dx<;>first|exact noS e|(cases dy<;>try (exact noS e))
 ·cases e;exact .inl ⟨_,_,ox.int,oy.int,k _ F H (Same.refl _) S (.int _)⟩
 ·dsimp only[jC_]at e
  split at e
  ·rename_i hz
   cases e
   exact .inr (.inl ⟨_,_,ox.str,oy.str,hz,k _ F H (Same.refl _) S (.str _)⟩)
  ·cases e
 ·dsimp only[jC_]at e
  split at e
  ·rename_i hz
   cases e
   obtain⟨a,vs,rfl,h1,h2⟩:=ox.list S.fh
   obtain⟨b,us,rfl,g1,g2⟩:=oy.list S.fh
   refine .inr (.inr (.inr ⟨a,b,vs,us,rfl,rfl,h1,g1,by rw[h2.length,g2.length];exact hz,λp hp=>?_⟩))
   obtain⟨S2,r2⟩:=S.newLst hp (h2.append g2)
   obtain⟨F2,s3,S3,r3⟩:=S2.settle r2
   exact k _ F2 _ s3 S3 r3
  ·cases e
 ·dsimp only[jC_]at e
  split at e
  ·rename_i hz
   cases e
   obtain⟨a,vs,rfl,h1,h2⟩:=ox.tuple S.fh
   obtain⟨b,us,rfl,g1,g2⟩:=oy.tuple S.fh
   refine .inr (.inr (.inl ⟨a,b,vs,us,rfl,rfl,h1,g1,by rw[h2.length,g2.length];exact hz,λz=>?_,λ_ z=>?_,λ_ _ p hp=>?_⟩))
   ·have z':=(y0_ h2).mp z
    subst z'
    exact k _ F H (Same.refl _) S oy.tup'
   ·have z':=(y0_ g2).mp z
    subst z'
    exact k _ F H (Same.refl _) S (by rw[List.append_nil];exact ox.tup')
   ·obtain⟨s2,S2,r2⟩:=S.newTup hp (h2.append g2)
    exact k _ _ _ s2 S2 r2
  ·cases e
theorem Yf_:OpD K (rI CMul λi j=>.int (i*j)) uL_:=okI λdx dy res e=>by
 cases dx<;>first|exact noS e|(cases dy<;>try (exact noS e))
 rename_i i j
 dsimp only[uL_]at e
 split at e
 ·rename_i hc
  cases e
  unfold zbv_ at hc
  simp only[Bool.or_eq_true,Bool.and_eq_true,zzi]at hc
  exact⟨i,j,rfl,rfl,hc,λ_ _=>.int _⟩
 ·cases e
end
noncomputable def eqOk(d e:D):Bool:=d.canLay0&&e.canLay0&&decide (d.depth<=1000)
def opEq(d e:D):Option Bool:=if eqOk d e then some (PyData.eqv d e)else none
def opNe(d e:D):Option Bool:=if eqOk d e then some (!PyData.eqv d e)else none
noncomputable def inOk(d:D)(xs:List D):Bool:=PyData.canLayAll0 xs&&d.canLay0&&decide (d.depth<=1000)
noncomputable def ziR_(i j:Str):Bool:=!(Builtin.Str.occurrences j i 0 j.length 1).isEmpty
def jU_(d c:D):Option Bool:=match c with
 | .list xs=>if inOk d xs then some (!xs.any λy=>PyData.eqv y d)else none
 | .tuple xs=>if inOk d xs then some (!xs.any λy=>PyData.eqv y d)else none
 | .str j=>match d with
  | .str i=>some (!ziR_ i j)
  | _=>none
 | _=>none
noncomputable def isNone:D->Bool
 | .none=>true
 | _=>false
noncomputable def zgS_(d e:D):Option Bool:=match e with
 | .none=>some (isNone d)
 | _=>none
noncomputable def zcV_(d e:D):Option Bool:=match e with
 | .none=>some (!isNone d)
 | _=>none
noncomputable def rD2(K:Fg)(f:D->D->Option Bool):R2:=λx y H Q=>∃d e b,Rep K H x d/\Rep K H y e/\f d e=some b/\Q (.bl b) H
theorem uY_{K:Fg}{f:D->D->Option Bool}:OpB K (rD2 K f) f:=by
 intro G F σ H ρ x y dx dy res Q S ox oy e k
 exact⟨dx,dy,res,ox.rep S.fh,oy.rep S.fh,e,k⟩
theorem Rep.non_iff{K:Fg}{F:Hp}{v:V}{d:D}(r:Rep K F v d):(decide (v=.non))=isNone d:=by
 cases r<;>rfl
section
variable {X:Cx}
theorem U9_(hu:X.A.units+1100<cLine):OpR X (compareOp .Eq) (rD2 X.K opEq):=by
 intro pins s σ H x y v u Q I rx ry ⟨d,e,b,r1,r2,ho,q⟩
 unfold opEq at ho
 split at ho
 case isFalse=>cases ho
 rename_i hc
 cases ho
 simp only[eqOk,Bool.and_eq_true,zzi]at hc
 obtain⟨as,ra⟩:=(zY_ I).1 r1 hc.1.1 rx
 obtain⟨bs,rb⟩:=(zY_ I).1 r2 hc.1.2 ry
 exact SeqAt.compareEq_reads ra rb hc.1.1 hc.1.2 (by have:=Nat.min_le_left d.depth e.depth;lia) ⟨.bl _,H,I,rfl,q⟩
theorem Q0_(hu:X.A.units+1100<cLine):OpR X (compareOp .NotEq) (rD2 X.K opNe):=by
 intro pins s σ H x y v u Q I rx ry ⟨d,e,b,r1,r2,ho,q⟩
 unfold opNe at ho
 split at ho
 case isFalse=>cases ho
 rename_i hc
 cases ho
 simp only[eqOk,Bool.and_eq_true,zzi]at hc
 obtain⟨as,ra⟩:=(zY_ I).1 r1 hc.1.1 rx
 obtain⟨bs,rb⟩:=(zY_ I).1 r2 hc.1.2 ry
 exact SeqAt.compareNe_reads ra rb hc.1.1 hc.1.2 (by have:=Nat.min_le_left d.depth e.depth;lia) ⟨.bl _,H,I,rfl,q⟩
theorem W3_(hu:X.A.units+1100<cLine):OpR X (compareOp .NotIn) (rD2 X.K jU_):=by
 intro pins s σ H x y v u Q I rx ry ⟨d,e,b,r1,r2,ho,q⟩
 unfold jU_ at ho
 split at ho
 ·rename_i xs
  split at ho
  case isFalse=>cases ho
  rename_i hc
  cases ho
  simp only[inOk,Bool.and_eq_true,zzi]at hc
  obtain⟨as,ra⟩:=(zY_ I).1 r1 hc.1.2 rx
  obtain⟨bs,rb⟩:=(zY_ I).1 r2 (by simpa[PyData.canLay0]using hc.1.1) ry
  exact SeqAt.notIn_list_reads rb ra hc.1.1 hc.1.2 (by have:=Nat.min_le_right (PyData.depthAll xs) d.depth;lia) ⟨.bl _,H,I,rfl,q⟩
 ·rename_i xs
  split at ho
  case isFalse=>cases ho
  rename_i hc
  cases ho
  simp only[inOk,Bool.and_eq_true,zzi]at hc
  obtain⟨as,ra⟩:=(zY_ I).1 r1 hc.1.2 rx
  obtain⟨bs,rb⟩:=(zY_ I).1 r2 (by simpa[PyData.canLay0]using hc.1.1) ry
  exact SeqAt.notIn_tuple_reads rb ra hc.1.1 hc.1.2 (by have:=Nat.min_le_right (PyData.depthAll xs) d.depth;lia) ⟨.bl _,H,I,rfl,q⟩
 ·split at ho
  ·cases ho
   obtain rfl:=r1.str_inv;obtain rfl:=r2.str_inv
   exact Ya_ pins s σ H _ _ v u Q I rx ry ⟨_,_,rfl,rfl,q⟩
  ·cases ho
 ·cases ho
theorem zet_:OpR X (compareOp .Is) (rD2 X.K zgS_):=by
 intro pins s σ H x y v u Q I rx ry ⟨d,e,b,r1,r2,ho,q⟩
 unfold zgS_ at ho
 split at ho
 ·cases ho
  cases r2
  refine zgR_ pins s σ H x _ v u Q I rx ry ⟨rfl,?_⟩
  rw[Rep.non_iff r1]
  exact q
 ·cases ho
theorem zbn_:OpR X (compareOp .IsNot) (rD2 X.K zcV_):=by
 intro pins s σ H x y v u Q I rx ry ⟨d,e,b,r1,r2,ho,q⟩
 unfold zcV_ at ho
 split at ho
 ·cases ho
  cases r2
  refine zev_ pins s σ H x _ v u Q I rx ry ⟨rfl,?_⟩
  rw[Rep.non_iff r1]
  exact q
 ·cases ho
end
def opIx:D->D->Option D
 | .list ds,.int i=>atI ds i
 | .tuple ds,.int i=>atI ds i
 | .str z,.int i=>if z.length<=sizeLine then(atI z.cps.toList i).map λc=>.str ⟨#[c]⟩else none
 | _,_=>none
theorem QF_{K:Fg}{F:Hp}{vs:List V}{ds:List D}{i:Int}{d:D}(r:RepL K F vs ds)(h:atI ds i=some d):∃v,atI vs i=some v/\Rep K F v d:=by
 unfold atI at h ⊢
 rw[r.length]
 cases q:ixN ds.length i with
 | none=>rw[q]at h;cases h
 | some j =>
  rw[q]at h
  exact r.get (i:=j) h
theorem ziH_{K:Fg}:OpD K (rIx K) opIx:=by
 intro G F σ H ρ x y dx dy res Q S ox oy e k
 cases dx<;>first|exact noS e|(cases dy<;>try (exact noS e))
 ·dsimp only[opIx]at e
  split at e
  ·rename_i hz
   obtain⟨c,hc,rfl⟩:=Option.map_eq_some_iff.mp e
   exact .inr (.inr ⟨_,_,c,ox.str,oy.int,hz,hc,k _ F H (Same.refl _) S (.str _)⟩)
  ·cases e
 ·obtain⟨a,vs,rfl,h1,h2⟩:=ox.list S.fh
  obtain⟨v,e1,e2⟩:=QF_ h2 e
  exact .inl ⟨a,vs,_,v,rfl,oy.int,h1,e1,k v F H (Same.refl _) S e2⟩
 ·obtain⟨a,vs,rfl,h1,h2⟩:=ox.tuple S.fh
  obtain⟨v,e1,e2⟩:=QF_ h2 e
  exact .inr (.inl ⟨a,vs,_,v,rfl,oy.int,h1,e1,k v F H (Same.refl _) S e2⟩)
theorem Vals.one{v:V}{us:List Value}(h:Vals [v] us):∃u,us=[u]/\RelV v u:=by
 cases h with|cons a b=>cases b;exact⟨_,rfl,a⟩
noncomputable def fLen:List D->Option D
 | [.list ds]=>some (.int ds.length)
 | [.tuple ds]=>some (.int ds.length)
 | [.str z]=>if z.length<=sizeLine then some (.int z.length)else none
 | _=>none
noncomputable def uk_:List D->Option D
 | [.list ds]=>some (.tuple ds)
 | [.tuple ds]=>some (.tuple ds)
 | _=>none
noncomputable def fAbs:List D->Option D
 | [.int i]=>some (.int (if i<0 then -i else i))
 | _=>none
noncomputable def X0_:List D->Option D
 | [.int i,.int j]=>some (.int (if j<i then j else i))
 | _=>none
def rLen(K:Fg):List V->Hp->VK->Prop:=λxs H Q=>(∃p ys,xs=[.ref p]/\(SqL K H p ys\/SqT K H p ys)/\Q (.int ys.length) H)\/∃z,xs=[.str z]/\z.length<=sizeLine/\Q (.int z.length) H
theorem zL_{X:Cx}:CallR X (.builtin "len") (rLen X.K):=CallR.or YN_ YM_
theorem jz_{K:Fg}:UJ_ K (rLen K) fLen:=by
 intro G F σ H ρ xs ds res Q S o e k
 unfold fLen at e
 split at e
 ·rename_i es
  cases e
  obtain⟨v,r,rfl,ho,hr⟩:=zG_ o
  obtain rfl:=zT_ hr
  obtain⟨a,vs,rfl,h1,h2⟩:=ho.list S.fh
  exact .inl ⟨a,vs,rfl,.inl h1,k _ F H (Same.refl _) S (by rw[h2.length];exact .int _)⟩
 ·rename_i es
  cases e
  obtain⟨v,r,rfl,ho,hr⟩:=zG_ o
  obtain rfl:=zT_ hr
  obtain⟨a,vs,rfl,h1,h2⟩:=ho.tuple S.fh
  exact .inl ⟨a,vs,rfl,.inr h1,k _ F H (Same.refl _) S (by rw[h2.length];exact .int _)⟩
 ·split at e
  ·rename_i hz
   cases e
   obtain⟨v,r,rfl,ho,hr⟩:=zG_ o
   obtain rfl:=zT_ hr
   exact .inr ⟨_,by rw[ho.str],hz,k _ F H (Same.refl _) S (.int _)⟩
  ·cases e
 ·cases e
theorem jV_{K:Fg}:UJ_ K (λxs H Q=>∃p ys,xs=[.ref p]/\((SqL K H p ys/\∀l,H l=none->Q (.ref l) (upd H l (.tup ys)))\/(SqT K H p ys/\Q (.ref p) H))) uk_:=by
 intro G F σ H ρ xs ds res Q S o e k
 unfold uk_ at e
 split at e
 ·rename_i es
  cases e
  obtain⟨v,r,rfl,ho,hr⟩:=zG_ o
  obtain rfl:=zT_ hr
  obtain⟨a,vs,rfl,h1,h2⟩:=ho.list S.fh
  refine⟨a,vs,rfl,.inl ⟨h1,λl hl=>?_⟩⟩
  obtain⟨s2,S2,r2⟩:=S.newTup hl h2
  exact k _ _ _ s2 S2 r2
 ·rename_i es
  cases e
  obtain⟨v,r,rfl,ho,hr⟩:=zG_ o
  obtain rfl:=zT_ hr
  have ho:=ho.tup'
  cases ho with
  | tup h1 h2=>exact⟨_,_,rfl,.inr ⟨SqT.of (S.fh _ _ h1),k _ F H (Same.refl _) S (show Rep K F _ _ from .tup h1 h2)⟩⟩
 ·cases e
theorem zda_{K:Fg}:UJ_ K (λxs H Q=>∃i,xs=[.int i]/\Q (.int (if i<0 then -i else i)) H) fAbs:=by
 intro G F σ H ρ xs ds res Q S o e k
 unfold fAbs at e
 split at e
 ·cases e
  obtain⟨v,r,rfl,ho,hr⟩:=zG_ o
  obtain rfl:=zT_ hr
  exact⟨_,by rw[ho.int],k _ F H (Same.refl _) S (show Rep K F _ _ from .int _)⟩
 ·cases e
theorem zeB_{K:Fg}:UJ_ K (λxs H Q=>∃i j,xs=[.int i,.int j]/\Q (.int (if j<i then j else i)) H) X0_:=by
 intro G F σ H ρ xs ds res Q S o e k
 unfold X0_ at e
 split at e
 ·cases e
  obtain⟨v,r,rfl,ho,hr⟩:=zG_ o
  obtain⟨v2,r2,rfl,ho2,hr2⟩:=zG_ hr
  obtain rfl:=zT_ hr2
  exact⟨_,_,by rw[ho.int,ho2.int],k _ F H (Same.refl _) S (show Rep K F _ _ from .int _)⟩
 ·cases e
noncomputable def tyD:D->String
 | .none => "NoneType"
 | .bool _ => "bool"
 | .int _ => "int"
 | .str _ => "str"
 | .list _ => "list"
 | .tuple _ => "tuple"
 | .dict es=>if isXe es then "" else "dict"
noncomputable def isS(T S:String):Bool:=S==T||(S == "bool" && T == "int")
def isT(T:String)(d:D):Bool:=isS T (tyD d)
noncomputable def intsOf:List D->Option (List Int)
 | []=>some []
 | .int i::r=>match intsOf r with
  | some l=>some (i::l)
  | none=>none
 | _=>none
theorem jM_:∀{ds:List D} {ns:List Int},intsOf ds=some ns->ds=ns.map PyData.int
 | [],ns,h=>by cases h;rfl
 | .int i::r,ns,h=>by
  dsimp only[intsOf]at h
  split at h
  ·rename_i l e;cases h;rw[jM_ e];rfl
  ·cases h
 | .none::_,_,h=>by cases h
 | .bool _::_,_,h=>by cases h
 | .str _::_,_,h=>by cases h
 | .list _::_,_,h=>by cases h
 | .tuple _::_,_,h=>by cases h
 | .dict _::_,_,h=>by cases h
theorem JM_(ns:List Int):intsOf (ns.map PyData.int)=some ns:=by
 induction ns with
 | nil=>rfl
 | cons n r ih=>simp[intsOf,ih]
theorem ud_{K:Fg}{F:Hp}:∀{vs:List V} {ns:List Int},RepL K F vs (ns.map PyData.int)->vs=ns.map V.int
 | _,[],h=>by cases h;rfl
 | _,n::r,h=>by
  cases h with
  | cons a b=>cases a;rw[ud_ b];rfl
noncomputable def kitT(S T:String):Option Bool:=if(Value.type S==Value.type T)=true then some true else if PySem.W.kitMeta T=true then(fastBuiltinMro S).map (·.contains (.type T))else none
theorem zeQ_(K:Fg)(S T:String):PySem.W.kitOne K (.type S) (.type T)=kitT S T:=rfl
theorem zeP_:∀S∈["NoneType", "bool", "int", "str", "list", "tuple", "dict"],∀T∈["bool", "int", "str", "list", "tuple", "dict"],kitT S T=some (isS T S):=by decide +kernel
theorem zhi_(K:Fg){T:String}(h:tyOk T=true)(d:D)(hx:∀es,d=.dict es->isXe es=false):PySem.W.kitOne K (.type (tyD d)) (.type T)=some (isT T d):=by
 simp only[tyOk,Bool.or_eq_true,beq_iff_eq]at h
 rw[zeQ_]
 refine zeP_ (tyD d) ?_ T (by rcases h with ((((rfl|rfl)|rfl)|rfl)|rfl)|rfl<;>simp)
 cases d with
 | dict es=>simp[tyD,hx es rfl]
 | _=>simp[tyD]
theorem zdh_{kvs:List (List Key×V)}{es:List (D×D)}(h:es.map (·.1)=kvs.map (λp=>keyT p.1)):isXe es=false:=by
 cases es with
 | nil=>rfl
 | cons e r =>
  cases kvs with
  | nil=>cases h
  | cons k ks =>
   obtain⟨e1,e2⟩:=e
   simp only[List.map_cons,List.cons.injEq]at h
   rw[h.1]
   rfl
theorem zdi_{kvs:List (Key×V)}{es:List (D×D)}(h:es.map (·.1)=kvs.map (λp=>keyD p.1)):isXe es=false:=by
 cases es with
 | nil=>rfl
 | cons e r =>
  cases kvs with
  | nil=>cases h
  | cons k ks =>
   obtain⟨e1,e2⟩:=e
   obtain⟨k1,k2⟩:=k
   simp only[List.map_cons,List.cons.injEq]at h
   rw[h.1]
   cases k1<;>rfl
theorem zdF_{T:String}(h:tyOk T=true):isS T "" = false:=by
 simp only[tyOk,Bool.or_eq_true,beq_iff_eq]at h
 rcases h with ((((rfl|rfl)|rfl)|rfl)|rfl)|rfl<;>rfl
theorem V6_{X:Cx}{T:String}(hT:tyOk T=true){pins:List (Addr×Obj)}{σ:L2.St}{H:Hp}{s:Shared}{v:V}{d:D}{u:Value}{Q:Value->Shared->Prop}{E:Value->Shared->Prop}(I:Inv X pins σ H s)(rp:Rep X.K H v d)(nf:isFn d=false)(ru:RelV v u)
  (h:∀tk,Q (.bool (isT T d)) { s with toks:=tk }):wpAny (model X.prog X.w) X.A (call (.builtin "isinstance") [u,.type T]) Q E s:=by
 have ee:=zhi_ X.K hT d
 cases rp with
 | non =>
  have e:=ee λ_ z=>by cases z
  cases ru;exact PySem.W.kia_one PySem.W.kitx_none I.kIn True.intro e (λz=>nomatch z) h
 | bl y =>
  have e:=ee λ_ z=>by cases z
  cases ru;exact PySem.W.kia_one PySem.W.kitx_bool I.kIn True.intro e (λz=>nomatch z) h
 | int i =>
  have e:=ee λ_ z=>by cases z
  obtain⟨t,rfl⟩:=ru;exact PySem.W.kia_one PySem.W.kitx_int I.kIn True.intro e (λz=>nomatch z) h
 | str y =>
  have e:=ee λ_ z=>by cases z
  obtain⟨t,rfl⟩:=ru;exact PySem.W.kia_one PySem.W.kitx_str I.kIn True.intro e (λz=>nomatch z) h
 | lst h1 h2 =>
  have e:=ee λ_ z=>by cases z
  cases ru
  obtain⟨its,_,⟨o,n,e1,e2,_⟩,_⟩:=I.list h1
  exact PySem.W.kia_one PySem.W.kitx_list I.kIn ⟨o,e1,e2⟩ e (λz=>nomatch z) h
 | tup h1 h2 =>
  have e:=ee λ_ z=>by cases z
  cases ru
  obtain⟨its,_,⟨o,e1,e2,_⟩,_⟩:=I.tuple (SqT.of h1)
  exact PySem.W.kia_one PySem.W.kitx_tuple I.kIn ⟨o,e1,e2⟩ e (λz=>nomatch z) h
 | dct h1 h2 h3 =>
  have e:=ee λ_ z=>by cases z;exact zdh_ h2
  rw[show tyD (.dict _) = "dict" from by simp[tyD,zdh_ h2]]at e
  cases ru
  obtain⟨z,y,xs,kt,o,es,ep,g1,g2,_⟩:=Wb_ I.hok h1
  exact PySem.W.kia_one PySem.W.kitx_dict I.kIn ⟨o,g1,g2.1⟩ e (λz=>nomatch z) h
 | dck h1 h2 h3 =>
  have e:=ee λ_ z=>by cases z;exact zdi_ h2
  rw[show tyD (.dict _) = "dict" from by simp[tyD,zdi_ h2]]at e
  cases ru
  obtain⟨z,y,xs,kt,o,es,ep,g1,g2,_⟩:=zcf_ I.hok h1
  exact PySem.W.kia_one PySem.W.kitx_dict I.kIn ⟨o,g1,g2.1⟩ e (λz=>nomatch z) h
 | exc h1 q fx h2 h3 =>
  cases ru
  obtain⟨D,fI,xc⟩:=q.xc
  have at_:XAt H _ _ _:=⟨h1,λdx z=>by
   rcases fx with ⟨z',_⟩|⟨dx',z',y⟩
   ·rw[z']at z;cases z
   ·rw[z']at z;cases z;exact⟨_,y⟩⟩
  refine V7_ I xc q.kc at_ (q.no T hT) ?_
  rw[show isT T (.dict ((.none,.str _)::_))=false from zdF_ hT]at h
  exact h
 | fn _=>cases nf
section
variable {K:Fg}{G:Gh}{F H:Hp}{σ:L2.St}{ρ ρ':En}
theorem _root_.L3.StOk.weak(S:StOk K G F σ H ρ)(hl:ρ'.length=ρ.length)(h:∀(i:Nat) (av:AV),ρ'[i]? = some (some av)->ρ[i]? = some (some av))(hp:∀(i:Nat) (c:OC),ρ[i]? = some (some (AV.op c))->ρ'[i]? = some (some (AV.op c))):StOk K G F σ H ρ':=by
 have ow':∀j c,own ρ' j c->own ρ j c:=λj c q=>q.imp (h _ _) (h _ _)
 refine⟨S.fh,S.oh,S.fo,S.ln.trans hl.symm,λj d q=>S.fz j d (h _ _ q),λj c q=>S.ow j c (ow' j c q),λj k c e a h1 h2=>S.dj j k c e a (ow' j c h1) (ow' k e h2),λj a q=>?_,λj c q=>S.pq j c (h _ _ q),S.fb⟩
 obtain⟨q1,c,q2⟩:=S.pp j a q
 exact⟨q1,c,hp _ _ q2⟩
theorem uF_{k:Nat}{i:Nat}{av:AV}(h:(ρ++List.replicate k none)[i]? = some (some av)):ρ[i]? = some (some av):=by
 by_cases hi:i<ρ.length
 ·rw[List.getElem?_append_left hi]at h;exact h
 ·rw[List.getElem?_append_right (Nat.not_lt.mp hi),List.getElem?_replicate]at h
  split at h<;>cases h
theorem _root_.L3.StOk.grow(S:StOk K G F σ H ρ)(k:Nat):StOk K G F (σ++List.replicate k none) H (ρ++List.replicate k none):=by
 have ap:∀{i:Nat} {v:V},σ[i]? = some (some v)->(σ++List.replicate k none)[i]? = some (some v):=λ{i v} e=>by
  rw[List.getElem?_append_left (List.getElem?_eq_some_iff.mp e).1];exact e
 have apr:∀{i:Nat} {v:AV},ρ[i]? = some (some v)->(ρ++List.replicate k none)[i]? = some (some v):=λ{i v} e=>by
  rw[List.getElem?_append_left (List.getElem?_eq_some_iff.mp e).1];exact e
 have ow':∀i c,own (ρ++List.replicate k none) i c->own ρ i c:=λi c h=>by
  rcases h with h|h
  ·exact .inl (uF_ h)
  ·exact .inr (uF_ h)
 refine⟨S.fh,S.oh,S.fo,by simp[S.ln],λi d h=>?_,λi c h=>?_,λi j c e a h1 h2 e1 e2=>?_,λi a h=>?_,λi c h=>S.pq i c (uF_ h),S.fb⟩
 ·obtain⟨v,e,r⟩:=S.fz i d (uF_ h);exact⟨v,ap e,r⟩
 ·obtain⟨a,e,oa⟩:=S.ow i c (ow' i c h);exact⟨a,ap e,oa⟩
 ·have o1:=ow' i c h1
  have o2:=ow' j e h2
  obtain⟨a1,q1,_⟩:=S.ow i c o1
  obtain⟨a2,q2,_⟩:=S.ow j e o2
  rw[ap q1]at e1;rw[ap q2]at e2
  injection e1 with e1;injection e2 with e2
  exact S.dj i j c e a o1 o2 (by rw[q1,e1]) (by rw[q2,e2])
 ·obtain⟨e,c,q⟩:=S.pp i a h;exact⟨ap e,c,apr q⟩
theorem _root_.L3.StOk.shrink(S:StOk K G F σ H ρ){n:Nat}(hn:n<=ρ.length)(hp:∀i a,G.P i=some a->i<n):StOk K G F (σ.take n) H (ρ.take n):=by
 have tk:∀{i:Nat} {v:AV},(ρ.take n)[i]? = some (some v)->i<n/\ρ[i]? = some (some v):=λ{i v} e=>by
  have hi:i<n:=by
   have:=(List.getElem?_eq_some_iff.mp e).1
   rw[List.length_take]at this;lia
  rw[List.getElem?_take_of_lt hi]at e
  exact⟨hi,e⟩
 have ow':∀i c,own (ρ.take n) i c->i<n/\own ρ i c:=λi c h=>by
  rcases h with h|h
  ·exact⟨(tk h).1,.inl (tk h).2⟩
  ·exact⟨(tk h).1,.inr (tk h).2⟩
 refine⟨S.fh,S.oh,S.fo,by simp[S.ln],λi d h=>?_,λi c h=>?_,λi j c e a h1 h2 e1 e2=>?_,λi a h=>?_,λi c h=>S.pq i c (tk h).2,S.fb⟩
 ·obtain⟨v,e,r⟩:=S.fz i d (tk h).2;exact⟨v,by rw[List.getElem?_take_of_lt (tk h).1];exact e,r⟩
 ·obtain⟨a,e,oa⟩:=S.ow i c (ow' i c h).2;exact⟨a,by rw[List.getElem?_take_of_lt (ow' i c h).1];exact e,oa⟩
 ·rw[List.getElem?_take_of_lt (ow' i c h1).1]at e1
  rw[List.getElem?_take_of_lt (ow' j e h2).1]at e2
  exact S.dj i j c e a (ow' i c h1).2 (ow' j e h2).2 e1 e2
 ·obtain⟨e,c,q⟩:=S.pp i a h
  exact⟨by rw[List.getElem?_take_of_lt (hp i a h)];exact e,c,by rw[List.getElem?_take_of_lt (hp i a h)];exact q⟩
end
theorem Jw_{α:Type}{l l':List α}{n:Nat}(h:∀j,j<n->l'[j]? = l[j]?)(hl:l.length=n):l'.take n=l:=by
 apply List.ext_getElem?
 intro i
 by_cases hi:i<n
 ·rw[List.getElem?_take_of_lt hi,h i hi]
 ·rw[List.getElem?_eq_none_iff.mpr (by rw[List.length_take];lia),List.getElem?_eq_none_iff.mpr (by lia)]
inductive Kd where
 | dead|f|o|p|t|k
@[reducible] noncomputable def SOf:List Kd->Type
 | []=>Unit
 | .dead::r=>SOf r
 | .f::r=>D×SOf r
 | .o::r=>List D×SOf r
 | .p::r=>List D×SOf r
 | .t::r=>List (D×D)×SOf r
 | .k::r=>List (D×D)×SOf r
noncomputable def rd:(sh:List Kd)->En->Option (SOf sh)
 | [],[]=>some ()
 | .dead::r,x::ρ=>match x with
  | some (.op _)=>none
  | _=>rd r ρ
 | .f::r,x::ρ=>match x with
  | some (.fz d)=>match rd r ρ with
   | some s=>some (d,s)
   | none=>none
  | _=>none
 | .o::r,x::ρ=>match x with
  | some (.ol (.l ds))=>match rd r ρ with
   | some s=>some (ds,s)
   | none=>none
  | _=>none
 | .p::r,x::ρ=>match x with
  | some (.op (.l ds))=>match rd r ρ with
   | some s=>some (ds,s)
   | none=>none
  | _=>none
 | .t::r,x::ρ=>match x with
  | some (.ol (.t ds))=>match rd r ρ with
   | some s=>some (ds,s)
   | none=>none
  | _=>none
 | .k::r,x::ρ=>match x with
  | some (.ol (.k ds))=>match rd r ρ with
   | some s=>some (ds,s)
   | none=>none
  | _=>none
 | _,_=>none
noncomputable def wr:(sh:List Kd)->SOf sh->En
 | [],_=>[]
 | .dead::r,s=>none::wr r s
 | .f::r,s=>some (.fz s.1)::wr r s.2
 | .o::r,s=>some (.ol (.l s.1))::wr r s.2
 | .p::r,s=>some (.op (.l s.1))::wr r s.2
 | .t::r,s=>some (.ol (.t s.1))::wr r s.2
 | .k::r,s=>some (.ol (.k s.1))::wr r s.2
def Wk(w ρ:En):Prop:=w.length=ρ.length/\(∀(i:Nat) (av:AV),w[i]? = some (some av)->ρ[i]? = some (some av))/\(∀(i:Nat) (c:OC),ρ[i]? = some (some (AV.op c))->w[i]? = some (some (AV.op c)))
theorem ZA_{w ρ:En}{x:Option AV}(h:Wk w ρ):Wk (x::w) (x::ρ):=by
 refine⟨congrArg (· + 1) h.1,λi av q=>?_,λi c q=>?_⟩
 ·cases i with
  | zero=>exact q
  | succ i=>exact h.2.1 i av q
 ·cases i with
  | zero=>exact q
  | succ i=>exact h.2.2 i c q
theorem zdD_{w ρ:En}{x:Option AV}(hx:∀c,x≠some (AV.op c))(h:Wk w ρ):Wk (none::w) (x::ρ):=by
 refine⟨congrArg (· + 1) h.1,λi av q=>?_,λi c q=>?_⟩
 ·cases i with
  | zero=>cases q
  | succ i=>exact h.2.1 i av q
 ·cases i with
  | zero=>exact absurd (Option.some.inj q) (hx c)
  | succ i=>exact h.2.2 i c q
theorem U2_:∀(sh:List Kd) (ρ:En) (s:SOf sh),rd sh ρ=some s->Wk (wr sh s) ρ
 | [],[],s,h=>⟨rfl,λi av q=>q,λi c q=>q⟩
 | [],_::_,s,h=>by cases h
 | a::r,[],s,h=>by cases a<;>cases h
 | .dead::r,x::ρ,s,h=>by
  dsimp only[rd]at h
  split at h
  ·cases h
  ·rename_i hx
   exact zdD_ hx (U2_ r ρ s h)
 | .f::r,x::ρ,s,h=>by
  dsimp only[rd]at h
  split at h
  ·split at h
   ·rename_i s' e
    cases h
    exact ZA_ (U2_ r ρ s' e)
   ·cases h
  ·cases h
 | .o::r,x::ρ,s,h=>by
  dsimp only[rd]at h
  split at h
  ·split at h
   ·rename_i s' e
    cases h
    exact ZA_ (U2_ r ρ s' e)
   ·cases h
  ·cases h
 | .p::r,x::ρ,s,h=>by
  dsimp only[rd]at h
  split at h
  ·split at h
   ·rename_i s' e
    cases h
    exact ZA_ (U2_ r ρ s' e)
   ·cases h
  ·cases h
 | .t::r,x::ρ,s,h=>by
  dsimp only[rd]at h
  split at h
  ·split at h
   ·rename_i s' e
    cases h
    exact ZA_ (U2_ r ρ s' e)
   ·cases h
  ·cases h
 | .k::r,x::ρ,s,h=>by
  dsimp only[rd]at h
  split at h
  ·split at h
   ·rename_i s' e
    cases h
    exact ZA_ (U2_ r ρ s' e)
   ·cases h
  ·cases h
theorem _root_.L3.StOk.rd{K:Fg}{G:Gh}{F H:Hp}{σ:L2.St}{ρ:En}{sh:List Kd}{s:SOf sh}(S:StOk K G F σ H ρ)(h:L4.rd sh ρ=some s):StOk K G F σ H (wr sh s):=by
 obtain⟨h1,h2,h3⟩:=U2_ sh ρ s h
 exact S.weak h1 h2 h3
noncomputable def rdk{S:Type}(sh:List Kd)(k:SOf sh->M S)(ρ:En):M S:=match rd sh ρ with
 | some s=>k s
 | none=>.bad
noncomputable abbrev Ev(S α:Type):=(Ex->En->M S)->(α->En->M S)->En->M S
structure KS(S:Type) where
 nx:En->M S
 rt:D->En->M S
 rl:List D->En->M S
 bk:En->M S
 ct:En->M S
 x:Ex->En->M S
def KOk{S:Type}(OK:M S->Prop):Prop:=¬ OK .bad
def XL{S:Type}(X:Cx)(OK:M S->Prop)(x:Ex->En->M S)(G:Gh):Prop:=∀F ρ e,OK (x e ρ)->XW X G F ρ e
def AE{S:Type}(X:Cx)(e:Expr)(m:Ev S D):Prop :=
 ∀(OK:M S->Prop) (x:Ex->En->M S) (k:D->En->M S) (G:Gh) (F:Hp) (σ:L2.St) (H:Hp) (ρ:En) (Q:VK),KOk OK->XL X OK x G->StOk X.K G F σ H ρ->OK (m x k ρ) ->
  (∀d v F' H' ρ',Same F F'->StOk X.K G F' σ H' ρ'->Rep X.K F' v d->OK (k d ρ')->Q v H')->tSem X e σ H Q
def AEt{S:Type}(X:Cx)(e:Expr)(m:Ev S Bool):Prop :=
 ∀(OK:M S->Prop) (x:Ex->En->M S) (k:Bool->En->M S) (G:Gh) (F:Hp) (σ:L2.St) (H:Hp) (ρ:En) (Q:Bool->Hp->Prop),KOk OK->XL X OK x G->StOk X.K G F σ H ρ->OK (m x k ρ) ->
  (∀d F' H' ρ',Same F F'->StOk X.K G F' σ H' ρ'->OK (k d ρ')->Q d H')->VG_ X e σ H Q
def AEw{S:Type}(X:Cx)(e:Expr)(m:Ev S Bool):Prop :=
 ∀(OK:M S->Prop) (x:Ex->En->M S) (k:Bool->En->M S) (G:Gh) (F:Hp) (σ:L2.St) (H:Hp) (ρ:En) (Q:Bool->Hp->Prop),KOk OK->XL X OK x G->StOk X.K G F σ H ρ->OK (m x k ρ) ->
  (∀d F' H' ρ',Same F F'->StOk X.K G F' σ H' ρ'->OK (k d ρ')->Q d H')->VF_ X e σ H Q
def AEb{S:Type}(X:Cx)(e:Expr)(m:Ev S Bool):Prop :=
 ∀(OK:M S->Prop) (x:Ex->En->M S) (k:Bool->En->M S) (G:Gh) (F:Hp) (σ:L2.St) (H:Hp) (ρ:En) (Q:VK),KOk OK->XL X OK x G->StOk X.K G F σ H ρ->OK (m x k ρ) ->
  (∀d F' H' ρ',Same F F'->StOk X.K G F' σ H' ρ'->OK (k d ρ')->Q (.bl d) H')->tSem X e σ H Q
def AEa{S:Type}(X:Cx)(es:List Expr)(m:Ev S (List D)):Prop :=
 ∀(OK:M S->Prop) (x:Ex->En->M S) (k:List D->En->M S) (G:Gh) (F:Hp) (σ:L2.St) (H:Hp) (ρ:En) (Q:List V->Hp->Prop),KOk OK->XL X OK x G->StOk X.K G F σ H ρ->OK (m x k ρ) ->
  (∀ds vs F' H' ρ',Same F F'->StOk X.K G F' σ H' ρ'->vs.length=es.length->RepL X.K F' vs ds->OK (k ds ρ')->Q vs H')->yD_ X es σ H Q
def AEl{S:Type}(X:Cx)(e:Expr)(m:Ev S (List D)):Prop :=
 ∀(OK:M S->Prop) (x:Ex->En->M S) (k:List D->En->M S) (G:Gh) (F:Hp) (σ:L2.St) (H:Hp) (ρ:En) (Q:VK),KOk OK->XL X OK x G->StOk X.K G F σ H ρ->OK (m x k ρ) ->
  (∀ds v F' H' ρ',Same F F'->StOk X.K G F' σ H' ρ'->Frs X.K G F' σ H' ρ' v (.l ds)->OK (k ds ρ')->Q v H')->tSem X e σ H Q
def ePu{S α:Type}(p:Pu α):Ev S α:=λx k ρ=>(p ρ).on (λe=>x e ρ) (λa=>k a ρ)
section
variable {S α:Type}{X:Cx}{OK:M S->Prop}{x:Ex->En->M S}{k:α->En->M S}{G:Gh}{F:Hp}{σ:L2.St}{ρ:En}{p:Pu α}{C:α->Hp->Hp->Prop}
theorem W.of(hO:KOk OK)(hX:XL X OK x G)(h:OK (ePu p x k ρ))(w:∀a F' H',Same F F'->StOk X.K G F' σ H' ρ->OK (k a ρ)->C a F' H'):W X G F σ ρ (p ρ) C:=by
 unfold ePu at h
 cases hp:p ρ with
 | ret a=>rw[hp]at h;exact λF' H' s S'=>w a F' H' s S' h
 | exc e=>rw[hp]at h;exact hX F ρ e h
 | bad=>rw[hp]at h;exact hO h
end
section
variable {S:Type}{X:Cx}{e a b c:Expr}{es rest:List Expr}{p:Pu D}{pt:Pu Bool}{ps:Pu (List D)}{pos:Pos}
theorem zh_(h:AP X e p):AE (S:=S) X e (ePu p):=λOK x k G F σ H ρ Q hO hX St ok kk=>h G F σ H ρ Q St (W.of hO hX ok λd F' H' s S' o v r=>kk d v F' H' ρ s S' r o)
theorem z6_(h:AT X e pt):AEt (S:=S) X e (ePu pt):=λOK x k G F σ H ρ Q hO hX St ok kk=>h G F σ H ρ Q St (W.of hO hX ok λd F' H' s S' o=>kk d F' H' ρ s S' o)
theorem ua_(h:AL X e ps):AEl (S:=S) X e (ePu ps):=λOK x k G F σ H ρ Q hO hX St ok kk=>h G F σ H ρ Q St (W.of hO hX ok λd F' H' s S' o v r=>kk d v F' H' ρ s S' r o)
noncomputable def eB(m:Ev S Bool):Ev S D:=λx k ρ=>m x (λb ρ1=>k (.bool b) ρ1) ρ
noncomputable def eZ(m:Ev S (List D)):Ev S D:=λx k ρ=>m x (λds ρ1=>k (.list ds) ρ1) ρ
def eBin(f:D->D->Option D)(a b:Ev S D):Ev S D:=λx k ρ=>a x (λd ρ1=>b x (λd2 ρ2=>(oM (f d d2)).on (λe=>x e ρ2) (λr=>k r ρ2)) ρ1) ρ
def zhF_(f:D->D->Option Bool)(a b:Ev S D):Ev S Bool:=λx k ρ=>a x (λd ρ1=>b x (λd2 ρ2=>(oM (f d d2)).on (λe=>x e ρ2) (λr=>k r ρ2)) ρ1) ρ
noncomputable def eNil:Ev S (List D):=λ_ k ρ=>k [] ρ
noncomputable def zjc_(m:Ev S D)(ms:Ev S (List D)):Ev S (List D):=λx k ρ=>m x (λd ρ1=>ms x (λds ρ2=>k (d::ds) ρ2) ρ1) ρ
noncomputable def eTup(ms:Ev S (List D)):Ev S D:=λx k ρ=>ms x (λds ρ1=>k (.tuple ds) ρ1) ρ
noncomputable def eLst(ms:Ev S (List D)):Ev S (List D):=λx k ρ=>ms x (λds ρ1=>k ds ρ1) ρ
def zjd_(f:List D->Option D)(ms:Ev S (List D)):Ev S D:=λx k ρ=>ms x (λds ρ1=>(oM (f ds)).on (λe=>x e ρ1) (λr=>k r ρ1)) ρ
noncomputable def eAnd(a b:Ev S Bool):Ev S Bool:=λx k ρ=>a x (λt ρ1=>if t then b x k ρ1 else k false ρ1) ρ
theorem jH_{α:Type}{OK:M S->Prop}(hO:KOk OK){o:Option α}{x:Ex->M S}{k:α->M S}(h:OK ((oM o).on x k)):∃a,o=some a/\OK (k a):=by
 cases o with
 | none=>exact(hO h).elim
 | some a=>exact⟨a,rfl,h⟩
theorem zhC_{α:Type}{OK:M S->Prop}(hO:KOk OK){ds:List α}{x:Ex->M S}{k:List α->M S}(h:OK ((fitM ds).on x k)):ds.length<=sizeLine/\OK (k ds):=by
 unfold fitM at h
 split at h
 ·exact⟨by assumption,h⟩
 ·exact(hO h).elim
variable {ma mb m:Ev S D}{ta tb tc:Ev S Bool}{ms:Ev S (List D)}
theorem ae_b(h:AEb X e ta):AE X e (eB ta):=λOK x k G F σ H ρ Q hO hX St ok kk=>h OK x _ G F σ H ρ Q hO hX St ok λb F' H' ρ' s S' o=>kk _ _ F' H' ρ' s S' (.bl b) o
theorem ae_z(h:AEl X e ms):AE X e (eZ ms):=λOK x k G F σ H ρ Q hO hX St ok kk=>h OK x _ G F σ H ρ Q hO hX St ok λds v F' H' ρ' s S' fr o=>by
 obtain⟨F2,s2,S2,r2⟩:=S'.settle (v:=v) (ds:=ds) fr
 exact kk _ v F2 H' ρ' (s.trans s2) S2 r2 o
theorem Us_{r:R2}{Q:VK}{OK:M S->Prop}{x:Ex->En->M S}{G:Gh}{F H:Hp}{σ:L2.St}{ρ:En}{f:D->D->En->M S}(ha:AE X a ma)(hb:AE X b mb)(hO:KOk OK)(hX:XL X OK x G)(St:StOk X.K G F σ H ρ)
  (ok:OK (ma x (λd ρ1=>mb x (λd2 ρ2=>f d d2 ρ2) ρ1) ρ)) (k:∀u v dx dy F' H' ρ',Same F F'->StOk X.K G F' σ H' ρ'->Rep X.K F' u dx->Rep X.K F' v dy->OK (f dx dy ρ')->r u v H' Q):tOp r (tSem X a) (tSem X b) σ H Q :=
 ha OK x _ G F σ H ρ _ hO hX St ok λd v F1 H1 ρ1 s1 S1 r1 o1=>hb OK x _ G F1 σ H1 ρ1 _ hO hX S1 o1 λd2 u F2 H2 ρ2 s2 S2 r2 o2=>k v u d d2 F2 H2 ρ2 (s1.trans s2) S2 (r1.mono s2) r2 o2
theorem Vu_{op:Operator}{r:R2}{f:D->D->Option D}(ho:OpR X (binaryOp op) r)(hf:OpD X.K r f)(ha:AE X a ma)(hb:AE X b mb):AE X (.BinOp a op b pos) (eBin f ma mb) :=
 λOK x k G F σ H ρ Q hO hX St ok kk=>sem (zeo_ ho zm_ zm_) (Us_ ha hb hO hX St ok λu v dx dy F' H' ρ' s S' r1 r2 o=>by
  obtain⟨res,e,o'⟩:=jH_ hO o
  exact hf G F' σ H' ρ' u v dx dy res Q S' (.inl r1) (.inl r2) e λw F2 H2 s2 S2 r3=>kk res w F2 H2 ρ' (s.trans s2) S2 r3 o')
theorem zji_{r:R2}{f:D->D->Option D}(hr:IxR X r)(hf:OpD X.K r f)(ha:AE X a ma)(hb:AE X b mb)(hs:QH_ b):AE X (.Subscript a b pos) (eBin f ma mb) :=
 λOK x k G F σ H ρ Q hO hX St ok kk=>sem (zgC_ hr zm_ zm_ hs) (Us_ ha hb hO hX St ok λu v dx dy F' H' ρ' s S' r1 r2 o=>by
  obtain⟨res,e,o'⟩:=jH_ hO o
  exact hf G F' σ H' ρ' u v dx dy res Q S' (.inl r1) (.inl r2) e λw F2 H2 s2 S2 r3=>kk res w F2 H2 ρ' (s.trans s2) S2 r3 o')
theorem zfu_{op:CmpOp}{r:R2}{f:D->D->Option Bool}(ho:OpR X (compareOp op) r)(hf:OpB X.K r f)(ha:AE X a ma)(hb:AE X b mb)(hm:behindInMarks op b=false):AEb X (.Compare a [op] [b] pos) (zhF_ f ma mb) :=
 λOK x k G F σ H ρ Q hO hX St ok kk=>sem (W2_ ho zm_ zm_ hm) (Us_ ha hb hO hX St ok λu v dx dy F' H' ρ' s S' r1 r2 o=>by
  obtain⟨res,e,o'⟩:=jH_ hO o
  exact hf G F' σ H' ρ' u v dx dy res Q S' (.inl r1) (.inl r2) e (kk res F' H' ρ' s S' o'))
theorem zfs_{op:CmpOp}{r:R2}{f:D->D->Option Bool}(ho:OpR X (compareOp op) r)(hf:OpB X.K r f)(ha:AE X a ma)(hb:AE X b mb)(hm:behindInMarks op b=false):AEt X (.Compare a [op] [b] pos) (zhF_ f ma mb) :=
 λOK x k G F σ H ρ Q hO hX St ok kk=>semT (WW_ ho zm_ zm_ hm) (Us_ (Q:=λx H'=>∃k,x=.bl k/\Q k H') ha hb hO hX St ok λu v dx dy F' H' ρ' s S' r1 r2 o=>by
  obtain⟨res,e,o'⟩:=jH_ hO o
  exact hf G F' σ H' ρ' u v dx dy res _ S' (.inl r1) (.inl r2) e ⟨res,rfl,kk res F' H' ρ' s S' o'⟩)
theorem zt_:AEa (S:=S) X [] eNil:=λOK x k G F σ H ρ Q hO hX St ok kk=>semA QY_ (kk [] [] F H ρ (Same.refl _) St rfl .nil ok)
theorem zi_(h:AE X e m)(hr:AEa X es ms)(hs:starEach (e::es) X.env=(false,eval e X.env)::starEach es X.env):AEa X (e::es) (zjc_ m ms) :=
 λOK x k G F σ H ρ Q hO hX St ok kk=>semA (yK_ zm_ zS_ hs) (h OK x _ G F σ H ρ _ hO hX St ok λd v F1 H1 ρ1 s1 S1 r1 o1 =>
  hr OK x _ G F1 σ H1 ρ1 _ hO hX S1 o1 λds vs F2 H2 ρ2 s2 S2 hl r2 o2=>kk (d::ds) (v::vs) F2 H2 ρ2 (s1.trans s2) S2 (by simp[hl]) (.cons (r1.mono s2) r2) o2)
theorem zhQ_{x1}(h:AEa X es ms)(hz:es.length<=1000):AE X (.Tuple es x1 pos) (eTup ms) :=
 λOK x k G F σ H ρ Q hO hX St ok kk=>sem (zcQ_ zS_) (h OK x _ G F σ H ρ _ hO hX St ok λds vs F1 H1 ρ1 s1 S1 hl r1 o1=>by
  refine⟨by rw[hl];exact JI_ hz,λq hq=>?_⟩
  obtain⟨s2,S2,r2⟩:=S1.newTup hq r1
  exact kk _ _ _ _ ρ1 (s1.trans s2) S2 r2 o1)
theorem zft_(h:AEa X es ms)(hz:es.length<=1000):AEl X (.List es pos) (eLst ms) :=
 λOK x k G F σ H ρ Q hO hX St ok kk=>sem (zcR_ zS_) (h OK x _ G F σ H ρ _ hO hX St ok λds vs F1 H1 ρ1 s1 S1 hl r1 o1=>by
  refine⟨by rw[hl];exact JI_ hz,λq hq=>?_⟩
  obtain⟨S2,r2⟩:=S1.newLst hq r1
  exact kk _ _ _ _ ρ1 s1 S2 r2 o1)
theorem zcv_(ha:AEt X a ta):AEw X (.BoolOp .And [a] pos) ta:=λOK x k G F σ H ρ Q hO hX St ok kk=>semW (WS_ uf_) (ha OK x k G F σ H ρ Q hO hX St ok kk)
theorem zfr_(ha:AEt X a ta)(hb:AEw X (.BoolOp .And (b::rest) pos) tb):AEw X (.BoolOp .And (a::b::rest) pos) (eAnd ta tb) :=
 λOK x k G F σ H ρ Q hO hX St ok kk=>semW (zcL_ uf_ U5_) (ha OK x _ G F σ H ρ _ hO hX St ok λt F1 H1 ρ1 s1 S1 o1=>by
  cases t with
  | true=>refine iteT ?_;exact hb OK x k G F1 σ H1 ρ1 Q hO hX S1 o1 λd F2 H2 ρ2 s2 S2 o2=>kk d F2 H2 ρ2 (s1.trans s2) S2 o2
  | false=>refine iteF ?_;exact kk false F1 H1 ρ1 s1 S1 o1)
theorem zhP_(h:AEw X e ta):AEt X e ta:=λOK x k G F σ H ρ Q hO hX St ok kk=>semT (λpins s σ H Q I h=>U5_ _ pins s σ H Q I h) (h OK x k G F σ H ρ Q hO hX St ok kk)
theorem RepL.ors{K:Fg}{F H:Hp}{vs:List V}{ds:List D}(h:RepL K F vs ds):ORs K F H vs ds:=by
 induction vs generalizing ds with
 | nil=>cases h;exact .nil
 | cons v vs ih=>cases h with
  | cons a b=>exact .cons (.inl a) (ih b)
theorem YX_{x:Str}{p:Pos}{T:String}{r:List V->Hp->VK->Prop}{f:List D->Option D}(hc:CallR X (.type T) r)(hf:UJ_ X.K r f)(hg:Gl X x)(hm:X.mg x=none)(hv:bootBuiltins x=some (.type T))(ha:AEa X (e::es) ms)
  (hn:x ≠ "__name__") (hdb:(x==("__debug__" : Str))=false) (he:starEach (e::es) X.env=(false,eval e X.env)::starEach es X.env) (hpl:(backTo pos (starEach es X.env)).any (·.1)=false):AE X (.Call (.Name x p) (e::es) [] pos) (zjd_ f ms) :=
 λOK y k G F σ H ρ Q hO hX St ok kk=>sem (ZL_ hc hg hm hv zS_ hn hdb he hpl) (ha OK y _ G F σ H ρ _ hO hX St ok λds vs F1 H1 ρ1 s1 S1 _ r1 o1=>by
  obtain⟨res,e,o'⟩:=jH_ hO o1
  exact hf G F1 σ H1 ρ1 vs ds res Q S1 (RepL.ors r1) e λw F2 H2 s2 S2 r3=>kk res w F2 H2 ρ1 (s1.trans s2) S2 r3 o')
end
structure Walk(K:Fg)(J:It)(ds:List D)(F:Hp):Prop where
 go:∀(i:Nat) (G:Gh) (F2:Hp) (σ:L2.St) (H2:Hp) (ρ:En),Same F F2->StOk K G F2 σ H2 ρ->i<ds.length->J.go i H2
 yld:∀(i:Nat) (G:Gh) (F2:Hp) (σ:L2.St) (H2:Hp) (ρ:En) (x:V) (H3:Hp) (d:D),Same F F2->StOk K G F2 σ H2 ρ->ds[i]? = some d->J.yld i H2 x H3->∃F3,Same F2 F3/\StOk K G F3 σ H3 ρ/\Rep K F3 x d
 stop:∀(G:Gh) (F2:Hp) (σ:L2.St) (H2:Hp) (ρ:En),Same F F2->StOk K G F2 σ H2 ρ->J.stop ds.length H2
theorem Wv_{K:Fg}{F:Hp}{a:Addr}{vs:List V}{ds:List D}(h:SqL K F a vs)(r:RepL K F vs ds):Walk K (Itl K a) ds F where
 go:=λi G F2 σ H2 ρ s S hi=>by
  have hi':i<vs.length:=by rw[r.length];exact hi
  exact⟨vs,vs[i],S.fh.seq (s.seq h),by simp[hi']⟩
 yld:=λi G F2 σ H2 ρ x H3 d s S hd ⟨e,q⟩=>by
  subst e
  obtain⟨v,e1,e2⟩:=r.get hd
  have:=q vs (S.fh.seq (s.seq h))
  rw[e1]at this
  cases this
  exact⟨F2,Same.refl _,S,e2.mono s⟩
 stop:=λG F2 σ H2 ρ s S=>⟨vs,S.fh.seq (s.seq h),by rw[r.length];exact Nat.le_refl _⟩
theorem zaH_{K:Fg}{F:Hp}{a:Addr}{vs:List V}{ds:List D}(h:SqT K F a vs)(r:RepL K F vs ds):Walk K (Itt K a) ds F where
 go:=λi G F2 σ H2 ρ s S hi=>by
  have hi':i<vs.length:=by rw[r.length];exact hi
  exact⟨vs,vs[i],zv_ S.fh (zv_ s h),by simp[hi']⟩
 yld:=λi G F2 σ H2 ρ x H3 d s S hd ⟨e,q⟩=>by
  subst e
  obtain⟨v,e1,e2⟩:=r.get hd
  have:=q vs (zv_ S.fh (zv_ s h))
  rw[e1]at this
  cases this
  exact⟨F2,Same.refl _,S,e2.mono s⟩
 stop:=λG F2 σ H2 ρ s S=>⟨vs,zv_ S.fh (zv_ s h),by rw[r.length];exact Nat.le_refl _⟩
noncomputable def yh_(lo:Int)(n:Nat):List D:=(List.range n).map λ(i:Nat)=>PyData.int (lo+(i:Int))
theorem jS_(lo:Int)(n:Nat):(yh_ lo n).length=n:=by simp[yh_]
theorem Jv_{K:Fg}{F:Hp}(lo:Int)(n:Nat):Walk K (Itr lo n) (yh_ lo n) F where
 go:=λi G F2 σ H2 ρ s S hi=>by rw[jS_]at hi;exact hi
 yld:=λi G F2 σ H2 ρ x H3 d s S hd ⟨e,q⟩=>by
  subst e q
  have e':(yh_ lo n)[i]? = some d:=hd
  unfold yh_ at e'
  rw[List.getElem?_map]at e'
  have hi:i<n:=by
   have:=(List.getElem?_eq_some_iff.mp hd).1
   rw[jS_]at this;exact this
  rw[List.getElem?_range hi]at e'
  cases e'
  exact⟨F2,Same.refl _,S,.int _⟩
 stop:=λG F2 σ H2 ρ s S=>by rw[jS_];exact Nat.le_refl _
@[irreducible] noncomputable def ZE_(X:Cx)(tg iter:Expr):TI:=λσ H R=>∀(pins:List (Addr×Obj)) (s:Shared),Inv X pins σ H s->wpAny (model X.prog X.w) X.A (eval iter X.env) (λv s1=>wpAny (model X.prog X.w) X.A (pyIter v) (PIE X pins σ tg R) X.xe s1) X.xe s
theorem QW_{X:Cx}{tg e:Expr}:PI X tg e (ZE_ X tg e):=λpins s σ H R I h=>by unfold ZE_ at h;exact h pins s I
theorem semI{X:Cx}{tg e:Expr}{σ:L2.St}{H:Hp}{R:It->Hp->Prop}{t:TI}(h:PI X tg e t)(q:t σ H R):ZE_ X tg e σ H R:=by unfold ZE_;exact λpins s I=>h pins s σ H R I q
def AI(X:Cx)(tg e:Expr)(p:Pu (List D)):Prop :=
 ∀(G:Gh) (F:Hp) (σ:L2.St) (H:Hp) (ρ:En) (R:It->Hp->Prop),StOk X.K G F σ H ρ->W X G F σ ρ (p ρ) (λds F' H'=>∀J,Walk X.K J ds F'->R J H')->ZE_ X tg e σ H R
def AEi{S:Type}(X:Cx)(tg e:Expr)(m:Ev S (List D)):Prop :=
 ∀(OK:M S->Prop) (x:Ex->En->M S) (k:List D->En->M S) (G:Gh) (F:Hp) (σ:L2.St) (H:Hp) (ρ:En) (R:It->Hp->Prop),KOk OK->XL X OK x G->StOk X.K G F σ H ρ->OK (m x k ρ) ->
  (∀ds J F' H' ρ',Same F F'->StOk X.K G F' σ H' ρ'->Walk X.K J ds F'->OK (k ds ρ')->R J H')->ZE_ X tg e σ H R
theorem jx_{S:Type}{X:Cx}{tg e:Expr}{ps:Pu (List D)}(h:AI X tg e ps):AEi (S:=S) X tg e (ePu ps):=λOK x k G F σ H ρ Q hO hX St ok kk=>h G F σ H ρ Q St (W.of hO hX ok λd F' H' s S' o v r=>kk d v F' H' ρ s S' r o)
def iSeq(K:Fg)(tl:TE):TI:=λσ H R=>tl σ H λx H1=>(∃a,x=.ref a/\(∃xs,SqL K H1 a xs)/\R (Itl K a) H1)\/∃a,x=.ref a/\(∃xs,SqT K H1 a xs)/\R (Itt K a) H1
theorem zgv_{X:Cx}{tg l:Expr}{tl:TE}(hl:PE X l tl):PI X tg l (iSeq X.K tl):=by
 intro pins s σ H R I h
 refine thn (hl pins s σ H _ I h) λv s1 ⟨x,H1,I1,r1,q1⟩=>?_
 rcases q1 with ⟨a,e,⟨xs,hq⟩,q⟩|⟨a,e,⟨xs,hq⟩,q⟩
 ·subst e
  cases r1
  obtain⟨its,rv,p,hz⟩:=I1.list hq
  refine wpAny_pyIter_list p.isList ?_
  refine⟨s1.heap.objs.size,[s1.heap.objs.size],_,_,H1,rfl,I1.kept (t':=s1.toks) λb o e=>zzc _ e,Wx_ a _,⟨_,zze _ rfl,rfl,rfl⟩,λb hb=>?_,q⟩
  have e:b=s1.heap.objs.size:=by simpa using hb
  subst e
  exact I1.fpOk (Nat.le_refl _) (I1.hok.fresh (Nat.le_refl _))
 ·subst e
  cases r1
  obtain⟨its,rv,p,hz⟩:=I1.tuple hq
  refine wpAny_pyIter_tuple (show s1.heap.IsTuple a its.toArray from p) ?_
  refine⟨s1.heap.objs.size,[s1.heap.objs.size],_,_,H1,rfl,I1.kept (t':=s1.toks) λb o e=>zzc _ e,VC_ a _,⟨_,zze _ rfl,rfl,rfl⟩,λb hb=>?_,q⟩
  have e:b=s1.heap.objs.size:=by simpa using hb
  subst e
  exact I1.fpOk (Nat.le_refl _) (I1.hok.fresh (Nat.le_refl _))
noncomputable def seqD:D->Option (List D)
 | .list ds=>some ds
 | .tuple ds=>some ds
 | _=>none
def pIt(p:Pu D):Pu (List D):=λρ=>bd (p ρ) λd=>oM (seqD d)
noncomputable def uT_(i:Int):Bool:=decide (-(2^62)<=i)&&decide (i<2^62)
theorem jn_{i:Int}(h:uT_ i=true) : -(2^62)<=i/\i<2^62:=by
 unfold uT_ at h
 simp only[Bool.and_eq_true,zzi]at h
 exact h
def z0_:List D->Option (List D)
 | [.int j]=>if uT_ j then some (yh_ 0 j.toNat)else none
 | _=>none
def yQ_:List D->Option (List D)
 | [.int i,.int j]=>if uT_ i&&uT_ j then some (yh_ i (j - i).toNat)else none
 | _=>none
def zhE_{S:Type}(f:List D->Option (List D))(ms:Ev S (List D)):Ev S (List D):=λx k ρ=>ms x (λds ρ1=>(oM (f ds)).on (λe=>x e ρ1) (λr=>k r ρ1)) ρ
section
variable {S:Type}{X:Cx}{tg e a b:Expr}{pp:Pu D}{ps:Pa (List D)}{m:Ev S D}{ms:Ev S (List D)}{p pos:Pos}
theorem zaO_{F H:Hp}{v:V}{d:D}{ds:List D}{R:It->Hp->Prop}(s:Same F H)(r:Rep X.K F v d)(hd:seqD d=some ds)(k:∀J,Walk X.K J ds F->R J H) :
  (∃a,v=.ref a/\(∃xs,SqL X.K H a xs)/\R (Itl X.K a) H)\/∃a,v=.ref a/\(∃xs,SqT X.K H a xs)/\R (Itt X.K a) H:=by
 cases d with
 | list xs =>
  cases hd
  obtain⟨a,vs,rfl,h1,h2⟩:=r.lst_inv
  exact .inl ⟨_,rfl,⟨_,s.seq h1⟩,k _ (Wv_ h1 h2)⟩
 | tuple xs =>
  cases hd
  obtain⟨a,vs,rfl,h1,h2⟩:=r.tup_inv
  exact .inr ⟨_,rfl,⟨_,SqT.of (s _ _ h1)⟩,k _ (zaH_ (SqT.of h1) h2)⟩
 | _=>exact noS hd
theorem yB_(h:AP X e pp):AI X tg e (pIt pp):=λG F σ H ρ R S w=>semI (zgv_ zm_) (h G F σ H ρ _ S (w.bind.imp λd F1 H1 s1 S1 w1 v r1=>by
 obtain⟨ds,hd,k⟩:=w1.opt
 exact zaO_ S1.fh r1 hd (k F1 H1 (Same.refl _) S1)))
theorem U3_{F H:Hp}{vs:List V}{ds out:List D}{R:It->Hp->Prop}(r:RepL X.K F vs ds)(h:z0_ ds=some out)(k:∀J,Walk X.K J out F->R J H):∃j,vs=[.int j] /\ -(2^62)<=j/\j<2^62/\R (Itr 0 j.toNat) H:=by
 unfold z0_ at h
 split at h
 ·rename_i j
  split at h
  ·rename_i hs
   cases h
   obtain⟨v,rfl,r1⟩:=r.one_inv
   obtain rfl:=r1.int_inv
   exact⟨j,rfl,(jn_ hs).1,(jn_ hs).2,k _ (Jv_ 0 j.toNat)⟩
  ·cases h
 ·cases h
theorem WP_{F H:Hp}{vs:List V}{ds out:List D}{R:It->Hp->Prop}(r:RepL X.K F vs ds)(h:yQ_ ds=some out)(k:∀J,Walk X.K J out F->R J H) :
  ∃i j,vs=[.int i,.int j]/\(-(2^62)<=i/\i<2^62 /\ -(2^62)<=j/\j<2^62)/\R (Itr i (j - i).toNat) H:=by
 unfold yQ_ at h
 split at h
 ·rename_i i j
  split at h
  ·rename_i hs
   cases h
   rw[Bool.and_eq_true]at hs
   obtain⟨v,u,rfl,r1,r3⟩:=r.two_inv
   obtain rfl:=r1.int_inv
   obtain rfl:=r3.int_inv
   exact⟨i,j,rfl,⟨(jn_ hs.1).1,(jn_ hs.1).2,(jn_ hs.2).1,(jn_ hs.2).2⟩,k _ (Jv_ i (j - i).toNat)⟩
  ·cases h
 ·cases h
theorem jQ_(hg:Gl X "range")(hm:X.mg "range" = none)(ha:AA X [a] ps)(hs:starEach [a] X.env=[(false,eval a X.env)]):AI X tg (.Call (.Name "range" p) [a] [] pos) (y1_ z0_ ps) :=
 λG F σ H ρ R S w=>semI (U8_ hg hm zS_ hs) (ha G F σ H ρ _ _ _ S w λds vs F1 H1 s1 S1 _ r1 w1=>by
  obtain⟨out,hd,k⟩:=w1.opt
  exact U3_ r1 hd (k F1 H1 (Same.refl _) S1))
theorem zau_(hg:Gl X "range")(hm:X.mg "range" = none)(ha:AA X [a,b] ps)(hs:starEach [a,b] X.env=[(false,eval a X.env),(false,eval b X.env)])(hs2:starEach [b] X.env=[(false,eval b X.env)]):AI X tg (.Call (.Name "range" p) [a,b] [] pos) (y1_ yQ_ ps) :=
 λG F σ H ρ R S w=>semI (WY_ hg hm zS_ hs hs2) (ha G F σ H ρ _ _ _ S w λds vs F1 H1 s1 S1 _ r1 w1=>by
  obtain⟨out,hd,k⟩:=w1.opt
  exact WP_ r1 hd (k F1 H1 (Same.refl _) S1))
theorem JW_(hg:Gl X "range")(hm:X.mg "range" = none)(ha:AEa X [a] ms)(hs:starEach [a] X.env=[(false,eval a X.env)]):AEi X tg (.Call (.Name "range" p) [a] [] pos) (zhE_ z0_ ms) :=
 λOK x k G F σ H ρ R hO hX St ok kk=>semI (U8_ hg hm zS_ hs) (ha OK x _ G F σ H ρ _ hO hX St ok λds vs F1 H1 ρ1 s1 S1 _ r1 o1=>by
  obtain⟨out,hd,o⟩:=jH_ hO o1
  exact U3_ r1 hd λJ wk=>kk out J F1 H1 ρ1 s1 S1 wk o)
end
noncomputable abbrev Tg(S:Type):=D->(En->M S)->En->M S
noncomputable def yL_(ρ:En)(i:Nat):Bool:=decide (i<ρ.length)&&(match ρ[i]? with
 | some (some (.op _))=>false
 | _=>true)
theorem jk_{ρ:En}{i:Nat}(h:yL_ ρ i=true):i<ρ.length/\∀c,ρ[i]? ≠ some (some (.op c)):=by
 unfold yL_ at h
 rw[Bool.and_eq_true]at h
 refine⟨by simpa using h.1,λc e=>?_⟩
 rw[e]at h
 exact absurd h.2 (by simp)
@[irreducible] noncomputable def VH_(X:Cx)(tg:Expr):TG:=λv σ H Q=>∀(pins:List (Addr×Obj)) (s:Shared) (u:Value),Inv X pins σ H s->RelV v u->wpAny (model X.prog X.w) X.A (assign tg X.env u) (λ_ s'=>∃σ' H',Inv X pins σ' H' s'/\Q σ' H') X.xe s
@[irreducible] noncomputable def UP_(X:Cx)(tgs:List Expr):TGs:=λvs σ H Q=>∀(pins:List (Addr×Obj)) (s:Shared) (us:List Value),Inv X pins σ H s->Vals vs us->wpAny (model X.prog X.w) X.A (assignInOrder ((assignEach tgs X.env).map (·.2)) us) (λ_ s'=>∃σ' H',Inv X pins σ' H' s'/\Q σ' H') X.xe s
theorem JF_{X:Cx}{tg:Expr}:PG X tg (VH_ X tg):=λpins s σ H v u Q I r h=>by unfold VH_ at h;exact h pins s u I r
theorem WZ_{X:Cx}{tgs:List Expr}:PGs X tgs (UP_ X tgs):=λpins s σ H vs us Q I r h=>by unfold UP_ at h;exact h pins s us I r
theorem semG{X:Cx}{tg:Expr}{t:TG}{v:V}{σ:L2.St}{H:Hp}{Q:L2.St->Hp->Prop}(h:PG X tg t)(q:t v σ H Q):VH_ X tg v σ H Q:=by unfold VH_;exact λpins s u I r=>h pins s σ H v u Q I r q
theorem zfP_{X:Cx}{tgs:List Expr}{t:TGs}{vs:List V}{σ:L2.St}{H:Hp}{Q:L2.St->Hp->Prop}(h:PGs X tgs t)(q:t vs σ H Q):UP_ X tgs vs σ H Q:=by unfold UP_;exact λpins s us I r=>h pins s σ H vs us Q I r q
def AG{S:Type}(X:Cx)(n:Nat)(tg:Expr)(st:Tg S):Prop :=
 ∀(OK:M S->Prop) (k:En->M S) (G:Gh) (F:Hp) (σ:L2.St) (H:Hp) (ρ:En) (v:V) (d:D) (Q:L2.St->Hp->Prop),KOk OK->StOk X.K G F σ H ρ->Rep X.K F v d->OK (st d k ρ) ->
  (∀σ' ρ',StOk X.K G F σ' H ρ'->(∀j,j<n->σ'[j]? = σ[j]? /\ ρ'[j]? = ρ[j]?)->σ'.length=σ.length->ρ'.length=ρ.length->OK (k ρ')->Q σ' H)->VH_ X tg v σ H Q
def AGs{S:Type}(X:Cx)(n:Nat)(tgs:List Expr)(st:List D->(En->M S)->En->M S):Prop :=
 ∀(OK:M S->Prop) (k:En->M S) (G:Gh) (F:Hp) (σ:L2.St) (H:Hp) (ρ:En) (vs:List V) (ds:List D) (Q:L2.St->Hp->Prop),KOk OK->StOk X.K G F σ H ρ->RepL X.K F vs ds->OK (st ds k ρ) ->
  (∀σ' ρ',StOk X.K G F σ' H ρ'->(∀j,j<n->σ'[j]? = σ[j]? /\ ρ'[j]? = ρ[j]?)->σ'.length=σ.length->ρ'.length=ρ.length->OK (k ρ')->Q σ' H)->UP_ X tgs vs σ H Q
def gSet{S:Type}(i:Nat):Tg S:=λd k ρ=>match yL_ ρ i with
 | true=>k (ρ.set i (some (.fz d)))
 | false=>.bad
noncomputable def ziY_{S:Type}:List D->(En->M S)->En->M S
 | [],k,ρ=>k ρ
 | _,_,_=>.bad
noncomputable def zhx_{S:Type}(t:Tg S)(ts:List D->(En->M S)->En->M S):List D->(En->M S)->En->M S
 | d::ds,k,ρ=>t d (λρ1=>ts ds k ρ1) ρ
 | [],_,_=>.bad
noncomputable def un2{S:Type}(d:D)(k:D->D->M S):M S:=match d with
 | .tuple [a,b]=>k a b
 | _=>.bad
def zhy_{S:Type}(ts:List D->(En->M S)->En->M S):Tg S:=λd k ρ=>un2 d λa b=>ts [a,b] k ρ
section
variable {S:Type}{X:Cx}{pos:Pos}{n:Nat}
theorem zw_{i:Nat}{x:Str}(hn:n<=i)(hN:X.N.Nodup)(hi:X.N[i]? = some x)(hx:Loc X.env.scope x)(hf:X.fn x=true\/X.env.scope.names.lookup x=some .local):AG (S:=S) X n (.Name x pos) (gSet i):=by
 intro OK k G F σ H ρ v d Q hO S r ok kk
 unfold gSet at ok
 split at ok
 ·rename_i ho
  obtain⟨hl,hop⟩:=jk_ ho
  refine semG (zen_ hN hi hx hf) ?_
  exact kk _ _ (S.store hop hl (.inl ⟨d,rfl,r⟩)) (λj hj=>⟨List.getElem?_set_ne (by lia),List.getElem?_set_ne (by lia)⟩) (by simp) (by simp) ok
 ·exact(hO ok).elim
theorem yX_:AGs (S:=S) X n [] ziY_:=by
 intro OK k G F σ H ρ vs ds Q hO S r ok kk
 cases ds with
 | nil =>
  cases r
  exact zfP_ zem_ ⟨rfl,kk σ ρ S (λ_ _=>⟨rfl,rfl⟩) rfl rfl ok⟩
 | cons d ds=>exact(hO ok).elim
theorem zZ_{e:Expr}{es:List Expr}{st:Tg S}{sts:List D->(En->M S)->En->M S}(h1:AG X n e st)(h2:AGs X n es sts)
  (hs:(assignEach (e::es) X.env).map (·.2)=assign e X.env::(assignEach es X.env).map (·.2)):AGs X n (e::es) (zhx_ st sts):=by
 intro OK k G F σ H ρ vs ds Q hO S r ok kk
 cases ds with
 | nil=>exact(hO ok).elim
 | cons d ds =>
  cases r with
  | cons rv rr =>
   refine zfP_ (zbd_ JF_ WZ_ hs) ⟨_,_,rfl,?_⟩
   refine h1 OK _ G F σ H ρ _ d _ hO S rv ok λσ1 ρ1 S1 kp1 l1 m1 o1=>?_
   exact h2 OK k G F σ1 H ρ1 _ ds _ hO S1 rr o1 λσ2 ρ2 S2 kp2 l2 m2 o2=>kk σ2 ρ2 S2 (λj hj=>⟨(kp2 j hj).1.trans (kp1 j hj).1,(kp2 j hj).2.trans (kp1 j hj).2⟩) (l2.trans l1) (m2.trans m1) o2
theorem zfq_{es:List Expr}{kk l:Nat}{sts:List D->(En->M S)->En->M S}{st:Tg S}(hc:X.calm=true)(h:AGs X n es sts)(hn:(assignEach es X.env).length=l)(hst:(assignEach es X.env).findIdx? (·.1)=none)
  (hw:∀(OK:M S->Prop) d k ρ,KOk OK->OK (st d k ρ)->∃ds,d=.tuple ds/\ds.length=l/\OK (sts ds k ρ)):AG X n (.Tuple es kk pos) st:=by
 intro OK k G F σ H ρ v d Q hO S r ok k2
 obtain⟨ds,rfl,hl,ok⟩:=hw OK d k ρ hO ok
 cases r with
 | tup h1 h2 =>
  refine semG (zgw_ hc WZ_ hn hst) ⟨_,_,rfl,SqT.of (S.fh _ _ h1),by rw[h2.length];exact hl,?_⟩
  exact h OK k G F σ H ρ _ ds _ hO S h2 ok k2
theorem yY_{es:List Expr}{kk:Nat}{sts:List D->(En->M S)->En->M S}(hc:X.calm=true)(h:AGs X n es sts)(hn:(assignEach es X.env).length=2)(hst:(assignEach es X.env).findIdx? (·.1)=none):AG X n (.Tuple es kk pos) (zhy_ sts) :=
 zfq_ hc h hn hst λOK d k ρ hO o=>by
  unfold zhy_ un2 at o
  split at o
  ·exact⟨_,rfl,rfl,o⟩
  ·exact(hO o).elim
end
noncomputable abbrev SM(S:Type):=KS S->En->M S
structure EOk{S:Type}(X:Cx)(OK:M S->Prop)(K:KS S)(G:Gh)(F:Hp)(E:Ends):Prop where
 nx:∀F' σ' H' ρ',Same F F'->StOk X.K G F' σ' H' ρ'->OK (K.nx ρ')->E.nx σ' H'
 rt:∀F' σ' H' ρ' d v,Same F F'->StOk X.K G F' σ' H' ρ'->Rep X.K F' v d->OK (K.rt d ρ')->E.rt v H'
 rl:∀F' σ' H' ρ' ds v,Same F F'->StOk X.K G F' σ' H' ρ'->Frs X.K G F' σ' H' ρ' v (.l ds)->OK (K.rl ds ρ')->E.rt v H'
 bk:∀F' σ' H' ρ',Same F F'->StOk X.K G F' σ' H' ρ'->OK (K.bk ρ')->E.bk σ' H'
 ct:∀F' σ' H' ρ',Same F F'->StOk X.K G F' σ' H' ρ'->OK (K.ct ρ')->E.ct σ' H'
theorem EOk.up{S:Type}{X:Cx}{OK:M S->Prop}{K:KS S}{G:Gh}{F F':Hp}{E:Ends}(h:EOk X OK K G F E)(s:Same F F'):EOk X OK K G F' E :=
 ⟨λF2 σ' H' ρ' s2=>h.nx F2 σ' H' ρ' (s.trans s2),λF2 σ' H' ρ' d v s2=>h.rt F2 σ' H' ρ' d v (s.trans s2),λF2 σ' H' ρ' d v s2=>h.rl F2 σ' H' ρ' d v (s.trans s2),λF2 σ' H' ρ' s2=>h.bk F2 σ' H' ρ' (s.trans s2),λF2 σ' H' ρ' s2=>h.ct F2 σ' H' ρ' (s.trans s2)⟩
@[irreducible] noncomputable def UO_(X:Cx)(st:Stmt):TS:=λE σ H=>∀(pins:List (Addr×Obj)) (s:Shared),Inv X pins σ H s->wpAny (model X.prog X.w) X.A (exec st X.env) (SP X pins E) X.xe s
@[irreducible] noncomputable def WB_(X:Cx)(sts:List Stmt):TS:=λE σ H=>∀(pins:List (Addr×Obj)) (s:Shared),Inv X pins σ H s->wpAny (model X.prog X.w) X.A (execs sts X.env) (SP X pins E) X.xe s
section
variable {X:Cx}{st:Stmt}{sts:List Stmt}{σ:L2.St}{H:Hp}{E:Ends}{t:TS}
theorem zcM_:PS X st (UO_ X st):=λpins s σ H E I h=>by unfold UO_ at h;exact h pins s I
theorem jT_:PSs X sts (WB_ X sts):=λpins s σ H E I h=>by unfold WB_ at h;exact h pins s I
theorem semS(h:PS X st t)(q:t E σ H):UO_ X st E σ H:=by unfold UO_;exact λpins s I=>h pins s σ H E I q
theorem semB(h:PSs X sts t)(q:t E σ H):WB_ X sts E σ H:=by unfold WB_;exact λpins s I=>h pins s σ H E I q
end
def AS{S:Type}(X:Cx)(st:Stmt)(m:SM S):Prop :=
 ∀(OK:M S->Prop) (K:KS S) (G:Gh) (F:Hp) (σ:L2.St) (H:Hp) (ρ:En) (E:Ends),KOk OK->XL X OK K.x G->StOk X.K G F σ H ρ->OK (m K ρ)->EOk X OK K G F E->UO_ X st E σ H
def ASs{S:Type}(X:Cx)(st:List Stmt)(m:SM S):Prop :=
 ∀(OK:M S->Prop) (K:KS S) (G:Gh) (F:Hp) (σ:L2.St) (H:Hp) (ρ:En) (E:Ends),KOk OK->XL X OK K.x G->StOk X.K G F σ H ρ->OK (m K ρ)->EOk X OK K G F E->WB_ X st E σ H
section
variable {S:Type}
noncomputable def zim_:SM S:=λK ρ=>K.nx ρ
noncomputable def sSeq(m n:SM S):SM S:=λK ρ=>m { K with nx:=λρ1=>n K ρ1 } ρ
noncomputable def sIf(c:Ev S Bool)(m n:SM S):SM S:=λK ρ=>c K.x (λb ρ1=>if b then m K ρ1 else n K ρ1) ρ
def sTo(sh:List Kd)(m:SM S):SM S:=λK ρ=>m { K with nx:=λρ1=>rdk sh (λs=>K.nx (wr sh s)) ρ1 } ρ
def sSet(i:Nat)(m:Ev S D):SM S:=λK ρ=>m K.x (λd ρ1=>match yL_ ρ1 i with
 | true=>K.nx (ρ1.set i (some (.fz d)))
 | false=>.bad) ρ
def zik_(i:Nat)(m:Ev S (List D)):SM S:=λK ρ=>m K.x (λds ρ1=>match yL_ ρ1 i with
 | true=>K.nx (ρ1.set i (some (.ol (.l ds))))
 | false=>.bad) ρ
noncomputable def sAsg(t:Tg S)(m:Ev S D):SM S:=λK ρ=>m K.x (λd ρ1=>t d K.nx ρ1) ρ
noncomputable def sRet(m:Ev S D):SM S:=λK ρ=>m K.x K.rt ρ
noncomputable def zil_(m:Ev S (List D)):SM S:=λK ρ=>m K.x K.rl ρ
noncomputable def sFrz(i:Nat)(m:SM S):SM S:=λK ρ=>match ρ[i]? with
 | some (some (.ol c))=>m K (ρ.set i (some (.fz c.d)))
 | _=>.bad
noncomputable def setO(ρ:En)(i:Nat)(ds:List D):En:=match ρ[i]? with
 | some (some (.op _))=>ρ.set i (some (.op (.l ds)))
 | _=>ρ.set i (some (.ol (.l ds)))
def sMut(i:Nat)(f:List D->List D->Option (List D))(ms:Ev S (List D)):SM S:=λK ρ=>match ownL ρ i with
 | some _=>ms K.x (λas ρ1=>match ownL ρ1 i with
  | some ds=>(oM (f ds as)).on (λe=>K.x e ρ1) (λds'=>K.nx (setO ρ1 i ds'))
  | none=>.bad) ρ
 | none=>.bad
noncomputable def forC{T:Type}(step:T->D->(T->M S)->M S):List D->T->(T->M S)->M S
 | [],s,k=>k s
 | d::r,s,k=>step s d (λs'=>forC step r s' k)
@[reducible] def Jq_(sh:List Kd)(K:KS S)(kn:SOf sh->M S):KS S:={ K with
  nx:=λρ3=>rdk sh kn ρ3
  ct:=λρ3=>rdk sh kn ρ3
  bk:=λρ3=>rdk sh (λs'=>K.nx (wr sh s')) ρ3 }
def sFor(sh:List Kd)(it:Ev S (List D))(t:Tg S)(mb:SM S):SM S:=λK ρ=>it K.x (λds ρ1=>rdk sh (λs=>forC (λs d kn=>t d (λρ2=>mb (Jq_ sh K kn) ρ2) (wr sh s)) ds s (λs'=>K.nx (wr sh s'))) ρ1) ρ
noncomputable def zP_{T:Type}(step:T->(T->M S)->M S):Nat->T->M S
 | 0,_=>.bad
 | n+1,s=>step s (λs'=>zP_ step n s')
def WL_(sh:List Kd)(fuel:Nat)(c:Ev S Bool)(mb:SM S):SM S:=λK ρ=>rdk sh (λs=>zP_ (λs kn=>c K.x (λb ρ2=>if b then mb (Jq_ sh K kn) ρ2 else rdk sh (λs'=>K.nx (wr sh s')) ρ2) (wr sh s)) fuel s) ρ
end
theorem ZG_(ρ:En)(i:Nat)(ds ds0:List D)(h:ownL ρ i=some ds0):setO ρ i ds=ρ.set i ((ρ[i]?.join).map fun | .op _=>.op (.l ds)|_=>.ol (.l ds)):=by
 unfold ownL at h
 unfold setO
 split at h
 ·rename_i q;rw[q];rfl
 ·rename_i q;rw[q];rfl
 ·cases h
theorem ue_{S:Type}{OK:M S->Prop}(hO:KOk OK){sh:List Kd}{k:SOf sh->M S}{ρ:En}(h:OK (rdk sh k ρ)):∃s,rd sh ρ=some s/\OK (k s):=by
 unfold rdk at h
 split at h
 ·rename_i s e;exact⟨s,e,h⟩
 ·exact(hO h).elim
section
variable {S:Type}{X:Cx}{st:Stmt}{sts rest:List Stmt}{m n:SM S}{e c a b:Expr}{me:Ev S D}{mt:Ev S Bool}{ml:Ev S (List D)}{pos pos' tpos:Pos}
theorem zX_:ASs (S:=S) X [] zim_:=λOK K G F σ H ρ E hO hX St ok eo=>semB Y7_ (eo.nx F σ H ρ (Same.refl _) St ok)
theorem zc_(h1:AS X st m)(h2:ASs X rest n):ASs X (st::rest) (sSeq m n):=λOK K G F σ H ρ E hO hX St ok eo =>
 semB (Ue_ zcM_ jT_) (h1 OK { K with nx:=λρ1=>n K ρ1 } G F σ H ρ _ hO hX St ok ⟨λF' σ' H' ρ' s S' o=>h2 OK K G F' σ' H' ρ' E hO hX S' o (eo.up s),eo.rt,eo.rl,eo.bk,eo.ct⟩)
theorem zg_(h1:AS X st m):ASs X [st] m:=λOK K G F σ H ρ E hO hX St ok eo=>semB (zed_ zcM_) (h1 OK K G F σ H ρ E hO hX St ok eo)
theorem uJ_{A B:List Stmt}(hc:AEt X c mt)(ha:ASs X A m)(hb:ASs X B n):AS X (.If c A B pos) (sIf mt m n):=λOK K G F σ H ρ E hO hX St ok eo =>
 semS (zix_ uf_ jT_ jT_) (hc OK K.x _ G F σ H ρ _ hO hX St ok λt F1 H1 ρ1 s1 S1 o1=>by
  cases t with
  | true=>exact ha OK K G F1 σ H1 ρ1 E hO hX S1 o1 (eo.up s1)
  | false=>exact hb OK K G F1 σ H1 ρ1 E hO hX S1 o1 (eo.up s1))
theorem zx_{sh:List Kd}(h:AS X st m):AS X st (sTo sh m):=λOK K G F σ H ρ E hO hX St ok eo =>
 h OK { K with nx:=λρ1=>rdk sh (λs=>K.nx (wr sh s)) ρ1 } G F σ H ρ E hO hX St ok ⟨λF' σ' H' ρ' s S' o=>by
  obtain⟨s',e',o'⟩:=ue_ hO o
  exact eo.nx F' σ' H' _ s (S'.rd e') o',eo.rt,eo.rl,eo.bk,eo.ct⟩
theorem Zb_{i:Nat}(h:AS X st m):AS X st (sFrz i m):=λOK K G F σ H ρ E hO hX St ok eo=>by
 unfold sFrz at ok
 split at ok
 ·rename_i ds q
  obtain⟨a,ea,_⟩:=St.ow i _ (.inl q)
  obtain⟨F2,s2,S2,_⟩:=St.settleC q ea
  exact h OK K G F2 σ H _ E hO hX S2 ok (eo.up s2)
 ·exact(hO ok).elim
theorem zC_(he:AE X e me):AS X (.Return (some e) pos) (sRet me):=λOK K G F σ H ρ E hO hX St ok eo =>
 semS (zcN_ zm_) (he OK K.x K.rt G F σ H ρ _ hO hX St ok λd v F1 H1 ρ1 s1 S1 r1 o1=>eo.rt F1 σ H1 ρ1 d v s1 S1 r1 o1)
theorem zfm_(he:AEl X e ml):AS X (.Return (some e) pos) (zil_ ml):=λOK K G F σ H ρ E hO hX St ok eo =>
 semS (zcN_ zm_) (he OK K.x K.rl G F σ H ρ _ hO hX St ok λd v F1 H1 ρ1 s1 S1 r1 o1=>eo.rl F1 σ H1 ρ1 d v s1 S1 r1 o1)
theorem zI_{i:Nat}{x:Str}(hN:X.N.Nodup)(hi:X.N[i]? = some x)(hx:Loc X.env.scope x)(he:AE X e me)(hs:swapsWith e (some (.Name x pos')) pos.line X.env=pure false)(hf:X.fn x=true\/X.env.scope.names.lookup x=some .local) :
  AS X (.Assign [.Name x pos'] e pos) (sSet i me):=λOK K G F σ H ρ E hO hX St ok eo =>
 semS (U6_ hN hi hx zm_ hs hf) (he OK K.x _ G F σ H ρ _ hO hX St ok λd v F1 H1 ρ1 s1 S1 r1 o1=>by
  split at o1
  ·rename_i ho
   obtain⟨hl,hop⟩:=jk_ ho
   exact eo.nx F1 _ H1 _ s1 (S1.store hop hl (.inl ⟨d,rfl,r1⟩)) o1
  ·exact(hO o1).elim)
theorem jw_{i:Nat}{x:Str}(hN:X.N.Nodup)(hi:X.N[i]? = some x)(hx:Loc X.env.scope x)(he:AEl X e ml)(hs:swapsWith e (some (.Name x pos')) pos.line X.env=pure false)(hf:X.fn x=true\/X.env.scope.names.lookup x=some .local) :
  AS X (.Assign [.Name x pos'] e pos) (zik_ i ml):=λOK K G F σ H ρ E hO hX St ok eo =>
 semS (U6_ hN hi hx zm_ hs hf) (he OK K.x _ G F σ H ρ _ hO hX St ok λd v F1 H1 ρ1 s1 S1 r1 o1=>by
  split at o1
  ·rename_i ho
   obtain⟨hl,hop⟩:=jk_ ho
   exact eo.nx F1 _ H1 _ s1 (S1.store hop hl (.inr ⟨.l d,rfl,r1⟩)) o1
  ·exact(hO o1).elim)
theorem zhN_{tg:Expr}{t:Tg S}(he:AE X e me)(hg:AG X 0 tg t)(hs:swapsWithSole [tg] e pos.line X.env=pure false)(hw:swappedStores [tg] e X.env=pure none)
  (h1:(assignEach [tg] X.env).map (·.2)=[assign tg X.env]):AS X (.Assign [tg] e pos) (sAsg t me):=λOK K G F σ H ρ E hO hX St ok eo =>
 semS (zcO_ zm_ JF_ hs hw h1) (he OK K.x _ G F σ H ρ _ hO hX St ok λd v F1 H1 ρ1 s1 S1 r1 o1 =>
  hg OK K.nx G F1 σ H1 ρ1 v d _ hO S1 r1 o1 λσ' ρ' S' _ _ _ o'=>eo.nx F1 σ' H1 ρ' s1 S' o')
end
section
variable {S:Type}{X:Cx}{m n mb:SM S}{e c a b o:Expr}{me mi:Ev S D}{mt:Ev S Bool}{ml ms:Ev S (List D)}{pos pos' tpos apos cpos:Pos}
theorem zhL_{tg iter:Expr}{body:List Stmt}{sh:List Kd}{t:Tg S}(hp:PassesOwn (model X.prog X.w) X.A X.env X.xe)(hc:X.calm=true)(hi:AEi X tg iter ml)(hg:AG X 0 tg t)(hb:ASs X body mb)
  (hs:∀x,foldedSetIterable iter X.env x=pure x):AS X (.For tg iter body [] pos) (sFor sh ml t mb):=λOK K G F σ H ρ E hO hX St ok eo =>
 semS (zgs_ hp hc QW_ JF_ jT_ hs) (hi OK K.x _ G F σ H ρ _ hO hX St ok λds J F1 H1 ρ1 s1 S1 wk o1=>by
  obtain⟨s0,e0,o0⟩:=ue_ hO o1
  have S0:=S1.rd e0
  clear o1
  generalize hstep:(λ(s:SOf sh) d (kn:SOf sh->M S)=>t d (λρ2=>mb (Jq_ sh K kn) ρ2) (wr sh s))=step at o0
  refine⟨λi m σ' H'=>∃F' s,m=ds.length - i/\i<=ds.length/\Same F1 F'/\StOk X.K G F' σ' H' (wr sh s)/\OK (forC step (ds.drop i) s (λs'=>K.nx (wr sh s'))),⟨ds.length,F1,s0,rfl,Nat.zero_le _,Same.refl _,S0,o0⟩,?_⟩
  rintro i m σ' H' ⟨F',s,rfl,hi,s2,S2,go⟩
  by_cases hlt:i<ds.length
  ·have ed:ds.drop i=ds[i]::ds.drop (i+1):=List.drop_eq_getElem_cons hlt
   rw[ed]at go
   dsimp only[forC]at go
   rw[<-hstep]at go
   have again:∀F5 σ5 H5 ρ5,Same F' F5->StOk X.K G F5 σ5 H5 ρ5->OK (rdk sh (λs'=>forC step (ds.drop (i+1)) s' λs'=>K.nx (wr sh s')) ρ5) ->
     ∃m',m'<ds.length - i/\∃F' s,m'=ds.length - (i+1)/\i+1<=ds.length/\Same F1 F'/\StOk X.K G F' σ5 H5 (wr sh s)/\OK (forC step (ds.drop (i+1)) s (λs'=>K.nx (wr sh s'))):=λF5 σ5 H5 ρ5 s5 S5 o5=>by
    obtain⟨s',e',o'⟩:=ue_ hO o5
    exact⟨ds.length - (i+1),by omega,F5,s',rfl,hlt,s2.trans s5,S5.rd e',o'⟩
   refine .inr ⟨wk.go i G F' σ' H' _ s2 S2 hlt,λσ4 H4=>∃m',m'<ds.length - i/\∃F' s,m'=ds.length - (i+1)/\i+1<=ds.length/\Same F1 F'/\StOk X.K G F' σ4 H4 (wr sh s)/\OK (forC step (ds.drop (i+1)) s (λs'=>K.nx (wr sh s'))),λσ4 H4 h4=>h4,λx H2 y=>?_⟩
   obtain⟨F3,s3,S3,r3⟩:=wk.yld i G F' σ' H' _ x H2 ds[i] s2 S2 (by simp[hlt]) y
   refine hg OK _ G F3 σ' H2 (wr sh s) x ds[i] _ hO S3 r3 go λσ3 ρ3 S4 _ _ _ o4=>?_
   rw[hstep]at o4
   refine hb OK (Jq_ sh K λs'=>forC step (ds.drop (i+1)) s' λs'=>K.nx (wr sh s')) G F3 σ3 H2 ρ3 _ hO hX S4 o4 ⟨λF5 σ5 H5 ρ5 s5 S5 o5=>?_,λF5 σ5 H5 ρ5 d v s5=>eo.rt F5 σ5 H5 ρ5 d v ((s1.trans (s2.trans s3)).trans s5),λF5 σ5 H5 ρ5 d v s5=>eo.rl F5 σ5 H5 ρ5 d v ((s1.trans (s2.trans s3)).trans s5),λF5 σ5 H5 ρ5 s5 S5 o5=>?_,λF5 σ5 H5 ρ5 s5 S5 o5=>?_⟩
   ·exact again F5 σ5 H5 ρ5 (s3.trans s5) S5 o5
   ·obtain⟨s',e',o'⟩:=ue_ hO o5
    exact eo.nx F5 σ5 H5 _ ((s1.trans (s2.trans s3)).trans s5) (S5.rd e') o'
   ·exact again F5 σ5 H5 ρ5 (s3.trans s5) S5 o5
  ·have ei:i=ds.length:=by omega
   subst ei
   rw[List.drop_length]at go
   exact .inl ⟨wk.stop G F' σ' H' _ s2 S2,eo.nx F' σ' H' _ (s1.trans s2) S2 go⟩)
theorem zcq_{body:List Stmt}{sh:List Kd}{fuel:Nat}(hp:PassesOwn (model X.prog X.w) X.A X.env X.xe)(hc:AEt X c mt)(hb:ASs X body mb):AS X (.While c body [] pos) (WL_ sh fuel mt mb):=λOK K G F σ H ρ E hO hX St ok eo =>
 semS (zaZ_ hp uf_ jT_) (by
  obtain⟨s0,e0,o0⟩:=ue_ hO ok
  have S0:=St.rd e0
  clear ok
  generalize hstep:(λ(s:SOf sh) (kn:SOf sh->M S)=>mt K.x (λb ρ2=>if b then mb (Jq_ sh K kn) ρ2 else rdk sh (λs'=>K.nx (wr sh s')) ρ2) (wr sh s))=step at o0
  refine⟨λm σ' H'=>∃F' s,Same F F'/\StOk X.K G F' σ' H' (wr sh s)/\OK (zP_ step m s),⟨fuel,F,s0,Same.refl _,S0,o0⟩,?_⟩
  rintro m σ' H' ⟨F',s,s2,S2,go⟩
  cases m with
  | zero=>exact(hO go).elim
  | succ m =>
   dsimp only[zP_]at go
   rw[<-hstep]at go
   refine hc OK K.x _ G F' σ' H' (wr sh s) _ hO hX S2 go λt F1 H1 ρ1 s1 S1 o1=>?_
   cases t with
   | false =>
    obtain⟨s',e',o'⟩:=ue_ hO (show OK (rdk sh (λs'=>K.nx (wr sh s')) ρ1)from o1)
    exact eo.nx F1 σ' H1 _ (s2.trans s1) (S1.rd e') o'
   | true =>
    have o1':OK (mb (Jq_ sh K λs'=>zP_ (λ(s:SOf sh) (kn:SOf sh->M S)=>mt K.x (λb ρ2=>if b then mb (Jq_ sh K kn) ρ2 else rdk sh (λs'=>K.nx (wr sh s')) ρ2) (wr sh s)) m s') ρ1):=o1
    rw[hstep]at o1'
    have again:∀F5 σ5 H5 ρ5,Same F1 F5->StOk X.K G F5 σ5 H5 ρ5->OK (rdk sh (λs'=>zP_ step m s') ρ5)->∃m',m'<m+1/\∃F' s,Same F F'/\StOk X.K G F' σ5 H5 (wr sh s)/\OK (zP_ step m' s):=λF5 σ5 H5 ρ5 s5 S5 o5=>by
     obtain⟨s',e',o'⟩:=ue_ hO o5
     exact⟨m,Nat.lt_succ_self _,F5,s',(s2.trans s1).trans s5,S5.rd e',o'⟩
    refine iteT ⟨λσ4 H4=>∃m',m'<m+1/\∃F' s,Same F F'/\StOk X.K G F' σ4 H4 (wr sh s)/\OK (zP_ step m' s),λσ4 H4 h4=>h4,?_⟩
    refine hb OK (Jq_ sh K λs'=>zP_ step m s') G F1 σ' H1 ρ1 _ hO hX S1 o1' ⟨λF5 σ5 H5 ρ5 s5 S5 o5=>again F5 σ5 H5 ρ5 s5 S5 o5,λF5 σ5 H5 ρ5 d v s5=>eo.rt F5 σ5 H5 ρ5 d v ((s2.trans s1).trans s5),λF5 σ5 H5 ρ5 d v s5=>eo.rl F5 σ5 H5 ρ5 d v ((s2.trans s1).trans s5),λF5 σ5 H5 ρ5 s5 S5 o5=>?_,λF5 σ5 H5 ρ5 s5 S5 o5=>again F5 σ5 H5 ρ5 s5 S5 o5⟩
    obtain⟨s',e',o'⟩:=ue_ hO o5
    exact eo.nx F5 σ5 H5 _ ((s2.trans s1).trans s5) (S5.rd e') o')
theorem uh_{K:Fg}{G:Gh}{F H:Hp}{σ:L2.St}{ρ:En}{i:Nat}{ds:List D}(St:StOk K G F σ H ρ)(h:ownL ρ i=some ds):∃a vs,σ[i]? = some (some (.ref a))/\H a=some (.lst vs)/\RepL K F vs ds:=by
 obtain⟨a,ea,oa⟩:=St.ow i _ (Zk_ h)
 obtain⟨vs,h1,h2⟩:=oa.he
 exact⟨a,vs,ea,h1,h2⟩
theorem Y8_{K:Fg}{G:Gh}{F H:Hp}{σ:L2.St}{ρ:En}{i:Nat}{a:Addr}{ds ds':List D}{vs':List V}(St:StOk K G F σ H ρ)(h:ownL ρ i=some ds)(ha:σ[i]? = some (some (.ref a)))(r:RepL K F vs' ds') :
  StOk K G F σ (upd H a (.lst vs')) (setO ρ i ds'):=by
 rw[ZG_ ρ i ds' ds h]
 exact St.change (Zk_ h) ha (c':=.l ds') ⟨_,zn_,r⟩
noncomputable def mApp(ds as:List D):Option (List D):=match as with
 | [d]=>if ds.length<sizeLine then some (ds++[d])else none
 | _=>none
theorem Jj_{i:Nat}{x:Str}(hN:X.N[i]? = some x)(hv:Vis X.env.scope x)(he:AEa X [e] ms)
  (hbase:attributeBase (.Name x pos') "append" X.env (eval (.Name x pos') X.env)=eval (.Name x pos') X.env)
  (hfew:((backTo cpos (starEach [e] X.env)).all (λx=>!x.1)&&(backToKw cpos (keywordEach [] X.env)).all (λx=>x.1.isSome)
   && decide ([e].length+([]:List Keyword).length+(if([]:List Keyword).isEmpty then 0 else 1)<30))=true)
  (hline:(apos.endLine==cpos.line)=true) (hs:starEach [e] X.env=(false,eval e X.env)::starEach [] X.env) (hplain:(backTo cpos (starEach [] X.env)).any (·.1)=false)
  (hsw:swapsWith (.Call (.Attribute (.Name x pos') "append" apos) [e] [] cpos) none pos.line X.env=pure false) (hd:(x==("__debug__" : Str))=false:=by decide) (hcd:(x==("__classdict__" : Str))=false:=by decide) :
  AS X (.Expr (.Call (.Attribute (.Name x pos') "append" apos) [e] [] cpos) pos) (sMut i mApp ms):=λOK K G F σ H ρ E hO hX St ok eo =>
 semS (zef_ (ziz_ PySem.F.plainAttrs_list PySem.F.slot_list_append PySem.F.type_list_append Xn_ (uK_ hN hv hd hcd) zS_ hbase hfew hline hs hplain) hsw) (by
  unfold sMut at ok
  split at ok
  case h_2=>exact(hO ok).elim
  ·rename_i ds0 h0
   obtain⟨a,vs0,ea,hh,_⟩:=uh_ St h0
   refine⟨_,ea,.inl ⟨rfl,vs0,.inl (.inl hh)⟩,he OK K.x _ G F σ H ρ _ hO hX St ok λas ws F1 H1 ρ1 s1 S1 _ r1 o1=>?_⟩
   split at o1
   ·rename_i ds hds
    obtain⟨ds',hf,o2⟩:=jH_ hO o1
    obtain⟨a',vs,ea',hh',rv⟩:=uh_ S1 hds
    rw[ea]at ea'
    injection ea' with ea';injection ea' with ea';injection ea' with ea'
    subst ea'
    unfold mApp at hf
    split at hf
    ·split at hf
     ·rename_i hz
      cases hf
      cases r1 with
      | cons ra rb =>
       cases rb
       refine⟨a,vs,_,rfl,rfl,hh',by rw[rv.length];exact hz,?_⟩
       exact eo.nx F1 σ _ _ s1 (Y8_ S1 hds ea (rv.append (.cons ra .nil))) o2
     ·cases hf
    ·cases hf
   ·exact(hO o1).elim)
end
theorem map_some_get{α:Type}{l:List α}{i:Nat}{x:α}:(l.map some)[i]? = some (some x)↔l[i]? = some x:=by
 rw[List.getElem?_map]
 cases l[i]? <;> simp
open Classical in
noncomputable def zy_(G:Gh)(σ:L2.St)(ρ:En)(H:Hp)(ex:Option Addr):Hp:=λb=>if(∃(i:Nat) (c:OC),own ρ i c/\σ[i]? = some (some (V.ref b)))/\some b≠ex then H b else G.O b
noncomputable def setC(ρ:En)(j:Nat)(c:OC):En:=ρ.set j ((ρ[j]?.join).map fun | .op _=>.op c|_=>.ol c)
section
variable {K:Fg}{G:Gh}{F F' H H':Hp}{σ:L2.St}{ρ:En}{vs:List V}{ds:List D}
theorem z3_{ex:Option Addr}(S:StOk K G F σ H ρ){b:Addr}{o:HO}(h:G.O b=some o):zy_ G σ ρ H ex b=some o:=by
 unfold zy_
 rw[if_neg]
 ·exact h
 ·rintro⟨⟨i,c,ho,e⟩,_⟩
  obtain⟨a,e',oa⟩:=S.ow i c ho
  rw[e]at e'
  injection e' with e';injection e' with e';injection e' with e'
  subst e'
  rw[oa.no]at h;cases h
theorem j0_{ex:Option Addr}{b:Addr}{i:Nat}{c:OC}(ho:own ρ i c)(e:σ[i]? = some (some (V.ref b)))(hx:some b≠ex):zy_ G σ ρ H ex b=H b:=by
 unfold zy_
 rw[if_pos ⟨⟨i,c,ho,e⟩,hx⟩]
theorem YJ_{ex:Option Addr}(S:StOk K G F σ H ρ):Same (zy_ G σ ρ H ex) H:=λb o h=>by
 unfold zy_ at h
 split at h
 ·exact h
 ·exact S.oh b o h
theorem _root_.L3.Held.notup{K:Fg}{F H:Hp}{a:Addr}{c:OC}{o:HO}(h:Held K F H a c)(e:H a=some o):NoTE o:=by
 cases c with
 | l ds=>obtain⟨vs,h1,_⟩:=h;rw[h1]at e;cases e;exact True.intro
 | t es=>obtain⟨vs,h1,_⟩:=h;rw[h1]at e;cases e;exact True.intro
 | k es=>obtain⟨vs,h1,_⟩:=h;rw[h1]at e;cases e;exact True.intro
theorem YK_{ex:Option Addr}(S:StOk K G F σ H ρ):∀b o,zy_ G σ ρ H ex b=some o->F b=none/\NoTE o:=λb o h=>by
 unfold zy_ at h
 split at h
 ·rename_i hc
  obtain⟨⟨i,c,ho,e⟩,_⟩:=hc
  obtain⟨a,e',oa⟩:=S.ow i c ho
  rw[e]at e'
  injection e' with e';injection e' with e';injection e' with e'
  subst e'
  exact⟨oa.nf,oa.he.notup h⟩
 ·exact S.fo b o h
theorem Z6_{i:Nat}{av:AV}(h:((ds.map AV.fz).map some)[i]? = some (some av)):∃d,av=.fz d/\ds[i]? = some d:=by
 rw[map_some_get,List.getElem?_map]at h
 cases q:ds[i]? with
 | none=>rw[q]at h;cases h
 | some d=>rw[q]at h;cases h;exact⟨d,rfl,rfl⟩
theorem yj_{i:Nat}{c:OC}(h:own ((ds.map AV.fz).map some) i c):False:=by
 rcases h with h|h<;>(obtain⟨d,z,_⟩:=Z6_ h;cases z)
theorem ys_(S:StOk K G F σ H ρ)(r:RepL K F vs ds):StOk K ⟨λ_=>none,zy_ G σ ρ H none,F⟩ F (vs.map some) H ((ds.map AV.fz).map some):=by
 refine⟨S.fh,YJ_ S,YK_ S,by simp[r.length],λi d h=>?_,λi c h=>(yj_ h).elim,λi j c e a h=>(yj_ h).elim,λi a h=>(nomatch h),λi c h=>?_,Same.refl _⟩
 ·obtain⟨d',z,e⟩:=Z6_ h
  cases z
  obtain⟨v,e1,e2⟩:=r.get e
  exact⟨v,map_some_get.mpr e1,e2⟩
 ·obtain⟨d',z,e⟩:=Z6_ h;cases z
theorem JU_{avs':List AV}(S:StOk K G F σ H ρ)(s1:Same F F')(S1:StOk K ⟨λ_=>none,zy_ G σ ρ H none,F⟩ F' (vs.map some) H' (avs'.map some)) :
  StOk K G F' σ H' ρ/\∀v c,Frs K ⟨λ_=>none,zy_ G σ ρ H none,F⟩ F' (vs.map some) H' (avs'.map some) v c->Frs K G F' σ H' ρ v c:=by
 have oo:∀b,zy_ G σ ρ H none b=none->G.O b=none:=λb h=>by
  cases q:G.O b with
  | none=>rfl
  | some o=>rw[z3_ S q]at h;cases h
 refine⟨⟨S1.fh,λb o h=>S1.oh b o (z3_ S h),λb o h=>S1.fo b o (z3_ S h),S.ln,λi d h=>?_,λi c h=>?_,S.dj,S.pp,S.pq,S.fb.trans s1⟩,λv cc h=>?_⟩
 ·obtain⟨v,e,r⟩:=S.fz i d h;exact⟨v,e,r.mono s1⟩
 ·obtain⟨a,e,oa⟩:=S.ow i c h
  obtain⟨o,ho⟩:=oa.he.some
  have q:zy_ G σ ρ H none a=some o:=by rw[j0_ h e (by simp)];exact ho
  exact⟨a,e,(S1.fo a o q).1,oa.no,(oa.he.mono s1).at (by rw[S1.oh a o q,ho])⟩
 ·obtain⟨a,rfl,oa,_⟩:=h
  refine⟨a,rfl,⟨oa.nf,oo a oa.no,oa.he⟩,λi e ho q=>?_⟩
  obtain⟨a',e',oa'⟩:=S.ow i e ho
  rw[q]at e'
  injection e' with e';injection e' with e';injection e' with e'
  subst e'
  obtain⟨o,hh⟩:=oa'.he.some
  have:=oa.no
  rw[show(⟨λ_=>none,zy_ G σ ρ H none,F⟩:Gh).O a=zy_ G σ ρ H none a from rfl,j0_ ho q (by simp),hh]at this
  cases this
noncomputable def P1(a:Addr):Nat->Option Addr
 | 0=>some a
 | _=>none
theorem zae_{j:Nat}{c:OC}{a:Addr}(S:StOk K G F σ H ρ)(hj:own ρ j c)(ha:σ[j]? = some (some (V.ref a)))(r:RepL K F vs ds) :
  StOk K ⟨P1 a,zy_ G σ ρ H (some a),F⟩ F ((V.ref a::vs).map some) H ((AV.op c::ds.map AV.fz).map some):=by
 obtain⟨a',e',oa⟩:=S.ow j c hj
 rw[ha]at e'
 injection e' with e';injection e' with e';injection e' with e'
 subst e'
 have at0:∀i d,own ((AV.op c::ds.map AV.fz).map some) i d->i=0/\d=c:=λi d h=>by
  cases i with
  | zero=>rcases h with h|h<;>(simp at h);exact⟨rfl,h.symm⟩
  | succ i=>exact(yj_ (ds:=ds) (i:=i) (c:=d) (by unfold own at h ⊢;simpa using h)).elim
 refine⟨S.fh,YJ_ S,YK_ S,by simp[r.length],λi d h=>?_,λi d h=>?_,λi k d e b h1 h2 _ _=>?_,λi b h=>?_,λi d h=>?_,Same.refl _⟩
 ·cases i with
  | zero=>simp at h
  | succ i =>
   obtain⟨d',z,e⟩:=Z6_ (ds:=ds) (i:=i) (av:=.fz d) (by simpa using h)
   cases z
   obtain⟨v,e1,e2⟩:=r.get e
   exact⟨v,by simpa using e1,e2⟩
 ·obtain⟨rfl,rfl⟩:=at0 i d h
  refine⟨a,rfl,oa.nf,?_,oa.he⟩
  show zy_ G σ ρ H (some a) a=none
  unfold zy_
  rw[if_neg (by simp)]
  exact oa.no
 ·rw[(at0 i d h1).1,(at0 k e h2).1]
 ·cases i with
  | zero=>cases h;exact⟨rfl,c,rfl⟩
  | succ i=>cases h
 ·cases i with
  | zero=>exact⟨a,rfl⟩
  | succ i =>
   obtain⟨d',z,e⟩:=Z6_ (ds:=ds) (i:=i) (av:=.op d) (by simpa using h)
   cases z
theorem Wg_{j:Nat}{c c':OC}{a:Addr}{l:List AV}(S:StOk K G F σ H ρ)(hj:own ρ j c)(ha:σ[j]? = some (some (V.ref a)))(s1:Same F F')
  (S1:StOk K ⟨P1 a,zy_ G σ ρ H (some a),F⟩ F' ((V.ref a::vs).map some) H' ((AV.op c'::l).map some)) :
  StOk K G F' σ H' (setC ρ j c')/\∀v cc,Frs K ⟨P1 a,zy_ G σ ρ H (some a),F⟩ F' ((V.ref a::vs).map some) H' ((AV.op c'::l).map some) v cc->Frs K G F' σ H' (setC ρ j c') v cc:=by
 have oo:∀b,zy_ G σ ρ H (some a) b=none->G.O b=none:=λb h=>by
  cases q:G.O b with
  | none=>rfl
  | some o=>rw[z3_ S q]at h;cases h
 obtain⟨a',e',oa⟩:=S.ow j c hj
 rw[ha]at e'
 injection e' with e';injection e' with e';injection e' with e'
 subst e'
 have hl:j<ρ.length:=by rcases hj with h|h<;>exact(List.getElem?_eq_some_iff.mp h).1
 generalize hav:((ρ[j]?.join).map λ(x:AV)=>match x with | .op _=>AV.op c'|_=>AV.ol c')=av
 have hset:setC ρ j c'=ρ.set j av:=by rw[<-hav];rfl
 rw[hset]
 have ne:∀i,i≠j->(ρ.set j av)[i]? = ρ[i]?:=λi hi=>List.getElem?_set_ne (Ne.symm hi)
 have atj:(ρ.set j av)[j]? = some av:=List.getElem?_set_self hl
 have kind:(ρ[j]? = some (some (.ol c))/\av=some (.ol c'))\/(ρ[j]? = some (some (.op c))/\av=some (.op c')):=by
  rcases hj with h|h
  ·exact .inl ⟨h,by rw[<-hav,h];rfl⟩
  ·exact .inr ⟨h,by rw[<-hav,h];rfl⟩
 have owni:∀i e,own (ρ.set j av) i e->(i=j/\e=c')\/(i≠j/\own ρ i e):=λi e h=>by
  by_cases hi:i=j
  ·subst hi
   unfold own at h
   rw[atj]at h
   rcases kind with ⟨_,k⟩|⟨_,k⟩<;>rw[k]at h<;>rcases h with h|h<;>cases h<;>exact .inl ⟨rfl,rfl⟩
  ·unfold own at h ⊢
   rw[ne i hi]at h
   exact .inr ⟨hi,h⟩
 have nea:∀i e b,i≠j->own ρ i e->σ[i]? = some (some (V.ref b))->b≠a:=λi e b hi ho q z=>by
  subst z
  exact hi (S.dj i j e c b ho hj q ha)
 have own1:OwnAt K ⟨P1 a,zy_ G σ ρ H (some a),F⟩ F' H' a c':=by
  obtain⟨b,e1,ob⟩:=S1.ow 0 c' (.inr rfl)
  have:V.ref a=V.ref b:=by simpa using e1
  injection this with this
  subst this
  exact ob
 refine⟨⟨S1.fh,λb o h=>S1.oh b o (z3_ S h),λb o h=>S1.fo b o (z3_ S h),by simpa using S.ln,λi d h=>?_,λi e h=>?_,λi k d e b h1 h2=>?_,λi b h=>?_,λi d h=>?_,S.fb.trans s1⟩,λv cc h=>?_⟩
 ·by_cases hi:i=j
  ·subst hi
   rw[atj]at h
   rcases kind with ⟨_,k⟩|⟨_,k⟩<;>rw[k]at h<;>cases h
  ·rw[ne i hi]at h
   obtain⟨v,e,r⟩:=S.fz i d h;exact⟨v,e,r.mono s1⟩
 ·rcases owni i e h with ⟨rfl,rfl⟩|⟨hi,ho⟩
  ·exact⟨a,ha,own1.nf,oa.no,own1.he⟩
  ·obtain⟨b,eb,ob⟩:=S.ow i e ho
   obtain⟨o,hh⟩:=ob.he.some
   have q:zy_ G σ ρ H (some a) b=some o:=by rw[j0_ ho eb (λz=>nea i e b hi ho eb (Option.some.inj z))];exact hh
   exact⟨b,eb,(S1.fo b o q).1,ob.no,(ob.he.mono s1).at (by rw[S1.oh b o q,hh])⟩
 ·have f:∀i e,own (ρ.set j av) i e->∃d,own ρ i d:=λi e h=>by
   rcases owni i e h with ⟨rfl,_⟩|⟨_,ho⟩
   ·exact⟨c,hj⟩
   ·exact⟨e,ho⟩
  exact S.dj i k _ _ b (f i d h1).choose_spec (f k e h2).choose_spec
 ·obtain⟨q1,e,q2⟩:=S.pp i b h
  refine⟨q1,?_⟩
  by_cases hi:i=j
  ·subst hi
   rcases kind with ⟨k1,k⟩|⟨k1,k⟩
   ·rw[k1]at q2;cases q2
   ·exact⟨c',by rw[atj,k]⟩
  ·exact⟨e,by rw[ne i hi];exact q2⟩
 ·by_cases hi:i=j
  ·subst hi
   rcases kind with ⟨k1,k⟩|⟨k1,k⟩
   ·rw[atj,k]at h;cases h
   ·exact S.pq i c k1
  ·rw[ne i hi]at h;exact S.pq i d h
 ·obtain⟨b,rfl,ob,nn⟩:=h
  refine⟨b,rfl,⟨ob.nf,oo b ob.no,ob.he⟩,λi e ho q=>?_⟩
  rcases owni i e ho with ⟨rfl,_⟩|⟨hi,ho'⟩
  ·rw[ha]at q
   injection q with q;injection q with q;injection q with q
   subst q
   exact nn 0 c' (.inr rfl) rfl
  ·obtain⟨b',eb,ob'⟩:=S.ow i e ho'
   rw[q]at eb
   injection eb with eb;injection eb with eb;injection eb with eb
   subst eb
   obtain⟨o,hh⟩:=ob'.he.some
   have:=ob.no
   rw[show(⟨P1 a,zy_ G σ ρ H (some a),F⟩:Gh).O b=zy_ G σ ρ H (some a) b from rfl,j0_ ho' q (λz=>nea i e b hi ho' q (Option.some.inj z)),hh]at this
   cases this
end
noncomputable abbrev fzs(ds:List D):En:=(ds.map AV.fz).map some
noncomputable def KD:KS D:=⟨λ_=>.ret .none,λd _=>.ret d,λ_ _=>.bad,λ_=>.bad,λ_=>.bad,λe _=>.exc e⟩
noncomputable def KL:KS (List D):=⟨λ_=>.bad,λ_ _=>.bad,λds _=>.ret ds,λ_=>.bad,λ_=>.bad,λe _=>.exc e⟩
noncomputable def at0{S:Type}(ρ:En)(k:List D->M S):M S:=match (ρ[0]? : Option (Option AV))with
 | some (some (AV.op (OC.l f)))=>k f
 | _=>.bad
def K1:KS (D×List D):=⟨λρ=>at0 ρ λf=>.ret (.none,f),λd ρ=>at0 ρ λf=>.ret (d,f),λ_ _=>.bad,λ_=>.bad,λ_=>.bad,λe _=>.exc e⟩
def EndM(K:Fg)(G:Gh)(E:XK){α:Type}(m:M α)(C:α->Prop):Prop:=match m with
 | .ret a=>C a
 | .exc x=>∀F' H' Cl dd,GOk G F' H'->XR K F' Cl dd x->E (.ref Cl) dd H'
 | .bad=>False
def spD(K:Fg)(n:Nat)(mf:List D->M D):Sp:=λvs H Q E=>∃G F ds,vs.length=n/\StOk K G F (vs.map some) H (fzs ds)/\EndM K G E (mf ds) λd=>∀v F' H',Same F F'->StOk K G F' (vs.map some) H' (fzs ds)->Rep K F' v d->Q v H'
def spL(K:Fg)(n:Nat)(mf:List D->M (List D)):Sp:=λvs H Q E=>∃G F ds,vs.length=n/\StOk K G F (vs.map some) H (fzs ds)/\EndM K G E (mf ds) λd=>∀v F' H',Same F F'->StOk K G F' (vs.map some) H' (fzs ds)->Frs K G F' (vs.map some) H' (fzs ds) v (.l d)->Q v H'
def sp1(K:Fg)(n:Nat)(mf:List D->List D->M (D×List D)):Sp:=λvs H Q E=>∃G F f ds,vs.length=n/\StOk K G F (vs.map some) H (some (.op (.l f))::fzs ds)/\EndM K G E (mf f ds) λr =>
 ∀v F' H',Same F F'->StOk K G F' (vs.map some) H' (some (.op (.l r.2))::fzs ds)->Rep K F' v r.1->Q v H'
section
variable {K:Fg}{G:Gh}{F F' H H':Hp}{vs:List V}{σ:L2.St}{ρ:En}{ds:List D}
theorem YW_(S:StOk K G F (vs.map some) H (fzs ds))(s1:Same F F')(S1:StOk K G F' σ H' ρ):StOk K G F' (vs.map some) H' (fzs ds):=by
 refine⟨S1.fh,S1.oh,S1.fo,S.ln,λi d q=>?_,λi c q=>(yj_ q).elim,λi j c e a q=>(yj_ q).elim,S.pp,S.pq,S1.fb⟩
 obtain⟨v,e,r⟩:=S.fz i d q
 exact⟨v,e,r.mono s1⟩
theorem zfl_{v:V}{c:OC}(S1:StOk K G F' σ H' ρ)(h:Frs K G F' σ H' ρ v c):Frs K G F' (vs.map some) H' (fzs ds) v c:=by
 obtain⟨a,rfl,oa,_⟩:=h
 exact⟨a,rfl,oa,λi e q=>(yj_ q).elim⟩
theorem own1{f:List D}{i:Nat}{c:OC}(h:own (some (.op (.l f))::fzs ds) i c):i=0/\c=.l f:=by
 cases i with
 | zero=>rcases h with h|h<;>simp at h;exact⟨rfl,h.symm⟩
 | succ i=>exact(yj_ (ds:=ds) (i:=i) (c:=c) (by unfold own at h ⊢;simpa using h)).elim
theorem zdq_{f f':List D}(S:StOk K G F (vs.map some) H (some (.op (.l f))::fzs ds))(s1:Same F F')(S1:StOk K G F' σ H' ρ)(h0:ρ[0]? = some (some (.op (.l f')))) :
  StOk K G F' (vs.map some) H' (some (.op (.l f'))::fzs ds)/\∀v c,Frs K G F' σ H' ρ v c->Frs K G F' (vs.map some) H' (some (.op (.l f'))::fzs ds) v c:=by
 obtain⟨a,ha⟩:=S1.pq 0 _ h0
 obtain⟨e1,_⟩:=S1.pp 0 a ha
 obtain⟨e2,_⟩:=S.pp 0 a ha
 obtain⟨b,eb,ob⟩:=S1.ow 0 _ (.inr h0)
 rw[e1]at eb
 injection eb with eb;injection eb with eb;injection eb with eb
 subst eb
 have only:∀i b,G.P i=some b->i=0:=λi b h=>by
  obtain⟨_,c,q⟩:=S.pp i b h
  exact(own1 (.inr q)).1
 refine⟨⟨S1.fh,S1.oh,S1.fo,S.ln,λi d q=>?_,λi c q=>?_,λi j c e b q1 q2 _ _=>?_,λi b q=>?_,λi c q=>?_,S1.fb⟩,λv c h=>?_⟩
 ·cases i with
  | zero=>simp at q
  | succ i =>
   obtain⟨v,e,r⟩:=S.fz (i+1) d (by simpa using q)
   exact⟨v,e,r.mono s1⟩
 ·obtain⟨rfl,rfl⟩:=own1 q
  exact⟨a,e2,ob⟩
 ·rw[(own1 q1).1,(own1 q2).1]
 ·have:=only i b q
  subst this
  exact⟨(S.pp 0 b q).1,_,rfl⟩
 ·obtain⟨rfl,_⟩:=own1 (.inr q)
  exact⟨a,ha⟩
 ·obtain⟨b,rfl,ob2,nn⟩:=h
  refine⟨b,rfl,ob2,λi e q z=>?_⟩
  obtain⟨rfl,rfl⟩:=own1 q
  rw[e2]at z
  injection z with z;injection z with z;injection z with z
  subst z
  exact nn 0 _ (.inr h0) e1
end
section
variable {P:Program}{w:World}{K:Fg}{mg:Str->Option Value}{base:Heap}{x qual:Str}{st:Stmt}{f:Addr}{fd:FuncData}{N ps:List Str}{k:Nat}
theorem J3_{vs:List V}{ds:List D}{G:Gh}{F H:Hp}(hl:vs.length=ps.length)(S0:StOk K G F (vs.map some) H (fzs ds)):StOk K G F (L2.start N vs) H (fzs ds++List.replicate (N.length - ps.length) none):=by
 have e0:L2.start N vs=vs.map some++List.replicate (N.length - ps.length) none:=by unfold L2.start;rw[hl]
 rw[e0]
 exact S0.grow _
theorem fn_x{sp:Sp}(Fn:Fun K x qual st f fd)(S:FnScope N ps (zd_ st))(len:∀vs H Q E,sp vs H Q E->vs.length=ps.length)
  (hbody:∀(cdv:Value) (A:Around) (outer:List Env) (s:Shared) (H:Hp) (vs:List V) (Q:VK) (E:XK),Room k (A.deeper (envOfC qual (zd_ st) s.heap.objs.size f cdv))->sp vs H Q E ->
   ∃t,PSs (cxOf (CX1 P w) P w K mg base N qual (zd_ st) f cdv A outer s H E) (zK_ st) t/\t { nx:=λ_ H'=>Q .non H',rt:=Q } (start N vs) H):FnOk P w K mg base (CX1 P w) (k+1) f fd ps sp:=by
 obtain⟨oc,od,kV,doc,pm,an,cdv,ct,osl,rfl,lk,hcd⟩:=Fn.ex
 exact zhA_ lk hcd S len λA outer s H vs Q E hr hsp=>hbody cdv A outer s H vs Q E hr hsp
theorem zcc_{α:Type}{C:α->Prop}{N:List Str}{qual:Str}{scope:Scope}{f:Addr}{cdv:Value}{A:Around}{outer:List Env}{s:Shared}{H F:Hp}{E:XK}{G:Gh}{ρ:En}{e:Ex}(h:EndM K G E (M.exc e:M α) C):XW (cxOf (CX1 P w) P w K mg base N qual scope f cdv A outer s H E) G F ρ e :=
 λF' H' s' a Cl dd pins σ g _ I xs _ xr=>zeM_ I xs (h F' H' Cl dd g xr)
theorem jj_{mb:SM D}{mf:List D->M D}(Fn:Fun K x qual st f fd)(Sc:FnScope N ps (zd_ st))
  (hb:∀(cdv:Value) (A:Around) (outer:List Env) (s:Shared) (H:Hp) (E:XK),Room k (A.deeper (envOfC qual (zd_ st) s.heap.objs.size f cdv)) ->
   ASs (cxOf (CX1 P w) P w K mg base N qual (zd_ st) f cdv A outer s H E) (zK_ st) mb)
  (hm:∀ds,ds.length=ps.length->mf ds=mb KD (fzs ds++List.replicate (N.length - ps.length) none)):FnOk P w K mg base (CX1 P w) (k+1) f fd ps (spD K ps.length mf):=by
 refine fn_x Fn Sc (λvs H Q E h=>?_) (λcdv A outer s H vs Q E hr h=>?_)
 ·obtain⟨_,_,_,h1,_⟩:=h;exact h1
 ·obtain⟨G,F0,ds,h1,S0,e⟩:=h
  have hl:ds.length=ps.length:=by have:=S0.ln;simp at this;lia
  rw[hm ds hl]at e
  refine⟨_,jT_,hb cdv A outer s H E hr (λm=>EndM K G E m _) KD G F0 _ H _ _ (λz=>z) (λF ρ e z=>zcc_ z) (J3_ h1 S0) e ?_⟩
  exact⟨λF' σ' H' ρ' s S' o=>(by exact o .non F' H' s (YW_ S0 s S') .non),λF' σ' H' ρ' d' v s S' r o=>(by exact o v F' H' s (YW_ S0 s S') r),λF' σ' H' ρ' d' v s S' r o=>(o:False).elim,λF' σ' H' ρ' s S' o=>(o:False).elim,λF' σ' H' ρ' s S' o=>(o:False).elim⟩
theorem zhz_{mb:SM (List D)}{mf:List D->M (List D)}(Fn:Fun K x qual st f fd)(Sc:FnScope N ps (zd_ st))
  (hb:∀(cdv:Value) (A:Around) (outer:List Env) (s:Shared) (H:Hp) (E:XK),Room k (A.deeper (envOfC qual (zd_ st) s.heap.objs.size f cdv)) ->
   ASs (cxOf (CX1 P w) P w K mg base N qual (zd_ st) f cdv A outer s H E) (zK_ st) mb)
  (hm:∀ds,ds.length=ps.length->mf ds=mb KL (fzs ds++List.replicate (N.length - ps.length) none)):FnOk P w K mg base (CX1 P w) (k+1) f fd ps (spL K ps.length mf):=by
 refine fn_x Fn Sc (λvs H Q E h=>?_) (λcdv A outer s H vs Q E hr h=>?_)
 ·obtain⟨_,_,_,h1,_⟩:=h;exact h1
 ·obtain⟨G,F0,ds,h1,S0,e⟩:=h
  have hl:ds.length=ps.length:=by have:=S0.ln;simp at this;lia
  rw[hm ds hl]at e
  refine⟨_,jT_,hb cdv A outer s H E hr (λm=>EndM K G E m _) KL G F0 _ H _ _ (λz=>z) (λF ρ e z=>zcc_ z) (J3_ h1 S0) e ?_⟩
  exact⟨λF' σ' H' ρ' s S' o=>(o:False).elim,λF' σ' H' ρ' d' v s S' r o=>(o:False).elim,λF' σ' H' ρ' d' v s S' r o=>(by exact o v F' H' s (YW_ S0 s S') (zfl_ S' r)),λF' σ' H' ρ' s S' o=>(o:False).elim,λF' σ' H' ρ' s S' o=>(o:False).elim⟩
theorem zdu_{S:Type}{ρ:En}{k:List D->M S}{K:Fg}{G:Gh}{E:XK}{C:S->Prop}(h:EndM K G E (at0 ρ k) C):∃f,ρ[0]? = some (some (AV.op (OC.l f)))/\EndM K G E (k f) C:=by
 unfold at0 at h
 split at h
 ·rename_i f q;exact⟨f,q,h⟩
 ·exact h.elim
theorem zdL_{vs:List V}{ds g:List D}{G:Gh}{F H:Hp}(hl:vs.length=ps.length)(S0:StOk K G F (vs.map some) H (some (.op (.l g))::fzs ds)):StOk K G F (L2.start N vs) H (some (.op (.l g))::fzs ds++List.replicate (N.length - ps.length) none):=by
 have e0:L2.start N vs=vs.map some++List.replicate (N.length - ps.length) none:=by unfold L2.start;rw[hl]
 rw[e0]
 exact S0.grow _
theorem Yz_{mb:SM (D×List D)}{mf:List D->List D->M (D×List D)}(Fn:Fun K x qual st f fd)(Sc:FnScope N ps (zd_ st))
  (hb:∀(cdv:Value) (A:Around) (outer:List Env) (s:Shared) (H:Hp) (E:XK),Room k (A.deeper (envOfC qual (zd_ st) s.heap.objs.size f cdv)) ->
   ASs (cxOf (CX1 P w) P w K mg base N qual (zd_ st) f cdv A outer s H E) (zK_ st) mb)
  (hm:∀g ds,ds.length+1=ps.length->mf g ds=mb K1 (some (.op (.l g))::fzs ds++List.replicate (N.length - ps.length) none)):FnOk P w K mg base (CX1 P w) (k+1) f fd ps (sp1 K ps.length mf):=by
 refine fn_x Fn Sc (λvs H Q E h=>?_) (λcdv A outer s H vs Q E hr h=>?_)
 ·obtain⟨_,_,_,_,h1,_⟩:=h;exact h1
 ·obtain⟨G,F0,g,ds,h1,S0,e⟩:=h
  have hl:ds.length+1=ps.length:=by have:=S0.ln;simp at this;lia
  rw[hm g ds hl]at e
  refine⟨_,jT_,hb cdv A outer s H E hr (λm=>EndM K G E m _) K1 G F0 _ H _ _ (λz=>z) (λF ρ e z=>zcc_ z) (zdL_ h1 S0) e ?_⟩
  refine⟨λF' σ' H' ρ' s S' o=>?_,λF' σ' H' ρ' d' v s S' rv o=>?_,λF' σ' H' ρ' d' v s S' r o=>(o:False).elim,λF' σ' H' ρ' s S' o=>(o:False).elim,λF' σ' H' ρ' s S' o=>(o:False).elim⟩
  ·obtain⟨f',q,e'⟩:=zdu_ o
   exact e' .non F' H' s (zdq_ S0 s S' q).1 .non
  ·obtain⟨f',q,e'⟩:=zdu_ o
   exact e' v F' H' s (zdq_ S0 s S' q).1 rv
end
structure CF(P:Program)(w:World)(K:Fg)(mg:Str->Option Value)(base:Heap)(x:Str)(k:Nat)(sp:Sp):Prop where
 ex:∃(f:Addr) (fd:FuncData) (ps:List Str),FnOk P w K mg base (CX1 P w) k f fd ps sp/\mg x=some (.ref f)/\PySem.W.keepIn K (.ref f)=true/\L2.Binds K fd ps []
noncomputable def pFnD(mf:List D->M D)(ps:Pa D):Pu D:=λρ=>ps (λds=>mf ds) ρ
noncomputable def pFnL(mf:List D->M (List D))(ps:Pa (List D)):Pu (List D):=λρ=>ps (λds=>mf ds) ρ
section
variable {S:Type}
def eFn1(mf:List D->List D->M (D×List D))(i:Nat)(ms:Ev S (List D)):Ev S D:=λx k ρ=>ms x (λds ρ1=>match ownL ρ1 i with
 | some f=>(mf f ds).on (λe=>x e ρ1) (λr=>k r.1 (setO ρ1 i r.2))
 | none=>.bad) ρ
end
noncomputable def EX(X:Cx)(G:Gh)(σ:L2.St):XK:=λc dd H'=>∃x ρ F1 F' C,c=.ref C/\XW X G F1 ρ x/\GOk G F' H'/\FzOk X.K F' σ ρ/\XR X.K F' C dd x
theorem XS.older{H:Hp}{h:Heap}{lo lo':Nat}{e C:Addr}{dd:Option Addr}(xs:XS H h lo e C dd)(hl:lo'<=lo):XS H h lo' e C dd:=by
 obtain⟨oe,vs,q,c,d,z,z1,k⟩:=xs.obj
 refine⟨Nat.le_trans hl xs.yg,xs.trk,oe,vs,q,c,d,z,z1,k.imp id ?_⟩
 rintro⟨T,oT,ts,k,ne,l,r⟩
 exact⟨T,oT,ts,k,ne,Nat.le_trans hl l,r⟩
def UH_(X:Cx)(σ:L2.St)(E:XK):Prop:=∀(pins:List (Addr×Obj)) (H:Hp) (s:Shared) (e:Value) (s':Shared),Inv X pins σ H s->CX1 X.prog X.w X.stack H s E e s'->X.xe e s'
theorem zes_{X:Cx}{G:Gh}{σ:L2.St}:UH_ X σ (EX X G σ):=λpins H s e s' I h=>by
 obtain⟨a,C,dd,H',rfl,ho,hb,un,hk,xs,x,ρ,F1,F',C',ec,xw,g,fz,xr⟩:=h
 cases ec
 refine xw F' H' s' a C dd pins σ g fz (I.call' ho un hk hb λb z=>absurd z (by simp)) (xs.older I.sz) (λp hp z=>?_) xr
 exact absurd (Nat.lt_of_lt_of_le (Heap.lt_size (I.pin p hp).1) (xs.tb z).2.1) (Nat.lt_irrefl _)
theorem EX.of{X:Cx}{G:Gh}{F F' H' H:Hp}{σ:L2.St}{ρ:En}{x:Ex}{C:Addr}{dd:Option Addr}{ex:Option Addr}{p:Nat->Option Addr}(S:StOk X.K G F σ H ρ)(xw:XW X G F ρ x)(g:GOk ⟨p,zy_ G σ ρ H ex,F⟩ F' H')(xr:XR X.K F' C dd x):EX X G σ (.ref C) dd H' :=
 ⟨x,ρ,F,F',C,rfl,xw,⟨g.fh,λb o h=>g.oh b o (z3_ S h),λb o h=>g.fo b o (z3_ S h),S.fb.trans g.fb⟩,S.fzok g.fb,xr⟩
section
variable {X:Cx}{k:Nat}{f:Addr}{fd:FuncData}{ps:List Str}{sp:Sp}{E:XK}{x:Str}{p pos:Pos}{e:Expr}{es:List Expr}{σ:L2.St}{H:Hp}{Q:VK}
theorem zgc_{pins:List (Addr×Obj)}{s:Shared}{us:List Value}{vs:List V}(F:FnOk X.prog X.w X.K X.mg X.base (CX1 X.prog X.w) k f fd ps sp)(hr:Room k X.A)(hb:L2.Binds X.K fd ps [])(hx:UH_ X σ E)
  (I:Inv X pins σ H s) (r:Vals vs us) (h:sp vs H Q E):wpAny (model X.prog X.w) X.A (call (.ref f) us) (EP X pins σ Q) X.xe s:=by
 have hl:(us++[]).length=ps.length:=by rw[List.append_nil,<-r.length];exact F.len _ _ _ _ h
 have bb:=hb s us I.kIn hl
 rw[List.append_nil]at bb
 refine wpAny_call (codeAny_mono (F.run X.A X.stack s H ⟨us,[]⟩ us vs Q E hr I.env0 bb r h) λr s' hq=>?_)
 cases r with
 | error e=>exact hx pins H s e s' I hq
 | ok fl =>
  cases fl with
  | ret u=>exact I.after hq
  | next=>exact False.elim hq
  | brk=>exact False.elim hq
  | cont=>exact False.elim hq
theorem J6_(F:FnOk X.prog X.w X.K X.mg X.base (CX1 X.prog X.w) k f fd ps sp)(hr:Room k X.A)(hg:Gl X x)(hm:X.mg x=some (.ref f))(hk:PySem.W.keepIn X.K (.ref f)=true)(hb:L2.Binds X.K fd ps [])(hx:UH_ X σ E)
  (hdb:(x==("__debug__" : Str))=false) (he:starEach (e::es) X.env=(false,eval e X.env)::starEach es X.env) (hpl:(backTo pos (starEach es X.env)).any (·.1)=false)
  (h:yD_ X (e::es) σ H λvs H1=>sp vs H1 Q E):tSem X (.Call (.Name x p) (e::es) [] pos) σ H Q:=by
 unfold tSem
 intro pins s I
 unfold yD_ at h
 refine wpAny_Call_Name_kw (Qo_ I hg hm ?_ hdb)
 refine PySem.W.callWith_K (h₀:=X.base) I.ok.mod.kin hk (thn (h pos pins s I) λus s1 ⟨vs,H1,I1,r,q⟩=>⟨I1.kIn,?_⟩) he hpl
 exact zgc_ F hr hb hx I1 r q
end
section
variable {S:Type}{X:Cx}{k n:Nat}{mf:List D->M D}{ml:List D->M (List D)}{m1:List D->List D->M (D×List D)}{m1L:List D->List D->M (List D×List D)}{x:Str}{p pos pn:Pos}{e:Expr}{es:List Expr}{ps:Pa D}{pl:Pa (List D)}{ms:Ev S (List D)}
theorem z8_(C:CF X.prog X.w X.K X.mg X.base x k (spD X.K n mf))(hr:Room k X.A)(hg:Gl X x)(ha:AA X (e::es) ps)(hn:(e::es).length=n)
  (hdb:(x==("__debug__" : Str))=false) (he:starEach (e::es) X.env=(false,eval e X.env)::starEach es X.env) (hpl:(backTo pos (starEach es X.env)).any (·.1)=false):AP X (.Call (.Name x p) (e::es) [] pos) (pFnD mf ps):=by
 obtain⟨f,fd,pl,Fn,h1,h2,h3⟩:=C.ex
 intro G F σ H ρ Q St w
 refine J6_ Fn hr hg h1 h2 h3 (zes_ (G:=G)) hdb he hpl ?_
 refine ha G F σ H ρ _ _ _ St w λds vs F1 H1 s1 S1 hl r1 w1=>?_
 show spD X.K n mf vs H1 Q (EX X G σ)
 cases hd:mf ds with
 | bad=>rw[hd]at w1;exact w1.elim
 | exc e =>
  rw[hd]at w1
  exact⟨_,F1,ds,hl.trans hn,ys_ S1 r1,by rw[hd];exact λF' H' Cl dd g xr=>EX.of S1 w1 g xr⟩
 | ret d =>
  rw[hd]at w1
  refine⟨_,F1,ds,hl.trans hn,ys_ S1 r1,?_⟩
  rw[hd]
  intro v F2 H2 s2 S2 r2
  obtain⟨S3,t3⟩:=JU_ (avs':=ds.map AV.fz) S1 s2 S2
  exact w1 F2 H2 s2 S3 v r2
theorem zjh_(C:CF X.prog X.w X.K X.mg X.base x k (spL X.K n ml))(hr:Room k X.A)(hg:Gl X x)(ha:AA X (e::es) pl)(hn:(e::es).length=n)
  (hdb:(x==("__debug__" : Str))=false) (he:starEach (e::es) X.env=(false,eval e X.env)::starEach es X.env) (hpl:(backTo pos (starEach es X.env)).any (·.1)=false):AL X (.Call (.Name x p) (e::es) [] pos) (pFnL ml pl):=by
 obtain⟨f,fd,pz,Fn,h1,h2,h3⟩:=C.ex
 intro G F σ H ρ Q St w
 refine J6_ Fn hr hg h1 h2 h3 (zes_ (G:=G)) hdb he hpl ?_
 refine ha G F σ H ρ _ _ _ St w λds vs F1 H1 s1 S1 hl r1 w1=>?_
 show spL X.K n ml vs H1 Q (EX X G σ)
 cases hd:ml ds with
 | bad=>rw[hd]at w1;exact w1.elim
 | exc e =>
  rw[hd]at w1
  exact⟨_,F1,ds,hl.trans hn,ys_ S1 r1,by rw[hd];exact λF' H' Cl dd g xr=>EX.of S1 w1 g xr⟩
 | ret d =>
  rw[hd]at w1
  refine⟨_,F1,ds,hl.trans hn,ys_ S1 r1,?_⟩
  rw[hd]
  intro v F2 H2 s2 S2 r2
  obtain⟨S3,t3⟩:=JU_ (avs':=ds.map AV.fz) S1 s2 S2
  exact w1 F2 H2 s2 S3 v (t3 v _ r2)
theorem WH_{ρ:En}{i:Nat}{f g:List D}(h:ownL ρ i=some g):setO ρ i f=setC ρ i (.l f):=ZG_ ρ i f g h
theorem Wj_{i:Nat}{y:Str}{OK:M S->Prop}{z:Ex->En->M S}{kk:List D->En->M S}{G:Gh}{F H:Hp}{σ:L2.St}{ρ:En}{Q:List V->Hp->Prop}(hN:X.N[i]? = some y)(hv:Vis X.env.scope y)(hd:(y==("__debug__" : Str))=false)(hcd:(y==("__classdict__" : Str))=false)
  (ha:AEa X es ms) (he:starEach (.Name y pn::es) X.env=(false,eval (.Name y pn) X.env)::starEach es X.env) (hO:KOk OK) (hX:XL X OK z G) (St:StOk X.K G F σ H ρ) (ok:OK (ms z (λds ρ1=>match ownL ρ1 i with|some f=>kk (.list f::ds) ρ1|none=>.bad) ρ))
  (h0:(ownL ρ i).isSome=true)
  (k2:∀a f ds vs F' H' ρ',Same F F'->StOk X.K G F' σ H' ρ'->ownL ρ' i=some f->σ[i]? = some (some (V.ref a))->vs.length=es.length->RepL X.K F' vs ds->OK (kk (.list f::ds) ρ')->Q (.ref a::vs) H'):yD_ X (.Name y pn::es) σ H Q:=by
 obtain⟨f0,hf0⟩:=Option.isSome_iff_exists.mp h0
 obtain⟨a,_,ea,_,_⟩:=uh_ St hf0
 refine semA (yK_ (uK_ hN hv hd hcd) zS_ he) ⟨_,ea,?_⟩
 refine ha OK z _ G F σ H ρ _ hO hX St ok λds vs F1 H1 ρ1 s1 S1 hl r1 o1=>?_
 split at o1
 ·rename_i f hf
  exact k2 a f ds vs F1 H1 ρ1 s1 S1 hf ea hl r1 o1
 ·exact(hO o1).elim
def ck{S α:Type}(i:Nat)(m:Ev S α):Ev S α:=λx k ρ=>match (ownL ρ i).isSome with
 | true=>m x k ρ
 | false=>.bad
theorem JT_{K:Fg}{G:Gh}{F H:Hp}{σ:L2.St}{ρ:En}{vs:List V}{ds f:List D}{j:Nat}{a:Addr}(S:StOk K G F σ H ρ)(hj:ownL ρ j=some f)(ha:σ[j]? = some (some (V.ref a)))(r:RepL K F vs ds) :
  StOk K ⟨P1 a,zy_ G σ ρ H (some a),F⟩ F ((V.ref a::vs).map some) H (some (.op (.l f))::fzs ds):=zae_ S (Zk_ hj) ha r
theorem z9_{i:Nat}{y:Str}(C:CF X.prog X.w X.K X.mg X.base x k (sp1 X.K n m1))(hr:Room k X.A)(hg:Gl X x)(hN:X.N[i]? = some y)(hv:Vis X.env.scope y)(ha:AEa X es ms)(hn:es.length+1=n)
  (hdb:(x==("__debug__" : Str))=false) (he:starEach (.Name y pn::es) X.env=(false,eval (.Name y pn) X.env)::starEach es X.env) (hpl:(backTo pos (starEach es X.env)).any (·.1)=false)
  (hd:(y==("__debug__" : Str))=false:=by decide) (hcd:(y==("__classdict__" : Str))=false:=by decide):AE X (.Call (.Name x p) (.Name y pn::es) [] pos) (ck i (eFn1 m1 i ms)):=by
 obtain⟨f,fd,pl,Fn,h1,h2,h3⟩:=C.ex
 intro OK z kk G F σ H ρ Q hO hX St ok k2
 unfold ck at ok
 split at ok
 case h_2=>exact(hO ok).elim
 rename_i h0
 refine J6_ Fn hr hg h1 h2 h3 (zes_ (G:=G)) hdb he hpl ?_
 refine Wj_ (OK:=OK) (z:=z) (kk:=λl ρ1=>match l with | .list f::ds=>(m1 f ds).on (λe=>z e ρ1) (λr=>kk r.1 (setO ρ1 i r.2))|_=>.bad) hN hv hd hcd ha he hO hX St ok h0 λa f ds vs F1 H1 ρ1 s1 S1 hf ea hl r1 o1=>?_
 have o1':OK ((m1 f ds).on (λe=>z e ρ1) (λr=>kk r.1 (setO ρ1 i r.2))):=o1
 show sp1 X.K n m1 (V.ref a::vs) H1 Q (EX X G σ)
 cases hd:m1 f ds with
 | bad=>rw[hd]at o1';exact(hO o1').elim
 | exc e =>
  rw[hd]at o1'
  exact⟨_,F1,f,ds,by simp[hl];exact hn,JT_ S1 hf ea r1,by rw[hd];exact λF' H' Cl dd g xr=>EX.of S1 (hX F1 ρ1 e o1') g xr⟩
 | ret r =>
  rw[hd]at o1'
  refine⟨_,F1,f,ds,by simp[hl];exact hn,JT_ S1 hf ea r1,?_⟩
  rw[hd]
  intro v F2 H2 s2 S2 r2
  obtain⟨S3,t3⟩:=Wg_ (c':=.l r.2) (l:=ds.map AV.fz) S1 (Zk_ hf) ea s2 S2
  rw[<-WH_ hf]at S3
  exact k2 r.1 v F2 H2 _ (s1.trans s2) S3 r2 o1'
end
theorem zf_{k:Nat}{A:Around}(r:Room k A):A.units+1100<cLine:=by have:=r.un;lia
noncomputable def noX{S:Type}(m:M S):M S:=match m with
 | .ret s=>.ret s
 | _=>.bad
theorem uZ_{S:Type}(s:S):noX (M.ret s)=.ret s:=rfl
def jm_(step:D->M (Option D)):List D->M (List D)
 | []=>.ret []
 | d::r=>bd (noX (step d)) λo=>bd (jm_ step r) λxs=>.ret (o.toList++xs)
theorem Vm_{step:D->M (Option D)}:∀{ds:List D} {e:Ex},jm_ step ds≠.exc e
 | [],e,h=>by cases h
 | d::r,e,h=>by
  unfold jm_ at h
  cases hs:step d with
  | ret o =>
   rw[hs,uZ_,Za_]at h
   cases hr:jm_ step r with
   | ret xs=>rw[hr]at h;cases h
   | exc e'=>exact Vm_ hr
   | bad=>rw[hr]at h;cases h
  | exc e'=>rw[hs]at h;cases h
  | bad=>rw[hs]at h;cases h
def zbm_(k:Nat)(it:Pu (List D))(t:Tg (Option D))(pt:Pu Bool)(pe:Pu D):Pu (List D):=λρ=>bd (it ρ) λds =>
 bd (jm_ (λd=>t d (λρ1=>bd (pt ρ1) λb=>if b then bd (pe ρ1) λv=>.ret (some v)else .ret none) (ρ++List.replicate k none)) ds) fitM
def uH_{T:Type}(step:T->D->M (Option D×T)):List D->T->M (List D×T)
 | [],s=>.ret ([],s)
 | d::r,s=>bd (noX (step s d)) λp=>bd (uH_ step r p.2) λq=>.ret (p.1.toList++q.1,q.2)
theorem Vk_{T:Type}{step:T->D->M (Option D×T)}:∀{ds:List D} {s:T} {e:Ex},uH_ step ds s≠.exc e
 | [],s,e,h=>by cases h
 | d::r,s,e,h=>by
  unfold uH_ at h
  cases hs:step s d with
  | ret o =>
   rw[hs,uZ_,Za_]at h
   cases hr:uH_ step r o.2 with
   | ret xs=>rw[hr]at h;cases h
   | exc e'=>exact Vk_ hr
   | bad=>rw[hr]at h;cases h
  | exc e'=>rw[hs]at h;cases h
  | bad=>rw[hs]at h;cases h
def zhD_{S:Type}(sh:List Kd)(k:Nat)(it:Ev S (List D))(t:Tg (Option D×SOf sh))(et:Ev (Option D×SOf sh) Bool)(ee:Ev (Option D×SOf sh) D):Ev S (List D):=λx kk ρ=>it x (λds ρ1=>rdk sh (λs =>
 (uH_ (λs d=>t d (λρ2=>et (λe _=>.exc e) (λb ρ3=>if b then ee (λe _=>.exc e) (λv ρ4=>rdk sh (λs'=>.ret (some v,s')) (ρ4.take sh.length)) ρ3 else rdk sh (λs'=>.ret (none,s')) (ρ3.take sh.length)) ρ2) (wr sh s++List.replicate k none)) ds s).on
  (λe=>x e ρ1) (λq=>(fitM q.1).on (λe=>x e ρ1) (λout=>kk out (wr sh q.2)))) ρ1) ρ
noncomputable def ziB_:Pu Bool:=λ_=>.ret true
def ATs(X:Cx)(ifs:List Expr)(p:Pu Bool):Prop :=
 ∀(G:Gh) (F:Hp) (σ:L2.St) (H:Hp) (ρ:En) (Q:Bool->Hp->Prop),StOk X.K G F σ H ρ->W X G F σ ρ (p ρ) (λd F' H'=>Q d H')->∀(pins:List (Addr×Obj)) (s:Shared),Inv X pins σ H s ->
  wpAny (model X.prog X.w) X.A (forIn ifs true λc r=>if r=true then do let ok <-isTrue c X.env (eval c X.env);pure (ForInStep.yield ok)else pure (ForInStep.yield r)) (TP X pins σ Q) X.xe s
theorem Jh_{X:Cx}:ATs X [] ziB_:=λG F σ H ρ Q S w pins s I=>zec_ pins s σ H Q I (w F H (Same.refl _) S)
theorem QE_{X:Cx}{c:Expr}{p:Pu Bool}(h:AT X c p):ATs X [c] p:=λG F σ H ρ Q S w pins s I=>zeb_ uf_ pins s σ H Q I (h G F σ H ρ Q S w)
def AEts{S:Type}(X:Cx)(ifs:List Expr)(m:Ev S Bool):Prop :=
 ∀(OK:M S->Prop) (x:Ex->En->M S) (k:Bool->En->M S) (G:Gh) (F:Hp) (σ:L2.St) (H:Hp) (ρ:En) (Q:Bool->Hp->Prop),KOk OK->XL X OK x G->StOk X.K G F σ H ρ->OK (m x k ρ) ->
  (∀d F' H' ρ',Same F F'->StOk X.K G F' σ H' ρ'->OK (k d ρ')->Q d H')->∀(pins:List (Addr×Obj)) (s:Shared),Inv X pins σ H s ->
  wpAny (model X.prog X.w) X.A (forIn ifs true λc r=>if r=true then do let ok <-isTrue c X.env (eval c X.env);pure (ForInStep.yield ok)else pure (ForInStep.yield r)) (TP X pins σ Q) X.xe s
theorem zaw_{S:Type}{X:Cx}{ifs:List Expr}{p:Pu Bool}(h:ATs X ifs p):AEts (S:=S) X ifs (ePu p):=λOK x k G F σ H ρ Q hO hX St ok kk=>h G F σ H ρ Q St (W.of hO hX ok λd F' H' s S' o=>kk d F' H' ρ s S' o)
theorem W.rets{X:Cx}{G:Gh}{F:Hp}{σ:L2.St}{ρ:En}{α:Type}{m:M α}{a:α}{C:α->Hp->Hp->Prop}(e:m=.ret a)(h:∀F' H',Same F F'->StOk X.K G F' σ H' ρ->C a F' H'):W X G F σ ρ m C:=by subst e;exact h
theorem zcD_:∀(sh:List Kd) (s:SOf sh),(wr sh s).length=sh.length:=by
 intro sh
 induction sh with
 | nil=>intro s;rfl
 | cons a r ih=>intro s;cases a<;>simp[wr,ih]
inductive CIv{τ:Type}(K:Fg)(G:Gh)(σ:L2.St)(k:Nat)(ds:List D)(F1:Hp)(en:τ->En)(go:Nat->τ->List D->Prop)(out:List D):Nat->Nat->List V->L2.St->Hp->Prop
 | mk {i:Nat} {vs:List V} {σ':L2.St} {H':Hp} (F':Hp) (acc rest:List D) (s:τ) (hi:i<=ds.length) (s2:Same F1 F') (S2:StOk K G F' σ' H' (en s)) (kp:∀j,j<σ.length->σ'[j]? = σ[j]?) (hl:σ'.length=σ.length+k) (rp:RepL K F' vs acc) (g:go i s rest) (eo:out=acc++rest):CIv K G σ k ds F1 en go out i (ds.length - i) vs σ' H'
theorem CIv.on{τ:Type}{K:Fg}{G:Gh}{σ:L2.St}{k:Nat}{ds:List D}{F1:Hp}{en:τ->En}{go:Nat->τ->List D->Prop}{out:List D}{i:Nat}{vs:List V}{σ':L2.St}{H':Hp}(F':Hp)(acc rest:List D)(s:τ)(hi:i<ds.length)(s2:Same F1 F')(S2:StOk K G F' σ' H' (en s))(kp:∀j,j<σ.length->σ'[j]? = σ[j]?)(hl:σ'.length=σ.length+k)(rp:RepL K F' vs acc)(g:go (i+1) s rest)(eo:out=acc++rest):∃m',m'<ds.length - i/\CIv K G σ k ds F1 en go out (i+1) m' vs σ' H' :=
 ⟨ds.length - (i+1),by lia,⟨F',acc,rest,s,hi,s2,S2,kp,hl,rp,g,eo⟩⟩
theorem Wd_{step:D->M (Option D)}{d:D}{r rest:List D}(h:jm_ step (d::r)=.ret rest):∃o rest',step d=.ret o/\jm_ step r=.ret rest'/\rest=o.toList++rest':=by
 unfold jm_ at h
 cases hs:step d with
 | bad=>rw[hs]at h;cases h
 | exc e=>rw[hs]at h;cases h
 | ret o =>
  rw[hs,uZ_,Za_]at h
  cases hr:jm_ step r with
  | bad=>rw[hr]at h;cases h
  | exc e=>rw[hr]at h;cases h
  | ret rest'=>rw[hr,Za_]at h;cases h;exact⟨o,rest',rfl,rfl,rfl⟩
theorem Wc_{T:Type}{step:T->D->M (Option D×T)}{d:D}{r rest:List D}{s sf:T}(h:uH_ step (d::r) s=.ret (rest,sf)):∃o sn rest',step s d=.ret (o,sn)/\uH_ step r sn=.ret (rest',sf)/\rest=o.toList++rest':=by
 unfold uH_ at h
 cases hs:step s d with
 | bad=>rw[hs]at h;cases h
 | exc e=>rw[hs]at h;cases h
 | ret o =>
  obtain⟨o,sn⟩:=o
  rw[hs,uZ_,Za_]at h
  cases hr:uH_ step r sn with
  | bad=>rw[hr]at h;cases h
  | exc e=>rw[hr]at h;cases h
  | ret q'=>obtain⟨rest',sf'⟩:=q';rw[hr,Za_]at h;cases h;exact⟨o,sn,rest',rfl,hr,rfl⟩
theorem YV_{A B:Type}{m:M A}{f:A->M B}{b:B}(h:bd m f=.ret b):∃a,m=.ret a/\f a=.ret b:=by
 cases m with
 | bad=>cases h
 | exc e=>cases h
 | ret a=>exact⟨a,rfl,h⟩
section
variable {X:Cx}
def WD_(X:Cx)(N':List Str)(scope:Scope)(tg:Expr):TG:=λv σ H Q=>∀cl s H0 fp C,VH_ (zB_ X N' scope cl s H0 fp C) tg v σ H Q
def WC_(X:Cx)(N':List Str)(scope:Scope)(ifs:List Expr):TT:=λσ H Q=>∀cl s0 H0 fp C,∀(pins:List (Addr×Obj)) (s:Shared),Inv (zB_ X N' scope cl s0 H0 fp C) pins σ H s ->
  wpAny (model X.prog X.w) (zB_ X N' scope cl s0 H0 fp C).A (forIn ifs true λc r=>if r=true then do let ok <-isTrue c (zB_ X N' scope cl s0 H0 fp C).env (eval c (zB_ X N' scope cl s0 H0 fp C).env);pure (ForInStep.yield ok)else pure (ForInStep.yield r)) (TP (zB_ X N' scope cl s0 H0 fp C) pins σ Q) (zB_ X N' scope cl s0 H0 fp C).xe s
def WE_(X:Cx)(N':List Str)(scope:Scope)(e:Expr):TE:=λσ H Q=>∀cl s H0 fp C,tSem (zB_ X N' scope cl s H0 fp C) e σ H Q
variable {elt tg iter:Expr}{ifs:List Expr}{scope:Scope}{pos:Pos}{N':List Str}{k:Nat}
theorem X9_{it:Pu (List D)}{t:Tg (Option D)}{pt:Pu Bool}{pe:Pu D}{G:Gh}{F:Hp}{σ:L2.St}{H:Hp}{ρ:En}{Q:VK}(hi:AI X tg iter it)
  (hg:∀cl s H fp C,AG (zB_ X N' scope cl s H fp C) X.N.length tg t) (ht:∀cl s H fp C,ATs (zB_ X N' scope cl s H fp C) ifs pt) (he:∀cl s H fp C,AP (zB_ X N' scope cl s H fp C) elt pe)
  (hσ:σ.length=X.N.length) (St:StOk X.K G F σ H ρ) (w:W X G F σ ρ (zbm_ k it t pt pe ρ) λds F' H'=>∀v,Frs X.K G F' σ H' ρ v (.l ds)->Q v H') :
  zaL_ (ZE_ X tg iter) k (WD_ X N' scope tg) (WC_ X N' scope ifs) (WE_ X N' scope elt) σ H Q:=by
 refine hi G F σ H ρ _ St (w.bind.imp λds F1 H1 s1 S1 w1 J wk=>?_)
 have hP:∀i a,G.P i=some a->i<σ.length:=λi a h=>(List.getElem?_eq_some_iff.mp (S1.pp i a h).1).1
 have hln:σ.length=ρ.length:=S1.ln
 have wc:=w1.bind
 revert wc
 generalize hstep:(λd=>t d (λρ1=>bd (pt ρ1) λb=>if b then bd (pe ρ1) λv=>.ret (some v)else .ret none) (ρ++List.replicate k none))=step
 intro wc
 cases hcc:jm_ step ds with
 | bad=>rw[hcc]at wc;exact wc.elim
 | exc e=>exact(Vm_ hcc).elim
 | ret out =>
  rw[hcc]at wc
  have wf:∀F' H',Same F1 F'->StOk X.K G F' σ H' ρ->W X G F' σ ρ (fitM out) λds F' H'=>∀v,Frs X.K G F' σ H' ρ v (.l ds)->Q v H':=wc
  have hfit:out.length<=sizeLine:=(wf F1 H1 (Same.refl _) S1).fit.1
  have fin:∀F' H',Same F1 F'->StOk X.K G F' σ H' ρ->∀v,Frs X.K G F' σ H' ρ v (.l out)->Q v H':=λF' H' s' S'=>(wf F' H' s' S').fit.2 F' H' (Same.refl _) S'
  have grown:∀{F' H' σ' ρ'},StOk X.K G F' σ' H' ρ'->(∀j,j<σ.length->σ'[j]? = σ[j]? /\ ρ'[j]? = ρ[j]?)->σ'.length=σ.length+k->StOk X.K G F' σ' H' (ρ++List.replicate k none):=λ{F' H' σ' ρ'} S' kp hl=>by
   refine S'.weak (by have:=S'.ln;simp;lia) (λi av q=>?_) (λi c q=>?_)
   ·have q':=uF_ q
    have hi:i<σ.length:=by rw[hln];exact(List.getElem?_eq_some_iff.mp q').1
    rw[(kp i hi).2];exact q'
   ·obtain⟨a,ha⟩:=S'.pq i c q
    have hi:=hP i a ha
    rw[List.getElem?_append_left (by lia),<-(kp i hi).2]
    exact q
  refine⟨CIv X.K G σ k ds F1 (λ_:Unit=>ρ++List.replicate k none) (λi _ rest=>jm_ step (ds.drop i)=.ret rest) out,
   ⟨_,⟨F1,[],out,(),Nat.zero_le _,Same.refl _,S1.grow k,λj hj=>by rw[List.getElem?_append_left hj],by simp,.nil,hcc,rfl⟩⟩,?_⟩
  rintro i m vs σ' H' ⟨F',acc,rest,_,hi,s2,S2,kp,hlen,rp,go,eo⟩
  refine⟨by rw[rp.length];rw[eo,zzf]at hfit;lia,?_⟩
  by_cases hlt:i<ds.length
  ·refine .inr ⟨wk.go i G F' σ' H' _ s2 S2 hlt,λx H2 y cl s0 H0 fp C=>?_⟩
   obtain⟨F3,s3,S3,r3⟩:=wk.yld i G F' σ' H' _ x H2 ds[i] s2 S2 (List.getElem?_eq_getElem hlt) y
   rw[List.drop_eq_getElem_cons hlt]at go
   obtain⟨o,rest',hst,hr,er⟩:=Wd_ go
   subst er
   clear go
   rw[<-hstep]at hst
   refine hg cl s0 H0 fp C (λm=>m=.ret o) _ G F3 σ' H2 _ x ds[i] _ (λz=>nomatch z) S3 r3 hst λσ3 ρ3 S4 kp3 hl3 ml3 o4=>?_
   have kp':∀j,j<σ.length->σ3[j]? = σ[j]? /\ ρ3[j]? = ρ[j]?:=λj hj=>⟨((kp3 j (by lia)).1).trans (kp j hj),by rw[(kp3 j (by lia)).2,List.getElem?_append_left (by lia)]⟩
   obtain⟨b,hpt,o4⟩:=YV_ o4
   intro cl s0 H0 fp C
   refine ht cl s0 H0 fp C G F3 σ3 H2 ρ3 _ S4 (W.rets hpt λF5 H5 s5 S5=>?_)
   cases b with
   | true =>
    refine iteT ?_
    obtain⟨v,hpe,o5⟩:=YV_ (m:=pe ρ3) o4
    cases o5
    intro cl s0 H0 fp C
    refine he cl s0 H0 fp C G F5 σ3 H5 ρ3 _ S5 (W.rets hpe λF6 H6 s6 S6 u ru=>?_)
    exact CIv.on F6 (acc++[v]) rest' () hlt (((s2.trans s3).trans s5).trans s6) (grown S6 kp' (by lia)) (λj hj=>(kp' j hj).1) (by lia) ((rp.mono ((s3.trans s5).trans s6)).append (.cons ru .nil)) hr (by rw[eo];simp)
   | false =>
    refine iteF ?_
    have o4':(M.ret none:M (Option D))=M.ret o:=o4
    cases o4'
    exact CIv.on F5 acc rest' () hlt ((s2.trans s3).trans s5) (grown S5 kp' (by lia)) (λj hj=>(kp' j hj).1) (by lia) (rp.mono (s3.trans s5)) hr (by rw[eo];simp)
  ·have ei:i=ds.length:=by lia
   subst ei
   rw[List.drop_length]at go
   cases go
   rw[List.append_nil]at eo
   subst eo
   refine .inl ⟨wk.stop G F' σ' H' _ s2 S2,λp hp=>?_⟩
   have Ssh:=S2.shrink (n:=σ.length) (by simp;lia) hP
   have e1:σ'.take σ.length=σ:=Jw_ kp rfl
   have e2:(ρ++List.replicate k none).take σ.length=ρ:=by rw[hln,List.take_left]
   rw[e1,e2]at Ssh
   obtain⟨S5,r5⟩:=Ssh.newLst hp rp
   exact fin F' _ s2 S5 _ r5
theorem QG_{it:Pu (List D)}{t:Tg (Option D)}{pt:Pu Bool}{pe:Pu D}(hc:X.calm=true)(Sc:CompOk X N' k scope)(hi:AI X tg iter it)
  (hg:∀cl s H fp C,AG (zB_ X N' scope cl s H fp C) X.N.length tg t) (ht:∀cl s H fp C,ATs (zB_ X N' scope cl s H fp C) ifs pt) (he:∀cl s H fp C,AP (zB_ X N' scope cl s H fp C) elt pe)
  (hs:∀x,foldedSetIterable iter X.env x=pure x):AL X (.ListComp elt [⟨tg,iter,ifs,0⟩] scope pos) (zbm_ k it t pt pe):=by
 intro G F σ H ρ Q St w;unfold tSem;intro pins s I
 refine W1_ (wi:=ZE_ X tg iter) (g:=WD_ X N' scope tg) (tc:=WC_ X N' scope ifs) (te:=WE_ X N' scope elt) hc Sc (λx hx hf=>I.ok.has x.1 (Sc.free x hx hf)) QW_
  (λcl s H fp C pins s' σ H v u Q I r h=>JF_ pins s' σ H v u Q I r (h cl _ _ fp C)) (λcl s H fp C pins s' σ H Q I h=>h cl _ _ fp C pins s' I) (λcl s H fp C pins s' σ H Q I h=>zm_ pins s' σ H Q I (h cl _ _ fp C)) hs pins s σ H Q I (X9_ hi hg ht he I.len St w)
theorem zcd_{S:Type}{sh:List Kd}{it:Ev S (List D)}{t:Tg (Option D×SOf sh)}{et:Ev (Option D×SOf sh) Bool}{ee:Ev (Option D×SOf sh) D}{OK:M S->Prop}{x:Ex->En->M S}{kk:List D->En->M S}{G:Gh}{F:Hp}{σ:L2.St}{H:Hp}{ρ:En}{Q:VK}(hi:AEi X tg iter it)
  (hg:∀cl s H fp C,AG (zB_ X N' scope cl s H fp C) X.N.length tg t) (ht:∀cl s H fp C,AEts (zB_ X N' scope cl s H fp C) ifs et) (he:∀cl s H fp C,AE (zB_ X N' scope cl s H fp C) elt ee)
  (hσ:σ.length=X.N.length) (hO:KOk OK) (hX:XL X OK x G) (St:StOk X.K G F σ H ρ) (ok:OK (zhD_ sh k it t et ee x kk ρ)) (k2:∀ds v F' H' ρ',Same F F'->StOk X.K G F' σ H' ρ'->Frs X.K G F' σ H' ρ' v (.l ds)->OK (kk ds ρ')->Q v H') :
  zaL_ (ZE_ X tg iter) k (WD_ X N' scope tg) (WC_ X N' scope ifs) (WE_ X N' scope elt) σ H Q:=by
 refine hi OK x _ G F σ H ρ _ hO hX St ok λds J F1 H1 ρ1 s1 S1 wk o1=>?_
 obtain⟨s0,e0,o0⟩:=ue_ hO o1
 clear o1
 have S0:=S1.rd e0
 have hshl:sh.length=σ.length:=(zcD_ sh s0).symm.trans S0.ln.symm
 have hlen0:∀s:SOf sh,(wr sh s).length=σ.length:=λs=>(zcD_ sh s).trans hshl
 have hP:∀i a,G.P i=some a->i<σ.length:=λi a h=>(List.getElem?_eq_some_iff.mp (S1.pp i a h).1).1
 revert o0
 generalize hstep:(λ(s:SOf sh) d=>t d (λρ2=>et (λe _=>.exc e) (λb ρ3=>if b then ee (λe _=>.exc e) (λv ρ4=>rdk sh (λs'=>.ret (some v,s')) (ρ4.take sh.length)) ρ3 else rdk sh (λs'=>.ret (none,s')) (ρ3.take sh.length)) ρ2) (wr sh s++List.replicate k none))=step
 intro o0
 cases hcc:uH_ step ds s0 with
 | bad=>rw[hcc]at o0;exact(hO o0).elim
 | exc e=>exact(Vk_ hcc).elim
 | ret q =>
  obtain⟨out,sf⟩:=q
  rw[hcc,zgT_]at o0
  obtain⟨hfit,o0⟩:=zhC_ hO o0
  have again:∀{F' H' σ' ρ'} {s':SOf sh},StOk X.K G F' σ' H' ρ'->(∀j,j<σ.length->σ'[j]? = σ[j]?)->σ'.length=σ.length+k->rd sh (ρ'.take sh.length)=some s'->StOk X.K G F' σ' H' (wr sh s'++List.replicate k none):=λ{F' H' σ' ρ' s'} S' kp hl e'=>by
   obtain⟨h1,h2,h3⟩:=U2_ sh _ s' e'
   have hρ':ρ'.length=σ.length+k:=by rw[<-S'.ln];exact hl
   refine S'.weak (by simp[hlen0];lia) (λi av q=>?_) (λi c q=>?_)
   ·have q':=uF_ q
    have:=h2 i av q'
    have hi:i<sh.length:=by
     have:=(List.getElem?_eq_some_iff.mp this).1
     rw[List.length_take]at this;lia
    rw[List.getElem?_take_of_lt hi]at this
    exact this
   ·obtain⟨a,ha⟩:=S'.pq i c q
    have hi:=hP i a ha
    rw[List.getElem?_append_left (by rw[hlen0];exact hi)]
    exact h3 i c (by rw[List.getElem?_take_of_lt (by lia)];exact q)
  refine⟨CIv X.K G σ k ds F1 (λs=>wr sh s++List.replicate k none) (λi s rest=>uH_ step (ds.drop i) s=.ret (rest,sf)) out,
   ⟨_,⟨F1,[],out,s0,Nat.zero_le _,Same.refl _,S0.grow k,λj hj=>by rw[List.getElem?_append_left hj],by simp,.nil,hcc,rfl⟩⟩,?_⟩
  rintro i m vs σ' H' ⟨F',acc,rest,sc,hi,s2,S2,kp,hlen,rp,go,eo⟩
  refine⟨by rw[rp.length];rw[eo,zzf]at hfit;lia,?_⟩
  by_cases hlt:i<ds.length
  ·refine .inr ⟨wk.go i G F' σ' H' _ s2 S2 hlt,λx H2 y cl sx H0 fp C=>?_⟩
   obtain⟨F3,s3,S3,r3⟩:=wk.yld i G F' σ' H' _ x H2 ds[i] s2 S2 (List.getElem?_eq_getElem hlt) y
   rw[List.drop_eq_getElem_cons hlt]at go
   obtain⟨o,sn,rest',hst,hr,er⟩:=Wc_ go
   subst er
   clear go
   rw[<-hstep]at hst
   refine hg cl sx H0 fp C (λm=>m=.ret (o,sn)) _ G F3 σ' H2 _ x ds[i] _ (λz=>nomatch z) S3 r3 hst λσ3 ρ3 S4 kp3 hl3 ml3 o4=>?_
   have kp':∀j,j<σ.length->σ3[j]? = σ[j]?:=λj hj=>((kp3 j (by lia)).1).trans (kp j hj)
   intro cl sx H0 fp C
   refine ht cl sx H0 fp C (λm=>m=.ret (o,sn)) (λe _=>.exc e) _ G F3 σ3 H2 ρ3 _ (λz=>nomatch z) (λF ρ e z=>nomatch z) S4 o4 λb F5 H5 ρ5 s5 S5 o5=>?_
   cases b with
   | true =>
    refine iteT ?_
    intro cl sx H0 fp C
    refine he cl sx H0 fp C (λm=>m=.ret (o,sn)) (λe _=>.exc e) _ G F5 σ3 H5 ρ5 _ (λz=>nomatch z) (λF ρ e z=>nomatch z) S5 o5 λv u F6 H6 ρ6 s6 S6 ru o6=>?_
    obtain⟨s',e',o'⟩:=ue_ (OK:=λm=>m=.ret (o,sn)) (λz=>nomatch z) o6
    cases o'
    exact CIv.on F6 (acc++[v]) rest' sn hlt (((s2.trans s3).trans s5).trans s6) (again S6 kp' (by lia) e') kp' (by lia) ((rp.mono ((s3.trans s5).trans s6)).append (.cons ru .nil)) hr (by rw[eo];simp)
   | false =>
    refine iteF ?_
    obtain⟨s',e',o'⟩:=ue_ (OK:=λm=>m=.ret (o,sn)) (λz=>nomatch z) o5
    cases o'
    exact CIv.on F5 acc rest' sn hlt ((s2.trans s3).trans s5) (again S5 kp' (by lia) e') kp' (by lia) (rp.mono (s3.trans s5)) hr (by rw[eo];simp)
  ·have ei:i=ds.length:=by lia
   subst ei
   rw[List.drop_length]at go
   cases go
   rw[List.append_nil]at eo
   subst eo
   refine .inl ⟨wk.stop G F' σ' H' _ s2 S2,λp hp=>?_⟩
   have Ssh:=S2.shrink (n:=σ.length) (by simp[hlen0]) hP
   have e1:σ'.take σ.length=σ:=Jw_ kp rfl
   have e2:(wr sh sf++List.replicate k none).take σ.length=wr sh sf:=by rw[<-hlen0 sf,List.take_left]
   rw[e1,e2]at Ssh
   obtain⟨S5,r5⟩:=Ssh.newLst hp rp
   exact k2 _ _ F' _ _ (s1.trans s2) S5 r5 o0
theorem Vt_{S:Type}{sh:List Kd}{it:Ev S (List D)}{t:Tg (Option D×SOf sh)}{et:Ev (Option D×SOf sh) Bool}{ee:Ev (Option D×SOf sh) D}(hc:X.calm=true)(Sc:CompOk X N' k scope)(hi:AEi X tg iter it)
  (hg:∀cl s H fp C,AG (zB_ X N' scope cl s H fp C) X.N.length tg t) (ht:∀cl s H fp C,AEts (zB_ X N' scope cl s H fp C) ifs et) (he:∀cl s H fp C,AE (zB_ X N' scope cl s H fp C) elt ee)
  (hs:∀x,foldedSetIterable iter X.env x=pure x):AEl X (.ListComp elt [⟨tg,iter,ifs,0⟩] scope pos) (zhD_ sh k it t et ee):=by
 intro OK x kk G F σ H ρ Q hO hX St ok k2;unfold tSem;intro pins s I
 refine W1_ (wi:=ZE_ X tg iter) (g:=WD_ X N' scope tg) (tc:=WC_ X N' scope ifs) (te:=WE_ X N' scope elt) hc Sc (λx hx hf=>I.ok.has x.1 (Sc.free x hx hf)) QW_
  (λcl s H fp C pins s' σ H v u Q I r h=>JF_ pins s' σ H v u Q I r (h cl _ _ fp C)) (λcl s H fp C pins s' σ H Q I h=>h cl _ _ fp C pins s' I) (λcl s H fp C pins s' σ H Q I h=>zm_ pins s' σ H Q I (h cl _ _ fp C)) hs pins s σ H Q I (zcd_ hi hg ht he I.len hO hX St ok k2)
theorem yW_{S:Type}{pos' spos:Pos}{i:Nat}{y:Str}{it:Pu (List D)}{t:Tg (Option D)}{pt:Pu Bool}{pe:Pu D}
  (hN:X.N.Nodup) (hy:X.N[i]? = some y) (hly:Loc X.env.scope y) (hfn:X.fn y=true\/X.env.scope.names.lookup y=some .local) (hc:X.calm=true) (Sc:CompOk X N' k scope) (hi:AI X tg iter it)
  (hg:∀cl s H fp C,AG (zB_ X N' scope cl s H fp C) X.N.length tg t) (ht:∀cl s H fp C,ATs (zB_ X N' scope cl s H fp C) ifs pt) (he:∀cl s H fp C,AP (zB_ X N' scope cl s H fp C) elt pe)
  (hsw:swapsWith (.ListComp elt [⟨tg,iter,ifs,0⟩] scope pos) (some (.Name y pos')) spos.line X.env=pure true) (hs:∀x,foldedSetIterable iter X.env x=pure x) :
  AS (S:=S) X (.Assign [.Name y pos'] (.ListComp elt [⟨tg,iter,ifs,0⟩] scope pos) spos) (sSet i (ePu (pZ (zbm_ k it t pt pe)))):=by
 intro OK K G F σ H ρ E hO hX St ok eo;unfold UO_;intro pins s I
 refine VM_ (wi:=ZE_ X tg iter) (g:=WD_ X N' scope tg) (tc:=WC_ X N' scope ifs) (te:=WE_ X N' scope elt) hN hy hly hfn hc Sc (λx hx hf=>I.ok.has x.1 (Sc.free x hx hf)) QW_
  (λcl s H fp C pins s' σ H v u Q I r h=>JF_ pins s' σ H v u Q I r (h cl _ _ fp C)) (λcl s H fp C pins s' σ H Q I h=>h cl _ _ fp C pins s' I) (λcl s H fp C pins s' σ H Q I h=>zm_ pins s' σ H Q I (h cl _ _ fp C)) hsw hs pins s σ H E I ?_
 refine X9_ hi hg ht he I.len St ?_
 have w:W X G F σ ρ (pZ (zbm_ k it t pt pe) ρ) (λd F' H'=>∀v,Rep X.K F' v d->XQ_ i v σ H' E.nx):=W.of hO hX ok λd F' H' s S' o v r=>by
  have o':OK (match yL_ ρ i with|true=>K.nx (ρ.set i (some (.fz d)))|false=>.bad):=o
  split at o'
  ·rename_i ho
   obtain⟨hl,hop⟩:=jk_ ho
   exact eo.nx F' _ H' _ s (S'.store hop hl (.inl ⟨d,rfl,r⟩)) o'
  ·exact(hO o').elim
 refine w.bind.imp λds F' H' s1 S1 w1 v fr=>?_
 obtain⟨F2,s2,S2,r2⟩:=S1.settle (v:=v) (ds:=ds) fr
 exact w1 F2 H' s2 S2 v r2
end
end L4
namespace HT
open PySem PySem.Spec PyProof.Rows
section
variable {prog:Program}{w:World}{A:Around}{E:Value->Shared->Prop}{s:Shared}
theorem getItem_tuple_all{t sl:Addr}{items:Array Value}{vl vu:Value}{lo hi:Option Int}{Q:Value->Shared->Prop}(ht:IsTup s.heap t items)(hs:s.heap.IsSliceOf sl vl vu .none)(pl:IsPart vl lo)(pu:IsPart vu hi)
  (hw:sIx items.size 0 lo=0/\sIx items.size items.size hi=items.size) (h:Q (.ref t) s):wpAny (model prog w) A (getItem (.ref t) (.ref sl)) Q E s:=by
 obtain⟨os,hos,hcs,hds⟩:=id hs
 have hTs:s.TypeIs (.ref sl) "slice":=⟨os,hos,hcs⟩
 unfold getItem
 try with_reducible refine wpAny_holding ?_
 first|refine zza (zzb ?_)|skip
 refine zza (wpAny_sequenceKey ht.typeIs (by decide) ?_)
 refine zza (wpAny_callSpecial?_slot (name:=Str.ofString "__getitem__") ht.typeIs PyProof.Rows.slot_tuple_getitem
  (wpAny_call_entry PyProof.Rows.slot_tuple_getitem ht.typeIs entry_tuple_getitem ?_ (args_tuple_getitem _ _)))
 show wpAny _ _ (Builtin.Tuple.tupleItemsOf (.ref t) >>= _) _ _ s
 refine zza (tupleItemsOf_ ht ?_)
 refine zza (wpAny_typeOf hTs ?_)
 rw[if_pos (by decide)]
 refine zza (j8_ hs pl pu ?_)
 have hyes:((((sIx items.size 0 lo:Nat):Int)==0&&(1:Int)==1&&(sIx items.size items.size hi - sIx items.size 0 lo)==items.size)=true):=by
  rw[hw.1,hw.2]
  simp
 show wpAny _ _ (if(((sIx items.size 0 lo:Nat):Int)==0&&(1:Int)==1&&(sIx items.size items.size hi - sIx items.size 0 lo)==items.size)=true then _ else _) _ _ s
 rw[if_pos hyes]
 obtain⟨o,ho,hc,n,hd⟩:=id ht
 have hex:∀{Q':Bool->Shared->Prop},Q' true s->wpAny (model prog w) A.in1 (Builtin.Tuple.tupleIsExact (.ref t)) Q' E s:=λ{Q'} q=>by
  unfold Builtin.Tuple.tupleIsExact
  refine zza (wpAny_typeOf ht.typeIs (zzb ?_))
  exact q
 first
  | exact zza (hex (zza (wpAny_rule (zzb ⟨_,rfl,zzb h⟩))))
  | exact zza (zza (hex (zza (wpAny_rule (zzb (zzb ⟨_,rfl,zzb h⟩))))))
end
end HT
namespace L4
open PySem PySem.Spec PyProof.Rows L2 L3
def cutD(ds:List D)(lo hi:Option Int):List D:=(ds.drop (HT.sIx ds.length 0 lo)).take (HT.sIx ds.length ds.length hi - HT.sIx ds.length 0 lo)
theorem X7_{K:Fg}{F:Hp}{vs:List V}{ds:List D}(r:RepL K F vs ds)(lo hi:Option Int):RepL K F (cutV vs lo hi) (cutD ds lo hi):=by
 unfold cutV cutD
 rw[r.length]
 exact(r.drop _).take _
def rSlA(K:Fg):V->Option Int->Option Int->Hp->VK->Prop:=λx lo hi H Q=>∃a xs,x=.ref a/\SqT K H a xs/\(HT.sIx xs.length 0 lo=0/\HT.sIx xs.length xs.length hi=xs.length)/\Q x H
theorem sl_tupA{X:Cx}:SlR X (rSlA X.K):=by
 intro pins s σ H x v vl vu lo hi sl Q I rx hs pl pu h
 obtain⟨a,xs,rfl,hx,hw,q⟩:=h
 cases rx
 obtain⟨its,r,ht,hz⟩:=I.tuple hx
 have hlen:its.toArray.size=xs.length:=by rw[List.size_toArray];exact r.length.symm
 refine⟨"tuple",_,PyProof.Rows.slot_tuple_getitem.lookup,ht.typeIs,?_⟩
 exact HT.getItem_tuple_all ht hs pl pu (by rw[hlen];exact hw) ⟨.ref a,H,I,rfl,q⟩
noncomputable def pNoI:Pu (Option Int):=λ_=>.ret none
noncomputable def asI(d:D):M (Option Int):=match d with
 | .int i=>.ret (some i)
 | _=>.bad
def pInt(p:Pu D):Pu (Option Int):=λρ=>bd (p ρ) asI
def fCut(d:D)(lo hi:Option Int):Option D:=match d with
 | .tuple ds=>some (.tuple (cutD ds lo hi))
 | .list ds=>some (.list (cutD ds lo hi))
 | _=>none
def zgF_(p:Pu D)(l h:Pu (Option Int)):Pu D:=λρ=>bd (p ρ) λd=>bd (l ρ) λlo=>bd (h ρ) λhi=>oM (fCut d lo hi)
def APo(X:Cx)(e:Option Expr)(p:Pu (Option Int)):Prop :=
 ∀(G:Gh) (F:Hp) (σ:L2.St) (H:Hp) (ρ:En) (Q:Option Int->Hp->Prop),StOk X.K G F σ H ρ->W X G F σ ρ (p ρ) (λd F' H'=>Q d H')->∀(pins:List (Addr×Obj)) (s:Shared),Inv X pins σ H s ->
  wpAny (model X.prog X.w) X.A (evalPart e X.env) (λu s'=>∃o H',Inv X pins σ H' s'/\IsPart u o/\Q o H') X.xe s
noncomputable def zhY_(X:Cx)(e:Option Expr):TO:=λσ H Q=>∀(pins:List (Addr×Obj)) (s:Shared),Inv X pins σ H s->wpAny (model X.prog X.w) X.A (evalPart e X.env) (λu s'=>∃o H',Inv X pins σ H' s'/\IsPart u o/\Q o H') X.xe s
theorem zcP_{X:Cx}{e:Option Expr}:PO X e (zhY_ X e):=λpins s σ H Q I h=>h pins s I
section
variable {X:Cx}{e:Expr}{lo hi:Option Expr}{p:Pu D}{pl ph:Pu (Option Int)}{pos p2:Pos}
theorem Zy_:APo X none pNoI:=λG F σ H ρ Q S w pins s I=>zek_ pins s σ H Q I (w F H (Same.refl _) S)
theorem Zx_(h:AP X e p):APo X (some e) (pInt p):=λG F σ H ρ Q S w pins s I=>zej_ zm_ pins s σ H Q I (h G F σ H ρ _ S (w.bind.imp λd F1 H1 s1 S1 w1 v r=>by
 cases r with
 | int i=>exact⟨i,rfl,w1 F1 H1 (Same.refl _) S1⟩
 | bl b=>exact w1.elim
 | non=>exact w1.elim
 | str i=>exact w1.elim
 | tup _ _=>exact w1.elim
 | lst _ _=>exact w1.elim
 | dct _ _ _=>exact w1.elim
 | dck _ _ _=>exact w1.elim
 | exc _ _ _ _ _=>exact w1.elim
 | fn _=>exact w1.elim))
theorem Zz_(he:AO X e p)(hl:APo X lo pl)(hh:APo X hi ph):AP X (.Subscript e (.Slice lo hi none p2) pos) (zgF_ p pl ph) :=
 λG F σ H ρ Q S w=>sem (zbf_ (sl_tup.or (sl_tupA.or zdO_)) zm_ zcP_ zcP_) (he G F σ H ρ _ S (w.bind.imp λd F1 H1 s1 S1 w1 x hx =>
  hl G F1 σ H1 ρ _ S1 (w1.bind.imp λlo F2 H2 s2 S2 w2=>hh G F2 σ H2 ρ _ S2 (w2.bind.imp λhi F3 H3 s3 S3 w3=>by
   obtain⟨res,hr,k⟩:=w3.opt
   have ox:=(hx.mono (s2.trans s3)).or S3
   cases d<;>try (cases hr)
   ·obtain⟨a,vs,rfl,h1,h2⟩:=ox.list S3.fh
    refine .inr (.inr ⟨a,vs,rfl,h1,λq hq=>?_⟩)
    obtain⟨S4,r4⟩:=S3.newLst hq (X7_ h2 lo hi)
    obtain⟨F5,s5,S5,r5⟩:=S4.settle r4
    exact k F5 _ s5 S5 _ r5
   ·rename_i ds
    obtain⟨a,vs,rfl,h1,h2⟩:=ox.tuple S3.fh
    by_cases hw:HT.sIx vs.length 0 lo=0/\HT.sIx vs.length vs.length hi=vs.length
    ·refine .inr (.inl ⟨a,vs,rfl,h1,hw,k F3 H3 (Same.refl _) S3 _ ?_⟩)
     have:cutD ds lo hi=ds:=by
      unfold cutD
      rw[<-h2.length,hw.1,hw.2]
      simp[h2.length]
     rw[this]
     exact ox.tup'
    ·refine .inl ⟨a,vs,rfl,h1,hw,λq hq=>?_⟩
     obtain⟨s4,S4,r4⟩:=S3.newTup hq (X7_ h2 lo hi)
     exact k _ _ s4 S4 _ r4))))
end
def zcS_(f g:D->D->Option Bool)(a b c:Pu D):Pu Bool:=λρ=>bd (a ρ) λx=>bd (b ρ) λy=>bd (oM (f x y)) λt=>if t then bd (c ρ) λz=>oM (g y z)else .ret false
section
variable {X:Cx}{a b c:Expr}{pa pb pc:Pu D}{op op':CmpOp}{r r':R2}{f g:D->D->Option Bool}{pos:Pos}
theorem zcj_{G:Gh}{F H:Hp}{σ:L2.St}{ρ:En}{Q:VK}(hf:OpB X.K r f)(hg:OpB X.K r' g)(ha:AO X a pa)(hb:AO X b pb)(hc:AO X c pc)(S:StOk X.K G F σ H ρ)(w:W X G F σ ρ (zcS_ f g pa pb pc ρ) λt F' H'=>Q (.bl t) H') :
  zcH_ r r' (tSem X a) (tSem X b) (tSem X c) σ H Q :=
 ha G F σ H ρ _ S (w.bind.imp λdx F1 H1 s1 S1 w1 x hx=>hb G F1 σ H1 ρ _ S1 (w1.bind.imp λdy F2 H2 s2 S2 w2 y hy=>by
  have w3:=w2.bind
  obtain⟨t,e,k⟩:=w3.opt
  refine hf G F2 σ H2 ρ x y dx dy t _ S2 ((hx.mono s2).or S2) (hy.or S2) e ⟨t,rfl,?_⟩
  have w4:=k F2 H2 (Same.refl _) S2
  cases t with
  | true =>
   refine iteT ?_
   exact hc G F2 σ H2 ρ _ S2 ((show W X G F2 σ ρ (bd (pc ρ) λz=>oM (g dy z)) _ from w4).bind.imp λdz F3 H3 s3 S3 w5 z hz=>by
    obtain⟨t',e',k'⟩:=w5.opt
    exact hg G F3 σ H3 ρ y z dy dz t' _ S3 ((hy.mono s3).or S3) (hz.or S3) e' (k' F3 H3 (Same.refl _) S3))
  | false =>
   refine iteF ?_
   exact(show W X G F2 σ ρ (.ret false) _ from w4) F2 H2 (Same.refl _) S2))
theorem zcw_(ho:OpR X (compareOp op) r)(ho':OpR X (compareOp op') r')(hf:OpB X.K r f)(hg:OpB X.K r' g)(ha:AO X a pa)(hb:AO X b pb)(hc:AO X c pc)(hm:lastMarks [op,op'] [b,c]=false):AB X (.Compare a [op,op'] [b,c] pos) (zcS_ f g pa pb pc) :=
 λG F σ H ρ Q S w=>sem (zbj_ ho ho' zm_ zm_ zm_ hm) (zcj_ hf hg ha hb hc S w)
end
noncomputable def zbo_(d e:D):Option Bool:=match d,e with
 | .bool a,.bool b=>some (a==b)
 | _,.none=>some (isNone d)
 | _,_=>none
noncomputable def jr_(d e:D):Option Bool:=match d,e with
 | .bool a,.bool b=>some (a != b)
 | _,.none=>some (!isNone d)
 | _,_=>none
section
variable {X:Cx}
theorem zeu_:OpR X (compareOp .Is) (rD2 X.K zbo_):=by
 intro pins s σ H x y v u Q I rx ry ⟨d,e,b,r1,r2,ho,q⟩
 unfold zbo_ at ho
 split at ho
 ·cases ho
  obtain rfl:=r1.bool_inv
  obtain rfl:=r2.bool_inv
  cases rx
  cases ry
  exact PyProof.Rows.is_bool ⟨.bl _,H,I,rfl,q⟩
 ·exact zet_ pins s σ H x y v u Q I rx ry ⟨d,.none,b,r1,r2,by rw[<-ho];rfl,q⟩
 ·cases ho
theorem Zl_:OpR X (compareOp .IsNot) (rD2 X.K jr_):=by
 intro pins s σ H x y v u Q I rx ry ⟨d,e,b,r1,r2,ho,q⟩
 unfold jr_ at ho
 split at ho
 ·cases ho
  obtain rfl:=r1.bool_inv
  obtain rfl:=r2.bool_inv
  cases rx
  cases ry
  exact PyProof.Rows.isnot_bool ⟨.bl _,H,I,rfl,q⟩
 ·exact zbn_ pins s σ H x y v u Q I rx ry ⟨d,.none,b,r1,r2,by rw[<-ho];rfl,q⟩
 ·cases ho
end
def isTo(T:String)(d:D):Option Bool:=if isFn d then none else some (isT T d)
def pIs(T:String)(p:Pu D):Pu Bool:=λρ=>bd (p ρ) λd=>oM (isTo T d)
def rIs2(K:Fg)(T:String):List V->Hp->VK->Prop:=λxs H Q=>∃v d,xs=[v,.ty T]/\Rep K H v d/\isFn d=false/\Q (.bl (isT T d)) H
theorem zfj_{X:Cx}{T:String}(hT:tyOk T=true):CallR X (.builtin "isinstance") (rIs2 X.K T):=by
 intro pins s σ H xs us Q I r h
 obtain⟨v,d,rfl,rp,nf,q⟩:=h
 obtain⟨u,w,rfl,ru,rw'⟩:=vals2 r
 cases rw'
 exact V6_ hT I rp nf ru λtk=>⟨.bl _,H,I.tok tk,rfl,q⟩
section
variable {X:Cx}{e:Expr}{p:Pu D}{pos p1 p2:Pos}{T:String}{x:Str}
theorem zhS_(hT:tyOk T=true)(hg:Gl X "isinstance")(hm:X.mg "isinstance" = none)(hgT:Gl X x)(hmT:X.mg x=none)(hv:bootBuiltins x=some (.type T))(ha:AO X e p)(hs:starEach [e,.Name x p2] X.env=(false,eval e X.env)::starEach [.Name x p2] X.env)(hs2:starEach [.Name x p2] X.env=(false,eval (.Name x p2) X.env)::starEach [] X.env)
  (hpl:(backTo pos (starEach [.Name x p2] X.env)).any (·.1)=false) (hn:x ≠ "__name__":=by decide) (hd:(x==("__debug__" : Str))=false:=by decide):AB X (.Call (.Name "isinstance" p1) [e,.Name x p2] [] pos) (pIs T p) :=
 λG F σ H ρ Q S w=>sem (Zj_ (zfj_ hT) hg hm (by decide +kernel) (yK_ zm_ (yK_ (zeq_ hgT hmT hv (v:=.ty T) rfl hn hd) QY_ hs2) hs) (by decide) (by decide) hs hpl) (ha G F σ H ρ _ S (w.bind.imp λd F1 H1 s1 S1 w1 v hv=>by
  obtain⟨b,hb,k⟩:=w1.opt
  unfold isTo at hb
  split at hb
  ·cases hb
  ·rename_i nf
   cases hb
   exact⟨v,d,rfl,(hv.or S1).rep S1.fh,by simpa using nf,k F1 H1 (Same.refl _) S1⟩))
end
noncomputable def boolsOf:List D->Option (List Bool)
 | []=>some []
 | .bool b::r=>match boolsOf r with
  | some l=>some (b::l)
  | none=>none
 | _=>none
theorem yV_:∀{ds:List D} {bs:List Bool},boolsOf ds=some bs->ds=bs.map PyData.bool
 | [],_,h=>by cases h;rfl
 | .bool i::r,ns,h=>by
  dsimp only[boolsOf]at h
  split at h
  ·rename_i l e;cases h;rw[yV_ e];rfl
  ·cases h
 | .none::_,_,h=>by cases h
 | .int _::_,_,h=>by cases h
 | .str _::_,_,h=>by cases h
 | .list _::_,_,h=>by cases h
 | .tuple _::_,_,h=>by cases h
 | .dict _::_,_,h=>by cases h
theorem Jg_(bs:List Bool):boolsOf (bs.map PyData.bool)=some bs:=by
 induction bs with
 | nil=>rfl
 | cons b r ih=>simp[boolsOf,ih]
theorem JC_{K:Fg}{F:Hp}:∀{vs:List V} {bs:List Bool},RepL K F vs (bs.map PyData.bool)->vs=bs.map V.bl
 | _,[],h=>by cases h;rfl
 | _,n::r,h=>by
  cases h with
  | cons a b=>cases a;rw[JC_ b];rfl
theorem yC_:∀{bs:List Bool} {us:List Value},Vals (bs.map V.bl) us->us=bs.map Value.bool
 | [],_,h=>by cases h;rfl
 | n::r,_,h=>by
  cases h with
  | cons a b=>cases a;rw[yC_ b];rfl
noncomputable def fAll:List D->Option Bool
 | [.list ds]=>(boolsOf ds).map λbs=>bs.all id
 | _=>none
noncomputable def fAny:List D->Option Bool
 | [.list ds]=>(boolsOf ds).map λbs=>bs.any id
 | _=>none
def U4_(K:Fg)(f:List Bool->Bool):List V->Hp->VK->Prop:=λxs H Q=>∃a bs,xs=[.ref a]/\SqL K H a (bs.map V.bl)/\Q (.bl (f bs)) H
theorem Q1_{K:Fg}{f:List Bool->Bool}{g:List D->Option Bool}(hg:∀l b,g l=some b->∃bs,l=[.list (bs.map PyData.bool)]/\b=f bs):Vz_ K (U4_ K f) g:=by
 intro G F σ H ρ xs ds res Q S o e k
 obtain⟨bs,rfl,rfl⟩:=hg _ _ e
 obtain⟨v,r,rfl,ho,hr⟩:=zG_ o
 obtain rfl:=zT_ hr
 obtain⟨a,vs,rfl,h1,h2⟩:=ho.list S.fh
 rw[JC_ h2]at h1
 exact⟨a,bs,rfl,h1,k⟩
theorem zgY_{K:Fg}:Vz_ K (U4_ K λbs=>bs.all id) fAll:=Q1_ λl b h=>by
 unfold fAll at h
 split at h
 ·obtain⟨bs,e,rfl⟩:=Option.map_eq_some_iff.mp h
  exact⟨bs,by rw[yV_ e],rfl⟩
 ·cases h
theorem zgX_{K:Fg}:Vz_ K (U4_ K λbs=>bs.any id) fAny:=Q1_ λl b h=>by
 unfold fAny at h
 split at h
 ·obtain⟨bs,e,rfl⟩:=Option.map_eq_some_iff.mp h
  exact⟨bs,by rw[yV_ e],rfl⟩
 ·cases h
theorem Yw_{prog:Program}{w:World}{A:Around}{E:Value->Shared->Prop}{s:Shared}{l:Addr}{its:Array Value}{Q:Value->Shared->Prop}(hl:s.heap.IsList l its)
  (h:∀s₂:Shared,s₂={ s with heap:=s.heap.push { cls:=.type "list_iterator",data:=.fields #[.ref l,.int 0 0] } } ->
   (s₂.heap.IsListIter s.heap.objs.size l 0/\s₂.heap.IsList l its)->l≠s.heap.objs.size->Q (.ref s.heap.objs.size) s₂) :
  wpAny (model prog w) A (pyIter (.ref l)) Q E s:=by
 have hlt:l<s.heap.objs.size:=by obtain⟨_,e,_⟩:=hl;exact Heap.lt_size e
 exact wpAny_pyIter_list hl (h _ rfl ⟨⟨_,zze _ rfl,rfl,rfl⟩,hl.push _⟩ (Nat.ne_of_lt hlt))
theorem ZB_{prog:Program}{w:World}{A:Around}(bs:List Bool):TruthOf prog w A (λi v=>(bs.map Value.bool).toArray[i]? = some v) (λi=>bs.getD i false):=λi v s Q E hP hQ=>by
 dsimp only at hP hQ
 rw[List.getElem?_toArray,List.getElem?_map]at hP
 obtain⟨b,e,rfl⟩:=Option.map_eq_some_iff.mp hP
 rw[List.getD_eq_getElem?_getD,e]at hQ
 exact wpAny_truthy_bool hQ
theorem all_range(bs:List Bool):(List.range bs.length).all (λi=>bs.getD i false)=bs.all id:=by
 induction bs with
 | nil=>rfl
 | cons b r ih =>
  rw[List.length_cons,List.range_succ_eq_map,List.all_cons,List.all_map,List.all_cons]
  simp only[List.getD_cons_zero,id_eq]
  congr 1
theorem any_range(bs:List Bool):(List.range bs.length).any (λi=>bs.getD i false)=bs.any id:=by
 induction bs with
 | nil=>rfl
 | cons b r ih =>
  rw[List.length_cons,List.range_succ_eq_map,List.any_cons,List.any_map,List.any_cons]
  simp only[List.getD_cons_zero,id_eq]
  congr 1
theorem zcm_{X:Cx}(hc:X.calm=true):CallR X (.builtin "all") (U4_ X.K λbs=>bs.all id):=by
 intro pins s σ H xs us Q I r h
 obtain⟨a,bs,rfl,hq,q⟩:=h
 obtain⟨u,rfl,ru⟩:=Vals.one r
 cases ru
 obtain⟨its,rv,pl,hz⟩:=I.list hq
 rw[yC_ rv]at pl
 refine call_all_walk (Yw_ pl.isList λs₂ e st hlI=>?_)
 subst e
 refine⟨_,_,_,_,_,_,_,rfl,Walks.list (A:=X.A.in1) (I.ok.hd hc) _ a hlI (bs.map Value.bool).toArray,st,ZB_ bs,λh' tk hk=>?_⟩
 refine⟨.bl (bs.all id),H,I.kept (old_kept hk),?_,q⟩
 show _=_
 rw[<-all_range bs]
 simp
theorem zcl_{X:Cx}(hc:X.calm=true):CallR X (.builtin "any") (U4_ X.K λbs=>bs.any id):=by
 intro pins s σ H xs us Q I r h
 obtain⟨a,bs,rfl,hq,q⟩:=h
 obtain⟨u,rfl,ru⟩:=Vals.one r
 cases ru
 obtain⟨its,rv,pl,hz⟩:=I.list hq
 rw[yC_ rv]at pl
 refine call_any_walk (Yw_ pl.isList λs₂ e st hlI=>?_)
 subst e
 refine⟨_,_,_,_,_,_,_,rfl,Walks.list (A:=X.A.in1) (I.ok.hd hc) _ a hlI (bs.map Value.bool).toArray,st,ZB_ bs,λh' tk hk=>?_⟩
 refine⟨.bl (bs.any id),H,I.kept (old_kept hk),?_,q⟩
 show _=_
 rw[<-any_range bs]
 simp
noncomputable def zbZ_:List D->Option (List D)
 | [.list ds]=>some ds
 | [.tuple ds]=>some ds
 | _=>none
def zit_(K:Fg):List V->Hp->VK->Prop:=λxs H Q=>∃p ys,xs=[.ref p]/\(SqL K H p ys\/SqT K H p ys)/\∀l,H l=none->Q (.ref l) (upd H l (.lst ys))
theorem zeC_{K:Fg}:Wr_ K (zit_ K) zbZ_:=by
 intro G F σ H ρ xs ds res Q S o e k
 unfold zbZ_ at e
 split at e
 ·cases e
  obtain⟨v,r,rfl,ho,hr⟩:=zG_ o
  obtain rfl:=zT_ hr
  obtain⟨a,vs,rfl,h1,h2⟩:=ho.list S.fh
  refine⟨a,vs,rfl,.inl h1,λl hl=>?_⟩
  obtain⟨S2,r2⟩:=S.newLst hl h2
  exact k _ F _ (Same.refl _) S2 r2
 ·cases e
  obtain⟨v,r,rfl,ho,hr⟩:=zG_ o
  obtain rfl:=zT_ hr
  obtain⟨a,vs,rfl,h1,h2⟩:=ho.tuple S.fh
  refine⟨a,vs,rfl,.inr h1,λl hl=>?_⟩
  obtain⟨S2,r2⟩:=S.newLst hl h2
  exact k _ F _ (Same.refl _) S2 r2
 ·cases e
noncomputable def fInt:List D->Option D
 | [.int i]=>some (.int i)
 | [.bool b]=>some (.int (if b then 1 else 0))
 | _=>none
theorem zgW_{K:Fg}:UJ_ K (λxs H Q=>(∃i,xs=[.int i]/\Q (.int i) H)\/∃k,xs=[.bl k]/\Q (.int (if k then 1 else 0)) H) fInt:=by
 intro G F σ H ρ xs ds res Q S o e k
 unfold fInt at e
 split at e
 ·cases e
  obtain⟨v,r,rfl,ho,hr⟩:=zG_ o
  obtain rfl:=zT_ hr
  exact .inl ⟨_,by rw[ho.int],k _ F H (Same.refl _) S (.int _)⟩
 ·cases e
  obtain⟨v,r,rfl,ho,hr⟩:=zG_ o
  obtain rfl:=zT_ hr
  exact .inr ⟨_,by rw[ho.bool],k _ F H (Same.refl _) S (.int _)⟩
 ·cases e
section
variable {S:Type}
def putD(ds:List D)(j d:D):Option (List D):=match j with
 | .int k=>(ixN ds.length k).map λq=>ds.set q d
 | _=>none
def sPut(i:Nat)(mi me:Ev S D):SM S:=λK ρ=>me K.x (λd ρ1=>match ownL ρ1 i with
 | some _=>mi K.x (λj ρ2=>match ownL ρ2 i with
  | some ds=>(oM (putD ds j d)).on (λe=>K.x e ρ2) (λds'=>K.nx (setO ρ2 i ds'))
  | none=>.bad) ρ1
 | none=>.bad) ρ
def sAug(i:Nat)(f:D->D->Option D)(me:Ev S D):SM S:=λK ρ=>match ρ[i]? with
 | some (some (.fz x))=>me K.x (λd ρ1=>(oM (f x d)).on (λe=>K.x e ρ1) (λr=>match yL_ ρ1 i with
  | true=>K.nx (ρ1.set i (some (.fz r)))
  | false=>.bad)) ρ
 | _=>.bad
def zfZ_(i:Nat)(f:D->D->Option D)(mj me:Ev S D):SM S:=λK ρ=>match ownL ρ i with
 | some _=>mj K.x (λj ρ1=>match ownL ρ1 i with
  | some ds=>(oM (opIx (.list ds) j)).on (λe=>K.x e ρ1) (λx=>me K.x (λd ρ2=>(oM (f x d)).on (λe=>K.x e ρ2) (λr=>match ownL ρ2 i with
   | some ds2=>(oM (putD ds2 j r)).on (λe=>K.x e ρ2) (λds'=>K.nx (setO ρ2 i ds'))
   | none=>.bad)) ρ1)
  | none=>.bad) ρ
 | none=>.bad
def ipD(f:D->D->Option D)(K:Fg)(t:TIp):Prop:=∀(x y:V) (dx dy r:D) (F H:Hp) (Q:VK),Rep K F x dx->Rep K F y dy->f dx dy=some r->(∀v,Rep K F v r->Q v H)->t x y H Q
noncomputable def y2_:D->D->Option D
 | .int i,.int j=>some (.int (i+j))
 | _,_=>none
theorem Uq_{K:Fg}:ipD y2_ K (ipI λi j=>i+j):=λx y dx dy r F H Q r1 r2 e k=>by
 cases dx<;>first|exact noS e|(cases dy<;>first|exact noS e|cases e)
 obtain rfl:=r1.int_inv;obtain rfl:=r2.int_inv
 exact⟨_,_,rfl,rfl,k _ (.int _)⟩
theorem zeW_{K:Fg}:ipD Y9_ K (ipI λi j=>i - j):=λx y dx dy r F H Q r1 r2 e k=>by
 cases dx<;>first|exact noS e|(cases dy<;>first|exact noS e|cases e)
 obtain rfl:=r1.int_inv;obtain rfl:=r2.int_inv
 exact⟨_,_,rfl,rfl,k _ (.int _)⟩
variable {X:Cx}{a b e:Expr}{mi me:Ev S D}{pos pos' tpos apos cpos:Pos}{ml:Ev S (List D)}
theorem zdv_{i:Nat}{x:Str}(hN:X.N[i]? = some x)(hv:Vis X.env.scope x)(hi:AE X b mi)(he:AE X e me)(ha:∀v,assign (.Subscript (.Name x pos') b tpos) X.env v=(do
   let ov <-holding [v] (eval (.Name x pos') X.env)
   let iv <-holding [v,ov] (eval b X.env)
   standAt tpos
   holding [v,ov,iv] (setItem ov iv v)
   release [v,ov,iv] []))
  (hs:swapsWithSole [.Subscript (.Name x pos') b tpos] e pos.line X.env=pure false) (hw:swappedStores [.Subscript (.Name x pos') b tpos] e X.env=pure none)
  (h1:(assignEach [.Subscript (.Name x pos') b tpos] X.env).map (·.2)=[assign (.Subscript (.Name x pos') b tpos) X.env])
  (hd:(x==("__debug__" : Str))=false:=by decide) (hcd:(x==("__classdict__" : Str))=false:=by decide):AS X (.Assign [.Subscript (.Name x pos') b tpos] e pos) (sPut i mi me):=λOK K G F σ H ρ E hO hX St ok eo =>
 semS (zcO_ zm_ (zgx_ (uK_ hN hv hd hcd) zm_ set_list ha) hs hw h1) (he OK K.x _ G F σ H ρ _ hO hX St ok λd v F1 H1 ρ1 s1 S1 r1 o1=>by
  split at o1
  case h_2=>exact(hO o1).elim
  rename_i ds0 hd0
  obtain⟨a,vs0,ea,_,_⟩:=uh_ S1 hd0
  refine⟨_,ea,hi OK K.x _ G F1 σ H1 ρ1 _ hO hX S1 o1 λj u F2 H2 ρ2 s2 S2 r2 o2=>?_⟩
  split at o2
  case h_2=>exact(hO o2).elim
  rename_i ds hds
  obtain⟨ds',hp,o3⟩:=jH_ hO o2
  obtain⟨a',vs,ea',hh,rv⟩:=uh_ S2 hds
  rw[ea]at ea'
  injection ea' with ea';injection ea' with ea';injection ea' with ea'
  subst ea'
  unfold putD at hp
  split at hp
  ·rename_i k
   obtain⟨q,hq,rfl⟩:=Option.map_eq_some_iff.mp hp
   obtain rfl:=r2.int_inv
   refine⟨a,vs,k,q,rfl,rfl,hh,by rw[rv.length];exact hq,?_⟩
   exact eo.nx F2 σ _ _ (s1.trans s2) (Y8_ S2 hds ea (RepL.set (r1.mono s2) q rv)) o3
  ·cases hp)
theorem zhM_{i:Nat}{x:Str}{op:Operator}{t:TIp}{f:D->D->Option D}(hN:X.N.Nodup)(hi:X.N[i]? = some x)(hx:Loc X.env.scope x)(ho:PIp X op t)(hf:ipD f X.K t)(he:AE X e me)(hfn:X.fn x=true\/X.env.scope.names.lookup x=some .local) :
  AS X (.AugAssign (.Name x pos') op e pos) (sAug i f me):=λOK K G F σ H ρ E hO hX St ok eo =>
 semS (zgt_ hN hi hx zm_ ho hfn) (by
  unfold sAug at ok
  split at ok
  case h_2=>exact(hO ok).elim
  rename_i dx hdx
  obtain⟨v,ev,rv⟩:=St.fz i dx hdx
  refine⟨v,ev,he OK K.x _ G F σ H ρ _ hO hX St ok λd u F1 H1 ρ1 s1 S1 r1 o1=>?_⟩
  obtain⟨r,er,o2⟩:=jH_ hO o1
  refine hf v u dx d r F1 H1 _ (rv.mono s1) r1 er λz rz=>?_
  split at o2
  ·rename_i hok
   obtain⟨hl,hop⟩:=jk_ hok
   exact eo.nx F1 _ H1 _ s1 (S1.store hop hl (.inl ⟨r,rfl,rz⟩)) o2
  ·exact(hO o2).elim)
def gIxL:V->V->Hp->VK->Prop:=λx y H Q=>∃p xs i v,x=.ref p/\y=.int i/\H p=some (.lst xs)/\atI xs i=some v/\Q v H
end
noncomputable def kindB(k:NameKind):Option NameKind->Bool
 | some k'=>k==k'
 | none=>false
def zaa_(N N':List Str)(k:Nat)(scope sc:Scope):Bool :=
 (scope.kind==.function)&&(N'.length==N.length+k)&&scope.names.all (λy=>y.2 != .cell)&&scope.names.all (λy=>y.2 != .local||kindB .local (scope.names.lookup y.1))
  && ((List.range N.length).all λi=>match N'[i]? with
   | some x=>!(kindB .free (scope.names.lookup x)||kindB .local (scope.names.lookup x)||kindB .cell (scope.names.lookup x))||(N[i]? == some x&&kindB .free (scope.names.lookup x))
   | none=>true)
  && scope.names.all (λy=>y.2 != .free||kindB .cell (sc.names.lookup y.1)||kindB .free (sc.names.lookup y.1))
theorem Zq_{k:NameKind}{o:Option NameKind}(h:kindB k o=true):o=some k:=by
 cases o with
 | none=>cases h
 | some k'=>simp[kindB]at h;rw[h]
theorem zbJ_{k:NameKind}{o:Option NameKind}(h:o=some k):kindB k o=true:=by subst h;simp[kindB]
theorem je_{X:Cx}{N N':List Str}{k:Nat}{scope sc:Scope}(h:zaa_ N N' k scope sc=true)(hN:X.N=N)(hs:X.env.scope=sc):CompOk X N' k scope:=by
 subst hN hs
 simp only[zaa_,Bool.and_eq_true,List.all_eq_true,beq_iff_eq,Bool.or_eq_true,bne_iff_ne,ne_eq]at h
 obtain⟨⟨⟨⟨⟨h1,h2⟩,h3⟩,h4⟩,h5⟩,h6⟩:=h
 refine⟨h1,h2,λy hy=>h3 y hy,λy hy hl=>?_,λi x hi hx _ hk=>?_,λy hy hf=>?_⟩
 ·rcases h4 y hy with z|z
  ·exact absurd hl z
  ·exact Zq_ z
 ·have:=h5 i (List.mem_range.mpr hi)
  rw[hx]at this
  simp only[Bool.or_eq_true,Bool.not_eq_true',Bool.and_eq_true,beq_iff_eq]at this
  rcases this with z|⟨z1,z2⟩
  ·exfalso
   rcases hk with hk|hk|hk<;>simp[zbJ_ hk]at z
  ·exact⟨z1,Zq_ z2⟩
 ·rcases h6 y hy with (z|z)|z
  ·exact absurd hf z
  ·exact .inl (Zq_ z)
  ·exact .inr (Zq_ z)
section
variable {S:Type}{X:Cx}{a b e:Expr}{ms:Ev S (List D)}{pos:Pos}
def sPar(i j:Nat)(ms:Ev S (List D)):SM S:=λK ρ=>ms K.x (λds ρ1=>match ds with
 | [u,v]=>(match yL_ ρ1 i&&yL_ (ρ1.set i (some (.fz u))) j with
  | true=>K.nx ((ρ1.set i (some (.fz u))).set j (some (.fz v)))
  | false=>.bad)
 | _=>.bad) ρ
theorem zdw_{i j:Nat}{x y:Str}{px py pt:Pos}{kt k2 pt2}(hc:X.calm=true)(hN:X.N.Nodup)(hi:X.N[i]? = some x)(hj:X.N[j]? = some y)(hij:i≠j)
  (hx:X.env.scope.names.lookup x=some .local) (hy:X.env.scope.names.lookup y=some .local) (ha:AEa X [a,b] ms)
  (hw:swappedStores [.Tuple [.Name x px,.Name y py] kt pt] (.Tuple [a,b] k2 pt2) X.env=pure (some [x,y]))
  (hs:swapsWithSole [.Tuple [.Name x px,.Name y py] kt pt] (.Tuple [a,b] k2 pt2) pos.line X.env=pure false) :
  AS X (.Assign [.Tuple [.Name x px,.Name y py] kt pt] (.Tuple [a,b] k2 pt2) pos) (sPar i j ms):=λOK K G F σ H ρ E hO hX St ok eo =>
 semS (zgr_ hc hN hi hj hij hx hy zS_ hw hs) (ha OK K.x _ G F σ H ρ _ hO hX St ok λds vs F1 H1 ρ1 s1 S1 hl r1 o1=>by
  split at o1
  ·split at o1
   ·rename_i _ u v _ hok
    rw[Bool.and_eq_true]at hok
    obtain⟨h1,h2⟩:=jk_ hok.1
    obtain⟨h3,h4⟩:=jk_ hok.2
    cases r1 with
    | cons ra rb =>
     cases rb with
     | cons rb rc =>
      cases rc
      refine⟨_,_,rfl,eo.nx F1 _ H1 _ s1 ?_ o1⟩
      exact(S1.store h2 h1 (.inl ⟨u,rfl,ra⟩)).store h4 h3 (.inl ⟨v,rfl,rb⟩)
   ·exact(hO o1).elim
  ·exact(hO o1).elim)
end
theorem Xu_{K:Fg}{H:Hp}{a:Addr}{ns:List Int}{mf:List D->M D}(hS:SqL K H a (ns.map V.int))(h:mf [.list (ns.map PyData.int)]=.ret (.bool true)):spD K 1 mf [.ref a] H (λv _=>v=.bl true) λ_ _ _=>False:=by
 refine⟨⟨λ_=>none,λ_=>none,H⟩,H,[.list (ns.map PyData.int)],rfl,⟨Same.refl _,λb o z=>(nomatch z),λb o z=>(nomatch z),rfl,λi d z=>?_,λi c z=>(yj_ (ds:=[.list (ns.map PyData.int)]) z).elim,λi j c e a z=>(yj_ (ds:=[.list (ns.map PyData.int)]) z).elim,λi a z=>(nomatch z),λi c z=>?_,Same.refl _⟩,?_⟩
 ·obtain⟨d',e,q⟩:=Z6_ (ds:=[.list (ns.map PyData.int)]) z
  cases e
  cases i with
  | zero=>simp at q;subst q;exact⟨_,rfl,.lst hS (RepL.ints ns)⟩
  | succ i=>simp at q
 ·obtain⟨d',e,q⟩:=Z6_ (ds:=[.list (ns.map PyData.int)]) z
  cases e
 ·rw[h]
  intro v F' H' s S' r
  cases r
  rfl
end L4
namespace HT
end HT
namespace L4
open PySem PySem.Spec PyProof.Rows L2 L3
noncomputable def isStar:Expr->Bool
 | .Starred _ _=>true
 | _=>false
theorem za_{env:Env}:∀{e:Expr} {es:List Expr},isStar e=false->starEach (e::es) env=(false,eval e env)::starEach es env:=by
 intro e es h
 cases e<;>first|rfl|cases h
noncomputable def forS{S T:Type}:(T->D->(T->M S)->M S)->List D->T->(T->M S)->M S:=Classical.choose (⟨@forC S T,rfl⟩:∃f,f = @forC S T)
theorem u2_{S T:Type} : @forS S T = @forC S T:=Classical.choose_spec (⟨@forC S T,rfl⟩:∃f,f = @forC S T)
noncomputable def UK_{S T:Type}:(T->(T->M S)->M S)->Nat->T->M S:=Classical.choose (⟨@zP_ S T,rfl⟩:∃f,f = @zP_ S T)
theorem ya_{S T:Type} : @UK_ S T = @zP_ S T:=Classical.choose_spec (⟨@zP_ S T,rfl⟩:∃f,f = @zP_ S T)
section
variable {S:Type}
noncomputable def zdU_(sh:List Kd)(it:Ev S (List D))(t:Tg S)(mb:SM S):SM S:=λK ρ=>it K.x (λds ρ1=>rdk sh (λs=>forS (λs d kn=>t d (λρ2=>mb (Jq_ sh K kn) ρ2) (wr sh s)) ds s (λs'=>K.nx (wr sh s'))) ρ1) ρ
noncomputable def Y5_(sh:List Kd)(fuel:Nat)(c:Ev S Bool)(mb:SM S):SM S:=λK ρ=>rdk sh (λs=>UK_ (λs kn=>c K.x (λb ρ2=>if b then mb (Jq_ sh K kn) ρ2 else rdk sh (λs'=>K.nx (wr sh s')) ρ2) (wr sh s)) fuel s) ρ
theorem zaR_(sh:List Kd)(it:Ev S (List D))(t:Tg S)(mb:SM S):zdU_ sh it t mb=sFor sh it t mb:=by
 unfold zdU_ sFor
 rw[u2_]
theorem VL_(sh:List Kd)(fuel:Nat)(c:Ev S Bool)(mb:SM S):Y5_ sh fuel c mb=WL_ sh fuel c mb:=by
 unfold Y5_ WL_
 rw[ya_]
variable {X:Cx}{mb:SM S}{c:Expr}{mt:Ev S Bool}{ml:Ev S (List D)}{pos:Pos}
theorem z1_{tg iter:Expr}{body:List Stmt}{sh:List Kd}{t:Tg S}(hp:PassesOwn (model X.prog X.w) X.A X.env X.xe)(hc:X.calm=true)(hi:AEi X tg iter ml)(hg:AG X 0 tg t)(hb:ASs X body mb)
  (hs:∀x,foldedSetIterable iter X.env x=pure x):AS X (.For tg iter body [] pos) (zdU_ sh ml t mb):=by
 rw[zaR_]
 exact zhL_ hp hc hi hg hb hs
theorem Ji_{body:List Stmt}{sh:List Kd}{fuel:Nat}(hp:PassesOwn (model X.prog X.w) X.A X.env X.xe)(hc:AEt X c mt)(hb:ASs X body mb):AS X (.While c body [] pos) (Y5_ sh fuel mt mb):=by
 rw[VL_]
 exact zcq_ hp hc hb
end
end L4
namespace HT
end HT
namespace PySem
open Sem (wp)
open AutoSeq1 (wpAny_loadPart')
section
variable {prog:Program}{w:World}{A:Around}{E:Value->Shared->Prop}{s:Shared}
theorem yM_{it t:Addr}{i:Nat}{items}{x:Value}{Q:Value->Shared->Prop}(hit:s.heap.IsTupleIter it t i)
  (ht:s.heap.IsTuple t items) (hx:items[i]? = some x)
  (hQ:∀h',h'.IsTupleIter it t (i+1)->Heap.SameBut it s.heap h'->Q x { s with heap:=h' }) :
  wpAny (model prog w) A (Builtin.SmallTypes.nextOf (.ref it)) Q E s:=by
 obtain⟨o,ho,hc,hd⟩:=id hit
 obtain⟨ol,hol,_,nl,hdl⟩:=ht
 unfold Builtin.SmallTypes.nextOf
 refine zza (wpAny_callSpecial?_slot (name:=Str.ofString "__next__") hit.typeIs F.slot_tuple_iterator_next
  (wpAny_call_entry F.slot_tuple_iterator_next hit.typeIs F.entry_tuple_iterator_next ?_ (F.args_tuple_iterator_next_1 _)))
 show wpAny _ _ (field (.ref it) 0 >>= _) _ _ s
 refine zza (wpAny_field ho hd (x:=.ref t) rfl ?_)
 show wpAny _ _ (if(Value.ref t==Value.none)=true then _ else _) _ _ s
 rw[if_neg (show ¬ ((Value.ref t==Value.none)=true)from Bool.false_ne_true)]
 show wpAny _ _ (field (.ref it) 1 >>= _) _ _ s
 refine zza (wpAny_field ho hd (x:=.int i 0) rfl ?_)
 show wpAny _ _ (seqItems? (.ref t) >>= _) _ _ s
 refine zza (wpAny_seqItems hol hdl ?_)
 simp only[Int.toNat_natCast,hx]
 refine zza (wpAny_setField ho hd (by simp) (zzb ⟨x,rfl,zzb (hQ _ ?_ (Heap.SameBut.update ..))⟩))
 exact⟨_,Heap.get?_update_self _ ho (Obj.isFreed_of_fields (Obj.data_mapFields hd _)),(Obj.cls_mapFields ..).trans hc,by
  rw[Obj.data_mapFields hd];simp[rawInt]⟩
theorem Yk_{it t:Addr}{i:Nat}{items}{Q:Value->Shared->Prop}(hh:A.handled=none)
  (hit:s.heap.IsTupleIter it t i) (ht:s.heap.IsTuple t items) (hx:items[i]? = none)
  (hE:∀h' e,Heap.ExtBut it s.heap h'->(∃o,h'.get? e=some o/\o.cls=.type "StopIteration")->E (.ref e) { s with heap:=h' }) :
  wpAny (model prog w) A (Builtin.SmallTypes.nextOf (.ref it)) Q E s:=by
 obtain⟨o,ho,hc,hd⟩:=id hit
 obtain⟨ol,hol,_,nl,hdl⟩:=ht
 unfold Builtin.SmallTypes.nextOf
 refine zza (wpAny_callSpecial?_slot (name:=Str.ofString "__next__") hit.typeIs F.slot_tuple_iterator_next
  (wpAny_call_entry F.slot_tuple_iterator_next hit.typeIs F.entry_tuple_iterator_next ?_ (F.args_tuple_iterator_next_1 _)))
 show wpAny _ _ (field (.ref it) 0 >>= _) _ _ s
 refine zza (wpAny_field ho hd (x:=.ref t) rfl ?_)
 show wpAny _ _ (if(Value.ref t==Value.none)=true then _ else _) _ _ s
 rw[if_neg (show ¬ ((Value.ref t==Value.none)=true)from Bool.false_ne_true)]
 show wpAny _ _ (field (.ref it) 1 >>= _) _ _ s
 refine zza (wpAny_field ho hd (x:=.int i 0) rfl ?_)
 show wpAny _ _ (seqItems? (.ref t) >>= _) _ _ s
 refine zza (wpAny_seqItems hol hdl ?_)
 simp only[Int.toNat_natCast,hx]
 refine zza (wpAny_rule (zza (wpAny_setField ho hd (by simp) ?_)))
 first
  | (show wpAny _ _ (newExc (.type "StopIteration") [] >>= _) _ _ _
     refine zza ?_
     simp only[newExc,newTuple]
     refine zza (wpAny_newObj_type ?_ (by size_fits))
     refine zza (m:=firstArgMember _ _) (wpAny_of_eq (a:=Value.none) (by first|rfl|(simp only[firstArgMember];rfl)) ?_)
     refine wpAny_newObj_type ?_ (by size_fits)
     simp only[raiseNew]
     refine zza (wpAny_handled ?_)
     first|rw[show A.in1.handled=none from hh]|rw[hh]
     refine zza (zzb (wpAny_throw ?_))
     exact hE _ _ (((Heap.SameBut.update ..).extBut.push _).push _) ⟨_,zze _ rfl,rfl⟩)
  | (refine zza (wpAny_letGo ?_)
     show wpAny _ _ (newExc (.type "StopIteration") [] >>= _) _ _ _
     refine zza ?_
     simp only[newExc,newTuple]
     refine zza (wpAny_newObj_type ?_ (by size_fits))
     refine zza (m:=firstArgMember _ _) (wpAny_of_eq (a:=Value.none) (by first|rfl|(simp only[firstArgMember];rfl)) ?_)
     refine wpAny_newObj_type ?_ (by size_fits)
     simp only[raiseNew]
     refine zza (wpAny_handled ?_)
     first|rw[show A.in1.handled=none from hh]|rw[hh]
     refine zza (zzb (wpAny_throw ?_))
     exact hE _ _ (((Heap.SameBut.update ..).extBut.push _).push _) ⟨_,zze _ rfl,rfl⟩)
structure Zt(h:Heap)(z p q i1 i2 l1 l2:Addr)(f0 u v:Value)(k1 k2:Nat):Prop where
 z0:IsZip h z p q f0
 p0:IsPair h p (.ref i1) (.ref i2)
 q0:IsPair h q u v
 a0:h.IsTupleIter i1 l1 k1
 b0:h.IsTupleIter i2 l2 k2
theorem Ws_{z p q i1 i2 l1 l2:Addr}{k:Nat}{xs ys:Array Value}{x y u v:Value}{Q:Value->Shared->Prop}(D:ZipApart z p q i1 i2 l1 l2)
  (T:Zt s.heap z p q i1 i2 l1 l2 .none u v k k) (e1:s.heap.IsTuple l1 xs) (e2:s.heap.IsTuple l2 ys) (hx:xs[k]? = some x) (hy:ys[k]? = some y)
  (hQ:∀h',Zt h' z p q i1 i2 l1 l2 (rawInt s.heap.objs.size) x y (k+1) (k+1)->IsPair h' s.heap.objs.size x y ->
   (∀c o,c≠z->c≠q->c≠i1->c≠i2->s.heap.get? c=some o->h'.get? c=some o)->Q (.ref s.heap.objs.size) { s with heap:=h' }) :
  wpAny (model prog w) A (Builtin.«zip.__next__» ⟨[.ref z],[]⟩) (λfin s'=>∃r,fin=.done (.ret r)/\Q r s') E s:=by
 have z0:=T.z0
 show wpAny _ _ (field (.ref z) 2 >>= _) _ _ _
 refine zza (wpAny_field z0 rfl (x:=.bool false) rfl ?_)
 show wpAny _ _ (field (.ref z) 3 >>= _) _ _ _
 refine zza (wpAny_field z0 rfl (x:=.ref p) rfl (zza (wpAny_seqItems T.p0 rfl ?_)))
 show wpAny _ _ (Builtin.SmallTypes.ownedTupleIsFree (.ref z) >>= _) _ _ _
 refine zza ?_
 unfold Builtin.SmallTypes.ownedTupleIsFree
 refine zza (wpAny_field z0 rfl (x:=.none) rfl (zzb ?_))
 simp only[if_true]
 refine zza (wpAny_rule (zza (wpAny_field z0 rfl (x:=.ref q) rfl ?_)))
 refine zza (wpAny_setField_rec z0 (by simp) λg1 (z1:IsZip g1 z p q .ellipsis) (m1:Heap.SameBut z s.heap g1)=>zza ?_)
 simp only[List.zipIdx_cons,List.zipIdx_nil,List.forIn_cons,List.forIn_nil]
 refine zza (zza (wpAny_onRaise ?_))
 show wpAny _ _ (Builtin.SmallTypes.nextOf (.ref i1) >>= _) _ _ _
 refine zza (yM_ (T.a0.at λo e=>m1.extBut _ _ D.i1z e) (e1.extBut m1.extBut D.l1z) hx λg2 a2 (m2:Heap.SameBut i1 g1 g2)=>zzb ?_)
 have q2:IsPair g2 q u v:=m2.extBut _ _ D.TOi1 (m1.extBut _ _ D.TOz T.q0)
 refine zza (wpAny_seqItems q2 rfl (zza (wpAny_updateSeq_pair q2 λg3 (q3:IsPair g3 q x v) (m3:Heap.SameBut q g2 g3)=>zza (wpAny_letGo (zzb ?_)))))
 refine zza (zza (wpAny_onRaise ?_))
 show wpAny _ _ (Builtin.SmallTypes.nextOf (.ref i2) >>= _) _ _ _
 refine zza (yM_ (T.b0.at λo e=>m3.extBut _ _ D.TOi2.symm (m2.extBut _ _ D.i12.symm (m1.extBut _ _ D.i2z e)))
  (((e2.extBut m1.extBut D.l2z).extBut m2.extBut D.l2i1).extBut m3.extBut D.l2TO) hy λg4 b4 (m4:Heap.SameBut i2 g3 g4)=>zzb ?_)
 have q4:IsPair g4 q x v:=m4.extBut _ _ D.TOi2 q3
 refine zza (wpAny_seqItems q4 rfl (zza (wpAny_updateSeq_pair q4 λg5 (q5:IsPair g5 q x y) (m5:Heap.SameBut q g4 g5)=>zza (wpAny_letGo (zzb (zzb ?_))))))
 refine zza (wpAny_seqItems q5 rfl (zza (wpAny_newTuple ?_)))
 have sz:g5.objs.size=s.heap.objs.size:=by rw[m5.1,m4.1,m3.1,m2.1,m1.1]
 have z5:IsZip g5 z p q .ellipsis:=m5.extBut _ _ D.TOz.symm (m4.extBut _ _ D.i2z.symm (m3.extBut _ _ D.TOz.symm (m2.extBut _ _ D.i1z.symm z1)))
 have k5:∀c o,c≠z->c≠q->c≠i1->c≠i2->s.heap.get? c=some o->g5.get? c=some o:=λc o c1 c2 c3 c4 e =>
  m5.extBut _ _ c2 (m4.extBut _ _ c4 (m3.extBut _ _ c2 (m2.extBut _ _ c3 (m1.extBut _ _ c1 e))))
 have a5:g5.IsTupleIter i1 l1 (k+1):=a2.at λo e=>m5.extBut _ _ D.TOi1.symm (m4.extBut _ _ D.i12 (m3.extBut _ _ D.TOi1.symm e))
 have b5:g5.IsTupleIter i2 l2 (k+1):=b4.at λo e=>m5.extBut _ _ D.TOi2.symm e
 have lz:z<g5.objs.size:=Heap.lt_size z5
 show wpAny _ _ (Builtin.SmallTypes.ownedTupleHandOut (.ref z) (.ref g5.objs.size) >>= _) _ _ _
 refine zza ?_
 unfold Builtin.SmallTypes.ownedTupleHandOut
 have z6:IsZip (g5.push { cls:=.type "tuple",data:=.seq #[x,y] }) z p q .ellipsis:=zzc _ z5
 refine zza (wpAny_setField_rec z6 (by simp) λg7 (z7:IsZip g7 z p q (rawInt g5.objs.size)) m7=>?_)
 refine wpAny_setField_rec z7 (by simp) λg8 (z8:IsZip g8 z p q (rawInt g5.objs.size)) m8=>?_
 have up:∀c o,c≠z->g5.get? c=some o->g8.get? c=some o:=λc o c1 e=>m8.extBut _ _ c1 (m7.extBut _ _ c1 (zzc _ e))
 have t8:IsPair g8 g5.objs.size x y:=m8.extBut _ _ (Nat.ne_of_gt lz) (m7.extBut _ _ (Nat.ne_of_gt lz) (zze _ rfl))
 rw[sz]at z8 t8
 refine zzb ⟨_,rfl,?_⟩
 show Q (.ref g5.objs.size) _
 rw[sz]
 exact hQ g8 ⟨z8,up _ _ D.TIz (k5 _ _ D.TIz D.TITO D.TIi1 D.TIi2 T.p0),up _ _ D.TOz q5,a5.at λo e=>up _ o D.i1z e,b5.at λo e=>up _ o D.i2z e⟩ t8 λc o c1 c2 c3 c4 e=>up c o c1 (k5 c o c1 c2 c3 c4 e)
theorem zaC_{z p q i1 i2 l1 l2:Addr}{k:Nat}{xs ys:Array Value}{u v:Value}{Q:Fin->Shared->Prop}(hh:A.handled=none)(D:ZipApart z p q i1 i2 l1 l2)
  (T:Zt s.heap z p q i1 i2 l1 l2 .none u v k k) (e1:s.heap.IsTuple l1 xs) (e2:s.heap.IsTuple l2 ys) (en:xs[k]? = none\/ys[k]? = none)
  (hE:∀h' e,(∀c o,c≠z->c≠q->c≠i1->c≠i2->s.heap.get? c=some o->h'.get? c=some o)->(∃o,h'.get? e=some o/\o.cls=.type "StopIteration")->E (.ref e) { s with heap:=h' }) :
  wpAny (model prog w) A (Builtin.«zip.__next__» ⟨[.ref z],[]⟩) Q E s:=by
 have z0:=T.z0
 show wpAny _ _ (field (.ref z) 2 >>= _) _ _ _
 refine zza (wpAny_field z0 rfl (x:=.bool false) rfl ?_)
 show wpAny _ _ (field (.ref z) 3 >>= _) _ _ _
 refine zza (wpAny_field z0 rfl (x:=.ref p) rfl (zza (wpAny_seqItems T.p0 rfl ?_)))
 show wpAny _ _ (Builtin.SmallTypes.ownedTupleIsFree (.ref z) >>= _) _ _ _
 refine zza ?_
 unfold Builtin.SmallTypes.ownedTupleIsFree
 refine zza (wpAny_field z0 rfl (x:=.none) rfl (zzb ?_))
 simp only[if_true]
 refine zza (wpAny_rule (zza (wpAny_field z0 rfl (x:=.ref q) rfl ?_)))
 refine zza (wpAny_setField_rec z0 (by simp) λg1 (z1:IsZip g1 z p q .ellipsis) (m1:Heap.SameBut z s.heap g1)=>zza ?_)
 simp only[List.zipIdx_cons,List.zipIdx_nil,List.forIn_cons,List.forIn_nil]
 refine zza (zza (wpAny_onRaise ?_))
 show wpAny _ _ (Builtin.SmallTypes.nextOf (.ref i1) >>= _) _ _ _
 have a1:g1.IsTupleIter i1 l1 k:=T.a0.at λo e=>m1.extBut _ _ D.i1z e
 cases hx:xs[k]? with
 | none =>
  refine zza (Yk_ hh a1 (e1.extBut m1.extBut D.l1z) hx λg2 e (m2:Heap.ExtBut i1 g1 g2) ⟨oe,ho,hc⟩=>?_)
  have z2:IsZip g2 z p q .ellipsis:=m2 _ _ D.i1z.symm z1
  have ne:e≠z:=λx=>by subst x;rw[z2]at ho;cases ho;simp at hc
  exact wpAny_setField_rec z2 (by simp) λg3 _ m3=>hE g3 e (λc o c1 _ c3 _ x=>m3.extBut _ _ c1 (m2 _ _ c3 (m1.extBut _ _ c1 x))) ⟨oe,m3.extBut _ _ ne ho,hc⟩
 | some x =>
  have hy:ys[k]? = none:=by rcases en with h|h;rw[hx]at h;cases h;exact h
  refine zza (yM_ a1 (e1.extBut m1.extBut D.l1z) hx λg2 a2 (m2:Heap.SameBut i1 g1 g2)=>zzb ?_)
  have q2:IsPair g2 q u v:=m2.extBut _ _ D.TOi1 (m1.extBut _ _ D.TOz T.q0)
  refine zza (wpAny_seqItems q2 rfl (zza (wpAny_updateSeq_pair q2 λg3 (q3:IsPair g3 q x v) (m3:Heap.SameBut q g2 g3)=>zza (wpAny_letGo (zzb ?_)))))
  refine zza (zza (wpAny_onRaise ?_))
  show wpAny _ _ (Builtin.SmallTypes.nextOf (.ref i2) >>= _) _ _ _
  refine zza (Yk_ hh (T.b0.at λo e=>m3.extBut _ _ D.TOi2.symm (m2.extBut _ _ D.i12.symm (m1.extBut _ _ D.i2z e)))
   (((e2.extBut m1.extBut D.l2z).extBut m2.extBut D.l2i1).extBut m3.extBut D.l2TO) hy λg4 e (m4:Heap.ExtBut i2 g3 g4) ⟨oe,ho,hc⟩=>?_)
  have z4:IsZip g4 z p q .ellipsis:=m4 _ _ D.i2z.symm (m3.extBut _ _ D.TOz.symm (m2.extBut _ _ D.i1z.symm z1))
  have ne:e≠z:=λx=>by subst x;rw[z4]at ho;cases ho;simp at hc
  exact wpAny_setField_rec z4 (by simp) λg5 _ m5=>hE g5 e (λc o c1 c2 c3 c4 x=>m5.extBut _ _ c1 (m4 _ _ c4 (m3.extBut _ _ c2 (m2.extBut _ _ c3 (m1.extBut _ _ c1 x))))) ⟨oe,m5.extBut _ _ ne ho,hc⟩
noncomputable abbrev zT1(h:Heap)(l1:Addr):Heap:=h.push { cls:=.type "tuple_iterator",data:=.fields #[.ref l1,.int 0 0] }
abbrev zT2(h:Heap)(l1 l2:Addr):Heap:=(zT1 h l1).push { cls:=.type "tuple_iterator",data:=.fields #[.ref l2,.int 0 0] }
abbrev zT3(h:Heap)(l1 l2:Addr):Heap:=(zT2 h l1 l2).push { cls:=.type "tuple",data:=.seq #[.ref h.objs.size,.ref (zT1 h l1).objs.size] }
abbrev zT4(h:Heap)(l1 l2:Addr):Heap:=(zT3 h l1 l2).push { cls:=.type "tuple",data:=.seq #[.none,.none] }
abbrev zT5(h:Heap)(l1 l2:Addr):Heap:=(zT4 h l1 l2).push { cls:=.type "zip",data:=.fields #[.none,.bool false,.bool false,.ref (zT2 h l1 l2).objs.size,.ref (zT3 h l1 l2).objs.size] }
theorem zaB_(l1 l2:Addr)(xs ys:Array Value) :
  Meets (Builtin.«zip.__new__» ⟨[.type "zip",.ref l1,.ref l2],[]⟩) (λ_ R s=>s.heap.IsTuple l1 xs/\s.heap.IsTuple l2 ys /\
   R (.ok (.ret (.ref (zT4 s.heap l1 l2).objs.size))) { s with heap:=zT5 s.heap l1 l2 }) :=
 .of_wp λprog w A R s h=>by
  obtain⟨hp,g,d,tk,os⟩:=s;obtain⟨e1,e2,h⟩:=h
  have hsub:=sub_zip
  have L1:Heap.IsTuple (Shared.heap ⟨hp,g,d,tk,os⟩) l1 xs:=e1
  have L2:Heap.IsTuple (Shared.heap ⟨hp.push { cls:=.type "tuple_iterator",data:=.fields #[.ref l1,.int 0 0] },g,d,tk,os⟩) l2 ys:=by
   obtain⟨o,ho,r⟩:=e2
   exact⟨o,zzc _ ho,r⟩
  wp_walk using wpAny_pyIter_tuple L1,wpAny_pyIter_tuple L2
  exact⟨_,rfl,h⟩
theorem Wt_{l1 l2:Addr}{xs ys:Array Value}{Q:Value->Shared->Prop}(e1:s.heap.IsTuple l1 xs)(e2:s.heap.IsTuple l2 ys)
  (h:∀h',Zt h' (s.heap.objs.size+4) (s.heap.objs.size+2) (s.heap.objs.size+3) s.heap.objs.size (s.heap.objs.size+1) l1 l2 .none .none .none 0 0 ->
   (∀c o,s.heap.get? c=some o->h'.get? c=some o)->Q (.ref (s.heap.objs.size+4)) { s with heap:=h' }) :
  wpAny (model prog w) A (call (.type "zip") [.ref l1,.ref l2]) Q E s:=by
 refine callType_new F.called_zip (by decide) (F.typeCall_zip_2 _ _) (F.newCall_zip_2 _ _) (λobj=>F.args_object_init_3 obj _ _) F.entry_zip_new
  (zaB_ l1 l2 xs ys) ⟨e1,e2,?_⟩
 have y1:(zT1 s.heap l1).objs.size=s.heap.objs.size+1:=Heap.size_push ..
 have y2:(zT2 s.heap l1 l2).objs.size=s.heap.objs.size+2:=by rw[Heap.size_push,y1]
 have y3:(zT3 s.heap l1 l2).objs.size=s.heap.objs.size+3:=by rw[Heap.size_push,y2]
 have y4:(zT4 s.heap l1 l2).objs.size=s.heap.objs.size+4:=by rw[Heap.size_push,y3]
 have g5:(zT5 s.heap l1 l2).get? (zT4 s.heap l1 l2).objs.size=some _:=zze _ rfl
 have g4:(zT5 s.heap l1 l2).get? (zT3 s.heap l1 l2).objs.size=some _:=zzc _ (zze _ rfl)
 have g3:(zT5 s.heap l1 l2).get? (zT2 s.heap l1 l2).objs.size=some _:=zzc _ (zzc _ (zze _ rfl))
 have g2:(zT5 s.heap l1 l2).get? (zT1 s.heap l1).objs.size=some _:=zzc _ (zzc _ (zzc _ (zze _ rfl)))
 have g1:(zT5 s.heap l1 l2).get? s.heap.objs.size=some _:=zzc _ (zzc _ (zzc _ (zzc _ (zze _ rfl))))
 show _/\_
 rw[y2,y3,y4]at g5
 rw[y1,y2]at g3
 rw[y3]at g4
 rw[y1]at g2
 rw[y4]
 exact⟨⟨_,g5,rfl⟩,h _ ⟨g5,g3,g4,⟨_,g1,rfl,rfl⟩,⟨_,g2,rfl,rfl⟩⟩ λc o x=>zzc _ (zzc _ (zzc _ (zzc _ (zzc _ x))))⟩
end
end PySem
namespace L4
open PySem PySem.Spec PyProof.Rows L2 L3
def Itz(K:Fg)(a b:Addr):It :=
 ⟨λi H=>∃xs x ys y,SqT K H a xs/\xs[i]? = some x/\SqT K H b ys/\ys[i]? = some y,
  λi H r H'=>∃p x y,(∀xs,SqT K H a xs->xs[i]? = some x)/\(∀ys,SqT K H b ys->ys[i]? = some y)/\H p=none/\r=.ref p/\H'=upd H p (.tup [x,y]),
  λi H=>∃xs ys,SqT K H a xs/\SqT K H b ys/\(xs.length<=i\/ys.length<=i)⟩
theorem Ql_{X:Cx}{pins:List (Addr×Obj)}{σ:L2.St}{H:Hp}{s:Shared}{h':Heap}{t':Nat}{fp:List Addr}(I:Inv X pins σ H s)(hf:∀b∈fp,FpOk X pins H b)
  (k:∀b o,b∉fp->s.heap.get? b=some o->h'.get? b=some o):Inv X pins σ H { s with heap:=h',toks:=t' }:=by
 have nit:∀b u,H b=some u->b∉fp:=λb u e z=>by rw[(hf b z).1]at e;cases e
 refine I.step (g':=s.gens) (d':=s.drawn) (ch:=fp) (λb hb=>?_) (λb o _ _ hc e _=>k b o hc e) (λb o _ _ hc e _=>⟨o.slots,k b o hc e⟩) (λ_ _ _ _ n=>n)
  (λb o hc e=>⟨o,k b o hc e⟩) (λ_ _ e=>e) (λ_ _ _ e=>e) (λb ps e=>⟨#[],by rw[e];simp⟩) (λm hm=>?_) (λb u e=>?_) I.bare
 ·obtain⟨f0,f1,f2,f3,f4,f5⟩:=hf b hb
  exact⟨f3,f1,f4,f5⟩
 ·obtain⟨o,es,ep,ho,r⟩:=hm
  exact⟨o,es,ep,k _ o (λz=>(hf _ z).2.1 rfl) ho,r⟩
 ·refine(I.hok b u e).stay (λc v hc q=>k c v ?_ q) (λ_ q=>q) λ_ _ q=>q
  rcases hc with z|z
  ·rw[z];exact nit b u e
  ·exact nit c _ z
theorem QX_{X:Cx}{pins:List (Addr×Obj)}{σ:L2.St}{H:Hp}{s:Shared}{ch:List Addr}{x y:V}{x' y':Value}{t:Nat}{h2:Heap}(I:Inv X pins σ H s)(hf:∀c∈ch,FpOk X pins H c)(ru:RelV x x')(ru2:RelV y y')
  (keep2:∀c o,c∉ch->s.heap.get? c=some o->h2.get? c=some o) (tup2:h2.get? s.heap.objs.size=some { cls:=.type "tuple",data:=.seq #[x',y'] }) :
  Inv X pins σ (upd H s.heap.objs.size (.tup [x,y])) { s with heap:=h2,toks:=t }:=by
 have fr:=I.fresh
 have nit:∀c o,H c=some o->c∉ch:=λc o e m=>by rw[(hf c m).1]at e;cases e
 have hok:HOk X.prog X.w (upd H s.heap.objs.size (.tup [x,y])) h2:=λc ob e=>by
  by_cases hb:c=s.heap.objs.size
  ·subst hb
   rw[zn_]at e
   cases e
   exact⟨by show 2<=sizeLine;decide,[x',y'],.cons ru (.cons ru2 .nil),⟨_,tup2,rfl,_,rfl⟩,⟨_,tup2,rfl⟩⟩
  ·rw[zj_ hb]at e
   refine(I.hok c ob e).stay (λc' v' hc' e'=>?_) (λc' e'=>by rw[zj_ (zr_ e' fr)];exact e') λc' ys e'=>by rw[zj_ (zr_ e' fr)];exact e'
   rcases hc' with z'|z'
   ·rw[z']at e' ⊢;exact keep2 c v' (nit c ob e) e'
   ·exact keep2 c' v' (nit c' _ z') e'
 refine I.step (g':=s.gens) (d':=s.drawn) (t':=t) (h':=h2) (ch:=ch) (λc hc=>?_) (λc o _ _ hch e _=>keep2 c o hch e) (λc o _ _ hch e _=>⟨o.slots,keep2 c o hch e⟩)
  (λc o _ e n=>by rw[zj_ (Nat.ne_of_lt (Heap.lt_size e))];exact n) (λc o hch e=>⟨o,keep2 c o hch e⟩)
  (λc ys e=>by rw[zj_ (zr_ e fr)];exact e) (λc o u' e=>by rw[zj_ (zr_ e fr)];exact e) (λc ps e=>⟨#[],by rw[zj_ (zr_ e fr),e];simp⟩) (λm hm=>?_) hok I.bare
 ·obtain⟨f0,f1,f2,f3,f4,f5⟩:=hf c hc
  exact⟨f3,f1,f4,f5⟩
 ·obtain⟨o,es,ep,ho',r⟩:=hm
  exact⟨o,es,ep,keep2 _ o (λm=>(hf _ m).2.1 rfl) ho',r⟩
theorem zaJ_{P:Program}{w:World}{K:Fg}{elts:List Expr}{x1:Nat}{pos:Pos}(a b z p q i1 i2:Addr)(D:ZipApart z p q i1 i2 a b) :
  Turn P w K (.Tuple elts x1 pos) (Itz K a b) [z,p,q,i1,i2] z (λi h=>∃u v,Zt h z p q i1 i2 a b .none u v i i) where
 mem:=by simp
 obj:=λi h ⟨u,v,T⟩ c hc=>by
  simp only[List.mem_cons,List.not_mem_nil,or_false]at hc
  rcases hc with rfl|rfl|rfl|rfl|rfl
  ·exact⟨_,T.z0,λv z=>nomatch z⟩
  ·exact⟨_,T.p0,λv z=>nomatch z⟩
  ·exact⟨_,T.q0,λv z=>nomatch z⟩
  ·obtain⟨o,e1,c,d⟩:=T.a0
   exact⟨o,e1,λv z=>by rw[d]at z;cases z⟩
  ·obtain⟨o,e1,c,d⟩:=T.b0
   exact⟨o,e1,λv z=>by rw[d]at z;cases z⟩
 keep:=λi h h' ⟨u,v,T⟩ k=>⟨u,v,k z (by simp) _ T.z0,k p (by simp) _ T.p0,k q (by simp) _ T.q0,T.a0.at λo e=>k i1 (by simp) o e,T.b0.at λo e=>k i2 (by simp) o e⟩
 item:=by
  intro X hP hw hK hc i pins s σ H E I hf ⟨u,v,T⟩ hg
  subst hP hw hK
  obtain⟨xs,x,ys,y,hq,hx,hq2,hy⟩:=hg
  obtain⟨its,rv,pa,hz⟩:=I.tuple hq
  obtain⟨jts,rv2,pb,hz2⟩:=I.tuple hq2
  obtain⟨x',hu,ru⟩:=rv.get hx
  obtain⟨y',hu2,ru2⟩:=rv2.get hy
  have hT:s.TypeIs (.ref z) "zip":=⟨_,T.z0,rfl⟩
  unfold pyNext
  refine zza (wpAny_attempt (wpAny_callSpecial?_slot (name:=Str.ofString "__next__") hT F.slot_zip_next
   (wpAny_call_entry F.slot_zip_next hT F.entry_zip_next (Ws_ D T (show s.heap.IsTuple a its.toArray from pa) (show s.heap.IsTuple b jts.toArray from pb) (x:=x') (y:=y') (by simpa using hu) (by simpa using hu2) λh1 T1 t1 k1=>zzb ?_) (F.args_zip_next_1 _))))
  refine⟨_,rfl,wpAny_letOwnedTupleGo_zip T1.z0 λh2 z2 (m2:Heap.SameBut z h1 h2)=>?_⟩
  have lt:∀{c o},s.heap.get? c=some o->s.heap.objs.size≠c:=λe=>Nat.ne_of_gt (Heap.lt_size e)
  have ltz:=lt T.z0
  have ltp:=lt T.p0
  have ltq:=lt T.q0
  have lt1:s.heap.objs.size≠i1:=by obtain⟨_,e,_⟩:=T.a0;exact lt e
  have lt2:s.heap.objs.size≠i2:=by obtain⟨_,e,_⟩:=T.b0;exact lt e
  have keep2:∀c o,c∉[z,p,q,i1,i2]->s.heap.get? c=some o->h2.get? c=some o:=λc o hc e=>by
   simp only[List.mem_cons,List.not_mem_nil,or_false,not_or]at hc
   exact m2.extBut _ _ hc.1 (k1 c o hc.1 hc.2.2.1 hc.2.2.2.1 hc.2.2.2.2 e)
  have tup2:h2.get? s.heap.objs.size=some { cls:=.type "tuple",data:=.seq #[x',y'] }:=m2.extBut _ _ ltz t1
  have I1:Inv X pins σ (upd H s.heap.objs.size (.tup [x,y])) { s with heap:=h2,toks:=s.toks }:=QX_ I hf ru ru2 keep2 tup2
  refine⟨.ref s.heap.objs.size,_,I1,rfl,⟨_,x,y,λys' hy'=>by rw[I.tuple_inj hy' hq];exact hx,λys' hy'=>by rw[I.tuple_inj hy' hq2];exact hy,I.fresh,rfl,rfl⟩,
   ⟨x',y',z2,m2.extBut _ _ D.TIz T1.p0,m2.extBut _ _ D.TOz T1.q0,T1.a0.at λo e=>m2.extBut _ _ D.i1z e,T1.b0.at λo e=>m2.extBut _ _ D.i2z e⟩,λc hc=>?_⟩
  have nc:c≠s.heap.objs.size:=by
   simp only[List.mem_cons,List.not_mem_nil,or_false]at hc
   rcases hc with rfl|rfl|rfl|rfl|rfl
   ·exact ltz.symm
   ·exact ltp.symm
   ·exact ltq.symm
   ·exact lt1.symm
   ·exact lt2.symm
  rw[zj_ nc]
  exact(hf c hc).1
 done:=by
  intro X hP hw hK hc i pins s σ H E I hf ⟨u,v,T⟩ hg
  subst hP hw hK
  obtain⟨xs,ys,hq,hq2,hl⟩:=hg
  obtain⟨its,rv,pa,hz⟩:=I.tuple hq
  obtain⟨jts,rv2,pb,hz2⟩:=I.tuple hq2
  have l1:=rv.length
  have l2:=rv2.length
  have hT:s.TypeIs (.ref z) "zip":=⟨_,T.z0,rfl⟩
  unfold pyNext
  refine zza (wpAny_attempt (wpAny_callSpecial?_slot (name:=Str.ofString "__next__") hT F.slot_zip_next
   (wpAny_call_entry F.slot_zip_next hT F.entry_zip_next (zaC_ (I.ok.hd hc) D T (show s.heap.IsTuple a its.toArray from pa) (show s.heap.IsTuple b jts.toArray from pb)
    (hl.imp (λh=>by simp;lia) (λh=>by simp;lia)) λh' e k he=>?_) (F.args_zip_next_1 _))))
  obtain⟨o,ho,hcl⟩:=he
  refine zza (wpAny_isInstance (T := "StopIteration") (b:=true) ⟨o,ho,hcl⟩ isSubtype_stop ?_)
  exact zzb ⟨rfl,Ql_ (t':=s.toks) I hf λc o hc e=>by
   simp only[List.mem_cons,List.not_mem_nil,or_false,not_or]at hc
   exact k c o hc.1 hc.2.2.1 hc.2.2.2.1 hc.2.2.2.2 e⟩
 self:=λ_ _ _ _ _ ⟨u,v,T⟩ h=>wpAny_pyIter_zip T.z0 h
noncomputable def zipD(as bs:List D):List D:=List.zipWith (λx y=>PyData.tuple [x,y]) as bs
theorem zaG_{K:Fg}{F:Hp}{a b:Addr}{vs ws:List V}{as bs:List D}(h:SqT K F a vs)(r:RepL K F vs as)(h2:SqT K F b ws)(r2:RepL K F ws bs):Walk K (Itz K a b) (zipD as bs) F where
 go:=λi G F2 σ H2 ρ s S hi=>by
  simp only[zipD,List.length_zipWith]at hi
  have i1:i<vs.length:=by rw[r.length];lia
  have i2:i<ws.length:=by rw[r2.length];lia
  exact⟨vs,vs[i],ws,ws[i],zv_ S.fh (zv_ s h),by simp[i1],zv_ S.fh (zv_ s h2),by simp[i2]⟩
 yld:=λi G F2 σ H2 ρ x H3 d s S hd ⟨p,y,y',hy,hy',hp,hx,hH⟩=>by
  subst hx hH
  unfold zipD at hd
  rw[List.getElem?_zipWith]at hd
  cases e:as[i]? with
  | none=>rw[e]at hd;cases hd
  | some d1 =>
   cases e':bs[i]? with
   | none=>rw[e,e']at hd;cases hd
   | some d2 =>
    rw[e,e']at hd
    simp at hd
    subst hd
    obtain⟨v,g1,g2⟩:=r.get e
    obtain⟨v',g3,g4⟩:=r2.get e'
    have z1:=hy vs (zv_ S.fh (zv_ s h))
    have z2:=hy' ws (zv_ S.fh (zv_ s h2))
    rw[g1]at z1
    rw[g3]at z2
    cases z1
    cases z2
    obtain⟨s2,S2,r2⟩:=S.newTup hp (RepL.cons (g2.mono s) (RepL.cons (g4.mono s) RepL.nil))
    exact⟨_,s2,S2,r2⟩
 stop:=λG F2 σ H2 ρ s S=>⟨vs,ws,zv_ S.fh (zv_ s h),zv_ S.fh (zv_ s h2),by
  rw[r.length,r2.length];simp only[zipD,List.length_zipWith];lia⟩
def iZip(K:Fg)(tl:TA):TI:=λσ H R=>tl σ H λxs H1=>∃a b,xs=[.ref a,.ref b]/\(∃ys,SqT K H1 a ys)/\(∃ys,SqT K H1 b ys)/\R (Itz K a b) H1
theorem zgu_{X:Cx}{e1 e2:Expr}{tl:TA}{elts:List Expr}{x1:Nat}{tp p pos:Pos}(hg:Gl X "zip")(hm:X.mg "zip" = none)(ha:PA X [e1,e2] tl)
  (hs:starEach [e1,e2] X.env=[(false,eval e1 X.env),(false,eval e2 X.env)]) (hs2:starEach [e2] X.env=[(false,eval e2 X.env)]) :
  PI X (.Tuple elts x1 tp) (.Call (.Name "zip" p) [e1,e2] [] pos) (iZip X.K tl):=by
 intro pins s σ H R I h
 refine Call_ (uN_ I hg hm (show bootBuiltins "zip" = some (.type "zip") by decide +kernel) (PyProof.Rows.callWith_type1 (thn (ha pos pins s σ H _ I h) λus s1 ⟨vs,H1,I1,r1,q1⟩=>?_) (by rw[hs,hs2]) (by rw[hs2];rfl)) (by decide) (by decide))
 obtain⟨a,b,rfl,⟨ys,hq⟩,⟨zs,hq2⟩,q⟩:=q1
 cases r1 with
 | cons r rr =>
  cases rr with
  | cons r' rr =>
   cases rr
   cases r
   cases r'
   obtain⟨its,rv,pt,hz⟩:=I1.tuple hq
   obtain⟨jts,rv2,pt2,hz2⟩:=I1.tuple hq2
   have la:a<s1.heap.objs.size:=by obtain⟨o,e1,_⟩:=pt;exact Heap.lt_size e1
   have lb:b<s1.heap.objs.size:=by obtain⟨o,e1,_⟩:=pt2;exact Heap.lt_size e1
   refine Wt_ (show s1.heap.IsTuple a its.toArray from pt) (show s1.heap.IsTuple b jts.toArray from pt2) λh' T hk=>?_
   refine wpAny_pyIter_zip (s:={ s1 with heap:=h' }) T.z0 ?_
   refine⟨s1.heap.objs.size+4,[s1.heap.objs.size+4,s1.heap.objs.size+2,s1.heap.objs.size+3,s1.heap.objs.size,s1.heap.objs.size+1],_,_,H1,rfl,I1.kept (t':=s1.toks) hk,zaJ_ a b _ _ _ _ _ (zipApart_new la lb),⟨_,_,T⟩,λc hc=>?_,q⟩
   have:s1.heap.objs.size<=c:=by
    simp only[List.mem_cons,List.not_mem_nil,or_false]at hc
    rcases hc with rfl|rfl|rfl|rfl|rfl<;>simp
   exact I1.fpOk this (I1.hok.fresh this)
def fZip:List D->Option (List D)
 | [.tuple as,.tuple bs]=>some (zipD as bs)
 | _=>none
section
variable {X:Cx}{tg e1 e2:Expr}{ps:(List D->M (List D))->Pu (List D)}{p pos tp:Pos}{elts:List Expr}{x1:Nat}
theorem zfz_{F H:Hp}{vs:List V}{ds out:List D}{R:It->Hp->Prop}(s:Same F H)(r:RepL X.K F vs ds)(h:fZip ds=some out)(k:∀J,Walk X.K J out F->R J H) :
  ∃a b,vs=[.ref a,.ref b]/\(∃ys,SqT X.K H a ys)/\(∃ys,SqT X.K H b ys)/\R (Itz X.K a b) H:=by
 unfold fZip at h
 split at h
 ·cases h
  obtain⟨v,u,rfl,r1,r2⟩:=r.two_inv
  obtain⟨a,as,rfl,a1,a2⟩:=r1.tup_inv
  obtain⟨b,bs,rfl,b1,b2⟩:=r2.tup_inv
  exact⟨_,_,rfl,⟨_,SqT.of (s _ _ a1)⟩,⟨_,SqT.of (s _ _ b1)⟩,k _ (zaG_ (SqT.of a1) a2 (SqT.of b1) b2)⟩
 ·cases h
theorem zdx_{ps:Pa (List D)}(hg:Gl X "zip")(hm:X.mg "zip" = none)(ha:AA X [e1,e2] ps)(hs:starEach [e1,e2] X.env=[(false,eval e1 X.env),(false,eval e2 X.env)])(hs2:starEach [e2] X.env=[(false,eval e2 X.env)]):AI X (.Tuple elts x1 tp) (.Call (.Name "zip" p) [e1,e2] [] pos) (y1_ fZip ps) :=
 λG F σ H ρ R S w=>semI (zgu_ hg hm zS_ hs hs2) (ha G F σ H ρ _ _ _ S w λds vs F1 H1 s1 S1 _ r1 w1=>by
  obtain⟨out,hd,k⟩:=w1.opt
  exact zfz_ S1.fh r1 hd (k F1 H1 (Same.refl _) S1))
end
theorem JB_{K:Fg}{F:Hp}{vs:List V}{ds:List D}(h:RepL K F vs ds):∀k:Nat,RepL K F (List.replicate k vs).flatten (List.replicate k ds).flatten
 | 0=>.nil
 | k+1=>by
  rw[List.replicate_succ,List.flatten_cons,List.replicate_succ,List.flatten_cons]
  exact h.append (JB_ h k)
def pRep(qa:Pu (List D))(pb:Pu D):Pu (List D):=λρ=>bd (qa ρ) λds=>bd (pb ρ) λy=>oM (Yc_ (.list ds) y)
section
variable {X:Cx}{a:Expr}{pos pos':Pos}{qa:Pu (List D)}
theorem zfp_{j:Nat}{x:Str}(ha:AL X a qa)(hN:X.N[j]? = some x)(hv:Vis X.env.scope x)(hd:(x==("__debug__" : Str))=false:=by decide)(hcd:(x==("__classdict__" : Str))=false:=by decide) :
  AL X (.BinOp a .Mult (.Name x pos') pos) (pRep qa (pVar j)):=λG F σ H ρ Q S w =>
 sem (zeo_ zgN_ zm_ (uK_ hN hv hd hcd)) (ha G F σ H ρ _ S (w.bind.imp λds F1 H1 s1 S1 w1 v fr=>by
  obtain⟨l,rfl,oa,nn⟩:=fr
  obtain⟨vs,h1,h2⟩:=oa.he
  unfold pVar at w1
  split at w1
  case h_2=>exact w1.elim
  rename_i d q
  have w2:=w1.bind
  obtain⟨v,e1,r1⟩:=S1.fz j d q
  have w3:=w2 F1 H1 (Same.refl _) S1
  obtain⟨res,hr,k⟩:=w3.opt
  cases d with
  | int i =>
   unfold Yc_ at hr
   dsimp only at hr
   split at hr
   ·rename_i hc
    cases hr
    simp only[Bool.and_eq_true,zzi]at hc
    cases r1
    refine⟨_,e1,l,i,vs,rfl,rfl,h1,hc.1.1,hc.1.2,by rw[h2.length];exact hc.2,λp hp=>?_⟩
    obtain⟨S2,r2⟩:=S1.newLst hp (JB_ h2 i.toNat)
    exact k F1 _ (Same.refl _) S2 _ r2
   ·cases hr
  | _=>cases hr))
end
noncomputable def jL_:D->Bool
 | .int _=>true
 | .str _=>true
 | _=>false
noncomputable def ji_:D->Bool
 | .tuple ds=>ds.all jL_
 | _=>false
noncomputable def XD_:D->D->Bool
 | .int i,.int j=>decide (i=j)
 | .str i,.str j=>decide (i=j)
 | _,_=>false
noncomputable def Qp_:List D->List D->Bool
 | [],[]=>true
 | a::r,b::t=>XD_ a b&&Qp_ r t
 | _,_=>false
noncomputable def keyQ:D->D->Bool
 | .tuple a,.tuple b=>Qp_ a b
 | a,b=>XD_ a b
noncomputable def keyOk(es:List (D×D))(k:D):Bool:=(ji_ k&&es.all λp=>ji_ p.1)||(jL_ k&&es.all λp=>jL_ p.1)
theorem Qq_{es:List (D×D)}{k:D}(h:keyOk es k=true):isXe es=false:=by
 unfold isXe
 split
 ·simp[keyOk,ji_,jL_]at h
 ·simp[keyOk,ji_,jL_]at h
 ·rfl
noncomputable def getE(es:List (D×D))(k:D):Option D:=(es.find? λp=>keyQ p.1 k).map (·.2)
noncomputable def putE(es:List (D×D))(k d:D):List (D×D):=if es.any (λp=>keyQ p.1 k)then es.map (λp=>if keyQ p.1 k then(p.1,d)else p)else es++[(k,d)]
theorem Q9_(a b:Key):XD_ (keyD a) (keyD b)=decide (a=b):=by
 cases a<;>cases b<;>simp[XD_,keyD]
theorem Q8_:∀(a b:List Key),Qp_ (a.map keyD) (b.map keyD)=decide (a=b)
 | [],[]=>by simp[Qp_]
 | [],_::_=>by simp[Qp_]
 | _::_,[]=>by simp[Qp_]
 | x::xs,y::ys=>by
  simp only[List.map_cons,Qp_,Q9_,Q8_ xs ys]
  by_cases h:x=y<;>by_cases g:xs=ys<;>simp[h,g]
theorem XC_(a b:List Key):keyQ (keyT a) (keyT b)=decide (a=b):=Q8_ a b
theorem zdg_(a b:Key):keyQ (keyD a) (keyD b)=decide (a=b):=by
 have h:keyQ (keyD a) (keyD b)=XD_ (keyD a) (keyD b):=by cases a<;>cases b<;>rfl
 rw[h];exact Q9_ a b
theorem yn_{d:D}(h:jL_ d=true):∃k,d=keyD k:=by
 cases d<;>first|exact⟨.inl _,rfl⟩|exact⟨.inr _,rfl⟩|cases h
theorem JK_:∀{ds:List D},ds.all jL_=true->∃k:List Key,ds=k.map keyD
 | [],_=>⟨[],rfl⟩
 | d::ds,h=>by
  rw[List.all_cons,Bool.and_eq_true]at h
  obtain⟨k,rfl⟩:=yn_ h.1
  obtain⟨ks,rfl⟩:=JK_ h.2
  exact⟨k::ks,rfl⟩
theorem uj_{d:D}(h:ji_ d=true):∃k,d=keyT k:=by
 cases d<;>first|cases h|skip
 obtain⟨k,rfl⟩:=JK_ h
 exact⟨k,rfl⟩
theorem zbQ_(k:Key):jL_ (keyD k)=true:=by cases k<;>rfl
theorem zbN_(k:List Key):ji_ (keyT k)=true:=by
 unfold keyT ji_
 simp[zbQ_]
theorem zbO_(k:Key):ji_ (keyD k)=false:=by cases k<;>rfl
theorem zbP_(k:List Key):jL_ (keyT k)=false:=rfl
section
variable {K:Fg}{F H:Hp}{v:V}
theorem Zh_{k:Key}(r:Rep K F v (keyD k)):v=kV k:=by
 cases k with
 | inl i=>cases (show Rep K F v (.int i)from r);rfl
 | inr i=>cases (show Rep K F v (.str i)from r);rfl
theorem U0_:∀{vs:List V} {k:List Key},RepL K F vs (k.map keyD)->vs=k.map kV
 | _,[],r=>by rw[List.map_nil]at r;cases r;rfl
 | _,k::ks,r=>by
  rw[List.map_cons]at r
  cases r with
  | cons a b=>rw[Zh_ a,U0_ b];rfl
theorem yf_{k:List Key}(r:Rep K F v (keyT k)):∃b,v=.ref b/\F b=some (.tup (k.map kV)):=by
 unfold keyT at r
 cases r with
 | tup h1 h2=>rw[U0_ h2]at h1;exact⟨_,rfl,h1⟩
def DT(K:Fg)(F H:Hp)(a:Addr)(es:List (D×D)):Prop:=∃kvs,H a=some (.dT kvs)/\es.map (·.1)=kvs.map (λp=>keyT p.1)/\RepL K F (kvs.map (·.2)) (es.map (·.2))
def DK(K:Fg)(F H:Hp)(a:Addr)(es:List (D×D)):Prop:=∃kvs,H a=some (.dK kvs)/\es.map (·.1)=kvs.map (λp=>keyD p.1)/\RepL K F (kvs.map (·.2)) (es.map (·.2))
theorem OR.dict{es:List (D×D)}(s:Same F H)(h:OR K F H v (.dict es))(hx:isXe es=false):∃a,v=.ref a/\(DT K F H a es\/DK K F H a es):=by
 rcases h with h|⟨a,c,e,e2,h1⟩
 ·cases h with
  | dct h1 h2 h3=>exact⟨_,rfl,.inl ⟨_,s _ _ h1,h2,h3⟩⟩
  | dck h1 h2 h3=>exact⟨_,rfl,.inr ⟨_,s _ _ h1,h2,h3⟩⟩
  | exc _ _ _ _ _=>cases hx
  | fn _=>cases hx
 ·cases c<;>cases e2
  ·exact⟨a,e,.inl h1⟩
  ·exact⟨a,e,.inr h1⟩
theorem Qv_{κ:Type}[DecidableEq κ]{kd:κ->D}(inj:∀a b,keyQ (kd a) (kd b)=decide (a=b))(k:κ):∀{kvs:List (κ×V)} {es:List (D×D)},es.map (·.1)=kvs.map (λp=>kd p.1)->RepL K F (kvs.map (·.2)) (es.map (·.2)) ->
  (∃d v,getE es (kd k)=some d/\valV kvs k=some v/\Rep K F v d)\/(getE es (kd k)=none/\valV kvs k=none)
 | [],[],_,_=>.inr ⟨rfl,rfl⟩
 | [],_::_,e,_=>by simp at e
 | _::_,[],e,_=>by simp at e
 | p::kvs,q::es,e,r=>by
  simp only[List.map_cons,List.cons.injEq]at e
  cases r with
  | cons r1 r2 =>
   unfold getE valV
   rw[List.find?_cons,List.find?_cons,e.1,inj]
   by_cases h:p.1=k
   ·simp only[h,decide_true]
    exact .inl ⟨_,_,rfl,rfl,r1⟩
   ·simp only[h,decide_false]
    exact Qv_ inj k e.2 r2
theorem WT_{κ:Type}[DecidableEq κ]{kd:κ->D}(inj:∀a b,keyQ (kd a) (kd b)=decide (a=b))(k:κ){d:D}(rv:Rep K F v d):∀{kvs:List (κ×V)} {es:List (D×D)},es.map (·.1)=kvs.map (λp=>kd p.1)->RepL K F (kvs.map (·.2)) (es.map (·.2)) ->
  (putE es (kd k) d).map (·.1)=(putK kvs k v).map (λp=>kd p.1)/\RepL K F ((putK kvs k v).map (·.2)) ((putE es (kd k) d).map (·.2)):=by
 intro kvs es e r
 have any:∀{kvs:List (κ×V)} {es:List (D×D)},es.map (·.1)=kvs.map (λp=>kd p.1)->(es.any λp=>keyQ p.1 (kd k))=kvs.any λp=>decide (p.1=k):=by
  intro kvs
  induction kvs with
  | nil=>intro es e;cases es with
   | nil=>rfl
   | cons _ _=>simp at e
  | cons p kvs ih=>intro es e;cases es with
   | nil=>simp at e
   | cons q es =>
    simp only[List.map_cons,List.cons.injEq]at e
    rw[List.any_cons,List.any_cons,ih e.2,e.1,inj]
 have mp:∀{kvs:List (κ×V)} {es:List (D×D)},es.map (·.1)=kvs.map (λp=>kd p.1)->RepL K F (kvs.map (·.2)) (es.map (·.2)) ->
   (es.map λp=>if keyQ p.1 (kd k)then(p.1,d)else p).map (·.1)=(kvs.map λp=>if p.1=k then(p.1,v)else p).map (λp=>kd p.1) /\
   RepL K F ((kvs.map λp=>if p.1=k then(p.1,v)else p).map (·.2)) ((es.map λp=>if keyQ p.1 (kd k)then(p.1,d)else p).map (·.2)):=by
  intro kvs
  induction kvs with
  | nil=>intro es e r;cases es with
   | nil=>exact⟨rfl,.nil⟩
   | cons _ _=>simp at e
  | cons p kvs ih=>intro es e r;cases es with
   | nil=>simp at e
   | cons q es =>
    simp only[List.map_cons,List.cons.injEq]at e
    cases r with
    | cons r1 r2 =>
     obtain⟨i1,i2⟩:=ih e.2 r2
     simp only[List.map_cons,e.1,inj]
     by_cases h:p.1=k
     ·simp only[h,decide_true,if_true,List.cons.injEq]
      exact⟨⟨trivial,i1⟩,.cons rv i2⟩
     ·simp only[h,decide_false,if_false,List.cons.injEq]
      exact⟨⟨by simpa using e.1,i1⟩,.cons r1 i2⟩
 unfold putE putK
 rw[any e]
 by_cases h:(kvs.any λp=>decide (p.1=k))=true
 ·rw[if_pos h,if_pos h];exact mp e r
 ·rw[if_neg h,if_neg h]
  refine⟨by simp[e],?_⟩
  rw[List.map_append,List.map_append]
  exact r.append (.cons rv .nil)
end
def Vy_(H:Hp)(a:Addr):Prop:=H a=some (.dT [])\/H a=some (.dK [])
theorem JR_{X:Cx}{pins:List (Addr×Obj)}{σ:L2.St}{H:Hp}{s:Shared}{a:Addr}(I:Inv X pins σ H s)(h:Vy_ H a) :
  s.heap.DictOfH (tupleKind (zE_ X.prog X.w)) a []/\s.heap.DictOf (zE_ X.prog X.w) a []/\(a==sysModules)=false:=by
 rcases h with h|h
 ·obtain⟨z,y,xs,kt,o,es,ep,h1,h2,h3,h4,h5,h6⟩:=Wb_ I.hok h
  cases kt
  have e0:es = #[]:=by
   have:es.toList=[]:=h4
   exact Array.toList_inj.mp this
  subst e0
  exact⟨⟨o,_,ep,h1,h2,h3,rfl,(λx hx=>by simp at hx),List.nodup_nil⟩,⟨o,_,ep,h1,h2,h3,λe he=>by simp at he,.nil,List.nodup_nil⟩,y⟩
 ·obtain⟨z,y,vs,kv,o,es,ep,h1,h2,h3,h4,h5,h6⟩:=zcf_ I.hok h
  cases kv
  have e0:es = #[]:=by
   have:es.toList=[]:=by
    generalize es.toList=l at h5
    cases h5
    rfl
   exact Array.toList_inj.mp this
  subst e0
  exact⟨⟨o,_,ep,h1,h2,h3,rfl,(λx hx=>by simp at hx),List.nodup_nil⟩,⟨o,_,ep,h1,h2,h3,λe he=>by simp at he,.nil,List.nodup_nil⟩,y⟩
theorem DT.empty{K:Fg}{F H:Hp}{a:Addr}(h:DT K F H a []):Vy_ H a:=by
 obtain⟨kvs,h1,h2,_⟩:=h
 cases kvs with
 | nil=>exact .inl h1
 | cons _ _=>simp at h2
theorem DK.empty{K:Fg}{F H:Hp}{a:Addr}(h:DK K F H a []):Vy_ H a:=by
 obtain⟨kvs,h1,h2,_⟩:=h
 cases kvs with
 | nil=>exact .inr h1
 | cons _ _=>simp at h2
def KeyV(H:Hp)(y:V):Prop:=(∃k,y=kV k)\/∃(b:Addr) (ks:List Key),y=.ref b/\H b=some (.tup (ks.map kV))
def DAsk(H:Hp)(a:Addr)(y:V)(o:Option V):Prop:=DGet H a y o\/(Vy_ H a/\KeyV H y/\o=none)
theorem zan_{K:Fg}{F H:Hp}{a:Addr}{y:V}{es:List (D×D)}{k:D}(s:Same F H)(h:DT K F H a es\/DK K F H a es)(r:Rep K F y k)(hk:keyOk es k=true) :
  (∃d v,getE es k=some d/\DAsk H a y (some v)/\Rep K F v d)\/(getE es k=none/\DAsk H a y none):=by
 unfold keyOk at hk
 rw[Bool.or_eq_true,Bool.and_eq_true,Bool.and_eq_true]at hk
 have kT:ji_ k=true->KeyV H y:=λh=>by
  obtain⟨ks,rfl⟩:=uj_ h
  obtain⟨b,rfl,hb⟩:=yf_ r
  exact .inr ⟨b,ks,rfl,s _ _ hb⟩
 have kK:jL_ k=true->KeyV H y:=λh=>by
  obtain⟨ks,rfl⟩:=yn_ h
  exact .inl ⟨ks,Zh_ r⟩
 cases es with
 | nil =>
  refine .inr ⟨rfl,.inr ⟨?_,?_,rfl⟩⟩
  ·rcases h with h|h
   ·exact h.empty
   ·exact h.empty
  ·rcases hk with hk|hk
   ·exact kT hk.1
   ·exact kK hk.1
 | cons p es =>
  rcases h with ⟨kvs,h1,h2,h3⟩|⟨kvs,h1,h2,h3⟩
  ·rcases hk with ⟨hk,_⟩|⟨_,hk⟩
   ·obtain⟨ks,rfl⟩:=uj_ hk
    obtain⟨b,rfl,hb⟩:=yf_ r
    rcases Qv_ XC_ ks h2 h3 with ⟨d,v,e1,e2,e3⟩|⟨e1,e2⟩
    ·exact .inl ⟨d,v,e1,.inl (e2▸DGet.t h1 (s _ _ hb)),e3⟩
    ·exact .inr ⟨e1,.inl (e2▸DGet.t h1 (s _ _ hb))⟩
   ·exfalso
    cases kvs with
    | nil=>simp at h2
    | cons q kvs =>
     simp only[List.map_cons,List.cons.injEq]at h2
     rw[List.all_cons,h2.1,zbP_,Bool.false_and]at hk
     cases hk
  ·rcases hk with ⟨_,hk⟩|⟨hk,_⟩
   ·exfalso
    cases kvs with
    | nil=>simp at h2
    | cons q kvs =>
     simp only[List.map_cons,List.cons.injEq]at h2
     rw[List.all_cons,h2.1,zbO_,Bool.false_and]at hk
     cases hk
   ·obtain⟨ks,rfl⟩:=yn_ hk
    obtain rfl:=Zh_ r
    rcases Qv_ zdg_ ks h2 h3 with ⟨d,v,e1,e2,e3⟩|⟨e1,e2⟩
    ·exact .inl ⟨d,v,e1,.inl (e2▸DGet.k h1),e3⟩
    ·exact .inr ⟨e1,.inl (e2▸DGet.k h1)⟩
section
variable {X:Cx}{pins:List (Addr×Obj)}{σ:L2.St}{H:Hp}{s:Shared}{a:Addr}{y d:V}{u r:Value}{o:Option V}{A:Around}{E:Value->Shared->Prop}
theorem zfx_{Q:Value->Shared->Prop}(hu:A.units+1<cLine)(I:Inv X pins σ H s)(g:DAsk H a y o)(ry:RelV y u)(h:∀s',Inv X pins σ H s'->Q (.bool (!o.isSome)) s') :
  wpAny (model X.prog X.w) A (compareOp .NotIn u (.ref a)) Q E s:=by
 rcases g with g|⟨e,k,rfl⟩
 ·exact zfg_ hu I g ry h
 ·obtain⟨h1,h2,hd⟩:=JR_ I e
  rcases k with ⟨k,rfl⟩|⟨b,ks,rfl,hb⟩
  ·exact wpAny_notIn_of (Qs_ ry) hd h2.mapOf (h _ (I.tok _))
  ·cases (show u=Value.ref b from ry)
   exact wpAny_notIn_heap (tupleKind_room_in1 hu) (y7_ I.hok hb) hd h1 (h _ (I.tok _))
theorem zhT_{Q:Value->Shared->Prop}(hu:A.units+1<cLine)(I:Inv X pins σ H s)(g:DAsk H a y o)(ry:RelV y u)(h:∀w' s',Inv X pins σ H s'->RelV (o.getD .non) w'->Q w' s') :
  wpAny (model X.prog X.w) A (call (.builtin "dict.get") [.ref a,u]) Q E s:=by
 rcases g with g|⟨e,k,rfl⟩
 ·exact zhH_ hu I g ry h
 ·obtain⟨h1,h2,hd⟩:=JR_ I e
  rcases k with ⟨k,rfl⟩|⟨b,ks,rfl,hb⟩
  ·exact call_meetsIn PySem.F.slot_dict_get h2.typeIs PySem.F.entry_dict_get (PySem.F.args_dict_get_2 _ _) (meets_dict_get (zE_ X.prog X.w) a (Qs_ ry) hd) ⟨_,h2.mapOf,h _ _ (I.tok _) rfl⟩
  ·cases (show u=Value.ref b from ry)
   exact call_meetsIn PySem.F.slot_dict_get h1.typeIs PySem.F.entry_dict_get (PySem.F.args_dict_get_2 _ _) (meetsH_dict_get (tupleKind (zE_ X.prog X.w)) a b hd) ⟨tupleKind_room_in1 hu,ks,[],y7_ I.hok hb,h1,h _ _ (I.tok _) rfl⟩
theorem DT.isD{K:Fg}{F:Hp}{es:List (D×D)}(h:DT K F H a es\/DK K F H a es):IsD H a:=by
 rcases h with ⟨kvs,h1,_⟩|⟨kvs,h1,_⟩
 ·exact .inr ⟨_,.inl h1⟩
 ·exact .inl ⟨_,.inl h1⟩
end
def X6_:D->D->Option D
 | .dict es,k=>if keyOk es k then some ((getE es k).getD .none)else none
 | _,_=>none
def zV_(d c:D):Option Bool:=match c with
 | .dict es=>if keyOk es d then some (!(getE es d).isSome)else none
 | _=>jU_ d c
def zs_(x y:D):Option D:=match x with
 | .dict es=>if keyOk es y then getE es y else none
 | _=>opIx x y
noncomputable def X1_:List D->Option D
 | [.dict es]=>if isXe es then none else some (.int es.length)
 | l=>fLen l
def zgI_(po pe:Pu D):Pu D:=λρ=>bd (po ρ) λd=>bd (noX (pe ρ)) λk=>oM (X6_ d k)
theorem W.nx{X:Cx}{G:Gh}{F:Hp}{σ:L2.St}{ρ:En}{α:Type}{m:M α}{C:α->Hp->Hp->Prop}(h:W X G F σ ρ (noX m) C):W X G F σ ρ m C:=by
 cases m with
 | ret a=>exact h
 | exc x=>exact h.elim
 | bad=>exact h.elim
noncomputable def zfM_(td ty:TE):TE:=λσ H Q=>td σ H λx H1=>∃a,x=.ref a/\IsD H1 a/\ty σ H1 λy H2=>∃o,DAsk H2 a y o/\Q (o.getD .non) H2
section
variable {X:Cx}{o e f:Expr}{apos cpos:Pos}{td ty tx:TE}
theorem zbk_(hu:X.A.units+1<cLine)(ho:PE X o td)(he:PE X e ty)(m:M1 X o "get" apos e cpos):PE X (.Call (.Attribute o "get" apos) [e] [] cpos) (zfM_ td ty):=by
 intro pins s σ H Q I h
 refine wpAny_Call_method m.base m.few m.line PySem.F.plainAttrs_dict PySem.F.slot_dict_get PySem.F.type_dict_get (thn (ho pins s σ H _ I h) λu s1 ⟨x,H1,I1,rx,a,ex,d,q1⟩=>?_)
 subst ex
 obtain rfl:u=Value.ref a:=rx
 obtain⟨t1,t2,_⟩:=zhq_ I1 d
 refine⟨t1,t2,?_⟩
 rw[m.trees]
 refine Calls.callWith_builtin rfl (Calls.evalArgs_plain (Calls.spliced_cons (thn (he pins s1 σ H1 _ I1 q1) λiv s2 ⟨y,H2,I2,ry,ov,g,q2⟩=>Calls.spliced_nil ?_)))
 exact zhT_ hu I2 g ry λw' s3 I3 rw'=>⟨_,H2,I3,rw',q2⟩
end
section
variable {X:Cx}{o e f:Expr}{apos cpos pos:Pos}{po pe pf:Pu D}
theorem zcs_(hu:X.A.units+1100<cLine)(ho:AO X o po)(he:AP X e pe)(m:M1 X o "get" apos e cpos):AP X (.Call (.Attribute o "get" apos) [e] [] cpos) (zgI_ po pe) :=
 λG F σ H ρ Q S w=>sem (zbk_ (by lia) zm_ zm_ m) (ho G F σ H ρ _ S (w.bind.imp λd F1 H1 s1 S1 w1 v hv=>by
  have hd:∃es,d=.dict es/\isXe es=false:=by
   cases hk:pe ρ with
   | ret k =>
    rw[hk]at w1;simp only[uZ_,Za_]at w1
    obtain⟨res,e,_⟩:=w1.opt
    cases d with
    | dict es =>
     dsimp only[X6_]at e
     split at e
     ·rename_i hk;exact⟨es,rfl,Qq_ hk⟩
     ·cases e
    | _=>cases e
   | exc x=>rw[hk]at w1;exact w1.elim
   | bad=>rw[hk]at w1;exact w1.elim
  obtain⟨es,rfl,hnx⟩:=hd
  obtain⟨a,rfl,hh⟩:=(hv.or S1).dict S1.fh hnx
  refine⟨a,rfl,DT.isD hh,he G F1 σ H1 ρ _ S1 (w1.bind.nx.imp λk F2 H2 s2 S2 w2 y hy=>?_)⟩
  obtain⟨res,e,kk⟩:=w2.opt
  dsimp only[X6_]at e
  split at e
  case isFalse=>cases e
  rename_i hk
  cases e
  obtain⟨a',ea,hh3⟩:=((hv.mono s2).or S2).dict S2.fh hnx
  cases ea
  rcases zan_ S2.fh hh3 hy hk with ⟨d,v,e1,g,r⟩|⟨e1,g⟩
  ·refine⟨some v,g,?_⟩
   rw[e1]at kk
   exact kk F2 H2 (Same.refl _) S2 v r
  ·refine⟨none,g,?_⟩
   rw[e1]at kk
   exact kk F2 H2 (Same.refl _) S2 .non .non))
end
noncomputable def rDin(neg:Bool):R2:=λx y H Q=>∃a o,y=.ref a/\DAsk H a x o/\Q (.bl (if neg then !o.isSome else o.isSome)) H
def WQ_(K:Fg):R2:=λx y H Q=>rD2 K jU_ x y H Q\/rDin true x y H Q
noncomputable def rDIx:R2:=λx y H Q=>∃a v,x=.ref a/\DGet H a y (some v)/\Q v H
def rIxA(K:Fg):R2:=λx y H Q=>rIx K x y H Q\/rDIx x y H Q
section
variable {X:Cx}
theorem ja_(hu:X.A.units+1100<cLine):OpR X (compareOp .NotIn) (WQ_ X.K):=OpR.or (W3_ hu) (by
 intro pins s σ H x y v u Q I rx ry ⟨a,o,e,g,q⟩
 subst e
 obtain rfl:u=Value.ref a:=ry
 exact zfx_ (by lia) I g rx λs' I'=>⟨.bl _,H,I',rfl,q⟩)
theorem zeU_(hu:X.A.units+1100<cLine):IxR X rDIx:=by
 intro value slice pins s σ H x y v u Q I rx ry ⟨a,w,e,g,q⟩ hs
 subst e
 obtain rfl:v=Value.ref a:=rx
 have hT:s.TypeIs (.ref a) "dict":=QB_ I g
 unfold subscriptTail
 refine zza ?_
 rw[getitemInPython_of_ne hT.not_modules]
 refine zza (wpAny_specialOf hT PySem.F.slot_dict_getitem.lookup ?_)
 have h₂:wpAny (model X.prog X.w) X.A (getItem (.ref a) u) (EP X pins σ Q) X.xe s:=X4_ (by lia) I g ry λw' s3 I3 rw'=>⟨w,H,I3,rw',q⟩
 have fin:wpAny (model X.prog X.w) X.A (subscripted slice false (.ref a) u) (λr s₃=>wpAny (model X.prog X.w) X.A (letTemporaryGo value (.ref a) r >>= λ_=>pure r) (EP X pins σ Q) X.xe s₃) X.xe s:=by
  rw[hs]
  exact wpAny_operating (wpAny_mono h₂ (λr s₃ h₃=>zza (wpAny_letTemporaryGo (zzb h₃))) λ_ _ x=>x)
 first
  | exact zzb (zza fin)
  | exact zza (zzb (zza fin))
  | exact zza fin
theorem zq_(hu:X.A.units+1100<cLine):IxR X (rIxA X.K):=IxR.or zho_ (zeU_ hu)
theorem Yv_{K:Fg}{F H:Hp}{y:V}{es:List (D×D)}{k:D}(h:OR K F H y k)(hk:keyOk es k=true):Rep K F y k:=by
 rcases h with h|⟨a,c,e,e2,h1⟩
 ·exact h
 ·exfalso
  subst e2
  unfold keyOk at hk
  cases c<;>simp[OC.d,ji_,jL_]at hk
theorem js_{K:Fg}:OpB K (WQ_ K) zV_:=by
 intro G F σ H ρ x y dx dy res Q S ox oy e k
 unfold zV_ at e
 split at e
 ·rename_i es
  split at e
  case isFalse=>cases e
  rename_i hk
  cases e
  obtain⟨a,rfl,hh⟩:=oy.dict S.fh (Qq_ hk)
  rcases zan_ S.fh hh (Yv_ ox hk) hk with ⟨d,v,e1,g,r⟩|⟨e1,g⟩
  ·exact .inr ⟨a,_,rfl,g,by rw[e1]at k;exact k⟩
  ·exact .inr ⟨a,_,rfl,g,by rw[e1]at k;exact k⟩
 ·exact .inl (uY_ G F σ H ρ x y dx dy res Q S ox oy e k)
theorem zp_{K:Fg}:OpD K (rIxA K) zs_:=by
 intro G F σ H ρ x y dx dy res Q S ox oy e k
 unfold zs_ at e
 split at e
 ·rename_i es
  split at e
  case isFalse=>cases e
  rename_i hk
  obtain⟨a,rfl,hh⟩:=ox.dict S.fh (Qq_ hk)
  rcases zan_ S.fh hh (Yv_ oy hk) hk with ⟨d,v,e1,g,r⟩|⟨e1,g⟩
  ·rw[e1]at e
   cases e
   rcases g with g|⟨_,_,z⟩
   ·exact .inr ⟨a,v,rfl,g,k v F H (Same.refl _) S r⟩
   ·cases z
  ·rw[e1]at e;cases e
 ·exact .inl (ziH_ G F σ H ρ x y dx dy res Q S ox oy e k)
end
noncomputable def ownD(ρ:En)(i:Nat):Option (Bool×List (D×D)):=match ρ[i]? with
 | some (some (.ol (.t es)))=>some (true,es)
 | some (some (.ol (.k es)))=>some (false,es)
 | _=>none
noncomputable def ocD(t:Bool)(es:List (D×D)):OC:=if t then .t es else .k es
theorem QZ_{ρ:En}{i:Nat}{t:Bool}{es:List (D×D)}(h:ownD ρ i=some (t,es)):ρ[i]? = some (some (.ol (ocD t es))):=by
 unfold ownD at h
 split at h
 ·rename_i q;cases h;exact q
 ·rename_i q;cases h;exact q
 ·cases h
noncomputable def keyOf(t:Bool)(k:D):Bool:=if t then ji_ k else jL_ k
def dPut(t:Bool)(es:List (D×D))(k d:D):Option (List (D×D)):=if keyOf t k&&decide (es.length<sizeLine)then some (putE es k d)else none
section
variable {S:Type}
def zfY_(t:Bool)(i:Nat):SM S:=λK ρ=>match yL_ ρ i with
 | true=>K.nx (ρ.set i (some (.ol (ocD t []))))
 | false=>.bad
def zfX_(i:Nat)(mi me:Ev S D):SM S:=λK ρ=>me K.x (λd ρ1=>match ownD ρ1 i with
 | some _=>mi K.x (λj ρ2=>match ownD ρ2 i with
  | some (t,es)=>(oM (dPut t es j d)).on (λe=>K.x e ρ2) (λes'=>K.nx (ρ2.set i (some (.ol (ocD t es')))))
  | none=>.bad) ρ1
 | none=>.bad) ρ
variable {X:Cx}{b e:Expr}{mi me:Ev S D}{pos pos' tpos:Pos}
theorem zap_(t:Bool){i:Nat}{x:Str}(hN:X.N.Nodup)(hi:X.N[i]? = some x)(hx:Loc X.env.scope x)(hs:swapsWith (.Dict [] [] tpos) (some (.Name x pos')) pos.line X.env=pure false)(hf:X.fn x=true\/X.env.scope.names.lookup x=some .local) :
  AS (S:=S) X (.Assign [.Name x pos'] (.Dict [] [] tpos) pos) (zfY_ t i):=λOK K G F σ H ρ E hO hX St ok eo=>by
 unfold zfY_ at ok
 split at ok
 case h_2=>exact(hO ok).elim
 rename_i ho
 obtain⟨hl,hop⟩:=jk_ ho
 cases t with
 | true=>exact semS (U6_ hN hi hx zbh_ hs hf) λp hp=>eo.nx F _ _ _ (Same.refl _) ((St.lay (o:=.dT []) hp).store hop hl (.inr ⟨.t [],rfl,p,rfl,⟨St.fh.free hp,St.oh.free hp,[],zn_,rfl,.nil⟩,St.fresh_ne hp⟩)) ok
 | false=>exact semS (U6_ hN hi hx zbi_ hs hf) λp hp=>eo.nx F _ _ _ (Same.refl _) ((St.lay (o:=.dK []) hp).store hop hl (.inr ⟨.k [],rfl,p,rfl,⟨St.fh.free hp,St.oh.free hp,[],zn_,rfl,.nil⟩,St.fresh_ne hp⟩)) ok
theorem UE_(hu:X.A.units+1100<cLine){i:Nat}{x:Str}(hN:X.N[i]? = some x)(hv:Vis X.env.scope x)(hi:AE X b mi)(he:AE X e me)
  (hs:swapsWith e (some (.Subscript (.Name x pos') b tpos)) pos.line X.env=pure false)
  (hd:(x==("__debug__" : Str))=false:=by decide) (hcd:(x==("__classdict__" : Str))=false:=by decide):AS X (.Assign [.Subscript (.Name x pos') b tpos] e pos) (zfX_ i mi me):=λOK K G F σ H ρ E hO hX St ok eo =>
 semS (zeg_ (by lia) (uK_ hN hv hd hcd) zm_ zm_ hs) (he OK K.x _ G F σ H ρ _ hO hX St ok λd v F1 H1 ρ1 s1 S1 r1 o1=>by
  split at o1
  case h_2=>exact(hO o1).elim
  rename_i te0 hd0
  obtain⟨t0,es0⟩:=te0
  obtain⟨a,ea,_⟩:=S1.ow i _ (.inl (QZ_ hd0))
  refine⟨_,ea,hi OK K.x _ G F1 σ H1 ρ1 _ hO hX S1 o1 λj u F2 H2 ρ2 s2 S2 r2 o2=>?_⟩
  split at o2
  case h_2=>exact(hO o2).elim
  rename_i t es hds
  obtain⟨es',hp,o3⟩:=jH_ hO o2
  have hown:=QZ_ hds
  obtain⟨a',ea',oa⟩:=S2.ow i _ (.inl hown)
  rw[ea]at ea'
  injection ea' with ea';injection ea' with ea';injection ea' with ea'
  subst ea'
  unfold dPut at hp
  split at hp
  case isFalse=>cases hp
  rename_i hc
  cases hp
  rw[Bool.and_eq_true,zzi]at hc
  cases t with
  | true =>
   obtain⟨ks,rfl⟩:=uj_ hc.1
   obtain⟨b,rfl,hb⟩:=yf_ r2
   obtain⟨kvs,h1,h2,h3⟩:=(show Held X.K F2 H2 a (.t es)from oa.he)
   obtain⟨p1,p2⟩:=WT_ XC_ ks (r1.mono s2) h2 h3
   have hlen:kvs.length=es.length:=by have:=congrArg List.length h2;simpa using this.symm
   refine⟨a,_,rfl,DPut.t h1 (S2.fh _ _ hb) (by lia),eo.nx F2 σ _ _ (s1.trans s2) ?_ o3⟩
   have:=S2.change (.inl hown) ea (c':=.t (putE es (keyT ks) d)) (o:=.dT (putK kvs ks v)) ⟨_,zn_,p1,p2⟩
   rw[hown]at this
   exact this
  | false =>
   obtain⟨ks,rfl⟩:=yn_ hc.1
   obtain rfl:=Zh_ r2
   obtain⟨kvs,h1,h2,h3⟩:=(show Held X.K F2 H2 a (.k es)from oa.he)
   obtain⟨p1,p2⟩:=WT_ zdg_ ks (r1.mono s2) h2 h3
   have hlen:kvs.length=es.length:=by have:=congrArg List.length h2;simpa using this.symm
   refine⟨a,_,rfl,DPut.k h1 (by lia),eo.nx F2 σ _ _ (s1.trans s2) ?_ o3⟩
   have:=S2.change (.inl hown) ea (c':=.k (putE es (keyD ks) d)) (o:=.dK (putK kvs ks v)) ⟨_,zn_,p1,p2⟩
   rw[hown]at this
   exact this)
end
end L4
namespace HT
open PySem PyProof.Rows
noncomputable def lexLe:List Int->List Int->Bool
 | [],[]=>true
 | [],_::_=>true
 | _::_,[]=>false
 | x::xs,y::ys=>if x=y then lexLe xs ys else decide (x<=y)
theorem V1_(x y:Int)(xs ys:List Int):lexLe (x::xs) (y::ys)=if x=y then lexLe xs ys else decide (x<=y):=rfl
theorem Un_:lexLe [] []=true:=rfl
theorem Jt_(y:Int)(ys:List Int):lexLe [] (y::ys)=true:=rfl
theorem Ju_(x:Int)(xs:List Int):lexLe (x::xs) []=false:=rfl
theorem zaX_(A:Around)(s:Shared)(a:Int)(t:Tok)(c:Int)(u:Tok)(prog:Program)(w:World)(E:Value->Shared->Prop)(Q:Value->Shared->Prop)(h:Q (.bool (decide (a<=c))) s) :
  wpAny (model prog w) A (richCompare .LtE (.int a t) (.int c u)) Q E s :=
 (PyProof.Rows.le_int h:wpAny (model prog w) A (compareOp .LtE (.int a t) (.int c u)) Q E s)
section
open PySem.SeqAt
open PySem.AutoSeq1 (wpAny_loadPart')
open PySem.MeetsSeq PySem.MeetsSeq2 PySem.MeetsSeq3
theorem J2_(l b:Addr)(items items2:Array Value)(n n2:Nat)(dd dd2:Option Addr)(sl sl2:Array (Option Value))(ns ms:List Int)(hi:IntsAre items.toList ns)(hj:IntsAre items2.toList ms) :
  Meets (Builtin.«tuple.__le__» ⟨[.ref l,.ref b],[]⟩)
   (λ_ R s=>s.heap.get? l=some { cls:=.type "tuple",dict:=dd,data:=.seq items n,slots:=sl }/\s.heap.get? b=some { cls:=.type "tuple",dict:=dd2,data:=.seq items2 n2,slots:=sl2 } /\
    R (.ok (.ret (.bool (lexLe ns ms)))) s) :=
 .of_wp λprog w A R s h=>by
  obtain⟨hp,g,d,tk,os⟩:=s;obtain⟨hl,hb,h⟩:=h
  have f2:=AutoSeq1.sub_tuple_tuple
  have z1:items.size=ns.length:=by rw[<-hi.length];simp
  have z2:items2.size=ms.length:=by rw[<-hj.length];simp
  wp_walk using wpAny_loadPart' hl,wpAny_loadPart' hb,wpAny_forIn_list _ (λrest b s'=>b.1=none/\s'=⟨hp,g,d,tk,os⟩/\∃(vs ws:List Value) (ns' ms':List Int),rest=vs.zip ws /\
   IntsAre vs ns'/\IntsAre ws ms'/\ns'.length+items2.size=ms'.length+items.size/\R (.ok (.ret (.bool (lexLe ns' ms')))) ⟨hp,g,d,tk,os⟩) _
  case turn =>
   rintro⟨y,x⟩ rest b s' ⟨hb',rfl,vs,ws,ns',ms',hz,hvi,hwi,hlen,hR⟩
   cases hvi with
   | nil=>rw[List.zip_nil_left]at hz;cases hz
   | cons a t hvi' =>
    cases hwi with
    | nil=>rw[List.zip_nil_right]at hz;cases hz
    | cons c u hwi' =>
     rw[List.zip_cons_cons]at hz
     injection hz with hyx hrest
     injection hyx with hy hx
     subst hy hx
     rw[V1_]at hR
     simp only[List.length_cons]at hlen
     obtain⟨e,he,hiff⟩:=Vg_ A.in1 ⟨hp,g,d,tk,os⟩ a t c u
     refine zza (he prog w _ _ ?_)
     cases e with
     | true =>
      rw[if_pos (hiff.mp rfl)]at hR
      wp_walk
      exact⟨rfl,rfl,_,_,_,_,hrest,hvi',hwi',by lia,hR⟩
     | false =>
      rw[if_neg (λq=>absurd (hiff.mpr q) Bool.false_ne_true)]at hR
      have hri:=zaX_ A.in1 ⟨hp,g,d,tk,os⟩ a t c u prog w
      wp_walk using hri
      exact⟨_,rfl,by simpa using hR⟩
  case fin =>
   rintro⟨b1,b2⟩ s' ⟨hb',rfl,vs,ws,ns',ms',hz,hvi,hwi,hlen,hR⟩
   simp only at hb'
   subst hb'
   have hv:lexLe ns' ms'=decide (items.size<=items2.size):=by
    cases hvi with
    | nil =>
     cases hwi with
     | nil =>
      simp only[List.length_nil]at hlen
      rw[Un_]
      exact(decide_eq_true (by lia)).symm
     | cons c u hw =>
      simp only[List.length_nil,List.length_cons]at hlen
      rw[Jt_]
      exact(decide_eq_true (by lia)).symm
    | cons a t hv =>
     cases hwi with
     | nil =>
      simp only[List.length_nil,List.length_cons]at hlen
      rw[Ju_]
      exact(decide_eq_false (by lia)).symm
     | cons c u hw =>
      rw[List.zip_cons_cons]at hz
      cases hz
   rw[hv]at hR
   wp_walk
   exact⟨_,rfl,by simpa[Builtin.Tuple.tupleCompareSizes]using hR⟩
  case h =>
   exact⟨rfl,rfl,items.toList,items2.toList,ns,ms,rfl,hi,hj,by lia,h⟩
end
section
variable {prog:Program}{w:World}{A:Around}{E:Value->Shared->Prop}{s:Shared}
theorem le_tupInts{l b:Addr}{items items2:Array Value}{ns ms:List Int}{Q:Value->Shared->Prop}(hl:IsTup s.heap l items)(hb:IsTup s.heap b items2)(hi:IntsAre items.toList ns)(hj:IntsAre items2.toList ms)
  (hu:A.units<cLine) (h:Q (.bool (lexLe ns ms)) s):wpAny (model prog w) A (compareOp .LtE (.ref l) (.ref b)) Q E s:=by
 obtain⟨⟨cls,dd,data,sl⟩,ho,hc,n,hd⟩:=id hl
 obtain⟨⟨cls2,dd2,data2,sl2⟩,ho2,hc2,n2,hd2⟩:=id hb
 simp only at hc hd hc2 hd2
 subst hc hd hc2 hd2
 exact richCompare_meets_room (op:=.LtE) ⟨_,ho,rfl⟩ ⟨_,ho2,rfl⟩ PySem.F.slot_tuple_le PySem.F.entry_tuple_le (PySem.F.args_tuple_le_2 _ _) (J2_ l b items items2 n n2 dd dd2 sl sl2 ns ms hi hj)
  ⟨ho,ho2,show Value.bool (lexLe ns ms)≠Value.notImplemented/\Q (.bool (lexLe ns ms)) s from⟨(λx=>nomatch x),h⟩⟩ hu
end
end HT
namespace L4
open PySem PySem.Spec PyProof.Rows L2 L3
noncomputable def rLeT(K:PySem.W.Frag):R2:=λx y H Q=>∃a b ns ms,x=.ref a/\y=.ref b/\SqT K H a (ns.map V.int)/\SqT K H b (ms.map V.int)/\Q (.bl (HT.lexLe ns ms)) H
theorem zgQ_{X:Cx}(hu:X.A.units<cLine):OpR X (compareOp .LtE) (rLeT X.K):=by
 intro pins s σ H x y v u Q I rx ry h
 obtain⟨a,b,ns,ms,rfl,rfl,ha,hb,q⟩:=h
 cases rx
 cases ry
 obtain⟨its,r1,p1,_⟩:=I.tuple ha
 obtain⟨its2,r2,p2,_⟩:=I.tuple hb
 have i1:IntsAre its.toArray.toList ns:=intsAre_of r1
 have i2:IntsAre its2.toArray.toList ms:=intsAre_of r2
 exact HT.le_tupInts p1 p2 i1 i2 hu ⟨.bl (HT.lexLe ns ms),H,I,rfl,q⟩
noncomputable def VQ_(x y:D):Option Bool:=match x,y with
 | .tuple a,.tuple b=>match intsOf a,intsOf b with
  | some m,some n=>some (HT.lexLe m n)
  | _,_=>none
 | x,y=>opLe x y
noncomputable def Yd_(x y:D):Option Bool:=match x,y with
 | .tuple a,.tuple b=>match intsOf a,intsOf b with
  | some m,some n=>some (HT.lexLt m n)
  | _,_=>none
 | x,y=>opLt x y
def rLeA(K:Fg):R2:=λx y H Q=>rI0 (λi j=>.bl (decide (i<=j))) x y H Q\/rLeT K x y H Q
def rLtA(K:Fg):R2:=λx y H Q=>rI0 (λi j=>.bl (decide (i<j))) x y H Q\/rLtT K x y H Q
theorem W4_{X:Cx}(hu:X.A.units+1100<cLine):OpR X (compareOp .LtE) (rLeA X.K):=OpR.or ziE_ (zgQ_ (by lia))
theorem zcU_{X:Cx}(hu:X.A.units+1100<cLine):OpR X (compareOp .Lt) (rLtA X.K):=OpR.or ziD_ (zgP_ (by lia))
theorem Xg_{K:Fg}:OpB K (rLeA K) VQ_:=by
 intro G F σ H ρ x y dx dy res Q S ox oy e k
 unfold VQ_ at e
 split at e
 ·rename_i a b
  split at e
  ·rename_i m n hm hn
   cases e
   obtain⟨p,vs,rfl,h1,h2⟩:=ox.tuple S.fh
   obtain⟨q,us,rfl,g1,g2⟩:=oy.tuple S.fh
   rw[jM_ hm]at h2
   rw[jM_ hn]at g2
   rw[ud_ h2]at h1
   rw[ud_ g2]at g1
   exact .inr ⟨p,q,m,n,rfl,rfl,h1,g1,k⟩
  ·cases e
 ·exact .inl (ziG_ G F σ H ρ x y dx dy res Q S ox oy e k)
theorem zcY_{K:Fg}:OpB K (rLtA K) Yd_:=by
 intro G F σ H ρ x y dx dy res Q S ox oy e k
 unfold Yd_ at e
 split at e
 ·rename_i a b
  split at e
  ·rename_i m n hm hn
   cases e
   obtain⟨p,vs,rfl,h1,h2⟩:=ox.tuple S.fh
   obtain⟨q,us,rfl,g1,g2⟩:=oy.tuple S.fh
   rw[jM_ hm]at h2
   rw[jM_ hn]at g2
   rw[ud_ h2]at h1
   rw[ud_ g2]at g1
   exact .inr ⟨p,q,m,n,rfl,rfl,h1,g1,k⟩
  ·cases e
 ·exact .inl (ziF_ G F σ H ρ x y dx dy res Q S ox oy e k)
end L4
namespace PySem
open Sem (wp)
open AutoSeq1 (wpAny_loadPart')
section
variable {prog:Program}{w:World}{A:Around}{E:Value->Shared->Prop}{s:Shared}
theorem ZP_{it t:Addr}{i:Nat}{items}{x:Value}{Q:Value->Shared->Prop}(hit:s.heap.IsTupleIter it t i)
  (ht:s.heap.IsTuple t items) (hx:items[i]? = some x)
  (hQ:∀h',h'.IsTupleIter it t (i+1)->Heap.SameBut it s.heap h'->Q x { s with heap:=h' }) :
  wpAny (model prog w) A (Builtin.SmallTypes.nextOf (.ref it)) Q E s:=by
 obtain⟨o,ho,hc,hd⟩:=id hit
 obtain⟨ol,hol,_,nl,hdl⟩:=ht
 unfold Builtin.SmallTypes.nextOf
 refine zza (wpAny_callSpecial?_slot (name:=Str.ofString "__next__") hit.typeIs F.slot_tuple_iterator_next
  (wpAny_call_entry F.slot_tuple_iterator_next hit.typeIs F.entry_tuple_iterator_next ?_ (F.args_tuple_iterator_next_1 _)))
 show wpAny _ _ (field (.ref it) 0 >>= _) _ _ s
 refine zza (wpAny_field ho hd (x:=.ref t) rfl ?_)
 show wpAny _ _ (if(Value.ref t==Value.none)=true then _ else _) _ _ s
 rw[if_neg (show ¬ ((Value.ref t==Value.none)=true)from Bool.false_ne_true)]
 show wpAny _ _ (field (.ref it) 1 >>= _) _ _ s
 refine zza (wpAny_field ho hd (x:=.int i 0) rfl ?_)
 show wpAny _ _ (seqItems? (.ref t) >>= _) _ _ s
 refine zza (wpAny_seqItems hol hdl ?_)
 simp only[Int.toNat_natCast,hx]
 refine zza (wpAny_setField ho hd (by simp) (zzb ⟨x,rfl,zzb (hQ _ ?_ (Heap.SameBut.update ..))⟩))
 exact⟨_,Heap.get?_update_self _ ho (Obj.isFreed_of_fields (Obj.data_mapFields hd _)),(Obj.cls_mapFields ..).trans hc,by
  rw[Obj.data_mapFields hd];simp[rawInt]⟩
theorem uM_{it t:Addr}{i:Nat}{items}{Q:Value->Shared->Prop}(hh:A.handled=none)
  (hit:s.heap.IsTupleIter it t i) (ht:s.heap.IsTuple t items) (hx:items[i]? = none)
  (hE:∀h' e,Heap.ExtBut it s.heap h'->(∃o,h'.get? e=some o/\o.cls=.type "StopIteration")->E (.ref e) { s with heap:=h' }) :
  wpAny (model prog w) A (Builtin.SmallTypes.nextOf (.ref it)) Q E s:=by
 obtain⟨o,ho,hc,hd⟩:=id hit
 obtain⟨ol,hol,_,nl,hdl⟩:=ht
 unfold Builtin.SmallTypes.nextOf
 refine zza (wpAny_callSpecial?_slot (name:=Str.ofString "__next__") hit.typeIs F.slot_tuple_iterator_next
  (wpAny_call_entry F.slot_tuple_iterator_next hit.typeIs F.entry_tuple_iterator_next ?_ (F.args_tuple_iterator_next_1 _)))
 show wpAny _ _ (field (.ref it) 0 >>= _) _ _ s
 refine zza (wpAny_field ho hd (x:=.ref t) rfl ?_)
 show wpAny _ _ (if(Value.ref t==Value.none)=true then _ else _) _ _ s
 rw[if_neg (show ¬ ((Value.ref t==Value.none)=true)from Bool.false_ne_true)]
 show wpAny _ _ (field (.ref it) 1 >>= _) _ _ s
 refine zza (wpAny_field ho hd (x:=.int i 0) rfl ?_)
 show wpAny _ _ (seqItems? (.ref t) >>= _) _ _ s
 refine zza (wpAny_seqItems hol hdl ?_)
 simp only[Int.toNat_natCast,hx]
 refine zza (wpAny_rule (zza (wpAny_setField ho hd (by simp) ?_)))
 first
  | (show wpAny _ _ (newExc (.type "StopIteration") [] >>= _) _ _ _
     refine zza ?_
     simp only[newExc,newTuple]
     refine zza (wpAny_newObj_type ?_ (by size_fits))
     refine zza (m:=firstArgMember _ _) (wpAny_of_eq (a:=Value.none) (by first|rfl|(simp only[firstArgMember];rfl)) ?_)
     refine wpAny_newObj_type ?_ (by size_fits)
     simp only[raiseNew]
     refine zza (wpAny_handled ?_)
     first|rw[show A.in1.handled=none from hh]|rw[hh]
     refine zza (zzb (wpAny_throw ?_))
     exact hE _ _ (((Heap.SameBut.update ..).extBut.push _).push _) ⟨_,zze _ rfl,rfl⟩)
  | (refine zza (wpAny_letGo ?_)
     show wpAny _ _ (newExc (.type "StopIteration") [] >>= _) _ _ _
     refine zza ?_
     simp only[newExc,newTuple]
     refine zza (wpAny_newObj_type ?_ (by size_fits))
     refine zza (m:=firstArgMember _ _) (wpAny_of_eq (a:=Value.none) (by first|rfl|(simp only[firstArgMember];rfl)) ?_)
     refine wpAny_newObj_type ?_ (by size_fits)
     simp only[raiseNew]
     refine zza (wpAny_handled ?_)
     first|rw[show A.in1.handled=none from hh]|rw[hh]
     refine zza (zzb (wpAny_throw ?_))
     exact hE _ _ (((Heap.SameBut.update ..).extBut.push _).push _) ⟨_,zze _ rfl,rfl⟩)
end
theorem YD_{prog:Program}{w:World}{A:Around}(hh:A.handled=none)(it l:Addr)(hne:l≠it)(items:Array Value) :
  Draws prog w A it [it,l] items.size (λi v=>items[i]? = some v) (λi h=>h.IsTupleIter it l i/\h.IsTuple l items) where
 live:=λ_ _ st=>let ⟨o,ho,_⟩:=st.1;⟨o,ho⟩
 frame:=λ_ _ _ st hk=>⟨st.1.at λo e=>hk it (by simp) o e,by obtain⟨o,e,r⟩:=st.2;exact⟨o,hk l (by simp) o e,r⟩⟩
 item:=λi s Q E hi st hQ=>by
  refine ZP_ st.1 st.2 (x:=items[i]) (by simp[hi]) λh' hit' hs'=>?_
  exact hQ _ h' s.toks (by simp[hi]) ⟨hit',st.2.extBut hs'.extBut hne⟩ hs'
 done:=λs Q E st hE=>uM_ hh st.1 st.2 (by simp) hE
set_option maxHeartbeats 1000000 in
theorem ZZ_(l:Addr)(items:Array Value)(n:Nat)(dct:Option Addr)(sl:Array (Option Value)) :
  Meets (Builtin.«enumerate.__new__» ⟨[.type "enumerate",.ref l],[]⟩) (λ_ R s=>s.heap.get? l=some { cls:=.type "tuple",dict:=dct,data:=.seq items n,slots:=sl } /\
   R (.ok (.ret (.ref (s.heap.push { cls:=.type "tuple_iterator",data:=.fields #[.ref l,.int 0 0] }).objs.size)))
    { s with heap:=(s.heap.push { cls:=.type "tuple_iterator",data:=.fields #[.ref l,.int 0 0] }).push { cls:=.type "enumerate",data:=.fields #[.none,.bool false,.ref s.heap.objs.size,rawInt 0,.none,.none] } }) :=
 .of_wp λprog w A R s h=>by
  obtain⟨hp,g,d,tk,os⟩:=s;obtain⟨hl,h⟩:=h
  have hsub:=sub_enumerate
  have hL:Heap.IsTuple (Shared.heap ⟨hp,g,d,tk,os⟩) l items:=⟨_,hl,rfl,n,rfl⟩
  wp_walk using wpAny_loadPart' hl
  refine wpAny_stack_any λst=>zzb ?_
  split
  ·rename_i c _ _ _ _ _
   cases (c==Value.type "enumerate")
   ·wp_walk using wpAny_loadPart' hl,wpAny_pyIter_tuple hL
    exact⟨_,rfl,h⟩
   ·wp_walk using wpAny_loadPart' hl,wpAny_pyIter_tuple hL
    exact⟨_,rfl,h⟩
  ·wp_walk using wpAny_loadPart' hl,wpAny_pyIter_tuple hL
   exact⟨_,rfl,h⟩
section
variable {prog:Program}{w:World}{A:Around}{E:Value->Shared->Prop}{s:Shared}
theorem Ja_{l:Addr}{items:Array Value}{Q:Value->Shared->Prop}(hL:s.heap.IsTuple l items)
  (h:∀h',IsEnum h' (s.heap.objs.size+1) s.heap.objs.size 0 .none->h'.IsTupleIter s.heap.objs.size l 0->h'.objs.size=s.heap.objs.size+2 ->
   (∀b o,s.heap.get? b=some o->h'.get? b=some o)->Q (.ref (s.heap.objs.size+1)) { s with heap:=h' }) :
  wpAny (model prog w) A (call (.type "enumerate") [.ref l]) Q E s:=by
 obtain⟨⟨c,dct,dt,sl⟩,hl,hc,n,hd⟩:=hL
 replace hc:c=.type "tuple":=hc
 replace hd:dt=.seq items n:=hd
 subst hc hd
 refine callType_new F.called_enumerate (by decide) (F.typeCall_enumerate_1 _) (F.newCall_enumerate_1 _) (λobj=>F.args_object_init_2 obj _) F.entry_enumerate_new
  (ZZ_ l items n dct sl) ⟨hl,?_⟩
 have hz:(s.heap.push { cls:=.type "tuple_iterator",data:=.fields #[.ref l,.int 0 0] }).objs.size=s.heap.objs.size+1:=Heap.size_push ..
 show _/\_
 rw[hz]
 have he:IsEnum ((s.heap.push { cls:=.type "tuple_iterator",data:=.fields #[.ref l,.int 0 0] }).push
   { cls:=.type "enumerate",data:=.fields #[.none,.bool false,.ref s.heap.objs.size,rawInt 0,.none,.none] }) (s.heap.objs.size+1) s.heap.objs.size 0 .none:=by
  have:=zze (s.heap.push { cls:=.type "tuple_iterator",data:=.fields #[.ref l,.int 0 0] })
   (o:={ cls:=.type "enumerate",data:=.fields #[.none,.bool false,.ref s.heap.objs.size,rawInt 0,.none,.none] }) rfl
  rw[hz]at this;exact this
 refine⟨⟨_,he,rfl⟩,h _ he ⟨_,zzc _ (zze _ rfl),rfl,rfl⟩ (by rw[Heap.size_push,hz]) λb o x=>zzc _ (zzc _ x)⟩
end
end PySem
namespace L3
open PySem PySem.Spec PyProof.Rows L2 L4
def Ite(K:Fg)(a:Addr):It :=
 ⟨λi H=>∃xs x,SqT K H a xs/\xs[i]? = some x,λi H y H'=>∃p x,(∀xs,SqT K H a xs->xs[i]? = some x)/\H p=none/\y=.ref p/\H'=upd H p (.tup [.int i,x]),λi H=>∃xs,SqT K H a xs/\xs.length<=i⟩
theorem Vh_{X:Cx}{pins:List (Addr×Obj)}{σ:L2.St}{H:Hp}{s:Shared}{e it:Addr}{i:Nat}{x:V}{x':Value}{tk:Nat}{h2:Heap}(I:Inv X pins σ H s)(fe:FpOk X pins H e)(ft:FpOk X pins H it)(ru:RelV x x')
  (keep2:∀b o,b≠e->b≠it->s.heap.get? b=some o->h2.get? b=some o) (tup2:h2.get? s.heap.objs.size=some { cls:=.type "tuple",data:=.seq #[.int i tk,x'] }) :
  Inv X pins σ (upd H s.heap.objs.size (.tup [.int i,x])) { s with heap:=h2,toks:=tk+1 }:=by
 refine QX_ (ch:=[e,it]) I (λc hc=>?_) (⟨tk,rfl⟩:RelV (.int i) (.int i tk)) ru (λb o hch q=>keep2 b o (λz=>hch (by rw[z];exact List.mem_cons_self)) (λz=>hch (by rw[z];exact zzg _ List.mem_cons_self)) q) tup2
 rcases List.mem_cons.mp hc with rfl|hb
 ·exact fe
 ·rw[List.mem_singleton.mp hb];exact ft
theorem Wy_{P:Program}{w:World}{K:Fg}{elts:List Expr}{x1:Nat}{pos:Pos}(a it e:Addr)(hai:a≠it)(hei:e≠it)(hea:e≠a) :
  Turn P w K (.Tuple elts x1 pos) (Ite K a) [e,it] e (λi h=>(∃old,IsEnum h e it i old)/\h.IsTupleIter it a i) where
 mem:=by simp
 obj:=λi h st b hb=>by
  obtain⟨⟨old,he⟩,o,e1,c,d⟩:=st
  rcases List.mem_cons.mp hb with rfl|hb
  ·exact⟨_,he,λv z=>nomatch z⟩
  ·rw[List.mem_singleton.mp hb]
   exact⟨o,e1,λv z=>by rw[d]at z;cases z⟩
 keep:=λi h h' st k=>by
  obtain⟨⟨old,he⟩,ht⟩:=st
  exact⟨⟨old,k e (by simp) _ he⟩,ht.at λo e=>k it (by simp) o e⟩
 item:=by
  intro X hP hw hK hc i pins s σ H E I hf st hg
  subst hP hw hK
  obtain⟨xs,x,hq,hx⟩:=hg
  obtain⟨its,rv,p,hz⟩:=I.tuple hq
  obtain⟨u,hu,ru⟩:=rv.get hx
  obtain⟨⟨old,he⟩,ht⟩:=st
  have D:=YD_ (prog:=X.prog) (w:=X.w) (A:=X.A.in1) (I.ok.hd hc) it a hai its.toArray
  have hi:i<its.toArray.size:=by simpa using(List.getElem?_eq_some_iff.mp hu).1
  have fe:=hf e (by simp)
  have ft:=hf it (by simp)
  refine wpAny_pyNext_enum_itemD D he ⟨ht,show s.heap.IsTuple a its.toArray from p⟩ hi hei (by simp[hei,hea]) λx' h' tk hP ho hs' hT hsz hk=>?_
  have ex:x'=u:=by
   have:its.toArray[i]? = some x':=hP
   rw[List.getElem?_toArray,hu]at this
   exact(Option.some.inj this).symm
  subst ex
  refine⟨_,rfl,wpAny_letOwnedTupleGo_enum ho λh2 he2 sb2=>?_⟩
  have hpe:s.heap.objs.size≠e:=Nat.ne_of_gt (Heap.lt_size he)
  have hpi:s.heap.objs.size≠it:=by obtain⟨o,e1,_⟩:=ht;exact Nat.ne_of_gt (Heap.lt_size e1)
  have keep2:∀b o,b≠e->b≠it->s.heap.get? b=some o->h2.get? b=some o:=λb o h1 h2' q=>(sb2.2 b h1).trans (hk b o h1 h2' q)
  have tup2:h2.get? s.heap.objs.size=some { cls:=.type "tuple",data:=.seq #[.int i tk,x'] }:=(sb2.2 _ hpe).trans hT
  have I1:Inv X pins σ (upd H s.heap.objs.size (.tup [.int i,x])) { s with heap:=h2,toks:=tk+1 }:=Vh_ I fe ft ru keep2 tup2
  refine⟨.ref s.heap.objs.size,_,I1,rfl,⟨_,x,λys hy=>by rw[I.tuple_inj hy hq];exact hx,I.fresh,rfl,rfl⟩,⟨⟨_,by simpa using he2⟩,?_⟩,λb hb=>?_⟩
  ·obtain⟨o,e1,r⟩:=hs'.1
   exact⟨o,(sb2.2 it (Ne.symm hei)).trans e1,r⟩
  ·rcases List.mem_cons.mp hb with rfl|hb
   ·rw[zj_ (Ne.symm hpe)];exact fe.1
   ·rw[List.mem_singleton.mp hb,zj_ (Ne.symm hpi)];exact ft.1
 done:=by
  intro X hP hw hK hc i pins s σ H E I hf st hg
  subst hP hw hK
  obtain⟨xs,hq,hx⟩:=hg
  obtain⟨its,rv,p,hz⟩:=I.tuple hq
  obtain⟨⟨old,he⟩,ht⟩:=st
  obtain⟨g0,g1,g2,g3,g4,g5⟩:=hf it (by simp)
  have hl:=rv.length
  have D:=YD_ (prog:=X.prog) (w:=X.w) (A:=X.A.in1) (I.ok.hd hc) it a hai its.toArray
  have hT:s.TypeIs (.ref e) "enumerate":=⟨_,he,rfl⟩
  unfold pyNext
  refine zza (wpAny_attempt (wpAny_callSpecial?_slot (name:=Str.ofString "__next__") hT F.slot_enumerate_next
   (wpAny_call_entry F.slot_enumerate_next hT F.entry_enumerate_next ?_ (F.args_enumerate_next_1 _))))
  show wpAny _ _ (field (.ref e) 2 >>= _) _ _ _
  refine zza (wpAny_field he rfl (x:=.ref it) rfl ?_)
  refine zza (uM_ (I.ok.hd hc) ht (show s.heap.IsTuple a its.toArray from p) (by simp;lia) λh' x he' hx'=>?_)
  obtain⟨o,ho,hcl⟩:=hx'
  refine zza (wpAny_isInstance (T := "StopIteration") (b:=true) ⟨o,ho,hcl⟩ isSubtype_stop ?_)
  exact zzb ⟨rfl,I.turned (t':=s.toks) (λb o hb e=>he' b o hb e) g0 g1 g3 g4 g5⟩
 self:=λ_ _ _ _ _ st h=>by
  obtain⟨⟨old,he⟩,ht⟩:=st
  exact wpAny_pyIter_enum he h
noncomputable def yq_(ds:List D):List D:=ds.zipIdx.map λp=>PyData.tuple [.int (p.2:Int),p.1]
theorem jA_(ds:List D):(yq_ ds).length=ds.length:=by simp[yq_]
theorem Ww_{K:Fg}{F:Hp}{a:Addr}{vs:List V}{ds:List D}(h:SqT K F a vs)(r:RepL K F vs ds):Walk K (Ite K a) (yq_ ds) F where
 go:=λi G F2 σ H2 ρ s S hi=>by
  have hi':i<vs.length:=by rw[r.length];rw[jA_]at hi;exact hi
  exact⟨vs,vs[i],zv_ S.fh (zv_ s h),by simp[hi']⟩
 yld:=λi G F2 σ H2 ρ x H3 d s S hd ⟨p,y,hy,hp,hx,hH⟩=>by
  subst hx hH
  unfold yq_ at hd
  rw[List.getElem?_map,List.getElem?_zipIdx]at hd
  cases q:ds[i]? with
  | none=>rw[q]at hd;cases hd
  | some d' =>
   rw[q]at hd
   simp at hd
   subst hd
   obtain⟨v,e1,e2⟩:=r.get q
   have:=hy vs (zv_ S.fh (zv_ s h))
   rw[e1]at this
   cases this
   obtain⟨s2,S2,r2⟩:=S.newTup hp (RepL.cons (Rep.int (i:Int)) (RepL.cons (e2.mono s) RepL.nil))
   exact⟨_,s2,S2,r2⟩
 stop:=λG F2 σ H2 ρ s S=>⟨vs,zv_ S.fh (zv_ s h),by rw[r.length,jA_];exact Nat.le_refl _⟩
def ziU_(K:Fg)(tl:TA):TI:=λσ H R=>tl σ H λxs H1=>∃a,xs=[.ref a]/\(∃ys,SqT K H1 a ys)/\R (Ite K a) H1
theorem zel_{X:Cx}{e:Expr}{tl:TA}{elts:List Expr}{x1:Nat}{tp p pos:Pos}(hg:Gl X "enumerate")(hm:X.mg "enumerate" = none)(ha:PA X [e] tl)(hs:starEach [e] X.env=[(false,eval e X.env)]) :
  PI X (.Tuple elts x1 tp) (.Call (.Name "enumerate" p) [e] [] pos) (ziU_ X.K tl):=by
 intro pins s σ H R I h
 refine wpAny_Call_Name_kw (uN_ I hg hm (show bootBuiltins "enumerate" = some (.type "enumerate") by decide +kernel) ?_ (by decide) (by decide))
 refine PyProof.Rows.callWith_type1 (thn (ha pos pins s σ H _ I h) λus s1 ⟨vs,H1,I1,r1,q1⟩=>?_) hs rfl
 obtain⟨a,rfl,⟨ys,hq⟩,q⟩:=q1
 obtain⟨u,rfl,ru⟩:=L2.Vals.one r1
 cases ru
 obtain⟨its,rv,pt,hz⟩:=I1.tuple hq
 have alt:a<s1.heap.objs.size:=by obtain⟨o,e1,_⟩:=pt;exact Heap.lt_size e1
 refine Ja_ (show s1.heap.IsTuple a its.toArray from pt) λh' he ht hsz hk=>?_
 refine wpAny_pyIter_enum (s:={ s1 with heap:=h' }) he ?_
 refine⟨s1.heap.objs.size+1,[s1.heap.objs.size+1,s1.heap.objs.size],_,_,H1,rfl,I1.kept (t':=s1.toks) hk,Wy_ a s1.heap.objs.size (s1.heap.objs.size+1) (Nat.ne_of_lt alt) (Nat.succ_ne_self _) (Nat.ne_of_gt (Nat.lt_succ_of_lt alt)),⟨⟨_,he⟩,ht⟩,λb hb=>?_,q⟩
 rcases List.mem_cons.mp hb with rfl|hb
 ·exact I1.fpOk (Nat.le_succ _) (I1.hok.fresh (Nat.le_succ _))
 ·rw[List.mem_singleton.mp hb]
  exact I1.fpOk (Nat.le_refl _) (I1.hok.fresh (Nat.le_refl _))
end L3
namespace L4
open PySem PySem.Spec PyProof.Rows L2 L3
def YB_:List D->Option (List D)
 | [.tuple ds]=>some (yq_ ds)
 | _=>none
section
variable {X:Cx}{tg e:Expr}{p pos tp:Pos}{elts:List Expr}{x1:Nat}
theorem zfe_{F H:Hp}{vs:List V}{ds out:List D}{R:It->Hp->Prop}(s:Same F H)(r:RepL X.K F vs ds)(h:YB_ ds=some out)(k:∀J,Walk X.K J out F->R J H) :
  ∃a,vs=[.ref a]/\(∃ys,SqT X.K H a ys)/\R (Ite X.K a) H:=by
 unfold YB_ at h
 split at h
 ·cases h
  obtain⟨v,rfl,r1⟩:=r.one_inv
  obtain⟨a,vs,rfl,a1,a2⟩:=r1.tup_inv
  exact⟨_,rfl,⟨_,SqT.of (s _ _ a1)⟩,k _ (Ww_ (SqT.of a1) a2)⟩
 ·cases h
theorem zav_{ps:Pa (List D)}(hg:Gl X "enumerate")(hm:X.mg "enumerate" = none)(ha:AA X [e] ps)(hs:starEach [e] X.env=[(false,eval e X.env)]):AI X (.Tuple elts x1 tp) (.Call (.Name "enumerate" p) [e] [] pos) (y1_ YB_ ps) :=
 λG F σ H ρ R S w=>semI (zel_ hg hm zS_ hs) (ha G F σ H ρ _ _ _ S w λds vs F1 H1 s1 S1 _ r1 w1=>by
  obtain⟨out,hd,k⟩:=w1.opt
  exact zfe_ S1.fh r1 hd (k F1 H1 (Same.refl _) S1))
end
def Gh.add(G:Gh)(p:Addr)(o:HO):Gh:={ G with O:=upd G.O p o }
theorem _root_.L3.StOk.hold{K:Fg}{G:Gh}{F H:Hp}{σ:L2.St}{ρ:En}(S:StOk K G F σ H ρ){p:Addr}{o:HO}(hp:H p=some o)(fp:F p=none)(ne:∀(i:Nat) (e:OC),own ρ i e->σ[i]? ≠ some (some (V.ref p)))(nt:NoTE o:=by exact True.intro):StOk K (Gh.add G p o) F σ H ρ:=by
 refine⟨S.fh,λb u e=>?_,λb u e=>?_,S.ln,S.fz,λi c h=>?_,S.dj,S.pp,S.pq,S.fb⟩
 ·by_cases hb:b=p
  ·subst hb
   rw[show(Gh.add G b o).O b=some o from zn_]at e
   cases e;exact hp
  ·rw[show(Gh.add G p o).O b=G.O b from zj_ hb]at e
   exact S.oh b u e
 ·by_cases hb:b=p
  ·subst hb
   rw[show(Gh.add G b o).O b=some o from zn_]at e
   cases e
   exact⟨fp,nt⟩
  ·rw[show(Gh.add G p o).O b=G.O b from zj_ hb]at e
   exact S.fo b u e
 ·obtain⟨a,e,oa⟩:=S.ow i c h
  refine⟨a,e,oa.nf,?_,oa.he⟩
  have:a≠p:=λz=>ne i c h (by rw[e,z])
  exact(show(Gh.add G p o).O a=G.O a from zj_ this).trans oa.no
theorem _root_.L3.StOk.unhold{K:Fg}{G:Gh}{F H:Hp}{σ:L2.St}{ρ:En}{p:Addr}{o:HO}(hn:G.O p=none)(S:StOk K (Gh.add G p o) F σ H ρ) :
  StOk K G F σ H ρ/\H p=some o/\F p=none/\∀(i:Nat) (e:OC),own ρ i e->σ[i]? ≠ some (some (V.ref p)):=by
 have at_p:(Gh.add G p o).O p=some o:=zn_
 have at_b:∀b,b≠p->(Gh.add G p o).O b=G.O b:=λb hb=>zj_ hb
 have nb:∀b u,G.O b=some u->b≠p:=λb u e z=>by rw[z,hn]at e;cases e
 refine⟨⟨S.fh,λb u e=>S.oh b u ((at_b b (nb b u e)).trans e),λb u e=>S.fo b u ((at_b b (nb b u e)).trans e),S.ln,S.fz,λi c h=>?_,S.dj,S.pp,S.pq,S.fb⟩,S.oh p o at_p,(S.fo p o at_p).1,λi c h e=>?_⟩
 ·obtain⟨a,e,oa⟩:=S.ow i c h
  have:a≠p:=λz=>by have:=oa.no;rw[z,at_p]at this;cases this
  exact⟨a,e,oa.nf,(at_b a this).symm.trans oa.no,oa.he⟩
 ·obtain⟨a,e',oa⟩:=S.ow i c h
  rw[e]at e'
  injection e' with e';injection e' with e';injection e' with e'
  have:=oa.no
  rw[<-e',at_p]at this
  cases this
theorem zbV_{X:Cx}:PGet X gIxL:=by
 intro pins s σ H x y v u Q I rx ry h
 obtain⟨p,xs,i,z,rfl,rfl,hq,he,q⟩:=h
 cases rx
 obtain⟨t,rfl⟩:=ry
 obtain⟨its,r,pl,hz⟩:=I.list (SqL.of hq)
 obtain⟨j,h1,h2,h3,h4,h5⟩:=UD_ he
 obtain⟨w,ew,rw'⟩:=r.get h2
 have hl:=r.length
 have hn:=y6_
 have fin:EP X pins σ Q w s:=⟨z,H,I,rw',q⟩
 by_cases h0:0<=i
 ·have hj:i.toNat=j:=by
   rw[seqIndex_of h0 h5]at h1
   exact Option.some.inj h1
  exact wpAny_getItem_list pl.isList h0 (by lia) (by rw[hj];simpa using ew) fin
 ·have hj:(i+(its.toArray.size:Int)).toNat=j:=by
   rw[seqIndex_neg (by lia) h4]at h1
   rw[List.size_toArray,<-hl]
   exact Option.some.inj h1
  exact wpAny_getItem_list_neg pl.isList (by lia) (by rw[List.size_toArray]<;>lia) (by lia) (by rw[hj];simpa using ew) fin
section
variable {S:Type}{X:Cx}{b e:Expr}{mj me:Ev S D}{pos pos' tpos:Pos}
theorem UF_{i:Nat}{x:Str}{op:Operator}{t:TIp}{f:D->D->Option D}(hN:X.N[i]? = some x)(hv:Vis X.env.scope x)(ho:PIp X op t)(hf:ipD f X.K t)(hj:AE X b mj)(he:AE X e me)
  (ha:∀ov iv new,augStore b ov iv new=(do holding [new,ov,iv] (setItem ov iv new);release [new,ov,iv] [];pure .next))
  (hd:(x==("__debug__" : Str))=false:=by decide) (hcd:(x==("__classdict__" : Str))=false:=by decide):AS X (.AugAssign (.Subscript (.Name x pos') b tpos) op e pos) (zfZ_ i f mj me):=λOK K G F σ H ρ E hO hX St ok eo =>
 semS (zeh_ (uK_ hN hv hd hcd) zm_ zbV_ zm_ ho set_list ha) (by
  unfold zfZ_ at ok
  split at ok
  case h_2=>exact(hO ok).elim
  rename_i ds0 hd0
  obtain⟨a,vs0,ea,_,_⟩:=uh_ St hd0
  refine⟨_,ea,hj OK K.x _ G F σ H ρ _ hO hX St ok λj u F1 H1 ρ1 s1 S1 r1 o1=>?_⟩
  split at o1
  case h_2=>exact(hO o1).elim
  rename_i ds hds
  obtain⟨a',vs,ea',hh,rv⟩:=uh_ S1 hds
  rw[ea]at ea'
  injection ea' with ea';injection ea' with ea';injection ea' with ea'
  subst ea'
  obtain⟨dx,hx,o2⟩:=jH_ hO o1
  have hint:∃k,j=.int k:=by
   cases j<;>first|exact⟨_,rfl⟩|cases hx
  obtain⟨k,rfl⟩:=hint
  cases r1
  obtain⟨v,ev,rvv⟩:=QF_ rv (show atI ds k=some dx from hx)
  refine⟨a,vs,k,v,rfl,rfl,hh,ev,?_⟩
  refine he OK K.x _ G F1 σ H1 ρ1 _ hO hX S1 o2 λd w F2 H2 ρ2 s2 S2 r2 o3=>?_
  obtain⟨r,er,o4⟩:=jH_ hO o3
  refine hf v w dx d r F2 H2 _ (rvv.mono s2) r2 er λz rz=>?_
  split at o4
  case h_2=>exact(hO o4).elim
  rename_i ds2 hds2
  obtain⟨a2,vs2,ea2,hh2,rv2⟩:=uh_ S2 hds2
  rw[ea]at ea2
  injection ea2 with ea2;injection ea2 with ea2;injection ea2 with ea2
  subst ea2
  obtain⟨ds',hp,o5⟩:=jH_ hO o4
  unfold putD at hp
  obtain⟨q,hq,rfl⟩:=Option.map_eq_some_iff.mp hp
  refine⟨a,vs2,k,q,rfl,rfl,hh2,by rw[rv2.length];exact hq,?_⟩
  exact eo.nx F2 σ _ _ (s1.trans s2) (Y8_ S2 hds2 ea (RepL.set rz q rv2)) o5)
end
end L4
namespace HT
end HT
namespace L4
open PySem PySem.Spec PyProof.Rows L2 L3 PySem.W
section
variable {prog:Program}{w:World}{A:Around}{E:Value->Shared->Prop}{K:Frag}{C D fI:Addr}{h:Heap}{g:Array GenState}{d:Drawn}{t:Nat}{os:OsState}{rest:List Value}
noncomputable abbrev newX(h:Heap)(C:Addr)(rest:List Value):Heap:=(h.push { cls:=.type "tuple",data:=.seq rest.toArray }).push { cls:=.ref C,data:=.fields #[.ref h.objs.size,.none,.none,.none,.bool false,.none] }
theorem Yl_{b:Addr}{o:Obj}(q:h.get? b=some o):(newX h C rest).get? b=some o:=zzc _ (zzc _ q)
theorem Xm_:(newX h C rest).get? (h.objs.size+1)=some { cls:=.ref C,data:=.fields #[.ref h.objs.size,.none,.none,.none,.bool false,.none] }:=by
 have z:=zze (h.push { cls:=.type "tuple",data:=.seq rest.toArray }) (o:={ cls:=.ref C,data:=.fields #[.ref h.objs.size,.none,.none,.none,.bool false,.none] }) rfl
 rwa [Heap.size_push]at z
theorem Yu_(X:K.In h)(c:XC K C D fI){Q:Fin->Shared->Prop}(hz:rest.length<=sizeLine)
  (hq:wpAny (model prog w) A (call (.ref fI) (.ref (h.objs.size+1)::rest)) (λr s'=>r=.none/\Q (.done (.ret (.ref (h.objs.size+1)))) s') E ⟨newX h C rest,g,d,t,os⟩) :
  wpAny (model prog w) A (Builtin.«type.__call__» ⟨.ref C::rest,[]⟩) Q E ⟨h,g,d,t,os⟩:=by
 obtain⟨nm,q,N,bs,sn,sub,ab,col,dd,k0,k1,k2,k3,k5,lk⟩:=c.obj
 have hC:=X _ _ lk
 have T:OwnTail h bmV (.ref D::bmV):=tail_of_in X c.tl
 have B:=F.excBase_ValueError
 repeat (first|with_reducible refine wpAny_loadPart_at hC ?_|with_reducible refine wpAny_madeBy_exc hC ?_|wp_step)
 refine codeAny_call_builtin_code (Code.quiet_builtin _ B.quiet) (wpAny_check_new_subT B T hC (codeAny_exc_new_subT B T hC ?_ hz))
 show wpAny _ _ _ _ _ _
 have X1:K.In (newX h C rest):=X.keeps λb o z=>Yl_ z
 have LI:=looks_findIn (M:=model prog w) X1 c.ini
 have LB:=bind_fn (M:=model prog w) X1 (.ref (h.objs.size+1)) c.fn
 have hC1:=Yl_ (rest:=rest) (C:=C) hC
 have yes:(Value.ref C::.ref D::bmV).contains (.ref C)=true:=by simp
 unfold isInstance
 repeat (first|with_reducible refine wpAny_loadPart_at Xm_ ?_|(with_reducible refine wpAny_isSubtype_exc hC1 ?_;rw[yes])|wp_step)
 show wpAny _ _ (typeLookup (.ref C) _) _ _ _
 refine LI.at ?_
 refine wpAny_holding (zza (LB.at ?_))
 refine zza (wpAny_mono hq (λr s' z=>?_) λ_ _ z=>z)
 obtain⟨rfl,z⟩:=z
 wp_walk
 exact z
theorem call_exc(X:K.In h)(c:XC K C D fI){Q:Value->Shared->Prop}(hz:rest.length<=sizeLine)
  (hq:wpAny (model prog w) (A.under (.builtin "type.__call__" ⟨.ref C::rest,[]⟩)) (call (.ref fI) (.ref (h.objs.size+1)::rest)) (λr s'=>r=.none/\Q (.ref (h.objs.size+1)) s') E ⟨newX h C rest,g,d,t,os⟩) :
  wpAny (model prog w) A (call (.ref C) rest) Q E ⟨h,g,d,t,os⟩:=by
 obtain⟨nm,q,N,bs,sn,sub,ab,col,dd,k0,k1,k2,k3,k5,lk⟩:=c.obj
 have hC:=X _ _ lk
 have f1:=tc_lookup
 have f2:=tc_bind (.ref C)
 have ty:(⟨h,g,d,t,os⟩:Shared).TypeIs (.ref C) "type":=⟨_,hC,rfl⟩
 refine wpAny_call (codeAny_of_tree ?_)
 show wpAny _ _ (callAny (.ref C) _) _ _ _
 repeat (any_goals (first|assumption|with_reducible refine wpAny_loadPart_at hC ?_|wp_step))
 refine⟨rfl,codeAny_call_builtin_at (Code.quiet_builtin _ (by decide +kernel)) entry_typeCall (wpAny_check_type_call_sub hC (Yu_ X c hz ?_))⟩
 exact hq
end
end L4
namespace L4
open PySem PySem.Spec PyProof.Rows L2 L3
def XN(e C:Addr)(dd:Option Addr):Heap->Prop:=λh=>∃oe vs,h.get? e=some oe/\oe.cls=.ref C/\oe.dict=dd/\oe.data=.fields vs/\1<vs.size/\vs[1]? = some .none
section
variable {P:Program}{w:World}{h h':Heap}{e C dx:Addr}{dd:Option Addr}{H:Hp}{fs:List (Str×V)}
theorem XN.ok{H':Hp}(x:XN e C dd h):ObjOk P w H' h e (.ext (XN e C dd)):=by
 obtain⟨oe,vs,q,r⟩:=x
 exact⟨⟨oe,vs,q,r⟩,⟨oe,q⟩,λh1 h2 ⟨o,vs,z,r⟩ k=>⟨o,vs,k o z,r⟩⟩
theorem XD.ok{H':Hp}(x:XD dx fs h):ObjOk P w H' h dx (.ext (XD dx fs)):=by
 obtain⟨mA,n,r⟩:=x
 obtain⟨o,es,ep,q,z⟩:=id n
 exact⟨⟨mA,n,r⟩,⟨o,q⟩,λh1 h2 ⟨m,n,r⟩ k=>⟨m,n.at λo q=>k o q,r⟩⟩
theorem zhW_{fr:List Addr}{o1 o2:HO}(ea:∃φ,H e=some (.ext φ))(hd:h.objs.size<=dx)(hn:H dx=none)(heo:∃o,h'.get? e=some o)(k:∀b o,b≠e->h.get? b=some o->h'.get? b=some o):Un fr [] H (upd (upd H dx o1) e o2) h h':=by
 obtain⟨φ,ea⟩:=ea
 have nd:∀b o,h.get? b=some o->b≠dx:=λb o q=>Nat.ne_of_lt (Nat.lt_of_lt_of_le (Heap.lt_size q) hd)
 have ne:∀b,H b=none->b≠e:=λb n z=>by subst z;rw[ea]at n;cases n
 have kp:∀b u,H b=some u->(∀φ,u≠.ext φ)->(upd (upd H dx o1) e o2) b=some u:=λb u q nu=>by
  rw[zj_ (λz=>by subst z;rw[ea]at q;cases q;exact nu _ rfl),zj_ (λz=>by subst z;rw[hn]at q;cases q)]
  exact q
 refine⟨λb o q n _ _=>k b o (ne b n) q,λb o q n _ _=>⟨o.slots,k b o (ne b n) q⟩,λb o q n _=>?_,λb o q _=>?_,λb xs q=>kp b _ q (λ_ z=>by cases z),λb o u q=>kp b _ q (λ_ z=>by cases z),λb ps q=>⟨#[],?_⟩⟩
 ·rw[zj_ (ne b n),zj_ (nd b o q)];exact n
 ·by_cases z:b=e
  ·subst z;exact heo
  ·exact⟨o,k b o z q⟩
 ·rw[kp b _ q (λ_ z=>by cases z)];simp
theorem zht_{o1 o2:HO}(ok:HOk P w H h)(ea:∃φ,H e=some (.ext φ))(hn:H dx=none)(k:∀b o,b≠e->h.get? b=some o->h'.get? b=some o)
  (h1:ObjOk P w (upd (upd H dx o1) e o2) h' dx o1) (h2:ObjOk P w (upd (upd H dx o1) e o2) h' e o2):HOk P w (upd (upd H dx o1) e o2) h':=λa o q=>by
 obtain⟨φ,ea⟩:=ea
 have kp:∀b u,H b=some u->(∀φ,u≠.ext φ)->(upd (upd H dx o1) e o2) b=some u:=λb u r nu=>by
  rw[zj_ (λz=>by subst z;rw[ea]at r;cases r;exact nu _ rfl),zj_ (λz=>by subst z;rw[hn]at r;cases r)]
  exact r
 by_cases z:a=e
 ·subst z;rw[zn_]at q;cases q;exact h2
 ·rw[zj_ z]at q
  by_cases y:a=dx
  ·subst y;rw[zn_]at q;cases q;exact h1
  ·rw[zj_ y]at q
   refine(ok a o q).stay (λb u hb r=>k b u (λx=>?_) r) (λb r=>kp b _ r (λ_ z=>by cases z)) λb xs r=>kp b _ r (λ_ z=>by cases z)
   subst x
   rcases hb with rfl|hb
   ·exact z rfl
   ·rw[ea]at hb;cases hb
end
section
variable {X:Cx}{pins:List (Addr×Obj)}{σ:L2.St}{H:Hp}{s:Shared}{e C D fI dx:Addr}{f:Str}{y:V}{u:Value}{A:Around}{E:Value->Shared->Prop}{fs:List (Str×V)}{Q:Unit->Shared->Prop}
theorem zii_(I:Inv X pins σ H s)(ea:H e=some (.ext (XN e C none)))(c:XC X.K C D fI)(n:up_ X.K C f)(ry:RelV y u)
  (h:∀s' dx,H dx=none->dx≠e->Inv X pins σ (upd (upd H dx (.ext (XD dx [(f,y)]))) e (.ext (XN e C (some dx)))) s'->Q () s'):wpAny (model X.prog X.w) A (setAttr (.ref e) f u) Q E s:=by
 obtain⟨⟨oe,vs,q,q1,q2,q3,q4,q5⟩,_⟩:=I.hok e _ ea
 obtain⟨cd,k1,k2,k3⟩:=zdo_ c
 refine zaN_ (bmB:=bmV) I.kIn q q1 (by unfold PySem.W.notCls;rw[q3]) q2 c.sa k1 k2 k3 n λh' dx tk hd ns he kp=>?_
 have hn:H dx=none:=I.hok.fresh hd
 have nx:dx≠e:=λz=>by subst z;rw[ea]at hn;cases hn
 have xn:XN e C (some dx) h':=⟨_,vs,he,q1,rfl,q3,q4,q5⟩
 have xd:XD dx [(f,y)] h':=by
  refine⟨_,ns,λg hg=>?_,λg=>?_⟩
  ·by_cases z:g=f
   ·subst z;exact List.mem_singleton.mpr rfl
   ·exact absurd (show(if g=f then some u else none)=none from if_neg z) hg
  ·by_cases z:g=f
   ·subst z
    rw[show List.lookup g [(g,y)]=some y by simp[List.lookup],show(if g=g then some u else none)=some u from if_pos rfl]
    exact ry
   ·rw[show List.lookup g [(f,y)]=none by simp[List.lookup,beq_eq_false_iff_ne.mpr z],show(if g=f then some u else none)=none from if_neg z]
    exact True.intro
 exact h _ dx hn nx (I.un (zhW_ ⟨_,ea⟩ hd hn ⟨_,he⟩ kp) (zht_ I.hok ⟨_,ea⟩ hn kp xd.ok xn.ok))
end
def sX1(C:Addr)(f:Str)(i:Nat):TS:=λD σ H=>∃e y,σ[0]? = some (some (.ref e))/\σ[i]? = some (some y)/\H e=some (.ext (XN e C none))/\∀dx,H dx=none->dx≠e->D.nx σ (upd (upd H dx (.ext (XD dx [(f,y)]))) e (.ext (XN e C (some dx))))
section
variable {X:Cx}{C D fI:Addr}{f:Str}{o value:Expr}{i:Nat}{pos pos':Pos}
theorem ziw_(c:XC X.K C D fI)(n:up_ X.K C f)(ha:PE X o (tVar 0))(hv:PE X value (tVar i))(hs:swapsWith value (some (.Attribute o f pos')) pos.line X.env=pure false):PS X (.Assign [.Attribute o f pos'] value pos) (sX1 C f i):=by
 intro pins s σ H Dd I h
 obtain⟨e,y,h0,hi,he,k⟩:=h
 refine plainObj_wpAny_Assign_Attribute (thn (hv pins s σ H (λv H'=>v=y/\H'=H) I ⟨y,hi,rfl,rfl⟩) λu s1 ⟨y',H1,I1,ry,e1,e2⟩=>thn (ha pins s1 σ H1 (λv H'=>v=.ref e/\H'=H) (by rw[e2]at I1 ⊢;exact I1) ⟨_,h0,rfl,e2⟩) λov s2 ⟨x,H2,I2,rx,e3,e4⟩=>?_) hs
 subst e1 e2 e3 e4
 obtain rfl:ov=Value.ref e:=rx
 exact zii_ I2 he c n ry λs3 dx hn ne I3=>⟨σ,_,I3,k dx hn ne⟩
end
def spI(C:Addr)(fl:List Str):Sp:=λvs H Q _=>∃e args,vs=.ref e::args/\args.length=fl.length/\H e=some (.ext (XN e C none)) /\
 ((fl=[]/\Q .non H)\/(fl≠[]/\∀dx,H dx=none->dx≠e->Q .non (upd (upd H dx (.ext (XD dx (fl.zip args)))) e (.ext (XN e C (some dx))))))
section
variable {P:Program}{w:World}{K:Fg}{mg:Str->Option Value}{base:Heap}{qual:Str}{st:Stmt}{f:Addr}{fd:FuncData}{k:Nat}{C D:Addr}{f1 f2 q1 q2 self:Str}{a1 a2 a3 a4 b1 b2 b3 b4:Pos}
theorem ziQ_(Fn:Fun K "__init__" qual st f fd)(Sc:FnScope [self] [self] (zd_ st))(hb:zK_ st=[.Pass a1]):FnOk P w K mg base (CX1 P w) (k+1) f fd [self] (spI C []):=by
 refine fn_x Fn Sc (λvs H Q E h=>?_) (λcdv A outer s H vs Q E hr h=>?_)
 ·obtain⟨e,args,rfl,hl,_⟩:=h;simp at hl ⊢;exact hl
 ·obtain⟨e,args,rfl,hl,he,h⟩:=h
  rcases h with ⟨_,h⟩|⟨h,_⟩
  ·rw[hb]
   exact⟨_,Ue_ zee_ Y7_,h⟩
  ·exact absurd rfl h
theorem ziP_(Fn:Fun K "__init__" qual st f fd)(Sc:FnScope [self,q1] [self,q1] (zd_ st))(hb:zK_ st=[.Assign [.Attribute (.Name self a1) f1 a2] (.Name q1 a3) a4])(c:XC K C D f)(n:up_ K C f1)
  (v0:Vis (zd_ st) self:=by first|exact Or.inl rfl|exact Or.inr (Or.inl rfl)|exact Or.inr (Or.inr rfl)) (v1:Vis (zd_ st) q1:=by first|exact Or.inl rfl|exact Or.inr (Or.inl rfl)|exact Or.inr (Or.inr rfl))
  (d0:(self==("__debug__" : Str))=false:=by decide) (d1:(q1==("__debug__" : Str))=false:=by decide) (c0:(self==("__classdict__" : Str))=false:=by decide) (c1:(q1==("__classdict__" : Str))=false:=by decide):FnOk P w K mg base (CX1 P w) (k+1) f fd [self,q1] (spI C [f1]):=by
 refine fn_x Fn Sc (λvs H Q E h=>?_) (λcdv A outer s H vs Q E hr h=>?_)
 ·obtain⟨e,args,rfl,hl,_⟩:=h;simp at hl ⊢;exact hl
 ·obtain⟨e,args,rfl,hl,he,h⟩:=h
  obtain⟨y,rfl⟩:=List.length_eq_one_iff.mp hl
  ·rw[hb]
   refine⟨_,Ue_ (ziw_ (i:=1) c n (uK_ rfl v0 d0 c0) (uK_ rfl v1 d1 c1) rfl) Y7_,e,y,rfl,rfl,he,λdx hn ne=>?_⟩
   rcases h with ⟨h,_⟩|⟨_,h⟩
   ·cases h
   ·exact h dx hn ne
end
section
variable {M:Model}{A:Around}{E:Value->Shared->Prop}{s:Shared}{env:Env}{K:Fg}{C D fI:Addr}
theorem ZI_{x:Sem Value}{Q:Flow->Shared->Prop}(c:XC K C D fI)(hh:A.handled=none)
  (h:wpAny M A x (λv s1=>∃e oe vs,v=.ref e/\K.In s1.heap/\s1.heap.get? e=some oe/\oe.cls=.ref C/\oe.data=.fields vs/\vs[1]? = some .none/\E (.ref e) s1) E s) :
  wpAny M A (raiseStmt env (some x) none) Q E s:=by
 obtain⟨nm,q,N,bs,sn,sub,ab,col,dd,k0,k1,k2,k3,k5,lk⟩:=c.obj
 have isB:(Value.ref C::.ref D::bmV).contains (.type "BaseException")=true:=by rfl
 unfold raiseStmt
 refine zza (wpAny_mono h (λv s1 z=>?_) λ_ _ z=>z)
 obtain⟨e,oe,vs,rfl,X,he,hc,hd,h1,hE⟩:=z
 obtain⟨hp,g,d,t,os⟩:=s1
 have hC:=X _ _ lk
 repeat (first|(with_reducible refine wpAny_loadPart_at he ?_;rw[hc])|with_reducible refine wpAny_loadPart_at hC ?_|(with_reducible refine wpAny_isSubtype_exc hC ?_;rw[isB])|with_reducible refine wpAny_field he hd h1 ?_|wp_step)
 exact wpAny_raiseNew_none hh hE
end
def MadeX(H H':Hp)(e C:Addr)(fl:List Str)(vs:List V)(dd:Option Addr):Prop :=
 (fl=[]/\dd=none/\H'=upd H e (.ext (XN e C none)))\/(fl≠[]/\∃dx,dd=some dx/\H dx=none/\dx≠e/\H'=upd (upd (upd H e (.ext (XN e C none))) dx (.ext (XD dx (fl.zip vs)))) e (.ext (XN e C (some dx))))
section
variable {X:Cx}{pins:List (Addr×Obj)}{σ:L2.St}{H:Hp}{s:Shared}{C D fI:Addr}{fd:FuncData}{ps fl:List Str}{k:Nat}{us:List Value}{vs:List V}{Q:Value->Shared->Prop}{E:Value->Shared->Prop}
theorem zbR_(I:Inv X pins σ H s):Inv X pins σ (upd H (s.heap.objs.size+1) (.ext (XN (s.heap.objs.size+1) C none))) { s with heap:=newX s.heap C us }:=by
 have I1:=I.kept (h':=s.heap.push { cls:=.type "tuple",data:=.seq us.toArray }) (t':=s.toks) λb u q=>zzc _ q
 refine I1.laid (a:=s.heap.objs.size+1) (t':=s.toks) (h':=newX s.heap C us) (λb u q=>zzc _ q) (Nat.le_of_eq (Heap.size_push _ _)) ?_
 exact XN.ok ⟨_,_,Xm_,rfl,rfl,rfl,(show 1<6 from by decide),rfl⟩
theorem UY_(c:XC X.K C D fI)(Fn:FnOk X.prog X.w X.K X.mg X.base (CX1 X.prog X.w) k fI fd ps (spI C fl))(hr:Room (k+1) X.A)(hb:L2.Binds X.K fd ps [])(I:Inv X pins σ H s)(r:Vals vs us)(hl:vs.length=fl.length)(hz:us.length<=sizeLine)
  (h:∀e dd H' s',s.heap.objs.size<=e->Inv X pins σ H' s'->MadeX H H' e C fl vs dd->H' e=some (.ext (XN e C dd))->Q (.ref e) s'):wpAny (model X.prog X.w) X.A (call (.ref C) us) Q E s:=by
 have I2:=zbR_ (C:=C) (us:=us) I
 have hn:H (s.heap.objs.size+1)=none:=I.hok.fresh (Nat.le_succ _)
 obtain⟨hp,g,d,t,os⟩:=s
 have sp:∀E',spI C fl (V.ref (hp.objs.size+1)::vs) (upd H (hp.objs.size+1) (.ext (XN (hp.objs.size+1) C none))) (λv H'=>v=.non/\∃dd,MadeX H H' (hp.objs.size+1) C fl vs dd/\H' (hp.objs.size+1)=some (.ext (XN (hp.objs.size+1) C dd))) E':=by
  intro E'
  refine⟨_,vs,rfl,hl,zn_,?_⟩
  by_cases z:fl=[]
  ·exact .inl ⟨z,rfl,none,.inl ⟨z,rfl,rfl⟩,zn_⟩
  ·exact .inr ⟨z,λdx q ne=>⟨rfl,some dx,.inr ⟨z,dx,rfl,by rw[zj_ ne]at q;exact q,ne,rfl⟩,zn_⟩⟩
 have r2:Vals (V.ref (hp.objs.size+1)::vs) (Value.ref (hp.objs.size+1)::us):=.cons rfl r
 have hl2:((Value.ref (hp.objs.size+1)::us)++[]).length=ps.length:=by
  have e:=r2.length
  rw[Fn.len _ _ _ _ (sp λ_ _ _=>False)]at e
  rw[List.append_nil]
  exact e.symm
 refine call_exc I.kIn c hz (wpAny_call (codeAny_mono (Fn.run _ X.stack _ _ ⟨Value.ref (hp.objs.size+1)::us,[]⟩ (Value.ref (hp.objs.size+1)::us) _ _ (λ_ _ _=>False) (hr.make C us []) (I2.env0.make C us []) (by
  have:=hb _ (Value.ref (hp.objs.size+1)::us) I2.kIn hl2
  rw[List.append_nil]at this
  exact this) r2 (sp _)) λr s' q=>?_))
 cases r with
 | error e=>obtain⟨_,_,_,_,_,_,_,_,_,_,z⟩:=q;exact z.elim
 | ok fl' =>
  cases fl' with
  | ret u =>
   obtain⟨v,H',I3,rv,ev,dd,mk,he⟩:=I2.after q
   subst ev
   exact⟨rv,h _ dd H' s' (Nat.le_succ _) I3 mk he⟩
  | next=>exact False.elim q
  | brk=>exact False.elim q
  | cont=>exact False.elim q
end
structure CCl(P:Program)(w:World)(K:Fg)(mg:Str->Option Value)(base:Heap)(x:Str)(k:Nat)(fl:List Str):Prop where
 ex:∃C D fI fd ps,XC K C D fI/\FnOk P w K mg base (CX1 P w) k fI fd ps (spI C fl)/\L2.Binds K fd ps []/\mg x=some (.ref C)/\XQ K C x/\PySem.W.keepIn K (.ref C)=true/\(∀f∈fl,up_ K C f)/\PySem.W.exmOne K (.ref C) (.ref C)=some true
noncomputable def zfU_{S:Type}(x:Str)(fl:List Str)(ms:Ev S (List D)):SM S:=λK ρ=>ms K.x (λds ρ1=>K.x ⟨x,fl.zip ds⟩ ρ1) ρ
noncomputable def zdT_{S:Type}(x:Str):SM S:=λK ρ=>K.x ⟨x,[]⟩ ρ
theorem zdB_{K:Fg}{F:Hp}:∀{fl:List Str} {vs:List V} {ds:List D},RepL K F vs ds->fl.length=vs.length->Paired (λ(p:Str×V) (q:Str×D)=>p.1=q.1/\Rep K F p.2 q.2) (fl.zip vs) (fl.zip ds)
:=by
 intro fl vs ds r h
 induction vs generalizing fl ds with
 | nil=>cases r;rw[List.zip_nil_right,List.zip_nil_right];exact .nil
 | cons v vs ih=>cases r with
  | cons a b=>cases fl with
   | nil=>cases h
   | cons f fl=>exact .cons ⟨rfl,a⟩ (ih b (Nat.succ.inj h))
section
variable {X:Cx}{pins:List (Addr×Obj)}{σ:L2.St}{H H':Hp}{s:Shared}{e C:Addr}{dd:Option Addr}{fl:List Str}{vs:List V}{ds:List D}{G:Gh}{F:Hp}{ρ:En}{x:Str}
theorem QT_(I:Inv X pins σ H' s)(hs:X.s₀.heap.objs.size<=e)(hn:H e=none)(mk:MadeX H H' e C fl vs dd)(he:H' e=some (.ext (XN e C dd)))(St:StOk X.K G F σ H ρ)(r:RepL X.K F vs ds)(hl:fl.length=vs.length)
  (hc:XQ X.K C x) (xw:XW X G F ρ ⟨x,fl.zip ds⟩):X.xe (.ref e) s:=by
 obtain⟨⟨oe,ws,q1,q2,q3,q4,q5,q6⟩,_⟩:=I.hok e _ he
 have I2:Inv X pins σ (upd H' e (.ext (XO e C dd))) s:=by
  have:=I.write (x:=e) (e:=e) (o:=.ext (XO e C dd)) (h':=s.heap) (t':=s.toks) (by rw[he];exact True.intro) (.inl rfl) (λb u _ z=>z) ⟨_,q1⟩ (XO.ok ⟨oe,q1,q2,q3,by unfold PySem.W.notCls;rw[q4]⟩)
  exact this
 have low:∀b u,b≠e->H b=some u->upd H' e (.ext (XO e C dd)) b=some u:=λb u ne z=>by
  rw[zj_ ne]
  rcases mk with ⟨_,_,rfl⟩|⟨_,dx,_,hd,_,rfl⟩
  ·rw[zj_ ne];exact z
  ·rw[zj_ ne,zj_ (λy=>by subst y;rw[hd]at z;cases z),zj_ ne];exact z
 have ne:∀b u,H b=some u->b≠e:=λb u z y=>by subst y;rw[hn]at z;cases z
 have xs:XS (upd H' e (.ext (XO e C dd))) s.heap X.s₀.heap.objs.size e C dd:=⟨hs,zn_,oe,ws,q1,q2,q3,q4,q5,.inl q6⟩
 have nt:∀b,¬ TbOf s.heap e b:=λb ⟨oe',vs',z1,z2,z3⟩=>by
  rw[q1]at z1;cases z1
  rw[q4]at z2;cases z2
  rw[q6]at z3;cases z3
 have fh0:Same F (upd H' e (.ext (XO e C dd))):=λb u z=>low b u (ne b u (St.fh b u z)) (St.fh b u z)
 have oh0:Same G.O (upd H' e (.ext (XO e C dd))):=λb u z=>low b u (ne b u (St.oh b u z)) (St.oh b u z)
 rcases mk with ⟨z,rfl,_⟩|⟨z,dx,rfl,hd,nx,rfl⟩
 ·subst z
  refine xw F _ s e C none pins σ ⟨fh0,oh0,St.fo,St.fb⟩ (St.fzok (Same.refl _)) I2 xs (λp _=>nt p.1) ⟨hc,[],.inl ⟨rfl,rfl⟩,.nil⟩
 ·have fd:F dx=none:=St.fh.free hd
  have od:G.O dx=none:=St.oh.free hd
  have sm:Same F (upd F dx (.ext (XD dx (fl.zip vs)))):=z4_ fd
  refine xw (upd F dx (.ext (XD dx (fl.zip vs)))) _ s e C (some dx) pins σ ⟨λb u z=>?_,oh0,λb u z=>?_,St.fb.trans sm⟩ (St.fzok sm) I2 xs (λp _=>nt p.1) ⟨hc,_,.inr ⟨dx,rfl,zn_⟩,zdB_ (r.mono sm) hl⟩
  ·by_cases y:b=dx
   ·subst y
    rw[zn_]at z
    cases z
    rw[zj_ nx,zj_ nx,zn_]
   ·rw[zj_ y]at z
    exact fh0 b u z
  ·rw[zj_ (zr_ z od)]
   exact St.fo b u z
end
section
variable {S:Type}{X:Cx}{k:Nat}{x:Str}{fl:List Str}{p cpos pos:Pos}{e:Expr}{es:List Expr}{ms:Ev S (List D)}
theorem zcr_(C:CCl X.prog X.w X.K X.mg X.base x k fl)(hr:Room (k+1) X.A)(hg:Gl X x)(ha:AEa X (e::es) ms)(hn:(e::es).length=fl.length)(hz:fl.length<=1000)
  (hdb:(x==("__debug__" : Str))=false) (he:starEach (e::es) X.env=(false,eval e X.env)::starEach es X.env) (hpl:(backTo cpos (starEach es X.env)).any (·.1)=false) :
  AS X (.Raise (some (.Call (.Name x p) (e::es) [] cpos)) none pos) (zfU_ x fl ms):=by
 obtain⟨Cl,D,fI,fd,ps,c,Fn,hb,hm,hc,kp,_⟩:=C.ex
 intro OK K G F σ H ρ E hO hX St ok eo
 unfold UO_
 intro pins s I
 rw[arm_exec_Raise]
 refine zza (wpAny_standAt (ZI_ c hr.hd ?_))
 refine zza (wpAny_mono (wpAny_Call_Name_kw (Qo_ I hg hm (PySem.W.callWith_K (h₀:=X.base) I.ok.mod.kin kp (Q:=λv s1=>∃e oe vs,v=.ref e/\X.K.In s1.heap/\s1.heap.get? e=some oe/\oe.cls=.ref Cl/\oe.data=.fields vs/\vs[1]? = some .none/\X.xe (.ref e) s1) ?_ he hpl) hdb)) (λv s3 z=>zza (wpAny_standAt (zzb z))) λ_ _ z=>z)
 have ar:yD_ X (e::es) σ H λvs H1=>∃F1 ρ1 ds,StOk X.K G F1 σ H1 ρ1/\vs.length=(e::es).length/\RepL X.K F1 vs ds/\OK (K.x ⟨x,fl.zip ds⟩ ρ1) :=
  ha OK K.x _ G F σ H ρ _ hO hX St ok λds vs F1 H1 ρ1 s1 S1 hl r1 o1=>⟨F1,ρ1,ds,S1,hl,r1,o1⟩
 unfold yD_ at ar
 refine thn (ar cpos pins s I) λus s1 h0=>?_
 obtain⟨vs,H1,I1,rv,F1,ρ1,ds,S1,hl,r1,o1⟩:=h0
 refine⟨I1.kIn,?_⟩
 have hlv:vs.length=fl.length:=hl.trans hn
 refine UY_ (vs:=vs) c Fn hr hb I1 rv hlv (by rw[List.nil_append,<-rv.length,hlv];exact JI_ hz) λa dd H2 s2 hs I2 mk hh=>?_
 obtain⟨⟨oe,ws,q1,q2,q3,q4,q5,q6⟩,_⟩:=I2.hok a _ hh
 exact⟨a,oe,ws,rfl,I2.kIn,q1,q2,q4,q6,QT_ I2 (Nat.le_trans I1.sz hs) (I1.hok.fresh hs) mk hh S1 r1 hlv.symm hc (hX F1 ρ1 _ o1)⟩
theorem zao_(C:CCl X.prog X.w X.K X.mg X.base x k [])(hr:Room (k+1) X.A)(hg:Gl X x)(hdb:(x==("__debug__" : Str))=false) :
  AS (S:=S) X (.Raise (some (.Call (.Name x p) [] [] cpos)) none pos) (zdT_ x):=by
 obtain⟨Cl,D,fI,fd,ps,c,Fn,hb,hm,hc,kp,_⟩:=C.ex
 intro OK K G F σ H ρ E hO hX St ok eo
 unfold UO_
 intro pins s I
 rw[arm_exec_Raise]
 refine zza (wpAny_standAt (ZI_ c hr.hd ?_))
 refine zza (wpAny_mono (wpAny_Call_Name_kw (Qo_ I hg hm (PySem.W.callWith_K0 I.kIn kp (Q:=λv s1=>∃e oe vs,v=.ref e/\X.K.In s1.heap/\s1.heap.get? e=some oe/\oe.cls=.ref Cl/\oe.data=.fields vs/\vs[1]? = some .none/\X.xe (.ref e) s1) ?_) hdb)) (λv s3 z=>zza (wpAny_standAt (zzb z))) λ_ _ z=>z)
 refine UY_ (vs:=[]) (us:=[]) c Fn hr hb I .nil rfl (Nat.zero_le _) λa dd H2 s2 hs I2 mk hh=>?_
 obtain⟨⟨oe,ws,q1,q2,q3,q4,q5,q6⟩,_⟩:=I2.hok a _ hh
 exact⟨a,oe,ws,rfl,I2.kIn,q1,q2,q4,q6,QT_ (fl:=[]) (ds:=[]) I2 (Nat.le_trans I.sz hs) (I.hok.fresh hs) mk hh St .nil rfl hc (hX F ρ _ ok)⟩
end
theorem av{X:Cx}(i:Nat){x:Str}{pos:Pos}(hN:X.N[i]? = some x:=by rfl)(hv:Vis X.env.scope x:=by first|exact Or.inl rfl|exact Or.inr (Or.inl rfl)|exact Or.inr (Or.inr rfl))
  (hd:(x==("__debug__" : Str))=false:=by decide) (hcd:(x==("__classdict__" : Str))=false:=by decide):AP X (.Name x pos) (pVar i):=zhO_ hN hv hd hcd
end L4
namespace L3
open PySem PySem.Spec PyProof.Rows L2 L4
theorem ur_{K:Fg}{F F':Hp}{a:Addr}{vs:List V}(s:Same F F')(h:SqL K F a vs):SqL K F' a vs:=s.seq h
def Itel(K:Fg)(a:Addr):It :=
 ⟨λi H=>∃xs x,SqL K H a xs/\xs[i]? = some x,λi H y H'=>∃p x,(∀xs,SqL K H a xs->xs[i]? = some x)/\H p=none/\y=.ref p/\H'=upd H p (.tup [.int i,x]),λi H=>∃xs,SqL K H a xs/\xs.length<=i⟩
theorem VE_{P:Program}{w:World}{K:Fg}{elts:List Expr}{x1:Nat}{pos:Pos}(a it e:Addr)(hai:a≠it)(hei:e≠it)(hea:e≠a) :
  Turn P w K (.Tuple elts x1 pos) (Itel K a) [e,it] e (λi h=>(∃old,IsEnum h e it i old)/\h.IsListIter it a i) where
 mem:=by simp
 obj:=λi h st b hb=>by
  obtain⟨⟨old,he⟩,o,e1,c,d⟩:=st
  rcases List.mem_cons.mp hb with rfl|hb
  ·exact⟨_,he,λv z=>nomatch z⟩
  ·rw[List.mem_singleton.mp hb]
   exact⟨o,e1,λv z=>by rw[d]at z;cases z⟩
 keep:=λi h h' st k=>by
  obtain⟨⟨old,he⟩,ht⟩:=st
  exact⟨⟨old,k e (by simp) _ he⟩,ht.at λo e=>k it (by simp) o e⟩
 item:=by
  intro X hP hw hK hc i pins s σ H E I hf st hg
  subst hP hw hK
  obtain⟨xs,x,hq,hx⟩:=hg
  obtain⟨its,rv,p,hz⟩:=I.list hq
  obtain⟨u,hu,ru⟩:=rv.get hx
  obtain⟨⟨old,he⟩,ht⟩:=st
  have D:=Draws.list (prog:=X.prog) (w:=X.w) (A:=X.A.in1) (I.ok.hd hc) it a hai its.toArray
  have hi:i<its.toArray.size:=by simpa using(List.getElem?_eq_some_iff.mp hu).1
  have fe:=hf e (by simp)
  have ft:=hf it (by simp)
  refine wpAny_pyNext_enum_itemD D he ⟨ht,p.isList⟩ hi hei (by simp[hei,hea]) λx' h' tk hP ho hs' hT hsz hk=>?_
  have ex:x'=u:=by
   have:its.toArray[i]? = some x':=hP
   rw[List.getElem?_toArray,hu]at this
   exact(Option.some.inj this).symm
  subst ex
  refine⟨_,rfl,wpAny_letOwnedTupleGo_enum ho λh2 he2 sb2=>?_⟩
  have hpe:s.heap.objs.size≠e:=Nat.ne_of_gt (Heap.lt_size he)
  have hpi:s.heap.objs.size≠it:=by obtain⟨o,e1,_⟩:=ht;exact Nat.ne_of_gt (Heap.lt_size e1)
  have keep2:∀b o,b≠e->b≠it->s.heap.get? b=some o->h2.get? b=some o:=λb o h1 h2' q=>(sb2.2 b h1).trans (hk b o h1 h2' q)
  have tup2:h2.get? s.heap.objs.size=some { cls:=.type "tuple",data:=.seq #[.int i tk,x'] }:=(sb2.2 _ hpe).trans hT
  have I1:Inv X pins σ (upd H s.heap.objs.size (.tup [.int i,x])) { s with heap:=h2,toks:=tk+1 }:=Vh_ I fe ft ru keep2 tup2
  refine⟨.ref s.heap.objs.size,_,I1,rfl,⟨_,x,λys hy=>by rw[I.list_inj hy hq];exact hx,I.fresh,rfl,rfl⟩,⟨⟨_,by simpa using he2⟩,?_⟩,λb hb=>?_⟩
  ·obtain⟨o,e1,r⟩:=hs'.1
   exact⟨o,(sb2.2 it (Ne.symm hei)).trans e1,r⟩
  ·rcases List.mem_cons.mp hb with rfl|hb
   ·rw[zj_ (Ne.symm hpe)];exact fe.1
   ·rw[List.mem_singleton.mp hb,zj_ (Ne.symm hpi)];exact ft.1
 done:=by
  intro X hP hw hK hc i pins s σ H E I hf st hg
  subst hP hw hK
  obtain⟨xs,hq,hx⟩:=hg
  obtain⟨its,rv,p,hz⟩:=I.list hq
  obtain⟨⟨old,he⟩,ht⟩:=st
  obtain⟨g0,g1,g2,g3,g4,g5⟩:=hf it (by simp)
  have hl:=rv.length
  have D:=Draws.list (prog:=X.prog) (w:=X.w) (A:=X.A.in1) (I.ok.hd hc) it a hai its.toArray
  have hT:s.TypeIs (.ref e) "enumerate":=⟨_,he,rfl⟩
  unfold pyNext
  refine zza (wpAny_attempt (wpAny_callSpecial?_slot (name:=Str.ofString "__next__") hT F.slot_enumerate_next
   (wpAny_call_entry F.slot_enumerate_next hT F.entry_enumerate_next ?_ (F.args_enumerate_next_1 _))))
  show wpAny _ _ (field (.ref e) 2 >>= _) _ _ _
  refine zza (wpAny_field he rfl (x:=.ref it) rfl ?_)
  refine zza (wpAny_nextOf_list_end (I.ok.hd hc) ht p.isList (by simp;lia) λh' x he' hx'=>?_)
  obtain⟨o,ho,hcl⟩:=hx'
  refine zza (wpAny_isInstance (T := "StopIteration") (b:=true) ⟨o,ho,hcl⟩ isSubtype_stop ?_)
  exact zzb ⟨rfl,I.turned (t':=s.toks) (λb o hb e=>he' b o hb e) g0 g1 g3 g4 g5⟩
 self:=λ_ _ _ _ _ st h=>by
  obtain⟨⟨old,he⟩,ht⟩:=st
  exact wpAny_pyIter_enum he h
theorem VA_{K:Fg}{F:Hp}{a:Addr}{vs:List V}{ds:List D}(h:SqL K F a vs)(r:RepL K F vs ds):Walk K (Itel K a) (yq_ ds) F where
 go:=λi G F2 σ H2 ρ s S hi=>by
  have hi':i<vs.length:=by rw[r.length];rw[jA_]at hi;exact hi
  exact⟨vs,vs[i],ur_ S.fh (ur_ s h),by simp[hi']⟩
 yld:=λi G F2 σ H2 ρ x H3 d s S hd ⟨p,y,hy,hp,hx,hH⟩=>by
  subst hx hH
  unfold yq_ at hd
  rw[List.getElem?_map,List.getElem?_zipIdx]at hd
  cases q:ds[i]? with
  | none=>rw[q]at hd;cases hd
  | some d' =>
   rw[q]at hd
   simp at hd
   subst hd
   obtain⟨v,e1,e2⟩:=r.get q
   have:=hy vs (ur_ S.fh (ur_ s h))
   rw[e1]at this
   cases this
   obtain⟨s2,S2,r2⟩:=S.newTup hp (RepL.cons (Rep.int (i:Int)) (RepL.cons (e2.mono s) RepL.nil))
   exact⟨_,s2,S2,r2⟩
 stop:=λG F2 σ H2 ρ s S=>⟨vs,ur_ S.fh (ur_ s h),by rw[r.length,jA_];exact Nat.le_refl _⟩
def zhs_(K:Fg)(tl:TA):TI:=λσ H R=>tl σ H λxs H1=>∃a,xs=[.ref a]/\(∃ys,SqL K H1 a ys)/\R (Itel K a) H1
theorem zbc_{X:Cx}{e:Expr}{tl:TA}{elts:List Expr}{x1:Nat}{tp p pos:Pos}(hg:Gl X "enumerate")(hm:X.mg "enumerate" = none)(ha:PA X [e] tl)(hs:starEach [e] X.env=[(false,eval e X.env)]) :
  PI X (.Tuple elts x1 tp) (.Call (.Name "enumerate" p) [e] [] pos) (zhs_ X.K tl):=by
 intro pins s σ H R I h
 refine wpAny_Call_Name_kw (uN_ I hg hm (show bootBuiltins "enumerate" = some (.type "enumerate") by decide +kernel) ?_ (by decide) (by decide))
 refine PyProof.Rows.callWith_type1 (thn (ha pos pins s σ H _ I h) λus s1 ⟨vs,H1,I1,r1,q1⟩=>?_) hs rfl
 obtain⟨a,rfl,⟨ys,hq⟩,q⟩:=q1
 obtain⟨u,rfl,ru⟩:=L2.Vals.one r1
 cases ru
 obtain⟨its,rv,pt,hz⟩:=I1.list hq
 have alt:a<s1.heap.objs.size:=by obtain⟨o,e1,_⟩:=pt.isList;exact Heap.lt_size e1
 refine call_enumerate_list pt.isList λh' he ht hsz hk=>?_
 refine wpAny_pyIter_enum (s:={ s1 with heap:=h' }) he ?_
 refine⟨s1.heap.objs.size+1,[s1.heap.objs.size+1,s1.heap.objs.size],_,_,H1,rfl,I1.kept (t':=s1.toks) hk,VE_ a s1.heap.objs.size (s1.heap.objs.size+1) (Nat.ne_of_lt alt) (Nat.succ_ne_self _) (Nat.ne_of_gt (Nat.lt_succ_of_lt alt)),⟨⟨_,he⟩,ht⟩,λb hb=>?_,q⟩
 rcases List.mem_cons.mp hb with rfl|hb
 ·exact I1.fpOk (Nat.le_succ _) (I1.hok.fresh (Nat.le_succ _))
 ·rw[List.mem_singleton.mp hb]
  exact I1.fpOk (Nat.le_refl _) (I1.hok.fresh (Nat.le_refl _))
end L3
namespace L4
open PySem PySem.Spec PyProof.Rows L2 L3
def YA_:List D->Option (List D)
 | [.list ds]=>some (yq_ ds)
 | _=>none
section
variable {X:Cx}{tg e:Expr}{p pos tp:Pos}{elts:List Expr}{x1:Nat}
theorem zcb_{F H:Hp}{vs:List V}{ds out:List D}{R:It->Hp->Prop}(s:Same F H)(r:RepL X.K F vs ds)(h:YA_ ds=some out)(k:∀J,Walk X.K J out F->R J H) :
  ∃a,vs=[.ref a]/\(∃ys,SqL X.K H a ys)/\R (Itel X.K a) H:=by
 unfold YA_ at h
 split at h
 ·cases h
  obtain⟨v,rfl,r1⟩:=r.one_inv
  obtain⟨a,vs,rfl,a1,a2⟩:=r1.lst_inv
  exact⟨_,rfl,⟨_,s.seq a1⟩,k _ (VA_ a1 a2)⟩
 ·cases h
theorem zcu_{ps:Pa (List D)}(hg:Gl X "enumerate")(hm:X.mg "enumerate" = none)(ha:AA X [e] ps)(hs:starEach [e] X.env=[(false,eval e X.env)]):AI X (.Tuple elts x1 tp) (.Call (.Name "enumerate" p) [e] [] pos) (y1_ YA_ ps) :=
 λG F σ H ρ R S w=>semI (zbc_ hg hm zS_ hs) (ha G F σ H ρ _ _ _ S w λds vs F1 H1 s1 S1 _ r1 w1=>by
  obtain⟨out,hd,k⟩:=w1.opt
  exact zcb_ S1.fh r1 hd (k F1 H1 (Same.refl _) S1))
end
inductive Ty where
 | tup|lst|str
noncomputable def Ty.s:Ty->String
 | .tup => "tuple"
 | .lst => "list"
 | .str => "str"
noncomputable def onT{S:Type}(t:Ty)(d:D)(m:M S):M S:=match t,d with
 | .tup,.tuple _=>m
 | .lst,.list _=>m
 | .str,.str _=>m
 | _,_=>.bad
def tyW(K:Fg)(T:String)(x:V)(H:Hp):Prop:=tyV K T x H\/(T = "tuple" /\ ∃p xs,x=.ref p/\H p=some (.tup xs))
theorem zfF_{X:Cx}{pins:List (Addr×Obj)}{σ:L2.St}{H:Hp}{s:Shared}{T:String}{x:V}{v:Value}(I:Inv X pins σ H s)(r:RelV x v)(ty:tyW X.K T x H) :
  s.TypeIs v T/\∀a,v=.ref a->∃ob,s.heap.get? a=some ob/\ob.dict=none:=by
 rcases ty with ty|⟨rfl,p,xs,rfl,h⟩
 ·exact zcF_ I r ty
 ·cases r
  obtain⟨_,its,_,⟨o,e,c,_⟩,ob,e2,d⟩:=I.hok p _ h
  refine⟨⟨o,e,c⟩,λa q=>?_⟩
  cases q
  exact⟨ob,e2,d⟩
def zgj_(K:Fg)(f:D->List D->Option D):V->List V->Hp->VK->Prop:=λx xs H Q=>∃G F σ ρ d ds res,StOk K G F σ H ρ/\OR K F H x d/\RepL K F xs ds/\f d ds=some res /\
 ∀y F' H',Same F F'->StOk K G F' σ H' ρ->Rep K F' y res->Q y H'
noncomputable def tMt(K:Fg)(T:String)(r:V->List V->Hp->VK->Prop)(to:TE)(t:TA):TE:=λσ H Q=>to σ H λx H1=>tyW K T x H1/\t σ H1 λxs H2=>r x xs H2 Q
section
variable {X:Cx}{o e:Expr}{es:List Expr}{to:TE}{t:TA}{name:Str}{apos cpos:Pos}{T id:String}{r:V->List V->Hp->VK->Prop}
theorem zep_(pa:PlainAttrs T)(slot:Slot T name id)(hty:typeOf (.builtin id)=pure (.type "method_descriptor"))(hm:MtR X id r)(ho:PE X o to)(ha:PA X (e::es) t)
  (hbase:attributeBase o name X.env (eval o X.env)=eval o X.env)
  (hfew:((backTo cpos (starEach (e::es) X.env)).all (λx=>!x.1)&&(backToKw cpos (keywordEach [] X.env)).all (λx=>x.1.isSome)
   && decide ((e::es).length+([]:List Keyword).length+(if([]:List Keyword).isEmpty then 0 else 1)<30))=true)
  (hline:(apos.endLine==cpos.line)=true) (hs:starEach (e::es) X.env=(false,eval e X.env)::starEach es X.env) (hplain:(backTo cpos (starEach es X.env)).any (·.1)=false) :
  PE X (.Call (.Attribute o name apos) (e::es) [] cpos) (tMt X.K T r to t):=by
 intro pins s σ H Q I h
 refine wpAny_Call_method_late hbase hfew hline rfl (thn (ho pins s σ H _ I h) λv s1 ⟨x,H1,I1,r1,ty,q1⟩=>?_)
 obtain⟨h1,h2⟩:=zfF_ I1 r1 ty
 refine⟨T,id,pa,slot,hty,h1,h2,?_⟩
 have hA:=ha cpos pins s1 σ H1 _ I1 q1
 rw[hs]at hA ⊢
 refine Calls.callWith_builtin (by show(false||(backTo cpos (starEach es X.env)).any (·.1))=false;rw[hplain]<;>rfl) (Calls.evalArgs_plain ?_)
 exact thn hA λus s2 ⟨vs,H2,I2,r2,q2⟩=>hm pins s2 σ H2 x vs v us Q I2 r1 r2 q2
end
def ziC_(t:Ty)(f:D->List D->Option D)(po:Pu D)(ps:Pa D):Pu D:=λρ=>bd (po ρ) λd=>onT t d (ps (λds=>oM (f d ds)) ρ)
theorem zgU_{α:Type}{X:Cx}{G:Gh}{F H:Hp}{σ:L2.St}{ρ:En}{t:Ty}{d:D}{m:M α}{C:α->Hp->Hp->Prop}{v:V}(S:StOk X.K G F σ H ρ)(hv:VO X.K F σ ρ v d)(w:W X G F σ ρ (onT t d m) C) :
  tyW X.K t.s v H/\W X G F σ ρ m C:=by
 have o:=hv.or S
 cases t with
 | tup =>
  cases d with
  | tuple ds =>
   have r:=o.tup'
   cases r with
   | tup h1 h2=>exact⟨.inr ⟨rfl,_,_,rfl,S.fh _ _ h1⟩,w⟩
  | _=>exact False.elim w
 | lst =>
  cases d with
  | list ds =>
   obtain⟨a,vs,rfl,h1,h2⟩:=o.list S.fh
   exact⟨.inl (.inl ⟨rfl,_,h1⟩),w⟩
  | _=>exact False.elim w
 | str =>
  cases d with
  | str ds =>
   rw[o.str]
   exact⟨.inl rfl,w⟩
  | _=>exact False.elim w
section
variable {X:Cx}{o e:Expr}{es:List Expr}{name:Str}{apos cpos:Pos}{id:String}{po:Pu D}{ps:Pa D}{pl:Pa (List D)}{ty:Ty}
theorem zas_{f:D->List D->Option D}(pa:PlainAttrs ty.s)(slot:Slot ty.s name id)(hty:typeOf (.builtin id)=pure (.type "method_descriptor"))(hm:MtR X id (zgj_ X.K f))(ho:AO X o po)(ha:AA X (e::es) ps)
  (hbase:attributeBase o name X.env (eval o X.env)=eval o X.env)
  (hfew:((backTo cpos (starEach (e::es) X.env)).all (λx=>!x.1)&&(backToKw cpos (keywordEach [] X.env)).all (λx=>x.1.isSome)
   && decide ((e::es).length+([]:List Keyword).length+(if([]:List Keyword).isEmpty then 0 else 1)<30))=true)
  (hline:(apos.endLine==cpos.line)=true) (hs:starEach (e::es) X.env=(false,eval e X.env)::starEach es X.env) (hplain:(backTo cpos (starEach es X.env)).any (·.1)=false) :
  AP X (.Call (.Attribute o name apos) (e::es) [] cpos) (ziC_ ty f po ps) :=
 λG F σ H ρ Q S w=>sem (zep_ pa slot hty hm zm_ zS_ hbase hfew hline hs hplain) (ho G F σ H ρ _ S (w.bind.imp λd F1 H1 s1 S1 w1 v hv=>by
  obtain⟨ht,w2⟩:=zgU_ S1 hv w1
  refine⟨ht,ha G F1 σ H1 ρ _ _ _ S1 w2 λds vs F2 H2 s2 S2 _ r2 w3=>?_⟩
  obtain⟨res,e,k⟩:=w3.opt
  exact⟨G,F2,σ,ρ,d,ds,res,S2,(hv.mono s2).or S2,r2,e,λy F3 H3 s3 S3 r3=>k F3 H3 s3 S3 y r3⟩))
end
theorem YF_{h:Heap}{vs:Array Value}{xs:List PyData}{as:List Addr}{d:PyData}(rs:ReadsAll h vs.toList xs as)(hxs:PyData.canLayAll0 xs=true) :
  vs.toList.countP (λy=>PyData.eqv (SeqAt.readOf h y) d)=xs.countP (λy=>PyData.eqv y d):=by
 rw[<-SeqAt.readsAll_map xs _ _ hxs rs,List.countP_map]
 rfl
end L4
namespace TS
open PySem PyProof.Rows
noncomputable def kr(rk:Value->Int)(xs:Array Keyed)(i:Nat):Int:=(xs[i]?.map λp=>rk p.1).getD 0
def Asc(rk:Value->Int)(xs:Array Keyed)(lo hi:Nat):Prop:=∀i j:Nat,lo<=i->i<=j->j<hi->kr rk xs i<=kr rk xs j
def Dsc(rk:Value->Int)(xs:Array Keyed)(lo hi:Nat):Prop:=∀i j:Nat,lo<=i->i<=j->j<hi->kr rk xs j<=kr rk xs i
def Cmps(prog:Program)(w:World)(A:Around)(s:Shared)(κ:SortKind)(rk:Value->Int)(a₀:Array Keyed):Prop :=
 ∀x y,x∈a₀.toList->y∈a₀.toList->∀(E:Value->Shared->Prop) (Q:Bool->Shared->Prop),Q (decide (rk x.1<rk y.1)) s->wpAny (model prog w) A (keyLt' κ x.1 y.1) Q E s
noncomputable abbrev Runs:=Array (Nat×Nat×Nat)
structure SB(κ:SortKind)(a₀:Array Keyed)(lo:Nat)(old:Array Keyed)(P:Runs)(st:SortSt):Prop where
 pm:(arrOf st).Perm a₀
 kd:kindOf st=κ
 fl:failedOf st=none
 kp:∀i,i<lo->(arrOf st)[i]? = old[i]?
 pe:pendingOf st=P
section
variable {prog:Program}{w:World}{A:Around}{E:Value->Shared->Prop}{s:Shared}{κ:SortKind}{rk:Value->Int}{a₀ old:Array Keyed}{lo:Nat}{P:Runs}
theorem SB.sz{st:SortSt}(h:SB κ a₀ lo old P st):(arrOf st).size=a₀.size:=h.pm.size_eq
theorem SB.to{st:SortSt}(h:SB κ a₀ lo old P st){xs:Array Keyed}(hp:xs.Perm (arrOf st))(hk:∀i,i<lo->xs[i]? = (arrOf st)[i]?):SB κ a₀ lo old P (setArr st xs) :=
 ⟨hp.trans h.pm,h.kd,h.fl,λi hi=>(hk i hi).trans (h.kp i hi),h.pe⟩
theorem SB.mem{st:SortSt}(h:SB κ a₀ lo old P st){i:Nat}{p:Keyed}(e:(arrOf st)[i]? = some p):p∈a₀.toList :=
 (Array.perm_iff_toList_perm.mp h.pm).mem_iff.mp (by
  obtain⟨hl,e⟩:=Array.getElem?_eq_some_iff.mp e
  rw[<-e];simp)
theorem jc_{xs:Array Keyed}{i:Nat}{p:Keyed}(e:xs[i]? = some p):kr rk xs i=rk p.1:=by unfold kr;rw[e];rfl
theorem Z1_{xs ys:Array Keyed}{i j:Nat}(e:xs[i]? = ys[j]?):kr rk xs i=kr rk ys j:=by unfold kr;rw[e]
theorem jl_{xs:Array Keyed}{i:Nat}{p:Keyed}{st:SortSt}{Q:Keyed->SortSt->Prop}(e:xs[i]? = some p)(q:Q p st):wpS (model prog w) A E s (elem' xs i) Q st:=by
 rw[elem'_eq,e];exact wpS_pure q
theorem Xs_{x y:Keyed}{st:SortSt}{Q:Option Bool->SortSt->Prop}(hC:Cmps prog w A s κ rk a₀)(hk:kindOf st=κ)(hx:x∈a₀.toList)(hy:y∈a₀.toList)(q:Q (some (decide (rk x.1<rk y.1))) st) :
  wpS (model prog w) A E s (lt' x y) Q st:=by
 rw[lt'_eq]
 refine wpS_bind (wpS_get ?_)
 rw[hk]
 refine wpS_bind (wpS_lift (wpAny_attempt (hC x y hx hy _ _ ⟨rfl,?_⟩)))
 exact wpS_pure q
theorem zal_{i j:Nat}{st:SortSt}{Q:Option Bool->SortSt->Prop}(hC:Cmps prog w A s κ rk a₀)(h:SB κ a₀ lo old P st)(hi:i<a₀.size)(hj:j<a₀.size)(q:Q (some (decide (kr rk (arrOf st) i<kr rk (arrOf st) j))) st) :
  wpS (model prog w) A E s (ltAt' i j) Q st:=by
 have e1:(arrOf st)[i]? = some ((arrOf st)[i]'(by rw[h.sz];exact hi)):=Array.getElem?_eq_getElem _
 have e2:(arrOf st)[j]? = some ((arrOf st)[j]'(by rw[h.sz];exact hj)):=Array.getElem?_eq_getElem _
 rw[ltAt'_eq]
 refine wpS_bind (wpS_get ?_)
 refine wpS_bind (jl_ e1 (wpS_bind (jl_ e2 ?_)))
 refine Xs_ hC h.kd (h.mem e1) (h.mem e2) ?_
 rw[jc_ e1,jc_ e2]at q
 exact q
theorem QR_{st:SortSt}{i j:Nat}{Q:Unit->SortSt->Prop}(q:Q () (setArr st (mirror (arrOf st) i j ((j - i) / 2)))):wpS (model prog w) A E s (reverseSlice' i j) Q st:=by
 rw[reverseSlice'_eq]
 exact wpS_modify q
theorem Xz_{xs:Array Keyed}{i j:Nat}(hj:j<=xs.size)(k:Nat):kr rk (mirror xs i j ((j - i) / 2)) k=if i<=k/\k<j then kr rk xs (i+j - 1 - k)else kr rk xs k:=by
 have e:=getElem?_mirror_all (i:=i) hj k
 split
 ·rename_i c;rw[if_pos c]at e;exact Z1_ e
 ·rename_i c;rw[if_neg c]at e;exact Z1_ e
theorem Zn_{xs:Array Keyed}{i j lo:Nat}(hj:j<=xs.size)(hl:lo<=i):∀k,k<lo->(mirror xs i j ((j - i) / 2))[k]? = xs[k]?:=λk hk=>by
 rw[getElem?_mirror_all hj k,if_neg (by lia)]
theorem Uj_{xs:Array Keyed}{i j:Nat}(hj:j<=xs.size)(e:∀k,i<=k->k<j->kr rk xs k=kr rk xs (j - 1))(k:Nat):kr rk (mirror xs i j ((j - i) / 2)) k=kr rk xs k:=by
 rw[Xz_ hj]
 split
 ·rename_i c;rw[e k c.1 c.2,e _ (by lia) (by lia)]
 ·rfl
noncomputable abbrev Asl:=Option (Option Nat)×Nat
noncomputable abbrev Dsl:=Option (Option Nat)×Nat×Nat
noncomputable def upW(lo a z:Nat):StateT SortSt Sem Asl:=forIn [a:z] ((none,a):Asl) λ_ c=>do
 match <-ltAt' (lo+c.snd) (lo+c.snd - 1)with
 | some b=>if b=true then pure (ForInStep.done (none,c.snd))else pure (ForInStep.yield (none,c.snd+1))
 | _=>pure (ForInStep.done (some none,c.snd))
def endW(lo n z:Nat):StateT SortSt Sem (Option Nat):=do
 reverseSlice' lo (lo+n)
 let c <-upW lo n z
 match c.fst with
 | some r=>pure r
 | none=>pure (some c.snd)
noncomputable def dnW(lo n z:Nat):StateT SortSt Sem Dsl:=forIn [n:z] ((none,n,0):Dsl) λ_ c=>do
 match <-ltAt' (lo+c.snd.fst) (lo+c.snd.fst - 1)with
 | some b =>
  if b=true then
   if c.snd.snd>0 then do
    reverseSlice' (lo+c.snd.fst - (c.snd.snd+1)) (lo+c.snd.fst)
    pure (ForInStep.yield (none,c.snd.fst+1,0))
   else pure (ForInStep.yield (none,c.snd.fst+1,0))
  else do
   match <-ltAt' (lo+c.snd.fst - 1) (lo+c.snd.fst)with
   | some g=>if g=true then pure (ForInStep.done (none,c.snd.fst,c.snd.snd))else pure (ForInStep.yield (none,c.snd.fst+1,c.snd.snd+1))
   | _=>pure (ForInStep.done (some none,c.snd.fst,c.snd.snd))
 | _=>pure (ForInStep.done (some none,c.snd.fst,c.snd.snd))
def XY_(lo n z:Nat):StateT SortSt Sem (Option Nat):=do
 liftM (rule "list.sort.descending-run")
 let c <-dnW lo (n+1) z
 match c.fst with
 | some r=>pure r
 | none =>
  if c.snd.snd>0 then do
   reverseSlice' (lo+c.snd.fst - (c.snd.snd+1)) (lo+c.snd.fst)
   endW lo c.snd.fst z
  else endW lo c.snd.fst z
theorem zgb_(lo z:Nat):countRun' lo z=(do
  let c <-upW lo 1 z
  match c.fst with
  | some r=>pure r
  | none =>
   if(c.snd==z)=true then pure (some c.snd)
   else if c.snd>1 then do
    match <-ltAt' lo (lo+c.snd - 1)with
    | some b=>if b=true then pure (some c.snd)else do
      reverseSlice' lo (lo+c.snd)
      XY_ lo c.snd z
    | _=>pure none
   else XY_ lo c.snd z):=by
 rw[countRun'_eq]
 unfold XY_ endW dnW upW
 dsimp only
 have tl:∀(x:StateT SortSt Sem Asl),(x >>= λc3=>match c3.fst with|some r=>pure r|none=>pure (some c3.snd):StateT SortSt Sem (Option Nat))=(x >>= λc3=>match c3.fst with|none=>pure (some c3.snd)|some r=>pure r):=λx=>by
  congr 1;funext c3;rcases c3 with ⟨_|r3,n3⟩<;>rfl
 congr 1
 funext c
 rcases c with ⟨_|r,n⟩
 ·dsimp only
  split
  ·rfl
  ·split
   ·congr 1
    funext x
    cases x with
    | none=>rfl
    | some b =>
     dsimp only
     split
     ·rfl
     ·congr 1;funext _;congr 1;funext _;congr 1;funext c2
      rcases c2 with ⟨_|r2,n2,q2⟩
      ·dsimp only
       split
       ·congr 1;funext _;congr 1;funext _;congr 1;funext c3;rcases c3 with ⟨_|r3,n3⟩<;>rfl
       ·congr 1;funext _;congr 1;funext c3;rcases c3 with ⟨_|r3,n3⟩<;>rfl
      ·rfl
   ·congr 1;funext _;congr 1;funext c2
    rcases c2 with ⟨_|r2,n2,q2⟩
    ·dsimp only
     split
     ·congr 1;funext _;congr 1;funext _;congr 1;funext c3;rcases c3 with ⟨_|r3,n3⟩<;>rfl
     ·congr 1;funext _;congr 1;funext c3;rcases c3 with ⟨_|r3,n3⟩<;>rfl
    ·rfl
 ·rfl
end
section
variable {prog:Program}{w:World}{A:Around}{E:Value->Shared->Prop}{s:Shared}{κ:SortKind}{rk:Value->Int}{a₀ old:Array Keyed}{lo:Nat}{P:Runs}
theorem Asc.snoc{xs:Array Keyed}{lo m:Nat}(h:Asc rk xs lo (lo+m))(h1:1<=m)(q:¬ kr rk xs (lo+m)<kr rk xs (lo+m - 1)):Asc rk xs lo (lo+(m+1)):=λi j hi hij hj=>by
 by_cases c:j<lo+m
 ·exact h i j hi hij c
 ·by_cases c2:i=j
  ·subst c2;exact Int.le_refl _
  ·have e:j=lo+m:=by lia
   subst e
   have:=h i (lo+m - 1) hi (by lia) (by lia)
   lia
theorem zfC_{st:SortSt}{a z:Nat}{Q:Asl->SortSt->Prop}(hC:Cmps prog w A s κ rk a₀)(hz:lo+z<=a₀.size)(h1:1<=a)(ha:a<=z)(h:SB κ a₀ lo old P st)(ho:Asc rk (arrOf st) lo (lo+a))
  (q:∀n,a<=n->n<=z->Asc rk (arrOf st) lo (lo+n)->(n=z\/kr rk (arrOf st) (lo+n)<kr rk (arrOf st) (lo+n - 1))->Q (none,n) st):wpS (model prog w) A E s (upW lo a z) Q st:=by
 refine wpS_forRange (I:=λx c st'=>st'=st/\c=(none,x)/\Asc rk (arrOf st) lo (lo+x)) (λx c st' hx hxz I=>?_) (λc st' I=>?_) ⟨rfl,rfl,ho⟩
 ·obtain⟨rfl,rfl,o⟩:=I
  refine wpS_bind (zal_ hC h (by dsimp only;lia) (by dsimp only;lia) ?_)
  dsimp only
  by_cases c:kr rk (arrOf st') (lo+x)<kr rk (arrOf st') (lo+x - 1)
  ·rw[decide_eq_true c]
   exact wpS_pure (q x hx (by lia) o (.inr c))
  ·rw[decide_eq_false c]
   exact wpS_pure ⟨rfl,rfl,o.snoc (by lia) c⟩
 ·obtain⟨rfl,rfl,o⟩:=I
  have e:max a z=z:=by lia
  rw[e]at o ⊢
  exact q z ha (Nat.le_refl _) o (.inl rfl)
def Run(κ:SortKind)(rk:Value->Int)(a₀ old:Array Keyed)(lo z:Nat)(P:Runs)(m:Nat)(st:SortSt):Prop:=SB κ a₀ lo old P st/\1<=m/\m<=z/\Asc rk (arrOf st) lo (lo+m)
theorem zdn_{st:SortSt}{n z:Nat}{Q:Option Nat->SortSt->Prop}(hC:Cmps prog w A s κ rk a₀)(hz:lo+z<=a₀.size)(h1:1<=n)(hn:n<=z)(h:SB κ a₀ lo old P st)(ho:Dsc rk (arrOf st) lo (lo+n))
  (q:∀m st',Run κ rk a₀ old lo z P m st'->Q (some m) st'):wpS (model prog w) A E s (endW lo n z) Q st:=by
 have hl:lo+n<=(arrOf st).size:=by rw[h.sz];lia
 have h':=h.to (mirror_perm (arrOf st) lo (lo+n) ((lo+n - lo) / 2)) (Zn_ hl (Nat.le_refl _))
 unfold endW
 refine wpS_bind (QR_ (wpS_bind (zfC_ hC hz h1 hn h' (λi j hi hij hj=>?_) λm m1 m2 o _=>wpS_pure (q m _ ⟨h',by lia,m2,o⟩))))
 show kr rk (mirror (arrOf st) lo (lo+n) _) i<=kr rk (mirror (arrOf st) lo (lo+n) _) j
 rw[Xz_ hl,Xz_ hl,if_pos ⟨hi,by lia⟩,if_pos ⟨by lia,hj⟩]
 exact ho _ _ (by lia) (by lia) (by lia)
theorem Dsc.snoc{xs ys:Array Keyed}{lo m:Nat}(h:Dsc rk xs lo (lo+m))(h1:1<=m)(e:∀k,kr rk ys k=kr rk xs k)(q:kr rk xs (lo+m)<=kr rk xs (lo+m - 1)):Dsc rk ys lo (lo+(m+1)):=λi j hi hij hj=>by
 rw[e,e]
 by_cases c:j<lo+m
 ·exact h i j hi hij c
 ·by_cases c2:i=j
  ·subst c2;exact Int.le_refl _
  ·have e:j=lo+m:=by lia
   subst e
   have:=h i (lo+m - 1) hi (by lia) (by lia)
   lia
def Flat(rk:Value->Int)(xs:Array Keyed)(lo m q:Nat):Prop:=q+1<=m/\∀k,lo+m - (q+1)<=k->k<lo+m->kr rk xs k=kr rk xs (lo+m - 1)
theorem zje_{st:SortSt}{n z:Nat}{Q:Dsl->SortSt->Prop}(hC:Cmps prog w A s κ rk a₀)(hz:lo+z<=a₀.size)(h1:1<=n)(hn:n<=z)(h:SB κ a₀ lo old P st)(ho:Dsc rk (arrOf st) lo (lo+n))
  (q:∀m r st',SB κ a₀ lo old P st'->n<=m->m<=z->Dsc rk (arrOf st') lo (lo+m)->Flat rk (arrOf st') lo m r->Q (none,m,r) st'):wpS (model prog w) A E s (dnW lo n z) Q st:=by
 refine wpS_forRange (I:=λx c st'=>∃r,c=(none,x,r)/\SB κ a₀ lo old P st'/\Dsc rk (arrOf st') lo (lo+x)/\Flat rk (arrOf st') lo x r) (λx c st' hx hxz I=>?_) (λc st' I=>?_) ⟨0,rfl,h,ho,by lia,λk k1 k2=>by congr 1;lia⟩
 ·obtain⟨r,rfl,h',o,fl⟩:=I
  have hl:lo+x<=(arrOf st').size:=by rw[h'.sz];lia
  refine wpS_bind (zal_ hC h' (by dsimp only;lia) (by dsimp only;lia) ?_)
  dsimp only
  by_cases c:kr rk (arrOf st') (lo+x)<kr rk (arrOf st') (lo+x - 1)
  ·rw[decide_eq_true c]
   rw[if_pos rfl]
   split
   ·rename_i hr
    have hr':0<r:=hr
    have hfl:∀k,lo+x - (r+1)<=k->k<lo+x->kr rk (arrOf st') k=kr rk (arrOf st') (lo+x - 1):=fl.2
    have kp:=Uj_ (rk:=rk) hl hfl
    have fl1:=fl.1
    refine wpS_bind (QR_ (wpS_pure ⟨0,rfl,h'.to (mirror_perm _ _ _ _) (Zn_ hl (by lia)),o.snoc (by lia) kp (by lia),by lia,λk k1 k2=>by congr 1;lia⟩))
   ·exact wpS_pure ⟨0,rfl,h',o.snoc (by lia) (λ_=>rfl) (by lia),by lia,λk k1 k2=>by congr 1;lia⟩
  ·rw[decide_eq_false c]
   rw[if_neg (by decide)]
   refine wpS_bind (zal_ hC h' (by lia) (by lia) ?_)
   by_cases c2:kr rk (arrOf st') (lo+x - 1)<kr rk (arrOf st') (lo+x)
   ·rw[decide_eq_true c2]
    exact wpS_pure (q x r st' h' hx (by lia) o fl)
   ·rw[decide_eq_false c2]
    refine wpS_pure ⟨r+1,rfl,h',o.snoc (by lia) (λ_=>rfl) (by lia),by have:=fl.1;lia,λk k1 k2=>?_⟩
    have e:kr rk (arrOf st') (lo+x)=kr rk (arrOf st') (lo+x - 1):=by lia
    rw[show lo+(x+1) - 1=lo+x by lia,e]
    by_cases c3:k=lo+x
    ·rw[c3];exact e
    ·exact fl.2 k (by lia) (by lia)
 ·obtain⟨r,rfl,h',o,fl⟩:=I
  have e:max n z=z:=by lia
  rw[e]at o fl ⊢
  exact q z r st' h' hn (Nat.le_refl _) o fl
theorem XX_{st:SortSt}{n z:Nat}{Q:Option Nat->SortSt->Prop}(hC:Cmps prog w A s κ rk a₀)(hz:lo+z<=a₀.size)(hn:n+1<=z)(h:SB κ a₀ lo old P st)(ho:Dsc rk (arrOf st) lo (lo+(n+1)))
  (q:∀m st',Run κ rk a₀ old lo z P m st'->Q (some m) st'):wpS (model prog w) A E s (XY_ lo n z) Q st:=by
 unfold XY_
 refine wpS_bind (wpS_lift (wpAny_rule ⟨rfl,wpS_bind (zje_ hC hz (by lia) hn h ho λm r st' h' m1 m2 o fl=>?_)⟩))
 dsimp only
 have hl:lo+m<=(arrOf st').size:=by rw[h'.sz];lia
 have fl1:=fl.1
 split
 ·have kp:=Uj_ (rk:=rk) hl fl.2
  refine wpS_bind (QR_ (zdn_ hC hz (by lia) m2 (h'.to (mirror_perm _ _ _ _) (Zn_ hl (by lia))) (λi j hi hij hj=>?_) q))
  show kr rk (mirror (arrOf st') _ _ _) j<=kr rk (mirror (arrOf st') _ _ _) i
  rw[kp,kp]
  exact o i j hi hij hj
 ·exact zdn_ hC hz (by lia) m2 h' o q
theorem zga_{st:SortSt}{z:Nat}{Q:Option Nat->SortSt->Prop}(hC:Cmps prog w A s κ rk a₀)(hz:lo+z<=a₀.size)(h1:1<=z)(h:SB κ a₀ lo old P st)
  (q:∀m st',Run κ rk a₀ old lo z P m st'->Q (some m) st'):wpS (model prog w) A E s (countRun' lo z) Q st:=by
 rw[zgb_]
 refine wpS_bind (zfC_ hC hz (Nat.le_refl 1) h1 h (λi j hi hij hj=>by rw[show i=j by lia];exact Int.le_refl _) λn n1 n2 o e=>?_)
 dsimp only
 by_cases c:n=z
 ·rw[if_pos (by simpa using c)]
  exact wpS_pure (q n st ⟨h,n1,n2,o⟩)
 ·rw[if_neg (by simpa using c)]
  have lt:=e.resolve_left c
  split
  ·refine wpS_bind (zal_ hC h (by lia) (by lia) ?_)
   by_cases c2:kr rk (arrOf st) lo<kr rk (arrOf st) (lo+n - 1)
   ·rw[decide_eq_true c2]
    exact wpS_pure (q n st ⟨h,n1,n2,o⟩)
   ·rw[decide_eq_false c2]
    dsimp only
    rw[if_neg (by decide)]
    have hl:lo+n<=(arrOf st).size:=by rw[h.sz];lia
    have fl:∀k,lo<=k->k<lo+n->kr rk (arrOf st) k=kr rk (arrOf st) (lo+n - 1):=λk k1 k2=>by
     have a1:=o lo k (Nat.le_refl _) k1 k2
     have a2:=o k (lo+n - 1) k1 (by lia) (by lia)
     lia
    have kp:=Uj_ (rk:=rk) hl fl
    have dd:Dsc rk (arrOf st) lo (lo+n):=λi j hi hij hj=>by rw[fl i hi (by lia),fl j (by lia) hj];exact Int.le_refl _
    exact wpS_bind (QR_ (XX_ hC hz (by lia) (h.to (mirror_perm _ _ _ _) (Zn_ hl (Nat.le_refl _))) (dd.snoc n1 kp (by lia)) q))
  ·have e1:n=1:=by lia
   subst e1
   have dd:Dsc rk (arrOf st) lo (lo+1):=λi j hi hij hj=>by rw[show i=j by lia];exact Int.le_refl _
   exact XX_ hC hz (by lia) h (dd.snoc (Nat.le_refl _) (λ_=>rfl) (by lia)) q
theorem zdf_{xs:Array Keyed}{src d:Nat}(hs:src<xs.size)(hd:d<=src)(k:Nat):kr rk (bubble xs src d) k=if k=src - d then kr rk xs src else if src - d<k/\k<=src then kr rk xs (k - 1)else kr rk xs k:=by
 have e:=getElem?_bubble hs d hd k
 split
 ·rename_i c;rw[if_pos c]at e;exact Z1_ e
 ·rename_i c
  rw[if_neg c]at e
  split
  ·rename_i c2;rw[if_pos c2]at e;exact Z1_ e
  ·rename_i c2;rw[if_neg c2]at e;exact Z1_ e
theorem zhK_{st:SortSt}{n ok:Nat}{Q:Bool->SortSt->Prop}(hC:Cmps prog w A s κ rk a₀)(hn:lo+n<=a₀.size)(hk:ok<=n)(h:SB κ a₀ lo old P st)(ho:Asc rk (arrOf st) lo (lo+ok))
  (q:∀st',SB κ a₀ lo old P st'->Asc rk (arrOf st') lo (lo+n)->Q true st'):wpS (model prog w) A E s (binarySort' lo n ok) Q st:=by
 rw[binarySort'_eq]
 refine wpS_bind (wpS_mono (wpS_forRange (I:=λk c st'=>c=(none,())/\SB κ a₀ lo old P st'/\Asc rk (arrOf st') lo (lo+min k n))
  (Q:=λc st'=>c=(none,())/\SB κ a₀ lo old P st'/\Asc rk (arrOf st') lo (lo+n)) (λk c st' hk1 hkn I=>?_) (λc st' I=>?_) ⟨rfl,h,λi j hi hij hj=>?_⟩) λc st' I=>?_)
 ·obtain⟨rfl,h',o⟩:=I
  rw[show min k n=k by lia]at o
  have hsz:lo+k<(arrOf st').size:=by rw[h'.sz];lia
  refine wpS_bind (wpS_mono (wpS_forRange (I:=λx c st2=>st2=st'/\∃l r,c=(none,l,r)/\l<=r/\r<=k/\r - l<=k - x /\
    (∀i,i<l->kr rk (arrOf st') (lo+i)<=kr rk (arrOf st') (lo+k))/\(∀i,r<=i->i<k->kr rk (arrOf st') (lo+k)<kr rk (arrOf st') (lo+i)))
   (Q:=λc st2=>st2=st'/\∃l r,c=(none,l,r)/\l<=k/\(∀i,i<l->kr rk (arrOf st') (lo+i)<=kr rk (arrOf st') (lo+k))/\(∀i,l<=i->i<k->kr rk (arrOf st') (lo+k)<kr rk (arrOf st') (lo+i)))
   (λx c st2 _ hx J=>?_) (λc st2 J=>?_) ⟨rfl,0,k,rfl,by lia,by lia,by lia,λi hi=>by lia,λi i1 i2=>by lia⟩) λc st2 J=>?_)
  ·obtain⟨rfl,l,r,rfl,lr,rk',sz,b1,b2⟩:=J
   dsimp only
   by_cases c:l>=r
   ·rw[if_pos c]
    exact wpS_pure ⟨rfl,l,r,rfl,by lia,b1,λi i1 i2=>b2 i (by lia) i2⟩
   ·rw[if_neg c]
    refine wpS_bind (zal_ hC h' (by lia) (by lia) ?_)
    by_cases c2:kr rk (arrOf st2) (lo+k)<kr rk (arrOf st2) (lo+(l+r) / 2)
    ·rw[decide_eq_true c2]
     refine wpS_pure ⟨rfl,l,(l+r) / 2,rfl,by lia,by lia,by lia,b1,λi i1 i2=>?_⟩
     have:=o (lo+(l+r) / 2) (lo+i) (by lia) (by lia) (by lia)
     lia
    ·rw[decide_eq_false c2]
     refine wpS_pure ⟨rfl,(l+r) / 2+1,r,rfl,by lia,by lia,by lia,λi i1=>?_,b2⟩
     have:=o (lo+i) (lo+(l+r) / 2) (by lia) (by lia) (by lia)
     lia
  ·obtain⟨rfl,l,r,rfl,lr,rk',sz,b1,b2⟩:=J
   exact⟨rfl,l,r,rfl,by lia,b1,λi i1 i2=>b2 i (by lia) i2⟩
  ·obtain⟨rfl,l,r,rfl,lk,b1,b2⟩:=J
   show wpS _ _ _ _ (moveDown' (lo+k) (lo+l) >>= λ_=>pure (ForInStep.yield (none,()))) _ _
   rw[moveDown'_eq]
   have ed:lo+k - (lo+k - (lo+l))=lo+l:=by lia
   refine wpS_bind (wpS_modify (wpS_pure ⟨rfl,h'.to (bubble_perm _ _ _) (λi hi=>?_),λi j hi hij hj=>?_⟩))
   ·rw[getElem?_bubble hsz _ (by lia),if_neg (by lia),if_neg (by lia)]
   ·rw[show min (k+1) n=k+1 by lia]at hj
    show kr rk (bubble (arrOf st2) (lo+k) (lo+k - (lo+l))) i<=kr rk (bubble (arrOf st2) (lo+k) (lo+k - (lo+l))) j
    rw[zdf_ hsz (by lia),zdf_ hsz (by lia),ed]
    have t1:∀i,lo<=i->i<lo+l->kr rk (arrOf st2) i<=kr rk (arrOf st2) (lo+k):=λi i1 i2=>by
     have:=b1 (i - lo) (by lia)
     rwa [show lo+(i - lo)=i by lia]at this
    have t2:∀i,lo+l<=i->i<lo+k->kr rk (arrOf st2) (lo+k)<kr rk (arrOf st2) i:=λi i1 i2=>by
     have:=b2 (i - lo) (by lia) (by lia)
     rwa [show lo+(i - lo)=i by lia]at this
    split
    ·split
     ·exact Int.le_refl _
     ·split
      ·exact Int.le_of_lt (t2 _ (by lia) (by lia))
      ·lia
    ·split
     ·split
      ·lia
      ·split
       ·exact o _ _ (by lia) (by lia) (by lia)
       ·lia
     ·split
      ·exact t1 _ hi (by lia)
      ·split
       ·exact o _ _ (by lia) (by lia) (by lia)
       ·exact o _ _ (by lia) (by lia) (by lia)
 ·obtain⟨rfl,h',o⟩:=I
  rw[show min (max (max ok 1) n) n=n by lia]at o
  exact⟨rfl,h',o⟩
 ·by_cases c:ok=0
  ·rw[show i=j by lia];exact Int.le_refl _
  ·exact ho i j hi hij (by lia)
 ·obtain⟨rfl,h',o⟩:=I
  exact wpS_pure (q st' h' o)
end
noncomputable abbrev SM':=StateT SortSt Sem
def gal(bey:Nat->SM' (Option Bool))(n at0:Nat):SM' (Option Nat):=do
 let mut u:=0
 let mut o:=1
 let mut l:=0
 let mut h:=0
 let some b0 <-bey at0|return none
 if b0 then
  let z:=n - at0
  for _ in [0:n] do
   if o>=z then break
   let some b <-bey (at0+o)|return none
   if !b then break
   u:=o
   o:=2*o+1
  l:=at0+u+1
  h:=at0+min o z
 else
  let z:=at0+1
  for _ in [0:n] do
   if o>=z then break
   let some b <-bey (at0 - o)|return none
   if b then break
   u:=o
   o:=2*o+1
  l:=at0+1 - min o z
  h:=at0 - u
 for _ in [0:n] do
  if l>=h then break
  let m:=l+(h - l) / 2
  let some b <-bey m|return none
  if b then l:=m+1 else h:=m
 return some h
noncomputable def jY_:Bool->Keyed->Array Keyed->Nat->Nat->Nat->SM' (Option Nat):=sortPriv% PySem.Builtin.gallop
theorem Yy_(left:Bool)(key:Keyed)(arr:Array Keyed)(base n at0:Nat):jY_ left key arr base n at0=gal (λi=>do
  let x <-elem' arr (base+i)
  if left then lt' x key else return (<-lt' key x).map (!·)) n at0:=rfl
section
variable {prog:Program}{w:World}{A:Around}{E:Value->Shared->Prop}{s:Shared}
theorem XP_{bey:Nat->SM' (Option Bool)}{B:Nat->Prop}[DecidablePred B]{n:Nat}{st:SortSt}{Q:Option (Option Nat)×Nat×Nat->SortSt->Prop}{l h:Nat}
  (hb:∀i,i<n->∀Q:Option Bool->SortSt->Prop,Q (some (decide (B i))) st->wpS (model prog w) A E s (bey i) Q st) (mono:∀i j,i<=j->j<n->B j->B i)
  (lh:l<=h) (hn:h<=n) (b1:∀i,i<l->B i) (b2:∀i,h<=i->i<n->¬ B i) (q:∀l k,k<=n->(∀i,i<k->B i)->(∀i,k<=i->i<n->¬ B i)->Q (none,l,k) st) :
  wpS (model prog w) A E s (forIn [0:n] ((none,l,h):Option (Option Nat)×Nat×Nat) λ_ c =>
   if c.snd.fst>=c.snd.snd then pure (ForInStep.done (none,c.snd.fst,c.snd.snd))
   else do
    match <-bey (c.snd.fst+(c.snd.snd - c.snd.fst) / 2)with
    | some b=>if b=true then pure (ForInStep.yield (none,c.snd.fst+(c.snd.snd - c.snd.fst) / 2+1,c.snd.snd))else pure (ForInStep.yield (none,c.snd.fst,c.snd.fst+(c.snd.snd - c.snd.fst) / 2))
    | _=>pure (ForInStep.done (some none,c.snd.fst,c.snd.snd))) Q st:=by
 refine wpS_forRange (I:=λx c st'=>st'=st/\∃l h,c=(none,l,h)/\l<=h/\h<=n/\h - l<=n - x/\(∀i,i<l->B i)/\(∀i,h<=i->i<n->¬ B i)) (λx c st' _ hx I=>?_) (λc st' I=>?_) ⟨rfl,l,h,rfl,lh,hn,by lia,b1,b2⟩
 ·obtain⟨rfl,l,h,rfl,lh,hn,sz,b1,b2⟩:=I
  dsimp only
  split
  ·exact wpS_pure (q l h hn (λi hi=>b1 i (by lia)) b2)
  ·rename_i c
   refine wpS_bind (hb _ (by lia) _ ?_)
   by_cases d:B (l+(h - l) / 2)
   ·rw[decide_eq_true d]
    exact wpS_pure ⟨rfl,_,h,rfl,by lia,hn,by lia,λi hi=>mono i _ (by lia) (by lia) d,b2⟩
   ·rw[decide_eq_false d]
    exact wpS_pure ⟨rfl,l,_,rfl,by lia,by lia,by lia,b1,λi i1 i2 e=>d (mono _ i i1 i2 e)⟩
 ·obtain⟨rfl,l,h,rfl,lh,hn,sz,b1,b2⟩:=I
  exact q l h hn (λi hi=>b1 i (by lia)) b2
theorem zdj_{bey:Nat->SM' (Option Bool)}{B:Nat->Prop}[DecidablePred B]{n at0:Nat}{st:SortSt}{Q:Option Nat->SortSt->Prop}
  (hb:∀i,i<n->∀Q:Option Bool->SortSt->Prop,Q (some (decide (B i))) st->wpS (model prog w) A E s (bey i) Q st) (mono:∀i j,i<=j->j<n->B j->B i) (h0:at0<n)
  (q:∀k,k<=n->(∀i,i<k->B i)->(∀i,k<=i->i<n->¬ B i)->Q (some k) st):wpS (model prog w) A E s (gal bey n at0) Q st:=by
 unfold gal
 dsimp only
 refine wpS_bind (hb at0 h0 _ ?_)
 by_cases d:B at0
 ·rw[decide_eq_true d]
  dsimp only
  rw[if_pos rfl]
  refine wpS_bind (wpS_mono (wpS_forRange (I:=λx c st'=>st'=st/\∃u o,c=(none,u,o)/\u<o/\x<o/\at0+u<n/\B (at0+u))
   (Q:=λc st'=>st'=st/\∃u o,c=(none,u,o)/\u<o/\at0+u<n/\B (at0+u)/\(at0+o<n->¬ B (at0+o))) (λx c st' _ hx I=>?_) (λc st' I=>?_) ⟨rfl,0,1,rfl,by lia,by lia,h0,d⟩) λc st' I=>?_)
  ·obtain⟨rfl,u,o,rfl,uo,xo,un,bu⟩:=I
   dsimp only
   split
   ·exact wpS_pure ⟨rfl,u,o,rfl,uo,un,bu,λz=>by lia⟩
   ·rename_i c
    refine wpS_bind (hb _ (by lia) _ ?_)
    by_cases e:B (at0+o)
    ·rw[decide_eq_true e]
     exact wpS_pure ⟨rfl,o,2*o+1,rfl,by lia,by lia,by lia,e⟩
    ·rw[decide_eq_false e]
     exact wpS_pure ⟨rfl,u,o,rfl,uo,un,bu,λ_=>e⟩
  ·obtain⟨rfl,u,o,rfl,uo,xo,un,bu⟩:=I
   exact⟨rfl,u,o,rfl,uo,un,bu,λz=>by lia⟩
  ·obtain⟨rfl,u,o,rfl,uo,un,bu,bo⟩:=I
   dsimp only
   refine wpS_bind (XP_ hb mono (by lia) (by lia) (λi hi=>mono i _ (by lia) un bu) (λi i1 i2 e=>?_) λl k k1 k2 k3=>wpS_pure (q k k1 k2 k3))
   by_cases z:at0+o<n
   ·exact bo z (mono _ i (by lia) i2 e)
   ·lia
 ·rw[decide_eq_false d]
  dsimp only
  rw[if_neg (by decide)]
  refine wpS_bind (wpS_mono (wpS_forRange (I:=λx c st'=>st'=st/\∃u o,c=(none,u,o)/\u<o/\x<o/\u<=at0/\¬ B (at0 - u))
   (Q:=λc st'=>st'=st/\∃u o,c=(none,u,o)/\u<o/\u<=at0/\¬ B (at0 - u)/\(o<=at0->B (at0 - o))) (λx c st' _ hx I=>?_) (λc st' I=>?_) ⟨rfl,0,1,rfl,by lia,by lia,by lia,d⟩) λc st' I=>?_)
  ·obtain⟨rfl,u,o,rfl,uo,xo,un,bu⟩:=I
   dsimp only
   split
   ·exact wpS_pure ⟨rfl,u,o,rfl,uo,un,bu,λz=>by lia⟩
   ·rename_i c
    refine wpS_bind (hb _ (by lia) _ ?_)
    by_cases e:B (at0 - o)
    ·rw[decide_eq_true e]
     exact wpS_pure ⟨rfl,u,o,rfl,uo,un,bu,λ_=>e⟩
    ·rw[decide_eq_false e]
     exact wpS_pure ⟨rfl,o,2*o+1,rfl,by lia,by lia,by lia,e⟩
  ·obtain⟨rfl,u,o,rfl,uo,xo,un,bu⟩:=I
   exact⟨rfl,u,o,rfl,uo,un,bu,λz=>by lia⟩
  ·obtain⟨rfl,u,o,rfl,uo,un,bu,bo⟩:=I
   dsimp only
   refine wpS_bind (XP_ hb mono (by lia) (by lia) (λi hi=>?_) (λi i1 i2 e=>bu (mono _ i i1 i2 e)) λl k k1 k2 k3=>wpS_pure (q k k1 k2 k3))
   by_cases z:o<=at0
   ·exact mono i _ (by lia) (by lia) (bo z)
   ·lia
variable {κ:SortKind}{rk:Value->Int}{a₀:Array Keyed}
theorem yP_{key:Keyed}{arr:Array Keyed}{base n at0:Nat}{st:SortSt}{Q:Option Nat->SortSt->Prop}(hC:Cmps prog w A s κ rk a₀)(hk:kindOf st=κ)(hm:key∈a₀.toList)(hz:base+n<=arr.size)(ha:∀p∈arr.toList,p∈a₀.toList)
  (ho:Asc rk arr base (base+n)) (h0:at0<n) (q:∀k,k<=n->(∀i,i<k->kr rk arr (base+i)<rk key.1)->(∀i,k<=i->i<n->rk key.1<=kr rk arr (base+i))->Q (some k) st) :
  wpS (model prog w) A E s (jY_ true key arr base n at0) Q st:=by
 rw[Yy_]
 refine zdj_ (B:=λi=>kr rk arr (base+i)<rk key.1) (λi hi Q q=>?_) (λi j ij jn b=>?_) h0 λk k1 k2 k3=>q k k1 k2 λi i1 i2=>Int.not_lt.mp (k3 i i1 i2)
 ·have e:arr[base+i]? = some (arr[base+i]'(by lia)):=Array.getElem?_eq_getElem _
  refine wpS_bind (jl_ e ?_)
  rw[if_pos rfl]
  refine Xs_ hC hk (ha _ (by simp)) hm ?_
  rw[jc_ e]at q
  exact q
 ·have:=ho (base+i) (base+j) (by lia) (by lia) (by lia)
  lia
theorem yO_{key:Keyed}{arr:Array Keyed}{base n at0:Nat}{st:SortSt}{Q:Option Nat->SortSt->Prop}(hC:Cmps prog w A s κ rk a₀)(hk:kindOf st=κ)(hm:key∈a₀.toList)(hz:base+n<=arr.size)(ha:∀p∈arr.toList,p∈a₀.toList)
  (ho:Asc rk arr base (base+n)) (h0:at0<n) (q:∀k,k<=n->(∀i,i<k->kr rk arr (base+i)<=rk key.1)->(∀i,k<=i->i<n->rk key.1<kr rk arr (base+i))->Q (some k) st) :
  wpS (model prog w) A E s (jY_ false key arr base n at0) Q st:=by
 rw[Yy_]
 refine zdj_ (B:=λi=>¬ rk key.1<kr rk arr (base+i)) (λi hi Q q=>?_) (λi j ij jn b=>?_) h0 λk k1 k2 k3=>q k k1 (λi hi=>Int.not_lt.mp (k2 i hi)) λi i1 i2=>Classical.not_not.mp (k3 i i1 i2)
 ·have e:arr[base+i]? = some (arr[base+i]'(by lia)):=Array.getElem?_eq_getElem _
  refine wpS_bind (jl_ e ?_)
  rw[if_neg (by decide)]
  refine wpS_bind (Xs_ hC hk hm (ha _ (by simp)) (wpS_pure ?_))
  rw[jc_ e]at q
  have e2:(some (decide (rk key.1<rk (arr[base+i]'(by lia)).1))).map (!·)=some (decide (¬ rk key.1<rk (arr[base+i]'(by lia)).1)):=by
   generalize rk (arr[base+i]'(by lia)).1=x
   rw[Option.map_some]
   congr 1
   by_cases c:rk key.1<x
   ·rw[decide_eq_true c,decide_eq_false (λz=>z c)];rfl
   ·rw[decide_eq_false c,decide_eq_true c];rfl
  rw[e2]
  exact q
 ·have:=ho (base+i) (base+j) (by lia) (by lia) (by lia)
  lia
end
noncomputable def setG:Nat->SM' Unit:=sortPriv% PySem.Builtin.setMinGallop
theorem zdP_(g:Nat):setG g=modify λc=>SortSt.mk' (kindOf c) (arrOf c) (pendingOf c) g (failedOf c):=rfl
noncomputable def Uk_:Array Keyed->Array Keyed->SM' (Array Keyed):=sortPriv% PySem.Builtin.mergeLo
noncomputable def Ul_:Array Keyed->Array Keyed->SM' (Array Keyed):=sortPriv% PySem.Builtin.mergeHi
noncomputable abbrev W1:=Option (Array Keyed)×Array Keyed×Nat×Nat×Nat×Nat
noncomputable abbrev W2:=Option (Array Keyed)×Array Keyed×Nat×Nat×Nat×Nat×Nat
noncomputable abbrev W0:=Option (Array Keyed)×Array Keyed×Nat×Nat×Nat
section
variable (a b:Array Keyed)
noncomputable def fA(out:Array Keyed)(i j:Nat):Array Keyed:=out++a.extract i a.size++b.extract j b.size
noncomputable def fB(out:Array Keyed)(i j:Nat):Array Keyed:=out++b.extract j b.size++a.extract i a.size
def lS(g:Nat)(out:Array Keyed)(i j p q:Nat):SM' (ForInStep W1):=do
 let x <-elem' b j
 let y <-elem' a i
 match <-lt' x y with
 | some t =>
  if t=true then do
   let x <-elem' b j
   if(j+1==b.size)=true then pure (.done (some (fA a b (out.push x) i (j+1)),out.push x,i,j+1,0,q+1))
   else if q+1>=g then pure (.done (none,out.push x,i,j+1,0,q+1))
   else pure (.yield (none,out.push x,i,j+1,0,q+1))
  else do
   let y <-elem' a i
   if(i+1+1==a.size)=true then pure (.done (some (fB a b (out.push y) (i+1) j),out.push y,i+1,j,p+1,0))
   else if p+1>=g then pure (.done (none,out.push y,i+1,j,p+1,0))
   else pure (.yield (none,out.push y,i+1,j,p+1,0))
 | _=>pure (.done (some (fA a b out i j),out,i,j,p,q))
def l3(out:Array Keyed)(i j g p q:Nat):SM' (ForInStep W2):=do
 let y <-elem' a i
 if(i+1+1==a.size)=true then pure (.done (some (fB a b (out.push y) (i+1) j),out.push y,i+1,j,g,p,q))
 else if(decide (p<7)&&decide (q<7))=true then pure (.done (none,out.push y,i+1,j,g,p,q))
 else pure (.yield (none,out.push y,i+1,j,g,p,q))
def l2(out:Array Keyed)(i j g p q:Nat):SM' (ForInStep W2):=do
 let y <-elem' a i
 match <-jY_ true y b j (b.size - j) 0 with
 | some k =>
  if k>0 then
   if(j+k==b.size)=true then pure (.done (some (fA a b (out++b.extract j (j+k)) i (j+k)),out++b.extract j (j+k),i,j+k,g,p,k))
   else l3 a b (out++b.extract j (j+k)) i (j+k) g p k
  else l3 a b out i j g p k
 | _=>pure (.done (some (fA a b out i j),out,i,j,g,p,q))
def l1(out:Array Keyed)(i j g p q:Nat):SM' (ForInStep W2):=do
 let x <-elem' b j
 if(j+1==b.size)=true then pure (.done (some (fA a b (out.push x) i (j+1)),out.push x,i,j+1,g,p,q))
 else l2 a b (out.push x) i (j+1) g p q
def l0(out:Array Keyed)(i j g p q:Nat):SM' (ForInStep W2):=do
 setG g
 let x <-elem' b j
 match <-jY_ false x a i (a.size - i) 0 with
 | some k =>
  if k>0 then
   if(i+k+1==a.size)=true then pure (.done (some (fB a b (out++a.extract i (i+k)) (i+k) j),out++a.extract i (i+k),i+k,j,g,k,q))
   else if(i+k==a.size)=true then pure (.done (some (fA a b (out++a.extract i (i+k)) (i+k) j),out++a.extract i (i+k),i+k,j,g,k,q))
   else l1 a b (out++a.extract i (i+k)) (i+k) j g k q
  else l1 a b out i j g k q
 | _=>pure (.done (some (fA a b out i j),out,i,j,g,p,q))
def lT(out:Array Keyed)(i j g:Nat):SM' (ForInStep W0):=do
 let c <-forIn [0:a.size+b.size] ((none,out,i,j,0,0):W1) λ_ c=>lS a b g c.2.1 c.2.2.1 c.2.2.2.1 c.2.2.2.2.1 c.2.2.2.2.2
 match c.1 with
 | some r=>pure (.done (some r,c.2.1,c.2.2.1,c.2.2.2.1,g))
 | none=>do
  liftM (rule "list.sort.gallop")
  let d <-forIn [0:a.size+b.size] ((none,c.2.1,c.2.2.1,c.2.2.2.1,g+1,c.2.2.2.2.1,c.2.2.2.2.2):W2) λ_ c =>
   if c.2.2.2.2.1>1 then l0 a b c.2.1 c.2.2.1 c.2.2.2.1 (c.2.2.2.2.1 - 1) c.2.2.2.2.2.1 c.2.2.2.2.2.2
   else l0 a b c.2.1 c.2.2.1 c.2.2.2.1 c.2.2.2.2.1 c.2.2.2.2.2.1 c.2.2.2.2.2.2
  match d.1 with
  | some r=>pure (.done (some r,d.2.1,d.2.2.1,d.2.2.2.1,d.2.2.2.2.1))
  | none=>do
   setG (d.2.2.2.2.1+1)
   pure (.yield (none,d.2.1,d.2.2.1,d.2.2.2.1,d.2.2.2.2.1+1))
theorem VT_:Uk_ a b=(do
  liftM (rule "list.sort.merge-lo")
  let x <-elem' b 0
  if(1==b.size)=true then pure (fA a b #[x] 0 1)
  else if(0+1==a.size)=true then pure (fB a b #[x] 0 1)
  else do
   let st <-get
   let c <-forIn [0:a.size+b.size] ((none,#[x],0,1,gallopOf st):W0) λ_ c=>lT a b c.2.1 c.2.2.1 c.2.2.2.1 c.2.2.2.2
   match c.1 with
   | some r=>pure r
   | none=>liftM (unsupported "internal:list.sort.merge-bound" : Sem (Array Keyed))):=by
 kernel_rfl
noncomputable def hA(out:Array Keyed)(i j:Nat):Array Keyed:=a.extract 0 i++b.extract 0 j++out.reverse
noncomputable def hB(out:Array Keyed)(i j:Nat):Array Keyed:=b.extract 0 j++a.extract 0 i++out.reverse
noncomputable abbrev V1:=Option (Array Keyed)×Nat×Nat×Array Keyed×Nat×Nat
noncomputable abbrev V2:=Option (Array Keyed)×Nat×Nat×Array Keyed×Nat×Nat×Nat
noncomputable abbrev V0:=Option (Array Keyed)×Nat×Nat×Array Keyed×Nat
def hS(g:Nat)(i j:Nat)(out:Array Keyed)(p q:Nat):SM' (ForInStep V1):=do
 let x <-elem' b (j - 1)
 let y <-elem' a (i - 1)
 match <-lt' x y with
 | some t =>
  if t=true then do
   let y <-elem' a (i - 1)
   if(i - 1==0)=true then pure (.done (some (hA a b (out.push y) (i - 1) j),i - 1,j,out.push y,p+1,0))
   else if p+1>=g then pure (.done (none,i - 1,j,out.push y,p+1,0))
   else pure (.yield (none,i - 1,j,out.push y,p+1,0))
  else do
   let x <-elem' b (j - 1)
   if(j - 1==1)=true then pure (.done (some (hB a b (out.push x) i (j - 1)),i,j - 1,out.push x,0,q+1))
   else if q+1>=g then pure (.done (none,i,j - 1,out.push x,0,q+1))
   else pure (.yield (none,i,j - 1,out.push x,0,q+1))
 | _=>pure (.done (some (hA a b out i j),i,j,out,p,q))
def h3(i j:Nat)(out:Array Keyed)(g p q:Nat):SM' (ForInStep V2):=do
 let y <-elem' a (i - 1)
 if(i - 1==0)=true then pure (.done (some (hA a b (out.push y) (i - 1) j),i - 1,j,out.push y,g,p,q))
 else if(decide (p<7)&&decide (q<7))=true then pure (.done (none,i - 1,j,out.push y,g,p,q))
 else pure (.yield (none,i - 1,j,out.push y,g,p,q))
def h2(i j:Nat)(out:Array Keyed)(g p q:Nat):SM' (ForInStep V2):=do
 let y <-elem' a (i - 1)
 match <-jY_ true y b 0 j (j - 1)with
 | some x =>
  if j - x>0 then
   if(x==1)=true then pure (.done (some (hB a b (out++(b.extract x j).reverse) i x),i,x,out++(b.extract x j).reverse,g,p,j - x))
   else if(x==0)=true then pure (.done (some (hA a b (out++(b.extract x j).reverse) i x),i,x,out++(b.extract x j).reverse,g,p,j - x))
   else h3 a b i x (out++(b.extract x j).reverse) g p (j - x)
  else h3 a b i j out g p (j - x)
 | _=>pure (.done (some (hA a b out i j),i,j,out,g,p,q))
def h1(i j:Nat)(out:Array Keyed)(g p q:Nat):SM' (ForInStep V2):=do
 let x <-elem' b (j - 1)
 if(j - 1==1)=true then pure (.done (some (hB a b (out.push x) i (j - 1)),i,j - 1,out.push x,g,p,q))
 else h2 a b i (j - 1) (out.push x) g p q
def h0(i j:Nat)(out:Array Keyed)(g p q:Nat):SM' (ForInStep V2):=do
 setG g
 let x <-elem' b (j - 1)
 match <-jY_ false x a 0 i (i - 1)with
 | some x =>
  if i - x>0 then
   if(x==0)=true then pure (.done (some (hA a b (out++(a.extract x i).reverse) x j),x,j,out++(a.extract x i).reverse,g,i - x,q))
   else h1 a b x j (out++(a.extract x i).reverse) g (i - x) q
  else h1 a b i j out g (i - x) q
 | _=>pure (.done (some (hA a b out i j),i,j,out,g,p,q))
def hT(i j:Nat)(out:Array Keyed)(g:Nat):SM' (ForInStep V0):=do
 let c <-forIn [0:a.size+b.size] ((none,i,j,out,0,0):V1) λ_ c=>hS a b g c.2.1 c.2.2.1 c.2.2.2.1 c.2.2.2.2.1 c.2.2.2.2.2
 match c.1 with
 | some r=>pure (.done (some r,c.2.1,c.2.2.1,c.2.2.2.1,g))
 | none=>do
  liftM (rule "list.sort.gallop")
  let d <-forIn [0:a.size+b.size] ((none,c.2.1,c.2.2.1,c.2.2.2.1,g+1,c.2.2.2.2.1,c.2.2.2.2.2):V2) λ_ c =>
   if c.2.2.2.2.1>1 then h0 a b c.2.1 c.2.2.1 c.2.2.2.1 (c.2.2.2.2.1 - 1) c.2.2.2.2.2.1 c.2.2.2.2.2.2
   else h0 a b c.2.1 c.2.2.1 c.2.2.2.1 c.2.2.2.2.1 c.2.2.2.2.2.1 c.2.2.2.2.2.2
  match d.1 with
  | some r=>pure (.done (some r,d.2.1,d.2.2.1,d.2.2.2.1,d.2.2.2.2.1))
  | none=>do
   setG (d.2.2.2.2.1+1)
   pure (.yield (none,d.2.1,d.2.2.1,d.2.2.2.1,d.2.2.2.2.1+1))
theorem VV_:Ul_ a b=(do
  liftM (rule "list.sort.merge-hi")
  let x <-elem' a (a.size - 1)
  if(a.size - 1==0)=true then pure (hA a b #[x] (a.size - 1) b.size)
  else if(b.size==1)=true then pure (hB a b #[x] (a.size - 1) b.size)
  else do
   let st <-get
   let c <-forIn [0:a.size+b.size] ((none,a.size - 1,b.size,#[x],gallopOf st):V0) λ_ c=>hT a b c.2.1 c.2.2.1 c.2.2.2.1 c.2.2.2.2
   match c.1 with
   | some r=>pure r
   | none=>liftM (unsupported "internal:list.sort.merge-bound" : Sem (Array Keyed))):=by
 kernel_rfl
end
section
variable {rk:Value->Int}
abbrev Le(rk:Value->Int)(x y:Keyed):Prop:=rk x.1<=rk y.1
structure Gd(rk:Value->Int)(T O A B:List Keyed):Prop where
 so:O.Pairwise (Le rk)
 sa:A.Pairwise (Le rk)
 sb:B.Pairwise (Le rk)
 ah:∀x∈O,∀y,y∈A\/y∈B->Le rk x y
 pm:(O++(A++B)).Perm T
def Srt(rk:Value->Int)(T r:List Keyed):Prop:=r.Pairwise (Le rk)/\r.Perm T
theorem Gd.a{T O S A B:List Keyed}(h:Gd rk T O (S++A) B)(hs:∀x∈S,∀y∈B,Le rk x y):Gd rk T (O++S) A B:=by
 have sa:=List.pairwise_append.mp h.sa
 refine⟨List.pairwise_append.mpr ⟨h.so,sa.1,λx hx y hy=>h.ah x hx y (.inl (List.mem_append_left _ hy))⟩,sa.2.1,h.sb,λx hx y hy=>?_,by simpa[List.append_assoc]using h.pm⟩
 rcases List.mem_append.mp hx with hx|hx
 ·exact h.ah x hx y (hy.imp (List.mem_append_right _) id)
 ·rcases hy with hy|hy
  ·exact sa.2.2 x hx y hy
  ·exact hs x hx y hy
theorem Gd.flip{T O A B:List Keyed}(h:Gd rk T O A B):Gd rk T O B A :=
 ⟨h.so,h.sb,h.sa,λx hx y hy=>h.ah x hx y hy.symm,((List.perm_append_comm (l₁:=B)).append_left O).trans h.pm⟩
theorem Gd.b{T O S A B:List Keyed}(h:Gd rk T O A (S++B))(hs:∀x∈S,∀y∈A,Le rk x y):Gd rk T (O++S) A B:=(h.flip.a hs).flip
theorem Gd.fa{T O A B:List Keyed}(h:Gd rk T O A B)(hs:∀x∈A,∀y∈B,Le rk x y):Srt rk T (O++A++B):=by
 refine⟨?_,by rw[List.append_assoc];exact h.pm⟩
 rw[List.append_assoc]
 exact List.pairwise_append.mpr ⟨h.so,List.pairwise_append.mpr ⟨h.sa,h.sb,hs⟩,λx hx y hy=>h.ah x hx y (List.mem_append.mp hy)⟩
theorem Gd.fb{T O A B:List Keyed}(h:Gd rk T O A B)(hs:∀x∈B,∀y∈A,Le rk x y):Srt rk T (O++B++A):=h.flip.fa hs
abbrev Ga(rk:Value->Int)(T:List Keyed)(a b out:Array Keyed)(i j:Nat):Prop:=Gd rk T out.toList (a.toList.drop i) (b.toList.drop j)
theorem zff_{a:Array Keyed}{i:Nat}(h:i<a.size):a.toList.drop i=[a[i]]++a.toList.drop (i+1):=by
 rw[List.drop_eq_getElem_cons (by simpa using h)]
 simp
theorem zce_{a:Array Keyed}{i k:Nat}:a.toList.drop i=(a.extract i (i+k)).toList++a.toList.drop (i+k):=by
 rw[Array.toList_extract,List.extract_eq_take_drop,Nat.add_sub_cancel_left,<-List.drop_drop,List.take_append_drop]
theorem Zp_{a:Array Keyed}{i:Nat}{x:Keyed}(h:x∈a.toList.drop i):∃t,i<=t/\t<a.size/\kr rk a t=rk x.1:=by
 obtain⟨n,hn,e⟩:=List.mem_iff_getElem.mp h
 have hl:i+n<a.size:=by
  rw[List.length_drop]at hn
  have:a.toList.length=a.size:=Array.length_toList
  lia
 refine⟨i+n,by lia,hl,jc_ ?_⟩
 rw[List.getElem_drop]at e
 rw[Array.getElem?_eq_getElem hl,<-e]
 simp
theorem zeJ_{a:Array Keyed}{i k:Nat}{x:Keyed}(h:x∈(a.extract i (i+k)).toList):∃t,i<=t/\t<i+k/\t<a.size/\kr rk a t=rk x.1:=by
 obtain⟨n,hn,e⟩:=List.mem_iff_getElem.mp h
 have hn':n<(a.extract i (i+k)).size:=by rw[<-Array.length_toList];exact hn
 rw[Array.size_extract]at hn'
 refine⟨i+n,by lia,by lia,by lia,jc_ ?_⟩
 rw[Array.getElem?_eq_getElem (by lia),<-e]
 simp
theorem uE_{a:Array Keyed}(h:Asc rk a 0 a.size):a.toList.Pairwise (Le rk):=by
 rw[List.pairwise_iff_getElem]
 intro i j hi hj hij
 have hi':i<a.size:=by simpa using hi
 have hj':j<a.size:=by simpa using hj
 have:=h i j (Nat.zero_le _) (Nat.le_of_lt hij) hj'
 rw[jc_ (Array.getElem?_eq_getElem hi'),jc_ (Array.getElem?_eq_getElem hj')]at this
 simpa using this
theorem Qz_(a b out:Array Keyed)(i j:Nat):(fA a b out i j).toList=out.toList++a.toList.drop i++b.toList.drop j:=by
 unfold fA
 rw[Array.toList_append,Array.toList_append,Array.toList_extract,Array.toList_extract,List.extract_eq_take_drop,List.extract_eq_take_drop,List.take_of_length_le (by simp),List.take_of_length_le (by simp)]
theorem zfc_(a b out:Array Keyed)(i j:Nat):(fB a b out i j).toList=out.toList++b.toList.drop j++a.toList.drop i:=Qz_ b a out j i
end
section
variable {prog:Program}{w:World}{A:Around}{E:Value->Shared->Prop}{s:Shared}{κ:SortKind}{rk:Value->Int}{a₀:Array Keyed}
structure Two(rk:Value->Int)(a₀ a b:Array Keyed):Prop where
 sa:Asc rk a 0 a.size
 sb:Asc rk b 0 b.size
 ma:∀p∈a.toList,p∈a₀.toList
 mb:∀p∈b.toList,p∈a₀.toList
 na:1<=a.size
 nb:1<=b.size
 lo:∀i,i<a.size->kr rk b 0<=kr rk a i
 hi:∀j,j<b.size->kr rk b j<=kr rk a (a.size - 1)
structure S0(κ:SortKind)(X:Array Keyed)(P:Runs)(st:SortSt):Prop where
 kd:kindOf st=κ
 ar:arrOf st=X
 pe:pendingOf st=P
 fl:failedOf st=none
variable {a b X:Array Keyed}{P:Runs}
structure Mid(rk:Value->Int)(a b out:Array Keyed)(i j:Nat):Prop where
 g:Ga rk (a.toList++b.toList) a b out i j
 hi:i+2<=a.size
 hj:j+1<=b.size
def Res(κ:SortKind)(rk:Value->Int)(a b X:Array Keyed)(P:Runs)(r:Array Keyed)(st:SortSt):Prop:=S0 κ X P st/\Srt rk (a.toList++b.toList) r.toList
theorem Ga.pb{T:List Keyed}{out:Array Keyed}{i j:Nat}(g:Ga rk T a b out i j)(hj:j<b.size)(h:∀t,i<=t->t<a.size->kr rk b j<=kr rk a t):Ga rk T a b (out.push b[j]) i (j+1):=by
 have g':Gd rk T out.toList (a.toList.drop i) (b.toList.drop j):=g
 rw[zff_ hj]at g'
 show Gd rk T (out.push b[j]).toList _ _
 rw[Array.toList_push]
 refine g'.b λx hx y hy=>?_
 obtain⟨t,t1,t2,e⟩:=Zp_ (rk:=rk) hy
 rw[List.mem_singleton.mp hx]
 have:=h t t1 t2
 rw[e,jc_ (Array.getElem?_eq_getElem hj)]at this
 exact this
theorem Ga.pa{T:List Keyed}{out:Array Keyed}{i j:Nat}(g:Ga rk T a b out i j)(hi:i<a.size)(h:∀t,j<=t->t<b.size->kr rk a i<=kr rk b t):Ga rk T a b (out.push a[i]) (i+1) j :=
 Gd.flip (Ga.pb (a:=b) (b:=a) (i:=j) (j:=i) (Gd.flip g) hi h)
theorem Ga.eb{T:List Keyed}{out:Array Keyed}{i j k:Nat}(g:Ga rk T a b out i j)(h:∀t u,j<=t->t<j+k->i<=u->u<a.size->kr rk b t<=kr rk a u):Ga rk T a b (out++b.extract j (j+k)) i (j+k):=by
 have g':Gd rk T out.toList (a.toList.drop i) (b.toList.drop j):=g
 rw[zce_ (a:=b) (i:=j) (k:=k)]at g'
 show Gd rk T (out++b.extract j (j+k)).toList _ _
 rw[Array.toList_append]
 refine g'.b λx hx y hy=>?_
 obtain⟨t,t1,t2,_,e⟩:=zeJ_ (rk:=rk) hx
 obtain⟨u,u1,u2,e2⟩:=Zp_ (rk:=rk) hy
 have:=h t u t1 t2 u1 u2
 rw[e,e2]at this
 exact this
theorem Ga.ea{T:List Keyed}{out:Array Keyed}{i j k:Nat}(g:Ga rk T a b out i j)(h:∀t u,i<=t->t<i+k->j<=u->u<b.size->kr rk a t<=kr rk b u):Ga rk T a b (out++a.extract i (i+k)) (i+k) j :=
 Gd.flip (Ga.eb (a:=b) (b:=a) (i:=j) (j:=i) (Gd.flip g) h)
theorem Ga.eB{T:List Keyed}{out:Array Keyed}{i j:Nat}(g:Ga rk T a b out i j)(hj:b.size<=j):Srt rk T (fA a b out i j).toList:=by
 rw[Qz_]
 refine Gd.fa g λx _ y hy=>?_
 rw[List.drop_eq_nil_of_le (by simpa using hj)]at hy
 cases hy
theorem Ga.eA{T:List Keyed}{out:Array Keyed}{i j:Nat}(g:Ga rk T a b out i j)(hi:a.size<=i):Srt rk T (fA a b out i j).toList:=by
 rw[Qz_]
 refine Gd.fa g λx hx y _=>?_
 rw[List.drop_eq_nil_of_le (by simpa using hi)]at hx
 cases hx
theorem Ga.eL{T:List Keyed}{out:Array Keyed}{i j:Nat}(g:Ga rk T a b out i j)(tw:Two rk a₀ a b)(hi:i+1=a.size):Srt rk T (fB a b out i j).toList:=by
 rw[zfc_]
 refine Gd.fb g λx hx y hy=>?_
 obtain⟨t,t1,t2,e⟩:=Zp_ (rk:=rk) hx
 obtain⟨u,u1,u2,e2⟩:=Zp_ (rk:=rk) hy
 have:=tw.hi t t2
 rw[e,show a.size - 1=u by lia,e2]at this
 exact this
theorem J5_{g:Nat}{st:SortSt}{Q:Unit->SortSt->Prop}(h:S0 κ X P st)(q:∀st',S0 κ X P st'->Q () st'):wpS (model prog w) A E s (setG g) Q st:=by
 rw[zdP_]
 exact wpS_modify (q _ ⟨h.kd,h.ar,h.pe,h.fl⟩)
theorem ziM_{g:Nat}{out:Array Keyed}{i j p q:Nat}{st:SortSt}{Q:ForInStep W1->SortSt->Prop}(hC:Cmps prog w A s κ rk a₀)(tw:Two rk a₀ a b)(h:S0 κ X P st)(m:Mid rk a b out i j)
  (q1:∀r o i j p q,Res κ rk a b X P r st->Q (.done (some r,o,i,j,p,q)) st) (q2:∀o i' j' p q,Mid rk a b o i' j'->i'+j'=i+j+1->Q (.done (none,o,i',j',p,q)) st/\Q (.yield (none,o,i',j',p,q)) st) :
  wpS (model prog w) A E s (lS a b g out i j p q) Q st:=by
 have hi:=m.hi
 have hj:=m.hj
 have ea:a[i]? = some (a[i]'(by lia)):=Array.getElem?_eq_getElem _
 have eb:b[j]? = some (b[j]'(by lia)):=Array.getElem?_eq_getElem _
 unfold lS
 refine wpS_bind (jl_ eb (wpS_bind (jl_ ea (wpS_bind (Xs_ hC h.kd (tw.mb _ (by simp)) (tw.ma _ (by simp)) ?_)))))
 by_cases c:rk (b[j]'(by lia)).1<rk (a[i]'(by lia)).1
 ·rw[decide_eq_true c]
  dsimp only
  rw[if_pos rfl]
  have g':=Ga.pb m.g (show j<b.size by lia) λt t1 t2=>by
   have:=tw.sa i t (Nat.zero_le _) t1 t2
   rw[jc_ ea]at this
   rw[jc_ eb]
   lia
  refine wpS_bind (jl_ eb ?_)
  split
  ·rename_i z
   have z':j+1=b.size:=by simpa using z
   exact wpS_pure (q1 _ _ _ _ _ _ ⟨h,g'.eB (by lia)⟩)
  ·rename_i z
   have z':j+1≠b.size:=by simpa using z
   have:=q2 (out.push (b[j]'(by lia))) i (j+1) 0 (q+1) ⟨g',hi,by lia⟩ (by lia)
   split
   ·exact wpS_pure this.1
   ·exact wpS_pure this.2
 ·rw[decide_eq_false c]
  dsimp only
  rw[if_neg (by decide)]
  have g':=Ga.pa m.g (show i<a.size by lia) λt t1 t2=>by
   have:=tw.sb j t (Nat.zero_le _) t1 t2
   rw[jc_ eb]at this
   rw[jc_ ea]
   lia
  refine wpS_bind (jl_ ea ?_)
  split
  ·rename_i z
   have z':i+1+1=a.size:=by simpa using z
   exact wpS_pure (q1 _ _ _ _ _ _ ⟨h,g'.eL tw z'⟩)
  ·rename_i z
   have z':i+1+1≠a.size:=by simpa using z
   have:=q2 (out.push (a[i]'(by lia))) (i+1) j (p+1) 0 ⟨g',by lia,hj⟩ (by lia)
   split
   ·exact wpS_pure this.1
   ·exact wpS_pure this.2
end
section
variable {prog:Program}{w:World}{A:Around}{E:Value->Shared->Prop}{s:Shared}{κ:SortKind}{rk:Value->Int}{a₀ a b X:Array Keyed}{P:Runs}
structure Lp(κ:SortKind)(rk:Value->Int)(a b X:Array Keyed)(P:Runs)(n:Nat)(Q:ForInStep W2->SortSt->Prop):Prop where
 r:∀r o i j g p q st,Res κ rk a b X P r st->Q (.done (some r,o,i,j,g,p,q)) st
 d:∀o i j g p q st,Mid rk a b o i j->n<=i+j->S0 κ X P st->Q (.done (none,o,i,j,g,p,q)) st
 y:∀o i j g p q st,Mid rk a b o i j->n<=i+j->S0 κ X P st->Q (.yield (none,o,i,j,g,p,q)) st
theorem zhf_{out:Array Keyed}{i j g p q n:Nat}{st:SortSt}{Q:ForInStep W2->SortSt->Prop}(tw:Two rk a₀ a b)(h:S0 κ X P st)(m:Mid rk a b out i j)(hn:n<=i+j)(ha:∀t,j<=t->t<b.size->kr rk a i<=kr rk b t)(L:Lp κ rk a b X P n Q) :
  wpS (model prog w) A E s (l3 a b out i j g p q) Q st:=by
 have hi:=m.hi
 have hj:=m.hj
 have ea:a[i]? = some (a[i]'(by lia)):=Array.getElem?_eq_getElem _
 unfold l3
 have g':=Ga.pa m.g (show i<a.size by lia) ha
 refine wpS_bind (jl_ ea ?_)
 split
 ·rename_i z
  have z':i+1+1=a.size:=by simpa using z
  exact wpS_pure (L.r _ _ _ _ _ _ _ _ ⟨h,g'.eL tw z'⟩)
 ·rename_i z
  have z':i+1+1≠a.size:=by simpa using z
  split
  ·exact wpS_pure (L.d _ _ _ _ _ _ _ ⟨g',by lia,hj⟩ (by lia) h)
  ·exact wpS_pure (L.y _ _ _ _ _ _ _ ⟨g',by lia,hj⟩ (by lia) h)
theorem ziN_{out:Array Keyed}{i j g p q n:Nat}{st:SortSt}{Q:ForInStep W2->SortSt->Prop}(hC:Cmps prog w A s κ rk a₀)(tw:Two rk a₀ a b)(h:S0 κ X P st)(m:Mid rk a b out i j)(hn:n<=i+j)(L:Lp κ rk a b X P n Q) :
  wpS (model prog w) A E s (l2 a b out i j g p q) Q st:=by
 have hi:=m.hi
 have hj:=m.hj
 have ea:a[i]? = some (a[i]'(by lia)):=Array.getElem?_eq_getElem _
 unfold l2
 refine wpS_bind (jl_ ea (wpS_bind (yP_ hC h.kd (tw.ma _ (by simp)) (by lia) tw.mb (λx y hx hxy hy=>tw.sb x y (Nat.zero_le _) hxy (by lia)) (by lia) λk k1 k2 k3=>?_)))
 rw[<-jc_ (rk:=rk) ea]at k2 k3
 have rest:∀t,j+k<=t->t<b.size->kr rk a i<=kr rk b t:=λt t1 t2=>by
  have:=k3 (t - j) (by lia) (by lia)
  rwa [show j+(t - j)=t by lia]at this
 dsimp only
 split
 ·have g':=Ga.eb (k:=k) m.g λt u t1 t2 u1 u2=>by
   have h1:=k2 (t - j) (by lia)
   rw[show j+(t - j)=t by lia]at h1
   have h2:=tw.sa i u (Nat.zero_le _) u1 u2
   lia
  split
  ·rename_i z
   have z':j+k=b.size:=by simpa using z
   exact wpS_pure (L.r _ _ _ _ _ _ _ _ ⟨h,g'.eB (by lia)⟩)
  ·rename_i z
   have z':j+k≠b.size:=by simpa using z
   exact zhf_ tw h ⟨g',hi,by lia⟩ (by lia) rest L
 ·have k0:k=0:=by lia
  subst k0
  exact zhf_ tw h m hn (λt t1 t2=>rest t (by lia) t2) L
theorem zhg_{out:Array Keyed}{i j g p q n:Nat}{st:SortSt}{Q:ForInStep W2->SortSt->Prop}(hC:Cmps prog w A s κ rk a₀)(tw:Two rk a₀ a b)(h:S0 κ X P st)(m:Mid rk a b out i j)(hn:n<=i+j)(hb:∀t,i<=t->t<a.size->kr rk b j<=kr rk a t)(L:Lp κ rk a b X P n Q) :
  wpS (model prog w) A E s (l1 a b out i j g p q) Q st:=by
 have hi:=m.hi
 have hj:=m.hj
 have eb:b[j]? = some (b[j]'(by lia)):=Array.getElem?_eq_getElem _
 unfold l1
 have g':=Ga.pb m.g (show j<b.size by lia) hb
 refine wpS_bind (jl_ eb ?_)
 split
 ·rename_i z
  have z':j+1=b.size:=by simpa using z
  exact wpS_pure (L.r _ _ _ _ _ _ _ _ ⟨h,g'.eB (by lia)⟩)
 ·rename_i z
  have z':j+1≠b.size:=by simpa using z
  exact ziN_ hC tw h ⟨g',hi,by lia⟩ (by lia) L
theorem zhh_{out:Array Keyed}{i j g p q n:Nat}{st:SortSt}{Q:ForInStep W2->SortSt->Prop}(hC:Cmps prog w A s κ rk a₀)(tw:Two rk a₀ a b)(h:S0 κ X P st)(m:Mid rk a b out i j)(hn:n<=i+j)(L:Lp κ rk a b X P n Q) :
  wpS (model prog w) A E s (l0 a b out i j g p q) Q st:=by
 have hi:=m.hi
 have hj:=m.hj
 have eb:b[j]? = some (b[j]'(by lia)):=Array.getElem?_eq_getElem _
 unfold l0
 refine wpS_bind (J5_ h λst' h'=>?_)
 refine wpS_bind (jl_ eb (wpS_bind (yO_ hC h'.kd (tw.mb _ (by simp)) (by lia) tw.ma (λx y hx hxy hy=>tw.sa x y (Nat.zero_le _) hxy (by lia)) (by lia) λk k1 k2 k3=>?_)))
 rw[<-jc_ (rk:=rk) eb]at k2 k3
 have rest:∀t,i+k<=t->t<a.size->kr rk b j<=kr rk a t:=λt t1 t2=>by
  have:=k3 (t - i) (by lia) (by lia)
  rw[show i+(t - i)=t by lia]at this
  lia
 dsimp only
 split
 ·have g':=Ga.ea (k:=k) m.g λt u t1 t2 u1 u2=>by
   have h1:=k2 (t - i) (by lia)
   rw[show i+(t - i)=t by lia]at h1
   have h2:=tw.sb j u (Nat.zero_le _) u1 u2
   lia
  split
  ·rename_i z
   have z':i+k+1=a.size:=by simpa using z
   exact wpS_pure (L.r _ _ _ _ _ _ _ _ ⟨h',g'.eL tw z'⟩)
  ·rename_i z
   have z':i+k+1≠a.size:=by simpa using z
   split
   ·rename_i y
    have y':i+k=a.size:=by simpa using y
    exact wpS_pure (L.r _ _ _ _ _ _ _ _ ⟨h',g'.eA (by lia)⟩)
   ·rename_i y
    have y':i+k≠a.size:=by simpa using y
    exact zhg_ hC tw h' ⟨g',by lia,hj⟩ (by lia) rest L
 ·have k0:k=0:=by lia
  subst k0
  exact zhg_ hC tw h' m hn (λt t1 t2=>rest t (by lia) t2) L
theorem ziL_{out:Array Keyed}{i j g:Nat}{st:SortSt}{Q:ForInStep W0->SortSt->Prop}(hC:Cmps prog w A s κ rk a₀)(tw:Two rk a₀ a b)(h:S0 κ X P st)(m:Mid rk a b out i j)
  (q1:∀r o i j g st,Res κ rk a b X P r st->Q (.done (some r,o,i,j,g)) st) (q2:∀o i' j' g st,Mid rk a b o i' j'->i+j+1<=i'+j'->S0 κ X P st->Q (.yield (none,o,i',j',g)) st) :
  wpS (model prog w) A E s (lT a b out i j g) Q st:=by
 unfold lT
 have hz:1<=a.size+b.size:=by have:=tw.na;lia
 refine wpS_bind (wpS_mono (wpS_forRange (I:=λx c st'=>st'=st/\∃o i' j' p q,c=(none,o,i',j',p,q)/\Mid rk a b o i' j'/\i'+j'=i+j+x)
  (Q:=λc st'=>st'=st/\((∃r o i' j' p q,c=(some r,o,i',j',p,q)/\Res κ rk a b X P r st)\/∃o i' j' p q,c=(none,o,i',j',p,q)/\Mid rk a b o i' j'/\i+j+1<=i'+j'))
  (λx c st' _ hx I=>?_) (λc st' I=>?_) ⟨rfl,out,i,j,0,0,rfl,m,rfl⟩) λc st' I=>?_)
 ·obtain⟨rfl,o,i',j',p,q,rfl,m',e⟩:=I
  dsimp only
  exact ziM_ hC tw h m' (λr o i j p q hr=>⟨rfl,.inl ⟨r,o,i,j,p,q,rfl,hr⟩⟩) λo i2 j2 p q m2 e2=>⟨⟨rfl,.inr ⟨o,i2,j2,p,q,rfl,m2,by lia⟩⟩,⟨rfl,o,i2,j2,p,q,rfl,m2,by lia⟩⟩
 ·obtain⟨rfl,o,i',j',p,q,rfl,m',e⟩:=I
  exact⟨rfl,.inr ⟨o,i',j',p,q,rfl,m',by lia⟩⟩
 ·obtain⟨rfl,⟨r,o,i',j',p,q,rfl,hr⟩|⟨o,i',j',p,q,rfl,m',e⟩⟩:=I
  ·exact wpS_pure (q1 _ _ _ _ _ _ hr)
  ·dsimp only
   refine wpS_bind (wpS_lift (wpAny_rule ⟨rfl,?_⟩))
   refine wpS_bind (wpS_mono (wpS_forRange (I:=λx c st'=>S0 κ X P st'/\∃o i' j' g p q,c=(none,o,i',j',g,p,q)/\Mid rk a b o i' j'/\i+j+1<=i'+j')
    (Q:=λc st'=>(∃r o i' j' g p q,c=(some r,o,i',j',g,p,q)/\Res κ rk a b X P r st')\/(S0 κ X P st'/\∃o i' j' g p q,c=(none,o,i',j',g,p,q)/\Mid rk a b o i' j'/\i+j+1<=i'+j'))
    (λx c st2 _ hx I=>?_) (λc st2 I=>.inr I) ⟨h,o,i',j',g+1,p,q,rfl,m',e⟩) λc st2 I=>?_)
   ·obtain⟨h2,o,i2,j2,g2,p,q,rfl,m2,e2⟩:=I
    dsimp only
    split
    ·exact zhh_ hC tw h2 m2 e2 ⟨λr o i j g p q st hr=>.inl ⟨r,o,i,j,g,p,q,rfl,hr⟩,λo i j g p q st m e h=>.inr ⟨h,o,i,j,g,p,q,rfl,m,e⟩,λo i j g p q st m e h=>⟨h,o,i,j,g,p,q,rfl,m,e⟩⟩
    ·exact zhh_ hC tw h2 m2 e2 ⟨λr o i j g p q st hr=>.inl ⟨r,o,i,j,g,p,q,rfl,hr⟩,λo i j g p q st m e h=>.inr ⟨h,o,i,j,g,p,q,rfl,m,e⟩,λo i j g p q st m e h=>⟨h,o,i,j,g,p,q,rfl,m,e⟩⟩
   ·rcases I with ⟨r,o,i2,j2,g2,p,q,rfl,hr⟩|⟨h2,o,i2,j2,g2,p,q,rfl,m2,e2⟩
    ·exact wpS_pure (q1 _ _ _ _ _ _ hr)
    ·exact wpS_bind (J5_ h2 λst3 h3=>wpS_pure (q2 _ _ _ _ _ m2 e2 h3))
theorem VS_{st:SortSt}{Q:Array Keyed->SortSt->Prop}(hC:Cmps prog w A s κ rk a₀)(tw:Two rk a₀ a b)(h:S0 κ X P st)(q:∀r st',Res κ rk a b X P r st'->Q r st'):wpS (model prog w) A E s (Uk_ a b) Q st:=by
 have na:=tw.na
 have nb:=tw.nb
 have eb:b[0]? = some (b[0]'(by lia)):=Array.getElem?_eq_getElem _
 rw[VT_]
 have g0:Ga rk (a.toList++b.toList) a b #[] 0 0:=⟨.nil,by simpa using uE_ tw.sa,by simpa using uE_ tw.sb,(λx hx=>by simp at hx),by simp⟩
 have g1:=Ga.pb g0 (show 0<b.size by lia) λt _ t2=>tw.lo t t2
 refine wpS_bind (wpS_lift (wpAny_rule ⟨rfl,wpS_bind (jl_ eb ?_)⟩))
 split
 ·rename_i z
  have z':1=b.size:=by simpa using z
  exact wpS_pure (q _ _ ⟨h,g1.eB (by lia)⟩)
 ·rename_i z
  have z':1≠b.size:=by simpa using z
  split
  ·rename_i y
   have y':0+1=a.size:=by simpa using y
   exact wpS_pure (q _ _ ⟨h,g1.eL tw y'⟩)
  ·rename_i y
   have y':0+1≠a.size:=by simpa using y
   refine wpS_bind (wpS_get ?_)
   refine wpS_bind (wpS_mono (wpS_forRange (I:=λx c st'=>S0 κ X P st'/\∃o i j g,c=(none,o,i,j,g)/\Mid rk a b o i j/\x+1<=i+j)
    (Q:=λc st'=>∃r o i j g,c=(some r,o,i,j,g)/\Res κ rk a b X P r st') (λx c st' _ hx I=>?_) (λc st' I=>?_) ⟨h,_,0,1,_,rfl,⟨g1,by lia,by lia⟩,by lia⟩) λc st' I=>?_)
   ·obtain⟨h',o,i,j,g,rfl,m,e⟩:=I
    dsimp only
    exact ziL_ hC tw h' m (λr o i j g st hr=>⟨r,o,i,j,g,rfl,hr⟩) λo i2 j2 g st m2 e2 h2=>⟨h2,o,i2,j2,g,rfl,m2,by lia⟩
   ·obtain⟨h',o,i,j,g,rfl,m,e⟩:=I
    have:=m.hi
    have:=m.hj
    lia
   ·obtain⟨r,o,i,j,g,rfl,hr⟩:=I
    exact wpS_pure (q _ _ hr)
end
section
variable {rk:Value->Int}
structure Gh(rk:Value->Int)(T A B O:List Keyed):Prop where
 so:O.Pairwise (Le rk)
 sa:A.Pairwise (Le rk)
 sb:B.Pairwise (Le rk)
 ah:∀x∈O,∀y,y∈A\/y∈B->Le rk y x
 pm:((A++B)++O).Perm T
theorem Gh.flip{T O A B:List Keyed}(h:Gh rk T A B O):Gh rk T B A O :=
 ⟨h.so,h.sb,h.sa,λx hx y hy=>h.ah x hx y hy.symm,((List.perm_append_comm (l₁:=B)).append_right O).trans h.pm⟩
theorem Gh.b{T O S A B:List Keyed}(h:Gh rk T A (B++S) O)(hs:∀x∈S,∀y∈A,Le rk y x):Gh rk T A B (S++O):=by
 have sb:=List.pairwise_append.mp h.sb
 refine⟨List.pairwise_append.mpr ⟨sb.2.1,h.so,λx hx y hy=>h.ah y hy x (.inr (List.mem_append_right _ hx))⟩,h.sa,sb.1,λx hx y hy=>?_,by simpa[List.append_assoc]using h.pm⟩
 rcases List.mem_append.mp hx with hx|hx
 ·rcases hy with hy|hy
  ·exact hs x hx y hy
  ·exact sb.2.2 y hy x hx
 ·exact h.ah x hx y (hy.imp id (List.mem_append_left _))
theorem Gh.fa{T O A B:List Keyed}(h:Gh rk T A B O)(hs:∀x∈A,∀y∈B,Le rk x y):Srt rk T (A++B++O) :=
 ⟨List.pairwise_append.mpr ⟨List.pairwise_append.mpr ⟨h.sa,h.sb,hs⟩,h.so,λx hx y hy=>h.ah y hy x (List.mem_append.mp hx)⟩,h.pm⟩
abbrev Gq(rk:Value->Int)(T:List Keyed)(a b out:Array Keyed)(i j:Nat):Prop:=Gh rk T (a.toList.take i) (b.toList.take j) out.toList.reverse
theorem zdI_{a:Array Keyed}{i:Nat}(h:i<a.size):a.toList.take (i+1)=a.toList.take i++[a[i]]:=by
 rw[List.take_succ_eq_append_getElem (by simpa using h)]
 simp
theorem zaK_{a:Array Keyed}{x i:Nat}(h:x<=i):a.toList.take i=a.toList.take x++(a.extract x i).toList:=by
 rw[Array.toList_extract,List.extract_eq_take_drop]
 have e:i=x+(i - x):=by lia
 conv=>lhs;rw[e,List.take_add]
theorem Zo_{a:Array Keyed}{i:Nat}{x:Keyed}(h:x∈a.toList.take i):∃t,t<i/\t<a.size/\kr rk a t=rk x.1:=by
 obtain⟨n,hn,e⟩:=List.mem_iff_getElem.mp h
 have hl:n<i/\n<a.size:=by
  rw[List.length_take]at hn
  have:a.toList.length=a.size:=Array.length_toList
  lia
 refine⟨n,hl.1,hl.2,jc_ ?_⟩
 rw[List.getElem_take]at e
 rw[Array.getElem?_eq_getElem hl.2,<-e]
 simp
theorem Um_{a:Array Keyed}{i x:Nat}{p:Keyed}(h:p∈(a.extract x i).toList):∃t,x<=t/\t<i/\t<a.size/\kr rk a t=rk p.1:=by
 obtain⟨n,hn,e⟩:=List.mem_iff_getElem.mp h
 have hn':n<(a.extract x i).size:=by rw[<-Array.length_toList];exact hn
 rw[Array.size_extract]at hn'
 refine⟨x+n,by lia,by lia,by lia,jc_ ?_⟩
 rw[Array.getElem?_eq_getElem (by lia),<-e]
 simp
theorem Qu_(a b out:Array Keyed)(i j:Nat):(hA a b out i j).toList=a.toList.take i++b.toList.take j++out.toList.reverse:=by
 unfold hA
 rw[Array.toList_append,Array.toList_append,Array.toList_extract,Array.toList_extract,List.extract_eq_take_drop,List.extract_eq_take_drop,Array.toList_reverse]
 simp
end
section
variable {prog:Program}{w:World}{A:Around}{E:Value->Shared->Prop}{s:Shared}{κ:SortKind}{rk:Value->Int}{a₀ a b X:Array Keyed}{P:Runs}
theorem Gq.pb{T:List Keyed}{out:Array Keyed}{i j:Nat}(g:Gq rk T a b out i (j+1))(hj:j<b.size)(h:∀t,t<i->t<a.size->kr rk a t<=kr rk b j):Gq rk T a b (out.push b[j]) i j:=by
 have g':Gh rk T (a.toList.take i) (b.toList.take (j+1)) out.toList.reverse:=g
 rw[zdI_ hj]at g'
 show Gh rk T _ _ (out.push b[j]).toList.reverse
 rw[Array.toList_push,List.reverse_append]
 refine g'.b λx hx y hy=>?_
 obtain⟨t,t1,t2,e⟩:=Zo_ (rk:=rk) hy
 rw[List.mem_singleton.mp hx]
 have:=h t t1 t2
 rw[e,jc_ (Array.getElem?_eq_getElem hj)]at this
 exact this
theorem Gq.pa{T:List Keyed}{out:Array Keyed}{i j:Nat}(g:Gq rk T a b out (i+1) j)(hi:i<a.size)(h:∀t,t<j->t<b.size->kr rk b t<=kr rk a i):Gq rk T a b (out.push a[i]) i j :=
 Gh.flip (Gq.pb (a:=b) (b:=a) (i:=j) (j:=i) (Gh.flip g) hi h)
theorem Gq.eb{T:List Keyed}{out:Array Keyed}{i j x:Nat}(g:Gq rk T a b out i j)(hx:x<=j)(h:∀t u,x<=t->t<j->u<i->u<a.size->kr rk a u<=kr rk b t):Gq rk T a b (out++(b.extract x j).reverse) i x:=by
 have g':Gh rk T (a.toList.take i) (b.toList.take j) out.toList.reverse:=g
 rw[zaK_ (a:=b) hx]at g'
 show Gh rk T _ _ (out++(b.extract x j).reverse).toList.reverse
 rw[Array.toList_append,List.reverse_append,Array.toList_reverse,List.reverse_reverse]
 refine g'.b λx hx y hy=>?_
 obtain⟨t,t1,t2,_,e⟩:=Um_ (rk:=rk) hx
 obtain⟨u,u1,u2,e2⟩:=Zo_ (rk:=rk) hy
 have:=h t u t1 t2 u1 u2
 rw[e,e2]at this
 exact this
theorem Gq.ea{T:List Keyed}{out:Array Keyed}{i j x:Nat}(g:Gq rk T a b out i j)(hx:x<=i)(h:∀t u,x<=t->t<i->u<j->u<b.size->kr rk b u<=kr rk a t):Gq rk T a b (out++(a.extract x i).reverse) x j :=
 Gh.flip (Gq.eb (a:=b) (b:=a) (i:=j) (j:=i) (Gh.flip g) hx h)
theorem Gq.eA{T:List Keyed}{out:Array Keyed}{j:Nat}(g:Gq rk T a b out 0 j):Srt rk T (hA a b out 0 j).toList:=by
 rw[Qu_]
 refine Gh.fa g λx hx y _=>?_
 rw[List.take_zero]at hx
 cases hx
theorem Gq.eZ{T:List Keyed}{out:Array Keyed}{i j:Nat}(g:Gq rk T a b out i j)(hi:i=0):Srt rk T (hA a b out i j).toList:=by
 subst hi
 exact g.eA
theorem Gq.eB{T:List Keyed}{out:Array Keyed}{i:Nat}(g:Gq rk T a b out i 0):Srt rk T (hA a b out i 0).toList:=by
 rw[Qu_]
 refine Gh.fa g λx _ y hy=>?_
 rw[List.take_zero]at hy
 cases hy
theorem Gq.eF{T:List Keyed}{out:Array Keyed}{i:Nat}(g:Gq rk T a b out i 1)(tw:Two rk a₀ a b):Srt rk T (hB a b out i 1).toList:=by
 show Srt rk T (hA b a out 1 i).toList
 rw[Qu_]
 refine Gh.fa (Gh.flip g) λx hx y hy=>?_
 obtain⟨t,t1,t2,e⟩:=Zo_ (rk:=rk) hx
 obtain⟨u,u1,u2,e2⟩:=Zo_ (rk:=rk) hy
 have:=tw.lo u u2
 rw[e2,show 0=t by lia,e]at this
 exact this
structure Mih(rk:Value->Int)(a b out:Array Keyed)(i j:Nat):Prop where
 g:Gq rk (a.toList++b.toList) a b out i j
 hi:1<=i
 hj:2<=j
 ia:i<=a.size
 jb:j<=b.size
theorem ziW_{g:Nat}{out:Array Keyed}{i j p q:Nat}{st:SortSt}{Q:ForInStep V1->SortSt->Prop}(hC:Cmps prog w A s κ rk a₀)(tw:Two rk a₀ a b)(h:S0 κ X P st)(m:Mih rk a b out i j)
  (q1:∀r i j o p q,Res κ rk a b X P r st->Q (.done (some r,i,j,o,p,q)) st) (q2:∀i' j' o p q,Mih rk a b o i' j'->i'+j'+1=i+j->Q (.done (none,i',j',o,p,q)) st/\Q (.yield (none,i',j',o,p,q)) st) :
  wpS (model prog w) A E s (hS a b g i j out p q) Q st:=by
 obtain⟨gg,hi,hj,ia,jb⟩:=m
 obtain⟨i,rfl⟩:∃k,i=k+1:=⟨i - 1,by lia⟩
 obtain⟨j,rfl⟩:∃k,j=k+1:=⟨j - 1,by lia⟩
 have ea:a[i]? = some (a[i]'(by lia)):=Array.getElem?_eq_getElem _
 have eb:b[j]? = some (b[j]'(by lia)):=Array.getElem?_eq_getElem _
 unfold hS
 rw[Nat.add_sub_cancel,Nat.add_sub_cancel]
 refine wpS_bind (jl_ eb (wpS_bind (jl_ ea (wpS_bind (Xs_ hC h.kd (tw.mb _ (by simp)) (tw.ma _ (by simp)) ?_)))))
 by_cases c:rk (b[j]'(by lia)).1<rk (a[i]'(by lia)).1
 ·rw[decide_eq_true c]
  dsimp only
  rw[if_pos rfl]
  have g':=Gq.pa gg (show i<a.size by lia) λt t1 t2=>by
   have:=tw.sb t j (Nat.zero_le _) (by lia) (by lia)
   rw[jc_ eb]at this
   rw[jc_ ea]
   lia
  refine wpS_bind (jl_ ea ?_)
  split
  ·rename_i z
   have z':i=0:=by simpa using z
   subst z'
   exact wpS_pure (q1 _ _ _ _ _ _ ⟨h,g'.eA⟩)
  ·rename_i z
   have z':i≠0:=by simpa using z
   have:=q2 i (j+1) (out.push (a[i]'(by lia))) (p+1) 0 ⟨g',by lia,hj,by lia,jb⟩ (by lia)
   split
   ·exact wpS_pure this.1
   ·exact wpS_pure this.2
 ·rw[decide_eq_false c]
  dsimp only
  rw[if_neg (by decide)]
  have g':=Gq.pb gg (show j<b.size by lia) λt t1 t2=>by
   have:=tw.sa t i (Nat.zero_le _) (by lia) (by lia)
   rw[jc_ ea]at this
   rw[jc_ eb]
   lia
  refine wpS_bind (jl_ eb ?_)
  split
  ·rename_i z
   have z':j=1:=by simpa using z
   subst z'
   exact wpS_pure (q1 _ _ _ _ _ _ ⟨h,g'.eF tw⟩)
  ·rename_i z
   have z':j≠1:=by simpa using z
   have:=q2 (i+1) j (out.push (b[j]'(by lia))) 0 (q+1) ⟨g',hi,by lia,ia,by lia⟩ (by lia)
   split
   ·exact wpS_pure this.1
   ·exact wpS_pure this.2
structure Lq(κ:SortKind)(rk:Value->Int)(a b X:Array Keyed)(P:Runs)(n:Nat)(Q:ForInStep V2->SortSt->Prop):Prop where
 r:∀r i j o g p q st,Res κ rk a b X P r st->Q (.done (some r,i,j,o,g,p,q)) st
 d:∀i j o g p q st,Mih rk a b o i j->i+j<=n->S0 κ X P st->Q (.done (none,i,j,o,g,p,q)) st
 y:∀i j o g p q st,Mih rk a b o i j->i+j<=n->S0 κ X P st->Q (.yield (none,i,j,o,g,p,q)) st
theorem zhu_{out:Array Keyed}{i j g p q n:Nat}{st:SortSt}{Q:ForInStep V2->SortSt->Prop}(tw:Two rk a₀ a b)(h:S0 κ X P st)(m:Mih rk a b out i j)(hn:i+j<=n)(ha:∀t,t<j->t<b.size->kr rk b t<=kr rk a (i - 1))(L:Lq κ rk a b X P n Q) :
  wpS (model prog w) A E s (h3 a b i j out g p q) Q st:=by
 obtain⟨gg,hi,hj,ia,jb⟩:=m
 obtain⟨i,rfl⟩:∃k,i=k+1:=⟨i - 1,by lia⟩
 have ea:a[i]? = some (a[i]'(by lia)):=Array.getElem?_eq_getElem _
 unfold h3
 rw[Nat.add_sub_cancel]at ha ⊢
 have g':=Gq.pa gg (show i<a.size by lia) ha
 refine wpS_bind (jl_ ea ?_)
 split
 ·rename_i z
  have z':i=0:=by simpa using z
  subst z'
  exact wpS_pure (L.r _ _ _ _ _ _ _ _ ⟨h,g'.eA⟩)
 ·rename_i z
  have z':i≠0:=by simpa using z
  split
  ·exact wpS_pure (L.d _ _ _ _ _ _ _ ⟨g',by lia,hj,by lia,jb⟩ (by lia) h)
  ·exact wpS_pure (L.y _ _ _ _ _ _ _ ⟨g',by lia,hj,by lia,jb⟩ (by lia) h)
theorem ziX_{out:Array Keyed}{i j g p q n:Nat}{st:SortSt}{Q:ForInStep V2->SortSt->Prop}(hC:Cmps prog w A s κ rk a₀)(tw:Two rk a₀ a b)(h:S0 κ X P st)(m:Mih rk a b out i j)(hn:i+j<=n)(L:Lq κ rk a b X P n Q) :
  wpS (model prog w) A E s (h2 a b i j out g p q) Q st:=by
 obtain⟨gg,hi,hj,ia,jb⟩:=id m
 have ea:a[i - 1]? = some (a[i - 1]'(by lia)):=Array.getElem?_eq_getElem _
 unfold h2
 refine wpS_bind (jl_ ea (wpS_bind (yP_ hC h.kd (tw.ma _ (by simp)) (by lia) tw.mb (λx y hx hxy hy=>tw.sb x y (Nat.zero_le _) hxy (by lia)) (by lia) λx k1 k2 k3=>?_)))
 rw[<-jc_ (rk:=rk) ea]at k2 k3
 simp only[Nat.zero_add]at k2 k3
 have rest:∀t,t<x->t<b.size->kr rk b t<=kr rk a (i - 1):=λt t1 t2=>Int.le_of_lt (k2 t t1)
 dsimp only
 split
 ·have g':=Gq.eb (x:=x) gg k1 λt u t1 t2 u1 u2=>by
   have h1:=k3 t t1 t2
   have h2:=tw.sa u (i - 1) (Nat.zero_le _) (by lia) (by lia)
   lia
  split
  ·rename_i z
   have z':x=1:=by simpa using z
   subst z'
   exact wpS_pure (L.r _ _ _ _ _ _ _ _ ⟨h,g'.eF tw⟩)
  ·rename_i z
   have z':x≠1:=by simpa using z
   split
   ·rename_i y
    have y':x=0:=by simpa using y
    subst y'
    exact wpS_pure (L.r _ _ _ _ _ _ _ _ ⟨h,g'.eB⟩)
   ·rename_i y
    have y':x≠0:=by simpa using y
    exact zhu_ tw h ⟨g',hi,by lia,ia,by lia⟩ (by lia) rest L
 ·have k0:x=j:=by lia
  subst k0
  exact zhu_ tw h m hn rest L
theorem zhv_{out:Array Keyed}{i j g p q n:Nat}{st:SortSt}{Q:ForInStep V2->SortSt->Prop}(hC:Cmps prog w A s κ rk a₀)(tw:Two rk a₀ a b)(h:S0 κ X P st)(m:Mih rk a b out i j)(hn:i+j<=n)(hb:∀t,t<i->t<a.size->kr rk a t<=kr rk b (j - 1))(L:Lq κ rk a b X P n Q) :
  wpS (model prog w) A E s (h1 a b i j out g p q) Q st:=by
 obtain⟨gg,hi,hj,ia,jb⟩:=m
 obtain⟨j,rfl⟩:∃k,j=k+1:=⟨j - 1,by lia⟩
 have eb:b[j]? = some (b[j]'(by lia)):=Array.getElem?_eq_getElem _
 unfold h1
 rw[Nat.add_sub_cancel]at hb ⊢
 have g':=Gq.pb gg (show j<b.size by lia) hb
 refine wpS_bind (jl_ eb ?_)
 split
 ·rename_i z
  have z':j=1:=by simpa using z
  subst z'
  exact wpS_pure (L.r _ _ _ _ _ _ _ _ ⟨h,g'.eF tw⟩)
 ·rename_i z
  have z':j≠1:=by simpa using z
  exact ziX_ hC tw h ⟨g',hi,by lia,ia,by lia⟩ (by lia) L
theorem zhw_{out:Array Keyed}{i j g p q n:Nat}{st:SortSt}{Q:ForInStep V2->SortSt->Prop}(hC:Cmps prog w A s κ rk a₀)(tw:Two rk a₀ a b)(h:S0 κ X P st)(m:Mih rk a b out i j)(hn:i+j<=n)(L:Lq κ rk a b X P n Q) :
  wpS (model prog w) A E s (h0 a b i j out g p q) Q st:=by
 obtain⟨gg,hi,hj,ia,jb⟩:=id m
 have eb:b[j - 1]? = some (b[j - 1]'(by lia)):=Array.getElem?_eq_getElem _
 unfold h0
 refine wpS_bind (J5_ h λst' h'=>?_)
 refine wpS_bind (jl_ eb (wpS_bind (yO_ hC h'.kd (tw.mb _ (by simp)) (by lia) tw.ma (λx y hx hxy hy=>tw.sa x y (Nat.zero_le _) hxy (by lia)) (by lia) λx k1 k2 k3=>?_)))
 rw[<-jc_ (rk:=rk) eb]at k2 k3
 simp only[Nat.zero_add]at k2 k3
 have rest:∀t,t<x->t<a.size->kr rk a t<=kr rk b (j - 1):=λt t1 t2=>k2 t t1
 dsimp only
 split
 ·have g':=Gq.ea (x:=x) gg k1 λt u t1 t2 u1 u2=>by
   have h1:=k3 t t1 t2
   have h2:=tw.sb u (j - 1) (Nat.zero_le _) (by lia) (by lia)
   lia
  split
  ·rename_i z
   have z':x=0:=by simpa using z
   subst z'
   exact wpS_pure (L.r _ _ _ _ _ _ _ _ ⟨h',g'.eA⟩)
  ·rename_i z
   have z':x≠0:=by simpa using z
   exact zhv_ hC tw h' ⟨g',by lia,hj,by lia,jb⟩ (by lia) rest L
 ·have k0:x=i:=by lia
  subst k0
  exact zhv_ hC tw h' m hn rest L
theorem ziV_{out:Array Keyed}{i j g:Nat}{st:SortSt}{Q:ForInStep V0->SortSt->Prop}(hC:Cmps prog w A s κ rk a₀)(tw:Two rk a₀ a b)(h:S0 κ X P st)(m:Mih rk a b out i j)
  (q1:∀r i j o g st,Res κ rk a b X P r st->Q (.done (some r,i,j,o,g)) st) (q2:∀i' j' o g st,Mih rk a b o i' j'->i'+j'+1<=i+j->S0 κ X P st->Q (.yield (none,i',j',o,g)) st) :
  wpS (model prog w) A E s (hT a b i j out g) Q st:=by
 unfold hT
 have hz:1<=a.size+b.size:=by have:=tw.na;lia
 refine wpS_bind (wpS_mono (wpS_forRange (I:=λx c st'=>st'=st/\∃i' j' o p q,c=(none,i',j',o,p,q)/\Mih rk a b o i' j'/\i'+j'+x=i+j)
  (Q:=λc st'=>st'=st/\((∃r i' j' o p q,c=(some r,i',j',o,p,q)/\Res κ rk a b X P r st)\/∃i' j' o p q,c=(none,i',j',o,p,q)/\Mih rk a b o i' j'/\i'+j'+1<=i+j))
  (λx c st' _ hx I=>?_) (λc st' I=>?_) ⟨rfl,i,j,out,0,0,rfl,m,rfl⟩) λc st' I=>?_)
 ·obtain⟨rfl,i',j',o,p,q,rfl,m',e⟩:=I
  dsimp only
  exact ziW_ hC tw h m' (λr i j o p q hr=>⟨rfl,.inl ⟨r,i,j,o,p,q,rfl,hr⟩⟩) λi2 j2 o p q m2 e2=>⟨⟨rfl,.inr ⟨i2,j2,o,p,q,rfl,m2,by lia⟩⟩,⟨rfl,i2,j2,o,p,q,rfl,m2,by lia⟩⟩
 ·obtain⟨rfl,i',j',o,p,q,rfl,m',e⟩:=I
  exact⟨rfl,.inr ⟨i',j',o,p,q,rfl,m',by lia⟩⟩
 ·obtain⟨rfl,⟨r,i',j',o,p,q,rfl,hr⟩|⟨i',j',o,p,q,rfl,m',e⟩⟩:=I
  ·exact wpS_pure (q1 _ _ _ _ _ _ hr)
  ·dsimp only
   refine wpS_bind (wpS_lift (wpAny_rule ⟨rfl,?_⟩))
   refine wpS_bind (wpS_mono (wpS_forRange (I:=λx c st'=>S0 κ X P st'/\∃i' j' o g p q,c=(none,i',j',o,g,p,q)/\Mih rk a b o i' j'/\i'+j'<=i+j - 1)
    (Q:=λc st'=>(∃r i' j' o g p q,c=(some r,i',j',o,g,p,q)/\Res κ rk a b X P r st')\/(S0 κ X P st'/\∃i' j' o g p q,c=(none,i',j',o,g,p,q)/\Mih rk a b o i' j'/\i'+j'<=i+j - 1))
    (λx c st2 _ hx I=>?_) (λc st2 I=>.inr I) ⟨h,i',j',o,g+1,p,q,rfl,m',by lia⟩) λc st2 I=>?_)
   ·obtain⟨h2,i2,j2,o,g2,p,q,rfl,m2,e2⟩:=I
    dsimp only
    split
    ·exact zhw_ hC tw h2 m2 e2 ⟨λr i j o g p q st hr=>.inl ⟨r,i,j,o,g,p,q,rfl,hr⟩,λi j o g p q st m e h=>.inr ⟨h,i,j,o,g,p,q,rfl,m,e⟩,λi j o g p q st m e h=>⟨h,i,j,o,g,p,q,rfl,m,e⟩⟩
    ·exact zhw_ hC tw h2 m2 e2 ⟨λr i j o g p q st hr=>.inl ⟨r,i,j,o,g,p,q,rfl,hr⟩,λi j o g p q st m e h=>.inr ⟨h,i,j,o,g,p,q,rfl,m,e⟩,λi j o g p q st m e h=>⟨h,i,j,o,g,p,q,rfl,m,e⟩⟩
   ·rcases I with ⟨r,i2,j2,o,g2,p,q,rfl,hr⟩|⟨h2,i2,j2,o,g2,p,q,rfl,m2,e2⟩
    ·exact wpS_pure (q1 _ _ _ _ _ _ hr)
    ·have:=m.hi
     have e3:i2+j2+1<=i+j:=by lia
     exact wpS_bind (J5_ h2 λst3 h3=>wpS_pure (q2 _ _ _ _ _ m2 e3 h3))
theorem VU_{st:SortSt}{Q:Array Keyed->SortSt->Prop}(hC:Cmps prog w A s κ rk a₀)(tw:Two rk a₀ a b)(h:S0 κ X P st)(q:∀r st',Res κ rk a b X P r st'->Q r st'):wpS (model prog w) A E s (Ul_ a b) Q st:=by
 have na:=tw.na
 have nb:=tw.nb
 have ea:a[a.size - 1]? = some (a[a.size - 1]'(by lia)):=Array.getElem?_eq_getElem _
 rw[VV_]
 have ta:a.toList.take (a.size - 1+1)=a.toList:=List.take_of_length_le (by simp;lia)
 have tb:b.toList.take b.size=b.toList:=List.take_of_length_le (by simp)
 have g0:Gq rk (a.toList++b.toList) a b #[] (a.size - 1+1) b.size:=⟨by simp,by rw[ta];exact uE_ tw.sa,by rw[tb];exact uE_ tw.sb,(λx hx=>by simp at hx),by rw[ta,tb];simp⟩
 have g1:=Gq.pa g0 (show a.size - 1<a.size by lia) λt _ t2=>tw.hi t t2
 refine wpS_bind (wpS_lift (wpAny_rule ⟨rfl,wpS_bind (jl_ ea ?_)⟩))
 split
 ·rename_i z
  have z':a.size - 1=0:=by simpa using z
  exact wpS_pure (q _ _ ⟨h,g1.eZ z'⟩)
 ·rename_i z
  have z':a.size - 1≠0:=by simpa using z
  split
  ·rename_i y
   have y':b.size=1:=by simpa using y
   rw[y']at g1 ⊢
   exact wpS_pure (q _ _ ⟨h,g1.eF tw⟩)
  ·rename_i y
   have y':b.size≠1:=by simpa using y
   refine wpS_bind (wpS_get ?_)
   refine wpS_bind (wpS_mono (wpS_forRange (I:=λx c st'=>S0 κ X P st'/\∃i j o g,c=(none,i,j,o,g)/\Mih rk a b o i j/\i+j+x+1<=a.size+b.size)
    (Q:=λc st'=>∃r i j o g,c=(some r,i,j,o,g)/\Res κ rk a b X P r st') (λx c st' _ hx I=>?_) (λc st' I=>?_) ⟨h,a.size - 1,b.size,_,_,rfl,⟨g1,by lia,by lia,by lia,by lia⟩,by lia⟩) λc st' I=>?_)
   ·obtain⟨h',i,j,o,g,rfl,m,e⟩:=I
    dsimp only
    exact ziV_ hC tw h' m (λr i j o g st hr=>⟨r,i,j,o,g,rfl,hr⟩) λi2 j2 o g st m2 e2 h2=>⟨h2,i2,j2,o,g,rfl,m2,by lia⟩
   ·obtain⟨h',i,j,o,g,rfl,m,e⟩:=I
    have:=m.hi
    have:=m.hj
    lia
   ·obtain⟨r,i,j,o,g,rfl,hr⟩:=I
    exact wpS_pure (q _ _ hr)
end
def putAll(l:List Keyed)(at0 k:Nat)(xs:Array Keyed):Array Keyed:=(l.zipIdx k).foldl (λa p=>a.setIfInBounds (at0+p.2) p.1) xs
theorem ZK_(at0:Nat):∀(l:List Keyed) (k:Nat) (xs:Array Keyed),at0+k+l.length<=xs.size->∀t,(putAll l at0 k xs)[t]? = if at0+k<=t/\t<at0+k+l.length then l[t - (at0+k)]? else xs[t]?
 | [],k,xs,_,t=>by
  show xs[t]? = _
  rw[if_neg (by rw[List.length_nil];lia)]
 | p::l,k,xs,h,t=>by
  rw[List.length_cons]at h
  show(putAll l at0 (k+1) (xs.setIfInBounds (at0+k) p))[t]? = _
  rw[ZK_ at0 l (k+1) _ (by rw[Array.size_setIfInBounds];lia),List.length_cons,Array.getElem?_setIfInBounds]
  by_cases c:t=at0+k
  ·subst c
   rw[if_neg (by lia),if_pos rfl,if_pos (by lia),if_pos (by lia),Nat.sub_self]
   rfl
  ·by_cases c2:at0+(k+1)<=t/\t<at0+(k+1)+l.length
   ·rw[if_pos c2,if_pos (by lia),show t - (at0+k)=(t - (at0+(k+1)))+1 by lia]
    rfl
   ·rw[if_neg c2,if_neg (λz=>c z.symm),if_neg (by lia)]
theorem ZJ_{l:List Keyed}{at0:Nat}{xs:Array Keyed}(h:at0+l.length<=xs.size):(putAll l at0 0 xs).toList=xs.toList.take at0++(l++xs.toList.drop (at0+l.length)):=by
 apply List.ext_getElem?
 intro t
 have e:=ZK_ at0 l 0 xs (by lia) t
 rw[Array.getElem?_toList,e]
 have hl:xs.toList.length=xs.size:=Array.length_toList
 by_cases c:t<at0
 ·rw[if_neg (by lia),List.getElem?_append_left (by rw[List.length_take];lia),List.getElem?_take_of_lt c,Array.getElem?_toList]
 ·rw[List.getElem?_append_right (by rw[List.length_take];lia),List.length_take,show min at0 xs.toList.length=at0 by lia]
  by_cases c2:t<at0+l.length
  ·rw[if_pos (by lia),List.getElem?_append_left (by lia),Nat.add_zero]
  ·rw[if_neg (by lia),List.getElem?_append_right (by lia),List.getElem?_drop,Array.getElem?_toList]
   congr 1
   lia
section
variable {rk:Value->Int}
theorem uO_{xs:Array Keyed}{a e t:Nat}(h:a+t<e)(he:e<=xs.size):kr rk (xs.extract a e) t=kr rk xs (a+t):=by
 refine Z1_ ?_
 rw[Array.getElem?_extract,if_pos (by lia)]
noncomputable def Cov:List (Nat×Nat×Nat)->Nat->Nat->Prop
 | [],lo,hi=>lo=hi
 | (s,n,_)::r,lo,hi=>s=lo/\1<=n/\Cov r (lo+n) hi
theorem Cov.split:∀{L R:List (Nat×Nat×Nat)} {lo hi:Nat},Cov (L++R) lo hi->∃m,Cov L lo m/\Cov R m hi
 | [],_,lo,_,h=>⟨lo,rfl,h⟩
 | (s,n,_)::L,R,lo,hi,h=>by
  obtain⟨h1,h2,h3⟩:=h
  obtain⟨m,h4,h5⟩:=Cov.split (L:=L) h3
  exact⟨m,⟨h1,h2,h4⟩,h5⟩
theorem Cov.join:∀{L R:List (Nat×Nat×Nat)} {lo m hi:Nat},Cov L lo m->Cov R m hi->Cov (L++R) lo hi
 | [],_,lo,_,_,h,h'=>by cases h;exact h'
 | (s,n,_)::L,R,lo,m,hi,h,h'=>⟨h.1,h.2.1,Cov.join (L:=L) h.2.2 h'⟩
theorem Cov.le:∀{L:List (Nat×Nat×Nat)} {lo hi:Nat},Cov L lo hi->lo+L.length<=hi
 | [],lo,_,h=>by cases h;simp
 | (s,n,_)::L,lo,hi,h=>by
  obtain⟨_,h2,h3⟩:=h
  have:=Cov.le h3
  rw[List.length_cons]
  lia
theorem Cov.mem:∀{L:List (Nat×Nat×Nat)} {lo hi:Nat} {x:Nat×Nat×Nat},Cov L lo hi->x∈L->lo<=x.1/\x.1+x.2.1<=hi
 | (s,n,_)::L,lo,hi,x,h,hx=>by
  obtain⟨h1,h2,h3⟩:=h
  rcases List.mem_cons.mp hx with rfl|hx
  ·have:=Cov.le h3
   exact⟨by dsimp only;lia,by dsimp only;lia⟩
  ·have:=Cov.mem h3 hx
   exact⟨by lia,this.2⟩
structure Rn(κ:SortKind)(rk:Value->Int)(a₀:Array Keyed)(hi:Nat)(st:SortSt):Prop where
 pm:(arrOf st).Perm a₀
 kd:kindOf st=κ
 fl:failedOf st=none
 cv:Cov (pendingOf st).toList 0 hi
 so:∀x∈(pendingOf st).toList,Asc rk (arrOf st) x.1 (x.1+x.2.1)
 le:hi<=a₀.size
variable {prog:Program}{w:World}{A:Around}{E:Value->Shared->Prop}{s:Shared}{κ:SortKind}{a₀:Array Keyed}
theorem zdC_{σ:Type}{M:Model}{c st:σ}{Q:PUnit->σ->Prop}(h:Q ⟨⟩ c):wpS M A E s (set c:StateT σ Sem PUnit) Q st:=by
 unfold wpS;rw[StateT.run_set];exact zzb ⟨rfl,h⟩
theorem VW_(i:Nat):mergeAt' i=(do
  let st <-get
  match ((pendingOf st)[i]?,(pendingOf st)[i+1]?)with
  | (some (sa,na,pw),some (sb,nb,_))=>do
   set (setPending st (((pendingOf st).setIfInBounds i (sa,na+nb,pw)).eraseIdxIfInBounds (i+1)))
   let x <-elem' (arrOf st) sb
   match <-jY_ false x (arrOf st) sa na 0 with
   | some k =>
    if(na - k==0)=true then pure true
    else do
     let y <-elem' (arrOf st) (sa+k+(na - k) - 1)
     match <-jY_ true y (arrOf st) sb nb (nb - 1)with
     | some n =>
      if(n==0)=true then pure true
      else if na - k<=n then do
       let r <-Uk_ ((arrOf st).extract (sa+k) sb) ((arrOf st).extract sb (sb+n))
       modify λc=>setArr c (putAll r.toList (sa+k) 0 (arrOf c))
       pure (failedOf (<-get)).isNone
      else do
       let r <-Ul_ ((arrOf st).extract (sa+k) sb) ((arrOf st).extract sb (sb+n))
       modify λc=>setArr c (putAll r.toList (sa+k) 0 (arrOf c))
       pure (failedOf (<-get)).isNone
     | _=>pure false
   | _=>pure false
  | _=>liftM (unsupported "internal:list.sort.pending" : Sem Bool)):=by
 kernel_rfl
end
section
variable {rk:Value->Int}{prog:Program}{w:World}{A:Around}{E:Value->Shared->Prop}{s:Shared}{κ:SortKind}{a₀:Array Keyed}
theorem zfn_{P:Runs}{i:Nat}(h:i+1<P.size):∃L x y R,P.toList=L++x::y::R/\L.length=i/\P[i]? = some x/\P[i+1]? = some y:=by
 have h':i+1<P.toList.length:=by simpa using h
 refine⟨P.toList.take i,P[i],P[i+1],P.toList.drop (i+2),?_,by rw[List.length_take];lia,Array.getElem?_eq_getElem _,Array.getElem?_eq_getElem _⟩
 have e1:P.toList.drop i=P[i]::P.toList.drop (i+1):=by rw[List.drop_eq_getElem_cons (by lia)];simp
 have e2:P.toList.drop (i+1)=P[i+1]::P.toList.drop (i+2):=by rw[List.drop_eq_getElem_cons h'];simp
 rw[<-e2,<-e1,List.take_append_drop]
theorem zdG_{P:Runs}{i:Nat}{L R:List (Nat×Nat×Nat)}{x y z:Nat×Nat×Nat}(e:P.toList=L++x::y::R)(hl:L.length=i):((P.setIfInBounds i z).eraseIdxIfInBounds (i+1)).toList=L++z::R:=by
 have hs:i+1<P.size:=by
  rw[<-Array.length_toList,e]
  simp
  lia
 have hs2:i+1<(P.setIfInBounds i z).size:=by rw[Array.size_setIfInBounds];exact hs
 unfold Array.eraseIdxIfInBounds
 rw[dif_pos hs2,Array.toList_eraseIdx,Array.toList_setIfInBounds,e,<-hl]
 rw[List.set_append_right _ _ (Nat.le_refl _),Nat.sub_self,List.set_cons_zero,List.eraseIdx_append_of_length_le (by lia),Nat.add_sub_cancel_left]
 rfl
theorem zbH_{xs ys:Array Keyed}{sa m sb n hi:Nat}(h1:sa<=m)(h2:m<=sb)(h3:sb<=n)(h4:n<=hi)(oa:Asc rk xs sa sb)(ob:Asc rk xs sb hi)
  (k1:∀t,t<m->kr rk ys t=kr rk xs t) (k2:∀t,n<=t->kr rk ys t=kr rk xs t) (om:Asc rk ys m n) (mem:∀t,m<=t->t<n->∃u,m<=u/\u<n/\kr rk ys t=kr rk xs u)
  (lo:∀t,sa<=t->t<m->sb<hi->kr rk xs t<=kr rk xs sb) (up:∀t,n<=t->t<hi->m<sb->kr rk xs (sb - 1)<=kr rk xs t) (lu:∀t u,sa<=t->t<m->n<=u->u<hi->kr rk xs t<=kr rk xs u):Asc rk ys sa hi:=λi j hi' hij hj=>by
 have pm:∀t u,sa<=t->t<m->m<=u->u<n->kr rk xs t<=kr rk xs u:=λt u a1 a2 a3 a4=>by
  by_cases c:u<sb
  ·exact oa t u a1 (by lia) c
  ·have:=lo t a1 a2 (by lia)
   have:=ob sb u (Nat.le_refl _) (by lia) (by lia)
   lia
 have pu:∀t u,m<=t->t<n->n<=u->u<hi->kr rk xs t<=kr rk xs u:=λt u a1 a2 a3 a4=>by
  by_cases c:t<sb
  ·have:=oa t (sb - 1) (by lia) (by lia) (by lia)
   have:=up u a3 a4 (by lia)
   lia
  ·exact ob t u (by lia) (by lia) a4
 by_cases c1:i<m
 ·rw[k1 i c1]
  by_cases c2:j<m
  ·rw[k1 j c2];exact oa i j hi' hij (by lia)
  ·by_cases c3:j<n
   ·obtain⟨u,u1,u2,e⟩:=mem j (by lia) c3
    rw[e];exact pm i u hi' c1 u1 u2
   ·rw[k2 j (by lia)]
    exact lu i j hi' c1 (by lia) hj
 ·by_cases c3:j<n
  ·exact om i j (by lia) hij c3
  ·rw[k2 j (by lia)]
   by_cases c4:i<n
   ·obtain⟨u,u1,u2,e⟩:=mem i (by lia) c4
    rw[e];exact pu u j u1 u2 (by lia) hj
   ·rw[k2 i (by lia)];exact ob i j (by lia) hij hj
theorem Xq_{xs:Array Keyed}{i:Nat}{p:Keyed}(h:xs.Perm a₀)(e:xs[i]? = some p):p∈a₀.toList :=
 (Array.perm_iff_toList_perm.mp h).mem_iff.mp (by
  obtain⟨hl,e⟩:=Array.getElem?_eq_some_iff.mp e
  rw[<-e];simp)
theorem Qk_{xs:Array Keyed}(h:xs.Perm a₀):∀p∈xs.toList,p∈a₀.toList:=λp hp=>(Array.perm_iff_toList_perm.mp h).mem_iff.mp hp
theorem Xp_{xs:Array Keyed}{a e:Nat}(h:xs.Perm a₀):∀p∈(xs.extract a e).toList,p∈a₀.toList:=λp hp=>by
 rw[Array.toList_extract,List.extract_eq_take_drop]at hp
 exact Qk_ h p (List.mem_of_mem_drop (List.mem_of_mem_take hp))
theorem XU_{st st':SortSt}{hi i sa na pw sb nb pb k n:Nat}{L R:List (Nat×Nat×Nat)}{r:Array Keyed}(h:Rn κ rk a₀ hi st)(e:(pendingOf st).toList=L++(sa,na,pw)::(sb,nb,pb)::R)(hl:L.length=i)
  (hk:k<=na) (hn:n<=nb) (kR1:∀t,t<k->kr rk (arrOf st) (sa+t)<=kr rk (arrOf st) sb) (kL2:∀t,n<=t->t<nb->k<na->kr rk (arrOf st) (sb - 1)<=kr rk (arrOf st) (sb+t)) (hnn:k=na->n=0)
  (hr:Srt rk (((arrOf st).extract (sa+k) sb).toList++((arrOf st).extract sb (sb+n)).toList) r.toList)
  (e1:arrOf st'=putAll r.toList (sa+k) 0 (arrOf st)) (e2:pendingOf st'=((pendingOf st).setIfInBounds i (sa,na+nb,pw)).eraseIdxIfInBounds (i+1)) (e3:kindOf st'=κ) (e4:failedOf st'=none) :
  Rn κ rk a₀ hi st'/\(pendingOf st').size+1=(pendingOf st).size/\∀t,hi<=t->(arrOf st')[t]? = (arrOf st)[t]?:=by
 have cv:=h.cv
 rw[e]at cv
 obtain⟨m0,c1,c2⟩:=Cov.split cv
 obtain⟨rfl,na1,rfl,nb1,c3⟩:=c2
 have hsz:(arrOf st).size=a₀.size:=h.pm.size_eq
 have lhi:=Cov.le c3
 have hle:=h.le
 have oa:Asc rk (arrOf st) sa (sa+na):=h.so (sa,na,pw) (by rw[e];simp)
 have ob:Asc rk (arrOf st) (sa+na) (sa+na+nb):=h.so (sa+na,nb,pb) (by rw[e];simp)
 have rl:r.toList.length=(na - k)+n:=by
  rw[hr.2.length_eq,zzf,Array.length_toList,Array.length_toList,Array.size_extract,Array.size_extract]
  lia
 have fits:sa+k+r.toList.length<=(arrOf st).size:=by lia
 have at_:∀t,(arrOf st')[t]? = if sa+k<=t/\t<sa+na+n then r.toList[t - (sa+k)]? else(arrOf st)[t]?:=λt=>by
  rw[e1,ZK_ _ _ _ _ (by lia),rl]
  simp only[Nat.add_zero]
  congr 1
  rw[show sa+k+(na - k+n)=sa+na+n by lia]
 have kin:∀t,¬ (sa+k<=t/\t<sa+na+n)->kr rk (arrOf st') t=kr rk (arrOf st) t:=λt ht=>Z1_ (by rw[at_,if_neg ht])
 have seg:((arrOf st).extract (sa+k) (sa+na)).toList++((arrOf st).extract (sa+na) (sa+na+n)).toList=((arrOf st).toList.drop (sa+k)).take (na - k+n):=by
  rw[Array.toList_extract,Array.toList_extract,List.extract_eq_take_drop,List.extract_eq_take_drop,List.take_add,List.drop_drop]
  congr 2
  ·lia
  ·lia
  ·congr 1;lia
 have perm:(arrOf st').Perm (arrOf st):=by
  rw[Array.perm_iff_toList_perm,e1,ZJ_ fits]
  have e5:(arrOf st).toList=(arrOf st).toList.take (sa+k)++(((arrOf st).toList.drop (sa+k)).take (na - k+n)++(arrOf st).toList.drop (sa+k+r.toList.length)):=by
   rw[rl]
   generalize sa+k=u
   rw[<-List.drop_drop,List.take_append_drop,List.take_append_drop]
  conv=>rhs;rw[e5]
  exact(List.Perm.append_left _ ((hr.2.trans (by rw[seg])).append_right _))
 have krr:∀t,sa+k<=t->t<sa+na+n->∃hh:t - (sa+k)<r.toList.length,kr rk (arrOf st') t=rk (r.toList[t - (sa+k)]'hh).1:=λt t1 t2=>by
  refine⟨by lia,jc_ ?_⟩
  rw[at_,if_pos ⟨t1,t2⟩,List.getElem?_eq_getElem]
 have asc:Asc rk (arrOf st') sa (sa+na+nb):=by
  refine zbH_ (m:=sa+k) (sb:=sa+na) (n:=sa+na+n) (by lia) (by lia) (by lia) (by lia) oa ob (λt ht=>kin t (by lia)) (λt ht=>kin t (by lia)) ?_ ?_ ?_ ?_ ?_
  ·intro i j a1 a2 a3
   obtain⟨p1,q1⟩:=krr i a1 (by lia)
   obtain⟨p2,q2⟩:=krr j (by lia) a3
   rw[q1,q2]
   by_cases c:i=j
   ·subst c;exact Int.le_refl _
   ·exact List.pairwise_iff_getElem.mp hr.1 _ _ p1 p2 (by lia)
  ·intro t t1 t2
   obtain⟨p1,q1⟩:=krr t t1 t2
   have hm:=hr.2.mem_iff.mp (List.getElem_mem p1)
   rcases List.mem_append.mp hm with hm|hm
   ·obtain⟨u,u1,u2,_,eu⟩:=Um_ (rk:=rk) hm
    exact⟨u,u1,by lia,by rw[q1,eu]⟩
   ·obtain⟨u,u1,u2,_,eu⟩:=Um_ (rk:=rk) hm
    exact⟨u,by lia,u2,by rw[q1,eu]⟩
  ·intro t t1 t2 _
   have:=kR1 (t - sa) (by lia)
   rwa [show sa+(t - sa)=t by lia]at this
  ·intro t t1 t2 t3
   have:=kL2 (t - (sa+na)) (by lia) (by lia) (by lia)
   rwa [show sa+na+(t - (sa+na))=t by lia]at this
  ·intro t u t1 t2 u1 u2
   have:=kR1 (t - sa) (by lia)
   rw[show sa+(t - sa)=t by lia]at this
   have:=ob (sa+na) u (Nat.le_refl _) (by lia) u2
   lia
 have pl:(pendingOf st').toList=L++(sa,na+nb,pw)::R:=by rw[e2];exact zdG_ e hl
 refine⟨⟨perm.trans h.pm,e3,e4,?_,λx hx=>?_,hle⟩,?_,λt ht=>by rw[at_,if_neg (by lia)]⟩
 ·rw[pl]
  exact Cov.join c1 ⟨rfl,by lia,by rw[<-Nat.add_assoc];exact c3⟩
 ·rw[pl]at hx
  rcases List.mem_append.mp hx with hx|hx
  ·have o:=h.so x (by rw[e];exact List.mem_append_left _ hx)
   have:=Cov.mem c1 hx
   exact λi j a1 a2 a3=>by rw[kin i (by lia),kin j (by lia)];exact o i j a1 a2 a3
  ·rcases List.mem_cons.mp hx with rfl|hx
   ·dsimp only
    rw[<-Nat.add_assoc];exact asc
   ·have o:=h.so x (by rw[e];exact List.mem_append_right _ (zzg _ (zzg _ hx)))
    have:=Cov.mem c3 hx
    exact λi j a1 a2 a3=>by rw[kin i (by lia),kin j (by lia)];exact o i j a1 a2 a3
 ·rw[<-Array.length_toList,<-Array.length_toList,pl,e]
  simp
  lia
theorem JH_{st:SortSt}{hi i:Nat}{Q:Bool->SortSt->Prop}(hC:Cmps prog w A s κ rk a₀)(h:Rn κ rk a₀ hi st)(hi2:i+1<(pendingOf st).size)
  (q:∀st',Rn κ rk a₀ hi st'->(pendingOf st').size+1=(pendingOf st).size->(∀t,hi<=t->(arrOf st')[t]? = (arrOf st)[t]?)->Q true st'):wpS (model prog w) A E s (mergeAt' i) Q st:=by
 obtain⟨L,⟨sa,na,pw⟩,⟨sb,nb,pb⟩,R,e,hl,g1,g2⟩:=zfn_ hi2
 have cv:=h.cv
 rw[e]at cv
 obtain⟨m0,c1,c2⟩:=Cov.split cv
 obtain⟨rfl,na1,rfl,nb1,c3⟩:=c2
 have hsz:(arrOf st).size=a₀.size:=h.pm.size_eq
 have lhi:=Cov.le c3
 have hle:=h.le
 have oa:Asc rk (arrOf st) sa (sa+na):=h.so (sa,na,pw) (by rw[e];simp)
 have ob:Asc rk (arrOf st) (sa+na) (sa+na+nb):=h.so (sa+na,nb,pb) (by rw[e];simp)
 rw[VW_]
 refine wpS_bind (wpS_get ?_)
 rw[g1,g2]
 dsimp only
 refine wpS_bind (zdC_ ?_)
 have s0:S0 κ (arrOf st) (((pendingOf st).setIfInBounds i (sa,na+nb,pw)).eraseIdxIfInBounds (i+1)) (setPending st (((pendingOf st).setIfInBounds i (sa,na+nb,pw)).eraseIdxIfInBounds (i+1))):=⟨h.kd,rfl,rfl,h.fl⟩
 have ex:(arrOf st)[sa+na]? = some ((arrOf st)[sa+na]'(by lia)):=Array.getElem?_eq_getElem _
 refine wpS_bind (jl_ ex (wpS_bind (yO_ hC s0.kd (Xq_ h.pm ex) (by lia) (Qk_ h.pm) oa (by lia) λk k1 k2 k3=>?_)))
 rw[<-jc_ (rk:=rk) ex]at k2 k3
 dsimp only
 split
 ·rename_i z
  have z':na - k=0:=by simpa using z
  have ek:k=na:=by lia
  subst ek
  have f:=XU_ (st':=setPending st (((pendingOf st).setIfInBounds i (sa,k+nb,pw)).eraseIdxIfInBounds (i+1))) (r:=#[]) (n:=0) h e hl k1 (Nat.zero_le _) k2 (λt _ _ z=>absurd z (Nat.lt_irrefl _)) (λ_=>rfl) ⟨.nil,by simp[Array.toList_extract,List.extract_eq_take_drop]⟩ rfl rfl h.kd h.fl
  exact wpS_pure (q _ f.1 f.2.1 f.2.2)
 ·rename_i z
  have z':na - k≠0:=by simpa using z
  have ey:(arrOf st)[sa+k+(na - k) - 1]? = some ((arrOf st)[sa+k+(na - k) - 1]'(by lia)):=Array.getElem?_eq_getElem _
  refine wpS_bind (jl_ ey (wpS_bind (yP_ hC s0.kd (Xq_ h.pm ey) (by lia) (Qk_ h.pm) ob (by lia) λn n1 n2 n3=>?_)))
  rw[<-jc_ (rk:=rk) ey,show sa+k+(na - k) - 1=sa+na - 1 by lia]at n2 n3
  have kL2:∀t,n<=t->t<nb->k<na->kr rk (arrOf st) (sa+na - 1)<=kr rk (arrOf st) (sa+na+t):=λt a1 a2 _=>n3 t a1 a2
  dsimp only
  split
  ·rename_i y
   have y':n=0:=by simpa using y
   subst y'
   have f:=XU_ (st':=setPending st (((pendingOf st).setIfInBounds i (sa,na+nb,pw)).eraseIdxIfInBounds (i+1))) (r:=(arrOf st).extract (sa+k) (sa+na)) (n:=0) h e hl k1 (Nat.zero_le _) k2 kL2 (λz=>by lia) ⟨?_,by simp[Array.toList_extract,List.extract_eq_take_drop]⟩ ?_ rfl h.kd h.fl
   ·exact wpS_pure (q _ f.1 f.2.1 f.2.2)
   ·refine uE_ λi j a1 a2 a3=>?_
    rw[Array.size_extract]at a3
    rw[uO_ (by lia) (by lia),uO_ (by lia) (by lia)]
    exact oa _ _ (by lia) (by lia) (by lia)
   ·show arrOf st=_
    apply Array.ext'
    rw[ZJ_ (by rw[Array.length_toList,Array.size_extract];lia),Array.length_toList,Array.size_extract,Array.toList_extract,List.extract_eq_take_drop]
    rw[show min (sa+na) (arrOf st).size - (sa+k)=sa+na - (sa+k) by lia]
    generalize sa+na - (sa+k)=v
    generalize sa+k=u
    rw[<-List.drop_drop,List.take_append_drop,List.take_append_drop]
  ·rename_i y
   have y':n≠0:=by simpa using y
   have tw:Two rk a₀ ((arrOf st).extract (sa+k) (sa+na)) ((arrOf st).extract (sa+na) (sa+na+n)):=by
    have z1:((arrOf st).extract (sa+k) (sa+na)).size=na - k:=by rw[Array.size_extract];lia
    have z2:((arrOf st).extract (sa+na) (sa+na+n)).size=n:=by rw[Array.size_extract];lia
    refine⟨λi j a1 a2 a3=>?_,λi j a1 a2 a3=>?_,Xp_ h.pm,Xp_ h.pm,by lia,by lia,λi a1=>?_,λj a1=>?_⟩
    ·rw[uO_ (by lia) (by lia),uO_ (by lia) (by lia)]
     exact oa _ _ (by lia) (by lia) (by lia)
    ·rw[uO_ (by lia) (by lia),uO_ (by lia) (by lia)]
     exact ob _ _ (by lia) (by lia) (by lia)
    ·rw[uO_ (by lia) (by lia),uO_ (by lia) (by lia)]
     have:=k3 (k+i) (by lia) (by lia)
     rw[<-Nat.add_assoc]at this
     rw[Nat.add_zero]
     lia
    ·rw[z1,uO_ (by lia) (by lia),uO_ (by lia) (by lia)]
     have:=n2 j (by lia)
     rw[show sa+k+(na - k - 1)=sa+na - 1 by lia]
     lia
   have last:∀(r:Array Keyed) (st2:SortSt),Res κ rk ((arrOf st).extract (sa+k) (sa+na)) ((arrOf st).extract (sa+na) (sa+na+n)) (arrOf st) (((pendingOf st).setIfInBounds i (sa,na+nb,pw)).eraseIdxIfInBounds (i+1)) r st2 ->
     wpS (model prog w) A E s (do modify λc=>setArr c (putAll r.toList (sa+k) 0 (arrOf c));pure (failedOf (<-get)).isNone) Q st2:=λr st2 hr=>by
    refine wpS_bind (wpS_modify (wpS_bind (wpS_get (wpS_pure ?_))))
    have f:=XU_ (st':=setArr st2 (putAll r.toList (sa+k) 0 (arrOf st2))) (r:=r) (n:=n) h e hl k1 n1 k2 kL2 (λz=>by lia) hr.2 (by show putAll _ _ _ (arrOf st2)=_;rw[hr.1.ar]) hr.1.pe hr.1.kd hr.1.fl
    have ef:(failedOf (setArr st2 (putAll r.toList (sa+k) 0 (arrOf st2)))).isNone=true:=by
     show(failedOf st2).isNone=true
     rw[hr.1.fl];rfl
    rw[ef]
    exact q _ f.1 f.2.1 f.2.2
   split
   ·exact wpS_bind (VS_ hC tw s0 last)
   ·exact wpS_bind (VU_ hC tw s0 last)
end
noncomputable abbrev Cu:=Option Unit×Unit
noncomputable def colW(pw:Nat):SM' (ForInStep Cu):=do
 let st <-get
 match (if(pendingOf st).size>1 then(pendingOf st)[(pendingOf st).size - 2]? else none)with
 | some (_,_,o) =>
  if o<=pw then pure (.done (none,()))
  else do
   let b <-mergeAt' ((pendingOf st).size - 2)
   if(!b)=true then pure (.done (some (),()))else pure (.yield (none,()))
 | _=>pure (.done (none,()))
noncomputable def addW(lo n:Nat):SM' (ForInStep (Option Unit×Nat)):=do
 modify λc=>setPending c ((pendingOf c).push (lo,n,0))
 pure (.yield (none,lo+n))
def zaY_(z lo n:Nat):SM' (ForInStep (Option Unit×Nat)):=do
 let st <-get
 match (pendingOf st).back? with
 | some (s1,n1,_)=>do
  let c <-forIn [0:z] ((none,()):Cu) λ_ _=>colW (power' z (2*s1+n1) (2*s1+n1+n1+n) z)
  match c.1 with
  | some r=>pure (.done (some r,lo))
  | none=>do
   modify λc=>setPending c ((pendingOf c).modify ((pendingOf c).size - 1) λx=>(x.1,x.2.1,power' z (2*s1+n1) (2*s1+n1+n1+n) z))
   addW lo n
 | _=>addW lo n
noncomputable def Xx_(P:Runs):Nat:=if((if P.size - 2>0 then P[P.size - 2 - 1]?.map (·.2.1)else none).any (· < (P[P.size - 2+1]?.elim 0 (·.2.1))))=true then P.size - 2 - 1 else P.size - 2
def zhe_:SM' (ForInStep Cu):=do
 let st <-get
 if(pendingOf st).size<=1 then pure (.done (none,()))
 else do
  let b <-mergeAt' (Xx_ (pendingOf st))
  if(!b)=true then pure (.done (some (),()))else pure (.yield (none,()))
theorem zdN_:sortRuns'=(do
  let st <-get
  let c <-forIn [0:(arrOf st).size] ((none,0):Option Unit×Nat) λ_ c =>
   if c.2>=(arrOf st).size then pure (.done (none,c.2))
   else do
    match <-countRun' c.2 ((arrOf st).size - c.2)with
    | some f =>
     if f<minRun' (arrOf st).size (arrOf st).size 0 then do
      liftM (rule "list.sort.binary-insertion")
      let b <-binarySort' c.2 (min ((arrOf st).size - c.2) (minRun' (arrOf st).size (arrOf st).size 0)) f
      if(!b)=true then pure (.done (some (),c.2))
      else zaY_ (arrOf st).size c.2 (min ((arrOf st).size - c.2) (minRun' (arrOf st).size (arrOf st).size 0))
     else zaY_ (arrOf st).size c.2 f
    | _=>pure (.done (some (),c.2))
  match c.1 with
  | some r=>pure r
  | none=>do
   let c <-forIn [0:(arrOf st).size] ((none,()):Cu) λ_ _=>zhe_
   match c.1 with
   | some r=>pure r
   | none=>pure ()):=by
 kernel_rfl
section
variable {rk:Value->Int}{prog:Program}{w:World}{A:Around}{E:Value->Shared->Prop}{s:Shared}{κ:SortKind}{a₀:Array Keyed}
def Rp(κ:SortKind)(rk:Value->Int)(a₀:Array Keyed)(lo n:Nat)(st:SortSt):Prop:=Rn κ rk a₀ lo st/\1<=n/\lo+n<=a₀.size/\Asc rk (arrOf st) lo (lo+n)
theorem zdy_{st:SortSt}{lo n:Nat}{Q:ForInStep (Option Unit×Nat)->SortSt->Prop}(h:Rp κ rk a₀ lo n st)(q:∀st',Rn κ rk a₀ (lo+n) st'->Q (.yield (none,lo+n)) st'):wpS (model prog w) A E s (addW lo n) Q st:=by
 obtain⟨r,n1,le,o⟩:=h
 unfold addW
 refine wpS_bind (wpS_modify (wpS_pure (q _ ⟨r.pm,r.kd,r.fl,?_,λx hx=>?_,le⟩)))
 ·show Cov ((pendingOf st).push (lo,n,0)).toList 0 (lo+n)
  rw[Array.toList_push]
  exact Cov.join r.cv ⟨rfl,n1,rfl⟩
 ·have hx':x∈((pendingOf st).push (lo,n,0)).toList:=hx
  rw[Array.toList_push]at hx'
  rcases List.mem_append.mp hx' with hx|hx
  ·exact r.so x hx
  ·rw[List.mem_singleton.mp hx];exact o
theorem Cov.mod{f:Nat×Nat×Nat->Nat×Nat×Nat}(hf:∀x,(f x).1=x.1/\(f x).2.1=x.2.1):∀(L:List (Nat×Nat×Nat)) (i lo hi:Nat),Cov L lo hi->Cov (L.modify i f) lo hi
 | [],i,lo,hi,h=>by simpa using h
 | (a,n,p)::L,0,lo,hi,h=>by
  rw[List.modify_zero_cons]
  obtain⟨h1,h2⟩:=hf (a,n,p)
  generalize f (a,n,p)=y at h1 h2
  obtain⟨b,m,r⟩:=y
  dsimp only at h1 h2
  subst h1 h2
  exact h
 | (a,n,p)::L,i+1,lo,hi,h=>by
  rw[List.modify_succ_cons]
  exact⟨h.1,h.2.1,Cov.mod hf L i _ _ h.2.2⟩
theorem Xo_{f:Nat×Nat×Nat->Nat×Nat×Nat}(hf:∀x,(f x).1=x.1/\(f x).2.1=x.2.1):∀(L:List (Nat×Nat×Nat)) (i:Nat) (x:Nat×Nat×Nat),x∈L.modify i f->∃y∈L,x.1=y.1/\x.2.1=y.2.1
 | [],i,x,h=>by simp at h
 | y::L,0,x,h=>by
  rw[List.modify_zero_cons]at h
  rcases List.mem_cons.mp h with rfl|h
  ·exact⟨y,List.mem_cons_self,hf y⟩
  ·exact⟨x,zzg _ h,rfl,rfl⟩
 | y::L,i+1,x,h=>by
  rw[List.modify_succ_cons]at h
  rcases List.mem_cons.mp h with rfl|h
  ·exact⟨x,List.mem_cons_self,rfl,rfl⟩
  ·obtain⟨z,hz,e⟩:=Xo_ hf L i x h
   exact⟨z,zzg _ hz,e⟩
theorem WV_{st:SortSt}{z lo n:Nat}{Q:ForInStep (Option Unit×Nat)->SortSt->Prop}(hC:Cmps prog w A s κ rk a₀)(h:Rp κ rk a₀ lo n st)(q:∀st',Rn κ rk a₀ (lo+n) st'->Q (.yield (none,lo+n)) st'):wpS (model prog w) A E s (zaY_ z lo n) Q st:=by
 unfold zaY_
 refine wpS_bind (wpS_get ?_)
 split
 ·refine wpS_bind (wpS_mono (wpS_forRange (I:=λx c st'=>c=(none,())/\Rp κ rk a₀ lo n st') (Q:=λc st'=>c=(none,())/\Rp κ rk a₀ lo n st') (λx c st' _ _ I=>?_) (λc st' I=>I) ⟨rfl,h⟩) λc st' I=>?_)
  ·obtain⟨rfl,r,n1,le,o⟩:=I
   unfold colW
   refine wpS_bind (wpS_get ?_)
   split
   ·rename_i g
    split
    ·exact wpS_pure ⟨rfl,r,n1,le,o⟩
    ·have hs:(pendingOf st').size>1:=by
      rcases Nat.lt_or_ge 1 (pendingOf st').size with c|c
      ·exact c
      ·rw[if_neg (by lia)]at g;cases g
     refine wpS_bind (JH_ hC r (by lia) λst2 r2 _ k2=>?_)
     refine wpS_pure ⟨rfl,r2,n1,le,λi j a1 a2 a3=>?_⟩
     rw[Z1_ (k2 i a1),Z1_ (k2 j (by lia))]
     exact o i j a1 a2 a3
   ·exact wpS_pure ⟨rfl,r,n1,le,o⟩
  ·obtain⟨rfl,r,n1,le,o⟩:=I
   dsimp only
   refine wpS_bind (wpS_modify (zdy_ ⟨⟨r.pm,r.kd,r.fl,?_,λx hx=>?_,r.le⟩,n1,le,o⟩ q))
   ·show Cov ((pendingOf st').modify _ _).toList 0 lo
    rw[Array.toList_modify]
    refine Cov.mod ?_ _ _ _ _ r.cv
    exact λ_=>⟨rfl,rfl⟩
   ·have hx':x∈((pendingOf st').modify _ _).toList:=hx
    rw[Array.toList_modify]at hx'
    have mm:=λ(c:Nat)=>Xo_ (f:=λx=>(x.1,x.2.1,c)) (λ_=>⟨rfl,rfl⟩) (pendingOf st').toList ((pendingOf st').size - 1) x
    obtain⟨y,hy,e1,e2⟩:=mm _ hx'
    rw[e1,e2]
    exact r.so y hy
 ·exact zdy_ h q
theorem Xw_{P:Runs}(h:1<P.size):Xx_ P+1<P.size:=by
 unfold Xx_
 by_cases d:P.size - 2>0
 ·split<;>split<;>lia
 ·rw[if_neg d,if_neg (by simp)]
  lia
theorem zdM_{st:SortSt}{Q:Unit->SortSt->Prop}(hC:Cmps prog w A s κ rk a₀)(h2:1<=a₀.size)(h:Rn κ rk a₀ 0 st)(q:∀st',(arrOf st').Perm a₀->failedOf st'=none->Asc rk (arrOf st') 0 a₀.size->Q () st'):wpS (model prog w) A E s sortRuns' Q st:=by
 rw[zdN_]
 refine wpS_bind (wpS_get ?_)
 have hsz:(arrOf st).size=a₀.size:=h.pm.size_eq
 rw[hsz]
 refine wpS_bind (wpS_mono (wpS_forRange (I:=λx c st'=>∃lo,c=(none,lo)/\Rn κ rk a₀ lo st'/\(x<=lo\/lo=a₀.size)) (Q:=λc st'=>c=(none,a₀.size)/\Rn κ rk a₀ a₀.size st') (λx c st' _ hx I=>?_) (λc st' I=>?_) ⟨0,rfl,h,.inl (Nat.le_refl _)⟩) λc st' I=>?_)
 ·obtain⟨lo,rfl,r,hl⟩:=I
  have rle:=r.le
  dsimp only
  split
  ·have e:lo=a₀.size:=by lia
   subst e
   exact wpS_pure ⟨rfl,r⟩
  ·rename_i c
   have sb:SB κ a₀ lo (arrOf st') (pendingOf st') st':=⟨r.pm,r.kd,r.fl,λ_ _=>rfl,rfl⟩
   have back:∀st2 n,SB κ a₀ lo (arrOf st') (pendingOf st') st2->1<=n->lo+n<=a₀.size->Asc rk (arrOf st2) lo (lo+n)->Rp κ rk a₀ lo n st2:=λst2 n b n1 n2 o=>by
    refine⟨⟨b.pm,b.kd,b.fl,by rw[b.pe];exact r.cv,λx hx=>?_,r.le⟩,n1,n2,o⟩
    rw[b.pe]at hx
    have m:=Cov.mem r.cv hx
    have o:=r.so x hx
    exact λi j a1 a2 a3=>by rw[Z1_ (b.kp i (by lia)),Z1_ (b.kp j (by lia))];exact o i j a1 a2 a3
   refine wpS_bind (zga_ hC (by lia) (by lia) sb λm st2 ⟨b2,m1,m2,o2⟩=>?_)
   dsimp only
   split
   ·refine wpS_bind (wpS_lift (wpAny_rule ⟨rfl,wpS_bind (zhK_ hC (by lia) (by lia) b2 o2 λst3 b3 o3=>?_)⟩))
    rw[if_neg (by decide)]
    exact WV_ hC (back st3 _ b3 (by lia) (by lia) o3) λst4 r4=>⟨_,rfl,r4,.inl (by lia)⟩
   ·exact WV_ hC (back st2 _ b2 m1 (by lia) o2) λst4 r4=>⟨_,rfl,r4,.inl (by lia)⟩
 ·obtain⟨lo,rfl,r,hl⟩:=I
  have:=r.le
  have e:lo=a₀.size:=by lia
  subst e
  exact⟨rfl,r⟩
 ·obtain⟨rfl,r⟩:=I
  dsimp only
  have hp:(pendingOf st').size<=a₀.size:=by
   have:=Cov.le r.cv
   rw[Array.length_toList]at this
   lia
  refine wpS_bind (wpS_mono (wpS_forRange (I:=λx c st2=>c=(none,())/\Rn κ rk a₀ a₀.size st2/\(pendingOf st2).size+x<=a₀.size+1) (Q:=λc st2=>c=(none,())/\Rn κ rk a₀ a₀.size st2/\(pendingOf st2).size<=1) (λx c st2 _ hx I=>?_) (λc st2 I=>?_) ⟨rfl,r,by lia⟩) λc st2 I=>?_)
  ·obtain⟨rfl,r2,sz⟩:=I
   unfold zhe_
   refine wpS_bind (wpS_get ?_)
   split
   ·rename_i c;exact wpS_pure ⟨rfl,r2,c⟩
   ·rename_i c
    refine wpS_bind (JH_ hC r2 (Xw_ (by lia)) λst3 r3 z3 _=>?_)
    exact wpS_pure ⟨rfl,r3,by lia⟩
  ·obtain⟨rfl,r2,sz⟩:=I
   exact⟨rfl,r2,by lia⟩
  ·obtain⟨rfl,r2,sz⟩:=I
   dsimp only
   refine wpS_pure (q st2 r2.pm r2.fl ?_)
   have cv:=r2.cv
   have so:=r2.so
   have hl:(pendingOf st2).toList.length<=1:=by rw[Array.length_toList];exact sz
   match hP:(pendingOf st2).toList,hl,cv,so with
   | [],_,cv,_=>have:0=a₀.size:=cv;lia
   | [(a,n,p)],_,cv,so =>
    obtain⟨rfl,_,e⟩:=cv
    have e':0+n=a₀.size:=e
    have:=so (0,n,p) List.mem_cons_self
    dsimp only at this
    rw[e']at this
    exact this
   | _::_::_,hl,_,_=>simp at hl
end
noncomputable def mid(s:Shared)(a:Addr)(vs:List Value):Shared:={ s with heap:=((s.heap.update a (Obj.mapSeq λ_=>#[])).push (seqObj "tuple" vs.toArray 0)).push (seqObj "list" #[] 0) }
section
variable {prog:Program}{w:World}{A:Around}{E:Value->Shared->Prop}{s:Shared}{κ:SortKind}{rk:Value->Int}
theorem zbz_{a:Addr}{vs:List Value}{n:Nat}{P:Fin->Shared->Prop}(ho:s.heap.get? a=some (seqObj "list" vs.toArray n))(hz:vs.length<=sizeLine)
  (hk:2<=vs.length->∀Q:SortKind->Shared->Prop,Q κ (mid s a vs)->wpAny (model prog w) A (keyKind' vs.toArray) Q E (mid s a vs)) (hC:2<=vs.length->Cmps prog w A (mid s a vs) κ rk (pairsOf vs))
  (h:∀out:Array Value,out.toList.Perm vs->out.toList.Pairwise (λx y=>rk x<=rk y)->P (.done (.ret .none)) { s with heap:=sortedHeap s.heap a vs out }):wpAny (model prog w) A (Builtin.«list.sort» ⟨[.ref a],[]⟩) P E s:=by
 have hlt:=Heap.lt_size ho
 obtain⟨ep,ho1⟩:∃ep,(s.heap.update a (Obj.mapSeq λ_=>#[])).get? a=some (seqObj "list" #[] ep):=⟨_,get?_update_seq ho λ_=>#[]⟩
 have ho2:(mid s a vs).heap.get? a=some (seqObj "list" #[] ep):=by
  unfold mid
  dsimp only
  rw[Heap.get?_push_ne,Heap.get?_push_ne]
  ·exact ho1
  ·rw[Heap.size_update];exact Nat.ne_of_lt hlt
  ·rw[size_push',Heap.size_update];exact Nat.ne_of_lt (Nat.lt_succ_of_lt hlt)
 rw[list_sort_plain]
 refine zza (listItems_at ho rfl (zza (listUpdate_at ho rfl (zza (seqEpoch_at ho1 rfl (zza (wpAny_newTuple (zza (wpAny_newList (wpAny_holding ?_)))))))  (by simpa using hz) (Nat.zero_le _))))
 have mem:∀p∈(pairsOf vs).toList,p.1=p.2/\p.1∈vs:=λp hp=>by
  rw[pairsOf_toList]at hp
  exact mem_zip_self hp
 have fin:∀c:SortSt,(arrOf c).Perm (pairsOf vs)->Asc rk (arrOf c) 0 (arrOf c).size->P (.done (.ret .none)) { s with heap:=sortedHeap s.heap a vs ((arrOf c).map (·.2)) }:=λc hp ha=>by
  have hp':=Array.perm_iff_toList_perm.mp hp
  have e:((arrOf c).map (·.2)).toList=(arrOf c).toList.map (·.1):=by
   rw[Array.toList_map]
   exact List.map_congr_left λp q=>(mem p (hp'.mem_iff.mp q)).1.symm
  refine h _ ?_ ?_
  ·rw[e]
   have:=hp'.map (·.1)
   rwa [pairsOf_toList,List.map_fst_zip (Nat.le_refl _)]at this
  ·rw[e,List.pairwise_map]
   exact uE_ ha
 have size2:∀c:SortSt,(arrOf c).Perm (pairsOf vs)->((arrOf c).map (·.2)).size<=sizeLine+1:=λc hp=>by
  rw[Array.size_map,hp.size_eq,pairsOf_size];lia
 have vz:vs.toArray.size=vs.length:=List.size_toArray ..
 show wpAny (model prog w) A _ P E (mid s a vs)
 by_cases c:vs.length<2
 ·rw[if_pos (by rw[vz];exact c),if_pos (by rw[vz];exact c)]
  refine zza (zzb ?_)
  dsimp only
  rw[StateT.run_pure]
  refine zza (zzb (zza (seqEpoch_at ho2 rfl (zza (listUpdate_at ho2 rfl ?_ (Nat.zero_le _) (size2 (SortSt.mk' general' (vs.toArray.zip vs.toArray) #[] 7 none) (Array.Perm.refl _)))))))
  rw[if_neg (by simp)]
  refine zzb (fin (SortSt.mk' general' (vs.toArray.zip vs.toArray) #[] 7 none) (Array.Perm.refl _) λi j _ ij hj=>?_)
  have hj':j<(pairsOf vs).size:=hj
  rw[pairsOf_size]at hj'
  rw[show i=j by lia]
  exact Int.le_refl _
 ·rw[if_neg (by rw[vz];exact c),if_neg (by rw[vz];exact c)]
  refine zza (hk (by lia) _ ?_)
  have so:=zdM_ (E:=E) (hC (by lia)) (by rw[pairsOf_size];lia) (st:=SortSt.mk' κ (vs.toArray.zip vs.toArray) #[] 7 none) (Q:=λ_ c=>(arrOf c).Perm (pairsOf vs)/\failedOf c=none/\Asc rk (arrOf c) 0 (pairsOf vs).size)
   ⟨Array.Perm.refl _,rfl,rfl,rfl,(λx hx=>by cases hx),Nat.zero_le _⟩ (λc a1 a2 a3=>⟨a1,a2,a3⟩)
  refine zza (wpAny_mono so (λr s' ⟨e,a1,a2,a3⟩=>?_) λ_ _ e=>e)
  subst e
  obtain⟨⟨⟩,c⟩:=r
  dsimp only at a1 a2 a3 ⊢
  refine zza (seqEpoch_at ho2 rfl (zza (listUpdate_at ho2 rfl ?_ (Nat.zero_le _) (size2 c a1))))
  rw[a2]
  dsimp only
  rw[if_neg (by simp)]
  exact zzb (fin c a1 (by rw[a1.size_eq];exact a3))
theorem zfh_{l:Addr}{o:Obj}{n:Nat}{vs:List Value}{Q:List Value->Shared->Prop}(ho:s.heap.get? l=some o)(hc:o.cls=.type "list" \/ o.cls=.type "tuple")(hd:o.data=.seq vs.toArray n)(hz:vs.length<=sizeLine)
  (h:Q vs { s with heap:=(s.heap.push (seqObj "list" #[] 0)).update s.heap.objs.size (Obj.mapSeq (· ++ vs.toArray)) }):wpAny (model prog w) A (collect (.ref l)) Q E s:=by
 have ho':(s.heap.push (seqObj "list" #[] 0)).get? l=some o:=zzc _ ho
 have e0:(s.heap.push (seqObj "list" #[] 0)).get? s.heap.objs.size=some (seqObj "list" #[] 0):=zze _ rfl
 unfold collect
 refine zza (wpAny_runValue (codeAny_builtin entry_proto_collect' ?_))
 show wpAny (model prog w) _ (newList [] >>= λx=>again (.builtin "list.__iadd__" ⟨[x,.ref l],[]⟩)) _ _ s
 refine zza (wpAny_newList (zzb ⟨Code.quiet_builtin _ (by decide +kernel),codeAny_builtin entry_list_iadd' ?_⟩))
 show wpAny (model prog w) _ (Builtin.List.listExtendWith (.ref s.heap.objs.size) (.ref l) (.ref s.heap.objs.size)) _ _ { s with heap:=s.heap.push (seqObj "list" #[] 0) }
 unfold Builtin.List.listExtendWith
 have sz:(((· ++ vs.toArray):Array Value->Array Value) #[]).size<=sizeLine+1:=by
  show(#[]++vs.toArray).size<=_
  rw[Array.size_append,List.size_toArray]
  simp only[List.size_toArray,List.length_nil]
  lia
 have tail:wpAny (model prog w) A (do
   let o <-load s.heap.objs.size
   match o.data with
   | .seq xs _=>pure xs.toList
   | _=>unsupported "internal:collect") Q E { s with heap:=(s.heap.push (seqObj "list" #[] 0)).update s.heap.objs.size (Obj.mapSeq (· ++ vs.toArray)) }:=by
  refine zza (wpAny_load (get?_update_seq e0 _) ?_)
  show wpAny (model prog w) A (pure ((#[]:Array Value)++vs.toArray).toList) Q E _
  rw[show((#[]:Array Value)++vs.toArray).toList=vs by simp]
  exact zzb h
 rcases hc with hc|hc
 ·refine zza (wpAny_typeOf (T := "list") ⟨o,ho',hc⟩ ?_)
  rw[if_pos (by rw[show(Value.type "list" == Value.type "list")=true from rfl];simp)]
  refine zza (listItems_at ho' hd (zza (listItems_at (xs:=#[]) (n:=0) e0 rfl ?_)))
  rw[if_neg (by simp)]
  exact zza (listUpdate_at (xs:=#[]) (n:=0) e0 rfl (zzb tail) (Nat.zero_le _) sz)
 ·refine zza (wpAny_typeOf (T := "tuple") ⟨o,ho',hc⟩ ?_)
  rw[if_pos (by rw[show(Value.type "tuple" == Value.type "tuple")=true from rfl];simp)]
  refine zza (listItems_at ho' hd (zza (listItems_at (xs:=#[]) (n:=0) e0 rfl ?_)))
  rw[if_neg (by simp)]
  exact zza (listUpdate_at (xs:=#[]) (n:=0) e0 rfl (zzb tail) (Nat.zero_le _) sz)
noncomputable def uG_(s:Shared)(vs:List Value):Shared:={ s with heap:=s.heap.push (seqObj "list" vs.toArray 0) }
theorem Jy_{x:Value}{Q:Value->Shared->Prop}(col:∀(E':Value->Shared->Prop) (Q':List Value->Shared->Prop),(∀vs s2,(vs.length<=sizeLine/\∃(κ:SortKind) (rk:Value->Int),
   (2<=vs.length->∀(E':Value->Shared->Prop) (Q:SortKind->Shared->Prop),Q κ (mid (uG_ s2 vs) s2.heap.objs.size vs)->wpAny (model prog w) A.in1.in1 (keyKind' vs.toArray) Q E' (mid (uG_ s2 vs) s2.heap.objs.size vs)) /\
   (2<=vs.length->Cmps prog w A.in1.in1 (mid (uG_ s2 vs) s2.heap.objs.size vs) κ rk (pairsOf vs)) /\
   ∀out:Array Value,out.toList.Perm vs->out.toList.Pairwise (λx y=>rk x<=rk y)->Q (.ref s2.heap.objs.size) { s2 with heap:=sortedHeap (uG_ s2 vs).heap s2.heap.objs.size vs out })->Q' vs s2)->wpAny (model prog w) A.in1 (collect x) Q' E' s) :
  wpAny (model prog w) A (call (.builtin "sorted") [x]) Q E s:=by
 refine Calls.call_function_entry kind_sorted plain_sorted entry_sorted (args_sorted1 _) ?_
 unfold Builtin.«sorted»
 refine zza (m:=checkCount "sorted" 1 1 _) (zzb (zza (col _ _ λvs s2 ⟨hz,κ,rk,hk,hC,h⟩=>zza (wpAny_newList ?_))))
 have hg:(uG_ s2 vs).heap.get? s2.heap.objs.size=some (seqObj "list" vs.toArray 0):=zze _ rfl
 show wpAny _ _ _ _ _ (uG_ s2 vs)
 exact zza (wpAny_holding (wpAny_call_entry slot_list_sort ⟨_,hg,rfl⟩ entry_list_sort (zbz_ hg hz (λc=>hk c _) hC λout a1 a2=>⟨_,rfl,zzb ⟨_,rfl,h out a1 a2⟩⟩) (args_list_sort _)))
theorem UR_{h:Heap}{a:Addr}{vs:List Value}{out:Array Value}{b:Addr}{o:Obj}(hab:b≠a)(e:h.get? b=some o):(sortedHeap h a vs out).get? b=some o:=by
 have hlt:b<h.objs.size:=Heap.lt_size e
 unfold sortedHeap
 rw[Heap.get?_update_ne _ _ _ _ hab,Heap.get?_push_ne _ _ _ (by rw[size_push',Heap.size_update];exact Nat.ne_of_lt (Nat.lt_succ_of_lt hlt)),Heap.get?_push_ne _ _ _ (by rw[Heap.size_update];exact Nat.ne_of_lt hlt),Heap.get?_update_ne _ _ _ _ hab]
 exact e
theorem VJ_{h:Heap}{a:Addr}{vs:List Value}{out:Array Value}{n:Nat}(ho:h.get? a=some (seqObj "list" vs.toArray n)):∃e,(sortedHeap h a vs out).get? a=some (seqObj "list" out e):=by
 have hlt:a<h.objs.size:=Heap.lt_size ho
 obtain⟨ep,e1⟩:∃ep,(h.update a (Obj.mapSeq λ_=>#[])).get? a=some (seqObj "list" #[] ep):=⟨_,get?_update_seq ho λ_=>#[]⟩
 unfold sortedHeap
 refine⟨_,get?_update_seq (n:=ep) (xs:=#[]) ?_ λ_=>out⟩
 rw[Heap.get?_push_ne _ _ _ (by rw[size_push',Heap.size_update];exact Nat.ne_of_lt (Nat.lt_succ_of_lt hlt)),Heap.get?_push_ne _ _ _ (by rw[Heap.size_update];exact Nat.ne_of_lt hlt)]
 exact e1
theorem zeI_{vs:List Value}{b:Addr}{o:Obj}(e:s.heap.get? b=some o):(mid (uG_ s vs) s.heap.objs.size vs).heap.get? b=some o:=by
 have hlt:b<s.heap.objs.size:=Heap.lt_size e
 unfold mid uG_
 dsimp only
 rw[Heap.get?_push_ne _ _ _ (by rw[size_push',Heap.size_update,size_push'];exact Nat.ne_of_lt (Nat.lt_succ_of_lt (Nat.lt_succ_of_lt hlt))),Heap.get?_push_ne _ _ _ (by rw[Heap.size_update,size_push'];exact Nat.ne_of_lt (Nat.lt_succ_of_lt hlt)),Heap.get?_update_ne _ _ _ _ (Nat.ne_of_lt hlt)]
 exact zzc _ e
end
end TS
namespace L4
open PySem PySem.Spec PyProof.Rows L2 L3
section
open HT
theorem Xr_:∀a:List Int,lexLt a a=false
 | []=>rfl
 | x::a=>by rw[lexLt_cons,if_pos rfl];exact Xr_ a
theorem zby_:∀{a b c:List Int},lexLt a b=true->lexLt b c=true->lexLt a c=true
 | [],[],_,h,_=>by cases h
 | [],_::_,[],_,h=>by cases h
 | [],_::_,_::_,_,_=>rfl
 | _::_,[],_,h,_=>by cases h
 | _::_,_::_,[],_,h=>by cases h
 | x::a,y::b,z::c,h1,h2=>by
  rw[lexLt_cons]at h1 h2 ⊢
  by_cases e1:x=y
  ·by_cases e2:y=z
   ·rw[if_pos e1]at h1;rw[if_pos e2]at h2;rw[if_pos (e1.trans e2)]
    exact zby_ h1 h2
   ·rw[if_neg e2,zzi]at h2
    rw[if_neg (by lia),zzi];lia
  ·rw[if_neg e1,zzi]at h1
   by_cases e2:y=z
   ·rw[if_neg (by lia),zzi];lia
   ·rw[if_neg e2,zzi]at h2
    rw[if_neg (by lia),zzi];lia
theorem Q6_:∀{a b:List Int},lexLt a b=false->lexLt b a=false->a=b
 | [],[],_,_=>rfl
 | [],_::_,h,_=>by cases h
 | _::_,[],_,h=>by cases h
 | x::a,y::b,h1,h2=>by
  rw[lexLt_cons]at h1 h2
  by_cases e:x=y
  ·rw[if_pos e]at h1;rw[if_pos e.symm]at h2
   rw[e,Q6_ h1 h2]
  ·rw[if_neg e,decide_eq_false_iff_not]at h1
   rw[if_neg (λz=>e z.symm),decide_eq_false_iff_not]at h2
   lia
theorem ziK_{a b:List Int}(h:lexLt a b=true):lexLt b a=false:=by
 cases q:lexLt b a with
 | false=>rfl
 | true=>have:=zby_ h q;rw[Xr_]at this;cases this
end
theorem X8_{α:Type}{p q:α->Bool}{l:List α}{x:α}(h:∀y∈l,p y=true->q y=true)(hx:x∈l)(h1:p x=false)(h2:q x=true):l.countP p<l.countP q:=by
 induction l with
 | nil=>cases hx
 | cons y l ih =>
  have hm:∀z∈l,p z=true->q z=true:=λz hz=>h z (zzg _ hz)
  have le:l.countP p<=l.countP q:=List.countP_mono_left hm
  rw[List.countP_cons,List.countP_cons]
  rcases List.mem_cons.mp hx with rfl|hx
  ·rw[h1,h2];simp;lia
  ·have:=ih hm hx
   have hy:=h y List.mem_cons_self
   cases e:p y with
   | false=>simp;lia
   | true=>rw[hy e];simp;lia
noncomputable def rankOf{α:Type}(l:List α)(k:α->List Int)(x:α):Int:=(l.countP λu=>HT.lexLt (k u) (k x):Nat)
theorem Y6_{α:Type}{l:List α}{k:α->List Int}{x y:α}(hx:x∈l)(hy:y∈l):decide (rankOf l k x<rankOf l k y)=HT.lexLt (k x) (k y):=by
 have up:∀x y,x∈l->HT.lexLt (k x) (k y)=true->rankOf l k x<rankOf l k y:=λx y hx h=>by
  have:=X8_ (p:=λu=>HT.lexLt (k u) (k x)) (q:=λu=>HT.lexLt (k u) (k y)) (l:=l) (λz _ hz=>zby_ hz h) hx (Xr_ _) h
  unfold rankOf;lia
 cases e:HT.lexLt (k x) (k y)with
 | true=>exact decide_eq_true (up x y hx e)
 | false =>
  rw[decide_eq_false_iff_not]
  intro z
  cases e2:HT.lexLt (k y) (k x)with
  | true=>have:=up y x hy e2;lia
  | false =>
   have ek:=Q6_ e e2
   unfold rankOf at z
   rw[ek]at z
   lia
noncomputable def Vb_:D->Bool
 | .tuple ds=>match intsOf ds with
  | some (_::_)=>true
  | _=>false
 | _=>false
noncomputable def XK_:D->Bool
 | .int _=>true
 | _=>false
noncomputable def jp_(ds:List D):Bool:=ds.all XK_||ds.all Vb_
noncomputable def keyD:D->List Int
 | .int i=>[i]
 | .tuple ds=>(intsOf ds).getD []
 | _=>[]
noncomputable def leK(x y:D):Bool:=!HT.lexLt (keyD y) (keyD x)
def yE_(ds:List D):List D:=ds.mergeSort leK
theorem us_(ds:List D):(yE_ ds).Perm ds:=List.mergeSort_perm ds leK
theorem zha_(x y z:D)(h1:leK x y=true)(h2:leK y z=true):leK x z=true:=by
 unfold leK at *
 rw[Bool.not_eq_true']at *
 cases e:HT.lexLt (keyD z) (keyD x)with
 | false=>rfl
 | true =>
  exfalso
  cases e2:HT.lexLt (keyD x) (keyD y)with
  | true=>have:=zby_ e e2;rw[h2]at this;cases this
  | false=>rw[Q6_ e2 h1,h2]at e;cases e
theorem zeN_(x y:D):(leK x y||leK y x)=true:=by
 unfold leK
 cases e:HT.lexLt (keyD y) (keyD x)with
 | false=>rfl
 | true=>rw[ziK_ e];rfl
theorem UU_(ds:List D):(yE_ ds).Pairwise λx y=>leK x y=true:=List.pairwise_mergeSort zha_ zeN_ ds
theorem US_{R:D->D->Prop}:∀{a b:List D},(∀x∈b,∀y∈b,R x y->R y x->x=y)->a.Perm b->a.Pairwise R->b.Pairwise R->a=b
 | [],b,_,hp,_,_=>by simpa using hp.symm.eq_nil
 | x::r,b,hR,hp,ha,hb=>by
  cases b with
  | nil=>exact absurd hp.length_eq (by simp)
  | cons y t =>
   rw[List.pairwise_cons]at ha hb
   have hx:x∈y::t:=hp.mem_iff.mp List.mem_cons_self
   have hy:y∈x::r:=hp.mem_iff.mpr List.mem_cons_self
   have e:x=y:=by
    rcases List.mem_cons.mp hx with e|hx'
    ·exact e
    ·rcases List.mem_cons.mp hy with e|hy'
     ·exact e.symm
     ·exact hR x hx y List.mem_cons_self (ha.1 y hy') (hb.1 x hx')
   subst e
   rw[US_ (λx hx y hy=>hR x (zzg _ hx) y (zzg _ hy)) (List.Perm.cons_inv hp) ha.2 hb.2]
theorem yp_{d:D}(h:Vb_ d=true):∃n r,d=.tuple ((n::r).map PyData.int):=by
 unfold Vb_ at h
 split at h
 ·rename_i ds
  split at h
  ·rename_i n r e;exact⟨n,r,by rw[jM_ e]⟩
  ·cases h
 ·cases h
theorem yo_{d:D}(h:XK_ d=true):∃n,d=.int n:=by
 cases d<;>first|exact⟨_,rfl⟩|cases h
theorem zeS_{ds:List D}(h:jp_ ds=true):∀x∈ds,∀y∈ds,keyD x=keyD y->x=y:=λx hx y hy e=>by
 unfold jp_ at h
 rw[Bool.or_eq_true,List.all_eq_true,List.all_eq_true]at h
 rcases h with h|h
 ·obtain⟨n,rfl⟩:=yo_ (h x hx)
  obtain⟨m,rfl⟩:=yo_ (h y hy)
  have e':[n]=[m]:=e
  injection e' with e'
  rw[e']
 ·obtain⟨n,r,rfl⟩:=yp_ (h x hx)
  obtain⟨m,t,rfl⟩:=yp_ (h y hy)
  have kt:∀l:List Int,keyD (.tuple (l.map PyData.int))=l:=λl=>by
   show(intsOf (l.map PyData.int)).getD []=l
   rw[JM_];rfl
  rw[kt,kt]at e
  rw[e]
theorem zaM_{ds r:List D}(h:jp_ ds=true)(hp:r.Perm ds)(hs:r.Pairwise λx y=>leK x y=true):r=yE_ ds :=
 US_ (λx hx y hy h1 h2=>zeS_ h x ((us_ ds).mem_iff.mp hx) y ((us_ ds).mem_iff.mp hy) (by
  unfold leK at h1 h2
  rw[Bool.not_eq_true']at h1 h2
  exact Q6_ h2 h1)) (hp.trans (us_ ds).symm) hs (UU_ ds)
theorem zbe_{α β:Type}{f:α->β}:∀{out:List β} {l:List α},out.Perm (l.map f)->∃l':List α,l'.Perm l/\l'.map f=out:=by
 intro out l h
 generalize e:l.map f=m at h
 induction h generalizing l with
 | nil =>
  cases l with
  | nil=>exact⟨[],.refl _,rfl⟩
  | cons y l=>cases e
 | @cons x a b hp ih =>
  cases l with
  | nil=>cases e
  | cons y l =>
   rw[List.map_cons]at e
   injection e with e1 e2
   obtain⟨l',h1,h2⟩:=ih e2
   exact⟨y::l',h1.cons y,by rw[List.map_cons,h2,e1]⟩
 | @swap x y a =>
  match l,e with
  | u::v::l,e =>
   rw[List.map_cons,List.map_cons]at e
   injection e with e1 e2
   injection e2 with e2 e3
   exact⟨v::u::l,.swap _ _ _,by rw[List.map_cons,List.map_cons,e1,e2,e3]⟩
 | @trans a b c h1 h2 ih1 ih2 =>
  obtain⟨l1,p1,q1⟩:=ih2 e
  obtain⟨l2,p2,q2⟩:=ih1 q1
  exact⟨l2,p2.trans p1,q2⟩
end L4
namespace L4
open PySem PySem.Spec PyProof.Rows L2 L3 TS
theorem Qr_{prog:Program}{w:World}{A:Around}{s:Shared}{b fin:Bool}{Q:Bool->Shared->Prop}:∀{vs us:List Value} {ns ms:List Int} (i:Nat),IntsAre vs ns->IntsAre us ms->fin=decide (vs.length<us.length)->Q (HT.lexLt ns ms) s ->
  PySem.W.KatLex prog w A b fin Q (vs.zip us) i s:=by
 intro vs us ns ms i h1 h2 e q
 induction h1 generalizing us ms i with
 | nil=>cases h2<;>(subst e;exact q)
 | cons x t h1 ih=>cases h2 with
  | nil=>subst e;exact q
  | cons y u h2 =>
   rw[List.zip_cons_cons]
   refine PySem.W.kat_cons (wpAny_eqBool_int ?_)
   rw[HT.lexLt_cons]at q
   by_cases c:x=y
   ·rw[if_pos c]at q
    rw[show(x==y)=true by simpa using c]
    exact PySem.W.kat_yes (ih (i+1) h2 (by rw[e];simp) q)
   ·rw[if_neg c]at q
    rw[show(x==y)=false by simpa using c]
    refine PySem.W.kat_no ?_
    cases hb:(b&&i==0)with
    | true=>exact oneLt_int q
    | false=>exact PySem.W.kat_one _ _ (lt_int q)
theorem triples{K:Fg}{F:Hp}:∀{vs:List V} {ds:List D} {its:List Value},RepL K F vs ds->Vals vs its->∃L:List (V×D×Value),L.map (·.1)=vs/\L.map (·.2.1)=ds/\L.map (·.2.2)=its/\∀t∈L,Rep K F t.1 t.2.1/\RelV t.1 t.2.2:=by
 intro vs ds its h r
 induction vs generalizing ds its with
 | nil=>cases h;cases r;exact⟨[],rfl,rfl,rfl,λ_ h=>by cases h⟩
 | cons v vs ih=>cases h with
  | cons h t=>cases r with
   | cons r rr =>
    obtain⟨L,e1,e2,e3,e4⟩:=ih t rr
    refine⟨(_,_,_)::L,by rw[List.map_cons,e1],by rw[List.map_cons,e2],by rw[List.map_cons,e3],λx hx=>?_⟩
    rcases List.mem_cons.mp hx with rfl|hx
    ·exact⟨h,r⟩
    ·exact e4 x hx
theorem QM_{K:Fg}{F:Hp}:∀{L:List (V×D×Value)},(∀t∈L,Rep K F t.1 t.2.1/\RelV t.1 t.2.2)->RepL K F (L.map (·.1)) (L.map (·.2.1))/\Vals (L.map (·.1)) (L.map (·.2.2))
 | [],_=>⟨.nil,.nil⟩
 | x::L,h=>by
  obtain⟨h1,h2⟩:=h x List.mem_cons_self
  obtain⟨h3,h4⟩:=QM_ (L:=L) λt ht=>h t (zzg _ ht)
  exact⟨.cons h1 h3,.cons h2 h4⟩
def zdZ_(K:Fg):List V->Hp->VK->Prop:=λxs H Q=>∃(G:Gh) (F:Hp) (σ:L2.St) (ρ:En) (x:V) (d:D) (ds:List D),xs=[x]/\StOk K G F σ H ρ/\OR K F H x d/\seqD d=some ds/\jp_ ds=true /\
 ∀l vs,H l=none->RepL K F vs (yE_ ds)->Q (.ref l) (upd H l (.lst vs))
def zbX_:List D->Option (List D)
 | [d]=>match seqD d with
  | some ds=>if jp_ ds then some (yE_ ds)else none
  | none=>none
 | _=>none
theorem zbD_{ds:List D}(h:jp_ ds=true):PyData.canLayAll0 ds=true:=by
 have all:∀l:List D,(∀d∈l,d.canLay0=true)->PyData.canLayAll0 l=true:=by
  intro l
  induction l with
  | nil=>intro _;simp[PyData.canLayAll0]
  | cons a l ih =>
   intro h
   simp only[PyData.canLayAll0,Bool.and_eq_true]
   exact⟨h a List.mem_cons_self,ih λd hd=>h d (zzg _ hd)⟩
 refine all ds λd hd=>?_
 unfold jp_ at h
 rw[Bool.or_eq_true,List.all_eq_true,List.all_eq_true]at h
 rcases h with h|h
 ·obtain⟨n,rfl⟩:=yo_ (h d hd)
  simp[PyData.canLay0]
 ·obtain⟨n,r,rfl⟩:=yp_ (h d hd)
  simp only[PyData.canLay0]
  refine all _ λd hd=>?_
  obtain⟨m,_,rfl⟩:=List.mem_map.mp hd
  simp[PyData.canLay0]
theorem Z3_{h:Heap}:∀{vs:List Value} {ns:List Int} {as:List Addr},ReadsAll h vs (ns.map PyData.int) as->IntsAre vs ns
 | _,[],_,r=>by rw[List.map_nil]at r;cases r;exact .nil
 | _,n::ns,_,r=>by
  rw[List.map_cons]at r
  cases r with
  | cons a b =>
   cases a with
   | int i t=>exact .cons n t (Z3_ b)
theorem all_ints:∀{ds:List D},ds.all XK_=true->∃ns:List Int,ds=ns.map PyData.int
 | [],_=>⟨[],rfl⟩
 | d::ds,h=>by
  rw[List.all_cons,Bool.and_eq_true]at h
  obtain⟨n,rfl⟩:=yo_ h.1
  obtain⟨ns,rfl⟩:=all_ints h.2
  exact⟨n::ns,rfl⟩
theorem UT_{X:Cx}{pins:List (Addr×Obj)}{σ σ':L2.St}{H F:Hp}{s:Shared}{G:Gh}{ρ:En}{vs:List V}{ds:List D}{its:List Value}{Q:VK}(I:Inv X pins σ H s)(S:StOk X.K G F σ' H ρ)(rl:RepL X.K F vs ds)(rv:Vals vs its)(hz:vs.length<=sizeLine)(hok:jp_ ds=true)
  (k:∀l vs,H l=none->RepL X.K F vs (yE_ ds)->Q (.ref l) (upd H l (.lst vs))):its.length<=sizeLine/\∃(κ:SortKind) (rk:Value->Int),
   (2<=its.length->∀(E':Value->Shared->Prop) (Q:SortKind->Shared->Prop),Q κ (mid (uG_ s its) s.heap.objs.size its)->wpAny (model X.prog X.w) X.A.in1.in1 (keyKind' its.toArray) Q E' (mid (uG_ s its) s.heap.objs.size its)) /\
   (2<=its.length->Cmps X.prog X.w X.A.in1.in1 (mid (uG_ s its) s.heap.objs.size its) κ rk (pairsOf its)) /\
   ∀out:Array Value,out.toList.Perm its->out.toList.Pairwise (λx y=>rk x<=rk y)->EP X pins σ Q (.ref s.heap.objs.size) { s with heap:=sortedHeap (uG_ s its).heap s.heap.objs.size its out }:=by
 have lay:=zbD_ hok
 have I1:Inv X pins σ H (mid (uG_ s its) s.heap.objs.size its):=I.kept (t':=s.toks) λb o e=>zeI_ e
 obtain⟨as,ra⟩:=(zY_ I1).2 (rl.mono S.fh) lay rv
 generalize hs1:mid (uG_ s its) s.heap.objs.size its=s1 at I1 ra
 have emap:its.map (SeqAt.readOf s1.heap)=ds:=SeqAt.readsAll_map ds _ _ lay ra
 let kf:Value->List Int:=λv=>keyD (SeqAt.readOf s1.heap v)
 have hmem:∀x,x∈(pairsOf its).toList->x.1∈its:=λx hx=>by
  rw[pairsOf_toList]at hx
  exact(mem_zip_self hx).2
 have hzl:its.length<=sizeLine:=by rw[<-rv.length];exact hz
 have fin:∀out:Array Value,out.toList.Perm its->out.toList.Pairwise (λx y=>rankOf its kf x<=rankOf its kf y)->EP X pins σ Q (.ref s.heap.objs.size) { s with heap:=sortedHeap (uG_ s its).heap s.heap.objs.size its out }:=λout o1 o2=>by
  obtain⟨L,e1,e2,e3,e4⟩:=triples rl rv
  rw[<-e3]at o1
  obtain⟨L',p1,p2⟩:=zbe_ o1
  have e4':∀t∈L',Rep X.K F t.1 t.2.1/\RelV t.1 t.2.2:=λt ht=>e4 t (p1.mem_iff.mp ht)
  have rd:∀t∈L',SeqAt.readOf s1.heap t.2.2=t.2.1:=λt ht=>by
   obtain⟨a1,a2⟩:=e4' t ht
   have:t.2.1∈ds:=by rw[<-e2];exact List.mem_map.mpr ⟨t,p1.mem_iff.mp ht,rfl⟩
   have al:∀l:List D,PyData.canLayAll0 l=true->∀d∈l,d.canLay0=true:=by
    intro l
    induction l with
    | nil=>intro _ d hd;cases hd
    | cons a l ih =>
     intro h d hd
     simp only[PyData.canLayAll0,Bool.and_eq_true]at h
     rcases List.mem_cons.mp hd with rfl|hd
     ·exact h.1
     ·exact ih h.2 d hd
   have hcl:=al ds lay _ this
   obtain⟨bs,rb⟩:=(zY_ I1).1 (a1.mono S.fh) hcl a2
   exact SeqAt.readOf_eq hcl rb
  obtain⟨u1,u2⟩:=QM_ e4'
  have es:L'.map (·.2.1)=yE_ ds:=by
   refine zaM_ hok (by rw[<-e2];exact p1.map _) ?_
   rw[<-p2,List.pairwise_map]at o2
   rw[List.pairwise_map]
   refine List.Pairwise.imp_of_mem (λ{x y} hx hy h=>?_) o2
   have mx:x.2.2∈its:=by rw[<-e3];exact List.mem_map.mpr ⟨x,p1.mem_iff.mp hx,rfl⟩
   have my:y.2.2∈its:=by rw[<-e3];exact List.mem_map.mpr ⟨y,p1.mem_iff.mp hy,rfl⟩
   have q:=Y6_ (k:=kf) my mx
   rw[decide_eq_false (by lia)]at q
   show(!HT.lexLt (keyD y.2.1) (keyD x.2.1))=true
   rw[<-rd x hx,<-rd y hy]
   show(!HT.lexLt (kf y.2.2) (kf x.2.2))=true
   rw[<-q];rfl
  rw[es]at u1
  rw[p2]at u2
  obtain⟨ep,he⟩:=VJ_ (out:=out) (show(uG_ s its).heap.get? s.heap.objs.size=some (seqObj "list" its.toArray 0)from zze _ rfl)
  refine⟨.ref s.heap.objs.size,upd H s.heap.objs.size (.lst (L'.map (·.1))),I.laid (t':=s.toks) (λb o q=>UR_ (Nat.ne_of_lt (Heap.lt_size q)) (zzc _ q)) (Nat.le_refl _) ⟨?_,out.toList,ep,u2,?_⟩,rfl,k _ _ (I.hok.fresh (Nat.le_refl _)) u1⟩
  ·rw[u2.length,<-p2,zzd,p1.length_eq,<-zzd (f:=λt:V×D×Value=>t.2.2),e3];exact hzl
  ·exact he
 have hok':=hok
 unfold jp_ at hok'
 rw[Bool.or_eq_true]at hok'
 rcases hok' with hI|hT
 ·obtain⟨ns,rfl⟩:=all_ints hI
  have ia:IntsAre its ns:=Z3_ ra
  have kfi:∀{m:Int} {t:Tok},kf (.int m t)=[m]:=λ{m t}=>by
   show keyD (SeqAt.readOf s1.heap (.int m t))=[m]
   rw[SeqAt.readOf_eq (d:=.int m) (by simp[PyData.canLay0]) (.int m t)]
   rfl
  refine⟨hzl,oneType',rankOf its kf,λh2 E' Q' q=>?_,λh2 x y hx hy E' Q' q=>?_,fin⟩
  ·match its,ia,h2,q with
   | v1::v2::rest,ia,_,q =>
    rw[keyKind_ints ia]
    exact zzb q
  ·have hx':=hmem x hx
   have hy':=hmem y hy
   rw[Y6_ hx' hy']at q
   obtain⟨m1,t1,e1⟩:=ia.all _ hx'
   obtain⟨m2,t2,e2⟩:=ia.all _ hy'
   rw[e1,e2]at q ⊢
   rw[kfi,kfi]at q
   rw[keyLt'_oneType]
   refine oneLt_int ?_
   have:HT.lexLt [m1] [m2]=decide (m1<m2):=by
    rw[HT.lexLt_cons]
    split
    ·rename_i e;rw[e];simp[HT.lexLt_nil_nil]
    ·rfl
   rw[this]at q
   exact q
 ·rw[List.all_eq_true]at hT
  have each:∀v∈its,∃(a:Addr) (o:Obj) (xs:List Value) (n:Nat) (m:Int) (ms:List Int),v=.ref a/\s1.heap.get? a=some o/\o.cls=.type "tuple" /\ o.data=.seq xs.toArray n/\IntsAre xs (m::ms)/\kf v=m::ms:=λv hv=>by
   obtain⟨dv,bs,rd,hl,_⟩:=SeqAt.readsAll_mem ds its _ lay ra v hv
   have er:=SeqAt.readOf_eq hl rd
   have hin:dv∈ds:=by rw[<-emap,<-er];exact List.mem_map.mpr ⟨v,hv,rfl⟩
   obtain⟨m,ms,rfl⟩:=yp_ (hT dv hin)
   cases rd with
   | tuple g1 g2 g3 g4 =>
    rename_i a o vs' n
    refine⟨a,o,vs'.toList,n,m,ms,rfl,g1,g2,by rw[g3],Z3_ g4,?_⟩
    show keyD (SeqAt.readOf s1.heap (.ref a))=_
    rw[er]
    show(intsOf ((m::ms).map PyData.int)).getD []=_
    rw[JM_];rfl
  refine⟨hzl,tuples' true,rankOf its kf,λh2 E' Q' q=>?_,λh2 x y hx hy E' Q' q=>?_,fin⟩
  ·have fs:∀l:List Value,(∀v∈l,v∈its)->∃fs:List Value,PySem.W.KatTups s1.heap l fs/\fs.length=l.length/\∀v∈fs,∃i t,v=.int i t:=by
    intro l
    induction l with
    | nil=>intro _;exact⟨[],trivial,rfl,λ_ h=>by cases h⟩
    | cons v l ih =>
     intro hl
     obtain⟨fs,f1,f2,f3⟩:=ih λv hv=>hl v (zzg _ hv)
     obtain⟨a,o,xs,n,m,ms,rfl,g1,g2,g3,g4,_⟩:=each v (hl v List.mem_cons_self)
     cases g4 with
     | cons _ t g5 =>
      refine⟨.int m t::fs,PySem.W.KatTups.cons g1 g2 g3 (by simp) f1,by simp[f2],λv hv=>?_⟩
      rcases List.mem_cons.mp hv with rfl|hv
      ·exact⟨_,_,rfl⟩
      ·exact f3 v hv
   obtain⟨fs,f1,f2,f3⟩:=fs its λ_ h=>h
   refine PySem.W.kat_kind f1 (by lia) (T:=.type "int") (λv hv=>?_) rfl q
   obtain⟨i,t,rfl⟩:=f3 v hv
   exact PySem.W.Looks.now
  ·have hx':=hmem x hx
   have hy':=hmem y hy
   rw[Y6_ hx' hy']at q
   obtain⟨a1,o1,xs1,n1,m1,ms1,e1,g1,g2,g3,g4,g5⟩:=each _ hx'
   obtain⟨a2,o2,xs2,n2,m2,ms2,e2,k1,k2,k3,k4,k5⟩:=each _ hy'
   rw[g5,k5]at q
   rw[e1,e2]
   refine PySem.W.kat_lt g1 g3 k1 k3 ?_
   have:=Qr_ (prog:=X.prog) (w:=X.w) (A:=X.A.in1.in1) (b:=true) (Q:=Q') 0 g4 k4 rfl q
   simpa using this
theorem zad_{X:Cx}:CallR X (.builtin "sorted") (zdZ_ X.K):=by
 intro pins s σ H xs us Q I r h0
 obtain⟨G,F,σ',ρ,x,d,ds,rfl,S,ho,hd,hok,k⟩:=h0
 obtain⟨u,rfl,ru⟩:=L2.Vals.one r
 have hseq:∃(p:Addr) (o:Obj) (n:Nat) (vs:List V) (its:List Value),u=.ref p/\s.heap.get? p=some o/\(o.cls=.type "list" \/ o.cls=.type "tuple")/\o.data=.seq its.toArray n/\Vals vs its/\vs.length<=sizeLine/\RepL X.K F vs ds:=by
  cases d with
  | list es =>
   cases hd
   obtain⟨a,vs,rfl,h1,h2⟩:=ho.list S.fh
   cases ru
   obtain⟨its,rv,pl,hz⟩:=I.list h1
   obtain⟨o,e1,e2,n,e3⟩:=pl.isList
   exact⟨a,o,n,vs,its,rfl,e1,.inl e2,e3,rv,hz,h2⟩
  | tuple es =>
   cases hd
   obtain⟨a,vs,rfl,h1,h2⟩:=ho.tuple S.fh
   cases ru
   obtain⟨its,rv,⟨o,e1,e2,n,e3⟩,hz⟩:=I.tuple h1
   exact⟨a,o,n,vs,its,rfl,e1,.inr e2,e3,rv,hz,h2⟩
  | _=>cases hd
 obtain⟨p,o,n,vs,its,rfl,hp,hcl,hdat,rv,hz,rl⟩:=hseq
 have I2:Inv X pins σ H { s with heap:=(s.heap.push (seqObj "list" #[] 0)).update s.heap.objs.size (Obj.mapSeq (· ++ its.toArray)) }:=I.kept (t':=s.toks) λb o e=>by
  have hlt:b<s.heap.objs.size:=Heap.lt_size e
  rw[Heap.get?_update_ne _ _ _ _ (Nat.ne_of_lt hlt)]
  exact zzc _ e
 exact Jy_ λE' Q' q=>zfh_ hp hcl hdat (by rw[<-rv.length];exact hz) (q _ _ (UT_ I2 S rl rv hz hok k))
theorem zez_{K:Fg}:Wr_ K (zdZ_ K) zbX_:=by
 intro G F σ H ρ xs ds res Q S o e k
 unfold zbX_ at e
 split at e
 ·rename_i d
  split at e
  ·rename_i es hes
   split at e
   ·rename_i hok
    cases e
    obtain⟨v,r,rfl,ho,hr⟩:=zG_ o
    obtain rfl:=zT_ hr
    refine⟨G,F,σ,ρ,v,d,es,rfl,S,ho,hes,hok,λl vs hl rp=>?_⟩
    obtain⟨S2,r2⟩:=S.newLst hl rp
    exact k _ F _ (Same.refl _) S2 r2
   ·cases e
  ·cases e
 ·cases e
end L4
namespace TS
open PySem PyProof.Rows
def DR(h:Heap)(d:Addr)(es:Array DictEntry)(ep:Nat):Prop:=∃o,h.get? d=some o/\o.ExactDict/\o.data=.dict es ep
theorem DR.ty{s:Shared}{d:Addr}{es:Array DictEntry}{ep:Nat}(x:DR s.heap d es ep):s.TypeIs (.ref d) "dict":=let ⟨o,e,c,_⟩:=x;⟨o,e,c.1⟩
theorem DR.kp{h h':Heap}{d:Addr}{es:Array DictEntry}{ep:Nat}(x:DR h d es ep)(k:∀o,h.get? d=some o->h'.get? d=some o):DR h' d es ep:=let ⟨o,e,r⟩:=x;⟨o,k o e,r⟩
section
variable {prog:Program}{w:World}{A:Around}{E:Value->Shared->Prop}{s:Shared}{d it:Addr}{es:Array DictEntry}{ep i:Nat}
theorem zeV_{Q:Value->Shared->Prop}(lo:(d==sysModules)=false)(x:DR s.heap d es ep)(q:Q (.ref s.heap.objs.size) { s with heap:=s.heap.push { cls:=.type "dict_keyiterator",data:=.fields #[.ref d,.int 0 0,.int es.size 0,.int ep 0] } }) :
  wpAny (model prog w) A (pyIter (.ref d)) Q E s:=by
 obtain⟨o,e1,e2,e3⟩:=id x
 refine wpAny_pyIter_slot x.ty F.slot_dict_iter (wpAny_call_entry F.slot_dict_iter x.ty F.entry_dict_iter ?_ (F.args_dict_iter_1 _))
 unfold Builtin.«dict.__iter__»
 refine zza ?_
 unfold Builtin.Dict.dictSlotNone
 refine zza (wpAny_notOrdered_dict x.ty (show wpAny (model prog w) _ (pure (Value.ref d)) _ _ s from zzb ?_))
 refine(show wpAny (model prog w) _ (Builtin.Dict.showsAll d >>= _) _ _ s from ?_)
 unfold Builtin.Dict.showsAll
 rw[if_neg (by rw[lo];decide)]
 refine zza (zzb (zza (wpAny_dictEntries e1 e3 (zza (wpAny_dictEpoch e1 e3 (zza (wpAny_newObj_type (zzb ⟨_,rfl, "dict_keyiterator",_,⟨_,zze _ rfl,rfl⟩,F.slot_dict_keyiterator_next.lookup,?_⟩))))))))
 simpa[rawInt]using q
theorem Xl_{n:Nat}{Q:Option Value->Shared->Prop}(hit:s.heap.IsKeyIter it d i es.size ep)(x:DR s.heap d es ep)
  (q1:∀(hi:i<es.size) (h':Heap),h'.IsKeyIter it d (i+1) es.size ep->Heap.SameBut it s.heap h'->Q (some es[i].key) { s with heap:=h' })
  (q2:es.size<=i->A.handled=none/\∀h',Heap.ExtBut it s.heap h'->Q none { s with heap:=h' }):wpAny (model prog w) A (pyNext (.ref it)) Q E s:=by
 obtain⟨o,ho,hc,hd⟩:=id hit
 obtain⟨od,f1,f2,f3⟩:=id x
 have T:=hit.typeIs
 have no:Builtin.Dict_items.ownsTuple "dict_keyiterator" = false:=by decide
 have pos:¬ ((i:Int)<0):=by lia
 unfold pyNext
 refine zza (wpAny_attempt (wpAny_callSpecial?_slot (name:=Str.ofString "__next__") T F.slot_dict_keyiterator_next (wpAny_call_entry F.slot_dict_keyiterator_next T F.entry_dict_keyiterator_next ?_ (F.args_dict_keyiterator_next_1 _))))
 refine zza (zzb (zza (zza (zza (wpAny_typeNameOfWhole_keyiter T (zzb (zza (wpAny_fieldsOf ho hd ?_))))))))
 simp only[no,Bool.false_eq_true,if_false]
 refine(show wpAny (model prog w) _ (if(Value.ref d==Value.none)=true then _ else _) _ _ s from ?_)
 rw[if_neg (show ¬ ((Value.ref d==Value.none)=true)from λz=>Bool.noConfusion z)]
 refine zza (zzb (zza (wpAny_dictEntries f1 f3 ?_)))
 rw[if_neg (by simp)]
 refine zza (zzb (zza (wpAny_dictEpoch f1 f3 ?_)))
 rw[if_neg (by simp)]
 refine zzb ?_
 by_cases hi:i<es.size
 ·simp only[pos,if_false,Int.toNat_natCast,Array.getElem?_eq_getElem hi]
  refine zza (zza (wpAny_typeNameOfWhole_keyiter T (zzb (zza (wpAny_isOneOf_keyiter T ?_)))))
  refine(show wpAny (model prog w) _ (setField (.ref it) 1 (rawInt ((i:Int)+1)) >>= _) _ _ s from zza (wpAny_setField ho hd (by simp) ?_))
  have hit':(s.heap.update it (Obj.mapFields (·.setIfInBounds 1 (rawInt ((i:Int)+1))))).IsKeyIter it d (i+1) es.size ep :=
   ⟨_,Heap.get?_update_self _ ho (Obj.isFreed_of_fields (Obj.data_mapFields hd _)),(Obj.cls_mapFields ..).trans hc,by rw[Obj.data_mapFields hd];simp[rawInt]⟩
  refine zza (wpAny_holding (zza (wpAny_isOneOf_keyiter (s:={ s with heap:=s.heap.update it (Obj.mapFields (·.setIfInBounds 1 (rawInt ((i:Int)+1)))) }) hit'.typeIs ?_)))
  refine(show wpAny (model prog w) _ (pure es[i].key) _ _ _ from zzb (zzb ⟨_,rfl,zzb (q1 hi _ hit' (Heap.SameBut.update ..))⟩))
 ·obtain⟨hh,q⟩:=q2 (by lia)
  simp only[pos,if_false,Int.toNat_natCast,Array.getElem?_eq_none (show es.size<=i by lia)]
  refine zza (zza (wpAny_typeNameOfWhole_keyiter T (zzb ?_)))
  refine(show wpAny (model prog w) _ (setField (.ref it) 0 .none >>= _) _ _ s from zza (wpAny_setField ho hd (by simp) ?_))
  refine(show wpAny (model prog w) _ (newExc (.type "StopIteration") [] >>= _) _ _ _ from zza ?_)
  simp only[newExc,newTuple]
  refine zza (wpAny_newObj_type ?_ (by size_fits))
  refine zza (m:=firstArgMember _ _) (wpAny_of_eq (a:=Value.none) (by first|rfl|(simp only[firstArgMember];rfl)) ?_)
  refine wpAny_newObj_type ?_ (by size_fits)
  simp only[raiseNew]
  refine zza (wpAny_handled ?_)
  rw[show A.in1.handled=none from hh]
  refine zza (zzb (wpAny_throw ?_))
  refine zza (wpAny_isInstance (T := "StopIteration") (b:=true) (by exact⟨_,zze _ rfl,rfl⟩) isSubtype_stop ?_)
  exact zzb (q _ (((Heap.SameBut.update ..).extBut.push _).push _))
theorem QP_(lo:(d==sysModules)=false):PySem.W.KdlSrc prog w "dict" d d es.size (λi v=>∃e,es[i]? = some e/\v=e.key) (λh=>DR h d es ep) where
 type:=λ_ x=>x.ty
 there:=λh x=>let ⟨_,e,_⟩:=x;⟨Heap.lt_size e,Heap.lt_size e⟩
 keep:=λ_ _ x k=>x.kp λo e=>k d (.inl rfl) o e
 notList:=by decide
 notTuple:=by decide
 hint:=λ_ _ _ _ x q=>PySem.W.kdl_hint_dict x.ty q
 iter:=λA s hh x=>by
  have hne:d≠s.heap.objs.size:=by obtain⟨_,e,_⟩:=x;exact Nat.ne_of_lt (Heap.lt_size e)
  refine⟨_,λi h=>h.IsKeyIter s.heap.objs.size d i es.size ep/\DR h d es ep,λE Q q=>zeV_ lo x q,⟨?_,?_,?_,?_,?_⟩,⟨_,zze _ rfl,rfl,rfl⟩,x.kp λo e=>zzc _ e⟩
  ·intro b hb
   rw[List.mem_singleton.mp hb]
   exact List.mem_cons_self
  ·intro i h h' st k
   exact⟨st.1.at λo e=>k _ List.mem_cons_self o e,st.2.kp λo e=>k d (by simp) o e⟩
  ·intro i s1 Q E hi st q
   refine Xl_ (n:=0) st.1 st.2 (λhi h' a1 a2=>q _ h' s1.toks ⟨_,Array.getElem?_eq_getElem hi,rfl⟩ ⟨a1,st.2.kp λo e=>a2.extBut d o hne e⟩ λb o hb e=>a2.extBut b o (λz=>hb (by simp[z])) e) λz=>absurd hi (by lia)
  ·intro s1 Q E st q
   exact Xl_ (n:=0) st.1 st.2 (λhi=>absurd hi (Nat.lt_irrefl _)) λ_=>⟨hh,λh' a=>q h' s1.toks λb o hb e=>a b o (λz=>hb (by simp[z])) e⟩
  ·intro i s1 Q E st q
   exact wpAny_pyIter_keyiter st.1 q
end
end TS
namespace L4
open PySem PySem.Spec PyProof.Rows L2 L3 TS
theorem _root_.L3.StOk.seeT{K:Fg}{G:Gh}{F H:Hp}{σ:L2.St}{ρ:En}(S:StOk K G F σ H ρ){b:Addr}{vs:List V}{ds:List D}(hb:H b=some (.tup vs))(r:RepL K F vs ds):∃F',Same F F'/\StOk K G F' σ H ρ/\Rep K F' (.ref b) (.tuple ds):=by
 cases e:F b with
 | some o =>
  have:=S.fh b o e
  rw[hb]at this
  cases this
  exact⟨F,Same.refl _,S,.tup e r⟩
 | none =>
  have og:G.O b=none:=by
   cases q:G.O b with
   | none=>rfl
   | some o =>
    have:=S.oh b o q
    rw[hb]at this
    cases this
    exact((S.fo b _ q).2:False).elim
  refine⟨upd F b (.tup vs),z4_ e,S.freeze hb e og (λi c ho z=>?_),.tup zn_ (r.mono (z4_ e))⟩
  obtain⟨a,e1,oa⟩:=S.ow i c ho
  rw[z]at e1
  injection e1 with e1;injection e1 with e1;injection e1 with e1
  subst e1
  exact(oa.he.notup hb:False)
theorem zdX_{K:Fg}{F:Hp}:∀k:Key,Rep K F (kV k) (L3.keyD k)
 | .inl i=>.int i
 | .inr x=>.str x
theorem Ud_{K:Fg}{F:Hp}:∀ks:List Key,RepL K F (ks.map kV) (ks.map L3.keyD)
 | []=>.nil
 | k::ks=>.cons (zdX_ k) (Ud_ ks)
theorem zaP_{K:Fg}{G:Gh}{H:Hp}{σ:L2.St}{ρ:En}:∀{kvs:List (List Key×V)} {xs:List (List Key×Addr×Value)} {F:Hp},KT H kvs xs->StOk K G F σ H ρ ->
  ∃F',Same F F'/\StOk K G F' σ H ρ/\RepL K F' (xs.map λq=>V.ref q.2.1) (kvs.map λp=>keyT p.1)/\Vals (xs.map λq=>V.ref q.2.1) (xs.map λq=>Value.ref q.2.1):=by
 intro kvs xs F r S
 induction r generalizing F with
 | nil=>exact⟨F,Same.refl _,S,.nil,.nil⟩
 | @cons p q ps qs h t ih =>
  obtain⟨h1,h2,h3⟩:=h
  obtain⟨F1,s1,S1,r1⟩:=S.seeT h2 (Ud_ p.1)
  obtain⟨F2,s2,S2,r2,v2⟩:=ih S1
  exact⟨F2,s1.trans s2,S2,.cons (r1.mono s2) r2,.cons rfl v2⟩
theorem zaV_{P:Program}{w:World}{k:Key}{u:Value}(r:(zE_ P w).is k u=true):RelV (kV k) u:=by
 rcases zN_ (k:=k) (v:=u) r with ⟨i,t,rfl,rfl⟩|⟨i,t,rfl,rfl⟩
 ·exact⟨t,rfl⟩
 ·exact⟨t,rfl⟩
theorem VB_{P:Program}{w:World}:∀{es:List DictEntry} {vs:List (Key×Value)},Pairs (zE_ P w) es vs->Vals (vs.map λp=>kV p.1) (es.map (·.key)):=by
 intro es vs r
 induction r with
 | nil=>exact .nil
 | cons a b _ ih=>exact .cons (zaV_ a) ih
theorem zeO_{κ:Type}{kvs:List (κ×V)}{vs:List (κ×Value)}(r:KV kvs vs):Vals (kvs.map (·.2)) (vs.map (·.2))/\kvs.map (·.1)=vs.map (·.1):=by
 unfold KV at r
 induction r with
 | nil=>exact⟨.nil,rfl⟩
 | cons h t ih=>exact⟨.cons h.2 ih.1,by rw[List.map_cons,List.map_cons,h.1,ih.2]⟩
theorem YE_{X:Cx}{pins:List (Addr×Obj)}{σ σ':L2.St}{H F:Hp}{s:Shared}{G:Gh}{ρ:En}{x:V}{es:List (D×D)}(I:Inv X pins σ H s)(S:StOk X.K G F σ' H ρ)(ho:OR X.K F H x (.dict es))(hnx:isXe es=false) :
  ∃a F' vs ds ep,x=.ref a/\Same F F'/\StOk X.K G F' σ' H ρ/\(a==sysModules)=false/\DR s.heap a ds ep/\ds.size<=sizeLine/\vs.length=ds.size/\Vals vs (ds.toList.map (·.key))/\RepL X.K F' vs (es.map (·.1)):=by
 obtain⟨a,rfl,⟨kvs,h1,h2,h3⟩|⟨kvs,h1,h2,h3⟩⟩:=ho.dict S.fh hnx
 ·obtain⟨z,y,xs,kt,o,ds,ep,e1,e2,e3,e4,_⟩:=Wb_ I.hok h1
  obtain⟨F',s1,S1,r1,v1⟩:=zaP_ kt S
  have el:ds.size=kvs.length:=by
   rw[<-Array.length_toList,e4,zzd]
   have:=r1.length
   rw[zzd,zzd]at this
   exact this
  refine⟨a,F',_,ds,ep,rfl,s1,S1,y,⟨o,e1,e2,e3⟩,by lia,?_,?_,by rw[h2];exact r1⟩
  ·rw[zzd,el]
   have:=r1.length
   rw[zzd,zzd]at this
   exact this
  ·rw[e4,List.map_map]
   exact v1
 ·obtain⟨z,y,vs,kv,o,ds,ep,e1,e2,e3,e4,e5,_⟩:=zcf_ I.hok h1
  obtain⟨_,ek⟩:=zeO_ kv
  have vp:=VB_ e5
  have el:ds.size=kvs.length:=by
   have:=vp.length
   simp only[zzd,Array.length_toList]at this
   have e:=congrArg List.length ek
   rw[zzd,zzd]at e
   lia
  refine⟨a,F,kvs.map λp=>kV p.1,ds,ep,rfl,Same.refl _,S,y,⟨o,e1,e2,e3⟩,by lia,by rw[zzd];lia,?_,?_⟩
  ·have e:=congrArg (List.map kV) ek
   rw[List.map_map,List.map_map]at e
   have e':kvs.map (λp=>kV p.1)=vs.map (λp=>kV p.1):=e
   rw[e']
   exact vp
  ·rw[h2]
   have e:kvs.map (λp=>kV p.1)=(kvs.map (·.1)).map kV:=by rw[List.map_map];rfl
   have e':kvs.map (λp=>L3.keyD p.1)=(kvs.map (·.1)).map L3.keyD:=by rw[List.map_map];rfl
   rw[e,e']
   exact Ud_ _
theorem JJ_{ds:Array DictEntry}{acc:Array Value}(h:ItemsOf (λi v=>∃e,ds[i]? = some e/\v=e.key) acc ds.size):acc.toList=ds.toList.map (·.key):=by
 apply List.ext_getElem?
 intro j
 rw[Array.getElem?_toList,List.getElem?_map,Array.getElem?_toList]
 cases q:acc[j]? with
 | some v =>
  obtain⟨e,e1,rfl⟩:=h.2 j v q
  rw[e1];rfl
 | none =>
  have:ds.size<=j:=by rw[<-h.1];exact Array.getElem?_eq_none_iff.mp q
  rw[Array.getElem?_eq_none this];rfl
def WR_(K:Fg):List V->Hp->VK->Prop:=λxs H Q=>∃(G:Gh) (F:Hp) (σ:L2.St) (ρ:En) (x:V) (es:List (D×D)),xs=[x]/\StOk K G F σ H ρ/\OR K F H x (.dict es)/\isXe es=false /\
 ∀l vs F',H l=none->Same F F'->StOk K G F' σ H ρ->RepL K F' vs (es.map (·.1))->Q (.ref l) (upd H l (.lst vs))
theorem Wh_{X:Cx}(hc:X.calm=true):CallR X (.type "list") (WR_ X.K):=by
 intro pins s σ H xs us Q I r h0
 obtain⟨G,F,σ',ρ,x,es,rfl,S,ho,hnx,k⟩:=h0
 obtain⟨u,rfl,ru⟩:=L2.Vals.one r
 obtain⟨a,F',vs,ds,ep,rfl,s1,S1,lo,dr,hz,hl,rv,rl⟩:=YE_ I S ho hnx
 cases ru
 refine PySem.W.kdl_call (QP_ lo) (I.ok.hd hc) dr hz λh' tk acc c kp e it=>?_
 refine⟨.ref s.heap.objs.size,upd H s.heap.objs.size (.lst vs),I.laid (t':=tk) kp (Nat.le_refl _) ⟨by rw[hl];exact hz,acc.toList,c,by rw[JJ_ it];exact rv,by rw[Array.toArray_toList];exact e⟩,rfl,k _ _ _ (I.hok.fresh (Nat.le_refl _)) s1 S1 rl⟩
noncomputable def uP_:List D->Option (List D)
 | [.dict es]=>if isXe es then none else some (es.map (·.1))
 | l=>zbZ_ l
theorem yS_{X:Cx}(hc:X.calm=true):CallR X (.type "list") (λxs H Q=>(∃p ys,xs=[.ref p]/\(SqL X.K H p ys\/SqT X.K H p ys)/\∀l,H l=none->Q (.ref l) (upd H l (.lst ys)))\/WR_ X.K xs H Q):=CallR.or YL_ (Wh_ hc)
theorem Uf_{K:Fg}:Wr_ K (λxs H Q=>(∃p ys,xs=[.ref p]/\(SqL K H p ys\/SqT K H p ys)/\∀l,H l=none->Q (.ref l) (upd H l (.lst ys)))\/WR_ K xs H Q) uP_:=by
 intro G F σ H ρ xs ds res Q S o e k
 by_cases hd:∃es,ds=[.dict es]
 ·obtain⟨es,rfl⟩:=hd
  cases hnx:isXe es with
  | true=>simp[uP_,hnx]at e
  | false =>
  have e:some (es.map (·.1))=some res:=by simpa[uP_,hnx]using e
  cases e
  obtain⟨v,r,rfl,ho,hr⟩:=zG_ o
  obtain rfl:=zT_ hr
  refine .inr ⟨G,F,σ,ρ,v,es,rfl,S,ho,hnx,λl vs F' hl s1 S1 rp=>?_⟩
  obtain⟨S2,r2⟩:=S1.newLst hl rp
  exact k _ F' _ s1 S2 r2
 ·have e':zbZ_ ds=some res:=by
   rw[<-e]
   unfold uP_
   split
   ·rename_i es;exact absurd ⟨es,rfl⟩ hd
   ·rfl
  exact .inl (zeC_ G F σ H ρ xs ds res Q S o e' k)
theorem zci_{prog:Program}{w:World}{A:Around}{E:Value->Shared->Prop}{s:Shared}{T:String}{r d:Addr}{n:Nat}{P:Nat->Value->Prop}{OK:Heap->Prop}{Q:List Value->Shared->Prop}(K:PySem.W.KdlSrc prog w T r d n P OK)(hh:A.handled=none)(hok:OK s.heap)(hn:n<=sizeLine)
  (q:∀h' tk acc,(∀b o,s.heap.get? b=some o->h'.get? b=some o)->ItemsOf P acc n->Q acc.toList { s with heap:=h',toks:=tk }):wpAny (model prog w) A (collect (.ref r)) Q E s:=by
 have hlt:=K.there _ hok
 have e0:(s.heap.push (seqObj "list" #[] 0)).get? s.heap.objs.size=some (seqObj "list" #[] 0):=zze _ rfl
 have key:∀R:Result->Shared->Prop,(∀h' tk acc c,(∀b o,s.heap.get? b=some o->h'.get? b=some o)->h'.get? s.heap.objs.size=some { cls:=.type "list",dict:=none,data:=.seq acc c,slots:=#[] }->ItemsOf P acc n->R (.ok (.ret (.ref s.heap.objs.size))) { s with heap:=h',toks:=tk }) ->
   codeAny (model prog w) A (.builtin "proto.collect" ⟨[.ref r],[]⟩) R s:=λR hR=>by
  refine codeAny_builtin entry_proto_collect' ?_
  rw[Around.under_plainId PySem.F.plain_proto_collect _]
  show wpAny (model prog w) A.in1 (newList [] >>= λx=>again (.builtin "list.__iadd__" ⟨[x,.ref r],[]⟩)) _ _ s
  refine zza (wpAny_newList (zzb ⟨Code.quiet_builtin _ (by decide +kernel),codeAny_builtin entry_list_iadd' ?_⟩))
  rw[Around.under_plainId PySem.F.plain_list_iadd _]
  show wpAny (model prog w) A.in1 (Builtin.List.listExtendWith (.ref s.heap.objs.size) (.ref r) (.ref s.heap.objs.size)) _ _ { s with heap:=s.heap.push (seqObj "list" #[] 0) }
  exact PySem.W.kdl_extend (s:={ s with heap:=s.heap.push (seqObj "list" #[] 0) }) K hh (K.keep _ _ hok λb _ o e=>zzc _ e) _ (Nat.ne_of_gt hlt.1) (Nat.ne_of_gt hlt.2) _ 0 e0 (λh' tk acc c kp e it=>hR h' tk acc c (λb o z=>kp b o (Nat.ne_of_lt (Heap.lt_size z)) (zzc _ z)) e it) hn
 unfold collect
 refine zza (wpAny_runValue (key _ λh' tk acc c kp e it=>?_))
 show wpAny (model prog w) A (load s.heap.objs.size >>= _) _ _ _
 exact zza (wpAny_load e (zzb (q h' tk acc kp it)))
def zcK_(K:Fg):List V->Hp->VK->Prop:=λxs H Q=>zdZ_ K xs H Q\/∃(G:Gh) (F:Hp) (σ:L2.St) (ρ:En) (x:V) (es:List (D×D)),xs=[x]/\StOk K G F σ H ρ/\OR K F H x (.dict es)/\isXe es=false/\jp_ (es.map (·.1))=true /\
 ∀l vs F',H l=none->Same F F'->StOk K G F' σ H ρ->RepL K F' vs (yE_ (es.map (·.1)))->Q (.ref l) (upd H l (.lst vs))
theorem Wf_{X:Cx}(hc:X.calm=true):CallR X (.builtin "sorted") (zcK_ X.K):=by
 intro pins s σ H xs us Q I r h0
 rcases h0 with h0|⟨G,F,σ',ρ,x,es,rfl,S,ho,hnx,hok,k⟩
 ·exact zad_ pins s σ H xs us Q I r h0
 obtain⟨u,rfl,ru⟩:=L2.Vals.one r
 obtain⟨a,F',vs,ds,ep,rfl,s1,S1,lo,dr,hz,hl,rv,rl⟩:=YE_ I S ho hnx
 cases ru
 refine Jy_ λE' Q' q=>zci_ (QP_ lo) (I.ok.hd hc) dr hz λh' tk acc kp it=>q _ _ ?_
 have I2:Inv X pins σ H { s with heap:=h',toks:=tk }:=I.kept (t':=tk) kp
 refine UT_ I2 S1 rl (by rw[JJ_ it];exact rv) (by rw[hl];exact hz) hok λl vs hl rp=>k l vs F' hl s1 S1 rp
def JO_:List D->Option (List D)
 | [.dict es]=>if isXe es then none else if jp_ (es.map (·.1))then some (yE_ (es.map (·.1)))else none
 | l=>zbX_ l
theorem zbp_{K:Fg}:Wr_ K (zcK_ K) JO_:=by
 intro G F σ H ρ xs ds res Q S o e k
 by_cases hd:∃es,ds=[.dict es]
 ·obtain⟨es,rfl⟩:=hd
  cases hnx:isXe es with
  | true=>simp[JO_,hnx]at e
  | false =>
  have e':(if jp_ (es.map (·.1))then some (yE_ (es.map (·.1)))else none)=some res:=by simpa[JO_,hnx]using e
  split at e'
  ·rename_i hok
   cases e'
   obtain⟨v,r,rfl,ho,hr⟩:=zG_ o
   obtain rfl:=zT_ hr
   refine .inr ⟨G,F,σ,ρ,v,es,rfl,S,ho,hnx,hok,λl vs F' hl s1 S1 rp=>?_⟩
   obtain⟨S2,r2⟩:=S1.newLst hl rp
   exact k _ F' _ s1 S2 r2
  ·cases e'
 ·have e':zbX_ ds=some res:=by
   rw[<-e]
   unfold JO_
   split
   ·rename_i es;exact absurd ⟨es,rfl⟩ hd
   ·rfl
  exact .inl (zez_ G F σ H ρ xs ds res Q S o e' k)
end L4
namespace L4
open PySem PySem.Spec PyProof.Rows L2 L3
theorem lenS{α:Type}{us:List α}{n:Nat}(h:us.length=n+1):∃a r,us=a::r/\r.length=n:=by
 cases us with
 | nil=>exact absurd h (Nat.succ_ne_zero n).symm
 | cons a r=>exact⟨a,r,rfl,Nat.succ.inj h⟩
theorem len1{α:Type}{us:List α}(h:us.length=1):∃a0,us=[a0]:=by
 obtain⟨a0,r,rfl,h0⟩:=lenS h
 obtain rfl:=List.eq_nil_of_length_eq_zero h0
 exact⟨a0,rfl⟩
theorem len2{α:Type}{us:List α}(h:us.length=2):∃a0 a1,us=[a0,a1]:=by
 obtain⟨a0,r,rfl,h0⟩:=lenS h
 obtain⟨a1,rfl⟩:=len1 h0
 exact⟨a0,a1,rfl⟩
theorem len3{α:Type}{us:List α}(h:us.length=3):∃a0 a1 a2,us=[a0,a1,a2]:=by
 obtain⟨a0,r,rfl,h0⟩:=lenS h
 obtain⟨a1,a2,rfl⟩:=len2 h0
 exact⟨a0,a1,a2,rfl⟩
theorem bnd1{K:Fg}{x qual:Str}{st:Stmt}{f:Addr}{fd:FuncData}{p0:Str}(F:Fun K x qual st f fd)
  (h:∀(kV doc pm:Value) (an:Option Addr) (cdv ct:Value) (u0:Value),bindArgs (PySem.W.fnOf x qual (z5_ st) (zK_ st) (zd_ st) .none kV doc pm an cdv ct) ⟨[u0],[]⟩=pure (List.zip [p0] [u0])):Binds K fd [p0] [] :=
 F.binds λa b c d e g us hl=>by obtain⟨u0,rfl⟩:=len1 hl;exact h a b c d e g u0
theorem bnd2{K:Fg}{x qual:Str}{st:Stmt}{f:Addr}{fd:FuncData}{p0 p1:Str}(F:Fun K x qual st f fd)
  (h:∀(kV doc pm:Value) (an:Option Addr) (cdv ct:Value) (u0 u1:Value),bindArgs (PySem.W.fnOf x qual (z5_ st) (zK_ st) (zd_ st) .none kV doc pm an cdv ct) ⟨[u0,u1],[]⟩=pure (List.zip [p0,p1] [u0,u1])):Binds K fd [p0,p1] [] :=
 F.binds λa b c d e g us hl=>by obtain⟨u0,u1,rfl⟩:=len2 hl;exact h a b c d e g u0 u1
theorem bnd3{K:Fg}{x qual:Str}{st:Stmt}{f:Addr}{fd:FuncData}{p0 p1 p2:Str}(F:Fun K x qual st f fd)
  (h:∀(kV doc pm:Value) (an:Option Addr) (cdv ct:Value) (u0 u1 u2:Value),bindArgs (PySem.W.fnOf x qual (z5_ st) (zK_ st) (zd_ st) .none kV doc pm an cdv ct) ⟨[u0,u1,u2],[]⟩=pure (List.zip [p0,p1,p2] [u0,u1,u2])):Binds K fd [p0,p1,p2] [] :=
 F.binds λa b c d e g us hl=>by obtain⟨u0,u1,u2,rfl⟩:=len3 hl;exact h a b c d e g u0 u1 u2
theorem zhV_{K:Fg}{C:Addr}(h:(["bool", "int", "str", "list", "tuple", "dict"].all λT=>PySem.W.kitOne K (.ref C) (.type T)==some false)=true):∀T,tyOk T=true->PySem.W.kitOne K (.ref C) (.type T)=some false:=λT hT=>by
 have h':∀T∈["bool", "int", "str", "list", "tuple", "dict"],PySem.W.kitOne K (.ref C) (.type T)=some false:=λT q=>by
  have:=List.all_eq_true.mp h T q
  simpa using this
 apply h'
 simp only[tyOk,Bool.or_eq_true,beq_iff_eq]at hT
 rcases hT with ((((rfl|rfl)|rfl)|rfl)|rfl)|rfl<;>simp
section
variable {prog:Program}{w:World}{A:Around}{E:Value->Shared->Prop}{s:Shared}
theorem VX_(d:Addr)(hd:(d==sysModules)=false) :
  MeetsIn prog w (Builtin.«dict.__len__» ⟨[.ref d],[]⟩) (λ_ R s=>∃o es ep,s.heap.get? d=some o/\o.data=.dict es ep/\R (.ok (.ret (.int es.size s.toks))) { s with toks:=s.toks+1 }) :=
 .of_wp λA R s ⟨o,es,ep,ho,hdat,h⟩=>by
  show wpAny _ _ (dictSize d >>= _) _ _ s
  unfold dictSize
  refine zza (zza (wpAny_dictEntries ho hdat (zzb ?_)))
  show wpAny _ _ (Builtin.Dict.pendingCount d >>= _) _ _ s
  refine zza (wpAny_pendingCount_other hd ?_)
  refine wpAny_ret_mkInt ?_
  rw[Nat.add_zero];exact h
theorem Wi_{d:Addr}{o:Obj}{es:Array DictEntry}{ep:Nat}{Q:Value->Shared->Prop}(hd:(d==sysModules)=false)(ho:s.heap.get? d=some o)(hc:o.cls=.type "dict")(hdat:o.data=.dict es ep)(hfit:(es.size:Int)<2^63)
  (h:Q (.int es.size (s.toks+1)) { s with toks:=s.toks+1+1 }):wpAny (model prog w) A (call (.builtin "len") [.ref d]) Q E s:=by
 have ty:s.TypeIs (.ref d) "dict":=⟨o,ho,hc⟩
 refine Calls.call_function_entry kind_len plain_len entry_len (args_len1 _) ?_
 unfold Builtin.«len»
 refine zza (m:=oneArg "len" _) (zzb ?_)
 refine zza (m:=callSpecial? (.ref d) (Str.ofString "__len__")) (wpAny_callSpecial?_slot (name:=Str.ofString "__len__") ty F.slot_dict_len
  (call_meetsIn F.slot_dict_len ty F.entry_dict_len (F.args_dict_len_1 _) (VX_ d hd) ⟨o,es,ep,ho,hdat,?_⟩))
 show wpAny _ _ _ _ _ { s with toks:=s.toks+1 }
 refine zza (wpAny_holding (zzb ?_))
 refine zza (wpAny_letGo ?_)
 show wpAny _ _ (if((es.size:Nat):Int)<0 then _ else _) _ _ _
 rw[if_neg (by lia)]
 show wpAny _ _ (if((es.size:Nat):Int)>=2^63 then _ else _) _ _ _
 rw[if_neg (by lia)]
 exact zza (wpAny_mkInt (zzb ⟨_,rfl,h⟩))
end
def zgk_:List V->Hp->VK->Prop:=λxs H Q=>∃a n,xs=[.ref a]/\((∃kvs,H a=some (.dT kvs)/\n=kvs.length)\/∃kvs,H a=some (.dK kvs)/\n=kvs.length)/\Q (.int (n:Nat)) H
theorem zag_{X:Cx}:CallR X (.builtin "len") zgk_:=by
 intro pins s σ H xs us Q I r h0
 obtain⟨a,n,rfl,hd,q⟩:=h0
 obtain⟨u,rfl,ru⟩:=L2.Vals.one r
 cases ru
 rcases hd with ⟨kvs,e,rfl⟩|⟨kvs,e,rfl⟩
 ·obtain⟨z,lo,xs,kt,o,es,ep,h1,h2,h3,h4,_⟩:=Wb_ I.hok e
  have el:es.size=kvs.length:=by
   rw[<-Array.length_toList,h4,zzd]
   exact(Paired.length kt).symm
  refine Wi_ lo h1 h2.1 h3 (by rw[el];rw[sizeLine_eq]at z;lia) ?_
  rw[el]
  exact⟨.int _,H,I.tok _,⟨_,rfl⟩,q⟩
 ·exact zjf_ I (.inl e) λt s' I'=>⟨.int _,H,I',⟨_,rfl⟩,q⟩
def zgl_(K:Fg):List V->Hp->VK->Prop:=λxs H Q=>rLen K xs H Q\/zgk_ xs H Q
theorem YO_{X:Cx}:CallR X (.builtin "len") (zgl_ X.K):=CallR.or zL_ zag_
theorem Xe_{K:Fg}:UJ_ K (zgl_ K) X1_:=by
 intro G F σ H ρ xs ds res Q S o e k
 unfold X1_ at e
 split at e
 ·rename_i es
  split at e
  ·cases e
  ·rename_i nx
   cases e
   obtain⟨v,r,rfl,ho,hr⟩:=zG_ o
   obtain rfl:=zT_ hr
   obtain⟨a,rfl,hh⟩:=ho.dict S.fh (by simpa using nx)
   refine .inr ⟨a,es.length,rfl,?_,k _ F H (Same.refl _) S (.int _)⟩
   rcases hh with ⟨kvs,h1,h2,_⟩|⟨kvs,h1,h2,_⟩
   ·exact .inl ⟨kvs,h1,by have:=congrArg List.length h2;simpa using this⟩
   ·exact .inr ⟨kvs,h1,by have:=congrArg List.length h2;simpa using this⟩
 ·exact .inl (jz_ G F σ H ρ xs ds res Q S o e k)
structure FunV(K:Fg)(x qual:Str)(st:Stmt)(f:Addr)(fd:FuncData)(T:Addr):Prop where
 ex:∃(oc:Value) (od:Option Addr) (kV doc pm:Value) (an:Option Addr) (cdv ct:Value) (osl:Array (Option Value)),
  fd=PySem.W.fnOf x qual (z5_ st) (zK_ st) (zd_ st) (.ref T) kV doc pm an cdv ct/\K.lookup f=some ⟨oc,od,.func fd,osl⟩/\PySem.W.codeIn K cdv qual=true
 kp:PySem.W.keepIn K (.ref f)=true
section
variable {P:Program}{w:World}{K:Fg}{mg:Str->Option Value}{base:Heap}{x qual:Str}{st:Stmt}{f T:Addr}{fd:FuncData}{N ps:List Str}{k:Nat}
theorem zeZ_{oc:Value}{od an:Option Addr}{osl:Array (Option Value)}{kV doc pm cdv ct:Value}(l:K.lookup f=some ⟨oc,od,.func (PySem.W.fnOf x qual (z5_ st) (zK_ st) (zd_ st) (.ref T) kV doc pm an cdv ct),osl⟩)
  (c:PySem.W.codeIn K cdv qual=true) (k:PySem.W.keepIn K (.ref f)=true):FunV K x qual st f (PySem.W.fnOf x qual (z5_ st) (zK_ st) (zd_ st) (.ref T) kV doc pm an cdv ct) T:=⟨⟨oc,od,kV,doc,pm,an,cdv,ct,osl,rfl,l,c⟩,k⟩
theorem zja_{sp:Sp}(Fn:FunV K x qual st f fd T)(S:FnScope N ps (zd_ st))(len:∀vs H Q E,sp vs H Q E->vs.length=ps.length)
  (hbody:∀(cdv:Value) (A:Around) (outer:List Env) (s:Shared) (H:Hp) (vs:List V) (Q:VK) (E:XK),Room k (A.deeper (envOfC qual (zd_ st) s.heap.objs.size f cdv))->sp vs H Q E ->
   ∃t,PSs (cxOf (CX1 P w) P w K mg base N qual (zd_ st) f cdv A outer s H E) (zK_ st) t/\t { nx:=λ_ H'=>Q .non H',rt:=Q } (start N vs) H):FnOk P w K mg base (CX1 P w) (k+1) f fd ps sp:=by
 obtain⟨oc,od,kV,doc,pm,an,cdv,ct,osl,rfl,lk,hcd⟩:=Fn.ex
 exact zhA_ lk hcd S len λA outer s H vs Q E hr hsp=>hbody cdv A outer s H vs Q E hr hsp
theorem Qy_{mb:SM D}{mf:List D->M D}(Fn:FunV K x qual st f fd T)(Sc:FnScope N ps (zd_ st))
  (hb:∀(cdv:Value) (A:Around) (outer:List Env) (s:Shared) (H:Hp) (E:XK),Room k (A.deeper (envOfC qual (zd_ st) s.heap.objs.size f cdv)) ->
   ASs (cxOf (CX1 P w) P w K mg base N qual (zd_ st) f cdv A outer s H E) (zK_ st) mb)
  (hm:∀ds,ds.length=ps.length->mf ds=mb KD (fzs ds++List.replicate (N.length - ps.length) none)):FnOk P w K mg base (CX1 P w) (k+1) f fd ps (spD K ps.length mf):=by
 refine zja_ Fn Sc (λvs H Q E h=>?_) (λcdv A outer s H vs Q E hr h=>?_)
 ·obtain⟨_,_,_,h1,_⟩:=h;exact h1
 ·obtain⟨G,F0,ds,h1,S0,e⟩:=h
  have hl:ds.length=ps.length:=by have:=S0.ln;simp at this;lia
  rw[hm ds hl]at e
  refine⟨_,jT_,hb cdv A outer s H E hr (λm=>EndM K G E m _) KD G F0 _ H _ _ (λz=>z) (λF ρ e z=>zcc_ z) (J3_ h1 S0) e ?_⟩
  exact⟨λF' σ' H' ρ' s S' o=>(by exact o .non F' H' s (YW_ S0 s S') .non),λF' σ' H' ρ' d' v s S' r o=>(by exact o v F' H' s (YW_ S0 s S') r),λF' σ' H' ρ' d' v s S' r o=>(o:False).elim,λF' σ' H' ρ' s S' o=>(o:False).elim,λF' σ' H' ρ' s S' o=>(o:False).elim⟩
end
section
variable {X:Cx}{pins:List (Addr×Obj)}{σ:L2.St}{H:Hp}{s:Shared}{a b:Addr}{v:V}{u r:Value}{A:Around}{E:Value->Shared->Prop}{k:List Key}
theorem X5_{kvs:List (List Key×V)}{Q:Unit->Shared->Prop}(hu:A.units+1<cLine)(I:Inv X pins σ H s)(e:H a=some (.dT kvs))(eb:H b=some (.tup (k.map kV)))(rv:RelV v r)(l:kvs.length<sizeLine)
  (h:∀s',Inv X pins σ (upd H a (.dT (putK kvs k v))) s'->Q () s'):wpAny (model X.prog X.w) A (dictSet a (.ref b) r) Q E s:=by
 obtain⟨z,hd,xs,rel,dd⟩:=Wb_ I.hok e
 have hz:xs.length<=sizeLine:=by rw[<-Paired.length rel];exact z
 have hl:(putK kvs k v).length<=sizeLine:=by have:=u1_ kvs k v;lia
 refine wpAny_dictSet_heap (hsz:=hz) (show(tupleKind (zE_ X.prog X.w)).room A from by first|exact hu|exact Nat.lt_of_le_of_lt (Nat.le_refl _) hu|(show A.units<cLine;lia)) (y7_ I.hok eb) dd λh' dd' hs=>h _ ?_
 obtain⟨q,es,ep,hq,h2,h3,h4,_,h5⟩:=dd'
 refine QC_ I (by rw[e];exact True.intro) hs ⟨q,hq⟩ ⟨hl,hd,_,(rel.put k eb rv).keeps λc ys ec=>?_,q,es,ep,hq,h2,h3,h4,h5⟩
 rw[zj_ (zgZ_ ec e (λz=>nomatch z))]
 exact ec
end
def zic_(tk tv:TE):TE:=λσ H Q=>∀p,H p=none->tk σ (upd H p (.dT [])) λx H1=>tv σ H1 λy H2=>∃b k,x=.ref b/\H2 b=some (.tup (k.map kV))/\H2 p=some (.dT [])/\Q (.ref p) (upd H2 p (.dT [(k,y)]))
theorem W0_{X:Cx}{pos:Pos}{ke ve:Expr}{tk tv:TE}(hu:X.A.units+1<cLine)(hk:PE X ke tk)(hv:PE X ve tv):PE X (.Dict [some ke] [ve] pos) (zic_ tk tv):=by
 intro pins s σ H Q I q
 have hn:=I.hok.fresh (Nat.le_refl s.heap.objs.size)
 have I1:=I.laid (a:=s.heap.objs.size) (o:=.dT []) (h':=s.heap.push { cls:=.type "dict",data:=.dict #[] }) (t':=s.toks) (λ_ _ q=>zzc _ q) (Nat.le_refl _) (Vi_ s.heap I.big)
 refine wpAny_Dict_any rfl rfl (by simp) (by simp) ?_
 have pp:=zba_ (pos:=pos) hk hv (zei_ (X:=X) (pos:=pos))
 let R:List (V×V)->Hp->Prop:=λps H2=>match ps with
  | [(x,y)]=>∃b k,x=.ref b/\H2 b=some (.tup (k.map kV))/\H2 s.heap.objs.size=some (.dT [])/\Q (.ref s.heap.objs.size) (upd H2 s.heap.objs.size (.dT [(k,y)]))
  | _=>False
 refine thn (pp pins _ σ _ R I1 (q _ hn)) λws s2 ⟨ps,H2,I2,rel,hR⟩=>?_
 rcases ps with _|⟨⟨x,y⟩,_|⟨p2,r2⟩⟩
 ·exact(show False from hR).elim
 ·obtain⟨b,k,ex,hb,hp,q2⟩:=hR
  subst ex
  cases rel with
  | @cons _ wq _ _ h t =>
   cases t
   obtain⟨w1,w2⟩:=wq
   obtain⟨rx,ry⟩:=h
   dsimp only at rx ry
   cases rx
   show wpAny _ _ (storeAll s.heap.objs.size [(Value.ref b,w2)]) _ _ _
   unfold storeAll
   simp only[List.forIn_cons,List.forIn_nil]
   refine zza (zza (X5_ hu I2 hp hb ry (by decide) λs3 I3=>zzb (zzb ⟨.ref s.heap.objs.size,_,I3,rfl,q2⟩)))
 ·exact(show False from hR).elim
theorem _root_.L3.StOk.relay{K:Fg}{G:Gh}{F H:Hp}{σ:L2.St}{ρ:En}(S:StOk K G F σ H ρ){p:Addr}{o:HO}(fp:F p=none)(op:G.O p=none)(ne:∀(i:Nat) (e:OC),own ρ i e->σ[i]? ≠ some (some (V.ref p))):StOk K G F σ (upd H p o) ρ:=by
 refine⟨jG_ S.fh fp,jG_ S.oh op,S.fo,S.ln,S.fz,λi c h=>?_,S.dj,S.pp,S.pq,S.fb⟩
 obtain⟨a,e,oa⟩:=S.ow i c h
 exact⟨a,e,oa.nf,oa.no,oa.he.at (zj_ λz=>ne i c h (by rw[e,z]))⟩
noncomputable def yi_{S:Type}(d:D)(m:M S):M S:=match ji_ d with
 | true=>m
 | false=>.bad
def zfW_{S:Type}(i:Nat)(pk pv:Pu D):SM S:=λK ρ=>bd (noX (pk ρ)) λkd=>bd (noX (pv ρ)) λd=>match yL_ ρ i with
 | true=>yi_ kd (K.nx (ρ.set i (some (.ol (.t [(kd,d)])))))
 | false=>.bad
theorem zaq_{S:Type}{X:Cx}{i:Nat}{x:Str}{ke ve:Expr}{pk pv:Pu D}{pos pos' tpos:Pos}(hu:X.A.units+1100<cLine)(hN:X.N.Nodup)(hi:X.N[i]? = some x)(hx:Loc X.env.scope x)(hk:AP X ke pk)(hv:AP X ve pv)(hs:swapsWith (.Dict [some ke] [ve] tpos) (some (.Name x pos')) pos.line X.env=pure false)(hf:X.fn x=true\/X.env.scope.names.lookup x=some .local) :
  AS (S:=S) X (.Assign [.Name x pos'] (.Dict [some ke] [ve] tpos) pos) (zfW_ i pk pv):=λOK K G F σ H ρ E hO hX St ok eo=>by
 unfold zfW_ at ok
 cases e1:pk ρ with
 | bad=>rw[e1]at ok;exact(hO ok).elim
 | exc e=>rw[e1]at ok;exact(hO ok).elim
 | ret kd =>
 cases e2:pv ρ with
 | bad=>rw[e1,e2]at ok;exact(hO ok).elim
 | exc e=>rw[e1,e2]at ok;exact(hO ok).elim
 | ret d =>
 rw[e1,e2]at ok
 have ok:OK (match yL_ ρ i with|true=>yi_ kd (K.nx (ρ.set i (some (.ol (.t [(kd,d)])))))|false=>.bad):=ok
 cases hq:yL_ ρ i with
 | false=>rw[hq]at ok;exact(hO ok).elim
 | true =>
 rw[hq]at ok
 have ok:OK (yi_ kd (K.nx (ρ.set i (some (.ol (.t [(kd,d)])))))):=ok
 unfold yi_ at ok
 cases hq1:ji_ kd with
 | false=>rw[hq1]at ok;exact(hO ok).elim
 | true =>
 rw[hq1]at ok
 obtain⟨hl,hop⟩:=jk_ hq
 obtain⟨ks,rfl⟩:=uj_ hq1
 refine semS (U6_ hN hi hx (W0_ (by lia) zm_ zm_) hs hf) λp hp=>?_
 have fp:=St.fh.free hp
 have op:=St.oh.free hp
 have S1:=(St.lay (o:=.dT []) hp).hold (p:=p) (o:=.dT []) zn_ fp (St.fresh_ne hp)
 refine hk _ F σ _ ρ _ S1 ?_
 rw[e1]
 intro F1 H1 s1 S2 kx rx
 refine hv _ F1 σ H1 ρ _ S2 ?_
 rw[e2]
 intro F2 H2 s2 S3 y ry
 obtain⟨S4,hp2,fp2,ne2⟩:=S3.unhold op
 obtain⟨b,rfl,hb⟩:=yf_ (rx.mono s2)
 refine⟨b,ks,rfl,S4.fh _ _ hb,hp2,?_⟩
 refine eo.nx F2 _ _ _ (s1.trans s2) ((S4.relay (o:=.dT [(ks,y)]) fp2 op ne2).store hop hl (.inr ⟨.t [(keyT ks,d)],rfl,p,rfl,⟨fp2,op,[(ks,y)],zn_,rfl,.cons ry .nil⟩,ne2⟩)) ok
def DfT(K:Fg)(T:Addr)(i:Int):Prop:=∃(o:Obj) (n:Nat) (u:Value),K.lookup T=some o/\o.data=.seq #[u] n/\RelV (.int i) u
section
variable {K:Fg}{x qual:Str}{st:Stmt}{f T:Addr}{fd:FuncData}{ps:List Str}{i:Int}
theorem FunV.binds0(F:FunV K x qual st f fd T)(hT:DfT K T i)(h:∀(kV doc pm:Value) (an:Option Addr) (cdv ct:Value) (us:List Value) (u:Value),us.length=ps.length->∃k:Option (Array Value)->Sem (List (Str×Value)),bindArgs (PySem.W.fnOf x qual (z5_ st) (zK_ st) (zd_ st) (.ref T) kV doc pm an cdv ct) ⟨us,[]⟩=seqItems? (.ref T) >>= k/\k (some #[u])=pure (ps.zip us)):L2.Binds K fd ps []:=by
 obtain⟨oc,od,kV,doc,pm,an,cdv,ct,osl,rfl,lk,hcd⟩:=F.ex
 obtain⟨o,n,u,h1,h2,h3⟩:=hT
 intro s us X hl
 rw[List.append_nil]at hl ⊢
 obtain⟨k,e1,e2⟩:=h kV doc pm an cdv ct us u hl
 exact PySem.W.binds_K X rfl h1 h2 e1 e2
end
def zgH_(pk pv:Pu D):Pu D:=λρ=>bd (noX (pk ρ)) λkd=>bd (noX (pv ρ)) λd=>yi_ kd (.ret (.dict [(kd,d)]))
theorem zfo_{X:Cx}{ke ve:Expr}{pk pv:Pu D}{pos:Pos}(hu:X.A.units+1100<cLine)(hk:AP X ke pk)(hv:AP X ve pv):AP X (.Dict [some ke] [ve] pos) (zgH_ pk pv):=by
 intro G F σ H ρ Q St w
 unfold zgH_ at w
 cases e1:pk ρ with
 | bad=>rw[e1]at w;exact w.elim
 | exc e=>rw[e1]at w;exact w.elim
 | ret kd =>
 cases e2:pv ρ with
 | bad=>rw[e1,e2]at w;exact w.elim
 | exc e=>rw[e1,e2]at w;exact w.elim
 | ret d =>
 rw[e1,e2]at w
 have w:W X G F σ ρ (yi_ kd (.ret (.dict [(kd,d)]))) (λd F' H'=>∀v,Rep X.K F' v d->Q v H'):=w
 unfold yi_ at w
 cases hq1:ji_ kd with
 | false=>rw[hq1]at w;exact w.elim
 | true =>
 rw[hq1]at w
 obtain⟨ks,rfl⟩:=uj_ hq1
 refine sem (W0_ (by lia) zm_ zm_) λp hp=>?_
 have fp:=St.fh.free hp
 have op:=St.oh.free hp
 have S1:=(St.lay (o:=.dT []) hp).hold (p:=p) (o:=.dT []) zn_ fp (St.fresh_ne hp)
 refine hk _ F σ _ ρ _ S1 ?_
 rw[e1]
 intro F1 H1 s1 S2 kx rx
 refine hv _ F1 σ H1 ρ _ S2 ?_
 rw[e2]
 intro F2 H2 s2 S3 y ry
 obtain⟨S4,hp2,fp2,ne2⟩:=S3.unhold op
 obtain⟨b,rfl,hb⟩:=yf_ (rx.mono s2)
 refine⟨b,ks,rfl,S4.fh _ _ hb,hp2,?_⟩
 have S5:=(S4.relay (o:=.dT [(ks,y)]) fp2 op ne2).freeze (a:=p) (o:=.dT [(ks,y)]) zn_ fp2 op ne2
 exact w _ _ ((s1.trans s2).trans (z4_ fp2)) S5 (.ref p) (.dct zn_ rfl (.cons (ry.mono (z4_ fp2)) .nil))
end L4
namespace L4
open PySem PyProof.Rows L2 L3
theorem lr1:typeLookup (Value.type "list_reverseiterator") (Str.ofString "__len__")=pure none:=by rfl
theorem lr2:typeLookup (Value.type "list_reverseiterator") (Str.ofString "__length_hint__")=pure (some (Value.builtin "list_reverseiterator.__length_hint__")):=by rfl
theorem lr3:isSubtype (.type "list_reverseiterator") (.type "list_reverseiterator")=pure true:=by rfl
section
variable {prog:Program}{w:World}{A:Around}{E:Value->Shared->Prop}{s:Shared}{r I l:Addr}{items:Array Value}
theorem zbT_{Q:Bool->Shared->Prop}(hT:s.TypeIs (.ref r) "list_reverseiterator")(h:Q false s) :
  wpAny (model prog w) A (Builtin.List.listLengthHint (.ref r)) Q E s:=by
 unfold Builtin.List.listLengthHint
 refine zza (wpAny_specialOf hT lr1 ?_)
 refine(show wpAny (model prog w) A (specialOf (.ref r) (Str.ofString "__length_hint__") >>= _) _ _ s from ?_)
 refine zza (wpAny_specialOf hT lr2 ?_)
 dsimp only
 rw[show splitId "list_reverseiterator.__length_hint__" = some ("list_reverseiterator", "__length_hint__")from by decide +kernel]
 dsimp only
 refine zza (wpAny_isInstance (T := "list_reverseiterator") (b:=true) hT lr3 ?_)
 refine(show wpAny (model prog w) A (pure false) _ _ s from zzb h)
def revP(items:Array Value):Nat->Value->Prop:=λi v=>items[items.size - 1 - i]? = some v
theorem zfd_{R:Result->Shared->Prop}(hh:A.handled=none)(hi:s.heap.IsRevIter I l ((items.size:Int) - 1))(hl:s.heap.IsList l items)(hn:items.size<=sizeLine)(hIl:l≠I)(S:Addr)(hSI:S≠I)(hSl:S≠l)(res:Value)(c₀:Nat)
  (hS:s.heap.get? S=some { cls:=Value.type "list",data:=Data.seq #[] c₀ })
  (hR:∀(h':Heap) (tk:Nat) (acc':Array Value) (c':Nat),(∀(b:Addr) (o:Obj),b≠S->b≠I->s.heap.get? b=some o->h'.get? b=some o)->h'.get? S=some { cls:=Value.type "list",data:=Data.seq acc' c' }->ItemsOf (revP items) acc' items.size->R (Except.ok (Flow.ret res)) { s with heap:=h',toks:=tk }) :
  wpAny (model prog w) A.in1 (Builtin.List.listExtendWith (Value.ref S) (Value.ref I) res)
   (λfin s'=>match fin with
    | Fin.done f=>R (Except.ok f) s'
    | Fin.again c'=>c'.quiet=true/\codeAny (model prog w) A c' R s')
   (λe s'=>R (Except.error e) s') s:=by
 have W:=Walks.listRev (prog:=prog) (w:=w) (A:=A.in1) hh I l hIl items
 have hSf:S∉[I,l]:=by simp[hSI,hSl]
 unfold Builtin.List.listExtendWith
 refine zza (wpAny_typeOf hi.typeIs ?_)
 rw[if_neg (by simp[Builtin.List.listSameRef,hSI])]
 refine zza (wpAny_pyIter_revIter hi (zza (wpAny_holding (zbT_ hi.typeIs ?_))))
 refine(show wpAny (model prog w) A.in1 (again (Code.builtin "list.extend.loop" { pos:=[Value.ref S,Value.ref I,res] })) _ _ s from ?_)
 refine zzb ⟨plainId_quiet F.plain_extend_loop _,?_⟩
 refine codeAny_extend_loopS (Walks.toS W) hn S hSf res items.size 0 s #[] c₀ rfl (Nat.zero_le _) ⟨Nat.zero_le _,by simpa using hi,hl⟩ hS (ItemsOf.nil _) λs' acc' c' hm hS' hacc=>?_
 rw[Moved.eq_with hm]
 exact hR s'.heap s'.toks acc' c' (λb o hb hb2 e=>hm.heap b o (by simp[hb,hb2]) e) hS' hacc
theorem zbA_{Q:Value->Shared->Prop}(hh:A.handled=none)(hi:s.heap.IsRevIter I l ((items.size:Int) - 1))(hl:s.heap.IsList l items)(hn:items.size<=sizeLine)(hIl:l≠I)
  (hQ:∀(h':Heap) (tk:Nat) (acc':Array Value) (c':Nat),(∀(b:Addr) (o:Obj),b≠I->s.heap.get? b=some o->h'.get? b=some o)->h'.get? s.heap.objs.size=some { cls:=Value.type "list",data:=Data.seq acc' c' }->ItemsOf (revP items) acc' items.size->Q (Value.ref s.heap.objs.size) { s with heap:=h',toks:=tk }) :
  wpAny (model prog w) A (call (Value.type "list") [Value.ref I]) Q E s:=by
 refine callType_codes F.called_list (F.typeCall_list_1 (Value.ref I)) F.entry_list_init (code_list_new (Q₁:=λv s1=>v=Value.ref s.heap.objs.size/\s1={ s with heap:=s.heap.push { cls:=Value.type "list",data:=Data.seq #[] } }) (Value.ref I) ⟨rfl,rfl⟩) λobj s₁ h₁=>?_
 obtain⟨rfl,rfl⟩:=h₁
 have hS:(s.heap.push { cls:=Value.type "list",data:=Data.seq #[] }).get? s.heap.objs.size=some { cls:=Value.type "list",data:=Data.seq #[] }:=zze s.heap rfl
 have hk:∀b o,s.heap.get? b=some o->(s.heap.push { cls:=Value.type "list",data:=Data.seq #[] }).get? b=some o:=λb o e=>zzc _ e
 refine⟨⟨_,hS,rfl⟩,F.args_list_init_2 _ _,?_⟩
 have l1:∀{b:Addr} {o:Obj},s.heap.get? b=some o->b≠s.heap.objs.size:=λe=>Nat.ne_of_lt (Heap.lt_size e)
 obtain⟨oi,ei,ri⟩:=id hi
 obtain⟨ol,el,rl⟩:=id hl
 refine(show wpAny (model prog w) A.in1.in1 (Builtin.List.listItems (.ref s.heap.objs.size) >>= _) _ _ _ from zza ?_)
 refine(show wpAny (model prog w) A.in1.in1 (seqItems? (.ref s.heap.objs.size) >>= _) _ _ _ from zza (wpAny_seqItems hS rfl (zzb ?_)))
 refine(show wpAny (model prog w) A.in1.in1 (updateSeq s.heap.objs.size (λ_=>#[]) >>= _) _ _ _ from zza (wpAny_updateSeq hS rfl ?_ (by rw[sizeLine_eq];decide) (by rw[sizeLine_eq];decide)))
 have oth:∀b o,s.heap.get? b=some o->((s.heap.push { cls:=Value.type "list",data:=Data.seq #[] }).update s.heap.objs.size (Obj.mapSeq λ_=>#[])).get? b=some o:=λb o e =>
  (Heap.get?_update_other _ _ (Ne.symm (l1 e))).trans (hk b o e)
 refine zza (wpAny_letGo (zfd_ (A:=A.in1) hh ⟨oi,oth _ _ ei,ri⟩ ⟨ol,oth _ _ el,rl⟩ hn hIl s.heap.objs.size (Ne.symm (l1 ei)) (Ne.symm (l1 el)) Value.none _ (Heap.get?_update_self _ hS rfl) ?_))
 intro h' tk acc' c' kp e it
 exact⟨rfl,hQ h' tk acc' c' (λb o hb e=>kp b o (l1 e) hb (oth b o e)) e it⟩
end
def rRev(K:Fg):List V->Hp->VK->Prop:=λxs H Q=>∃p ys,xs=[.ref p]/\SqL K H p ys/\∀l,H l=none->Q (.ref l) (upd H l (.lst ys.reverse))
theorem XI_{items acc:Array Value}(h:ItemsOf (revP items) acc items.size):acc.toList=items.toList.reverse:=by
 apply List.ext_getElem?
 intro j
 by_cases hj:j<items.size
 ·have h1:j<acc.size:=by rw[h.1];exact hj
  have:=h.2 j acc[j] (Array.getElem?_eq_getElem h1)
  unfold revP at this
  rw[Array.getElem?_toList,Array.getElem?_eq_getElem h1,<-this,List.getElem?_reverse (by simpa using hj),Array.getElem?_toList,Array.length_toList]
 ·rw[List.getElem?_eq_none (by rw[Array.length_toList,h.1];lia),List.getElem?_eq_none (by rw[List.length_reverse,Array.length_toList];lia)]
theorem zaI_:∀{xs:List V} {us:List Value},Vals xs us->Vals xs.reverse us.reverse:=by
 intro xs
 induction xs with
 | nil=>intro us r;cases r;exact .nil
 | cons x xs ih =>
  intro us r
  cases r with
  | cons a b =>
   rw[List.reverse_cons,List.reverse_cons]
   exact Vals.append (ih b) (.cons a .nil)
theorem zaU_{K:Fg}{F:Hp}:∀{vs:List V} {ds:List D},RepL K F vs ds->RepL K F vs.reverse ds.reverse:=by
 intro vs
 induction vs with
 | nil=>intro ds r;cases r;exact .nil
 | cons x xs ih =>
  intro ds r
  cases r with
  | cons a b =>
   rw[List.reverse_cons,List.reverse_cons]
   exact RepL.append (ih b) (.cons a .nil)
noncomputable def zbY_:List D->Option (List D)
 | [.list ds]=>some ds.reverse
 | _=>none
section
variable {X:Cx}{a:Expr}{t:TA}{p p2 pos pos2:Pos}
theorem VO_(hc:X.calm=true)(hg:Gl X "list")(hm:X.mg "list" = none)(hg2:Gl X "reversed")(hm2:X.mg "reversed" = none)(ha:PA X [a] t)
  (he:starEach [a] X.env=[(false,eval a X.env)]) (he2:starEach [.Call (.Name "reversed" p2) [a] [] pos2] X.env=[(false,eval (.Call (.Name "reversed" p2) [a] [] pos2) X.env)]) :
  PE X (.Call (.Name "list" p) [.Call (.Name "reversed" p2) [a] [] pos2] [] pos) (tCB (rRev X.K) t):=by
 intro pins s σ H Q I h
 refine wpAny_Call_Name_kw (uN_ I hg hm (show bootBuiltins "list" = some (.type "list") by decide +kernel) ?_ (by decide) (by decide))
 refine PyProof.Rows.callWith_type1 ?_ he2 rfl
 rw[he2]
 show wpAny _ _ (spliced ((false,eval (.Call (.Name "reversed" p2) [a] [] pos2) X.env)::backTo pos [])) _ _ s
 refine Calls.spliced_cons (wpAny_Call_Name_kw (uN_ I hg2 hm2 (show bootBuiltins "reversed" = some (.type "reversed") by decide +kernel) ?_ (by decide) (by decide)))
 refine PyProof.Rows.callWith_type1 (T := "reversed") (thn (ha pos2 pins s σ H _ I h) λus s1 ⟨vs,H1,I1,r1,q1⟩=>?_) he rfl
 obtain⟨b,ys,rfl,hq,k⟩:=q1
 obtain⟨u,rfl,ru⟩:=L2.Vals.one r1
 cases ru
 obtain⟨its,rv,⟨o,n,e1,e2,e3,e4⟩,hz⟩:=I1.list hq
 refine call_reversed_list ⟨o,e1,e2,n,e4⟩ (Calls.spliced_nil ?_)
 have hlen:its.toArray.size=ys.length:=by rw[List.size_toArray,rv.length]
 have hne:b≠s1.heap.objs.size:=Nat.ne_of_lt (Heap.lt_size e1)
 refine zbA_ (s:={ s1 with heap:=s1.heap.push (revObj b ((its.toArray.size:Int) - 1)) }) (l:=b) (items:=its.toArray) (I1.ok.hd hc) ⟨_,zze _ rfl,rfl,rfl⟩ ⟨o,zzc _ e1,e2,n,e4⟩ (by rw[hlen];exact hz) hne λh' tk acc c kp e it=>?_
 have hs:(s1.heap.push (revObj b ((its.toArray.size:Int) - 1))).objs.size=s1.heap.objs.size+1:=by simp[Heap.push]
 have hacc:acc.toList=its.reverse:=by simpa using XI_ it
 refine⟨.ref (s1.heap.push (revObj b ((its.toArray.size:Int) - 1))).objs.size,_,I1.laid (t':=tk) (o:=.lst ys.reverse) (λb' o' e'=>kp b' o' (Nat.ne_of_lt (Heap.lt_size e')) (zzc _ e')) (by rw[hs];lia) ⟨by rw[List.length_reverse];exact hz,acc.toList,c,by rw[hacc];exact zaI_ rv,by rw[Array.toArray_toList];exact e⟩,rfl,k _ (I1.hok.fresh (by rw[hs];lia))⟩
theorem Wl_{ps:Pa (List D)}(hc:X.calm=true)(hg:Gl X "list")(hm:X.mg "list" = none)(hg2:Gl X "reversed")(hm2:X.mg "reversed" = none)(ha:AAo X [a] ps)
  (he:starEach [a] X.env=[(false,eval a X.env)]) (he2:starEach [.Call (.Name "reversed" p2) [a] [] pos2] X.env=[(false,eval (.Call (.Name "reversed" p2) [a] [] pos2) X.env)]) :
  AL X (.Call (.Name "list" p) [.Call (.Name "reversed" p2) [a] [] pos2] [] pos) (y1_ zbY_ ps) :=
 λG F σ H ρ Q S w=>sem (VO_ hc hg hm hg2 hm2 zS_ he he2) (yT_ ha S w λxs ds F' H' s' S' hx w'=>by
  obtain⟨res,e,k⟩:=w'.opt
  unfold zbY_ at e
  split at e
  ·cases e
   obtain⟨v,r,rfl,ho,hr⟩:=zG_ hx
   obtain rfl:=zT_ hr
   obtain⟨a,vs,rfl,h1,h2⟩:=ho.list S'.fh
   refine⟨a,vs,rfl,h1,λl hl=>?_⟩
   obtain⟨S2,r2⟩:=S'.newLst hl (zaU_ h2)
   exact k F' _ (Same.refl _) S2 _ r2
  ·cases e)
end
end L4
namespace L4
open PySem PySem.Spec PyProof.Rows L2 L3
def ul_:D->List D->Option D
 | .list xs,[y]=>if inOk y xs then some (.int (xs.countP λz=>PyData.eqv z y:Nat))else none
 | _,_=>none
theorem Ym_{X:Cx}(hu:X.A.units+1100<cLine):MtR X "list.count" (zgj_ X.K ul_):=by
 intro pins s σ H x xs v us Q I rx rxs hh
 obtain⟨G,F,σ',ρ,d,ds,res,S,ho,hr,e,k⟩:=hh
 unfold ul_ at e
 split at e
 case h_2=>cases e
 rename_i ts y
 split at e
 case isFalse=>cases e
 rename_i hc
 cases e
 simp only[inOk,Bool.and_eq_true,zzi]at hc
 obtain⟨as,ra⟩:=(zY_ I).1 (ho.rep S.fh) (by simpa[PyData.canLay0]using hc.1.1) rx
 cases hr with
 | cons hy hn =>
  cases hn
  obtain⟨u,rfl,ru⟩:=vals1 rxs
  obtain⟨bs,rb⟩:=(zY_ I).1 (hy.mono S.fh) hc.1.2 ru
  cases ra with
  | list h1 h2 h3 h4 =>
   rename_i ob items n as2
   obtain⟨cl,dd,da,sl⟩:=ob
   dsimp only at h2 h3
   subst h2 h3
   refine call_meets PySem.F.slot_list_count ⟨_,h1,rfl⟩ PySem.F.entry_list_count (PySem.F.args_list_count_2 _ _) (SeqAt.list_countAt _ _ _ _ _ u (λz=>PyData.eqv (SeqAt.readOf s.heap z) y)) ⟨h1,SeqAt.items_eqAt h4 rb hc.1.1 hc.1.2 (by have:=Nat.min_le_right (PyData.depthAll ts) y.depth;lia),?_⟩
   rw[YF_ h4 hc.1.1]
   exact⟨.int _,H,I.tok _,⟨_,rfl⟩,k _ F H (Same.refl _) S (.int _)⟩
section
variable {α:Type}{l:List α}
theorem ln0(h:l.length=0):l=[]:=List.eq_nil_of_length_eq_zero h
theorem lnS{n:Nat}(h:l.length=n+1):∃a t,l=a::t/\t.length=n:=List.recOn (motive:=λl=>l.length=n+1->∃a t,l=a::t/\t.length=n) l (λh=>(Nat.succ_ne_zero n h.symm).elim) (λa t _ h=>⟨a,t,rfl,Nat.succ.inj h⟩) h
theorem ln1(h:l.length=1):∃a,l=[a]:=by obtain⟨a,t,e,q⟩:=lnS h;exact⟨a,by rw[e,ln0 q]⟩
theorem ln2(h:l.length=2):∃a b,l=[a,b]:=by obtain⟨a,t,rfl,q⟩:=lnS h;obtain⟨b,rfl⟩:=ln1 q;exact⟨a,b,rfl⟩
theorem ln3(h:l.length=3):∃a b c,l=[a,b,c]:=by obtain⟨a,t,rfl,q⟩:=lnS h;obtain⟨b,c,rfl⟩:=ln2 q;exact⟨a,b,c,rfl⟩
theorem ln4(h:l.length=4):∃a b c d,l=[a,b,c,d]:=by obtain⟨a,t,rfl,q⟩:=lnS h;obtain⟨b,c,d,rfl⟩:=ln3 q;exact⟨a,b,c,d,rfl⟩
end
section
variable {K:Fg}{h:Heap}{mg:Str->Option Value}{x qual:Str}{st:Stmt}{f T:Addr}{oc:Value}{od an:Option Addr}{osl:Array (Option Value)}{kV doc pm cdv ct:Value}
def Fa(K:Fg)(x:Str)(st:Stmt):Prop:=∃f fd,PySem.W.nsIn K mainGlobals x=some (some (.ref f))/\Fun K x x st f fd
theorem jy_(a:PySem.W.nsIn K mainGlobals x=some (some (.ref f)))(l:K.lookup f=some ⟨oc,od,.func (PySem.W.fnOf x x (z5_ st) (zK_ st) (zd_ st) .none kV doc pm an cdv ct),osl⟩)
  (c:PySem.W.codeIn K cdv x=true) (k:PySem.W.keepIn K (.ref f)=true):Fa K x st:=⟨f,_,a,zdk_ l c k⟩
def FaV(K:Fg)(x:Str)(st:Stmt)(i:Int):Prop:=∃f fd T,PySem.W.nsIn K mainGlobals x=some (some (.ref f))/\FunV K x x st f fd T/\DfT K T i
theorem XW_{o:Obj}{n:Nat}{u:Value}{i:Int}(a:PySem.W.nsIn K mainGlobals x=some (some (.ref f)))(l:K.lookup f=some ⟨oc,od,.func (PySem.W.fnOf x x (z5_ st) (zK_ st) (zd_ st) (.ref T) kV doc pm an cdv ct),osl⟩)
  (c:PySem.W.codeIn K cdv x=true) (k:PySem.W.keepIn K (.ref f)=true) (dl:K.lookup T=some o) (de:o.data=.seq #[u] n) (dr:RelV (.int i) u):FaV K x st i:=⟨f,_,T,a,zeZ_ l c k,o,n,u,dl,de,dr⟩
def Xa(K:Fg)(x qual:Str)(st:Stmt)(fl:List Str):Prop:=∃C D f fd,PySem.W.nsIn K mainGlobals x=some (some (.ref C))/\Fun K "__init__" qual st f fd/\XC K C D f/\XQ K C x/\PySem.W.keepIn K (.ref C)=true/\(∀f∈fl,up_ K C f)/\PySem.W.exmOne K (.ref C) (.ref C)=some true
theorem zfA_{C D N:Addr}{nm qn:Str}{bs sb:List Value}{sn:List Str}{ab:Bool}{co:Option Bool}{dd:Option Addr}{k0 k1 k2 k3 k5:Option Value}{fl:List Str}
  (xa:PySem.W.nsIn K mainGlobals x=some (some (.ref C))) (xb:K.lookup C=some (excClassObj nm qn C N bs (.ref D::bmV) true sn sb ab co dd k0 k1 k2 k3 k5 "ValueError.__new__")) (xc:PySem.W.findIn K (.ref C) "__init__" = some (some (.ref f)))
  (xd:K.lookup f=some ⟨oc,od,.func (PySem.W.fnOf "__init__" qual (z5_ st) (zK_ st) (zd_ st) .none kV doc pm an cdv ct),osl⟩) (xe:PySem.W.codeIn K cdv qual=true) (xf:PySem.W.keepIn K (.ref f)=true) (xg:PySem.W.keepIn K (.ref C)=true)
  (xh:PySem.W.tailIn K bmV (.ref D::bmV)=true) (xi:PySem.W.typeIn K (.ref f)=some (.type "function")) (xj:PySem.W.findIn K (.ref C) "__setattr__" = some (some (.builtin "object.__setattr__"))) (xk:PySem.W.findIn K (.ref C) "__getattribute__" = some (some (.builtin "BaseException.__getattribute__")))
  (xl:PySem.W.findIn K (.ref C) "__getattr__" = some none) (xm:PySem.W.exmOne K (.ref C) (.ref C)=some true) (xp:PySem.W.findIn K (.ref C) "__class__" = some (some (.builtin "object.__class__"))) (xq:PySem.W.specialIn K (.builtin "object.__class__") "__get__" = some (some (.builtin "getset_descriptor.__get__")))
  (xr:PySem.W.takesIn K (.builtin "object.__class__")=some true) (xo:(["bool", "int", "str", "list", "tuple", "dict"].all λT=>PySem.W.kitOne K (.ref C) (.type T)==some false)=true) (xn:∀f∈fl,up_ K C f):Xa K x qual st fl :=
 ⟨C,D,f,_,xa,zdk_ xd xe xf,⟨⟨nm,qn,N,bs,sn,sb,ab,co,dd,k0,k1,k2,k3,k5,xb⟩,xh,xc,xi,xj,xk,xl⟩,⟨xa,⟨_,_,⟨nm,qn,N,bs,sn,sb,ab,co,dd,k0,k1,k2,k3,k5,xb⟩,xh,xc,xi,xj,xk,xl⟩,⟨xp,xq,xr⟩,zhV_ xo⟩,xg,xn,xm⟩
theorem na0{C:Addr}:∀f∈([]:List Str),up_ K C f:=λ_ h=>(nomatch h)
theorem naC{C:Addr}{f:Str}{l:List Str}(h:PySem.W.findIn K (.ref C) f=some none)(t:∀f∈l,up_ K C f):∀g∈f::l,up_ K C g:=λg hg=>by
 rcases List.mem_cons.mp hg with rfl|hg
 ·exact h
 ·exact t g hg
noncomputable def isNN:Option (Option Value)->Bool
 | some none=>true
 | _=>false
theorem zjg_{l:List Str}(X:K.In h)(G:h.Ns mainGlobals mg)(z:(l.all λx=>isNN (PySem.W.nsIn K mainGlobals x))=true):∀x∈l,mg x=none:=λx hx=>by
 have q:=List.all_eq_true.mp z x hx
 generalize e:PySem.W.nsIn K mainGlobals x=o at q
 match o,q with
 | some none,_=>exact PySem.W.mg_none_of X G e
end
end L4
set_option maxHeartbeats 8000000
namespace K95
open PySem PySem.Spec PyProof.Rows L2 L3 L4
noncomputable section
noncomputable def top(i:Nat):Stmt:=PySem.Challenge.pw_passersby_k95_whole_a_joined_crowd_does.main.body.getD i (.Pass ⟨0,0,0,0⟩)
noncomputable abbrev BL:List Str:=["range", "len", "tuple", "list", "min", "abs", "enumerate", "isinstance", "all", "any", "int", "bool", "zip", "sorted", "reversed"]
def BN(mg:Str->Option Value):Prop:=∀x∈BL,mg x=none
theorem BN.range{mg:Str->Option Value}(B:BN mg):mg "range" = none:=B _ (by decide)
theorem BN.len{mg:Str->Option Value}(B:BN mg):mg "len" = none:=B _ (by decide)
theorem BN.tuple{mg:Str->Option Value}(B:BN mg):mg "tuple" = none:=B _ (by decide)
theorem BN.list{mg:Str->Option Value}(B:BN mg):mg "list" = none:=B _ (by decide)
theorem BN.min{mg:Str->Option Value}(B:BN mg):mg "min" = none:=B _ (by decide)
theorem BN.abs{mg:Str->Option Value}(B:BN mg):mg "abs" = none:=B _ (by decide)
theorem BN.enumerate{mg:Str->Option Value}(B:BN mg):mg "enumerate" = none:=B _ (by decide)
theorem BN.isinstance{mg:Str->Option Value}(B:BN mg):mg "isinstance" = none:=B _ (by decide)
theorem BN.all{mg:Str->Option Value}(B:BN mg):mg "all" = none:=B _ (by decide)
theorem BN.any{mg:Str->Option Value}(B:BN mg):mg "any" = none:=B _ (by decide)
theorem BN.int{mg:Str->Option Value}(B:BN mg):mg "int" = none:=B _ (by decide)
theorem BN.bool{mg:Str->Option Value}(B:BN mg):mg "bool" = none:=B _ (by decide)
theorem BN.zip{mg:Str->Option Value}(B:BN mg):mg "zip" = none:=B _ (by decide)
theorem BN.sorted{mg:Str->Option Value}(B:BN mg):mg "sorted" = none:=B _ (by decide)
theorem BN.reversed{mg:Str->Option Value}(B:BN mg):mg "reversed" = none:=B _ (by decide)
section
variable {P:Program}{w:World}{K:Fg}{mg:Str->Option Value}{base:Heap}
noncomputable def zab_(s:Stmt):List Stmt:=match s with
 | .ClassDef _ _ _ b _ _ _ _ _ _ _=>b
 | _=>[]
abbrev jf_:Stmt:=(zab_ (top 2)).getD 0 (.Pass ⟨0,0,0,0⟩)
theorem yF_:FnScope ["self", "place"] ["self", "place"] (zd_ jf_):=⟨rfl,rfl,rfl,by decide +kernel,rfl,by decide +kernel,by decide +kernel⟩
theorem YI_{Cl D f:Addr}{fd:FuncData}(Fn:Fun K "__init__" "NoMeeting.__init__" jf_ f fd)(c:XC K Cl D f)(hm:mg "NoMeeting" = some (.ref Cl))(hc:XQ K Cl "NoMeeting")(kp:PySem.W.keepIn K (.ref Cl)=true)(na:∀f∈(["place"]:List Str),up_ K Cl f)(ex:PySem.W.exmOne K (.ref Cl) (.ref Cl)=some true):CCl P w K mg base "NoMeeting" 1 ["place"] :=
 ⟨Cl,D,f,fd,["self", "place"],c,ziP_ (k:=0) Fn yF_ rfl c (na _ (by simp)),(bnd2 Fn λ_ _ _ _ _ _ _ _=>rfl),hm,hc,kp,na,ex⟩
abbrev jB_:Stmt:=(zab_ (top 3)).getD 0 (.Pass ⟨0,0,0,0⟩)
theorem ZH_:FnScope ["self"] ["self"] (zd_ jB_):=⟨rfl,rfl,rfl,by decide +kernel,rfl,by decide +kernel,by decide +kernel⟩
theorem We_{Cl D f:Addr}{fd:FuncData}(Fn:Fun K "__init__" "TooMany.__init__" jB_ f fd)(c:XC K Cl D f)(hm:mg "TooMany" = some (.ref Cl))(hc:XQ K Cl "TooMany")(kp:PySem.W.keepIn K (.ref Cl)=true)(na:∀f∈([]:List Str),up_ K Cl f)(ex:PySem.W.exmOne K (.ref Cl) (.ref Cl)=some true):CCl P w K mg base "TooMany" 1 [] :=
 ⟨Cl,D,f,fd,["self"],c,ziQ_ (k:=0) Fn ZH_ rfl,(bnd1 Fn λ_ _ _ _ _ _ _=>rfl),hm,hc,kp,na,ex⟩
noncomputable abbrev yH_:Stmt:=top 5
noncomputable abbrev Wo_:List Str:=["thing"]
theorem Y2_:FnScope Wo_ ["thing"] (zd_ yH_):=⟨rfl,rfl,rfl,by decide +kernel,rfl,by decide +kernel,by decide +kernel⟩
def yU_(gaD:D):M D :=
 bd (bd (bd (oM (isTo "int" gaD)) λb2=>if b2 then bd (oM (isTo "bool" gaD)) λb1=>.ret (!b1)else .ret false) λb3=>.ret (.bool b3)) λx4=>.ret x4
def ZV_:List D->M D:=λl=>match l with
 | [gaD]=>yU_ gaD
 | _=>.bad
set_option maxHeartbeats 4000000 in
theorem Qc_{f:Addr}{fd:FuncData}(Fn:Fun K "is_whole" "is_whole" yH_ f fd)(hmg:mg "is_whole" = some (.ref f))(B:BN mg):CF P w K mg base "is_whole" 1 (spD K 1 ZV_) :=
 ⟨f,fd,["thing"],jj_ (k:=0) Fn Y2_ (λcdv A outer s H E hr =>
 (zg_ (zC_ (zh_ (ap_b (zaz_ (zhS_ (T := "int") (by decide) rfl B.isinstance rfl B.int (by decide +kernel) (ao (av 0)) rfl rfl rfl) (zay_ (zhR_ (zhS_ (T := "bool") (by decide) rfl B.isinstance rfl B.bool (by decide +kernel) (ao (av 0)) rfl rfl rfl)))))))))
 (λds hl=>(by obtain⟨gaD,rfl⟩:=ln1 hl;kernel_rfl)),hmg,Fn.kp,(bnd1 Fn λ_ _ _ _ _ _ _=>rfl)⟩
noncomputable abbrev uU_:Stmt:=top 6
noncomputable abbrev QI_:List Str:=["thing", "least", "most"]
theorem UX_:FnScope QI_ ["thing", "least", "most"] (zd_ uU_):=⟨rfl,rfl,rfl,by decide +kernel,rfl,by decide +kernel,by decide +kernel⟩
def j5_(gaD:D)(gbl:D)(gbv:D):M D :=
 bd (bd (bd (bd (yU_ gaD) λx1=>asB x1) λb3=>if b3 then bd (oM (VQ_ gbl gaD)) λb2=>if b2 then oM (VQ_ gaD gbv)else .ret false else .ret false) λb4=>.ret (.bool b4)) λx5=>.ret x5
def y3_:List D->M D:=λl=>match l with
 | [gaD,gbl,gbv]=>j5_ gaD gbl gbv
 | _=>.bad
set_option maxHeartbeats 4000000 in
theorem Yg_{f:Addr}{fd:FuncData}(Fn:Fun K "is_within" "is_within" uU_ f fd)(hmg:mg "is_within" = some (.ref f))(B:BN mg)(ga7:CF P w K mg base "is_whole" 1 (spD K 1 ZV_)):CF P w K mg base "is_within" 2 (spD K 3 y3_) :=
 ⟨f,fd,["thing", "least", "most"],jj_ (k:=1) Fn UX_ (λcdv A outer s H E hr =>
 (zg_ (zC_ (zh_ (ap_b (zaz_ (zjj_ (z8_ ga7 (hr.mono (by decide)) rfl (zb_ (av 0) zk_ (za_ rfl)) rfl (by decide) rfl rfl)) (zay_ (zcw_ (W4_ (zf_ hr)) (W4_ (zf_ hr)) Xg_ Xg_ (ao (av 1)) (ao (av 0)) (ao (av 2)) (by with_unfolding_all rfl)))))))))
 (λds hl=>(by obtain⟨gaD,gbl,gbv,rfl⟩:=ln3 hl;kernel_rfl)),hmg,Fn.kp,(bnd3 Fn λ_ _ _ _ _ _ _ _ _=>rfl)⟩
noncomputable abbrev Zg_:Stmt:=top 8
noncomputable abbrev Vx_:List Str:=["one", "other"]
theorem WJ_:FnScope Vx_ ["one", "other"] (zd_ Zg_):=⟨rfl,rfl,rfl,by decide +kernel,rfl,by decide +kernel,by decide +kernel⟩
noncomputable abbrev N_joined_0:List Str:=["one", "other", "many", "more"]
theorem yk_:N_joined_0.Nodup:=by decide +kernel
def j4_(gbx:D)(gbm:D):M D :=
 bd (bd (bd (bd (oM (fZip [gbx,gbm])) λl5=>bd (jm_ (λd1=>un2 d1 λy2 y3=>bd (oM (jC_ y2 y3)) λx4=>.ret (some x4)) l5) fitM) λl6=>.ret (PyData.list l6)) λx7=>oM (uk_ [x7])) λx8=>.ret x8
def Ys_:List D->M D:=λl=>match l with
 | [gbx,gbm]=>j4_ gbx gbm
 | _=>.bad
set_option maxHeartbeats 4000000 in
theorem Xh_{f:Addr}{fd:FuncData}(Fn:Fun K "joined" "joined" Zg_ f fd)(hmg:mg "joined" = some (.ref f))(B:BN mg):CF P w K mg base "joined" 1 (spD K 2 Ys_) :=
 ⟨f,fd,["one", "other"],jj_ (k:=0) Fn WJ_ (λcdv A outer s H E hr =>
 (zg_ (zC_ (zh_ (jP_ zR_ jV_ rfl B.tuple (by decide +kernel) (zo_ (ao (ap_z (QG_ (N':=N_joined_0) (k:=2) rfl (je_ (N:=Vx_) (sc:=(zd_ Zg_)) (by decide +kernel) rfl rfl) (zdx_ rfl B.zip (zb_ (av 0) (zb_ (av 1) zk_ (za_ rfl)) (za_ rfl)) rfl rfl) (λcl s' H' fp C'=>(yY_ rfl (zZ_ (zw_ (i:=2) (show 2<=2 by decide) yk_ rfl (by first|exact Or.inl rfl|exact Or.inr rfl) (.inr rfl)) (zZ_ (zw_ (i:=3) (show 2<=3 by decide) yk_ rfl (by first|exact Or.inl rfl|exact Or.inr rfl) (.inr rfl)) yX_ rfl) rfl) rfl rfl)) (λcl s' H' fp C'=>Jh_) (λcl s' H' fp C'=>(zQ_ jb_ jI_ (ao (av 2)) (ao (av 3)))) (λ_=>rfl)))) zu_ (za_ rfl)) (by decide) (by decide) rfl rfl)))))
 (λds hl=>(by obtain⟨gbx,gbm,rfl⟩:=ln2 hl;kernel_rfl)),hmg,Fn.kp,(bnd2 Fn λ_ _ _ _ _ _ _ _=>rfl)⟩
noncomputable abbrev Uc_:Stmt:=top 9
noncomputable abbrev zcC_:List Str:=["crowd", "meeting", "wanted"]
theorem sc_can_be:FnScope zcC_ ["crowd", "meeting"] (zd_ Uc_):=⟨rfl,rfl,rfl,by decide +kernel,rfl,by decide +kernel,by decide +kernel⟩
def uC_(gac:D)(gaq:D):M D :=
 bd (bd (bd (oM (zs_ gaq (.int 0))) λx1=>bd (oM (zs_ gaq (.int 1))) λx2=>oM (opEq x1 x2)) λb3=>if b3 then .ret (.int 2)else .ret (.int 1)) λx4=>bd (bd (bd (bd (bd (oM (zs_ gaq (.int 0))) λx5=>oM (zs_ gac x5)) λx6=>oM (opGe x6 x4)) λb9=>if b9 then bd (bd (oM (zs_ gaq (.int 1))) λx7=>oM (zs_ gac x7)) λx8=>oM (opGe x8 x4)else .ret false) λb10=>.ret (.bool b10)) λx11=>.ret x11
def ZW_:List D->M D:=λl=>match l with
 | [gac,gaq]=>uC_ gac gaq
 | _=>.bad
set_option maxHeartbeats 4000000 in
theorem Xj_{f:Addr}{fd:FuncData}(Fn:Fun K "can_be" "can_be" Uc_ f fd)(hmg:mg "can_be" = some (.ref f))(B:BN mg):CF P w K mg base "can_be" 1 (spD K 2 ZW_) :=
 ⟨f,fd,["crowd", "meeting"],jj_ (k:=0) Fn sc_can_be (λcdv A outer s H E hr =>
 (zc_ (zx_ (sh:=[.f,.f,.f]) (zI_ (i:=2) sc_can_be.nd rfl (by first|exact Or.inl rfl|exact Or.inr rfl) (zh_ (zat_ (zO_ (U9_ (zf_ hr)) uY_ (ao (zA_ (zq_ (zf_ hr)) zp_ (ao (av 1)) (ao ze_) (λ_ _=>rfl))) (ao (zA_ (zq_ (zf_ hr)) zp_ (ao (av 1)) (ao ze_) (λ_ _=>rfl))) rfl) ze_ ze_)) rfl (.inl rfl)))
  (zg_ (zC_ (zh_ (ap_b (zaz_ (zdz_ zew_ zeD_ (ao (zA_ (zq_ (zf_ hr)) zp_ (ao (av 0)) (ao (zA_ (zq_ (zf_ hr)) zp_ (ao (av 1)) (ao ze_) (λ_ _=>rfl))) (λ_ _=>rfl))) (ao (av 2)) rfl) (zay_ (zdz_ zew_ zeD_ (ao (zA_ (zq_ (zf_ hr)) zp_ (ao (av 0)) (ao (zA_ (zq_ (zf_ hr)) zp_ (ao (av 1)) (ao ze_) (λ_ _=>rfl))) (λ_ _=>rfl))) (ao (av 2)) rfl)))))))))
 (λds hl=>(by obtain⟨gac,gaq,rfl⟩:=ln2 hl;kernel_rfl)),hmg,Fn.kp,(bnd2 Fn λ_ _ _ _ _ _ _ _=>rfl)⟩
noncomputable abbrev Ub_:Stmt:=top 10
noncomputable abbrev zcB_:List Str:=["crowd", "meeting", "numbers", "room"]
theorem sc_led_to:FnScope zcB_ ["crowd", "meeting"] (zd_ Ub_):=⟨rfl,rfl,rfl,by decide +kernel,rfl,by decide +kernel,by decide +kernel⟩
def u7_(gaB:List D):M D :=
 bd (oM (uk_ [(PyData.list gaB)])) λx8=>.ret x8
def u5_(gaB:List D)(d_:D)(kn9:List D×Unit->M D):M D :=
 bd (oM (opIx (PyData.list gaB) d_)) λx10=>bd (oM (y2_ x10 (.int 1))) λx11=>bd (oM (putD gaB d_ x11)) λl12=>kn9 (l12,())
def u8_(gbf:D)(gaB:List D):M D :=
 bd (bd (bd (asI (.int 2)) λlo5=>oM (fCut gbf lo5 none)) λx6=>oM (seqD x6)) λl7=>forS (λs13 d14 kn=>u5_ s13.1 d14 kn) l7 (gaB,()) (λs13=>u7_ s13.1)
def u6_(gbf:D)(gaB:List D)(d_:D)(kn15:D×List D×Unit->M D):M D :=
 bd (oM (opIx (PyData.list gaB) d_)) λx16=>bd (oM (Y9_ x16 (.int 1))) λx17=>bd (oM (putD gaB d_ x17)) λl18=>kn15 (gbf,l18,())
def uA_(gac:D)(gaq:D):M D :=
 bd (oM (uP_ [gac])) λl1=>bd (bd (bd (asI (.int 2)) λhi2=>oM (fCut gaq none hi2)) λx3=>oM (seqD x3)) λl4=>forS (λs19 d20 kn=>u6_ s19.1 s19.2.1 d20 kn) l4 (gaq,l1,()) (λs19=>u8_ s19.1 s19.2.1)
def ZT_:List D->M D:=λl=>match l with
 | [gac,gaq]=>uA_ gac gaq
 | _=>.bad
set_option maxHeartbeats 4000000 in
theorem Xf_{f:Addr}{fd:FuncData}(Fn:Fun K "led_to" "led_to" Ub_ f fd)(hmg:mg "led_to" = some (.ref f))(B:BN mg):CF P w K mg base "led_to" 1 (spD K 2 ZT_) :=
 ⟨f,fd,["crowd", "meeting"],jj_ (k:=0) Fn sc_led_to (λcdv A outer s H E hr =>
 (zc_ (zx_ (sh:=[.dead,.f,.o,.dead]) (jw_ (i:=2) sc_led_to.nd rfl (by first|exact Or.inl rfl|exact Or.inr rfl) (ua_ (Jm_ (yS_ rfl) Uf_ rfl B.list (by decide +kernel) (zo_ (ao (av 0)) zu_ (za_ rfl)) (by decide) (by decide) rfl rfl)) rfl (.inl rfl)))
  (zc_ (z1_ (sh:=[.dead,.f,.o,.dead]) PassesOwn.leaving rfl (jx_ (yB_ (Zz_ (ao (av 1)) Zy_ (Zx_ ze_)))) (zw_ (i:=3) (Nat.zero_le _) sc_led_to.nd rfl (by first|exact Or.inl rfl|exact Or.inr rfl) (.inl rfl))
  (zg_ (UF_ (i:=2) rfl (by first|exact Or.inl rfl|exact Or.inr (Or.inl rfl)|exact Or.inr (Or.inr rfl)) zhr_ zeW_ (zh_ (av 3)) (zh_ ze_) (λ_ _ _=>rfl))) (λ_=>rfl))
  (zc_ (z1_ (sh:=[.dead,.dead,.o,.dead]) PassesOwn.leaving rfl (jx_ (yB_ (Zz_ (ao (av 1)) (Zx_ ze_) Zy_))) (zw_ (i:=3) (Nat.zero_le _) sc_led_to.nd rfl (by first|exact Or.inl rfl|exact Or.inr rfl) (.inl rfl))
  (zg_ (UF_ (i:=2) rfl (by first|exact Or.inl rfl|exact Or.inr (Or.inl rfl)|exact Or.inr (Or.inr rfl)) Vc_ Uq_ (zh_ (av 3)) (zh_ ze_) (λ_ _ _=>rfl))) (λ_=>rfl))
  (zg_ (zC_ (zh_ (jP_ zR_ jV_ rfl B.tuple (by decide +kernel) (zo_ (zF_ (i:=2) rfl (by first|exact Or.inl rfl|exact Or.inr (Or.inl rfl)|exact Or.inr (Or.inr rfl))) zu_ (za_ rfl)) (by decide) (by decide) rfl rfl))))))))
 (λds hl=>(by obtain⟨gac,gaq,rfl⟩:=ln2 hl;kernel_rfl)),hmg,Fn.kp,(bnd2 Fn λ_ _ _ _ _ _ _ _=>rfl)⟩
noncomputable abbrev Ua_:Stmt:=top 12
noncomputable abbrev zcA_:List Str:=["rule", "crowd", "things", "meets", "crowds", "thing", "here"]
theorem sc_passed:FnScope zcA_ ["rule", "crowd", "things"] (zd_ Ua_):=⟨rfl,rfl,rfl,by decide +kernel,rfl,by decide +kernel,by decide +kernel⟩
noncomputable def Je_(gay:D)(ga4:List D):M D :=
 .ret (PyData.list ga4)
def j2_(gay:D)(ga4:List D)(d_:D)(kn3:D×List D×Unit->M D):M D :=
 bd (bd (oM (Jn_ (.int 1))) λx4=>oM (zs_ (PyData.list ga4) x4)) λx5=>bd (bd (bd (bd (bd (bd (oM (fLen [gay])) λx6=>oM (Y9_ x6 (.int 1))) λx7=>j5_ d_ (.int 0) x7) λx8=>oM (truD x8)) λb9=>.ret (!b9)) λb13=>if b13 then .ret true else bd (bd (bd (oM (zs_ gay d_)) λx10=>uC_ x5 x10) λx11=>oM (truD x11)) λb12=>.ret (!b12)) λb14=>if b14 then
  .ret (PyData.list ga4)
  else
  bd (bd (oM (zs_ gay d_)) λx15=>uA_ x5 x15) λx16=>bd (oM (mApp ga4 [x16])) λl17=>kn3 (gay,l17,())
def Zv_(gaf:D)(gac:D)(gbd:D):M D :=
 bd (oM (zs_ gaf (.int 2))) λx1=>bd (oM (seqD gbd)) λl2=>forS (λs18 d19 kn=>j2_ s18.1 s18.2.1 d19 kn) l2 (x1,[gac],()) (λs18=>Je_ s18.1 s18.2.1)
def Yr_:List D->M D:=λl=>match l with
 | [gaf,gac,gbd]=>Zv_ gaf gac gbd
 | _=>.bad
set_option maxHeartbeats 4000000 in
theorem Xd_{f:Addr}{fd:FuncData}(Fn:Fun K "passed" "passed" Ua_ f fd)(hmg:mg "passed" = some (.ref f))(B:BN mg)(gaW:CF P w K mg base "led_to" 1 (spD K 2 ZT_))(ga0:CF P w K mg base "is_within" 2 (spD K 3 y3_))(gaX:CF P w K mg base "can_be" 1 (spD K 2 ZW_)):CF P w K mg base "passed" 3 (spD K 3 Yr_) :=
 ⟨f,fd,["rule", "crowd", "things"],jj_ (k:=2) Fn sc_passed (λcdv A outer s H E hr =>
 (zc_ (zx_ (sh:=[.dead,.f,.f,.f,.dead,.dead,.dead]) (zI_ (i:=3) sc_passed.nd rfl (by first|exact Or.inl rfl|exact Or.inr rfl) (zh_ (zA_ (zq_ (zf_ hr)) zp_ (ao (av 0)) (ao ze_) (λ_ _=>rfl))) rfl (.inl rfl)))
  (zc_ (zx_ (sh:=[.dead,.dead,.f,.f,.o,.dead,.dead]) (jw_ (i:=4) sc_passed.nd rfl (by first|exact Or.inl rfl|exact Or.inr rfl) (ua_ (j9_ (zb_ (av 1) zk_ (za_ rfl)) (by decide +kernel))) rfl (.inl rfl)))
  (zc_ (z1_ (sh:=[.dead,.dead,.dead,.f,.o,.dead,.dead]) PassesOwn.leaving rfl (jx_ (yB_ (av 2))) (zw_ (i:=5) (Nat.zero_le _) sc_passed.nd rfl (by first|exact Or.inl rfl|exact Or.inr rfl) (.inl rfl))
  (zc_ (zx_ (sh:=[.dead,.dead,.dead,.f,.o,.f,.f]) (zI_ (i:=6) sc_passed.nd rfl (by first|exact Or.inl rfl|exact Or.inr rfl) (zh_ (zA_ (zq_ (zf_ hr)) zp_ (zF_ (i:=4) rfl (by first|exact Or.inl rfl|exact Or.inr (Or.inl rfl)|exact Or.inr (Or.inr rfl))) (ao (zar_ UN_ Ye_ (ao ze_))) (λ_ _=>rfl))) rfl (.inl rfl)))
  (zc_ (uJ_ (z6_ (Wk_ (zcp_ (zds_ (zak_ (ao (z8_ ga0 (hr.mono (by decide)) rfl (zb_ (av 5) (zb_ ze_ (zb_ (zQ_ zcT_ zcX_ (ao (zH_ zL_ jz_ rfl B.len PySem.boot_len (zo_ (ao (av 3)) zu_ (za_ rfl)) (by decide) (by decide) rfl rfl)) (ao ze_)) zk_ (za_ rfl)) (za_ rfl)) (za_ rfl)) rfl (by decide) rfl rfl)) (λ_=>rfl))) (Vr_ (zds_ (zak_ (ao (z8_ gaX (hr.mono (by decide)) rfl (zb_ (av 6) (zb_ (zA_ (zq_ (zf_ hr)) zp_ (ao (av 3)) (ao (av 5)) (λ_ _=>rfl)) zk_ (za_ rfl)) (za_ rfl)) rfl (by decide) rfl rfl)) (λ_=>rfl)))))))
  (zg_ (Zb_ (i:=4) (zC_ (zh_ (av 4)))))
  zX_)
  (zg_ (Jj_ (i:=4) rfl (by first|exact Or.inl rfl|exact Or.inr (Or.inl rfl)|exact Or.inr (Or.inr rfl)) (zi_ (zh_ (z8_ gaW (hr.mono (by decide)) rfl (zb_ (av 6) (zb_ (zA_ (zq_ (zf_ hr)) zp_ (ao (av 3)) (ao (av 5)) (λ_ _=>rfl)) zk_ (za_ rfl)) (za_ rfl)) rfl (by decide) rfl rfl)) zt_ (za_ rfl)) rfl rfl rfl rfl rfl rfl)))) (λ_=>rfl))
  (zg_ (Zb_ (i:=4) (zC_ (zh_ (av 4)))))))))
 (λds hl=>(by obtain⟨gaf,gac,gbd,rfl⟩:=ln3 hl;kernel_rfl)),hmg,Fn.kp,(bnd3 Fn λ_ _ _ _ _ _ _ _ _=>rfl)⟩
noncomputable abbrev J8_:Stmt:=top 11
noncomputable abbrev zcy_:List Str:=["rule", "crowd", "numbers", "crowds"]
theorem sc_walked:FnScope zcy_ ["rule", "crowd", "numbers"] (zd_ J8_):=⟨rfl,rfl,rfl,by decide +kernel,rfl,by decide +kernel,by decide +kernel⟩
def yt_(gaf:D)(gac:D)(gaS:D):M D :=
 bd (Zv_ gaf gac gaS) λx1=>bd (bd (oM (fLen [x1])) λx2=>bd (oM (fLen [gaS])) λx3=>oM (VQ_ x2 x3)) λb4=>if b4 then
  bd (bd (oM (fLen [x1])) λx5=>oM (Y9_ x5 (.int 1))) λx6=>.exc ⟨"NoMeeting",[("place",x6)]⟩
  else
  bd (bd (oM (Jn_ (.int 1))) λx7=>oM (zs_ x1 x7)) λx8=>.ret x8
def Yp_:List D->M D:=λl=>match l with
 | [gaf,gac,gaS]=>yt_ gaf gac gaS
 | _=>.bad
set_option maxHeartbeats 4000000 in
theorem Xb_{f:Addr}{fd:FuncData}(Fn:Fun K "walked" "walked" J8_ f fd)(hmg:mg "walked" = some (.ref f))(B:BN mg)(gbn:CF P w K mg base "passed" 3 (spD K 3 Yr_))(X_NoMeeting:CCl P w K mg base "NoMeeting" 1 ["place"]):CF P w K mg base "walked" 4 (spD K 3 Yp_) :=
 ⟨f,fd,["rule", "crowd", "numbers"],jj_ (k:=3) Fn sc_walked (λcdv A outer s H E hr =>
 (zc_ (zx_ (sh:=[.dead,.dead,.f,.f]) (zI_ (i:=3) sc_walked.nd rfl (by first|exact Or.inl rfl|exact Or.inr rfl) (zh_ (z8_ gbn (hr.mono (by decide)) rfl (zb_ (av 0) (zb_ (av 1) (zb_ (av 2) zk_ (za_ rfl)) (za_ rfl)) (za_ rfl)) rfl (by decide) rfl rfl)) rfl (.inl rfl)))
  (zc_ (uJ_ (z6_ (zO_ (W4_ (zf_ hr)) Xg_ (ao (zH_ zL_ jz_ rfl B.len PySem.boot_len (zo_ (ao (av 3)) zu_ (za_ rfl)) (by decide) (by decide) rfl rfl)) (ao (zH_ zL_ jz_ rfl B.len PySem.boot_len (zo_ (ao (av 2)) zu_ (za_ rfl)) (by decide) (by decide) rfl rfl)) rfl))
  (zg_ (zcr_ X_NoMeeting (hr.mono (by decide)) rfl (zi_ (zh_ (zQ_ zcT_ zcX_ (ao (zH_ zL_ jz_ rfl B.len PySem.boot_len (zo_ (ao (av 3)) zu_ (za_ rfl)) (by decide) (by decide) rfl rfl)) (ao ze_))) zt_ (za_ rfl)) rfl (by decide) (by decide) (za_ rfl) rfl))
  zX_)
  (zg_ (zC_ (zh_ (zA_ (zq_ (zf_ hr)) zp_ (ao (av 3)) (ao (zar_ UN_ Ye_ (ao ze_))) (λ_ _=>rfl))))))))
 (λds hl=>(by obtain⟨gaf,gac,gaS,rfl⟩:=ln3 hl;kernel_rfl)),hmg,Fn.kp,(bnd3 Fn λ_ _ _ _ _ _ _ _ _=>rfl)⟩
noncomputable abbrev yG_:Stmt:=top 13
noncomputable abbrev Wn_:List Str:=["rule", "pairs", "number", "meeting"]
theorem sc_pairs_of:FnScope Wn_ ["rule"] (zd_ yG_):=⟨rfl,rfl,rfl,by decide +kernel,rfl,by decide +kernel,by decide +kernel⟩
noncomputable def Uw_(gan:List (D×D)):M D :=
 .ret (PyData.dict gan)
def yv_(gan:List (D×D))(d_:D)(kn3:List (D×D)×Unit->M D):M D :=
 un2 d_ λy4 y5=>bd (bd (asI (.int 2)) λhi6=>oM (fCut y5 none hi6)) λx7=>bd (oM (dPut true gan x7 y4)) λl8=>kn3 (l8,())
def uz_(gaf:D):M D :=
 bd (bd (oM (zs_ gaf (.int 2))) λx1=>oM (YB_ [x1])) λl2=>forS (λs9 d10 kn=>yv_ s9.1 d10 kn) l2 ([],()) (λs9=>Uw_ s9.1)
def ZS_:List D->M D:=λl=>match l with
 | [gaf]=>uz_ gaf
 | _=>.bad
set_option maxHeartbeats 4000000 in
theorem Qa_{f:Addr}{fd:FuncData}(Fn:Fun K "pairs_of" "pairs_of" yG_ f fd)(hmg:mg "pairs_of" = some (.ref f))(B:BN mg):CF P w K mg base "pairs_of" 1 (spD K 1 ZS_) :=
 ⟨f,fd,["rule"],jj_ (k:=0) Fn sc_pairs_of (λcdv A outer s H E hr =>
 (zc_ (zx_ (sh:=[.f,.t,.dead,.dead]) (zap_ true (i:=1) sc_pairs_of.nd rfl (by first|exact Or.inl rfl|exact Or.inr rfl) rfl (.inl rfl)))
  (zc_ (z1_ (sh:=[.dead,.t,.dead,.dead]) PassesOwn.leaving rfl (jx_ (zav_ rfl B.enumerate (zb_ (zA_ (zq_ (zf_ hr)) zp_ (ao (av 0)) (ao ze_) (λ_ _=>rfl)) zk_ (za_ rfl)) rfl)) (yY_ rfl (zZ_ (zw_ (i:=2) (Nat.zero_le _) sc_pairs_of.nd rfl (by first|exact Or.inl rfl|exact Or.inr rfl) (.inl rfl)) (zZ_ (zw_ (i:=3) (Nat.zero_le _) sc_pairs_of.nd rfl (by first|exact Or.inl rfl|exact Or.inr rfl) (.inl rfl)) yX_ rfl) rfl) rfl rfl)
  (zg_ (UE_ (zf_ hr) (i:=1) rfl (by first|exact Or.inl rfl|exact Or.inr (Or.inl rfl)|exact Or.inr (Or.inr rfl)) (zh_ (Zz_ (ao (av 3)) Zy_ (Zx_ ze_))) (zh_ (av 2)) rfl)) (λ_=>rfl))
  (zg_ (Zb_ (i:=1) (zC_ (zh_ (av 1))))))))
 (λds hl=>(by obtain⟨gaf,rfl⟩:=ln1 hl;kernel_rfl)),hmg,Fn.kp,(bnd1 Fn λ_ _ _ _ _ _ _=>rfl)⟩
noncomputable abbrev ut_:Stmt:=top 14
noncomputable abbrev JX_:List Str:=["rule", "pairs", "crowd", "meets", "rooms", "leads", "place", "a", "b", "number"]
theorem sc_leads_at:FnScope JX_ ["rule", "pairs", "crowd"] (zd_ ut_):=⟨rfl,rfl,rfl,by decide +kernel,rfl,by decide +kernel,by decide +kernel⟩
noncomputable abbrev N_leads_at_0:List Str:=["rule", "pairs", "crowd", "meets", "rooms", "leads", "place", "a", "b", "number", "room", "many"]
theorem ui_:N_leads_at_0.Nodup:=by decide +kernel
noncomputable def Ux_(gan:D)(gaM:D)(gay:D)(gaT:D)(gai:List D):M D :=
 .ret (PyData.list gai)
noncomputable def yx_(kn10:D×D×D×D×List D×Unit->M D)(gan:D)(gaM:D)(gay:D)(gaT:D)(gai:List D)(v_a:D):M D :=
 kn10 (gan,gaM,gay,gaT,gai,())
def j3_(kn10:D×D×D×D×List D×Unit->M D)(gan:D)(gaM:D)(gay:D)(gaT:D)(gai:List D)(v_a:D)(d_:D)(kn16:D×D×D×D×List D×D×Unit->M D):M D :=
 bd (oM (X6_ gan (.tuple [v_a,d_]))) λx17=>bd (bd (oM (jr_ x17 .none)) λb20=>if b20 then bd (bd (oM (zs_ gay x17)) λx18=>uC_ gaM x18) λx19=>oM (truD x19)else .ret false) λb21=>if b21 then
  bd (bd (bd (oM (zs_ gay x17)) λx22=>uA_ gaM x22) λx23=>.ret (.tuple [x17,x23])) λx24=>bd (oM (mApp gai [x24])) λl25=>kn16 (gan,gaM,gay,gaT,l25,v_a,())
  else
  kn16 (gan,gaM,gay,gaT,gai,v_a,())
def yw_(gan:D)(gaM:D)(gay:D)(gaT:D)(gai:List D)(d_:D)(kn10:D×D×D×D×List D×Unit->M D):M D :=
 un2 d_ λy11 y12=>bd (bd (bd (asI y11) λlo13=>oM (fCut gaT lo13 none)) λx14=>oM (seqD x14)) λl15=>forS (λs26 d27 kn=>j3_ kn10 s26.1 s26.2.1 s26.2.2.1 s26.2.2.2.1 s26.2.2.2.2.1 s26.2.2.2.2.2.1 d27 kn) l15 (gan,gaM,gay,gaT,gai,y12,()) (λs26=>yx_ kn10 s26.1 s26.2.1 s26.2.2.1 s26.2.2.2.1 s26.2.2.2.2.1 s26.2.2.2.2.2.1)
def uB_(gaf:D)(gbo:D)(gac:D):M D :=
 bd (oM (zs_ gaf (.int 2))) λx1=>bd (bd (bd (oM (YB_ [gac])) λl6=>bd (jm_ (λd2=>un2 d2 λy3 y4=>bd (oM (opGt y4 (.int 0))) λb5=>if b5 then .ret (some y3)else .ret none) l6) fitM) λl7=>.ret (PyData.list l7)) λx8=>bd (oM (YA_ [x8])) λl9=>forS (λs28 d29 kn=>yw_ s28.1 s28.2.1 s28.2.2.1 s28.2.2.2.1 s28.2.2.2.2.1 d29 kn) l9 (gbo,gac,x1,x8,[],()) (λs28=>Ux_ s28.1 s28.2.1 s28.2.2.1 s28.2.2.2.1 s28.2.2.2.2.1)
def ZU_:List D->M D:=λl=>match l with
 | [gaf,gbo,gac]=>uB_ gaf gbo gac
 | _=>.bad
set_option maxHeartbeats 4000000 in
theorem Qb_{f:Addr}{fd:FuncData}(Fn:Fun K "leads_at" "leads_at" ut_ f fd)(hmg:mg "leads_at" = some (.ref f))(B:BN mg)(gaX:CF P w K mg base "can_be" 1 (spD K 2 ZW_))(gaW:CF P w K mg base "led_to" 1 (spD K 2 ZT_)):CF P w K mg base "leads_at" 2 (spD K 3 ZU_) :=
 ⟨f,fd,["rule", "pairs", "crowd"],jj_ (k:=1) Fn sc_leads_at (λcdv A outer s H E hr =>
 (zc_ (zx_ (sh:=[.dead,.f,.f,.f,.dead,.dead,.dead,.dead,.dead,.dead]) (zI_ (i:=3) sc_leads_at.nd rfl (by first|exact Or.inl rfl|exact Or.inr rfl) (zh_ (zA_ (zq_ (zf_ hr)) zp_ (ao (av 0)) (ao ze_) (λ_ _=>rfl))) rfl (.inl rfl)))
  (zc_ (zx_ (sh:=[.dead,.f,.f,.f,.f,.dead,.dead,.dead,.dead,.dead]) (yW_ (i:=4) sc_leads_at.nd rfl (by first|exact Or.inl rfl|exact Or.inr rfl) (.inl rfl) (N':=N_leads_at_0) (k:=2) rfl (je_ (N:=JX_) (sc:=(zd_ ut_)) (by decide +kernel) rfl rfl) (zav_ rfl B.enumerate (zb_ (av 2) zk_ (za_ rfl)) rfl) (λcl s' H' fp C'=>(yY_ rfl (zZ_ (zw_ (i:=10) (show 10<=10 by decide) ui_ rfl (by first|exact Or.inl rfl|exact Or.inr rfl) (.inr rfl)) (zZ_ (zw_ (i:=11) (show 10<=11 by decide) ui_ rfl (by first|exact Or.inl rfl|exact Or.inr rfl) (.inr rfl)) yX_ rfl) rfl) rfl rfl)) (λcl s' H' fp C'=>(QE_ (zO_ W5_ Xi_ (ao (av 11)) (ao ze_) rfl))) (λcl s' H' fp C'=>(av 10)) rfl (λ_=>rfl)))
  (zc_ (zx_ (sh:=[.dead,.f,.f,.f,.f,.o,.dead,.dead,.dead,.dead]) (jw_ (i:=5) sc_leads_at.nd rfl (by first|exact Or.inl rfl|exact Or.inr rfl) (ua_ (j9_ zk_ (by decide +kernel))) rfl (.inl rfl)))
  (zc_ (z1_ (sh:=[.dead,.f,.f,.f,.f,.o,.dead,.dead,.dead,.dead]) PassesOwn.leaving rfl (jx_ (zcu_ rfl B.enumerate (zb_ (av 4) zk_ (za_ rfl)) rfl)) (yY_ rfl (zZ_ (zw_ (i:=6) (Nat.zero_le _) sc_leads_at.nd rfl (by first|exact Or.inl rfl|exact Or.inr rfl) (.inl rfl)) (zZ_ (zw_ (i:=7) (Nat.zero_le _) sc_leads_at.nd rfl (by first|exact Or.inl rfl|exact Or.inr rfl) (.inl rfl)) yX_ rfl) rfl) rfl rfl)
  (zg_ (z1_ (sh:=[.dead,.f,.f,.f,.f,.o,.dead,.f,.dead,.dead]) PassesOwn.leaving rfl (jx_ (yB_ (Zz_ (ao (av 4)) (Zx_ (av 6)) Zy_))) (zw_ (i:=8) (Nat.zero_le _) sc_leads_at.nd rfl (by first|exact Or.inl rfl|exact Or.inr rfl) (.inl rfl))
  (zc_ (zx_ (sh:=[.dead,.f,.f,.f,.f,.o,.dead,.f,.dead,.f]) (zI_ (i:=9) sc_leads_at.nd rfl (by first|exact Or.inl rfl|exact Or.inr rfl) (zh_ (zcs_ (zf_ hr) (ao (av 1)) (yz_ (zb_ (av 7) (zb_ (av 8) zk_ (za_ rfl)) (za_ rfl)) (by decide +kernel)) ⟨rfl,rfl,rfl,rfl⟩)) rfl (.inl rfl)))
  (zg_ (uJ_ (z6_ (Wk_ (zdr_ (zO_ Zl_ uY_ (ao (av 9)) (ao yA_) rfl) (zaj_ (zak_ (ao (z8_ gaX (hr.mono (by decide)) rfl (zb_ (av 2) (zb_ (zA_ (zq_ (zf_ hr)) zp_ (ao (av 3)) (ao (av 9)) (λ_ _=>rfl)) zk_ (za_ rfl)) (za_ rfl)) rfl (by decide) rfl rfl)) (λ_=>rfl))))))
  (zg_ (Jj_ (i:=5) rfl (by first|exact Or.inl rfl|exact Or.inr (Or.inl rfl)|exact Or.inr (Or.inr rfl)) (zi_ (zh_ (yz_ (zb_ (av 9) (zb_ (z8_ gaW (hr.mono (by decide)) rfl (zb_ (av 2) (zb_ (zA_ (zq_ (zf_ hr)) zp_ (ao (av 3)) (ao (av 9)) (λ_ _=>rfl)) zk_ (za_ rfl)) (za_ rfl)) rfl (by decide) rfl rfl) zk_ (za_ rfl)) (za_ rfl)) (by decide +kernel))) zt_ (za_ rfl)) rfl rfl rfl rfl rfl rfl))
  zX_))) (λ_=>rfl))) (λ_=>rfl))
  (zg_ (Zb_ (i:=5) (zC_ (zh_ (av 5))))))))))
 (λds hl=>(by obtain⟨gaf,gbo,gac,rfl⟩:=ln3 hl;kernel_rfl)),hmg,Fn.kp,(bnd3 Fn λ_ _ _ _ _ _ _ _ _=>rfl)⟩
noncomputable abbrev QQ_:Stmt:=top 15
noncomputable abbrev zdA_:List Str:=["rule", "crowd", "truths"]
theorem sc_said:FnScope zdA_ ["rule", "crowd"] (zd_ QQ_):=⟨rfl,rfl,rfl,by decide +kernel,rfl,by decide +kernel,by decide +kernel⟩
noncomputable abbrev N_said_0:List Str:=["rule", "crowd", "truths", "truth", "many"]
theorem ZQ_:N_said_0.Nodup:=by decide +kernel
def y9_(gaf:D)(gac:D):M D :=
 bd (bd (bd (bd (oM (zs_ gaf (.int 3))) λx1=>oM (fZip [x1,gac])) λl6=>bd (jm_ (λd2=>un2 d2 λy3 y4=>bd (oM (opGt y4 (.int 0))) λb5=>if b5 then .ret (some y3)else .ret none) l6) fitM) λl7=>.ret (PyData.list l7)) λx8=>bd (oM (fAll [x8])) λb9=>if b9 then
  .ret (.str "yes")
  else
  bd (bd (oM (fAny [x8])) λb10=>if b10 then .ret (.str "both")else .ret (.str "no")) λx11=>.ret x11
def Qi_:List D->M D:=λl=>match l with
 | [gaf,gac]=>y9_ gaf gac
 | _=>.bad
set_option maxHeartbeats 4000000 in
theorem zeA_{f:Addr}{fd:FuncData}(Fn:Fun K "said" "said" QQ_ f fd)(hmg:mg "said" = some (.ref f))(B:BN mg):CF P w K mg base "said" 1 (spD K 2 Qi_) :=
 ⟨f,fd,["rule", "crowd"],jj_ (k:=0) Fn sc_said (λcdv A outer s H E hr =>
 (zc_ (zx_ (sh:=[.dead,.dead,.f]) (yW_ (i:=2) sc_said.nd rfl (by first|exact Or.inl rfl|exact Or.inr rfl) (.inl rfl) (N':=N_said_0) (k:=2) rfl (je_ (N:=zdA_) (sc:=(zd_ QQ_)) (by decide +kernel) rfl rfl) (zdx_ rfl B.zip (zb_ (zA_ (zq_ (zf_ hr)) zp_ (ao (av 0)) (ao ze_) (λ_ _=>rfl)) (zb_ (av 1) zk_ (za_ rfl)) (za_ rfl)) rfl rfl) (λcl s' H' fp C'=>(yY_ rfl (zZ_ (zw_ (i:=3) (show 3<=3 by decide) ZQ_ rfl (by first|exact Or.inl rfl|exact Or.inr rfl) (.inr rfl)) (zZ_ (zw_ (i:=4) (show 3<=4 by decide) ZQ_ rfl (by first|exact Or.inl rfl|exact Or.inr rfl) (.inr rfl)) yX_ rfl) rfl) rfl rfl)) (λcl s' H' fp C'=>(QE_ (zO_ W5_ Xi_ (ao (av 4)) (ao ze_) rfl))) (λcl s' H' fp C'=>(av 3)) rfl (λ_=>rfl)))
  (zc_ (uJ_ (z6_ (at_b (Vv_ (zcm_ rfl) zgY_ rfl B.all (by decide +kernel) (zo_ (ao (av 2)) zu_ (za_ rfl)) (by decide) (by decide) rfl rfl) (λ_=>rfl)))
  (zg_ (zC_ (zh_ Jl_)))
  zX_)
  (zg_ (zC_ (zh_ (zat_ (at_b (Vv_ (zcl_ rfl) zgX_ rfl B.any (by decide +kernel) (zo_ (ao (av 2)) zu_ (za_ rfl)) (by decide) (by decide) rfl rfl) (λ_=>rfl)) Jl_ Jl_)))))))
 (λds hl=>(by obtain⟨gaf,gac,rfl⟩:=ln2 hl;kernel_rfl)),hmg,Fn.kp,(bnd2 Fn λ_ _ _ _ _ _ _ _=>rfl)⟩
noncomputable abbrev ub_:Stmt:=top 19
noncomputable abbrev YZ_:List Str:=["rule", "crowd", "limit", "pairs", "leads", "known", "found", "here", "lead"]
theorem sc_leads_from:FnScope YZ_ ["rule", "crowd", "limit"] (zd_ ub_):=⟨rfl,rfl,rfl,by decide +kernel,rfl,by decide +kernel,by decide +kernel⟩
noncomputable def um_(ga5:D)(gaN:D)(gan:D)(gai:List (D×D))(gaO:List (D×D))(gam:List D):M D :=
 .ret (PyData.dict gai)
noncomputable def Jf_(kn2:D×D×D×List (D×D)×List (D×D)×List D×Unit->M D)(ga5:D)(gaN:D)(gan:D)(gai:List (D×D))(gaO:List (D×D))(gam:List D):M D :=
 kn2 (ga5,gaN,gan,gai,gaO,gam,())
def ju_(kn2:D×D×D×List (D×D)×List (D×D)×List D×Unit->M D)(ga5:D)(gaN:D)(gan:D)(gai:List (D×D))(gaO:List (D×D))(gam:List D)(d_:D)(kn14:D×D×D×List (D×D)×List (D×D)×List D×Unit->M D):M D :=
 bd (bd (oM (zs_ d_ (.int 1))) λx15=>oM (zV_ x15 (PyData.dict gaO))) λb16=>if b16 then
  bd (oM (zs_ d_ (.int 1))) λx17=>bd (oM (dPut true gaO x17 (.bool true))) λl18=>bd (oM (zs_ d_ (.int 1))) λx19=>bd (oM (mApp gam [x19])) λl20=>kn14 (ga5,gaN,gan,gai,l18,l20,())
  else
  kn14 (ga5,gaN,gan,gai,gaO,gam,())
def zz_(ga5:D)(gaN:D)(gan:D)(gai:List (D×D))(gaO:List (D×D))(gam:List D)(kn2:D×D×D×List (D×D)×List (D×D)×List D×Unit->M D):M D :=
 bd (bd (oM (X1_ [(PyData.dict gai)])) λx3=>bd (oM (fLen [(PyData.list gam)])) λx4=>oM (Yd_ x3 x4)) λb5=>if b5 then
  bd (bd (oM (fLen [(PyData.list gam)])) λx6=>oM (opGt x6 gaN)) λb7=>if b7 then
  .exc ⟨"TooMany",[]⟩
  else
  bd (bd (oM (X1_ [(PyData.dict gai)])) λx8=>oM (zs_ (PyData.list gam) x8)) λx9=>bd (uB_ ga5 gan x9) λx10=>bd (oM (dPut true gai x9 x10)) λl11=>bd (bd (oM (zs_ (PyData.dict l11) x9)) λx12=>oM (seqD x12)) λl13=>forS (λs21 d22 kn=>ju_ kn2 s21.1 s21.2.1 s21.2.2.1 s21.2.2.2.1 s21.2.2.2.2.1 s21.2.2.2.2.2.1 d22 kn) l13 (ga5,gaN,gan,l11,gaO,gam,()) (λs21=>Jf_ kn2 s21.1 s21.2.1 s21.2.2.1 s21.2.2.2.1 s21.2.2.2.2.1 s21.2.2.2.2.2.1)
  else um_ ga5 gaN gan gai gaO gam
def zM_(gaf:D)(gac:D)(gar:D):M D :=
 bd (uz_ gaf) λx1=>yi_ gac (UK_ (λs23 kn=>zz_ s23.1 s23.2.1 s23.2.2.1 s23.2.2.2.1 s23.2.2.2.2.1 s23.2.2.2.2.2.1 kn) 10000 (gaf,gar,x1,[],[(gac,(.bool true))],[gac],()))
def jX_:List D->M D:=λl=>match l with
 | [gaf,gac,gar]=>zM_ gaf gac gar
 | _=>.bad
set_option maxHeartbeats 4000000 in
theorem Ug_{f:Addr}{fd:FuncData}(Fn:Fun K "leads_from" "leads_from" ub_ f fd)(hmg:mg "leads_from" = some (.ref f))(B:BN mg)(ga8:CF P w K mg base "pairs_of" 1 (spD K 1 ZS_))(ga9:CF P w K mg base "leads_at" 2 (spD K 3 ZU_))(X_TooMany:CCl P w K mg base "TooMany" 1 []):CF P w K mg base "leads_from" 3 (spD K 3 jX_) :=
 ⟨f,fd,["rule", "crowd", "limit"],jj_ (k:=2) Fn sc_leads_from (λcdv A outer s H E hr =>
 (zc_ (zx_ (sh:=[.f,.f,.f,.f,.dead,.dead,.dead,.dead,.dead]) (zI_ (i:=3) sc_leads_from.nd rfl (by first|exact Or.inl rfl|exact Or.inr rfl) (zh_ (z8_ ga8 (hr.mono (by decide)) rfl (zb_ (av 0) zk_ (za_ rfl)) rfl (by decide) rfl rfl)) rfl (.inl rfl)))
  (zc_ (zx_ (sh:=[.f,.f,.f,.f,.t,.dead,.dead,.dead,.dead]) (zap_ true (i:=4) sc_leads_from.nd rfl (by first|exact Or.inl rfl|exact Or.inr rfl) rfl (.inl rfl)))
  (zc_ (zx_ (sh:=[.f,.f,.f,.f,.t,.t,.dead,.dead,.dead]) (zaq_ (i:=5) (zf_ hr) sc_leads_from.nd rfl (by first|exact Or.inl rfl|exact Or.inr rfl) (av 1) UG_ rfl (.inl rfl)))
  (zc_ (zx_ (sh:=[.f,.dead,.f,.f,.t,.t,.o,.dead,.dead]) (jw_ (i:=6) sc_leads_from.nd rfl (by first|exact Or.inl rfl|exact Or.inr rfl) (ua_ (j9_ (zb_ (av 1) zk_ (za_ rfl)) (by decide +kernel))) rfl (.inl rfl)))
  (zc_ (Ji_ (sh:=[.f,.dead,.f,.f,.t,.t,.o,.dead,.dead]) (fuel:=10000) PassesOwn.leaving (z6_ (zO_ (zcU_ (zf_ hr)) zcY_ (ao (zH_ YO_ Xe_ rfl B.len PySem.boot_len (zo_ (zF_ (i:=4) rfl (by first|exact Or.inl rfl|exact Or.inr (Or.inl rfl)|exact Or.inr (Or.inr rfl))) zu_ (za_ rfl)) (by decide) (by decide) rfl rfl)) (ao (zH_ zL_ jz_ rfl B.len PySem.boot_len (zo_ (zF_ (i:=6) rfl (by first|exact Or.inl rfl|exact Or.inr (Or.inl rfl)|exact Or.inr (Or.inr rfl))) zu_ (za_ rfl)) (by decide) (by decide) rfl rfl)) rfl))
  (zc_ (uJ_ (z6_ (zO_ W5_ Xi_ (ao (zH_ zL_ jz_ rfl B.len PySem.boot_len (zo_ (zF_ (i:=6) rfl (by first|exact Or.inl rfl|exact Or.inr (Or.inl rfl)|exact Or.inr (Or.inr rfl))) zu_ (za_ rfl)) (by decide) (by decide) rfl rfl)) (ao (av 2)) rfl))
  (zg_ (zao_ X_TooMany (hr.mono (by decide)) rfl (by decide)))
  zX_)
  (zc_ (zx_ (sh:=[.f,.dead,.f,.f,.t,.t,.o,.f,.dead]) (zI_ (i:=7) sc_leads_from.nd rfl (by first|exact Or.inl rfl|exact Or.inr rfl) (zh_ (zA_ (zq_ (zf_ hr)) zp_ (zF_ (i:=6) rfl (by first|exact Or.inl rfl|exact Or.inr (Or.inl rfl)|exact Or.inr (Or.inr rfl))) (ao (zH_ YO_ Xe_ rfl B.len PySem.boot_len (zo_ (zF_ (i:=4) rfl (by first|exact Or.inl rfl|exact Or.inr (Or.inl rfl)|exact Or.inr (Or.inr rfl))) zu_ (za_ rfl)) (by decide) (by decide) rfl rfl)) (λ_ _=>rfl))) rfl (.inl rfl)))
  (zc_ (zx_ (sh:=[.f,.dead,.f,.f,.t,.t,.o,.f,.dead]) (UE_ (zf_ hr) (i:=4) rfl (by first|exact Or.inl rfl|exact Or.inr (Or.inl rfl)|exact Or.inr (Or.inr rfl)) (zh_ (av 7)) (zh_ (z8_ ga9 (hr.mono (by decide)) rfl (zb_ (av 0) (zb_ (av 3) (zb_ (av 7) zk_ (za_ rfl)) (za_ rfl)) (za_ rfl)) rfl (by decide) rfl rfl)) rfl))
  (zg_ (z1_ (sh:=[.f,.dead,.f,.f,.t,.t,.o,.dead,.dead]) PassesOwn.leaving rfl (jx_ (yB_ (zA_ (zq_ (zf_ hr)) zp_ (zF_ (i:=4) rfl (by first|exact Or.inl rfl|exact Or.inr (Or.inl rfl)|exact Or.inr (Or.inr rfl))) (ao (av 7)) (λ_ _=>rfl)))) (zw_ (i:=8) (Nat.zero_le _) sc_leads_from.nd rfl (by first|exact Or.inl rfl|exact Or.inr rfl) (.inl rfl))
  (zg_ (uJ_ (z6_ (zO_ (ja_ (zf_ hr)) js_ (ao (zA_ (zq_ (zf_ hr)) zp_ (ao (av 8)) (ao ze_) (λ_ _=>rfl))) (zF_ (i:=5) rfl (by first|exact Or.inl rfl|exact Or.inr (Or.inl rfl)|exact Or.inr (Or.inr rfl))) rfl))
  (zc_ (zx_ (sh:=[.f,.dead,.f,.f,.t,.t,.o,.dead,.f]) (UE_ (zf_ hr) (i:=5) rfl (by first|exact Or.inl rfl|exact Or.inr (Or.inl rfl)|exact Or.inr (Or.inr rfl)) (zh_ (zA_ (zq_ (zf_ hr)) zp_ (ao (av 8)) (ao ze_) (λ_ _=>rfl))) (zh_ UG_) rfl))
  (zg_ (Jj_ (i:=6) rfl (by first|exact Or.inl rfl|exact Or.inr (Or.inl rfl)|exact Or.inr (Or.inr rfl)) (zi_ (zh_ (zA_ (zq_ (zf_ hr)) zp_ (ao (av 8)) (ao ze_) (λ_ _=>rfl))) zt_ (za_ rfl)) rfl rfl rfl rfl rfl rfl)))
  zX_)) (λ_=>rfl)))))))
  (zg_ (Zb_ (i:=4) (zC_ (zh_ (av 4)))))))))))
 (λds hl=>(by obtain⟨gaf,gac,gar,rfl⟩:=ln3 hl;kernel_rfl)),hmg,Fn.kp,(bnd3 Fn λ_ _ _ _ _ _ _ _ _=>rfl)⟩
noncomputable abbrev WK_:Stmt:=top 17
noncomputable abbrev zhU_:List Str:=["rule", "crowd", "limit"]
theorem zdQ_:FnScope zhU_ ["rule", "crowd", "limit"] (zd_ WK_):=⟨rfl,rfl,rfl,by decide +kernel,rfl,by decide +kernel,by decide +kernel⟩
def JV_(gaf:D)(gac:D)(gar:D):M D :=
 bd (bd (bd (bd (bd (zM_ gaf gac gar) λx1=>oM (uP_ [x1])) λl2=>.ret (PyData.list l2)) λx3=>oM (JO_ [x3])) λl4=>.ret (PyData.list l4)) λx5=>.ret x5
def Qj_:List D->M D:=λl=>match l with
 | [gaf,gac,gar]=>JV_ gaf gac gar
 | _=>.bad
set_option maxHeartbeats 4000000 in
theorem zeE_{f T:Addr}{fd:FuncData}(Fn:FunV K "come" "come" WK_ f fd T)(hT:DfT K T 1000)(hmg:mg "come" = some (.ref f))(B:BN mg)(gaA:CF P w K mg base "leads_from" 3 (spD K 3 jX_)):CF P w K mg base "come" 4 (spD K 3 Qj_) :=
 ⟨f,fd,["rule", "crowd", "limit"],Qy_ (k:=3) Fn zdQ_ (λcdv A outer s H E hr =>
 (zg_ (zC_ (zh_ (ap_z (zct_ (Wf_ rfl) zbp_ rfl B.sorted (by decide +kernel) (zo_ (ao (ap_z (Jm_ (yS_ rfl) Uf_ rfl B.list (by decide +kernel) (zo_ (ao (z8_ gaA (hr.mono (by decide)) rfl (zb_ (av 0) (zb_ (av 1) (zb_ (av 2) zk_ (za_ rfl)) (za_ rfl)) (za_ rfl)) rfl (by decide) rfl rfl)) zu_ (za_ rfl)) (by decide) (by decide) rfl rfl))) zu_ (za_ rfl)) (by decide) (by decide) rfl rfl))))))
 (λds hl=>(by obtain⟨gaf,gac,gar,rfl⟩:=ln3 hl;kernel_rfl)),hmg,Fn.kp,(Fn.binds0 hT λ_ _ _ _ _ _ us u hl=>(by obtain⟨a0,a1,a2,rfl⟩:=ln3 hl;exact⟨_,rfl,rfl⟩))⟩
noncomputable abbrev J9_:Stmt:=top 21
noncomputable abbrev zcz_:List Str:=["ahead", "goal", "row", "step"]
theorem sc_row_to:FnScope zcz_ ["ahead", "goal"] (zd_ J9_):=⟨rfl,rfl,rfl,by decide +kernel,rfl,by decide +kernel,by decide +kernel⟩
def Jd_(gaz:D)(gby:List D)(gbu:D):M D :=
 bd (bd (oM (zbY_ [(PyData.list gby)])) λl2=>.ret (PyData.list l2)) λx3=>.ret x3
def jd_(gaz:D)(gby:List D)(gbu:D)(kn4:D×List D×D×Unit->M D):M D :=
 bd (oM (jr_ gbu .none)) λb5=>if b5 then
  bd (oM (zs_ gbu (.int 1))) λx6=>bd (oM (mApp gby [x6])) λl7=>bd (bd (oM (zs_ gbu (.int 0))) λx8=>oM (zs_ gaz x8)) λx9=>kn4 (gaz,l7,x9,())
  else Jd_ gaz gby gbu
def Zu_(gbg:D)(gaU:D):M D :=
 bd (oM (zs_ gbg gaU)) λx1=>UK_ (λs10 kn=>jd_ s10.1 s10.2.1 s10.2.2.1 kn) 10000 (gbg,[],x1,())
def Yq_:List D->M D:=λl=>match l with
 | [gbg,gaU]=>Zu_ gbg gaU
 | _=>.bad
set_option maxHeartbeats 4000000 in
theorem Xc_{f:Addr}{fd:FuncData}(Fn:Fun K "row_to" "row_to" J9_ f fd)(hmg:mg "row_to" = some (.ref f))(B:BN mg):CF P w K mg base "row_to" 1 (spD K 2 Yq_) :=
 ⟨f,fd,["ahead", "goal"],jj_ (k:=0) Fn sc_row_to (λcdv A outer s H E hr =>
 (zc_ (zx_ (sh:=[.f,.f,.o,.dead]) (jw_ (i:=2) sc_row_to.nd rfl (by first|exact Or.inl rfl|exact Or.inr rfl) (ua_ (j9_ zk_ (by decide +kernel))) rfl (.inl rfl)))
  (zc_ (zx_ (sh:=[.f,.dead,.o,.f]) (zI_ (i:=3) sc_row_to.nd rfl (by first|exact Or.inl rfl|exact Or.inr rfl) (zh_ (zA_ (zq_ (zf_ hr)) zp_ (ao (av 0)) (ao (av 1)) (λ_ _=>rfl))) rfl (.inl rfl)))
  (zc_ (Ji_ (sh:=[.f,.dead,.o,.f]) (fuel:=10000) PassesOwn.leaving (z6_ (zO_ Zl_ uY_ (ao (av 3)) (ao yA_) rfl))
  (zc_ (zx_ (sh:=[.f,.dead,.o,.f]) (Jj_ (i:=2) rfl (by first|exact Or.inl rfl|exact Or.inr (Or.inl rfl)|exact Or.inr (Or.inr rfl)) (zi_ (zh_ (zA_ (zq_ (zf_ hr)) zp_ (ao (av 3)) (ao ze_) (λ_ _=>rfl))) zt_ (za_ rfl)) rfl rfl rfl rfl rfl rfl))
  (zg_ (zI_ (i:=3) sc_row_to.nd rfl (by first|exact Or.inl rfl|exact Or.inr rfl) (zh_ (zA_ (zq_ (zf_ hr)) zp_ (ao (av 0)) (ao (zA_ (zq_ (zf_ hr)) zp_ (ao (av 3)) (ao ze_) (λ_ _=>rfl))) (λ_ _=>rfl))) rfl (.inl rfl)))))
  (zg_ (Zb_ (i:=2) (zC_ (zh_ (ap_z (Wl_ rfl rfl B.list rfl B.reversed (zo_ (ao (av 2)) zu_ (za_ rfl)) rfl rfl))))))))))
 (λds hl=>(by obtain⟨gbg,gaU,rfl⟩:=ln2 hl;kernel_rfl)),hmg,Fn.kp,(bnd2 Fn λ_ _ _ _ _ _ _ _=>rfl)⟩
noncomputable abbrev J7_:Stmt:=top 20
noncomputable abbrev zcx_:List Str:=["leads", "crowd", "goals", "ahead", "found", "place", "here", "lead"]
theorem sc_way_in:FnScope zcx_ ["leads", "crowd", "goals"] (zd_ J7_):=⟨rfl,rfl,rfl,by decide +kernel,rfl,by decide +kernel,by decide +kernel⟩
def Jc_(gai:D)(gaP:D)(gaz:List (D×D))(gam:List D)(gaI:D):M D :=
 bd (bd (oM (zs_ (PyData.list gam) gaI)) λx1=>Zu_ (PyData.dict gaz) x1) λx2=>.ret x2
def Jb_(kn3:D×D×List (D×D)×List D×D×Unit->M D)(gai:D)(gaP:D)(gaz:List (D×D))(gam:List D)(gaI:D)(gbw:D):M D :=
 bd (oM (y2_ gaI (.int 1))) λx9=>kn3 (gai,gaP,gaz,gam,x9,())
def u4_(kn3:D×D×List (D×D)×List D×D×Unit->M D)(gai:D)(gaP:D)(gaz:List (D×D))(gam:List D)(gaI:D)(gbw:D)(d_:D)(kn10:D×D×List (D×D)×List D×D×D×Unit->M D):M D :=
 bd (bd (oM (zs_ d_ (.int 1))) λx11=>oM (zV_ x11 (PyData.dict gaz))) λb12=>if b12 then
  bd (oM (zs_ d_ (.int 1))) λx13=>bd (oM (dPut true gaz x13 (.tuple [gbw,d_]))) λl14=>bd (oM (zs_ d_ (.int 1))) λx15=>bd (oM (mApp gam [x15])) λl16=>kn10 (gai,gaP,l14,l16,gaI,gbw,())
  else
  kn10 (gai,gaP,gaz,gam,gaI,gbw,())
def j1_(gai:D)(gaP:D)(gaz:List (D×D))(gam:List D)(gaI:D)(kn3:D×D×List (D×D)×List D×D×Unit->M D):M D :=
 bd (bd (oM (zs_ (PyData.list gam) gaI)) λx4=>oM (zV_ x4 gaP)) λb5=>if b5 then
  bd (oM (zs_ (PyData.list gam) gaI)) λx6=>bd (bd (oM (zs_ gai x6)) λx7=>oM (seqD x7)) λl8=>forS (λs17 d18 kn=>u4_ kn3 s17.1 s17.2.1 s17.2.2.1 s17.2.2.2.1 s17.2.2.2.2.1 s17.2.2.2.2.2.1 d18 kn) l8 (gai,gaP,gaz,gam,gaI,x6,()) (λs17=>Jb_ kn3 s17.1 s17.2.1 s17.2.2.1 s17.2.2.2.1 s17.2.2.2.2.1 s17.2.2.2.2.2.1)
  else Jc_ gai gaP gaz gam gaI
def Zt_(gbp:D)(gac:D)(gbq:D):M D :=
 yi_ gac (UK_ (λs19 kn=>j1_ s19.1 s19.2.1 s19.2.2.1 s19.2.2.2.1 s19.2.2.2.2.1 kn) 10000 (gbp,gbq,[(gac,.none)],[gac],(.int 0),()))
def Yo_:List D->M D:=λl=>match l with
 | [gbp,gac,gbq]=>Zt_ gbp gac gbq
 | _=>.bad
set_option maxHeartbeats 4000000 in
theorem Xa_{f:Addr}{fd:FuncData}(Fn:Fun K "way_in" "way_in" J7_ f fd)(hmg:mg "way_in" = some (.ref f))(B:BN mg)(gbr:CF P w K mg base "row_to" 1 (spD K 2 Yq_)):CF P w K mg base "way_in" 2 (spD K 3 Yo_) :=
 ⟨f,fd,["leads", "crowd", "goals"],jj_ (k:=1) Fn sc_way_in (λcdv A outer s H E hr =>
 (zc_ (zx_ (sh:=[.f,.f,.f,.t,.dead,.dead,.dead,.dead]) (zaq_ (i:=3) (zf_ hr) sc_way_in.nd rfl (by first|exact Or.inl rfl|exact Or.inr rfl) (av 1) yA_ rfl (.inl rfl)))
  (zc_ (zx_ (sh:=[.f,.dead,.f,.t,.o,.dead,.dead,.dead]) (jw_ (i:=4) sc_way_in.nd rfl (by first|exact Or.inl rfl|exact Or.inr rfl) (ua_ (j9_ (zb_ (av 1) zk_ (za_ rfl)) (by decide +kernel))) rfl (.inl rfl)))
  (zc_ (zx_ (sh:=[.f,.dead,.f,.t,.o,.f,.dead,.dead]) (zI_ (i:=5) sc_way_in.nd rfl (by first|exact Or.inl rfl|exact Or.inr rfl) (zh_ ze_) rfl (.inl rfl)))
  (zc_ (Ji_ (sh:=[.f,.dead,.f,.t,.o,.f,.dead,.dead]) (fuel:=10000) PassesOwn.leaving (z6_ (zO_ (ja_ (zf_ hr)) js_ (ao (zA_ (zq_ (zf_ hr)) zp_ (zF_ (i:=4) rfl (by first|exact Or.inl rfl|exact Or.inr (Or.inl rfl)|exact Or.inr (Or.inr rfl))) (ao (av 5)) (λ_ _=>rfl))) (ao (av 2)) rfl))
  (zc_ (zx_ (sh:=[.f,.dead,.f,.t,.o,.f,.f,.dead]) (zI_ (i:=6) sc_way_in.nd rfl (by first|exact Or.inl rfl|exact Or.inr rfl) (zh_ (zA_ (zq_ (zf_ hr)) zp_ (zF_ (i:=4) rfl (by first|exact Or.inl rfl|exact Or.inr (Or.inl rfl)|exact Or.inr (Or.inr rfl))) (ao (av 5)) (λ_ _=>rfl))) rfl (.inl rfl)))
  (zc_ (z1_ (sh:=[.f,.dead,.f,.t,.o,.f,.f,.dead]) PassesOwn.leaving rfl (jx_ (yB_ (zA_ (zq_ (zf_ hr)) zp_ (ao (av 0)) (ao (av 6)) (λ_ _=>rfl)))) (zw_ (i:=7) (Nat.zero_le _) sc_way_in.nd rfl (by first|exact Or.inl rfl|exact Or.inr rfl) (.inl rfl))
  (zg_ (uJ_ (z6_ (zO_ (ja_ (zf_ hr)) js_ (ao (zA_ (zq_ (zf_ hr)) zp_ (ao (av 7)) (ao ze_) (λ_ _=>rfl))) (zF_ (i:=3) rfl (by first|exact Or.inl rfl|exact Or.inr (Or.inl rfl)|exact Or.inr (Or.inr rfl))) rfl))
  (zc_ (zx_ (sh:=[.f,.dead,.f,.t,.o,.f,.f,.f]) (UE_ (zf_ hr) (i:=3) rfl (by first|exact Or.inl rfl|exact Or.inr (Or.inl rfl)|exact Or.inr (Or.inr rfl)) (zh_ (zA_ (zq_ (zf_ hr)) zp_ (ao (av 7)) (ao ze_) (λ_ _=>rfl))) (zh_ (yz_ (zb_ (av 6) (zb_ (av 7) zk_ (za_ rfl)) (za_ rfl)) (by decide +kernel))) rfl))
  (zg_ (Jj_ (i:=4) rfl (by first|exact Or.inl rfl|exact Or.inr (Or.inl rfl)|exact Or.inr (Or.inr rfl)) (zi_ (zh_ (zA_ (zq_ (zf_ hr)) zp_ (ao (av 7)) (ao ze_) (λ_ _=>rfl))) zt_ (za_ rfl)) rfl rfl rfl rfl rfl rfl)))
  zX_)) (λ_=>rfl))
  (zg_ (zhM_ (i:=5) sc_way_in.nd rfl (by first|exact Or.inl rfl|exact Or.inr rfl) Vc_ Uq_ (zh_ ze_) (.inl rfl))))))
  (zg_ (Zb_ (i:=3) (zC_ (zh_ (z8_ gbr (hr.mono (by decide)) rfl (zb_ (av 3) (zb_ (zA_ (zq_ (zf_ hr)) zp_ (zF_ (i:=4) rfl (by first|exact Or.inl rfl|exact Or.inr (Or.inl rfl)|exact Or.inr (Or.inr rfl))) (ao (av 5)) (λ_ _=>rfl)) zk_ (za_ rfl)) (za_ rfl)) rfl (by decide) rfl rfl))))))))))
 (λds hl=>(by obtain⟨gbp,gac,gbq,rfl⟩:=ln3 hl;kernel_rfl)),hmg,Fn.kp,(bnd3 Fn λ_ _ _ _ _ _ _ _ _=>rfl)⟩
noncomputable abbrev Zf_:Stmt:=top 18
noncomputable abbrev Vw_:List Str:=["rule", "crowd", "goal", "limit", "leads"]
theorem sc_way_to:FnScope Vw_ ["rule", "crowd", "goal", "limit"] (zd_ Zf_):=⟨rfl,rfl,rfl,by decide +kernel,rfl,by decide +kernel,by decide +kernel⟩
noncomputable abbrev N_way_to_0:List Str:=["rule", "crowd", "goal", "limit", "leads", "lead"]
theorem Ui_:N_way_to_0.Nodup:=by decide +kernel
def Zs_(gaf:D)(gac:D)(gaU:D)(gar:D):M D :=
 bd (zM_ gaf gac gar) λx1=>bd (oM (zV_ gaU x1)) λb2=>if b2 then
  .ret .none
  else
  bd (bd (bd (bd (bd (yi_ gaU (.ret (.dict [(gaU,(.bool true))]))) λx3=>Zt_ x1 gac x3) λx4=>oM (seqD x4)) λl7=>bd (jm_ (λd5=>bd (oM (zs_ d5 (.int 0))) λx6=>.ret (some x6)) l7) fitM) λl8=>.ret (PyData.list l8)) λx9=>.ret x9
def Yn_:List D->M D:=λl=>match l with
 | [gaf,gac,gaU,gar]=>Zs_ gaf gac gaU gar
 | _=>.bad
set_option maxHeartbeats 4000000 in
theorem W9_{f T:Addr}{fd:FuncData}(Fn:FunV K "way_to" "way_to" Zf_ f fd T)(hT:DfT K T 1000)(hmg:mg "way_to" = some (.ref f))(B:BN mg)(gaA:CF P w K mg base "leads_from" 3 (spD K 3 jX_))(gbs:CF P w K mg base "way_in" 2 (spD K 3 Yo_)):CF P w K mg base "way_to" 4 (spD K 4 Yn_) :=
 ⟨f,fd,["rule", "crowd", "goal", "limit"],Qy_ (k:=3) Fn sc_way_to (λcdv A outer s H E hr =>
 (zc_ (zx_ (sh:=[.dead,.f,.f,.dead,.f]) (zI_ (i:=4) sc_way_to.nd rfl (by first|exact Or.inl rfl|exact Or.inr rfl) (zh_ (z8_ gaA (hr.mono (by decide)) rfl (zb_ (av 0) (zb_ (av 1) (zb_ (av 3) zk_ (za_ rfl)) (za_ rfl)) (za_ rfl)) rfl (by decide) rfl rfl)) rfl (.inl rfl)))
  (zc_ (uJ_ (z6_ (zO_ (ja_ (zf_ hr)) js_ (ao (av 2)) (ao (av 4)) rfl))
  (zg_ (zC_ (zh_ yA_)))
  zX_)
  (zg_ (zC_ (zh_ (ap_z (QG_ (N':=N_way_to_0) (k:=1) rfl (je_ (N:=Vw_) (sc:=(zd_ Zf_)) (by decide +kernel) rfl rfl) (yB_ (z8_ gbs (hr.mono (by decide)) rfl (zb_ (av 4) (zb_ (av 1) (zb_ (zfo_ (zf_ hr) (av 2) UG_) zk_ (za_ rfl)) (za_ rfl)) (za_ rfl)) rfl (by decide) rfl rfl)) (λcl s' H' fp C'=>(zw_ (i:=5) (show 5<=5 by decide) Ui_ rfl (by first|exact Or.inl rfl|exact Or.inr rfl) (.inr rfl))) (λcl s' H' fp C'=>Jh_) (λcl s' H' fp C'=>(zA_ (zq_ (zf_ hr)) zp_ (ao (av 5)) (ao ze_) (λ_ _=>rfl))) (λ_=>rfl)))))))))
 (λds hl=>(by obtain⟨gaf,gac,gaU,gar,rfl⟩:=ln4 hl;kernel_rfl)),hmg,Fn.kp,(Fn.binds0 hT λ_ _ _ _ _ _ us u hl=>(by obtain⟨a0,a1,a2,a3,rfl⟩:=ln4 hl;exact⟨_,rfl,rfl⟩))⟩
noncomputable abbrev ye_:Stmt:=top 23
noncomputable abbrev YY_:List Str:=["rule", "crowd", "limit", "words"]
theorem sc_settled:FnScope YY_ ["rule", "crowd", "limit"] (zd_ ye_):=⟨rfl,rfl,rfl,by decide +kernel,rfl,by decide +kernel,by decide +kernel⟩
noncomputable abbrev N_settled_0:List Str:=["rule", "crowd", "limit", "words", "here"]
theorem Jp_:N_settled_0.Nodup:=by decide +kernel
def yu_(gaf:D)(gac:D)(gar:D):M D :=
 bd (bd (bd (bd (JV_ gaf gac gar) λx1=>oM (seqD x1)) λl4=>bd (jm_ (λd2=>bd (y9_ gaf d2) λx3=>.ret (some x3)) l4) fitM) λl5=>.ret (PyData.list l5)) λx6=>bd (bd (onT .lst x6 (oM (ul_ x6 [(.str "yes")]))) λx7=>bd (oM (fLen [x6])) λx8=>oM (opEq x7 x8)) λb9=>if b9 then
  .ret (.bool true)
  else
  bd (bd (bd (onT .lst x6 (oM (ul_ x6 [(.str "no")]))) λx10=>bd (oM (fLen [x6])) λx11=>oM (opEq x10 x11)) λb12=>if b12 then .ret (.bool false)else .ret .none) λx13=>.ret x13
def JG_:List D->M D:=λl=>match l with
 | [gaf,gac,gar]=>yu_ gaf gac gar
 | _=>.bad
set_option maxHeartbeats 4000000 in
theorem VR_{f T:Addr}{fd:FuncData}(Fn:FunV K "settled" "settled" ye_ f fd T)(hT:DfT K T 1000)(hmg:mg "settled" = some (.ref f))(B:BN mg)(gbk:CF P w K mg base "said" 1 (spD K 2 Qi_))(gbh:CF P w K mg base "come" 4 (spD K 3 Qj_)):CF P w K mg base "settled" 5 (spD K 3 JG_) :=
 ⟨f,fd,["rule", "crowd", "limit"],Qy_ (k:=4) Fn sc_settled (λcdv A outer s H E hr =>
 (zc_ (zx_ (sh:=[.dead,.dead,.dead,.f]) (yW_ (i:=3) sc_settled.nd rfl (by first|exact Or.inl rfl|exact Or.inr rfl) (.inl rfl) (N':=N_settled_0) (k:=1) rfl (je_ (N:=YY_) (sc:=(zd_ ye_)) (by decide +kernel) rfl rfl) (yB_ (z8_ gbh (hr.mono (by decide)) rfl (zb_ (av 0) (zb_ (av 1) (zb_ (av 2) zk_ (za_ rfl)) (za_ rfl)) (za_ rfl)) rfl (by decide) rfl rfl)) (λcl s' H' fp C'=>(zw_ (i:=4) (show 4<=4 by decide) Jp_ rfl (by first|exact Or.inl rfl|exact Or.inr rfl) (.inr rfl))) (λcl s' H' fp C'=>Jh_) (λcl s' H' fp C'=>(z8_ gbk (hr.mono (by decide)) rfl (zb_ (av 0) (zb_ (av 4) zk_ (za_ rfl)) (za_ rfl)) rfl (by decide) rfl rfl)) rfl (λ_=>rfl)))
  (zc_ (uJ_ (z6_ (zO_ (U9_ (zf_ hr)) uY_ (ao (zas_ (ty:=.lst) PySem.F.plainAttrs_list PySem.F.slot_list_count PySem.F.type_list_count (Ym_ (zf_ hr)) (ao (av 3)) (zb_ Jl_ zk_ (za_ rfl)) rfl rfl rfl rfl rfl)) (ao (zH_ zL_ jz_ rfl B.len PySem.boot_len (zo_ (ao (av 3)) zu_ (za_ rfl)) (by decide) (by decide) rfl rfl)) rfl))
  (zg_ (zC_ (zh_ UG_)))
  zX_)
  (zg_ (zC_ (zh_ (zat_ (zO_ (U9_ (zf_ hr)) uY_ (ao (zas_ (ty:=.lst) PySem.F.plainAttrs_list PySem.F.slot_list_count PySem.F.type_list_count (Ym_ (zf_ hr)) (ao (av 3)) (zb_ Jl_ zk_ (za_ rfl)) rfl rfl rfl rfl rfl)) (ao (zH_ zL_ jz_ rfl B.len PySem.boot_len (zo_ (ao (av 3)) zu_ (za_ rfl)) (by decide) (by decide) rfl rfl)) rfl) UG_ yA_)))))))
 (λds hl=>(by obtain⟨gaf,gac,gar,rfl⟩:=ln3 hl;kernel_rfl)),hmg,Fn.kp,(Fn.binds0 hT λ_ _ _ _ _ _ us u hl=>(by obtain⟨a0,a1,a2,rfl⟩:=ln3 hl;exact⟨_,rfl,rfl⟩))⟩
noncomputable abbrev uW_:Stmt:=top 25
noncomputable abbrev QK_:List Str:=["_law_script", "_law_k", "_law_cell", "_law_great"]
theorem sc__law_feed:FnScope QK_ ["_law_script", "_law_k"] (zd_ uW_):=⟨rfl,rfl,rfl,by decide +kernel,rfl,by decide +kernel,by decide +kernel⟩
def j6_(gak:D)(gbi:D):M (List D) :=
 bd (bd (bd (oM (fLen [gak])) λx1=>oM (opGt x1 (.int 0))) λb4=>if b4 then bd (bd (oM (fLen [gak])) λx2=>oM (ZN_ gbi x2)) λx3=>oM (zs_ gak x3)else .ret (.int 0)) λx5=>bd (bd (bd (oM (fAbs [x5])) λx6=>bd (oM (W7_ (.int 10) (.int 18))) λx7=>oM (opGe x6 x7)) λb8=>if b8 then oM (fAbs [x5])else .ret (.int 0)) λx9=>bd (bd (bd (oM (ZN_ x5 (.int 1000003))) λx10=>bd (oM (uL_ (.int 7919) gbi)) λx11=>oM (jC_ x10 x11)) λx12=>.ret [x9,x12,(.int 0)]) λl13=>.ret l13
def y5_:List D->M (List D):=λl=>match l with
 | [gak,gbi]=>j6_ gak gbi
 | _=>.bad
set_option maxHeartbeats 4000000 in
theorem Yj_{f:Addr}{fd:FuncData}(Fn:Fun K "_law_feed" "_law_feed" uW_ f fd)(hmg:mg "_law_feed" = some (.ref f))(B:BN mg):CF P w K mg base "_law_feed" 1 (spL K 2 y5_) :=
 ⟨f,fd,["_law_script", "_law_k"],zhz_ (k:=0) Fn sc__law_feed (λcdv A outer s H E hr =>
 (zc_ (zx_ (sh:=[.dead,.f,.f,.dead]) (zI_ (i:=2) sc__law_feed.nd rfl (by first|exact Or.inl rfl|exact Or.inr rfl) (zh_ (zat_ (zO_ W5_ Xi_ (ao (zH_ zL_ jz_ rfl B.len PySem.boot_len (zo_ (ao (av 0)) zu_ (za_ rfl)) (by decide) (by decide) rfl rfl)) (ao ze_) rfl) (zA_ (zq_ (zf_ hr)) zp_ (ao (av 0)) (ao (zQ_ ZM_ ZO_ (ao (av 1)) (ao (zH_ zL_ jz_ rfl B.len PySem.boot_len (zo_ (ao (av 0)) zu_ (za_ rfl)) (by decide) (by decide) rfl rfl)))) (λ_ _=>rfl)) ze_)) rfl (.inl rfl)))
  (zc_ (zx_ (sh:=[.dead,.f,.f,.f]) (zI_ (i:=3) sc__law_feed.nd rfl (by first|exact Or.inl rfl|exact Or.inr rfl) (zh_ (zat_ (zO_ zew_ zeD_ (ao (zH_ Vp_ zda_ rfl B.abs (by decide +kernel) (zo_ (ao (av 2)) zu_ (za_ rfl)) (by decide) (by decide) rfl rfl)) (ao (zQ_ zgO_ zgV_ (ao ze_) (ao ze_))) rfl) (zH_ Vp_ zda_ rfl B.abs (by decide +kernel) (zo_ (ao (av 2)) zu_ (za_ rfl)) (by decide) (by decide) rfl rfl) ze_)) rfl (.inl rfl)))
  (zg_ (zfm_ (ua_ (j9_ (zb_ (av 3) (zb_ (zQ_ jb_ jI_ (ao (zQ_ ZM_ ZO_ (ao (av 2)) (ao ze_))) (ao (zQ_ Yb_ Yf_ (ao ze_) (ao (av 1))))) (zb_ ze_ zk_ (za_ rfl)) (za_ rfl)) (za_ rfl)) (by decide +kernel))))))))
 (λds hl=>(by obtain⟨gak,gbi,rfl⟩:=ln2 hl;kernel_rfl)),hmg,Fn.kp,(bnd2 Fn λ_ _ _ _ _ _ _ _=>rfl)⟩
noncomputable abbrev uV_:Stmt:=top 26
noncomputable abbrev QJ_:List Str:=["_law_feed_here", "_law_many", "_law_digit", "_law_turn", "_law_one_here"]
theorem sc__law_next:FnScope QJ_ ["_law_feed_here", "_law_many"] (zd_ uV_):=⟨rfl,rfl,rfl,by decide +kernel,rfl,by decide +kernel,by decide +kernel⟩
def zl_(gaa:List D)(gaG:D):M (D×List D) :=
 bd (bd (oM (zs_ (PyData.list gaa) (.int 0))) λx1=>oM (opGt x1 (.int 0))) λb2=>if b2 then
  bd (bd (oM (zs_ (PyData.list gaa) (.int 0))) λx3=>oM (ZN_ x3 gaG)) λx4=>bd (bd (oM (zs_ (PyData.list gaa) (.int 0))) λx5=>oM (W8_ x5 gaG)) λx6=>bd (oM (putD gaa (.int 0) x6)) λl7=>.ret (x4,l7)
  else
  bd (bd (oM (zs_ (PyData.list gaa) (.int 2))) λx8=>oM (jC_ x8 (.int 1))) λx9=>bd (oM (putD gaa (.int 2) x9)) λl10=>bd (bd (bd (bd (bd (oM (zs_ (PyData.list l10) (.int 1))) λx11=>bd (oM (uL_ (.int 41) x9)) λx12=>oM (jC_ x11 x12)) λx13=>oM (jC_ x13 (.int 3))) λx15=>bd (bd (oM (uL_ x9 x9)) λx14=>oM (jC_ x14 (.int 69621))) λx16=>oM (uL_ x15 x16)) λx17=>oM (ZN_ x17 (.int 998244353))) λx18=>bd (bd (bd (bd (bd (bd (bd (oM (ZN_ x18 (.int 65519))) λx19=>oM (jC_ x19 (.int 40692))) λx20=>oM (uL_ x18 x20)) λx21=>oM (jC_ x21 x9)) λx22=>oM (ZN_ x22 (.int 2147483629))) λx23=>oM (W8_ x23 (.int 13))) λx24=>oM (ZN_ x24 gaG)) λx25=>.ret (x25,l10)
def z2_:List D->List D->M (D×List D):=λgaa l=>match l with
 | [gaG]=>zl_ gaa gaG
 | _=>.bad
set_option maxHeartbeats 4000000 in
theorem Yi_{f:Addr}{fd:FuncData}(Fn:Fun K "_law_next" "_law_next" uV_ f fd)(hmg:mg "_law_next" = some (.ref f))(B:BN mg):CF P w K mg base "_law_next" 1 (sp1 K 2 z2_) :=
 ⟨f,fd,["_law_feed_here", "_law_many"],Yz_ (k:=0) Fn sc__law_next (λcdv A outer s H E hr =>
 (zc_ (uJ_ (z6_ (zO_ W5_ Xi_ (ao (zA_ (zq_ (zf_ hr)) zp_ (zF_ (i:=0) rfl (by first|exact Or.inl rfl|exact Or.inr (Or.inl rfl)|exact Or.inr (Or.inr rfl))) (ao ze_) (λ_ _=>rfl))) (ao ze_) rfl))
  (zc_ (zx_ (sh:=[.p,.f,.f,.dead,.dead]) (zI_ (i:=2) sc__law_next.nd rfl (by first|exact Or.inl rfl|exact Or.inr rfl) (zh_ (zQ_ ZM_ ZO_ (ao (zA_ (zq_ (zf_ hr)) zp_ (zF_ (i:=0) rfl (by first|exact Or.inl rfl|exact Or.inr (Or.inl rfl)|exact Or.inr (Or.inr rfl))) (ao ze_) (λ_ _=>rfl))) (ao (av 1)))) rfl (.inl rfl)))
  (zc_ (zx_ (sh:=[.p,.dead,.f,.dead,.dead]) (zdv_ (i:=0) rfl (by first|exact Or.inl rfl|exact Or.inr (Or.inl rfl)|exact Or.inr (Or.inr rfl)) (zh_ ze_) (zh_ (zQ_ W6_ zcZ_ (ao (zA_ (zq_ (zf_ hr)) zp_ (zF_ (i:=0) rfl (by first|exact Or.inl rfl|exact Or.inr (Or.inl rfl)|exact Or.inr (Or.inr rfl))) (ao ze_) (λ_ _=>rfl))) (ao (av 1)))) (λ_=>rfl) rfl rfl rfl))
  (zg_ (zC_ (zh_ (av 2))))))
  zX_)
  (zc_ (zx_ (sh:=[.p,.f,.dead,.f,.dead]) (zI_ (i:=3) sc__law_next.nd rfl (by first|exact Or.inl rfl|exact Or.inr rfl) (zh_ (zQ_ jb_ jI_ (ao (zA_ (zq_ (zf_ hr)) zp_ (zF_ (i:=0) rfl (by first|exact Or.inl rfl|exact Or.inr (Or.inl rfl)|exact Or.inr (Or.inr rfl))) (ao ze_) (λ_ _=>rfl))) (ao ze_))) rfl (.inl rfl)))
  (zc_ (zx_ (sh:=[.p,.f,.dead,.f,.dead]) (zdv_ (i:=0) rfl (by first|exact Or.inl rfl|exact Or.inr (Or.inl rfl)|exact Or.inr (Or.inr rfl)) (zh_ ze_) (zh_ (av 3)) (λ_=>rfl) rfl rfl rfl))
  (zc_ (zx_ (sh:=[.p,.f,.dead,.f,.f]) (zI_ (i:=4) sc__law_next.nd rfl (by first|exact Or.inl rfl|exact Or.inr rfl) (zh_ (zQ_ ZM_ ZO_ (ao (zQ_ Yb_ Yf_ (ao (zQ_ jb_ jI_ (ao (zQ_ jb_ jI_ (ao (zA_ (zq_ (zf_ hr)) zp_ (zF_ (i:=0) rfl (by first|exact Or.inl rfl|exact Or.inr (Or.inl rfl)|exact Or.inr (Or.inr rfl))) (ao ze_) (λ_ _=>rfl))) (ao (zQ_ Yb_ Yf_ (ao ze_) (ao (av 3)))))) (ao ze_))) (ao (zQ_ jb_ jI_ (ao (zQ_ Yb_ Yf_ (ao (av 3)) (ao (av 3)))) (ao ze_))))) (ao ze_))) rfl (.inl rfl)))
  (zg_ (zC_ (zh_ (zQ_ ZM_ ZO_ (ao (zQ_ W6_ zcZ_ (ao (zQ_ ZM_ ZO_ (ao (zQ_ jb_ jI_ (ao (zQ_ Yb_ Yf_ (ao (av 4)) (ao (zQ_ jb_ jI_ (ao (zQ_ ZM_ ZO_ (ao (av 4)) (ao ze_))) (ao ze_))))) (ao (av 3)))) (ao ze_))) (ao ze_))) (ao (av 1)))))))))))
 (λg ds hl=>(by obtain⟨gaG,rfl⟩:=ln1 (Nat.succ.inj hl);kernel_rfl)),hmg,Fn.kp,(bnd2 Fn λ_ _ _ _ _ _ _ _=>rfl)⟩
noncomputable abbrev yJ_:Stmt:=top 27
noncomputable abbrev Wq_:List Str:=["_law_feed_here", "_law_some"]
theorem Y3_:FnScope Wq_ ["_law_feed_here", "_law_some"] (zd_ yJ_):=⟨rfl,rfl,rfl,by decide +kernel,rfl,by decide +kernel,by decide +kernel⟩
def jN_(gaa:List D)(gaL:D):M (D×List D) :=
 bd (oM (fLen [gaL])) λx1=>bd (zl_ gaa x1) λr2=>bd (oM (zs_ gaL r2.1)) λx3=>.ret (x3,r2.2)
def u0_:List D->List D->M (D×List D):=λgaa l=>match l with
 | [gaL]=>jN_ gaa gaL
 | _=>.bad
set_option maxHeartbeats 4000000 in
theorem Qe_{f:Addr}{fd:FuncData}(Fn:Fun K "_law_one" "_law_one" yJ_ f fd)(hmg:mg "_law_one" = some (.ref f))(B:BN mg)(gad:CF P w K mg base "_law_next" 1 (sp1 K 2 z2_)):CF P w K mg base "_law_one" 2 (sp1 K 2 u0_) :=
 ⟨f,fd,["_law_feed_here", "_law_some"],Yz_ (k:=1) Fn Y3_ (λcdv A outer s H E hr =>
 (zg_ (zC_ (zji_ (zq_ (zf_ hr)) zp_ (zh_ (av 1)) (z9_ (i:=0) gad (hr.mono (by decide)) rfl rfl (by first|exact Or.inl rfl|exact Or.inr (Or.inl rfl)|exact Or.inr (Or.inr rfl)) (zi_ (zh_ (zH_ zL_ jz_ rfl B.len PySem.boot_len (zo_ (ao (av 1)) zu_ (za_ rfl)) (by decide) (by decide) rfl rfl)) zt_ (za_ rfl)) rfl (by decide) rfl rfl) (λ_ _=>rfl)))))
 (λg ds hl=>(by obtain⟨gaL,rfl⟩:=ln1 (Nat.succ.inj hl);kernel_rfl)),hmg,Fn.kp,(bnd2 Fn λ_ _ _ _ _ _ _ _=>rfl)⟩
noncomputable abbrev jq_:Stmt:=top 28
noncomputable abbrev u9_:List Str:=["_law_feed_here", "_law_most", "_law_sorts", "_law_rooms", "_law_often", "_law_meets", "_law_a", "_law_b", "_law_c", "_law_d", "_law_starts"]
theorem sc__law_rule:FnScope u9_ ["_law_feed_here", "_law_most", "_law_sorts"] (zd_ jq_):=⟨rfl,rfl,rfl,by decide +kernel,rfl,by decide +kernel,by decide +kernel⟩
noncomputable abbrev N__law_rule_0:List Str:=["_law_feed_here", "_law_most", "_law_sorts", "_law_rooms", "_law_often", "_law_meets", "_law_a", "_law_b", "_law_c", "_law_d", "_law_starts", "_law_sort"]
theorem Ze_:N__law_rule_0.Nodup:=by decide +kernel
noncomputable abbrev N__law_rule_1:List Str:=["_law_feed_here", "_law_most", "_law_sorts", "_law_rooms", "_law_often", "_law_meets", "_law_a", "_law_b", "_law_c", "_law_d", "_law_starts", "_law_room"]
theorem Zd_:N__law_rule_1.Nodup:=by decide +kernel
def uS_(gab:List D)(gao:D)(gag:D)(gas:D)(gat:List D):M (D×List D) :=
 bd (oM (z0_ [gao])) λl6=>bd (uH_ (λs7 d8=>bd (zl_ s7.1 s7.2.2.1) λr9=>.ret (some r9.1,(r9.2,s7.2.1,s7.2.2.1,s7.2.2.2.1,()))) l6 (gab,gao,gag,gat,())) λr10=>bd (fitM r10.1) λl11=>bd (oM (uk_ [(PyData.list l11)])) λx12=>bd (oM (uk_ [(PyData.list r10.2.2.2.2.1)])) λx13=>bd (oM (z0_ [r10.2.2.2.1])) λl14=>bd (uH_ (λs15 d16=>bd (zl_ s15.1 (.int 2)) λr17=>bd (oM (opEq r17.1 (.int 0))) λb18=>.ret (some (.bool b18),(r17.2,s15.2.1,()))) l14 (r10.2.1,r10.2.2.2.1,())) λr19=>bd (fitM r19.1) λl20=>bd (oM (uk_ [(PyData.list l20)])) λx21=>.ret ((.tuple [r10.2.2.2.1,x12,x13,x21]),r19.2.1)
noncomputable def uR_(kn22:List D×D×D×D×List D×Unit->M (D×List D))(gab:List D)(gao:D)(gag:D)(gas:D)(gat:List D)(gaV:D):M (D×List D) :=
 kn22 (gab,gao,gag,gas,gat,())
def uQ_(kn22:List D×D×D×D×List D×Unit->M (D×List D))(gab:List D)(gao:D)(gag:D)(gas:D)(gat:List D)(gaV:D)(d_:D)(kn24:List D×D×D×D×List D×D×Unit->M (D×List D)):M (D×List D) :=
 bd (zl_ gab gag) λr25=>bd (zl_ r25.2 gag) λr26=>bd (jN_ r26.2 (.list [d_,gaV,r26.1])) λr27=>bd (zl_ r27.2 gas) λr28=>bd (oM (opEq r28.1 (.int 0))) λb29=>if b29 then bd (oM (zV_ (.tuple [r25.1,r27.1]) (.tuple [(.tuple [gaV,d_]),(.tuple [d_,gaV])]))) λb30=>if b30 then
  bd (oM (mApp gat [(.tuple [gaV,d_,r25.1,r27.1])])) λl31=>kn24 (r28.2,gao,gag,gas,l31,gaV,())
  else
  kn24 (r28.2,gao,gag,gas,gat,gaV,())else kn24 (r28.2,gao,gag,gas,gat,gaV,())
def jF_(gab:List D)(gao:D)(gag:D)(gas:D)(gat:List D)(d_:D)(kn22:List D×D×D×D×List D×Unit->M (D×List D)):M (D×List D) :=
 bd (oM (yQ_ [d_,gag])) λl23=>forS (λs32 d33 kn=>uQ_ kn22 s32.1 s32.2.1 s32.2.2.1 s32.2.2.2.1 s32.2.2.2.2.1 s32.2.2.2.2.2.1 d33 kn) l23 (gab,gao,gag,gas,gat,d_,()) (λs32=>uR_ kn22 s32.1 s32.2.1 s32.2.2.1 s32.2.2.2.1 s32.2.2.2.2.1 s32.2.2.2.2.2.1)
def jv_(gaa:List D)(gaw:D)(gaQ:D):M (D×List D) :=
 bd (zl_ gaa gaw) λr1=>bd (oM (jC_ (.int 1) r1.1)) λx2=>bd (zl_ r1.2 (.int 3)) λr3=>bd (oM (jC_ (.int 1) r3.1)) λx4=>bd (oM (z0_ [x2])) λl5=>forS (λs34 d35 kn=>jF_ s34.1 s34.2.1 s34.2.2.1 s34.2.2.2.1 s34.2.2.2.2.1 d35 kn) l5 (r3.2,gaQ,x2,x4,[],()) (λs34=>uS_ s34.1 s34.2.1 s34.2.2.1 s34.2.2.2.1 s34.2.2.2.2.1)
def y4_:List D->List D->M (D×List D):=λgaa l=>match l with
 | [gaw,gaQ]=>jv_ gaa gaw gaQ
 | _=>.bad
set_option maxHeartbeats 4000000 in
theorem Yh_{f:Addr}{fd:FuncData}(Fn:Fun K "_law_rule" "_law_rule" jq_ f fd)(hmg:mg "_law_rule" = some (.ref f))(B:BN mg)(gad:CF P w K mg base "_law_next" 1 (sp1 K 2 z2_))(gaH:CF P w K mg base "_law_one" 2 (sp1 K 2 u0_)):CF P w K mg base "_law_rule" 3 (sp1 K 3 y4_) :=
 ⟨f,fd,["_law_feed_here", "_law_most", "_law_sorts"],Yz_ (k:=2) Fn sc__law_rule (λcdv A outer s H E hr =>
 (zc_ (zx_ (sh:=[.p,.dead,.f,.f,.dead,.dead,.dead,.dead,.dead,.dead,.dead]) (zI_ (i:=3) sc__law_rule.nd rfl (by first|exact Or.inl rfl|exact Or.inr rfl) (Vu_ jb_ jI_ (zh_ ze_) (z9_ (i:=0) gad (hr.mono (by decide)) rfl rfl (by first|exact Or.inl rfl|exact Or.inr (Or.inl rfl)|exact Or.inr (Or.inr rfl)) (zi_ (zh_ (av 1)) zt_ (za_ rfl)) rfl (by decide) rfl rfl)) rfl (.inl rfl)))
  (zc_ (zx_ (sh:=[.p,.dead,.f,.f,.f,.dead,.dead,.dead,.dead,.dead,.dead]) (zI_ (i:=4) sc__law_rule.nd rfl (by first|exact Or.inl rfl|exact Or.inr rfl) (Vu_ jb_ jI_ (zh_ ze_) (z9_ (i:=0) gad (hr.mono (by decide)) rfl rfl (by first|exact Or.inl rfl|exact Or.inr (Or.inl rfl)|exact Or.inr (Or.inr rfl)) (zi_ (zh_ ze_) zt_ (za_ rfl)) rfl (by decide) rfl rfl)) rfl (.inl rfl)))
  (zc_ (zx_ (sh:=[.p,.dead,.f,.f,.f,.o,.dead,.dead,.dead,.dead,.dead]) (jw_ (i:=5) sc__law_rule.nd rfl (by first|exact Or.inl rfl|exact Or.inr rfl) (ua_ (j9_ zk_ (by decide +kernel))) rfl (.inl rfl)))
  (zc_ (z1_ (sh:=[.p,.dead,.f,.f,.f,.o,.dead,.dead,.dead,.dead,.dead]) PassesOwn.leaving rfl (jx_ (jQ_ rfl B.range (zb_ (av 3) zk_ (za_ rfl)) rfl)) (zw_ (i:=6) (Nat.zero_le _) sc__law_rule.nd rfl (by first|exact Or.inl rfl|exact Or.inr rfl) (.inl rfl))
  (zg_ (z1_ (sh:=[.p,.dead,.f,.f,.f,.o,.f,.dead,.dead,.dead,.dead]) PassesOwn.leaving rfl (jx_ (zau_ rfl B.range (zb_ (av 6) (zb_ (av 3) zk_ (za_ rfl)) (za_ rfl)) rfl rfl)) (zw_ (i:=7) (Nat.zero_le _) sc__law_rule.nd rfl (by first|exact Or.inl rfl|exact Or.inr rfl) (.inl rfl))
  (zc_ (zx_ (sh:=[.p,.dead,.f,.f,.f,.o,.f,.f,.f,.f,.dead]) (zdw_ (i:=8) (j:=9) rfl sc__law_rule.nd rfl rfl (by decide) rfl rfl (zi_ (z9_ (i:=0) gad (hr.mono (by decide)) rfl rfl (by first|exact Or.inl rfl|exact Or.inr (Or.inl rfl)|exact Or.inr (Or.inr rfl)) (zi_ (zh_ (av 3)) zt_ (za_ rfl)) rfl (by decide) rfl rfl) (zi_ (z9_ (i:=0) gaH (hr.mono (by decide)) rfl rfl (by first|exact Or.inl rfl|exact Or.inr (Or.inl rfl)|exact Or.inr (Or.inr rfl)) (zi_ (ae_z (zft_ (zi_ (zh_ (av 7)) (zi_ (zh_ (av 6)) (zi_ (z9_ (i:=0) gad (hr.mono (by decide)) rfl rfl (by first|exact Or.inl rfl|exact Or.inr (Or.inl rfl)|exact Or.inr (Or.inr rfl)) (zi_ (zh_ (av 3)) zt_ (za_ rfl)) rfl (by decide) rfl rfl) zt_ (za_ rfl)) (za_ rfl)) (za_ rfl)) (by decide +kernel))) zt_ (za_ rfl)) rfl (by decide) rfl rfl) zt_ (za_ rfl)) (za_ rfl)) rfl rfl))
  (zg_ (uJ_ (zhP_ (zfr_ (zfs_ (U9_ (zf_ hr)) uY_ (z9_ (i:=0) gad (hr.mono (by decide)) rfl rfl (by first|exact Or.inl rfl|exact Or.inr (Or.inl rfl)|exact Or.inr (Or.inr rfl)) (zi_ (zh_ (av 4)) zt_ (za_ rfl)) rfl (by decide) rfl rfl) (zh_ ze_) rfl) (zcv_ (z6_ (zO_ (ja_ (zf_ hr)) js_ (ao (yz_ (zb_ (av 8) (zb_ (av 9) zk_ (za_ rfl)) (za_ rfl)) (by decide +kernel))) (ao (yz_ (zb_ (yz_ (zb_ (av 6) (zb_ (av 7) zk_ (za_ rfl)) (za_ rfl)) (by decide +kernel)) (zb_ (yz_ (zb_ (av 7) (zb_ (av 6) zk_ (za_ rfl)) (za_ rfl)) (by decide +kernel)) zk_ (za_ rfl)) (za_ rfl)) (by decide +kernel))) rfl)))))
  (zg_ (Jj_ (i:=5) rfl (by first|exact Or.inl rfl|exact Or.inr (Or.inl rfl)|exact Or.inr (Or.inr rfl)) (zi_ (zh_ (yz_ (zb_ (av 6) (zb_ (av 7) (zb_ (av 8) (zb_ (av 9) zk_ (za_ rfl)) (za_ rfl)) (za_ rfl)) (za_ rfl)) (by decide +kernel))) zt_ (za_ rfl)) rfl rfl rfl rfl rfl rfl))
  zX_))) (λ_=>rfl))) (λ_=>rfl))
  (zc_ (zx_ (sh:=[.p,.dead,.dead,.f,.dead,.o,.dead,.dead,.dead,.dead,.f]) (zI_ (i:=10) sc__law_rule.nd rfl (by first|exact Or.inl rfl|exact Or.inr rfl) (YX_ zR_ jV_ rfl B.tuple (by decide +kernel) (zi_ (ae_z (Vt_ (sh:=[.p,.dead,.f,.f,.dead,.o,.dead,.dead,.dead,.dead,.dead]) (N':=N__law_rule_0) (k:=1) rfl (je_ (N:=u9_) (sc:=(zd_ jq_)) (by decide +kernel) rfl rfl) (jx_ (jQ_ rfl B.range (zb_ (av 2) zk_ (za_ rfl)) rfl)) (λcl s' H' fp C'=>(zw_ (i:=11) (show 11<=11 by decide) Ze_ rfl (by first|exact Or.inl rfl|exact Or.inr rfl) (.inr rfl))) (λcl s' H' fp C'=>(zaw_ Jh_)) (λcl s' H' fp C'=>(z9_ (i:=0) gad (hr.mono (by decide)) rfl rfl (by first|exact Or.inl rfl|exact Or.inr (Or.inl rfl)|exact Or.inr (Or.inr rfl)) (zi_ (zh_ (av 3)) zt_ (za_ rfl)) rfl (by decide) rfl rfl)) (λ_=>rfl))) zt_ (za_ rfl)) (by decide) (by decide) rfl rfl) rfl (.inl rfl)))
  (zg_ (zC_ (zhQ_ (zi_ (zh_ (av 3)) (zi_ (zh_ (av 10)) (zi_ (zh_ (jP_ zR_ jV_ rfl B.tuple (by decide +kernel) (zo_ (zF_ (i:=5) rfl (by first|exact Or.inl rfl|exact Or.inr (Or.inl rfl)|exact Or.inr (Or.inr rfl))) zu_ (za_ rfl)) (by decide) (by decide) rfl rfl)) (zi_ (YX_ zR_ jV_ rfl B.tuple (by decide +kernel) (zi_ (ae_z (Vt_ (sh:=[.p,.dead,.dead,.f,.dead,.dead,.dead,.dead,.dead,.dead,.dead]) (N':=N__law_rule_1) (k:=1) rfl (je_ (N:=u9_) (sc:=(zd_ jq_)) (by decide +kernel) rfl rfl) (jx_ (jQ_ rfl B.range (zb_ (av 3) zk_ (za_ rfl)) rfl)) (λcl s' H' fp C'=>(zw_ (i:=11) (show 11<=11 by decide) Zd_ rfl (by first|exact Or.inl rfl|exact Or.inr rfl) (.inr rfl))) (λcl s' H' fp C'=>(zaw_ Jh_)) (λcl s' H' fp C'=>(ae_b (zfu_ (U9_ (zf_ hr)) uY_ (z9_ (i:=0) gad (hr.mono (by decide)) rfl rfl (by first|exact Or.inl rfl|exact Or.inr (Or.inl rfl)|exact Or.inr (Or.inr rfl)) (zi_ (zh_ ze_) zt_ (za_ rfl)) rfl (by decide) rfl rfl) (zh_ ze_) rfl))) (λ_=>rfl))) zt_ (za_ rfl)) (by decide) (by decide) rfl rfl) zt_ (za_ rfl)) (za_ rfl)) (za_ rfl)) (za_ rfl)) (by decide +kernel))))))))))
 (λg ds hl=>(by obtain⟨gaw,gaQ,rfl⟩:=ln2 (Nat.succ.inj hl);kernel_rfl)),hmg,Fn.kp,(bnd3 Fn λ_ _ _ _ _ _ _ _ _=>rfl)⟩
noncomputable abbrev jR_:Stmt:=top 29
noncomputable abbrev UI_:List Str:=["_law_crowd", "_law_meeting", "_law_found", "_law_k"]
theorem sc__law_behind:FnScope UI_ ["_law_crowd", "_law_meeting"] (zd_ jR_):=⟨rfl,rfl,rfl,by decide +kernel,rfl,by decide +kernel,by decide +kernel⟩
def jh_(gaE:D)(gau:List D):M D :=
 bd (oM (uk_ [(PyData.list gau)])) λx3=>.ret x3
def jg_(gaE:D)(gau:List D)(d_:D)(kn4:D×List D×Unit->M D):M D :=
 bd (oM (zs_ gaE d_)) λx5=>bd (oM (opIx (PyData.list gau) x5)) λx6=>bd (bd (bd (bd (oM (Jn_ (.int 1))) λx7=>bd (oM (Jn_ (.int 1))) λx8=>.ret [x7,x8,(.int 1),(.int 1)]) λl9=>.ret (PyData.list l9)) λx10=>oM (zs_ x10 d_)) λx11=>bd (oM (y2_ x6 x11)) λx12=>bd (oM (putD gau x5 x12)) λl13=>bd (bd (bd (oM (zs_ gaE d_)) λx14=>oM (zs_ (PyData.list l13) x14)) λx15=>oM (Yd_ x15 (.int 0))) λb16=>if b16 then
  .ret .none
  else
  kn4 (gaE,l13,())
def zW_(gaj:D)(gaF:D):M D :=
 bd (oM (uP_ [gaj])) λl1=>bd (oM (z0_ [(.int 4)])) λl2=>forS (λs17 d18 kn=>jg_ s17.1 s17.2.1 d18 kn) l2 (gaF,l1,()) (λs17=>jh_ s17.1 s17.2.1)
def jD_:List D->M D:=λl=>match l with
 | [gaj,gaF]=>zW_ gaj gaF
 | _=>.bad
set_option maxHeartbeats 4000000 in
theorem Jo_{f:Addr}{fd:FuncData}(Fn:Fun K "_law_behind" "_law_behind" jR_ f fd)(hmg:mg "_law_behind" = some (.ref f))(B:BN mg):CF P w K mg base "_law_behind" 1 (spD K 2 jD_) :=
 ⟨f,fd,["_law_crowd", "_law_meeting"],jj_ (k:=0) Fn sc__law_behind (λcdv A outer s H E hr =>
 (zc_ (zx_ (sh:=[.dead,.f,.o,.dead]) (jw_ (i:=2) sc__law_behind.nd rfl (by first|exact Or.inl rfl|exact Or.inr rfl) (ua_ (Jm_ (yS_ rfl) Uf_ rfl B.list (by decide +kernel) (zo_ (ao (av 0)) zu_ (za_ rfl)) (by decide) (by decide) rfl rfl)) rfl (.inl rfl)))
  (zc_ (z1_ (sh:=[.dead,.f,.o,.dead]) PassesOwn.leaving rfl (jx_ (jQ_ rfl B.range (zb_ ze_ zk_ (za_ rfl)) rfl)) (zw_ (i:=3) (Nat.zero_le _) sc__law_behind.nd rfl (by first|exact Or.inl rfl|exact Or.inr rfl) (.inl rfl))
  (zc_ (zx_ (sh:=[.dead,.f,.o,.f]) (UF_ (i:=2) rfl (by first|exact Or.inl rfl|exact Or.inr (Or.inl rfl)|exact Or.inr (Or.inr rfl)) Vc_ Uq_ (zh_ (zA_ (zq_ (zf_ hr)) zp_ (ao (av 1)) (ao (av 3)) (λ_ _=>rfl))) (zh_ (zA_ (zq_ (zf_ hr)) zp_ (ao (ap_z (j9_ (zb_ (zar_ UN_ Ye_ (ao ze_)) (zb_ (zar_ UN_ Ye_ (ao ze_)) (zb_ ze_ (zb_ ze_ zk_ (za_ rfl)) (za_ rfl)) (za_ rfl)) (za_ rfl)) (by decide +kernel)))) (ao (av 3)) (λ_ _=>rfl))) (λ_ _ _=>rfl)))
  (zg_ (uJ_ (z6_ (zO_ (zcU_ (zf_ hr)) zcY_ (ao (zA_ (zq_ (zf_ hr)) zp_ (zF_ (i:=2) rfl (by first|exact Or.inl rfl|exact Or.inr (Or.inl rfl)|exact Or.inr (Or.inr rfl))) (ao (zA_ (zq_ (zf_ hr)) zp_ (ao (av 1)) (ao (av 3)) (λ_ _=>rfl))) (λ_ _=>rfl))) (ao ze_) rfl))
  (zg_ (zC_ (zh_ yA_)))
  zX_))) (λ_=>rfl))
  (zg_ (zC_ (zh_ (jP_ zR_ jV_ rfl B.tuple (by decide +kernel) (zo_ (zF_ (i:=2) rfl (by first|exact Or.inl rfl|exact Or.inr (Or.inl rfl)|exact Or.inr (Or.inr rfl))) zu_ (za_ rfl)) (by decide) (by decide) rfl rfl)))))))
 (λds hl=>(by obtain⟨gaj,gaF,rfl⟩:=ln2 hl;kernel_rfl)),hmg,Fn.kp,(bnd2 Fn λ_ _ _ _ _ _ _ _=>rfl)⟩
noncomputable abbrev uu_:Stmt:=top 30
noncomputable abbrev JY_:List Str:=["_law_rule_here", "_law_crowd"]
theorem Y4_:FnScope JY_ ["_law_rule_here", "_law_crowd"] (zd_ uu_):=⟨rfl,rfl,rfl,by decide +kernel,rfl,by decide +kernel,by decide +kernel⟩
noncomputable abbrev N__law_can_0:List Str:=["_law_rule_here", "_law_crowd", "_law_k"]
theorem ZR_:N__law_can_0.Nodup:=by decide +kernel
def jO_(gah:D)(gaj:D):M D :=
 bd (bd (bd (bd (bd (oM (zs_ gah (.int 2))) λx1=>oM (fLen [x1])) λx2=>oM (z0_ [x2])) λl8=>bd (jm_ (λd3=>bd (bd (bd (bd (oM (zs_ gah (.int 2))) λx4=>oM (zs_ x4 d3)) λx5=>zW_ gaj x5) λx6=>oM (jr_ x6 .none)) λb7=>if b7 then .ret (some d3)else .ret none) l8) fitM) λl9=>.ret (PyData.list l9)) λx10=>.ret x10
def ZY_:List D->M D:=λl=>match l with
 | [gah,gaj]=>jO_ gah gaj
 | _=>.bad
set_option maxHeartbeats 4000000 in
theorem Qf_{f:Addr}{fd:FuncData}(Fn:Fun K "_law_can" "_law_can" uu_ f fd)(hmg:mg "_law_can" = some (.ref f))(B:BN mg)(gax:CF P w K mg base "_law_behind" 1 (spD K 2 jD_)):CF P w K mg base "_law_can" 2 (spD K 2 ZY_) :=
 ⟨f,fd,["_law_rule_here", "_law_crowd"],jj_ (k:=1) Fn Y4_ (λcdv A outer s H E hr =>
 (zg_ (zC_ (zh_ (ap_z (QG_ (N':=N__law_can_0) (k:=1) rfl (je_ (N:=JY_) (sc:=(zd_ uu_)) (by decide +kernel) rfl rfl) (jQ_ rfl B.range (zb_ (zH_ zL_ jz_ rfl B.len PySem.boot_len (zo_ (ao (zA_ (zq_ (zf_ hr)) zp_ (ao (av 0)) (ao ze_) (λ_ _=>rfl))) zu_ (za_ rfl)) (by decide) (by decide) rfl rfl) zk_ (za_ rfl)) rfl) (λcl s' H' fp C'=>(zw_ (i:=2) (show 2<=2 by decide) ZR_ rfl (by first|exact Or.inl rfl|exact Or.inr rfl) (.inr rfl))) (λcl s' H' fp C'=>(QE_ (zO_ Zl_ uY_ (ao (z8_ gax (hr.mono (by decide)) rfl (zb_ (av 1) (zb_ (zA_ (zq_ (zf_ hr)) zp_ (ao (zA_ (zq_ (zf_ hr)) zp_ (ao (av 0)) (ao ze_) (λ_ _=>rfl))) (ao (av 2)) (λ_ _=>rfl)) zk_ (za_ rfl)) (za_ rfl)) rfl (by decide) rfl rfl)) (ao yA_) rfl))) (λcl s' H' fp C'=>(av 2)) (λ_=>rfl)))))))
 (λds hl=>(by obtain⟨gah,gaj,rfl⟩:=ln2 hl;kernel_rfl)),hmg,Fn.kp,(bnd2 Fn λ_ _ _ _ _ _ _ _=>rfl)⟩
noncomputable abbrev uc_:Stmt:=top 31
noncomputable abbrev Y0_:List Str:=["_law_feed_here", "_law_rooms", "_law_most", "_law_found", "_law_hand"]
theorem sc__law_hands:FnScope Y0_ ["_law_feed_here", "_law_rooms", "_law_most"] (zd_ uc_):=⟨rfl,rfl,rfl,by decide +kernel,rfl,by decide +kernel,by decide +kernel⟩
def uo_(gab:List D)(gag:D)(gau:List D):M (D×List D) :=
 bd (oM (uk_ [(PyData.list gau)])) λx5=>.ret (x5,gab)
def un_(gab:List D)(gag:D)(gau:List D)(d_:D)(kn6:List D×D×List D×Unit->M (D×List D)):M (D×List D) :=
 bd (zl_ gab gag) λr7=>bd (oM (opIx (PyData.list gau) r7.1)) λx8=>bd (oM (y2_ x8 (.int 1))) λx9=>bd (oM (putD gau r7.1 x9)) λl10=>kn6 (r7.2,gag,l10,())
def zU_(gaa:List D)(gaJ:D)(gaw:D):M (D×List D) :=
 bd (oM (Yc_ (PyData.list [(.int 0)]) gaJ)) λl1=>bd (zl_ gaa gaw) λr2=>bd (oM (jC_ (.int 1) r2.1)) λx3=>bd (oM (z0_ [x3])) λl4=>forS (λs11 d12 kn=>un_ s11.1 s11.2.1 s11.2.2.1 d12 kn) l4 (r2.2,gaJ,l1,()) (λs11=>uo_ s11.1 s11.2.1 s11.2.2.1)
def yl_:List D->List D->M (D×List D):=λgaa l=>match l with
 | [gaJ,gaw]=>zU_ gaa gaJ gaw
 | _=>.bad
set_option maxHeartbeats 4000000 in
theorem Uh_{f:Addr}{fd:FuncData}(Fn:Fun K "_law_hands" "_law_hands" uc_ f fd)(hmg:mg "_law_hands" = some (.ref f))(B:BN mg)(gad:CF P w K mg base "_law_next" 1 (sp1 K 2 z2_)):CF P w K mg base "_law_hands" 2 (sp1 K 3 yl_) :=
 ⟨f,fd,["_law_feed_here", "_law_rooms", "_law_most"],Yz_ (k:=1) Fn sc__law_hands (λcdv A outer s H E hr =>
 (zc_ (zx_ (sh:=[.p,.f,.f,.o,.dead]) (jw_ (i:=3) sc__law_hands.nd rfl (by first|exact Or.inl rfl|exact Or.inr rfl) (ua_ (zfp_ (j:=1) (j9_ (zb_ ze_ zk_ (za_ rfl)) (by decide +kernel)) rfl (by first|exact Or.inl rfl|exact Or.inr (Or.inl rfl)|exact Or.inr (Or.inr rfl)))) rfl (.inl rfl)))
  (zc_ (z1_ (sh:=[.p,.f,.dead,.o,.dead]) PassesOwn.leaving rfl (JW_ rfl B.range (zi_ (Vu_ jb_ jI_ (zh_ ze_) (z9_ (i:=0) gad (hr.mono (by decide)) rfl rfl (by first|exact Or.inl rfl|exact Or.inr (Or.inl rfl)|exact Or.inr (Or.inr rfl)) (zi_ (zh_ (av 2)) zt_ (za_ rfl)) rfl (by decide) rfl rfl)) zt_ (za_ rfl)) rfl) (zw_ (i:=4) (Nat.zero_le _) sc__law_hands.nd rfl (by first|exact Or.inl rfl|exact Or.inr rfl) (.inl rfl))
  (zg_ (UF_ (i:=3) rfl (by first|exact Or.inl rfl|exact Or.inr (Or.inl rfl)|exact Or.inr (Or.inr rfl)) Vc_ Uq_ (z9_ (i:=0) gad (hr.mono (by decide)) rfl rfl (by first|exact Or.inl rfl|exact Or.inr (Or.inl rfl)|exact Or.inr (Or.inr rfl)) (zi_ (zh_ (av 1)) zt_ (za_ rfl)) rfl (by decide) rfl rfl) (zh_ ze_) (λ_ _ _=>rfl))) (λ_=>rfl))
  (zg_ (zC_ (zh_ (jP_ zR_ jV_ rfl B.tuple (by decide +kernel) (zo_ (zF_ (i:=3) rfl (by first|exact Or.inl rfl|exact Or.inr (Or.inl rfl)|exact Or.inr (Or.inr rfl))) zu_ (za_ rfl)) (by decide) (by decide) rfl rfl)))))))
 (λg ds hl=>(by obtain⟨gaJ,gaw,rfl⟩:=ln2 (Nat.succ.inj hl);kernel_rfl)),hmg,Fn.kp,(bnd3 Fn λ_ _ _ _ _ _ _ _ _=>rfl)⟩
noncomputable abbrev yI_:Stmt:=top 32
noncomputable abbrev Wp_:List Str:=["_law_feed_here", "_law_rule_here", "_law_crowd", "_law_row_here", "_law_turn", "_law_numbers"]
theorem sc__law_row:FnScope Wp_ ["_law_feed_here", "_law_rule_here", "_law_crowd"] (zd_ yI_):=⟨rfl,rfl,rfl,by decide +kernel,rfl,by decide +kernel,by decide +kernel⟩
noncomputable def UB_(gab:List D)(gae:D)(gap:D)(gaC:List D):M (D×List D) :=
 .ret ((.tuple [(PyData.list gaC),gap]),gab)
def yy_(gab:List D)(gae:D)(gap:D)(gaC:List D)(d_:D)(kn3:List D×D×D×List D×Unit->M (D×List D)):M (D×List D) :=
 bd (jO_ gae gap) λx4=>bd (oM (opNe x4 (PyData.list []))) λb5=>if b5 then
  bd (jN_ gab x4) λr6=>bd (oM (mApp gaC [r6.1])) λl7=>bd (bd (bd (oM (zs_ gae (.int 2))) λx9=>bd (bd (oM (Jn_ (.int 1))) λx8=>oM (zs_ (PyData.list l7) x8)) λx10=>oM (zs_ x9 x10)) λx11=>zW_ gap x11) λx12=>kn3 (r6.2,gae,x12,l7,())
  else
  kn3 (gab,gae,gap,gaC,())
def uD_(gaa:List D)(gah:D)(gaj:D):M (D×List D) :=
 bd (zl_ gaa (.int 9)) λr1=>bd (oM (z0_ [r1.1])) λl2=>forS (λs13 d14 kn=>yy_ s13.1 s13.2.1 s13.2.2.1 s13.2.2.2.1 d14 kn) l2 (r1.2,gah,gaj,[],()) (λs13=>UB_ s13.1 s13.2.1 s13.2.2.1 s13.2.2.2.1)
def ZX_:List D->List D->M (D×List D):=λgaa l=>match l with
 | [gah,gaj]=>uD_ gaa gah gaj
 | _=>.bad
set_option maxHeartbeats 4000000 in
theorem Qd_{f:Addr}{fd:FuncData}(Fn:Fun K "_law_row" "_law_row" yI_ f fd)(hmg:mg "_law_row" = some (.ref f))(B:BN mg)(gad:CF P w K mg base "_law_next" 1 (sp1 K 2 z2_))(gba:CF P w K mg base "_law_can" 2 (spD K 2 ZY_))(gax:CF P w K mg base "_law_behind" 1 (spD K 2 jD_))(gaH:CF P w K mg base "_law_one" 2 (sp1 K 2 u0_)):CF P w K mg base "_law_row" 3 (sp1 K 3 ZX_) :=
 ⟨f,fd,["_law_feed_here", "_law_rule_here", "_law_crowd"],Yz_ (k:=2) Fn sc__law_row (λcdv A outer s H E hr =>
 (zc_ (zx_ (sh:=[.p,.f,.f,.o,.dead,.dead]) (jw_ (i:=3) sc__law_row.nd rfl (by first|exact Or.inl rfl|exact Or.inr rfl) (ua_ (j9_ zk_ (by decide +kernel))) rfl (.inl rfl)))
  (zc_ (z1_ (sh:=[.p,.f,.f,.o,.dead,.dead]) PassesOwn.leaving rfl (JW_ rfl B.range (zi_ (z9_ (i:=0) gad (hr.mono (by decide)) rfl rfl (by first|exact Or.inl rfl|exact Or.inr (Or.inl rfl)|exact Or.inr (Or.inr rfl)) (zi_ (zh_ ze_) zt_ (za_ rfl)) rfl (by decide) rfl rfl) zt_ (za_ rfl)) rfl) (zw_ (i:=4) (Nat.zero_le _) sc__law_row.nd rfl (by first|exact Or.inl rfl|exact Or.inr rfl) (.inl rfl))
  (zc_ (zx_ (sh:=[.p,.f,.f,.o,.dead,.f]) (zI_ (i:=5) sc__law_row.nd rfl (by first|exact Or.inl rfl|exact Or.inr rfl) (zh_ (z8_ gba (hr.mono (by decide)) rfl (zb_ (av 1) (zb_ (av 2) zk_ (za_ rfl)) (za_ rfl)) rfl (by decide) rfl rfl)) rfl (.inl rfl)))
  (zg_ (uJ_ (z6_ (zO_ (Q0_ (zf_ hr)) uY_ (ao (av 5)) (ao (ap_z (j9_ zk_ (by decide +kernel)))) rfl))
  (zc_ (zx_ (sh:=[.p,.f,.f,.o,.dead,.dead]) (Jj_ (i:=3) rfl (by first|exact Or.inl rfl|exact Or.inr (Or.inl rfl)|exact Or.inr (Or.inr rfl)) (zi_ (z9_ (i:=0) gaH (hr.mono (by decide)) rfl rfl (by first|exact Or.inl rfl|exact Or.inr (Or.inl rfl)|exact Or.inr (Or.inr rfl)) (zi_ (zh_ (av 5)) zt_ (za_ rfl)) rfl (by decide) rfl rfl) zt_ (za_ rfl)) rfl rfl rfl rfl rfl rfl))
  (zg_ (zI_ (i:=2) sc__law_row.nd rfl (by first|exact Or.inl rfl|exact Or.inr rfl) (zh_ (z8_ gax (hr.mono (by decide)) rfl (zb_ (av 2) (zb_ (zA_ (zq_ (zf_ hr)) zp_ (ao (zA_ (zq_ (zf_ hr)) zp_ (ao (av 1)) (ao ze_) (λ_ _=>rfl))) (ao (zA_ (zq_ (zf_ hr)) zp_ (zF_ (i:=3) rfl (by first|exact Or.inl rfl|exact Or.inr (Or.inl rfl)|exact Or.inr (Or.inr rfl))) (ao (zar_ UN_ Ye_ (ao ze_))) (λ_ _=>rfl))) (λ_ _=>rfl)) zk_ (za_ rfl)) (za_ rfl)) rfl (by decide) rfl rfl)) rfl (.inl rfl))))
  zX_))) (λ_=>rfl))
  (zg_ (Zb_ (i:=3) (zC_ (zh_ (yz_ (zb_ (av 3) (zb_ (av 2) zk_ (za_ rfl)) (za_ rfl)) (by decide +kernel)))))))))
 (λg ds hl=>(by obtain⟨gah,gaj,rfl⟩:=ln2 (Nat.succ.inj hl);kernel_rfl)),hmg,Fn.kp,(bnd3 Fn λ_ _ _ _ _ _ _ _ _=>rfl)⟩
noncomputable abbrev zdS_:Stmt:=top 33
noncomputable abbrev zjk_:List Str:=["_law_script", "_law_k", "_law_feed_here", "_law_rule_here", "_law_crowd", "_law_other", "_law_both", "_law_some", "_law_whole", "_law_word", "_law_one_here", "_law_here", "_law_way", "_law_row_here"]
theorem sc_law:FnScope zjk_ ["_law_script"] (zd_ zdS_):=⟨rfl,rfl,rfl,by decide +kernel,rfl,by decide +kernel,by decide +kernel⟩
noncomputable def zcn_(gav:D):M D :=
 .ret (.bool true)
def UA_(kn5:D×Unit->M D)(gav:D)(gab:List D)(gae:D)(gap:D)(gaR:D)(gaY:D)(gbb:D)(ga1:D)(gaZ:D):M D :=
 bd (uD_ gab gae gap) λr19=>un2 r19.1 λy20 y21=>bd (bd (oM (zV_ y21 gbb)) λb24=>if b24 then .ret true else bd (yt_ gae gaY y20) λx22=>bd (j4_ y21 gaR) λx23=>oM (opNe x22 x23)) λb25=>if b25 then
  .ret (.bool false)
  else
  kn5 (gav,())
def Uy_(kn5:D×Unit->M D)(gav:D)(gab:List D)(gae:D)(gap:D)(gaR:D)(gaY:D)(gbb:D)(ga1:D)(gaZ:D)(d_:D)(kn26:D×List D×D×D×D×D×D×D×D×Unit->M D):M D :=
 bd (j4_ d_ gaR) λx27=>bd (bd (oM (zV_ x27 ga1)) λb32=>if b32 then .ret true else bd (oM (jr_ gaZ .none)) λb31=>if b31 then bd (y9_ gae x27) λx29=>bd (bd (oM (fInt [gaZ])) λx28=>oM (zs_ (PyData.list [(.str "no"),(.str "yes")]) x28)) λx30=>oM (opNe x29 x30)else .ret false) λb33=>if b33 then
  .ret (.bool false)
  else
  bd (Zs_ gae gap d_ (.int 3000)) λx34=>bd (bd (oM (zbo_ x34 .none)) λb36=>if b36 then .ret true else bd (yt_ gae gaY x34) λx35=>oM (opNe x35 x27)) λb37=>if b37 then
  .ret (.bool false)
  else
  kn26 (gav,gab,gae,gap,gaR,gaY,gbb,ga1,gaZ,())
def Uz_(gav:D)(d_:D)(kn5:D×Unit->M D):M D :=
 bd (j6_ gav d_) λl6=>bd (zl_ l6 (.int 3)) λr7=>bd (oM (jC_ (.int 1) r7.1)) λx8=>bd (jv_ r7.2 (.int 5) x8) λr9=>bd (oM (zs_ r9.1 (.int 0))) λx10=>bd (zU_ r9.2 x10 (.int 4)) λr11=>bd (oM (zs_ r9.1 (.int 0))) λx12=>bd (zU_ r11.2 x12 (.int 3)) λr13=>bd (j4_ r11.1 r13.1) λx14=>bd (JV_ r9.1 r11.1 (.int 3000)) λx15=>bd (JV_ r9.1 x14 (.int 3000)) λx16=>bd (yu_ r9.1 x14 (.int 3000)) λx17=>bd (oM (seqD x15)) λl18=>forS (λs38 d39 kn=>Uy_ kn5 s38.1 s38.2.1 s38.2.2.1 s38.2.2.2.1 s38.2.2.2.2.1 s38.2.2.2.2.2.1 s38.2.2.2.2.2.2.1 s38.2.2.2.2.2.2.2.1 s38.2.2.2.2.2.2.2.2.1 d39 kn) l18 (gav,r13.2,r9.1,r11.1,r13.1,x14,x15,x16,x17,()) (λs38=>UA_ kn5 s38.1 s38.2.1 s38.2.2.1 s38.2.2.2.1 s38.2.2.2.2.1 s38.2.2.2.2.2.1 s38.2.2.2.2.2.2.1 s38.2.2.2.2.2.2.2.1 s38.2.2.2.2.2.2.2.2.1)
def zco_(gak:D):M D :=
 bd (bd (bd (bd (oM (fLen [gak])) λx1=>oM (X0_ [(.int 4),x1])) λx2=>oM (jC_ (.int 1) x2)) λx3=>oM (z0_ [x3])) λl4=>forS (λs40 d41 kn=>Uz_ s40.1 d41 kn) l4 (gak,()) (λs40=>zcn_ s40.1)
def Q5_:List D->M D:=λl=>match l with
 | [gak]=>zco_ gak
 | _=>.bad
set_option maxHeartbeats 4000000 in
theorem zhB_{f:Addr}{fd:FuncData}(Fn:Fun K "law" "law" zdS_ f fd)(B:BN mg)(ga2:CF P w K mg base "_law_feed" 1 (spL K 2 y5_))(ga3:CF P w K mg base "_law_rule" 3 (sp1 K 3 y4_))(ga6:CF P w K mg base "joined" 1 (spD K 2 Ys_))(gbh:CF P w K mg base "come" 4 (spD K 3 Qj_))(gbj:CF P w K mg base "settled" 5 (spD K 3 JG_))(gbc:CF P w K mg base "_law_row" 3 (sp1 K 3 ZX_))(gaK:CF P w K mg base "_law_hands" 2 (sp1 K 3 yl_))(gbt:CF P w K mg base "way_to" 4 (spD K 4 Yn_))(gad:CF P w K mg base "_law_next" 1 (sp1 K 2 z2_))(gbe:CF P w K mg base "walked" 4 (spD K 3 Yp_))(gbk:CF P w K mg base "said" 1 (spD K 2 Qi_)):FnOk P w K mg base (CX1 P w) 6 f fd ["_law_script"] (spD K 1 Q5_) :=
 jj_ (k:=5) Fn sc_law (λcdv A outer s H E hr =>
 (zc_ (z1_ (sh:=[.f,.dead,.dead,.dead,.dead,.dead,.dead,.dead,.dead,.dead,.dead,.dead,.dead,.dead]) PassesOwn.leaving rfl (jx_ (jQ_ rfl B.range (zb_ (zQ_ jb_ jI_ (ao ze_) (ao (zH_ (zaf_ rfl) zeB_ rfl B.min (by decide +kernel) (zo_ (ao ze_) (zo_ (ao (zH_ zL_ jz_ rfl B.len PySem.boot_len (zo_ (ao (av 0)) zu_ (za_ rfl)) (by decide) (by decide) rfl rfl)) zu_ (za_ rfl)) (za_ rfl)) (by decide) (by decide) rfl rfl))) zk_ (za_ rfl)) rfl)) (zw_ (i:=1) (Nat.zero_le _) sc_law.nd rfl (by first|exact Or.inl rfl|exact Or.inr rfl) (.inl rfl))
  (zc_ (zx_ (sh:=[.f,.dead,.o,.dead,.dead,.dead,.dead,.dead,.dead,.dead,.dead,.dead,.dead,.dead]) (jw_ (i:=2) sc_law.nd rfl (by first|exact Or.inl rfl|exact Or.inr rfl) (ua_ (zjh_ ga2 (hr.mono (by decide)) rfl (zb_ (av 0) (zb_ (av 1) zk_ (za_ rfl)) (za_ rfl)) rfl (by decide) rfl rfl)) rfl (.inl rfl)))
  (zc_ (zx_ (sh:=[.f,.dead,.o,.f,.dead,.dead,.dead,.dead,.dead,.dead,.dead,.dead,.dead,.dead]) (zI_ (i:=3) sc_law.nd rfl (by first|exact Or.inl rfl|exact Or.inr rfl) (z9_ (i:=2) ga3 (hr.mono (by decide)) rfl rfl (by first|exact Or.inl rfl|exact Or.inr (Or.inl rfl)|exact Or.inr (Or.inr rfl)) (zi_ (zh_ ze_) (zi_ (Vu_ jb_ jI_ (zh_ ze_) (z9_ (i:=2) gad (hr.mono (by decide)) rfl rfl (by first|exact Or.inl rfl|exact Or.inr (Or.inl rfl)|exact Or.inr (Or.inr rfl)) (zi_ (zh_ ze_) zt_ (za_ rfl)) rfl (by decide) rfl rfl)) zt_ (za_ rfl)) (za_ rfl)) rfl (by decide) rfl rfl) rfl (.inl rfl)))
  (zc_ (zx_ (sh:=[.f,.dead,.o,.f,.f,.f,.dead,.dead,.dead,.dead,.dead,.dead,.dead,.dead]) (zdw_ (i:=4) (j:=5) rfl sc_law.nd rfl rfl (by decide) rfl rfl (zi_ (z9_ (i:=2) gaK (hr.mono (by decide)) rfl rfl (by first|exact Or.inl rfl|exact Or.inr (Or.inl rfl)|exact Or.inr (Or.inr rfl)) (zi_ (zh_ (zA_ (zq_ (zf_ hr)) zp_ (ao (av 3)) (ao ze_) (λ_ _=>rfl))) (zi_ (zh_ ze_) zt_ (za_ rfl)) (za_ rfl)) rfl (by decide) rfl rfl) (zi_ (z9_ (i:=2) gaK (hr.mono (by decide)) rfl rfl (by first|exact Or.inl rfl|exact Or.inr (Or.inl rfl)|exact Or.inr (Or.inr rfl)) (zi_ (zh_ (zA_ (zq_ (zf_ hr)) zp_ (ao (av 3)) (ao ze_) (λ_ _=>rfl))) (zi_ (zh_ ze_) zt_ (za_ rfl)) (za_ rfl)) rfl (by decide) rfl rfl) zt_ (za_ rfl)) (za_ rfl)) rfl rfl))
  (zc_ (zx_ (sh:=[.f,.dead,.o,.f,.f,.f,.f,.dead,.dead,.dead,.dead,.dead,.dead,.dead]) (zI_ (i:=6) sc_law.nd rfl (by first|exact Or.inl rfl|exact Or.inr rfl) (zh_ (z8_ ga6 (hr.mono (by decide)) rfl (zb_ (av 4) (zb_ (av 5) zk_ (za_ rfl)) (za_ rfl)) rfl (by decide) rfl rfl)) rfl (.inl rfl)))
  (zc_ (zx_ (sh:=[.f,.dead,.o,.f,.f,.f,.f,.f,.dead,.dead,.dead,.dead,.dead,.dead]) (zI_ (i:=7) sc_law.nd rfl (by first|exact Or.inl rfl|exact Or.inr rfl) (zh_ (z8_ gbh (hr.mono (by decide)) rfl (zb_ (av 3) (zb_ (av 4) (zb_ ze_ zk_ (za_ rfl)) (za_ rfl)) (za_ rfl)) rfl (by decide) rfl rfl)) rfl (.inl rfl)))
  (zc_ (zx_ (sh:=[.f,.dead,.o,.f,.f,.f,.f,.f,.f,.dead,.dead,.dead,.dead,.dead]) (zI_ (i:=8) sc_law.nd rfl (by first|exact Or.inl rfl|exact Or.inr rfl) (zh_ (z8_ gbh (hr.mono (by decide)) rfl (zb_ (av 3) (zb_ (av 6) (zb_ ze_ zk_ (za_ rfl)) (za_ rfl)) (za_ rfl)) rfl (by decide) rfl rfl)) rfl (.inl rfl)))
  (zc_ (zx_ (sh:=[.f,.dead,.o,.f,.f,.f,.f,.f,.f,.f,.dead,.dead,.dead,.dead]) (zI_ (i:=9) sc_law.nd rfl (by first|exact Or.inl rfl|exact Or.inr rfl) (zh_ (z8_ gbj (hr.mono (by decide)) rfl (zb_ (av 3) (zb_ (av 6) (zb_ ze_ zk_ (za_ rfl)) (za_ rfl)) (za_ rfl)) rfl (by decide) rfl rfl)) rfl (.inl rfl)))
  (zc_ (z1_ (sh:=[.f,.dead,.o,.f,.f,.f,.f,.f,.f,.f,.dead,.dead,.dead,.dead]) PassesOwn.leaving rfl (jx_ (yB_ (av 7))) (zw_ (i:=10) (Nat.zero_le _) sc_law.nd rfl (by first|exact Or.inl rfl|exact Or.inr rfl) (.inl rfl))
  (zc_ (zx_ (sh:=[.f,.dead,.o,.f,.f,.f,.f,.f,.f,.f,.f,.f,.dead,.dead]) (zI_ (i:=11) sc_law.nd rfl (by first|exact Or.inl rfl|exact Or.inr rfl) (zh_ (z8_ ga6 (hr.mono (by decide)) rfl (zb_ (av 10) (zb_ (av 5) zk_ (za_ rfl)) (za_ rfl)) rfl (by decide) rfl rfl)) rfl (.inl rfl)))
  (zc_ (uJ_ (z6_ (Wk_ (zcp_ (zO_ (ja_ (zf_ hr)) js_ (ao (av 11)) (ao (av 8)) rfl) (Vr_ (Wk_ (zdr_ (zO_ Zl_ uY_ (ao (av 9)) (ao yA_) rfl) (zaj_ (zO_ (Q0_ (zf_ hr)) uY_ (ao (z8_ gbk (hr.mono (by decide)) rfl (zb_ (av 3) (zb_ (av 11) zk_ (za_ rfl)) (za_ rfl)) rfl (by decide) rfl rfl)) (ao (zA_ (zq_ (zf_ hr)) zp_ (ao (ap_z (j9_ (zb_ Jl_ (zb_ Jl_ zk_ (za_ rfl)) (za_ rfl)) (by decide +kernel)))) (ao (jP_ zah_ zgW_ rfl B.int (by decide +kernel) (zo_ (ao (av 9)) zu_ (za_ rfl)) (by decide) (by decide) rfl rfl)) (λ_ _=>rfl))) rfl))))))))
  (zg_ (zC_ (zh_ UG_)))
  zX_)
  (zc_ (zx_ (sh:=[.f,.dead,.o,.f,.f,.f,.f,.f,.f,.f,.dead,.f,.f,.dead]) (zI_ (i:=12) sc_law.nd rfl (by first|exact Or.inl rfl|exact Or.inr rfl) (zh_ (z8_ gbt (hr.mono (by decide)) rfl (zb_ (av 3) (zb_ (av 4) (zb_ (av 10) (zb_ ze_ zk_ (za_ rfl)) (za_ rfl)) (za_ rfl)) (za_ rfl)) rfl (by decide) rfl rfl)) rfl (.inl rfl)))
  (zg_ (uJ_ (z6_ (Wk_ (zcp_ (zO_ zeu_ uY_ (ao (av 12)) (ao yA_) rfl) (Vr_ (zO_ (Q0_ (zf_ hr)) uY_ (ao (z8_ gbe (hr.mono (by decide)) rfl (zb_ (av 3) (zb_ (av 6) (zb_ (av 12) zk_ (za_ rfl)) (za_ rfl)) (za_ rfl)) rfl (by decide) rfl rfl)) (ao (av 11)) rfl)))))
  (zg_ (zC_ (zh_ UG_)))
  zX_))))) (λ_=>rfl))
  (zc_ (zx_ (sh:=[.f,.dead,.dead,.f,.dead,.f,.f,.f,.dead,.dead,.dead,.f,.dead,.f]) (zhN_ (z9_ (i:=2) gbc (hr.mono (by decide)) rfl rfl (by first|exact Or.inl rfl|exact Or.inr (Or.inl rfl)|exact Or.inr (Or.inr rfl)) (zi_ (zh_ (av 3)) (zi_ (zh_ (av 4)) zt_ (za_ rfl)) (za_ rfl)) rfl (by decide) rfl rfl) (yY_ rfl (zZ_ (zw_ (i:=13) (Nat.zero_le _) sc_law.nd rfl (by first|exact Or.inl rfl|exact Or.inr rfl) (.inl rfl)) (zZ_ (zw_ (i:=11) (Nat.zero_le _) sc_law.nd rfl (by first|exact Or.inl rfl|exact Or.inr rfl) (.inl rfl)) yX_ rfl) rfl) rfl rfl) rfl rfl rfl))
  (zg_ (uJ_ (z6_ (Wk_ (zcp_ (zO_ (ja_ (zf_ hr)) js_ (ao (av 11)) (ao (av 7)) rfl) (Vr_ (zO_ (Q0_ (zf_ hr)) uY_ (ao (z8_ gbe (hr.mono (by decide)) rfl (zb_ (av 3) (zb_ (av 6) (zb_ (av 13) zk_ (za_ rfl)) (za_ rfl)) (za_ rfl)) rfl (by decide) rfl rfl)) (ao (z8_ ga6 (hr.mono (by decide)) rfl (zb_ (av 11) (zb_ (av 5) zk_ (za_ rfl)) (za_ rfl)) rfl (by decide) rfl rfl)) rfl)))))
  (zg_ (zC_ (zh_ UG_)))
  zX_))))))))))) (λ_=>rfl))
  (zg_ (zC_ (zh_ UG_)))))
 (λds hl=>(by obtain⟨gak,rfl⟩:=ln1 hl;kernel_rfl))
end
end
end K95
namespace L4
open PySem PySem.Spec PyProof.Rows L2 L3
theorem bdR{S T:Type}(s:S)(k:S->M T):bd (.ret s) k=k s:=id rfl
theorem oMS{S:Type}(s:S):oM (some s)=.ret s:=id rfl
theorem u3_{S:Type}{ds:List S}(h:ds.length<=1000):fitM ds=.ret ds:=if_pos (JI_ h)
theorem UC_{α:Type}(xs:List α)(i:Nat)(h:i<xs.length):atI xs (i:Int)=some (xs[i]'h):=by
 unfold atI ixN
 rw[if_pos (Int.natCast_nonneg _),if_pos (by lia)]
 simp[h]
theorem zdt_{α:Type}(xs:List α)(i:Int)(h0:0<=i)(h:i<xs.length):∃x∈xs,atI xs i=some x:=by
 obtain⟨n,rfl⟩:=Int.eq_ofNat_of_zero_le h0
 exact⟨_,List.getElem_mem _,UC_ xs n (by lia)⟩
noncomputable def zcE_(s:Str):Bool:=PyData.strOk s&&decide ((reprText s).length<=24)&&PyData.strOk (reprText s)
def Ok(k:Nat):Nat->D->Prop
 | 0,_=>False
 | _+1,.none=>True
 | _+1,.bool _=>True
 | _+1,.int i=>i.natAbs<10^(16+k)
 | _+1,.str s=>zcE_ s=true
 | n+1,.list ds=>ds.length<=6+k/\∀d∈ds,Ok k n d
 | n+1,.tuple ds=>ds.length<=6+k/\∀d∈ds,Ok k n d
 | _+1,.dict _=>False
theorem Z0_:∀{ds:List D},(∀d∈ds,d.canLay0=true)->PyData.canLayAll0 ds=true
 | [],_=>by simp[PyData.canLayAll0]
 | d::r,h=>by
  simp only[PyData.canLayAll0,Bool.and_eq_true]
  exact⟨h d List.mem_cons_self,Z0_ λe he=>h e (zzg _ he)⟩
theorem Ut_{n:Nat}:∀{ds:List D},(∀d∈ds,d.depth<=n)->PyData.depthAll ds<=n
 | [],_=>by simp[PyData.depthAll]
 | d::r,h=>by
  simp only[PyData.depthAll]
  exact Nat.max_le.mpr ⟨h d List.mem_cons_self,Ut_ λe he=>h e (zzg _ he)⟩
noncomputable def lim:Nat->Nat
 | 0=>24
 | n+1=>4+9*(lim n+2)
theorem eqI(a b:Int):opEq (.int a) (.int b)=some (a==b):=by
 unfold opEq eqOk
 simp[PyData.canLay0,PyData.depth,PyData.eqv]
theorem ltI(a b:Int):opLt (.int a) (.int b)=some (decide (a<b)):=id rfl
theorem gtI(a b:Int):opGt (.int a) (.int b)=some (decide (b<a)):=id rfl
theorem geI(a b:Int):opGe (.int a) (.int b)=some (decide (b<=a)):=id rfl
theorem addI(a b:Int):jC_ (.int a) (.int b)=some (.int (a+b)):=id rfl
theorem subI(a b:Int):Y9_ (.int a) (.int b)=some (.int (a - b)):=id rfl
theorem modI(i j:Int)(h:0<j):ZN_ (.int i) (.int j)=some (.int (i % j)):=if_pos h
theorem divI(i j:Int)(h:0<j)(h2:j<1073741824):W8_ (.int i) (.int j)=some (.int (i / j)):=if_pos (by simp[h,h2])
theorem mulL(i j:Int)(h : -(2^64)<i)(h2:i<2^64):uL_ (.int i) (.int j)=some (.int (i*j)):=if_pos (by simp only[zbv_,Bool.or_eq_true,Bool.and_eq_true,zzi];exact .inl ⟨h,h2⟩)
theorem mulR(i j:Int)(h : -(2^64)<j)(h2:j<2^64):uL_ (.int i) (.int j)=some (.int (i*j)):=if_pos (by simp only[zbv_,Bool.or_eq_true,Bool.and_eq_true,zzi];exact .inr ⟨h,h2⟩)
theorem asB_b(b:Bool):asB (.bool b)=.ret b:=id rfl
theorem zfH_(b:Bool):truD (.bool b)=some b:=id rfl
theorem lenT(ds:List D):fLen [.tuple ds]=some (.int ds.length):=id rfl
theorem lenL(ds:List D):fLen [.list ds]=some (.int ds.length):=id rfl
theorem seqT(ds:List D):seqD (.tuple ds)=some ds:=id rfl
theorem seqL(ds:List D):seqD (.list ds)=some ds:=id rfl
theorem tupL(ds:List D):uk_ [.list ds]=some (.tuple ds):=id rfl
theorem tupT(ds:List D):uk_ [.tuple ds]=some (.tuple ds):=id rfl
theorem cutT(ds:List D)(lo hi:Option Int):fCut (.tuple ds) lo hi=some (.tuple (L4.cutD ds lo hi)):=id rfl
theorem zjo_(ds:List D)(lo hi:Option Int):fCut (.list ds) lo hi=some (.list (L4.cutD ds lo hi)):=id rfl
theorem ixTn(ds:List D)(n:Nat)(h:n<ds.length):opIx (.tuple ds) (.int n)=some ds[n]:=UC_ ds n h
theorem ixT0(a:D)(r:List D):opIx (.tuple (a::r)) (.int 0)=some a:=ixTn (a::r) 0 (by simp)
theorem ixT1(a b:D)(r:List D):opIx (.tuple (a::b::r)) (.int 1)=some b:=ixTn (a::b::r) 1 (by simp)
theorem ixT2(a b c:D)(r:List D):opIx (.tuple (a::b::c::r)) (.int 2)=some c:=ixTn (a::b::c::r) 2 (by simp)
theorem ixT3(a b c d:D)(r:List D):opIx (.tuple (a::b::c::d::r)) (.int 3)=some d:=ixTn (a::b::c::d::r) 3 (by simp)
theorem ix3_0(a b c:D):opIx (.list [a,b,c]) (.int 0)=some a:=id rfl
theorem ix3_1(a b c:D):opIx (.list [a,b,c]) (.int 1)=some b:=id rfl
theorem ix3_2(a b c:D):opIx (.list [a,b,c]) (.int 2)=some c:=id rfl
theorem put3_0(a b c d:D):putD [a,b,c] (.int 0) d=some [d,b,c]:=id rfl
theorem put3_2(a b c d:D):putD [a,b,c] (.int 2) d=some [a,b,d]:=id rfl
theorem iteB(a b:Bool):(if a=true then(M.ret b)else .ret false)=.ret (a&&b):=by cases a<;>rfl
theorem zfk_(n m:Nat):((n:Int)==(m:Int))=decide (n=m):=by
 by_cases h:n=m
 ·simp[h]
 ·simp only[h,decide_false];rw[beq_eq_false_iff_ne];lia
noncomputable def sW(lo hi:Int):D->Bool
 | .int i=>decide (lo<=i)&&decide (i<=hi)
 | _=>false
noncomputable def sS(w:Str):D->Bool
 | .str s=>s==w
 | _=>false
def Ey(d:D):Prop:=d.canLay0=true/\d.depth<=1000
theorem Vf_{S T ι:Type}{step:T->D->(T->M S)->M S}{e:ι->D}{F:List ι->T}{k:T->M S}:∀(is pre:List ι),
  (∀p i q,is=p++i::q->∀kn:T->M S,step (F (pre++p)) (e i) kn=kn (F (pre++p++[i])))->forC step (is.map e) (F pre) k=k (F (pre++is))
 | [],pre,_=>by simp[forC]
 | i::r,pre,h=>by
  show step (F pre) (e i) _=_
  have h0:=h [] i r rfl (λs'=>forC step (r.map e) s' k)
  rw[List.append_nil]at h0
  rw[h0]
  have:=Vf_ (step:=step) (e:=e) (F:=F) (k:=k) r (pre++[i]) λp j q hq kn=>by
   have:=h (i::p) j q (by rw[hq];rfl) kn
   simpa using this
  rw[this]
  simp
theorem ux_{S T ι:Type}{step:T->D->(T->M S)->M S}{e:ι->D}{F:List ι->T}{k:T->M S}(is:List ι)
  (h:∀p i q,is=p++i::q->∀kn:T->M S,step (F p) (e i) kn=kn (F (p++[i]))):forS step (is.map e) (F []) k=k (F is):=by
 rw[u2_]
 have:=Vf_ (step:=step) (e:=e) (F:=F) (k:=k) is [] (by simpa using h)
 simpa using this
theorem XS_{S T:Type}{step:T->D->(T->M S)->M S}{R:M S->Prop}{P:Nat->T->Prop}{k:T->M S}:∀(ds:List D) (i:Nat) (s:T),
  (∀(j:Nat) (s:T) (d:D),ds[j]? = some d->P (i+j) s->∀kn:T->M S,(∀s',P (i+j+1) s'->R (kn s'))->R (step s d kn)) ->
  P i s->(∀s',P (i+ds.length) s'->R (k s'))->R (forC step ds s k)
 | [],i,s,_,hp,hk=>hk s hp
 | d::r,i,s,h,hp,hk=>by
  show R (step s d _)
  refine h 0 s d rfl hp _ λs' hp'=>?_
  refine XS_ r (i+1) s' (λj s d hd hp kn hkn=>h (j+1) s d (by simpa using hd) (by rw[show i+(j+1)=i+1+j by lia];exact hp) kn λs' q=>hkn s' (by rw[show i+1+j+1=i+(j+1)+1 by lia];exact q)) hp' λs' hs=>hk s' ?_
  rw[show i+(d::r).length=i+1+r.length by simp;lia];exact hs
theorem Z7_{S T:Type}{step:T->D->(T->M S)->M S}{R:M S->Prop}{P:Nat->T->Prop}{k:T->M S}(ds:List D)(s:T)
  (h:∀(j:Nat) (s:T) (d:D),ds[j]? = some d->P j s->∀kn:T->M S,(∀s',P (j+1) s'->R (kn s'))->R (step s d kn))
  (hp:P 0 s) (hk:∀s',P ds.length s'->R (k s')):R (forS step ds s k):=by
 rw[u2_]
 exact XS_ ds 0 s (by simpa using h) hp (by simpa using hk)
theorem yr_{ι:Type}{step:D->M (Option D)}{e g:ι->D}:∀(is:List ι),(∀i∈is,step (e i)=.ret (some (g i)))->jm_ step (is.map e)=.ret (is.map g)
 | [],_=>rfl
 | i::r,h=>by
  rw[List.map_cons,jm_,h i List.mem_cons_self,yr_ r λd hd=>h d (zzg _ hd)]
  rfl
theorem Zr_{ι:Type}{step:D->M (Option D)}{e:ι->D}{g:ι->Option D}:∀(is:List ι),(∀i∈is,step (e i)=.ret (g i))->jm_ step (is.map e)=.ret (is.filterMap g)
 | [],_=>rfl
 | i::r,h=>by
  rw[List.map_cons,jm_,h i List.mem_cons_self,Zr_ r λd hd=>h d (zzg _ hd)]
  cases q:g i<;>simp[uZ_,bdR,List.filterMap_cons,q]
theorem YH_{T ι:Type}{step:T->D->M (Option D×T)}{P:Nat->T->Prop}{e:ι->D}{R:ι->Prop}:∀(ds:List D) (i:Nat) (s:T),
  (∀(j:Nat) (s:T) (d:D),ds[j]? = some d->P (i+j) s->∃x s',step s d=.ret (some (e x),s')/\P (i+j+1) s'/\R x)->P i s ->
  ∃xs s',uH_ step ds s=.ret (List.map e xs,s')/\P (i+ds.length) s'/\xs.length=ds.length/\∀x∈xs,R x
 | [],i,s,_,hp=>⟨[],s,rfl,hp,rfl,λ_ h=>by cases h⟩
 | d::r,i,s,h,hp=>by
  obtain⟨x,s1,e1,p1,r1⟩:=h 0 s d rfl hp
  obtain⟨xs,s2,e2,p2,l2,r2⟩:=YH_ r (i+1) s1 (λj s d hd hp=>by
   have:=h (j+1) s d (by simpa using hd) (by rw[show i+(j+1)=i+1+j by lia];exact hp)
   rw[show i+(j+1)+1=i+1+j+1 by lia]at this
   exact this) p1
  refine⟨x::xs,s2,?_,?_,by simp[l2],?_⟩
  ·rw[uH_,e1];simp only[uZ_,Za_];rw[e2];rfl
  ·rw[show i+(d::r).length=i+1+r.length by simp;lia];exact p2
  ·intro y hy
   cases hy with
   | head=>exact r1
   | tail _ h=>exact r2 y h
theorem Vl_{T ι:Type}{step:T->D->M (Option D×T)}{P:Nat->T->Prop}{e:ι->D}{R:ι->Prop}(ds:List D)(s:T)
  (h:∀(j:Nat) (s:T) (d:D),ds[j]? = some d->P j s->∃x s',step s d=.ret (some (e x),s')/\P (j+1) s'/\R x) (hp:P 0 s) :
  ∃xs s',uH_ step ds s=.ret (List.map e xs,s')/\P ds.length s'/\xs.length=ds.length/\∀x∈xs,R x:=by
 have:=YH_ (step:=step) (P:=P) (e:=e) (R:=R) ds 0 s (by simpa using h) hp
 simpa using this
noncomputable abbrev iN(n:Nat):D:=.int (n:Int)
noncomputable def rng(lo hi:Nat):List Nat:=(List.range (hi - lo)).map (lo + ·)
theorem JA_(lo hi:Nat):(rng lo hi).length=hi - lo:=by simp[rng]
theorem JE_(lo n:Nat):yh_ (lo:Int) n=((List.range n).map (lo + ·)).map iN:=by
 unfold yh_
 rw[List.map_map]
 apply List.map_congr_left
 intro a _
 show PyData.int _=PyData.int _
 congr 1
theorem ZF_{n:Nat}(h:n<=100000):uT_ (n:Int)=true:=by
 unfold uT_
 simp only[Bool.and_eq_true,zzi]
 lia
theorem uX_(n:Nat)(h:n<=100000):z0_ [.int (n:Int)]=some ((List.range n).map iN):=by
 unfold z0_
 simp only[ZF_ h,if_true]
 have:=JE_ 0 n
 simp only[Int.toNat_natCast]
 rw[show(0:Int)=((0:Nat):Int)from rfl,this]
 simp
theorem zdY_(lo hi:Nat)(h:lo<=100000)(h2:hi<=100000):yQ_ [.int (lo:Int),.int (hi:Int)]=some ((rng lo hi).map iN):=by
 unfold yQ_
 simp only[ZF_ h,ZF_ h2,Bool.and_self,if_true]
 rw[show((hi:Int) - (lo:Int)).toNat=hi - lo by lia,JE_]
 rfl
mutual
noncomputable def sz:D->Nat
 | .list ds=>1+szs ds
 | .tuple ds=>1+szs ds
 | .none=>1
 | .bool _=>1
 | .int _=>1
 | .str _=>1
 | .dict _=>1
noncomputable def szs:List D->Nat
 | []=>0
 | d::r=>sz d+szs r
end
mutual
noncomputable def Sm:D->Prop
 | .list ds=>Sms ds
 | .tuple ds=>Sms ds
 | .none=>True
 | .bool _=>True
 | .int i=>i.natAbs<10^19
 | .str s=>zcE_ s=true
 | .dict _=>False
noncomputable def Sms:List D->Prop
 | []=>True
 | d::r=>Sm d/\Sms r
end
theorem Uo_(ds:List D)(k:D):zs_ (.list ds) k=opIx (.list ds) k:=id rfl
theorem jK_(ds:List D)(k:D):zs_ (.tuple ds) k=opIx (.tuple ds) k:=id rfl
theorem leA(a b:Int):VQ_ (.int a) (.int b)=some (decide (a<=b)):=id rfl
theorem ltA(a b:Int):Yd_ (.int a) (.int b)=some (decide (a<b)):=id rfl
theorem zbt_(d:D)(ds:List D):zV_ d (.list ds)=jU_ d (.list ds):=id rfl
theorem zbs_(d:D)(ds:List D):zV_ d (.tuple ds)=jU_ d (.tuple ds):=id rfl
theorem zbM_{ι:Type}(e:ι->D)(is:List ι)(n:Nat)(h:n<is.length):opIx (.list (is.map e)) (.int (n:Int))=some (e is[n]):=by
 have:=UC_ (is.map e) n (by simpa using h)
 rw[List.getElem_map]at this
 exact this
theorem zbL_{ι:Type}(e:ι->D)(is:List ι)(n:Nat)(h:n<is.length):opIx (.tuple (is.map e)) (.int (n:Int))=some (e is[n]):=by
 have:=UC_ (is.map e) n (by simpa using h)
 rw[List.getElem_map]at this
 exact this
theorem Jk_(ds:List D)(d:D)(h:ds.length<=100000):mApp ds [d]=some (ds++[d]):=if_pos (Nat.lt_of_le_of_lt h (by decide))
theorem zbW_{S:Type}{ds:List S}(h:ds.length<=100000):fitM ds=.ret ds:=if_pos (Nat.le_trans h (by decide))
abbrev pD(p:Nat×Nat):D:=.tuple [iN p.1,iN p.2]
theorem zeH_(a b:Nat):((a:Int)==(b:Int))=decide (a=b):=zfk_ a b
theorem zca_(p q:Nat×Nat):PyData.eqv (pD p) (pD q)=decide (p=q):=by
 simp only[pD,iN,PyData.eqv,PyData.eqvAll,zeH_,Bool.and_true]
 rw[Bool.eq_iff_iff]
 simp[Prod.ext_iff]
theorem zbE_(p:Nat×Nat):(pD p).canLay0=true/\(pD p).depth<=1000:=by
 simp[pD,PyData.canLay0,PyData.canLayAll0,PyData.depth,PyData.depthAll]
theorem zeG_(p q r:Nat×Nat):jU_ (pD p) (.tuple [pD q,pD r])=some (!(decide (q=p)||decide (r=p))):=by
 have hi:inOk (pD p) [pD q,pD r]=true:=by
  unfold inOk
  simp[zbE_,PyData.canLayAll0]
 rw[show jU_ (pD p) (.tuple [pD q,pD r])=if inOk (pD p) [pD q,pD r]then some (!([pD q,pD r].any λy=>PyData.eqv y (pD p)))else none from rfl,if_pos hi]
 simp only[List.any_cons,List.any_nil,zca_,Bool.or_false]
theorem eqN(a b:Nat):opEq (iN a) (iN b)=some (decide (a=b)):=by
 show opEq (.int a) (.int b)=_
 rw[eqI,zeH_]
theorem addN(a b:Nat):jC_ (iN a) (iN b)=some (iN (a+b)):=by
 show some (PyData.int ((a:Int)+(b:Int)))=_
 rw[<-Int.natCast_add]
noncomputable abbrev Mt:=Nat×Nat×Nat×Nat
abbrev mD(m:Mt):D:=.tuple [iN m.1,iN m.2.1,iN m.2.2.1,iN m.2.2.2]
structure Rl where
 n:Nat
 st:List Nat
 ms:List Mt
 sy:List Bool
abbrev Rl.d(r:Rl):D:=.tuple [iN r.n,.tuple (r.st.map iN),.tuple (r.ms.map mD),.tuple (r.sy.map PyData.bool)]
def plt(p q:Nat×Nat):Prop:=p.1<q.1\/p.1=q.1/\p.2<q.2
structure MtOk(n:Nat)(m:Mt):Prop where
 ab:m.1<=m.2.1
 b:m.2.1<n
 c:m.2.2.1<n
 d:m.2.2.2<n
 ne:m.2.2≠(m.1,m.2.1)
 ne':m.2.2≠(m.2.1,m.1)
structure Wf(r:Rl):Prop where
 n1:1<=r.n
 st:∀s∈r.st,s<r.n
 sy:r.sy.length=r.n
 ms:∀m∈r.ms,MtOk r.n m
 so:r.ms.Pairwise λm m'=>plt (m.1,m.2.1) (m'.1,m'.2.1)
noncomputable def look(ms:List Mt)(p:Nat×Nat):Option (Nat×Nat):=(ms.find? λm=>decide (m.1=p.1)&&decide (m.2.1=p.2)).map (·.2.2)
def turn(ms:List Mt)(i j:Nat):Nat×Nat:=if i<=j then(look ms (i,j)).getD (i,j)else let t:=(look ms (j,i)).getD (j,i);(t.2,t.1)
theorem min2(a b:Nat):X0_ [.int (a:Int),.int (b:Int)]=some (iN (min a b)):=by
 show some (PyData.int _)=_
 congr 2
 split<;>lia
abbrev kvM(m:Mt):D×D:=(pD (m.1,m.2.1),pD m.2.2)
theorem XA_(p q:Nat×Nat):keyQ (pD p) (pD q)=decide (p=q):=by
 show(decide ((p.1:Int)=q.1)&&(decide ((p.2:Int)=q.2)&&true))=_
 rw[Bool.eq_iff_iff]
 simp[Prod.ext_iff]
 lia
theorem Up_(p:Nat×Nat):ji_ (pD p)=true:=id rfl
theorem zhp_(p:Nat×Nat):jL_ (pD p)=false:=id rfl
theorem QU_{es:List (D×D)}{k d:D}(h:∀p∈es,keyQ p.1 k=false):putE es k d=es++[(k,d)]:=by
 unfold putE
 rw[if_neg]
 rw[Bool.not_eq_true,List.any_eq_false]
 intro p hp
 rw[h p hp]
 decide
theorem uy_{α β:Type}{g:α->List β}{B:Nat}(h:∀a,(g a).length<=B):∀l:List α,(l.flatMap g).length<=l.length*B
 | []=>by simp
 | a::r=>by
  rw[List.flatMap_cons,zzf,List.length_cons,Nat.succ_mul]
  have:=uy_ h r
  have:=h a
  lia
theorem zax_(a:Nat):jC_ (.int 1) (iN a)=some (iN (a+1)):=by
 show some (PyData.int (1+(a:Int)))=some (PyData.int ((a+1:Nat):Int))
 rw[Int.natCast_add,Int.add_comm]
 rfl
theorem zgf_{lo hi j:Nat}{d:D}(h:((rng lo hi).map iN)[j]? = some d):d=iN (lo+j)/\lo+j<hi:=by
 rw[List.getElem?_map]at h
 obtain⟨x,hx,rfl⟩:=Option.map_eq_some_iff.mp h
 have hl:=(List.getElem?_eq_some_iff.mp hx).1
 rw[JA_]at hl
 unfold rng at hx
 rw[List.getElem?_map,List.getElem?_range hl]at hx
 cases hx
 exact⟨rfl,by lia⟩
theorem Zi_{n j:Nat}{d:D}(h:((List.range n).map iN)[j]? = some d):d=iN j/\j<n:=by
 rw[List.getElem?_map]at h
 obtain⟨x,hx,rfl⟩:=Option.map_eq_some_iff.mp h
 have hl:=(List.getElem?_eq_some_iff.mp hx).1
 rw[List.length_range]at hl
 rw[List.getElem?_range hl]at hx
 cases hx
 exact⟨rfl,hl⟩
theorem ziO_{ι:Type}(e:ι->D)(is:List ι)(n:Nat)(z:ι)(h:n<is.length):opIx (.tuple (is.map e)) (.int (n:Int))=some (e (is.getD n z)):=by
 rw[zbL_ e is n h,List.getD_eq_getElem?_getD,List.getElem?_eq_getElem h]
 rfl
theorem zaD_:∀(as bs:List Nat),zipD (as.map iN) (bs.map iN)=(as.zip bs).map pD:=by
 intro as
 induction as with
 | nil=>intro bs;rfl
 | cons a as ih =>
  intro bs
  cases bs with
  | nil=>rfl
  | cons b bs =>
   unfold zipD at ih ⊢
   simp[ih]
structure Ahd(n a b:Nat)(ms:List Mt):Prop where
 ok:∀m∈ms,MtOk n m
 so:ms.Pairwise λm m'=>plt (m.1,m.2.1) (m'.1,m'.2.1)
 ah:∀m∈ms,plt (m.1,m.2.1) (a,b)
 le:ms.length<=a*n+b
theorem Ahd.next{n a b:Nat}{ms:List Mt}(h:Ahd n a b ms):Ahd n a (b+1) ms :=
 ⟨h.ok,h.so,λm hm=>by rcases h.ah m hm with q|⟨q,q2⟩<;>simp only[plt]at * <;> lia,by have:=h.le;lia⟩
theorem Ahd.add{n a b:Nat}{ms:List Mt}{c d:Nat}(h:Ahd n a b ms)(hm:MtOk n (a,b,c,d)):Ahd n a (b+1) (ms++[(a,b,c,d)]):=by
 refine⟨λm hm'=>?_,?_,λm hm'=>?_,by have:=h.le;simp;lia⟩
 ·rcases List.mem_append.mp hm' with q|q
  ·exact h.ok m q
  ·rw[List.mem_singleton.mp q];exact hm
 ·rw[List.pairwise_append]
  refine⟨h.so,List.pairwise_singleton _ _,λm hm x hx=>?_⟩
  rw[List.mem_singleton.mp hx]
  exact h.ah m hm
 ·rcases List.mem_append.mp hm' with q|q
  ·rcases h.ah m q with q|⟨q,q2⟩<;>simp only[plt]at * <;> lia
  ·rw[List.mem_singleton.mp q];exact .inr ⟨rfl,Nat.lt_succ_self _⟩
theorem Ahd.row{n a b:Nat}{ms:List Mt}(h:Ahd n a b ms)(hb:b<=n):Ahd n (a+1) (a+1) ms :=
 ⟨h.ok,h.so,λm hm=>by rcases h.ah m hm with q|⟨q,q2⟩<;>simp only[plt]at * <;> lia,by have:=h.le;rw[Nat.succ_mul];lia⟩
theorem zfE_{S:Type}(p:Nat×Nat)(k:D->D->M S):un2 (pD p) k=k (iN p.1) (iN p.2):=id rfl
theorem XZ_(as bs:List D):fZip [.tuple as,.tuple bs]=some (zipD as bs):=id rfl
noncomputable def tab(n:Nat)(f:Nat->Nat):List Nat:=(List.range n).map f
abbrev tabD(n:Nat)(f:Nat->Nat):List D:=(tab n f).map iN
noncomputable def up(f:Nat->Nat)(i v:Nat):Nat->Nat:=λr=>if r=i then v else f r
theorem zD_(n:Nat)(f:Nat->Nat):(tab n f).length=n:=by simp[tab]
theorem QN_{n:Nat}{f:Nat->Nat}{i:Nat}(h:i<n):(tab n f)[i]? = some (f i):=by
 unfold tab
 rw[List.getElem?_map,List.getElem?_range h]
 rfl
theorem zdJ_(n:Nat)(f:Nat->Nat)(i v:Nat):(tab n f).set i v=tab n (up f i v):=by
 apply List.ext_getElem?
 intro r
 by_cases hr:r<n
 ·rw[QN_ hr]
  by_cases h:i=r
  ·subst h
   rw[List.getElem?_set_self (by rw[zD_];exact hr)]
   simp[up]
  ·rw[List.getElem?_set_ne h,QN_ hr]
   unfold up
   rw[if_neg (λz=>h z.symm)]
 ·rw[List.getElem?_eq_none_iff.mpr (by rw[List.length_set,zD_];lia),List.getElem?_eq_none_iff.mpr (by rw[zD_];lia)]
theorem ZD_{n:Nat}{f:Nat->Nat}{i:Nat}(h:i<n):opIx (.list (tabD n f)) (.int (i:Int))=some (iN (f i)):=by
 have h':i<(tab n f).length:=by rw[zD_];exact h
 have:=zbM_ iN (tab n f) i h'
 have e:(tab n f)[i]'h' = f i:=by
  have:=QN_ (f:=f) h
  rw[List.getElem?_eq_getElem h']at this
  exact Option.some.inj this
 rw[this,e]
theorem WA_{n:Nat}{f:Nat->Nat}{i:Nat}(h:i<n):opIx (.tuple (tabD n f)) (.int (i:Int))=some (iN (f i)):=ZD_ (f:=f) h
theorem Qt_{n i:Nat}(h:i<n):L2.ixN n (i:Int)=some i:=by
 unfold L2.ixN
 rw[if_pos (by lia),if_pos (by lia)]
 rfl
theorem Y1_{n:Nat}{f:Nat->Nat}{i:Nat}(v:Nat)(h:i<n):putD (tabD n f) (.int (i:Int)) (iN v)=some (tabD n (up f i v)):=by
 show(L2.ixN _ (i:Int)).map _=_
 rw[zzd,zD_,Qt_ h]
 show some ((tabD n f).set i (iN v))=_
 rw[tabD,<-List.map_set,zdJ_]
theorem zbu_{l:List Nat}{i:Nat}(v:Nat)(h:i<l.length):putD (l.map iN) (.int (i:Int)) (iN v)=some ((l.set i v).map iN):=by
 show(L2.ixN _ (i:Int)).map _=_
 rw[zzd,Qt_ h]
 show some ((l.map iN).set i (iN v))=_
 rw[<-List.map_set]
theorem zfw_(a:Nat):y2_ (iN a) (.int 1)=some (iN (a+1)):=by
 show some (PyData.int ((a:Int)+1))=some (PyData.int ((a+1:Nat):Int))
 rw[Int.natCast_add];rfl
theorem zig_(a:Nat)(h:1<=a):Y9_ (iN a) (.int 1)=some (iN (a - 1)):=by
 show some (PyData.int ((a:Int) - 1))=some (PyData.int ((a - 1:Nat):Int))
 congr 2
 lia
noncomputable def cnt(hs:List Nat)(r:Nat):Nat:=hs.count r
theorem zbw_(d:D)(k:Nat)(h:k<=100000):Yc_ (.list [d]) (iN k)=some (List.replicate k d):=by
 have e:(List.replicate k [d]).flatten=List.replicate k d:=by
  induction k with
  | zero=>rfl
  | succ k ih=>rw[List.replicate_succ,List.flatten_cons,ih (by lia),List.replicate_succ];rfl
 have hs:(100000:Nat)<=sizeLine:=by decide
 have hl:[d].length*(k:Int).toNat<=sizeLine:=by
  rw[List.length_singleton,Nat.one_mul,Int.toNat_natCast]
  exact Nat.le_trans h hs
 have h1 : -(2^63)<=(k:Int):=by lia
 have h2:(k:Int)<2^63:=by lia
 have hc:(decide (-(2^63)<=(k:Int))&&decide ((k:Int)<2^63)&&decide ([d].length*(k:Int).toNat<=sizeLine))=true:=by
  rw[decide_eq_true h1,decide_eq_true h2,decide_eq_true hl];rfl
 have e2:Yc_ (.list [d]) (iN k)=if(decide (-(2^63)<=(k:Int))&&decide ((k:Int)<2^63)&&decide ([d].length*(k:Int).toNat<=sizeLine))=true then some (List.replicate (k:Int).toNat [d]).flatten else none:=id rfl
 rw[e2,if_pos hc,Int.toNat_natCast,e]
noncomputable def canB(f:Nat->Nat)(m:Mt):Bool:=let w:=if m.1=m.2.1 then 2 else 1;decide (w<=f m.1)&&decide (w<=f m.2.1)
def ledF(f:Nat->Nat)(m:Mt):Nat->Nat :=
 let f1:=up f m.1 (f m.1 - 1)
 let f2:=up f1 m.2.1 (f1 m.2.1 - 1)
 let f3:=up f2 m.2.2.1 (f2 m.2.2.1+1)
 up f3 m.2.2.2 (f3 m.2.2.2+1)
theorem Uv_{f:Nat->Nat}{m:Mt}(h:canB f m=true):1<=f m.1/\1<=up f m.1 (f m.1 - 1) m.2.1:=by
 unfold canB at h
 simp only[Bool.and_eq_true,zzi]at h
 unfold up
 by_cases e:m.1=m.2.1
 ·rw[if_pos e]at h
  rw[if_pos e.symm]
  lia
 ·rw[if_neg e]at h
  rw[if_neg (λz=>e z.symm)]
  lia
theorem allB(bs:List Bool):fAll [.list (bs.map PyData.bool)]=some (bs.all id):=by
 show(boolsOf _).map _=_
 rw[Jg_];rfl
theorem anyB(bs:List Bool):fAny [.list (bs.map PyData.bool)]=some (bs.any id):=by
 show(boolsOf _).map _=_
 rw[Jg_];rfl
noncomputable def zaQ_(bs:List Bool):D:=if bs.all id then .str "yes" else if bs.any id then .str "both" else .str "no"
theorem zjb_(l:List Nat):opEq (.list (l.map iN)) (.list [])=some l.isEmpty:=by
 have h1:PyData.canLayAll0 (l.map iN)=true:=Z0_ λd hd=>by
  obtain⟨x,_,rfl⟩:=List.mem_map.mp hd
  simp[iN,PyData.canLay0]
 have hd:PyData.depthAll (l.map iN)<=1:=Ut_ λd hd=>by
  obtain⟨x,_,rfl⟩:=List.mem_map.mp hd
  simp[iN,PyData.depth]
 unfold opEq eqOk
 rw[if_pos]
 ·cases l<;>simp[PyData.eqv,PyData.eqvAll]
 ·have h2:(PyData.list (l.map iN)).depth<=1000:=by
   simp only[PyData.depth]
   lia
  simp only[PyData.canLay0,h1,PyData.canLayAll0,Bool.and_self,Bool.true_and,zzi]
  exact h2
theorem jZ_{α β:Type}(p:α->Bool)(g:α->β):∀l:List α,(l.filterMap λk=>if p k=true then some (g k)else none)=(l.filter p).map g
 | []=>rfl
 | a::r=>by
  rw[List.filterMap_cons,List.filter_cons,jZ_ p g r]
  cases p a<;>rfl
theorem Qn_{f:Nat->Nat}{m:Mt}(h:canB f m=true)(r:Nat):ledF f m r+(if m.1=r then 1 else 0)+(if m.2.1=r then 1 else 0)=f r+(if m.2.2.1=r then 1 else 0)+(if m.2.2.2=r then 1 else 0):=by
 obtain⟨p1,p2⟩:=Uv_ h
 have u:∀(g:Nat->Nat) (i v:Nat),up g i v r=if i=r then v else g r:=λg i v=>by
  unfold up
  by_cases e:r=i
  ·subst e;simp
  ·rw[if_neg e,if_neg (λz=>e z.symm)]
 have s1:∀g:Nat->Nat,∀i,1<=g i->up g i (g i - 1) r+(if i=r then 1 else 0)=g r:=λg i hg=>by
  rw[u]
  by_cases e:i=r
  ·subst e;rw[if_pos rfl,if_pos rfl];lia
  ·rw[if_neg e,if_neg e];rfl
 have s2:∀g:Nat->Nat,∀i,up g i (g i+1) r=g r+(if i=r then 1 else 0):=λg i=>by
  rw[u]
  by_cases e:i=r
  ·subst e;rw[if_pos rfl,if_pos rfl]
  ·rw[if_neg e,if_neg e];rfl
 unfold ledF
 rw[s2,s2]
 have h1:=s1 f m.1 p1
 have h2:=s1 (up f m.1 (f m.1 - 1)) m.2.1 p2
 lia
noncomputable def zfQ_(l:List (Nat×Nat)):List Nat:=l.flatMap λp=>List.replicate p.2 p.1
def zjp_(f:Nat->Nat)(ms:List Mt):List Nat:=(ms.zipIdx.filter λp=>canB f p.1).map (·.2)
def zjn_(r:Rl)(hs:List Nat)(i j:Nat):List Nat:=(hs.set i (turn r.ms (hs.getD i 0) (hs.getD j 0)).1).set j (turn r.ms (hs.getD i 0) (hs.getD j 0)).2
def cdOf(r q:Rl)(i j:Nat):Nat×Nat:=((turn r.ms (i / q.n) (j / q.n)).1*q.n+(turn q.ms (i % q.n) (j % q.n)).1,(turn r.ms (i / q.n) (j / q.n)).2*q.n+(turn q.ms (i % q.n) (j % q.n)).2)
def cell(r q:Rl)(i j:Nat):List Mt:=if cdOf r q i j=(i,j)then[]else[(i,j,cdOf r q i j)]
def ziq_(r q:Rl)(i:Nat):List Mt:=(rng i (r.n*q.n)).flatMap (cell r q i)
def zfO_(r q:Rl):List Mt:=(List.range (r.n*q.n)).flatMap (ziq_ r q)
structure Two(r q:Rl):Prop where
 wr:Wf r
 wq:Wf q
 rn:r.n<=40
 qn:q.n<=40
 R:r.n*q.n<=40
 st:r.st.length=q.st.length
 s4:q.st.length<=4
noncomputable def zij_(both a b:Bool):Bool:=if both then a&&b else a||b
def zfT_(r q:Rl)(both:Bool)(p:Nat):Bool:=zij_ both (r.sy.getD (p / q.n) false) (q.sy.getD (p % q.n) false)
noncomputable def QO_(r q:Rl):List Nat:=(List.range r.st.length).map λk=>r.st.getD k 0*q.n+q.st.getD k 0
def side(r q:Rl)(both:Bool):Rl:=⟨r.n*q.n,QO_ r q,zfO_ r q,(List.range (r.n*q.n)).map (zfT_ r q both)⟩
noncomputable def zjl_(both:Bool):D:=if both then .str "both" else .str "either"
abbrev cT(l:List Nat):D:=.tuple (l.map iN)
theorem JP_:∀l l':List Nat,PyData.eqvAll (l.map iN) (l'.map iN)=decide (l=l')
 | [],[]=>rfl
 | [],_::_=>rfl
 | _::_,[]=>rfl
 | a::l,b::l'=>by
  simp only[List.map_cons,PyData.eqvAll,PyData.eqv,zeH_,JP_ l l']
  rw[Bool.eq_iff_iff]
  simp
theorem YC_(l l':List Nat):PyData.eqv (cT l) (cT l')=decide (l=l'):=by
 rw[<-JP_]
 rfl
theorem zbF_(l:List Nat):PyData.canLayAll0 (l.map iN)=true:=Z0_ λd hd=>by
 obtain⟨x,_,rfl⟩:=List.mem_map.mp hd
 simp[iN,PyData.canLay0]
theorem Q7_(l:List Nat):(cT l).canLay0=true/\(cT l).depth<=1000:=by
 refine⟨by simp only[PyData.canLay0];exact zbF_ l,?_⟩
 have hd:PyData.depthAll (l.map iN)<=1:=Ut_ λd hd=>by
  obtain⟨x,_,rfl⟩:=List.mem_map.mp hd
  simp[iN,PyData.depth]
 simp only[PyData.depth]
 lia
theorem neT(l l':List Nat):opNe (cT l) (cT l')=some (!decide (l=l')):=by
 unfold opNe eqOk
 rw[if_pos (by simp[Q7_]),YC_]
def zjm_(n:Nat)(g f:Nat->Nat):Nat->Nat:=cnt (zfQ_ ((List.range n).map λp=>(g p,f p)))
structure Sd(r q:Rl)(g:Nat->Nat)(R:Rl):Prop where
 wf:Wf R
 lt:∀{a},a<r.n*q.n->g a<R.n
 tn:∀{a b},a<r.n*q.n->b<r.n*q.n->(g (cdOf r q a b).1,g (cdOf r q a b).2)=turn R.ms (g a) (g b)
 st:(QO_ r q).map g=R.st
end L4
namespace K95
open PySem PySem.Spec PyProof.Rows L2 L3 L4
def Fd(T:Nat)(f:List D):Prop:=∃a b t:Int,f=[.int a,.int b,.int t]/\0<=t/\t<=T
theorem Fd.le{T T':Nat}{f:List D}(h:Fd T f)(hl:T<=T'):Fd T' f:=by
 obtain⟨a,b,t,e,h0,h1⟩:=h
 exact⟨a,b,t,e,h0,by lia⟩
theorem Q4_{T:Nat}{f:List D}{m:Int}(h:Fd T f)(hT:T<=1000000)(hm:0<m)(hm2:m<1073741824) :
  ∃(r:Int) (f':List D),zl_ f (.int m)=.ret (.int r,f')/\0<=r/\r<m/\Fd (T+1) f':=by
 obtain⟨a,b,t,rfl,h0,h1⟩:=h
 unfold zl_
 simp only[Uo_]
 rw[L4.ix3_0,oMS,bdR,L4.gtI,oMS,bdR]
 by_cases ha:0<a
 ·simp only[ha,decide_true,if_true]
  simp only[oMS,bdR,L4.modI _ _ hm,L4.divI _ _ hm hm2,L4.put3_0]
  exact⟨_,_,rfl,Int.emod_nonneg _ (by lia),Int.emod_lt_of_pos _ hm,_,_,_,rfl,h0,by lia⟩
 ·simp only[ha,decide_false]
  rw[if_neg (by decide)]
  simp only[oMS,bdR,L4.ix3_2,L4.ix3_1,L4.put3_2,L4.addI]
  rw[L4.mulL 41 _ (by decide) (by decide),L4.mulL (t+1) (t+1) (by lia) (by lia)]
  simp only[oMS,bdR,L4.addI]
  have tb:(t+1)*(t+1)<=1000001*1000001:=Int.mul_le_mul (by lia) (by lia) (by lia) (by lia)
  have tb0:0<=(t+1)*(t+1):=Int.mul_nonneg (by lia) (by lia)
  rw[L4.mulR _ ((t+1)*(t+1)+69621) (by lia) (by lia)]
  simp only[oMS,bdR]
  rw[L4.modI _ _ (by decide)]
  simp only[oMS,bdR]
  rw[L4.modI _ _ (by decide)]
  simp only[oMS,bdR,L4.addI]
  have g1:=Int.emod_nonneg ((b+41*(t+1)+3)*((t+1)*(t+1)+69621)) (b:=(998244353:Int)) (by decide)
  have g2:=Int.emod_lt_of_pos ((b+41*(t+1)+3)*((t+1)*(t+1)+69621)) (b:=(998244353:Int)) (by decide)
  rw[L4.mulL _ _ (by lia) (by lia)]
  simp only[oMS,bdR,L4.addI]
  rw[L4.modI _ _ (by decide)]
  simp only[oMS,bdR]
  rw[L4.divI _ _ (by decide) (by decide)]
  simp only[oMS,bdR]
  rw[L4.modI _ _ hm]
  exact⟨_,_,rfl,Int.emod_nonneg _ (by lia),Int.emod_lt_of_pos _ hm,_,_,_,rfl,by lia,by lia⟩
theorem jt_{T:Nat}{f:List D}{m:Nat}(h:Fd T f)(hT:T<=1000000)(hm:0<m)(hm2:m<=1000000000) :
  ∃(r:Nat) (f':List D),zl_ f (.int (m:Int))=.ret (iN r,f')/\r<m/\Fd (T+1) f':=by
 obtain⟨r,f',e,h1,h2,h3⟩:=Q4_ h hT (m:=(m:Int)) (by lia) (by lia)
 obtain⟨n,rfl⟩:=Int.eq_ofNat_of_zero_le h1
 exact⟨n,f',e,by lia,h3⟩
theorem zfb_(ns:List Int)(k:Int)(hn:ns.length<=63):∃f,j6_ (.list (ns.map PyData.int)) (.int k)=.ret f/\Fd 0 f:=by
 unfold j6_
 simp only[Uo_]
 have e1:fLen [.list (ns.map PyData.int)]=some (.int ns.length):=by rw[L4.lenL,zzd]
 have p18:W7_ (.int 10) (.int 18)=some (.int 1000000000000000000):=id rfl
 have tail:∀c:Int,∃f,(bd (bd (bd (oM (fAbs [.int c])) λx6=>bd (oM (W7_ (.int 10) (.int 18))) λx7=>oM (opGe x6 x7)) λb8=>if b8 then oM (fAbs [.int c])else .ret (.int 0)) λx9=>bd (bd (bd (oM (ZN_ (.int c) (.int 1000003))) λx10=>bd (oM (uL_ (.int 7919) (.int k))) λx11=>oM (jC_ x10 x11)) λx12=>.ret [x9,x12,(.int 0)]) λl13=>M.ret l13)=.ret f/\Fd 0 f:=λc=>by
  have a1:fAbs [.int c]=some (.int (if c<0 then -c else c)):=id rfl
  simp only[a1,p18,oMS,bdR,L4.geI]
  rw[L4.modI _ _ (by decide),L4.mulL _ _ (by decide) (by decide)]
  simp only[oMS,bdR,L4.addI]
  generalize (if c<0 then -c else c)=A
  generalize decide ((1000000000000000000:Int)<=A)=B
  cases B
  ·exact⟨_,rfl,_,_,_,rfl,Int.le_refl _,Int.le_refl _⟩
  ·exact⟨_,rfl,_,_,_,rfl,Int.le_refl _,Int.le_refl _⟩
 simp only[e1,oMS,bdR,L4.gtI]
 by_cases h:0<(ns.length:Int)
 ·simp only[h,decide_true,if_true]
  rw[L4.modI _ _ h,oMS,bdR]
  have m1:=Int.emod_nonneg k (b:=(ns.length:Int)) (by lia)
  have m2:=Int.emod_lt_of_pos k h
  obtain⟨x,hx,e⟩:=zdt_ (ns.map PyData.int) (k % ns.length) m1 (by rw[zzd];exact m2)
  obtain⟨i,hi,rfl⟩:=List.mem_map.mp hx
  have e2:opIx (.list (ns.map PyData.int)) (.int (k % ns.length))=some (.int i):=e
  rw[e2,oMS,bdR]
  exact tail i
 ·simp only[h,decide_false]
  rw[if_neg (by decide),bdR]
  exact tail 0
theorem zcW_{T:Nat}{f:List D}{m:List D}(hm:0<m.length)(hm2:m.length<100000)(h:Fd T f)(hT:T<=1000000) :
  ∃(x:D) (f':List D),jN_ f (.list m)=.ret (x,f')/\x∈m/\Fd (T+1) f':=by
 unfold jN_
 simp only[Uo_]
 obtain⟨r,f',t1,t2,t3,t4⟩:=Q4_ h hT (m:=(m.length:Int)) (by lia) (by lia)
 obtain⟨x,hx,e⟩:=zdt_ m r t2 t3
 have e2:opIx (.list m) (.int r)=some x:=e
 rw[L4.lenL,oMS,bdR,t1,bdR]
 simp only[e2,oMS,bdR]
 exact⟨x,f',rfl,hx,t4⟩
def zfy_(T most sorts:Nat)(m:M (D×List D)):Prop:=∃(r:Rl) (f':List D),m=.ret (r.d,f')/\Wf r/\r.n<=most/\r.st.length=sorts/\r.ms.length<=2000/\Fd (T+7000) f'
theorem zdW_{R:M (D×List D)->Prop}{T n a sorts often:Nat}{f:List D}{ms:List Mt}{kn22:List D×D×D×D×List D×Unit->M (D×List D)}(hf:Fd T f)(hT:T<=990000)(hn:n<=40)(ha:a<n)(ho:1<=often)(ho2:often<=3)(hA:Ahd n a a ms)
  (k:∀f' ms',Fd (T+4*n) f'->Ahd n (a+1) (a+1) ms'->R (kn22 (f',iN sorts,iN n,iN often,ms'.map mD,()))):R (jF_ f (iN sorts) (iN n) (iN often) (ms.map mD) (iN a) kn22):=by
 unfold jF_
 rw[zdY_ a n (by first|decide|lia) (by first|decide|lia),oMS,bdR]
 refine Z7_ (P:=λi s=>∃f ms,s=(f,iN sorts,iN n,iN often,List.map mD ms,iN a,())/\Fd (T+4*i) f/\Ahd n a (a+i) ms) _ _ ?_ ⟨f,ms,rfl,hf,hA⟩ ?_
 ·rintro i s d hd ⟨f,ms,rfl,hf,hA⟩ kn hkn
  obtain⟨rfl,hi⟩:=zgf_ hd
  unfold uQ_
  dsimp only
  obtain⟨c,f1,e1,hc,hf1⟩:=jt_ (m:=n) hf (by first|decide|lia) (by first|decide|lia) (by first|decide|lia)
  obtain⟨e,f2,e2,he,hf2⟩:=jt_ (m:=n) hf1 (by first|decide|lia) (by first|decide|lia) (by first|decide|lia)
  obtain⟨x,f3,e3,hx,hf3⟩:=zcW_ (m:=[iN (a+i),iN a,iN e]) (by simp) (by simp) hf2 (by first|decide|lia)
  obtain⟨x',f4,e4,_,hf4⟩:=jt_ (m:=often) hf3 (by first|decide|lia) (by first|decide|lia) (by first|decide|lia)
  have hd:∃d,d<n/\x=iN d:=by
   simp only[List.mem_cons,List.mem_nil_iff,or_false]at hx
   rcases hx with rfl|rfl|rfl
   ·exact⟨_,hi,rfl⟩
   ·exact⟨_,ha,rfl⟩
   ·exact⟨_,he,rfl⟩
  obtain⟨d,hd,rfl⟩:=hd
  rw[e1,bdR];dsimp only
  rw[e2,bdR];dsimp only
  rw[e3,bdR];dsimp only
  rw[e4,bdR];dsimp only
  rw[eqI,oMS,bdR]
  have skip:R (kn (f4,iN sorts,iN n,iN often,List.map mD ms,iN a,())):=hkn _ ⟨f4,ms,rfl,hf4.le (by first|decide|lia),hA.next⟩
  split
  ·rw[zbs_,show(PyData.tuple [iN c,iN d])=pD (c,d)from rfl,show(PyData.tuple [PyData.tuple [iN a,iN (a+i)],PyData.tuple [iN (a+i),iN a]])=.tuple [pD (a,a+i),pD (a+i,a)]from rfl,zeG_,oMS,bdR]
   split
   ·rename_i hne
    have hle:=hA.le
    have hlen:(ms.map mD).length<=100000:=by
     rw[zzd]
     have:a*n<=40*40:=Nat.mul_le_mul (by first|decide|lia) hn
     lia
    rw[Jk_ _ _ hlen,oMS,bdR]
    have hne':¬ ((a,a+i)=(c,d))/\¬ ((a+i,a)=(c,d)):=by
     simp only[Bool.not_eq_true',Bool.or_eq_false_iff,decide_eq_false_iff_not]at hne
     exact hne
    have:=hkn (f4,iN sorts,iN n,iN often,List.map mD (ms++[(a,a+i,c,d)]),iN a,()) ⟨f4,_,rfl,hf4.le (by first|decide|lia),hA.add ⟨by simp,hi,hc,hd,λz=>hne'.1 z.symm,λz=>hne'.2 z.symm⟩⟩
    rw[List.map_append]at this
    exact this
   ·exact skip
  ·exact skip
 ·rintro s ⟨f,ms,rfl,hf,hA⟩
  rw[zzd,JA_]at hf hA
  unfold uR_
  exact k f ms (hf.le (by first|decide|lia)) (hA.row (by first|decide|lia))
theorem zdV_{T:Nat}{f:List D}{most sorts:Nat}(h:Fd T f)(hT:T<=900000)(hm:1<=most)(hm2:most<=40)(hs:1<=sorts)(hs2:sorts<=4):zfy_ T most sorts (jv_ f (iN most) (iN sorts)):=by
 unfold jv_
 obtain⟨n0,f1,e1,h1,hf1⟩:=jt_ (m:=most) h (by first|decide|lia) (by first|decide|lia) (by first|decide|lia)
 obtain⟨o0,f2,e2,h2,hf2⟩:=jt_ (m:=3) hf1 (by first|decide|lia) (by first|decide|lia) (by first|decide|lia)
 have e2':zl_ f1 (.int 3)=.ret (iN o0,f2):=e2
 rw[e1,bdR];dsimp only
 rw[zax_,oMS,bdR,e2',bdR];dsimp only
 rw[zax_,oMS,bdR,uX_ _ (by first|decide|lia),oMS,bdR]
 generalize hn:n0+1=n
 have hn40:n<=40:=by lia
 have hb:∀j,j<=n->4*n*j<=6400:=λj hj=>by
  have:n*j<=40*40:=Nat.mul_le_mul hn40 (by first|decide|lia)
  have e:4*n*j=4*(n*j):=Nat.mul_assoc _ _ _
  lia
 refine Z7_ (P:=λj s=>∃f ms,s=(f,iN sorts,iN n,iN (o0+1),List.map mD ms,())/\Fd (T+2+4*n*j) f/\Ahd n j j ms) _ _ ?_ ⟨f2,[],rfl,hf2.le (by first|decide|lia),⟨λ_ h=>(nomatch h),.nil,λ_ h=>(nomatch h),Nat.zero_le _⟩⟩ ?_
 ·rintro j s d hd ⟨f,ms,rfl,hf,hA⟩ kn hkn
  obtain⟨rfl,hj⟩:=Zi_ hd
  dsimp only
  refine zdW_ hf (by have:=hb j (by first|decide|lia);lia) hn40 hj (by first|decide|lia) (by first|decide|lia) hA λf' ms' hf' hA'=>hkn _ ⟨f',ms',rfl,hf'.le ?_,hA'⟩
  rw[Nat.mul_succ];lia
 ·rintro s ⟨f,ms,rfl,hf,hA⟩
  rw[zzd,List.length_range]at hf hA
  dsimp only
  unfold uS_
  have hfb:=hb n (Nat.le_refl _)
  rw[uX_ sorts (by first|decide|lia),oMS,bdR]
  obtain⟨st,s1,c1,⟨f1,hs1,hf1⟩,l1,r1⟩:=Vl_ (P:=λj (s:List D×D×D×List D×Unit)=>∃f,s=(f,iN sorts,iN n,List.map mD ms,())/\Fd (T+6402+j) f) (e:=iN) (R:=λx=>x<n)
   (step:=λs7 d8=>bd (zl_ s7.1 s7.2.2.1) λr9=>.ret (some r9.1,(r9.2,s7.2.1,s7.2.2.1,s7.2.2.2.1,()))) ((List.range sorts).map iN) (f,iN sorts,iN n,List.map mD ms,())
   (by
    rintro j s d hd ⟨f,rfl,hf⟩
    obtain⟨rfl,hj⟩:=Zi_ hd
    obtain⟨x,f',e,hx,hf'⟩:=jt_ (m:=n) hf (by first|decide|lia) (by first|decide|lia) (by first|decide|lia)
    dsimp only
    rw[e,bdR]
    exact⟨x,_,rfl,⟨f',rfl,hf'⟩,hx⟩) ⟨f,rfl,hf.le (by first|decide|lia)⟩
  subst hs1
  rw[zzd,List.length_range]at hf1 l1
  rw[c1,bdR];dsimp only
  rw[u3_ (by rw[zzd];lia),bdR,tupL,oMS,bdR,tupL,oMS,bdR,uX_ n (by first|decide|lia),oMS,bdR]
  obtain⟨sy,s2,c2,⟨f2,hs2,hf2⟩,l2,_⟩:=Vl_ (P:=λj (s:List D×D×Unit)=>∃f,s=(f,iN n,())/\Fd (T+6402+sorts+j) f) (e:=PyData.bool) (R:=λ_=>True)
   (step:=λs15 d16=>bd (zl_ s15.1 (.int 2)) λr17=>bd (oM (opEq r17.1 (.int 0))) λb18=>.ret (some (.bool b18),(r17.2,s15.2.1,()))) ((List.range n).map iN) (f1,iN n,())
   (by
    rintro j s d hd ⟨f,rfl,hf⟩
    obtain⟨rfl,hj⟩:=Zi_ hd
    obtain⟨x,f',e,hx,hf'⟩:=jt_ (m:=2) hf (by first|decide|lia) (by first|decide|lia) (by first|decide|lia)
    have e':zl_ f (.int 2)=.ret (iN x,f'):=e
    dsimp only
    rw[e',bdR];dsimp only
    rw[eqI,oMS,bdR]
    exact⟨_,_,rfl,⟨f',rfl,hf'⟩,trivial⟩) ⟨f1,rfl,hf1⟩
  subst hs2
  rw[zzd,List.length_range]at hf2 l2
  rw[c2,bdR];dsimp only
  rw[u3_ (by rw[zzd];lia),bdR,tupL,oMS,bdR]
  exact⟨⟨n,st,ms,sy⟩,f2,rfl,⟨(show 1<=n by lia),r1,l2,hA.ok,hA.so⟩,(show n<=most by lia),l1,(show ms.length<=2000 by
   have:=hA.le
   have:n*n<=40*40:=Nat.mul_le_mul hn40 hn40
   lia),hf2.le (by first|decide|lia)⟩
theorem zck_{n:Nat}{f:Nat->Nat}{m:Mt}(h:MtOk n m):uC_ (.tuple (tabD n f)) (mD m)=.ret (.bool (canB f m)):=by
 have hb:=h.b;have hab:=h.ab
 unfold uC_
 have e1:(if decide (m.1=m.2.1)=true then(M.ret (PyData.int 2):M D)else .ret (.int 1))=.ret (iN (if m.1=m.2.1 then 2 else 1)):=by
  by_cases e:m.1=m.2.1
  ·rw[if_pos (decide_eq_true e),if_pos e];rfl
  ·rw[if_neg (by simpa using e),if_neg e];rfl
 rw[jK_,ixT0,oMS,bdR,jK_,ixT1,oMS,bdR,eqN,oMS,bdR,e1,bdR,bdR,jK_,WA_ (show m.1<n by lia),oMS,bdR,geI,oMS,bdR,bdR,jK_,WA_ hb]
 simp only[oMS,bdR,geI,iteB,canB]
 congr 3<;>first|exact decide_eq_decide.mpr Int.ofNat_le|(rw[Bool.eq_iff_iff,zzi,zzi];lia)
theorem zdd_{n:Nat}{f:Nat->Nat}{x:Nat}(d:D)(hx:x<n)(h:1<=f x)(kn:D×List D×Unit->M D):u6_ d (tabD n f) (iN x) kn=kn (d,tabD n (up f x (f x - 1)),()):=by
 unfold u6_
 rw[ZD_ hx,oMS,bdR,zig_ _ h,oMS,bdR,Y1_ _ hx,oMS,bdR]
theorem zdc_{n:Nat}{f:Nat->Nat}{x:Nat}(hx:x<n)(kn:List D×Unit->M D):u5_ (tabD n f) (iN x) kn=kn (tabD n (up f x (f x+1)),()):=by
 unfold u5_
 rw[ZD_ hx,oMS,bdR,zfw_,oMS,bdR,Y1_ _ hx,oMS,bdR]
theorem zbB_{n:Nat}{f:Nat->Nat}{m:Mt}(h:MtOk n m)(hc:canB f m=true):uA_ (.tuple (tabD n f)) (mD m)=.ret (.tuple (tabD n (ledF f m))):=by
 have hb:=h.b;have hab:=h.ab;have hcc:=h.c;have hd:=h.d
 obtain⟨p1,p2⟩:=Uv_ hc
 have e1:fCut (mD m) (some 2) none=some (.tuple [iN m.2.2.1,iN m.2.2.2]):=rfl
 have e2:fCut (mD m) none (some 2)=some (.tuple [iN m.1,iN m.2.1]):=rfl
 have a2:asI (.int 2)=.ret (some 2):=id rfl
 have l1:uP_ [.tuple (tabD n f)]=some (tabD n f):=id rfl
 unfold uA_
 rw[l1,oMS,bdR,a2,bdR,e2,oMS,bdR,seqT,oMS,bdR,u2_,forC]
 refine(zdd_ (mD m) (show m.1<n by lia) p1 _).trans ?_
 rw[forC]
 refine(zdd_ (mD m) hb p2 _).trans ?_
 rw[forC]
 show u8_ _ _=_
 unfold u8_
 rw[a2,bdR,e1,oMS,bdR,seqT,oMS,bdR,u2_,forC]
 refine(zdc_ hcc _).trans ?_
 rw[forC]
 refine(zdc_ hd _).trans ?_
 rw[forC]
 show u7_ _=_
 unfold u7_
 rw[tupL,oMS,bdR]
 rfl
noncomputable def fl(l:List Nat):Nat->Nat:=λi=>l.getD i 0
theorem Jx_{n:Nat}{l:List Nat}(h:l.length=n):tab n (fl l)=l:=by
 subst h
 unfold tab fl
 apply List.ext_getElem
 ·simp
 ·intro i h1 h2
  simp[List.getD_eq_getElem?_getD,List.getElem?_eq_getElem h2]
theorem YP_{n:Nat}{l:List Nat}(h:l.length=n):cT l=.tuple (tabD n (fl l)):=by
 show cT l=cT (tab n (fl l))
 rw[Jx_ h]
def led(n:Nat)(l:List Nat)(m:Mt):List Nat:=tab n (ledF (fl l) m)
theorem yN_(n:Nat)(l:List Nat)(m:Mt):(led n l m).length=n:=zD_ n _
def Goes(r:Rl)(l:List Nat)(k:Nat)(l':List Nat):Prop:=∃m,r.ms[k]? = some m/\canB (fl l) m=true/\l'=led r.n l m
theorem zdp_{r:Rl}{l:List Nat}{m:Mt}(hl:l.length=r.n)(h:MtOk r.n m):uC_ (cT l) (mD m)=.ret (.bool (canB (fl l) m)):=by
 rw[YP_ hl];exact zck_ h
theorem zde_{r:Rl}{l:List Nat}{m:Mt}(hl:l.length=r.n)(h:MtOk r.n m)(hc:canB (fl l) m=true):uA_ (cT l) (mD m)=.ret (cT (led r.n l m)):=by
 rw[YP_ hl];exact zbB_ h hc
def kvN(p:Mt×Nat):D×D:=(pD (p.1.1,p.1.2.1),iN p.2)
noncomputable def idx(ms:List Mt)(p:Nat×Nat):Option Nat:=(ms.zipIdx.find? λq=>decide ((q.1.1,q.1.2.1)=p)).map (·.2)
theorem Ve_(p:Nat×Nat):∀l:List (Mt×Nat),getE (l.map kvN) (pD p)=((l.find? λq=>decide ((q.1.1,q.1.2.1)=p)).map (·.2)).map iN
 | []=>rfl
 | q::r=>by
  unfold getE
  rw[List.map_cons,List.find?_cons,List.find?_cons]
  rw[show keyQ (kvN q).1 (pD p)=decide ((q.1.1,q.1.2.1)=p)from XA_ _ _]
  cases h:decide ((q.1.1,q.1.2.1)=p)with
  | true=>rfl
  | false=>exact Ve_ p r
theorem XE_(l:List (Mt×Nat))(p:Nat×Nat):keyOk (l.map kvN) (pD p)=true:=by
 unfold keyOk
 rw[Bool.or_eq_true]
 left
 rw[Bool.and_eq_true,List.all_eq_true]
 refine⟨Up_ p,λx hx=>?_⟩
 obtain⟨q,_,rfl⟩:=List.mem_map.mp hx
 exact Up_ _
theorem zch_(ms:List Mt)(a b:Nat):X6_ (.dict (ms.zipIdx.map kvN)) (.tuple [iN a,iN b])=some (((idx ms (a,b)).map iN).getD .none):=by
 show(if keyOk (ms.zipIdx.map kvN) (pD (a,b))then some ((getE (ms.zipIdx.map kvN) (pD (a,b))).getD .none)else none)=_
 rw[if_pos (XE_ _ _),Ve_]
 rfl
theorem zbS_{ms:List Mt}{p:Nat×Nat}{k:Nat}(h:idx ms p=some k):∃m,ms[k]? = some m/\(m.1,m.2.1)=p:=by
 unfold idx at h
 obtain⟨q,hq,rfl⟩:=Option.map_eq_some_iff.mp h
 have h1:=List.mem_of_find?_eq_some hq
 have h2:=List.find?_some hq
 exact⟨q.1,List.mem_zipIdx_iff_getElem?.mp h1,by simpa using h2⟩
theorem XM_{r:Rl}(w:Wf r){k:Nat}{m:Mt}(h:r.ms[k]? = some m):idx r.ms (m.1,m.2.1)=some k:=by
 have hm:(m,k)∈r.ms.zipIdx:=List.mem_zipIdx_iff_getElem?.mpr h
 unfold idx
 cases e:r.ms.zipIdx.find? λq=>decide ((q.1.1,q.1.2.1)=(m.1,m.2.1))with
 | none =>
  have:=List.find?_eq_none.mp e (m,k) hm
  simp at this
 | some q =>
  have h1:=List.mem_zipIdx_iff_getElem?.mp (List.mem_of_find?_eq_some e)
  have h2:(q.1.1,q.1.2.1)=(m.1,m.2.1):=by simpa using List.find?_some e
  show some q.2=some k
  congr 1
  rcases Nat.lt_trichotomy q.2 k with lt|eq|gt
  ·exfalso
   obtain⟨g1,e1⟩:=List.getElem?_eq_some_iff.mp h1
   obtain⟨g2,e2⟩:=List.getElem?_eq_some_iff.mp h
   have:=List.pairwise_iff_getElem.mp w.so q.2 k g1 g2 lt
   rw[e1,e2,h2]at this
   rcases this with z|⟨_,z⟩<;>exact absurd z (Nat.lt_irrefl _)
  ·exact eq
  ·exfalso
   obtain⟨g1,e1⟩:=List.getElem?_eq_some_iff.mp h1
   obtain⟨g2,e2⟩:=List.getElem?_eq_some_iff.mp h
   have:=List.pairwise_iff_getElem.mp w.so k q.2 g2 g1 gt
   rw[e1,e2,h2]at this
   rcases this with z|⟨_,z⟩<;>exact absurd z (Nat.lt_irrefl _)
theorem Z8_{ι:Type}(e:ι->D)(is:List ι):yq_ (is.map e)=is.zipIdx.map λp=>.tuple [iN p.2,e p.1]:=by
 apply List.ext_getElem
 ·simp[yq_]
 ·intro i h1 h2
  simp[yq_]
theorem zbl_{r:Rl}(w:Wf r)(hl:r.ms.length<=90000):uz_ r.d=.ret (.dict (r.ms.zipIdx.map kvN)):=by
 unfold uz_
 have e1:YB_ [.tuple (r.ms.map mD)]=some (r.ms.zipIdx.map λp=>.tuple [iN p.2,mD p.1]):=by
  show some (yq_ _)=_
  rw[Z8_]
 rw[jK_,ixT2,oMS,bdR,e1,oMS,bdR]
 refine(ux_ (e:=λp:Mt×Nat=>.tuple [iN p.2,mD p.1]) (F:=λl=>(l.map kvN,())) r.ms.zipIdx ?_).trans rfl
 intro p x t hpt kn
 dsimp only
 unfold yv_
 have c1:(bd (asI (.int 2)) λhi6=>oM (fCut (mD x.1) none hi6))=.ret (pD (x.1.1,x.1.2.1)):=by kernel_rfl
 have np:∀q∈p.map kvN,keyQ q.1 (pD (x.1.1,x.1.2.1))=false:=λq hq=>by
  obtain⟨y,hy,rfl⟩:=List.mem_map.mp hq
  rw[show keyQ (kvN y).1 _=_ from XA_ _ _,decide_eq_false_iff_not]
  intro z
  have hx':=List.mem_zipIdx_iff_getElem?.mp (show x∈r.ms.zipIdx by rw[hpt];simp)
  have hy':=List.mem_zipIdx_iff_getElem?.mp (show y∈r.ms.zipIdx by rw[hpt];simp[hy])
  have i1:=XM_ w hx'
  have i2:=XM_ w hy'
  rw[z,i1]at i2
  have hk:x.2=y.2:=by injection i2
  have nd:(r.ms.zipIdx.map (·.2)).Nodup:=by
   rw[List.zipIdx_map_snd]
   exact List.nodup_range'
  rw[hpt,List.map_append,List.map_cons]at nd
  rw[List.nodup_append]at nd
  exact nd.2.2 y.2 (List.mem_map.mpr ⟨y,hy,rfl⟩) x.2 (by simp) hk.symm
 show un2 (.tuple [iN x.2,mD x.1]) _=_
 unfold un2
 dsimp only
 have hlen:p.length<r.ms.zipIdx.length:=by rw[hpt];simp
 rw[List.length_zipIdx]at hlen
 have dp:dPut true (p.map kvN) (pD (x.1.1,x.1.2.1)) (iN x.2)=some ((p++[x]).map kvN):=by
  unfold dPut
  rw[if_pos,QU_ np,List.map_append]
  ·rfl
  ·rw[Bool.and_eq_true,zzi,zzd]
   exact⟨Up_ (x.1.1,x.1.2.1),Nat.lt_of_lt_of_le hlen (Nat.le_trans hl (by decide))⟩
 rw[c1,bdR,dp,oMS,bdR]
abbrev ld(p:Nat×List Nat):D:=.tuple [iN p.1,cT p.2]
def rooms(l:List Nat):List Nat:=(List.range l.length).filter λi=>decide (0<fl l i)
def cell(r:Rl)(l:List Nat)(a b:Nat):List (Nat×List Nat):=match idx r.ms (a,b)with
 | some k=>match r.ms[k]? with
  | some m=>if canB (fl l) m then[(k,led r.n l m)]else[]
  | none=>[]
 | none=>[]
def z7_(r:Rl)(l:List Nat):List (Nat×List Nat):=(rooms l).zipIdx.flatMap λp=>((rooms l).drop p.2).flatMap (cell r l p.1)
theorem Uu_(r:Rl)(l:List Nat)(a b:Nat):(cell r l a b).length<=1:=by
 unfold cell
 split
 ·split
  ·split<;>simp
  ·simp
 ·simp
theorem zbx_{r:Rl}{l:List Nat}{a b:Nat}{p:Nat×List Nat}(h:p∈cell r l a b):Goes r l p.1 p.2:=by
 unfold cell at h
 cases e:idx r.ms (a,b)with
 | none=>rw[e]at h;cases h
 | some k =>
  rw[e]at h
  dsimp only at h
  cases e2:r.ms[k]? with
  | none=>rw[e2]at h;cases h
  | some m =>
   rw[e2]at h
   dsimp only at h
   split at h
   ·rename_i hc
    have:p=(k,led r.n l m):=by simpa using h
    subst this
    exact⟨m,e2,hc,rfl⟩
   ·cases h
theorem ym_{r:Rl}(w:Wf r){l:List Nat}(hl:l.length=r.n){k:Nat}{c:List Nat}:(k,c)∈z7_ r l↔Goes r l k c:=by
 constructor
 ·intro h
  obtain⟨p,_,h⟩:=List.mem_flatMap.mp h
  obtain⟨b,_,h⟩:=List.mem_flatMap.mp h
  exact zbx_ h
 ·rintro⟨m,hm,hc,rfl⟩
  have ok:=w.ms m (List.mem_of_getElem? hm)
  have hab:=ok.ab
  have hb:=ok.b
  have pos:1<=fl l m.1/\1<=fl l m.2.1:=by
   unfold canB at hc
   simp only[Bool.and_eq_true,zzi]at hc
   split at hc<;>lia
  have ra:m.1∈rooms l:=List.mem_filter.mpr ⟨List.mem_range.mpr (by lia),by simpa using(show 0<fl l m.1 by lia)⟩
  have rb:m.2.1∈rooms l:=List.mem_filter.mpr ⟨List.mem_range.mpr (by lia),by simpa using(show 0<fl l m.2.1 by lia)⟩
  obtain⟨i,hi,ei⟩:=List.getElem_of_mem ra
  obtain⟨j,hj,ej⟩:=List.getElem_of_mem rb
  have so:(rooms l).Pairwise (· < ·):=List.pairwise_lt_range.filter _
  have hij:i<=j:=by
   rcases Nat.lt_or_ge j i with lt|ge
   ·have:=List.pairwise_iff_getElem.mp so j i hj hi lt
    rw[ei,ej]at this
    lia
   ·exact ge
  refine List.mem_flatMap.mpr ⟨(m.1,i),List.mem_zipIdx_iff_getElem?.mpr (by rw[List.getElem?_eq_getElem hi,ei]),List.mem_flatMap.mpr ⟨m.2.1,?_,?_⟩⟩
  ·refine List.mem_iff_getElem?.mpr ⟨j - i,?_⟩
   rw[List.getElem?_drop,show i+(j - i)=j by lia,List.getElem?_eq_getElem hj,ej]
  ·unfold cell
   rw[XM_ w hm]
   dsimp only
   rw[hm]
   dsimp only
   rw[if_pos hc]
   exact List.mem_singleton.mpr rfl
theorem V9_(l:List Nat):YB_ [cT l]=some ((List.range l.length).map λi=>.tuple [iN i,iN (fl l i)]):=by
 show some (yq_ (l.map iN))=_
 congr 1
 rw[Z8_]
 apply List.ext_getElem
 ·simp
 ·intro i h1 h2
  simp[fl,List.getD_eq_getElem?_getD,List.getElem?_eq_getElem (show i<l.length by simpa using h1)]
theorem zaT_(l:List Nat)(hl:l.length<=1000):(bd (bd (oM (YB_ [cT l])) λl6=>bd (jm_ (λd2=>un2 d2 λy3 y4=>bd (oM (opGt y4 (.int 0))) λb5=>if b5 then .ret (some y3)else .ret none) l6) fitM) λl7=>M.ret (PyData.list l7))=.ret (.list ((rooms l).map iN)):=by
 rw[V9_,oMS,bdR,Zr_ (e:=λi=>.tuple [iN i,iN (fl l i)]) (g:=λi=>if decide (0<fl l i)=true then some (iN i)else none) (List.range l.length) (λi _=>by
  show(bd (oM (opGt (iN (fl l i)) (.int 0))) λb5=>if b5=true then M.ret (some (iN i))else .ret none)=_
  rw[L4.gtI,oMS,bdR]
  have e:decide ((0:Int)<(fl l i:Int))=decide (0<fl l i):=decide_eq_decide.mpr (by lia)
  rw[e]
  split<;>rfl),bdR,jZ_,u3_,bdR]
 ·rfl
 ·rw[zzd]
  exact Nat.le_trans (List.length_filter_le _ _) (by simpa using hl)
theorem UZ_(l:List Nat):(rooms l).length<=l.length:=by
 have:=List.length_filter_le (λi=>decide (0<fl l i)) (List.range l.length)
 rw[List.length_range]at this
 exact this
section
variable {r:Rl}(w:Wf r){l:List Nat}(hl:l.length=r.n)(hn:r.n<=40)
include w hl hn
theorem zio_{a b:Nat}{acc:List (Nat×List Nat)}(ha:acc.length<=90000)(R:D)(kn10:D×D×D×D×List D×Unit->M D)(kn16:D×D×D×D×List D×D×Unit->M D) :
  j3_ kn10 (.dict (r.ms.zipIdx.map kvN)) (cT l) (.tuple (r.ms.map mD)) R (acc.map ld) (iN a) (iN b) kn16=kn16 (.dict (r.ms.zipIdx.map kvN),cT l,.tuple (r.ms.map mD),R,(acc++cell r l a b).map ld,iN a,()):=by
 unfold j3_
 rw[zch_,oMS,bdR]
 unfold cell
 cases e:idx r.ms (a,b)with
 | none =>
  show bd (bd (oM (jr_ .none .none)) _) _=_
  rw[show jr_ .none .none=some false from rfl,oMS,bdR,if_neg (by decide),bdR,if_neg (by decide),List.append_nil]
 | some k =>
  obtain⟨m,hm,_⟩:=zbS_ e
  have hk:k<r.ms.length:=(List.getElem?_eq_some_iff.mp hm).1
  have em:r.ms[k]=m:=(List.getElem?_eq_some_iff.mp hm).2
  have ok:=w.ms m (List.mem_of_getElem? hm)
  have e2:zs_ (.tuple (r.ms.map mD)) (iN k)=some (mD m):=by
   rw[jK_,show opIx (.tuple (r.ms.map mD)) (iN k)=_ from zbL_ mD r.ms k hk,em]
  show bd (bd (oM (jr_ (iN k) .none)) _) _=_
  dsimp only
  rw[hm]
  dsimp only
  rw[show jr_ (iN k) .none=some true from rfl,oMS,bdR,if_pos rfl,show(((some k).map iN).getD PyData.none)=iN k from rfl,e2,oMS,bdR,zdp_ hl ok,bdR,show truD (.bool (canB (fl l) m))=some (canB (fl l) m)from rfl,oMS,bdR]
  by_cases hc:canB (fl l) m=true
  ·rw[if_pos hc,bdR,zde_ hl ok hc,bdR,bdR,Jk_ _ _ (by rw[zzd];lia),oMS,bdR,if_pos hc,List.map_append]
   rfl
  ·rw[if_neg hc,if_neg hc,List.append_nil]
theorem V3_(hm:r.ms.length<=90000):uB_ r.d (.dict (r.ms.zipIdx.map kvN)) (cT l)=.ret (.list ((z7_ r l).map ld)):=by
 unfold uB_
 have rl:=UZ_ l
 have e1:YA_ [.list ((rooms l).map iN)]=some ((rooms l).zipIdx.map λp=>.tuple [iN p.2,iN p.1]):=by
  show some (yq_ _)=_
  rw[Z8_]
 rw[jK_,ixT2,oMS,bdR,zaT_ l (by lia),bdR,e1,oMS,bdR]
 refine(ux_ (e:=λp:Nat×Nat=>.tuple [iN p.2,iN p.1]) (F:=λps=>(PyData.dict (r.ms.zipIdx.map kvN),cT l,PyData.tuple (r.ms.map mD),PyData.list ((rooms l).map iN),(ps.flatMap λp=>((rooms l).drop p.2).flatMap (cell r l p.1)).map ld,())) (rooms l).zipIdx ?_).trans rfl
 intro p x t hpt kn
 dsimp only
 unfold yw_
 show un2 (.tuple [iN x.2,iN x.1]) _=_
 unfold un2
 dsimp only
 have cut:(bd (bd (asI (iN x.2)) λlo13=>oM (fCut (.list ((rooms l).map iN)) lo13 none)) λx14=>oM (seqD x14))=.ret (((rooms l).drop x.2).map iN):=by
  have hx:x.2<(rooms l).length:=by
   have:=List.mem_zipIdx_iff_getElem?.mp (show x∈(rooms l).zipIdx by rw[hpt];simp)
   exact(List.getElem?_eq_some_iff.mp this).1
  rw[show asI (iN x.2)=.ret (some (x.2:Int))from rfl,bdR]
  have:fCut (.list ((rooms l).map iN)) (some (x.2:Int)) none=some (.list (((rooms l).drop x.2).map iN)):=by
   show some (PyData.list (L4.cutD _ _ _))=_
   unfold L4.cutD
   have s1:HT.sIx ((rooms l).map iN).length 0 (some (x.2:Int))=x.2:=by
    unfold HT.sIx
    simp only[zzd]
    have h0:¬ ((x.2:Int)<0):=by lia
    simp[h0]
    lia
   have s2:HT.sIx ((rooms l).map iN).length ((rooms l).map iN).length none=((rooms l).map iN).length:=rfl
   rw[s1,s2,<-List.map_drop,List.take_of_length_le (by simp)]
  rw[this,oMS,bdR]
  rfl
 rw[cut,bdR]
 have pl:p.length<=40:=by
  have:p.length<(rooms l).zipIdx.length:=by rw[hpt];simp
  rw[List.length_zipIdx]at this
  lia
 have accl:(p.flatMap λq=>((rooms l).drop q.2).flatMap (cell r l q.1)).length<=40*40:=by
  have h1:=uy_ (g:=λq:Nat×Nat=>((rooms l).drop q.2).flatMap (cell r l q.1)) (B:=40) (λq=>by
   have h2:=uy_ (g:=cell r l q.1) (B:=1) (Uu_ r l q.1) ((rooms l).drop q.2)
   rw[List.length_drop]at h2
   lia) p
  exact Nat.le_trans h1 (Nat.mul_le_mul_right _ pl)
 rw[show(p.flatMap λq=>((rooms l).drop q.2).flatMap (cell r l q.1)).map ld=((p.flatMap λq=>((rooms l).drop q.2).flatMap (cell r l q.1))++([]:List Nat).flatMap (cell r l x.1)).map ld from by simp]
 refine(ux_ (e:=iN) (F:=λds=>(PyData.dict (r.ms.zipIdx.map kvN),cT l,PyData.tuple (r.ms.map mD),PyData.list ((rooms l).map iN),((p.flatMap λq=>((rooms l).drop q.2).flatMap (cell r l q.1))++ds.flatMap (cell r l x.1)).map ld,iN x.1,())) ((rooms l).drop x.2) ?_).trans ?_
 ·intro p2 b t2 hpt2 kn2
  dsimp only
  refine(zio_ w hl hn ?_ _ kn kn2).trans ?_
  ·rw[zzf]
   have h2:=uy_ (g:=cell r l x.1) (B:=1) (Uu_ r l x.1) p2
   have h3:p2.length<((rooms l).drop x.2).length:=by rw[hpt2];simp
   rw[List.length_drop]at h3
   lia
  ·rw[List.flatMap_append,List.append_assoc]
   simp
 ·dsimp only
  unfold yx_
  rw[List.flatMap_append]
  simp
end
inductive Rch(r:Rl)(s:List Nat):List Nat->Prop
 | refl:Rch r s s
 | step {c:List Nat} {k:Nat} {c':List Nat}:Rch r s c->Goes r c k c'->Rch r s c'
noncomputable def sumF(n:Nat)(f:Nat->Nat):Nat:=((List.range n).map f).sum
theorem yb_(n:Nat)(f:Nat->Nat):sumF (n+1) f=sumF n f+f n:=by
 unfold sumF
 rw[List.range_succ,List.map_append,List.sum_append]
 simp
theorem uq_(f g:Nat->Nat):∀n,sumF n (λi=>f i+g i)=sumF n f+sumF n g
 | 0=>rfl
 | n+1=>by rw[yb_,yb_,yb_,uq_ f g n];lia
theorem yc_(x:Nat):∀n,sumF n (λi=>if x=i then 1 else 0)=if x<n then 1 else 0
 | 0=>rfl
 | n+1=>by
  rw[yb_,yc_ x n]
  by_cases h:x<n
  ·rw[if_pos h,if_neg (by lia),if_pos (by lia)]
  ·by_cases e:x=n
   ·rw[if_neg h,if_pos e,if_pos (by lia)]
   ·rw[if_neg h,if_neg e,if_neg (by lia)]
theorem ZC_(n:Nat)(f:Nat->Nat):(tab n f).sum=sumF n f:=rfl
theorem zeK_{n:Nat}{l:List Nat}{m:Mt}(hl:l.length=n)(ok:MtOk n m)(hc:canB (fl l) m=true):(led n l m).sum=l.sum:=by
 have hab:=ok.ab;have hb:=ok.b;have hcc:=ok.c;have hd:=ok.d
 have e:l.sum=sumF n (fl l):=by rw[<-ZC_,Jx_ hl]
 rw[e]
 unfold led
 rw[ZC_]
 have k:=congrArg (sumF n) (funext λi=>Qn_ hc i)
 rw[uq_ (λi=>ledF (fl l) m i+if m.1=i then 1 else 0),uq_ (ledF (fl l) m),uq_ (λi=>fl l i+if m.2.2.1=i then 1 else 0),uq_ (fl l),yc_,yc_,yc_,yc_,if_pos (by lia),if_pos hb,if_pos hcc,if_pos hd]at k
 lia
theorem Goes.fit{r:Rl}(w:Wf r){c c':List Nat}{k:Nat}(g:Goes r c k c')(hl:c.length=r.n):c'.length=r.n/\c'.sum=c.sum:=by
 obtain⟨m,hm,hc,rfl⟩:=g
 exact⟨yN_ _ _ _,zeK_ hl (w.ms m (List.mem_of_getElem? hm)) hc⟩
theorem Rch.fit{r:Rl}(w:Wf r){s c:List Nat}(hl:s.length=r.n)(h:Rch r s c):c.length=r.n/\c.sum=s.sum:=by
 induction h with
 | refl=>exact⟨hl,rfl⟩
 | step _ g ih =>
  obtain⟨h1,h2⟩:=g.fit w ih.1
  exact⟨h1,h2.trans ih.2⟩
noncomputable def comps:Nat->Nat->List (List Nat)
 | 0,h=>if h=0 then[[]]else[]
 | n+1,h=>(List.range (h+1)).flatMap λa=>(comps n (h - a)).map (a :: ·)
theorem Yt_:∀(n h:Nat) (l:List Nat),l.length=n->l.sum=h->l∈comps n h
 | 0,h,[],_,e=>by
  have:h=0:=by simpa using e.symm
  subst this
  exact List.mem_singleton.mpr rfl
 | n+1,h,a::l,e1,e2=>by
  have e2:a+l.sum=h:=by simpa using e2
  refine List.mem_flatMap.mpr ⟨a,List.mem_range.mpr (by lia),List.mem_map.mpr ⟨l,Yt_ n (h - a) l (by simpa using e1) (by lia),rfl⟩⟩
theorem jW_{α:Type}[DecidableEq α]:∀{l m:List α},l.Nodup->(∀x∈l,x∈m)->l.length<=m.length
 | [],m,_,_=>Nat.zero_le _
 | a::l,m,hn,hs=>by
  rw[List.nodup_cons]at hn
  have ha:=hs a List.mem_cons_self
  have h:=jW_ (m:=m.erase a) hn.2 λx hx=>by
   have:x≠a:=λz=>hn.1 (z▸hx)
   exact(List.mem_erase_of_ne this).mpr (hs x (zzg _ hx))
  rw[List.length_erase_of_mem ha]at h
  have:0<m.length:=List.length_pos_of_mem ha
  rw[List.length_cons]
  lia
noncomputable def zJ_(F cs:List (List Nat)):List (List Nat):=cs.foldl (λacc c=>if c∈acc then acc else acc++[c]) F
theorem j7_(F cs:List (List Nat))(c:List Nat):zJ_ F (c::cs)=zJ_ (if c∈F then F else F++[c]) cs:=rfl
theorem yZ_:∀(cs F:List (List Nat)),∃E,zJ_ F cs=F++E
 | [],F=>⟨[],(List.append_nil _).symm⟩
 | c::cs,F=>by
  rw[j7_]
  obtain⟨E,e⟩:=yZ_ cs (if c∈F then F else F++[c])
  rw[e]
  split
  ·exact⟨E,rfl⟩
  ·exact⟨c::E,by simp⟩
theorem Zc_:∀(cs F:List (List Nat)),F.Nodup->(zJ_ F cs).Nodup
 | [],F,h=>h
 | c::cs,F,h=>by
  rw[j7_]
  refine Zc_ cs _ ?_
  split
  ·exact h
  ·rename_i hc
   rw[List.nodup_append]
   exact⟨h,by simp,λa ha b hb=>by rw[List.mem_singleton.mp hb];exact λz=>hc (z▸ha)⟩
theorem jJ_:∀(cs F:List (List Nat)) (x:List Nat),x∈zJ_ F cs↔x∈F\/x∈cs
 | [],F,x=>by simp[zJ_]
 | c::cs,F,x=>by
  rw[j7_,jJ_ cs]
  split
  ·rename_i hc
   rw[List.mem_cons]
   constructor
   ·rintro(h|h)
    ·exact .inl h
    ·exact .inr (.inr h)
   ·rintro(h|h|h)
    ·exact .inl h
    ·exact .inl (h▸hc)
    ·exact .inr h
  ·rw[List.mem_append,List.mem_singleton,List.mem_cons]
   constructor
   ·rintro((h|h)|h)
    ·exact .inl h
    ·exact .inr (.inl h)
    ·exact .inr (.inr h)
   ·rintro(h|h|h)
    ·exact .inl (.inl h)
    ·exact .inl (.inr h)
    ·exact .inr h
noncomputable def kyT(l:List Nat):List Key:=l.map λn:Nat=>.inl (n:Int)
theorem zai_(l:List Nat):cT l=keyT (kyT l):=by
 unfold keyT kyT
 rw[List.map_map]
 rfl
theorem Xy_:∀{l l':List Nat},kyT l=kyT l'↔l=l'
 | [],[]=>by simp
 | [],_::_=>by simp[kyT]
 | _::_,[]=>by simp[kyT]
 | a::l,b::l'=>by
  have ih:=Xy_ (l:=l) (l':=l')
  unfold kyT at ih ⊢
  rw[List.map_cons,List.map_cons,List.cons.injEq,List.cons.injEq,ih]
  constructor
  ·rintro⟨h,h2⟩
   injection h with h
   exact⟨by lia,h2⟩
  ·rintro⟨rfl,h2⟩
   exact⟨rfl,h2⟩
theorem XB_(l l':List Nat):keyQ (cT l) (cT l')=decide (l=l'):=by
 rw[zai_,zai_,XC_]
 exact decide_eq_decide.mpr Xy_
theorem uw_(l:List Nat):ji_ (cT l)=true:=by rw[zai_];exact zbN_ _
abbrev kE(v:List Nat->D)(c:List Nat):D×D:=(cT c,v c)
section
variable (v:List Nat->D)
theorem Va_(F:List (List Nat))(c:List Nat):keyOk (F.map (kE v)) (cT c)=true:=by
 unfold keyOk
 rw[Bool.or_eq_true]
 left
 rw[Bool.and_eq_true,List.all_eq_true]
 refine⟨uw_ c,λx hx=>?_⟩
 obtain⟨q,_,rfl⟩:=List.mem_map.mp hx
 exact uw_ _
theorem Qw_(c:List Nat):∀F:List (List Nat),getE (F.map (kE v)) (cT c)=if c∈F then some (v c)else none
 | []=>rfl
 | q::F=>by
  have ih:=Qw_ c F
  unfold getE at ih ⊢
  rw[List.map_cons,List.find?_cons,show keyQ (kE v q).1 (cT c)=_ from XB_ q c]
  by_cases e:q=c
  ·subst e
   rw[decide_eq_true rfl,if_pos List.mem_cons_self]
   rfl
  ·rw[decide_eq_false e]
   dsimp only
   rw[ih]
   by_cases h:c∈F
   ·rw[if_pos h,if_pos (zzg _ h)]
   ·rw[if_neg h,if_neg (λz=>by rcases List.mem_cons.mp z with z|z;exact e z.symm;exact h z)]
theorem Zm_(F:List (List Nat))(c:List Nat):zV_ (cT c) (.dict (F.map (kE v)))=some (!decide (c∈F)):=by
 show(if keyOk (F.map (kE v)) (cT c)then some (!(getE (F.map (kE v)) (cT c)).isSome)else none)=_
 rw[if_pos (Va_ v F c),Qw_]
 by_cases h:c∈F
 ·rw[if_pos h,decide_eq_true h];rfl
 ·rw[if_neg h,decide_eq_false h];rfl
theorem WU_{F:List (List Nat)}{c:List Nat}(h:c∉F)(hl:F.length<=90000):dPut true (F.map (kE v)) (cT c) (v c)=some ((F++[c]).map (kE v)):=by
 unfold dPut
 rw[if_pos,QU_,List.map_append]
 ·rfl
 ·intro p hp
  obtain⟨q,hq,rfl⟩:=List.mem_map.mp hp
  rw[show keyQ (kE v q).1 (cT c)=_ from XB_ q c,decide_eq_false_iff_not]
  exact λz=>h (z▸hq)
 ·rw[Bool.and_eq_true,zzi,zzd]
  exact⟨uw_ c,Nat.lt_of_le_of_lt hl (by decide)⟩
theorem zbK_{F:List (List Nat)}{c:List Nat}(h:c∈F):zs_ (.dict (F.map (kE v))) (cT c)=some (v c):=by
 show(if keyOk (F.map (kE v)) (cT c)then getE (F.map (kE v)) (cT c)else none)=_
 rw[if_pos (Va_ v F c),Qw_,if_pos h]
theorem XJ_(F:List (List Nat)):isXe (F.map (kE v))=false:=by cases F<;>rfl
theorem zeR_(F:List (List Nat)):(F.map (kE v)).map (·.1)=F.map cT:=by rw[List.map_map];rfl
theorem Qm_(F:List (List Nat)):X1_ [.dict (F.map (kE v))]=some (iN F.length):=by
 show(if isXe (F.map (kE v))then none else some (PyData.int ((F.map (kE v)).length:Int)))=_
 rw[XJ_,if_neg (by decide),zzd]
end
theorem WF_{F:List (List Nat)}(h:∀l∈F,l≠[]):jp_ (F.map cT)=true:=by
 unfold jp_
 rw[Bool.or_eq_true]
 right
 rw[List.all_eq_true]
 intro d hd
 obtain⟨l,hl,rfl⟩:=List.mem_map.mp hd
 have:∀l:List Nat,intsOf (l.map iN)=some (l.map λn:Nat=>(n:Int)):=by
  intro l
  induction l with
  | nil=>rfl
  | cons a l ih=>rw[List.map_cons,intsOf,ih];rfl
 have hne:=h l hl
 unfold Vb_
 dsimp only
 rw[this]
 cases l with
 | nil=>exact absurd rfl hne
 | cons a l=>rfl
noncomputable abbrev Wz_:Ex:=⟨"TooMany",[]⟩
noncomputable abbrev vT:List Nat->D:=λ_=>.bool true
abbrev vL(r:Rl):List Nat->D:=λc=>.list ((z7_ r c).map ld)
abbrev prs(r:Rl):D:=.dict (r.ms.zipIdx.map kvN)
theorem ld1(p:Nat×List Nat):zs_ (ld p) (.int 1)=some (cT p.2):=by rw[jK_,ixT1]
theorem zfa_{F:List (List Nat)}(hl:F.length<=90000)(R lim P:D)(L:List (D×D))(p:Nat×List Nat)(kn2 kn:D×D×D×List (D×D)×List (D×D)×List D×Unit->M D) :
  ju_ kn2 R lim P L (F.map (kE vT)) (F.map cT) (ld p) kn=kn (R,lim,P,L,(zJ_ F [p.2]).map (kE vT),(zJ_ F [p.2]).map cT,()):=by
 unfold ju_
 rw[ld1,oMS,bdR,Zm_,oMS,bdR]
 have e:zJ_ F [p.2]=if p.2∈F then F else F++[p.2]:=rfl
 by_cases h:p.2∈F
 ·rw[decide_eq_true h,if_neg (by decide),e,if_pos h]
 ·rw[decide_eq_false h,if_pos (show(!false)=true from rfl),bdR,WU_ vT h hl,oMS,bdR,bdR,Jk_ _ _ (by rw[zzd];lia),oMS,bdR,e,if_neg h,List.map_append,List.map_append]
  rfl
noncomputable abbrev VI_(r:Rl):D×D×D×List (D×D)×List (D×D)×List D×Unit->(D×D×D×List (D×D)×List (D×D)×List D×Unit->M D)->M D:=λs23 kn=>zz_ s23.1 s23.2.1 s23.2.2.1 s23.2.2.2.1 s23.2.2.2.2.1 s23.2.2.2.2.2.1 kn
section
variable {r:Rl}(w:Wf r)(hn:r.n<=40)(hm:r.ms.length<=2000)
include w hn hm
theorem zdH_{F:List (List Nat)}{i limit:Nat}(hi:i<F.length)(hF:F.length<=1000)(hlim:F.length<=limit)(nd:F.Nodup)(fit:∀c∈F,c.length=r.n)(kn:D×D×D×List (D×D)×List (D×D)×List D×Unit->M D) :
  zz_ r.d (iN limit) (prs r) ((F.take i).map (kE (vL r))) (F.map (kE vT)) (F.map cT) kn=kn (r.d,iN limit,prs r,(F.take (i+1)).map (kE (vL r)),(zJ_ F ((z7_ r F[i]).map (·.2))).map (kE vT),(zJ_ F ((z7_ r F[i]).map (·.2))).map cT,()):=by
 have hc:=fit F[i] (List.getElem_mem hi)
 have t1:(F.take i).length=i:=by rw[List.length_take];lia
 have nin:F[i]∉F.take i:=λz=>by
  obtain⟨j,hj,e⟩:=List.getElem_of_mem z
  rw[List.getElem_take]at e
  have hj':j<i:=by rw[t1]at hj;exact hj
  exact absurd (List.pairwise_iff_getElem.mp nd j i (by lia) hi hj') (by rw[e];exact λz=>z rfl)
 have tk:F.take i++[F[i]]=F.take (i+1):=List.take_append_getElem hi
 have ll:fLen [.list (F.map cT)]=some (iN F.length):=by rw[L4.lenL,zzd]
 have g1:Yd_ (iN (F.take i).length) (iN F.length)=some true:=by
  show opLt (.int _) (.int _)=_
  rw[L4.ltI,decide_eq_true (by rw[t1];lia)]
 have g2:opGt (iN F.length) (iN limit)=some false:=by rw[L4.gtI,decide_eq_false (by lia)]
 have ix:zs_ (.list (F.map cT)) (iN (F.take i).length)=some (cT F[i]):=by
  rw[t1,Uo_,show opIx (.list (F.map cT)) (iN i)=_ from zbM_ cT F i hi]
 unfold zz_
 rw[Qm_,ll,oMS,oMS,bdR,bdR,g1,oMS,bdR,if_pos rfl,bdR,g2,oMS,bdR,if_neg (by decide),bdR,ix,oMS,bdR,V3_ w hc hn (by lia),bdR,WU_ (vL r) nin (by lia),oMS,bdR,tk,zbK_ (vL r) (tk▸List.mem_append_right _ (List.mem_singleton.mpr rfl)),oMS,bdR,show seqD (vL r F[i])=some ((z7_ r F[i]).map ld)from rfl,oMS,bdR]
 have h0:zJ_ F (([]:List (Nat×List Nat)).map (·.2))=F:=rfl
 refine(ux_ (e:=ld) (F:=λps=>(r.d,iN limit,prs r,(F.take (i+1)).map (kE (vL r)),(zJ_ F (ps.map (·.2))).map (kE vT),(zJ_ F (ps.map (·.2))).map cT,())) (z7_ r F[i]) ?_).trans rfl
 intro p x t hpt kn'
 dsimp only
 have hlen:(zJ_ F (p.map (·.2))).length<=90000:=by
  have h1:∀(cs G:List (List Nat)),(zJ_ G cs).length<=G.length+cs.length:=by
   intro cs
   induction cs with
   | nil=>intro G;simp[zJ_]
   | cons c cs ih =>
    intro G
    rw[j7_]
    refine Nat.le_trans (ih _) ?_
    split<;>simp<;>lia
  have h2:=h1 (p.map (·.2)) F
  have h3:p.length<=(z7_ r F[i]).length:=by rw[hpt];simp
  have h4:(z7_ r F[i]).length<=40*40:=by
   have rl:=UZ_ F[i]
   unfold z7_
   refine Nat.le_trans (uy_ (g:=λq:Nat×Nat=>((rooms F[i]).drop q.2).flatMap (cell r F[i] q.1)) (B:=40) (λq=>?_) _) (Nat.mul_le_mul_right _ (by rw[List.length_zipIdx];lia))
   have h5:=uy_ (g:=cell r F[i] q.1) (B:=1) (Uu_ r F[i] q.1) ((rooms F[i]).drop q.2)
   rw[List.length_drop]at h5
   lia
  rw[zzd]at h2
  lia
 refine(zfa_ hlen _ _ _ _ x _ _).trans ?_
 rw[List.map_append,show zJ_ F (p.map (·.2)++[x].map (·.2))=zJ_ (zJ_ F (p.map (·.2))) [x.2]from by unfold zJ_;rw[List.foldl_append];rfl]
theorem zfR_{c0:List Nat}{R:List (List Nat)}(hc0:c0.length=r.n)(hR:R.Nodup)(mem:∀c,c∈R↔Rch r c0 c)(hB:R.length<=900)(limit:Nat) :
  ∀(fuel i:Nat) (F:List (List Nat)),F.Nodup->(∀c∈F,c∈R)->c0∈F->i<=F.length->(∀(j:Nat) (h:j<F.length),j<i->∀k c,Goes r F[j] k c->c∈F)->(F.length<=limit\/i<F.length)->R.length<fuel+i ->
   (R.length<=limit/\∃F':List (List Nat),F'.Perm R/\zP_ (VI_ r) fuel (r.d,iN limit,prs r,(F.take i).map (kE (vL r)),F.map (kE vT),F.map cT,())=.ret (.dict (F'.map (kE (vL r))))) \/
   (limit<R.length/\zP_ (VI_ r) fuel (r.d,iN limit,prs r,(F.take i).map (kE (vL r)),F.map (kE vT),F.map cT,())=.exc Wz_)
:=by
 intro fuel
 induction fuel with
 | zero =>
  intro i F nd sub _ hi _ _ hf
  have:=jW_ nd sub
  lia
 | succ fuel ih0 =>
  intro i F nd sub h0 hi cl hj hf
  have hle:=jW_ nd sub
  have fit:∀c∈F,c.length=r.n:=λc hc=>(((mem c).mp (sub c hc)).fit w hc0).1
  rw[zP_]
  by_cases hlt:i<F.length
  ·by_cases hlim:F.length<=limit
   ·have st:VI_ r (r.d,iN limit,prs r,(F.take i).map (kE (vL r)),F.map (kE vT),F.map cT,()) (λs'=>zP_ (VI_ r) fuel s')=zP_ (VI_ r) fuel (r.d,iN limit,prs r,((zJ_ F ((z7_ r F[i]).map (·.2))).take (i+1)).map (kE (vL r)),(zJ_ F ((z7_ r F[i]).map (·.2))).map (kE vT),(zJ_ F ((z7_ r F[i]).map (·.2))).map cT,()):=by
     refine(zdH_ w hn hm hlt (by lia) hlim nd fit _).trans ?_
     obtain⟨E,e⟩:=yZ_ ((z7_ r F[i]).map (·.2)) F
     have:(zJ_ F ((z7_ r F[i]).map (·.2))).take (i+1)=F.take (i+1):=by rw[e,List.take_append_of_le_length (by lia)]
     rw[this]
    rw[st]
    have rF:∀c∈F,Rch r c0 c:=λc hc=>(mem c).mp (sub c hc)
    have sub':∀c∈zJ_ F ((z7_ r F[i]).map (·.2)),c∈R:=λc hc=>by
     rcases(jJ_ _ _ _).mp hc with h|h
     ·exact sub c h
     ·obtain⟨p,hp,rfl⟩:=List.mem_map.mp h
      exact(mem _).mpr (.step (rF F[i] (List.getElem_mem hlt)) ((ym_ w (fit _ (List.getElem_mem hlt))).mp hp))
    obtain⟨E,e⟩:=yZ_ ((z7_ r F[i]).map (·.2)) F
    have len':F.length<=(zJ_ F ((z7_ r F[i]).map (·.2))).length:=by rw[e,zzf];lia
    have at':∀(j:Nat) (h:j<F.length) (h':j<(zJ_ F ((z7_ r F[i]).map (·.2))).length),(zJ_ F ((z7_ r F[i]).map (·.2)))[j]=F[j]:=λj h h'=>by
     simp only[e]
     exact List.getElem_append_left h
    refine ih0 (i+1) _ (Zc_ _ _ nd) sub' ((jJ_ _ _ _).mpr (.inl h0)) (by lia) (λj h hji k c g=>?_) ?_ (by lia)
    ·rw[at' j (by lia) h]at g
     rcases Nat.lt_or_ge j i with lt|ge
     ·exact(jJ_ _ _ _).mpr (.inl (cl j (by lia) lt k c g))
     ·have:j=i:=by lia
      subst this
      exact(jJ_ _ _ _).mpr (.inr (List.mem_map.mpr ⟨(k,c),(ym_ w (fit _ (List.getElem_mem hlt))).mpr g,rfl⟩))
    ·by_cases z:(zJ_ F ((z7_ r F[i]).map (·.2))).length<=limit
     ·exact .inl z
     ·exact .inr (by lia)
   ·right
    have ll:fLen [.list (F.map cT)]=some (iN F.length):=by rw[L4.lenL,zzd]
    have g1:Yd_ (iN (F.take i).length) (iN F.length)=some true:=by
     show opLt (.int _) (.int _)=_
     rw[L4.ltI,decide_eq_true (by rw[List.length_take];lia)]
    have g2:opGt (iN F.length) (iN limit)=some true:=by rw[L4.gtI,decide_eq_true (by lia)]
    refine⟨by lia,?_⟩
    show zz_ r.d (iN limit) (prs r) ((F.take i).map (kE (vL r))) (F.map (kE vT)) (F.map cT) _=_
    unfold zz_
    rw[Qm_,ll,oMS,oMS,bdR,bdR,g1,oMS,bdR,if_pos rfl,bdR,g2,oMS,bdR,if_pos rfl]
  ·left
   have hiF:i=F.length:=by lia
   have all:∀c,Rch r c0 c->c∈F:=λc hc=>by
    induction hc with
    | refl=>exact h0
    | step _ g ih =>
     obtain⟨j,hj,e⟩:=List.getElem_of_mem ih
     exact cl j hj (by lia) _ _ (e▸g)
   have pm:F.Perm R:=(List.perm_ext_iff_of_nodup nd hR).mpr λc=>⟨sub c,λh=>all c ((mem c).mp h)⟩
   have ll:fLen [.list (F.map cT)]=some (iN F.length):=by rw[L4.lenL,zzd]
   have g1:Yd_ (iN (F.take i).length) (iN F.length)=some false:=by
    show opLt (.int _) (.int _)=_
    rw[L4.ltI,decide_eq_false (by rw[List.length_take];lia)]
   refine⟨by have:=pm.length_eq;lia,F,pm,?_⟩
   show zz_ r.d (iN limit) (prs r) ((F.take i).map (kE (vL r))) (F.map (kE vT)) (F.map cT) _=_
   unfold zz_
   rw[Qm_,ll,oMS,oMS,bdR,bdR,g1,oMS,bdR,if_neg (by decide)]
   unfold um_
   rw[hiF,List.take_length]
theorem XR_{c0:List Nat}{R:List (List Nat)}(hc0:c0.length=r.n)(hR:R.Nodup)(mem:∀c,c∈R↔Rch r c0 c)(hB:R.length<=900)(limit:Nat) :
  (R.length<=limit/\∃F:List (List Nat),F.Perm R/\zM_ r.d (cT c0) (iN limit)=.ret (.dict (F.map (kE (vL r)))))\/(limit<R.length/\zM_ r.d (cT c0) (iN limit)=.exc Wz_):=by
 have e:zM_ r.d (cT c0) (iN limit)=zP_ (VI_ r) 10000 (r.d,iN limit,prs r,(([c0]:List (List Nat)).take 0).map (kE (vL r)),([c0]:List (List Nat)).map (kE vT),([c0]:List (List Nat)).map cT,()):=by
  unfold zM_
  rw[zbl_ w (by lia),bdR]
  unfold yi_
  rw[uw_]
  dsimp only
  rw[ya_]
  rfl
 rw[e]
 refine zfR_ w hn hm hc0 hR mem hB limit 10000 0 [c0] (by simp) (λc hc=>?_) (List.mem_singleton.mpr rfl) (Nat.zero_le _) (λj h z=>absurd z (Nat.not_lt_zero _)) (.inr (by simp)) (by lia)
 rw[List.mem_singleton.mp hc]
 exact(mem _).mpr .refl
end
theorem Wu_(i l h:Int):j5_ (.int i) (.int l) (.int h)=.ret (.bool (decide (l<=i)&&decide (i<=h))):=by
 unfold j5_ yU_
 have t1:isTo "int" (.int i)=some true:=id rfl
 have t2:isTo "bool" (.int i)=some false:=id rfl
 simp only[t1,t2,if_true,bdR,oMS,L4.asB_b,L4.leA,Bool.not_false,L4.iteB,Bool.true_and]
theorem zdR_{r:Rl}(w:Wf r)(f:Nat->Nat)(hn:r.n<=1000):y9_ r.d (.tuple (tabD r.n f))=.ret (zaQ_ (((List.range r.n).filter λi=>decide (0<f i)).map λi=>r.sy.getD i false)):=by
 unfold y9_
 have ez:zipD (r.sy.map PyData.bool) (tabD r.n f)=(List.range r.n).map λi=>.tuple [.bool (r.sy.getD i false),iN (f i)]:=by
  unfold zipD
  apply List.ext_getElem
  ·simp[zD_,w.sy]
  ·intro i h1 h2
   have hi:i<r.n:=by simpa using h2
   have hi':i<r.sy.length:=by rw[w.sy];exact hi
   have ht:(tab r.n f)[i]'(by rw[zD_];exact hi)=f i:=by
    have:=QN_ (f:=f) hi
    rw[List.getElem?_eq_getElem (by rw[zD_];exact hi)]at this
    exact Option.some.inj this
   rw[List.getElem_zipWith,List.getElem_map,List.getElem_map,List.getElem_map,List.getElem_range,ht,List.getD_eq_getElem?_getD,List.getElem?_eq_getElem hi']
   rfl
 rw[jK_,ixT3,oMS,bdR,XZ_,oMS,bdR,ez,Zr_ (g:=λi=>if decide (0<f i)then some (.bool (r.sy.getD i false))else none) (List.range r.n) (by
  intro i hi
  have u2:∀(k:D->D->M (Option D)),un2 (.tuple [.bool (r.sy.getD i false),iN (f i)]) k=k (.bool (r.sy.getD i false)) (iN (f i)):=λk=>id rfl
  rw[u2,gtI,oMS,bdR]
  by_cases h:0<f i
  ·rw[if_pos (by simpa using h),if_pos (by simpa using h)]
  ·rw[if_neg (by simpa using h),if_neg (by simpa using h)]),bdR]
 have e2:((List.range r.n).filterMap λi=>if decide (0<f i)=true then some (PyData.bool (r.sy.getD i false))else none)=(((List.range r.n).filter λi=>decide (0<f i)).map λi=>r.sy.getD i false).map PyData.bool:=by
  induction List.range r.n with
  | nil=>rfl
  | cons p l ih =>
   rw[List.filterMap_cons,List.filter_cons]
   by_cases h:0<f p
   ·simp[h]
    simpa using ih
   ·simp[h]
    simpa using ih
 rw[e2,u3_ (by
  rw[zzd,zzd]
  exact Nat.le_trans (List.length_filter_le _ _) (by simpa using hn)),bdR,bdR,L4.allB,oMS,bdR]
 unfold zaQ_
 cases (List.all _ id)
 ·rw[if_neg (by decide),if_neg (by decide),L4.anyB,oMS,bdR]
  cases (List.any _ id)<;>rfl
 ·rfl
theorem canB_iff{f:Nat->Nat}{m:Mt}:canB f m=true↔1<=f m.1/\1<=up f m.1 (f m.1 - 1) m.2.1:=by
 refine⟨Uv_,λh=>?_⟩
 unfold canB
 unfold up at h
 simp only[Bool.and_eq_true,zzi]
 by_cases e:m.1=m.2.1
 ·rw[if_pos e.symm]at h
  rw[if_pos e,<-e]
  lia
 ·rw[if_neg (λz=>e z.symm)]at h
  rw[if_neg e]
  exact h
theorem Zw_{n:Nat}{f:Nat->Nat}{m:Mt}{x:Nat}(k:Nat)(v:Int)(hx:x<n)(hk:opIx (mD m) (iN k)=some (iN x))(hv:opIx (.list [.int (-1),.int (-1),.int 1,.int 1]) (iN k)=some (.int v))(kn:D×List D×Unit->M D) :
  jg_ (mD m) (tabD n f) (iN k) kn=if((f x:Nat):Int)+v<0 then .ret .none else kn (mD m,tabD n (up f x (((f x:Nat):Int)+v).toNat),()):=by
 have n1:Jn_ (.int 1)=some (.int (-1)):=id rfl
 have ad:∀a b:Int,y2_ (.int a) (.int b)=some (.int (a+b)):=λa b=>id rfl
 unfold jg_
 rw[jK_,hk,oMS,bdR,ZD_ hx,oMS,bdR,n1,oMS,bdR,bdR,bdR,bdR,Uo_,hv,oMS,bdR,ad,oMS,bdR]
 by_cases c:((f x:Nat):Int)+v<0
 ·rw[if_pos c]
  have hp:putD (tabD n f) (iN x) (.int ((f x:Nat)+v))=some ((tabD n f).set x (.int ((f x:Nat)+v))):=by
   unfold putD
   dsimp only
   rw[zzd,zD_,Qt_ hx]
   rfl
  have hg:opIx (.list ((tabD n f).set x (.int ((f x:Nat)+v)))) (iN x)=some (.int ((f x:Nat)+v)):=by
   rw[show iN x=PyData.int (x:Int)from rfl]
   have:=ixTn ((tabD n f).set x (.int ((f x:Nat)+v))) x (by simp[zD_];exact hx)
   refine(show opIx (.list ((tabD n f).set x (.int ((f x:Nat)+v)))) (.int (x:Int))=opIx (.tuple ((tabD n f).set x (.int ((f x:Nat)+v)))) (.int (x:Int))from id rfl).trans (this.trans ?_)
   simp
  rw[hp,oMS,bdR,bdR,Uo_,hg,oMS,bdR,ltA,decide_eq_true c,oMS,bdR,if_pos rfl]
 ·rw[if_neg c]
  obtain⟨z,hz⟩:=Int.eq_ofNat_of_zero_le (show 0<=((f x:Nat):Int)+v by lia)
  rw[hz]
  rw[Y1_ _ hx,oMS,bdR,bdR,Uo_,ZD_ hx,oMS,bdR,ltA,oMS,bdR,if_neg (by simp)]
  rfl
theorem zeL_(f:Nat->Nat)(m:Mt):ledF f m=(let f1:=up f m.1 (f m.1 - 1);let f2:=up f1 m.2.1 (f1 m.2.1 - 1);let f3:=up f2 m.2.2.1 (f2 m.2.2.1+1);up f3 m.2.2.2 (f3 m.2.2.2+1)):=id rfl
theorem YU_{n:Nat}{f:Nat->Nat}{m:Mt}(h:MtOk n m):zW_ (.tuple (tabD n f)) (mD m)=.ret (if canB f m=true then .tuple (tabD n (ledF f m))else .none):=by
 have hb:=h.b;have hab:=h.ab;have hcc:=h.c;have hd:=h.d
 have l1:uP_ [.tuple (tabD n f)]=some (tabD n f):=id rfl
 have r4:z0_ [.int 4]=some [iN 0,iN 1,iN 2,iN 3]:=id rfl
 have m0:opIx (mD m) (iN 0)=some (iN m.1):=id rfl
 have m1:opIx (mD m) (iN 1)=some (iN m.2.1):=id rfl
 have m2:opIx (mD m) (iN 2)=some (iN m.2.2.1):=id rfl
 have m3:opIx (mD m) (iN 3)=some (iN m.2.2.2):=id rfl
 unfold zW_
 rw[l1,oMS,bdR,r4,oMS,bdR,u2_,forC]
 refine(Zw_ 0 (-1) (show m.1<n by lia) m0 rfl _).trans ?_
 by_cases c1:1<=f m.1
 ·rw[if_neg (by lia),show((f m.1:Nat)+(-1:Int)).toNat=f m.1 - 1 by lia,forC]
  refine(Zw_ 1 (-1) hb m1 rfl _).trans ?_
  by_cases c2:1<=up f m.1 (f m.1 - 1) m.2.1
  ·rw[if_neg (by lia),show((up f m.1 (f m.1 - 1) m.2.1:Nat)+(-1:Int)).toNat=up f m.1 (f m.1 - 1) m.2.1 - 1 by lia,forC]
   refine(Zw_ 2 1 hcc m2 rfl _).trans ?_
   rw[if_neg (by lia),forC]
   refine(Zw_ 3 1 hd m3 rfl _).trans ?_
   rw[if_neg (by lia),forC,if_pos (canB_iff.mpr ⟨c1,c2⟩)]
   show jh_ _ _=_
   unfold jh_
   rw[tupL,oMS,bdR,zeL_]
   rfl
  ·rw[if_pos (by lia),if_neg (λz=>c2 (canB_iff.mp z).2)]
 ·rw[if_pos (by lia),if_neg (λz=>c1 (canB_iff.mp z).1)]
noncomputable abbrev mz:Mt:=(0,0,0,0)
def canL(f:Nat->Nat)(ms:List Mt):List Nat:=(List.range ms.length).filter λk=>canB f (ms.getD k mz)
theorem Qx_{ms:List Mt}{k:Nat}{m:Mt}(h:ms[k]? = some m):ms.getD k mz=m:=by
 rw[List.getD_eq_getElem?_getD,h];rfl
theorem mem_canL{f:Nat->Nat}{ms:List Mt}{k:Nat}:k∈canL f ms↔∃m,ms[k]? = some m/\canB f m=true:=by
 unfold canL
 rw[List.mem_filter,List.mem_range]
 constructor
 ·rintro⟨h1,h2⟩
  exact⟨ms[k],List.getElem?_eq_getElem h1,by rw[Qx_ (List.getElem?_eq_getElem h1)]at h2;exact h2⟩
 ·rintro⟨m,h1,h2⟩
  exact⟨(List.getElem?_eq_some_iff.mp h1).1,by rw[Qx_ h1];exact h2⟩
theorem ziJ_{r:Rl}(w:Wf r){k:Nat}(hk:k<r.ms.length):MtOk r.n (r.ms.getD k mz):=by
 rw[Qx_ (List.getElem?_eq_getElem hk)]
 exact w.ms _ (List.getElem_mem _)
theorem Xv_{r:Rl}(w:Wf r)(f:Nat->Nat)(hl:r.ms.length<=10000):jO_ r.d (.tuple (tabD r.n f))=.ret (.list ((canL f r.ms).map iN)):=by
 unfold jO_
 rw[jK_,ixT2,oMS,bdR,lenT,zzd,oMS,bdR,uX_ _ (by lia),oMS,bdR]
 rw[Zr_ (e:=iN) (g:=λk=>if canB f (r.ms.getD k mz)then some (iN k)else none) (List.range r.ms.length) (by
  intro k hk
  have hk:=List.mem_range.mp hk
  rw[bdR,jK_,ziO_ mD r.ms k mz hk,oMS,bdR,YU_ (ziJ_ w hk),bdR]
  by_cases c:canB f (r.ms.getD k mz)=true
  ·rw[if_pos c,if_pos c];rfl
  ·rw[if_neg c,if_neg c];rfl),bdR,jZ_,zbW_ (by
  rw[zzd]
  refine Nat.le_trans (List.length_filter_le _ _) ?_
  rw[List.length_range];lia),bdR,bdR]
 rfl
inductive Pth(r:Rl):List Nat->List Nat->List Nat->Prop
 | nil (c:List Nat):Pth r c [] c
 | cons {c c1 c':List Nat} {k:Nat} {ks:List Nat}:Goes r c k c1->Pth r c1 ks c'->Pth r c (k::ks) c'
theorem Pth.snoc{r:Rl}{c c1 c':List Nat}{k:Nat}{ks:List Nat}(h:Pth r c ks c1)(g:Goes r c1 k c'):Pth r c (ks++[k]) c':=by
 induction h with
 | nil c=>exact .cons g (.nil _)
 | cons a _ ih=>exact .cons a (ih g)
theorem Pth.rch{r:Rl}{s c c':List Nat}{ks:List Nat}(h:Pth r c ks c')(q:Rch r s c):Rch r s c':=by
 induction h with
 | nil c=>exact q
 | cons a _ ih=>exact ih (.step q a)
theorem zam_(cs:List D)(x:D):zs_ (.list (cs++[x])) (.int (-1))=some x:=by
 rw[Uo_]
 show atI (cs++[x]) (-1)=_
 unfold atI L2.ixN
 rw[if_neg (by lia),zzf,List.length_cons,List.length_nil,if_pos (by lia)]
 have e:(-1+(((cs.length:Nat):Int)+1)).toNat=cs.length:=by lia
 simp[e]
section
variable {r:Rl}(w:Wf r)
include w
theorem zer_{c c':List Nat}{ks:List Nat}(p:Pth r c ks c'):∀(cs:List D),c.length=r.n->cs.length+ks.length<=90000 ->
  ∃cs':List D,cs'.length=cs.length+ks.length/\forC (S:=D) (λ(s18:D×List D×Unit) d19 kn=>j2_ s18.1 s18.2.1 d19 kn) (ks.map iN) (PyData.tuple (r.ms.map mD),cs++[cT c],()) (λs18=>Je_ s18.1 s18.2.1)=.ret (.list (cs'++[cT c'])):=by
 induction p with
 | nil c=>exact λcs _ _=>⟨cs,rfl,rfl⟩
 | @cons c c1 c' k ks g p ih =>
  intro cs hc hl
  obtain⟨m,hm,hcan,rfl⟩:=g
  have hk:k<r.ms.length:=(List.getElem?_eq_some_iff.mp hm).1
  have em:r.ms[k]=m:=(List.getElem?_eq_some_iff.mp hm).2
  have ok:=w.ms m (List.mem_of_getElem? hm)
  rw[List.length_cons]at hl
  obtain⟨cs',h1,h2⟩:=ih (cs++[cT c]) (yN_ _ _ _) (by rw[zzf];simp;lia)
  refine⟨cs',by rw[h1,zzf,List.length_cons];simp;lia,?_⟩
  rw[List.map_cons,forC]
  refine Eq.trans ?_ h2
  show j2_ (.tuple (r.ms.map mD)) (cs++[cT c]) (iN k) _=_
  unfold j2_
  have n1:Jn_ (.int 1)=some (.int (-1)):=id rfl
  have sw:(decide ((0:Int)<=(k:Int))&&decide ((k:Int)<=(r.ms.length:Int) - 1))=true:=by
   rw[Bool.and_eq_true,zzi,zzi];lia
  have im:zs_ (.tuple (r.ms.map mD)) (iN k)=some (mD m):=by
   rw[jK_,show opIx (.tuple (r.ms.map mD)) (iN k)=_ from zbL_ mD r.ms k hk,em]
  rw[n1,oMS,bdR,zam_,oMS,bdR,lenT,zzd,oMS,bdR,subI,oMS,bdR,Wu_,sw,bdR,zfH_,oMS,bdR,bdR,if_neg (by decide),im,oMS,bdR,zdp_ hc ok,hcan,bdR,zfH_,oMS,bdR,bdR,if_neg (by decide),bdR,zde_ hc ok hcan,bdR,Jk_ _ _ (by rw[zzf];simp;lia),oMS,bdR]
theorem UL_{c c':List Nat}{ks:List Nat}(p:Pth r c ks c')(hc:c.length=r.n)(hl:ks.length<=80000):yt_ r.d (cT c) (.list (ks.map iN))=.ret (cT c'):=by
 obtain⟨cs,h1,h2⟩:=zer_ w p [] hc (by simpa using Nat.le_trans hl (by decide))
 have pa:Zv_ r.d (cT c) (.list (ks.map iN))=.ret (.list (cs++[cT c'])):=by
  unfold Zv_
  rw[jK_,ixT2,oMS,bdR,show seqD (.list (ks.map iN))=some (ks.map iN)from rfl,oMS,bdR,u2_]
  exact h2
 have ll:∀x:List D,fLen [.list x]=some (.int (x.length:Int)):=λx=>id rfl
 have n1:Jn_ (.int 1)=some (.int (-1)):=id rfl
 unfold yt_
 rw[pa,bdR,ll,oMS,bdR,ll,oMS,bdR,L4.leA,oMS,bdR,if_neg (by rw[zzi,zzf,zzd,h1];simp;lia),n1,oMS,bdR,zam_,oMS,bdR]
end
theorem zeT_{n:Nat}(f h:Nat->Nat)(hn:n<=1000):j4_ (cT (tab n f)) (cT (tab n h))=.ret (cT (tab n λx=>f x+h x)):=by
 unfold j4_
 rw[XZ_,oMS,bdR,zaD_]
 rw[yr_ (e:=pD) (g:=λp=>iN (p.1+p.2)) ((tab n f).zip (tab n h)) (by
  intro p _
  rw[zfE_,addN,oMS,bdR]),bdR,u3_ (by simp[zD_];lia),bdR,bdR,tupL,oMS,bdR]
 congr 2
 unfold tab
 apply List.ext_getElem
 ·simp
 ·intro k h1 h2
  simp
def add(n:Nat)(a b:List Nat):List Nat:=tab n λx=>fl a x+fl b x
theorem Z2_{n:Nat}{a b:List Nat}(ha:a.length=n)(hb:b.length=n)(hn:n<=1000):j4_ (cT a) (cT b)=.ret (cT (add n a b)):=by
 have:=zeT_ (fl a) (fl b) hn
 rw[Jx_ ha,Jx_ hb]at this
 exact this
theorem jo_(n:Nat)(a b:List Nat):(add n a b).length=n:=zD_ n _
theorem zdl_{n:Nat}{f:Nat->Nat}{x:Nat}(h:x<n):fl (tab n f) x=f x:=by
 unfold fl tab
 simp[List.getD_eq_getElem?_getD,h]
theorem XT_{l:List Nat}{x:Nat}(h:l.length<=x):fl l x=0:=by
 unfold fl
 rw[List.getD_eq_getElem?_getD,List.getElem?_eq_none h]
 rfl
theorem zdm_{n:Nat}{a b:List Nat}(ha:a.length=n)(hb:b.length=n):fl (add n a b)=λx=>fl a x+fl b x:=by
 funext x
 by_cases h:x<n
 ·exact zdl_ h
 ·rw[XT_ (by rw[jo_];lia),XT_ (by lia),XT_ (l:=b) (by lia)]
theorem Vo_{f h:Nat->Nat}{m:Mt}(c:canB f m=true):canB (λx=>f x+h x) m=true:=by
 unfold canB at c ⊢
 simp only[Bool.and_eq_true,zzi]at c ⊢
 lia
theorem zbC_{f h:Nat->Nat}{m:Mt}(c:canB f m=true):ledF (λx=>f x+h x) m=λx=>ledF f m x+h x:=by
 funext x
 have a:=Qn_ c x
 have b:=Qn_ (Vo_ (h:=h) c) x
 lia
theorem Goes.add{r:Rl}{c c' o:List Nat}{k:Nat}(hc:c.length=r.n)(ho:o.length=r.n)(g:Goes r c k c'):Goes r (K95.add r.n c o) k (K95.add r.n c' o):=by
 obtain⟨m,hm,hcan,rfl⟩:=g
 refine⟨m,hm,by rw[zdm_ hc ho];exact Vo_ hcan,?_⟩
 unfold led
 rw[zdm_ hc ho,zbC_ hcan]
 unfold K95.add tab
 refine List.map_congr_left λx hx=>?_
 show fl (tab r.n (ledF (fl c) m)) x+fl o x=_
 rw[zdl_ (List.mem_range.mp hx)]
theorem Rch.add{r:Rl}(w:Wf r){s c o:List Nat}(hs:s.length=r.n)(ho:o.length=r.n)(h:Rch r s c):Rch r (K95.add r.n s o) (K95.add r.n c o):=by
 induction h with
 | refl=>exact .refl
 | step p g ih=>exact .step ih (g.add (p.fit w hs).1 ho)
theorem Pth.add{r:Rl}(w:Wf r){c c' o:List Nat}{ks:List Nat}(p:Pth r c ks c')(hc:c.length=r.n)(ho:o.length=r.n):Pth r (K95.add r.n c o) ks (K95.add r.n c' o):=by
 induction p with
 | nil c=>exact .nil _
 | cons g _ ih=>exact .cons (g.add hc ho) (ih (g.fit w hc).1)
inductive Bk(r:Rl)(v:List Nat->D)(c0:List Nat)(F:List (List Nat)):List Nat->List (Nat×List Nat)->Prop
 | nil:v c0=.none->Bk r v c0 F c0 []
 | snoc {h c:List Nat} {k:Nat} {ps:List (Nat×List Nat)}:Bk r v c0 F h ps->h∈F->Goes r h k c->v c=.tuple [cT h,ld (k,c)]->Bk r v c0 F c (ps++[(k,c)])
theorem Bk.mono{r:Rl}{v v':List Nat->D}{c0:List Nat}{F F':List (List Nat)}{c:List Nat}{ps:List (Nat×List Nat)}(hv:∀x∈F,v' x=v x)(hF:∀x∈F,x∈F')(b:Bk r v c0 F c ps):c∈F->Bk r v' c0 F' c ps:=by
 induction b with
 | nil e=>exact λhc=>.nil ((hv _ hc).trans e)
 | snoc b hh g e ih=>exact λhc=>.snoc (ih hh) (hF _ hh) g ((hv _ hc).trans e)
theorem Bk.pth{r:Rl}{v:List Nat->D}{c0:List Nat}{F:List (List Nat)}{c:List Nat}{ps:List (Nat×List Nat)}(b:Bk r v c0 F c ps):Pth r c0 (ps.map (·.1)) c:=by
 induction b with
 | nil e=>exact .nil _
 | snoc b hh g e ih=>rw[List.map_append];exact ih.snoc g
noncomputable abbrev zih_:D×List D×D×Unit->(D×List D×D×Unit->M D)->M D:=λs10 kn=>jd_ s10.1 s10.2.1 s10.2.2.1 kn
theorem zge_{r:Rl}{v:List Nat->D}{c0:List Nat}{F:List (List Nat)}{c:List Nat}{ps:List (Nat×List Nat)}(b:Bk r v c0 F c ps):∀(acc:List (Nat×List Nat)) (fuel:Nat),ps.length<fuel->acc.length+ps.length<=90000 ->
  zP_ zih_ fuel (.dict (F.map (kE v)),acc.map ld,v c,())=.ret (.list (ps.map ld++acc.reverse.map ld)):=by
 induction b with
 | nil e =>
  intro acc fuel hf hl
  obtain⟨fuel,rfl⟩:∃n,fuel=n+1:=⟨fuel - 1,by simp at hf;lia⟩
  rw[zP_,e]
  show jd_ _ (acc.map ld) .none _=_
  unfold jd_
  rw[show jr_ .none .none=some false from rfl,oMS,bdR,if_neg (by decide)]
  unfold Jd_
  rw[show zbY_ [.list (acc.map ld)]=some (acc.map ld).reverse from rfl,oMS,bdR,bdR,<-List.map_reverse]
  rfl
 | @snoc h c k ps b hh g e ih =>
  intro acc fuel hf hl
  rw[zzf,List.length_singleton]at hf hl
  obtain⟨fuel,rfl⟩:∃n,fuel=n+1:=⟨fuel - 1,by lia⟩
  have:=ih (acc++[(k,c)]) fuel (by lia) (by rw[zzf,List.length_singleton];lia)
  rw[zP_,e]
  show jd_ (.dict (F.map (kE v))) (acc.map ld) (.tuple [cT h,ld (k,c)]) _=_
  unfold jd_
  have i1:zs_ (.tuple [cT h,ld (k,c)]) (.int 1)=some (ld (k,c)):=by rw[jK_,ixT1]
  have i0:zs_ (.tuple [cT h,ld (k,c)]) (.int 0)=some (cT h):=by rw[jK_,ixT0]
  rw[show jr_ (.tuple [cT h,ld (k,c)]) .none=some true from rfl,oMS,bdR,if_pos rfl,i1,oMS,bdR,Jk_ _ _ (by rw[zzd];lia),oMS,bdR,i0,oMS,bdR,zbK_ v hh,oMS,bdR]
  rw[List.map_append]at this
  refine Eq.trans this ?_
  simp
theorem zaS_{r:Rl}{v:List Nat->D}{c0:List Nat}{F:List (List Nat)}{c:List Nat}{ps:List (Nat×List Nat)}(b:Bk r v c0 F c ps)(hc:c∈F)(hl:ps.length<=900):Zu_ (.dict (F.map (kE v))) (cT c)=.ret (.list (ps.map ld)):=by
 unfold Zu_
 rw[zbK_ v hc,oMS,bdR,ya_]
 have:=zge_ b [] 10000 (by lia) (by simp;lia)
 simpa using this
def Good(r:Rl)(c0:List Nat)(F:List (List Nat))(v:List Nat->D):Prop:=F.Nodup/\c0∈F/\∀c∈F,∃ps,Bk r v c0 F c ps/\ps.length<F.length
theorem Good.add{r:Rl}{c0:List Nat}{F:List (List Nat)}{v:List Nat->D}{h c:List Nat}{k:Nat}(q:Good r c0 F v)(hh:h∈F)(g:Goes r h k c)(hc:c∉F):Good r c0 (F++[c]) (λx=>if x=c then .tuple [cT h,ld (k,c)]else v x)/\F.map (kE v)=F.map (kE λx=>if x=c then .tuple [cT h,ld (k,c)]else v x):=by
 obtain⟨nd,h0,al⟩:=q
 have ag:∀x∈F,(if x=c then PyData.tuple [cT h,ld (k,c)]else v x)=v x:=λx hx=>if_neg (λ(z:x=c)=>hc (z▸hx))
 have mono:∀x∈F,∀ps,Bk r v c0 F x ps->Bk r (λx=>if x=c then .tuple [cT h,ld (k,c)]else v x) c0 (F++[c]) x ps:=λx hx ps b=>b.mono ag (λy hy=>List.mem_append_left _ hy) hx
 refine⟨⟨?_,List.mem_append_left _ h0,λx hx=>?_⟩,?_⟩
 ·rw[List.nodup_append]
  exact⟨nd,by simp,λa ha b hb=>by rw[List.mem_singleton.mp hb];exact λz=>hc (z▸ha)⟩
 ·rw[zzf,List.length_singleton]
  rcases List.mem_append.mp hx with hx|hx
  ·obtain⟨ps,b,l⟩:=al x hx
   exact⟨ps,mono x hx ps b,by lia⟩
  ·rw[List.mem_singleton.mp hx]
   obtain⟨ps,b,l⟩:=al h hh
   exact⟨ps++[(k,c)],.snoc (mono h hh ps b) (List.mem_append_left _ hh) g (if_pos rfl),by rw[zzf,List.length_singleton];lia⟩
 ·refine List.map_congr_left λx hx=>?_
  show(cT x,v x)=(cT x,if x=c then _ else v x)
  rw[ag x hx]
section
variable {r:Rl}(w:Wf r){c0:List Nat}(hc0:c0.length=r.n){Rs:List (List Nat)}(mem:∀c,c∈Rs↔Rch r c0 c)(hB:Rs.length<=900)
include w hc0 mem hB
theorem zdE_{R:M D->Prop}{F:List (List Nat)}{v:List Nat->D}{h:List Nat}(q:Good r c0 F v)(sub:∀c∈F,c∈Rs)(hh:h∈F)(L G:D)(i:D)(kn3:D×D×List (D×D)×List D×D×Unit->M D)(k:D×D×List (D×D)×List D×D×D×Unit->M D)
  (hk:∀F' v',Good r c0 F' v'->(∃E,F'=F++E)->(∀c∈F',c∈Rs)->(∀p∈z7_ r h,p.2∈F')->R (k (L,G,F'.map (kE v'),F'.map cT,i,cT h,()))) :
  R (forS (λs17 d18 kn=>u4_ kn3 s17.1 s17.2.1 s17.2.2.1 s17.2.2.2.1 s17.2.2.2.2.1 s17.2.2.2.2.2.1 d18 kn) ((z7_ r h).map ld) (L,G,F.map (kE v),F.map cT,i,cT h,()) k):=by
 have hhl:h.length=r.n:=(((mem h).mp (sub h hh)).fit w hc0).1
 refine Z7_ (R:=R) (P:=λj s=>∃F' v',s=(L,G,F'.map (kE v'),F'.map cT,i,cT h,())/\Good r c0 F' v'/\(∃E,F'=F++E)/\(∀c∈F',c∈Rs)/\(∀p∈(z7_ r h).take j,p.2∈F')) _ _ ?_ ⟨F,v,rfl,q,⟨[],(List.append_nil _).symm⟩,sub,λp hp=>by simp at hp⟩ ?_
 ·rintro j s d hd ⟨F',v',rfl,q',⟨E,hE⟩,sub',all'⟩ kn hkn
  rw[List.getElem?_map]at hd
  obtain⟨p,hp,rfl⟩:=Option.map_eq_some_iff.mp hd
  have pm:p∈z7_ r h:=List.mem_of_getElem? hp
  have g:Goes r h p.1 p.2:=(ym_ w hhl).mp pm
  have tk:(z7_ r h).take (j+1)=(z7_ r h).take j++[p]:=by
   rw[List.take_add_one,hp]
   rfl
  have hle:=jW_ q'.1 sub'
  dsimp only
  unfold u4_
  rw[ld1,oMS,bdR,Zm_,oMS,bdR]
  by_cases hin:p.2∈F'
  ·rw[decide_eq_true hin,if_neg (by decide)]
   refine hkn _ ⟨F',v',rfl,q',⟨E,hE⟩,sub',λx hx=>?_⟩
   rw[tk]at hx
   rcases List.mem_append.mp hx with hx|hx
   ·exact all' x hx
   ·rw[List.mem_singleton.mp hx];exact hin
  ·obtain⟨q2,e2⟩:=q'.add (h:=h) (k:=p.1) (c:=p.2) (by rw[hE];exact List.mem_append_left _ hh) g hin
   have pt:=WU_ (λx=>if x=p.2 then .tuple [cT h,ld p]else v' x) hin (by lia)
   rw[if_pos rfl]at pt
   rw[decide_eq_false hin,if_pos (show(!false)=true from rfl),bdR,e2,pt,oMS,bdR,bdR,Jk_ _ _ (by rw[zzd];lia),oMS,bdR]
   have:=hkn (L,G,(F'++[p.2]).map (kE λx=>if x=p.2 then .tuple [cT h,ld p]else v' x),(F'++[p.2]).map cT,i,cT h,()) ⟨F'++[p.2],_,rfl,q2,⟨E++[p.2],by rw[hE,List.append_assoc]⟩,λx hx=>?_,λx hx=>?_⟩
   ·rw[List.map_append (f:=cT)]at this
    exact this
   ·rcases List.mem_append.mp hx with hx|hx
    ·exact sub' x hx
    ·rw[List.mem_singleton.mp hx]
     exact(mem _).mpr (.step ((mem h).mp (sub h hh)) g)
   ·rw[tk]at hx
    rcases List.mem_append.mp hx with hx|hx
    ·exact List.mem_append_left _ (all' x hx)
    ·rw[List.mem_singleton.mp hx];simp
 ·rintro s ⟨F',v',rfl,q',hE,sub',all'⟩
  rw[zzd,List.take_length]at all'
  exact hk F' v' q' hE sub' all'
def zaA_(r:Rl)(c0 goal:List Nat)(m:M D):Prop:=∃ps:List (Nat×List Nat),m=.ret (.list (ps.map ld))/\Pth r c0 (ps.map (·.1)) goal/\ps.length<=900
noncomputable abbrev zfN_:D×D×List (D×D)×List D×D×Unit->(D×D×List (D×D)×List D×D×Unit->M D)->M D:=λs19 kn=>j1_ s19.1 s19.2.1 s19.2.2.1 s19.2.2.2.1 s19.2.2.2.2.1 kn
theorem zfB_{F0:List (List Nat)}(h0:∀c,c∈F0↔c∈Rs){goal:List Nat}(hg:Rch r c0 goal):∀(fuel i:Nat) (F:List (List Nat)) (v:List Nat->D),Good r c0 F v->(∀c∈F,c∈Rs)->i<=F.length ->
  (∀(j:Nat) (h:j<F.length),j<i->F[j]≠goal/\∀k c,Goes r F[j] k c->c∈F)->Rs.length<fuel+i ->
  zaA_ r c0 goal (zP_ zfN_ fuel (.dict (F0.map (kE (vL r))),.dict ([goal].map (kE vT)),F.map (kE v),F.map cT,iN i,()))
:=by
 intro fuel
 induction fuel with
 | zero =>
  intro i F v q sub hi _ hf
  have:=jW_ q.1 sub
  lia
 | succ fuel ih0 =>
  intro i F v q sub hi cl hf
  have hle:=jW_ q.1 sub
  have hlt:i<F.length:=by
   rcases Nat.lt_or_ge i F.length with h|h
   ·exact h
   ·have hiF:i=F.length:=by lia
    have all:∀c,Rch r c0 c->c∈F:=λc hc=>by
     induction hc with
     | refl=>exact q.2.1
     | step _ g ih =>
      obtain⟨j,hj,e⟩:=List.getElem_of_mem ih
      exact(cl j hj (by lia)).2 _ _ (e▸g)
    obtain⟨j,hj,e⟩:=List.getElem_of_mem (all goal hg)
    exact absurd e (cl j hj (by lia)).1
  have ix:zs_ (.list (F.map cT)) (iN i)=some (cT F[i]):=by
   rw[Uo_,show opIx (.list (F.map cT)) (iN i)=_ from zbM_ cT F i hlt]
  rw[zP_]
  show zaA_ r c0 goal (j1_ _ _ (F.map (kE v)) (F.map cT) (iN i) (λs'=>zP_ zfN_ fuel s'))
  unfold j1_
  rw[ix,oMS,bdR,Zm_ vT,oMS,bdR]
  by_cases hgo:F[i]=goal
  ·rw[decide_eq_true (by rw[hgo];exact List.mem_singleton.mpr rfl),if_neg (by decide)]
   unfold Jc_
   obtain⟨ps,b,l⟩:=q.2.2 F[i] (List.getElem_mem hlt)
   rw[ix,oMS,bdR,zaS_ b (List.getElem_mem hlt) (by lia),bdR]
   exact⟨ps,rfl,hgo▸b.pth,by lia⟩
  ·have hin:F[i]∈F0:=(h0 _).mpr (sub _ (List.getElem_mem hlt))
   rw[decide_eq_false (λz=>hgo (List.mem_singleton.mp z)),if_pos (show(!false)=true from rfl),bdR,zbK_ (vL r) hin,oMS,bdR,show seqD (vL r F[i])=some ((z7_ r F[i]).map ld)from rfl,oMS,bdR]
   refine zdE_ w hc0 mem hB q sub (List.getElem_mem hlt) _ _ _ _ _ λF' v' q' hE sub' all'=>?_
   obtain⟨E,hE⟩:=hE
   dsimp only
   unfold Jb_
   rw[show y2_ (iN i) (.int 1)=some (iN (i+1))from zfw_ i,oMS,bdR]
   have hfl:F[i].length=r.n:=(((mem _).mp (sub _ (List.getElem_mem hlt))).fit w hc0).1
   refine ih0 (i+1) F' v' q' sub' (by rw[hE,zzf];lia) (λj h hji=>?_) (by lia)
   have at':∀(h':j<F.length),F'[j]=F[j]:=λh'=>by
    simp only[hE]
    exact List.getElem_append_left h'
   rcases Nat.lt_or_ge j i with lt|ge
   ·rw[at' (by lia)]
    refine⟨(cl j (by lia) lt).1,λk c g=>?_⟩
    rw[hE]
    exact List.mem_append_left _ ((cl j (by lia) lt).2 k c g)
   ·have:j=i:=by lia
    subst this
    rw[at' hlt]
    exact⟨hgo,λk c g=>all' (k,c) ((ym_ w hfl).mpr g)⟩
theorem zaF_{F0:List (List Nat)}(h0:∀c,c∈F0↔c∈Rs){goal:List Nat}(hg:Rch r c0 goal):zaA_ r c0 goal (Zt_ (.dict (F0.map (kE (vL r)))) (cT c0) (.dict [(cT goal,.bool true)])):=by
 unfold Zt_ yi_
 rw[uw_]
 dsimp only
 rw[ya_]
 refine zfB_ w hc0 mem hB h0 hg 10000 0 [c0] (λ_=>.none) ⟨by simp,List.mem_singleton.mpr rfl,λc hc=>?_⟩ (λc hc=>?_) (Nat.zero_le _) (λj h z=>absurd z (Nat.not_lt_zero _)) (by lia)
 ·rw[List.mem_singleton.mp hc]
  exact⟨[],.nil rfl,by simp⟩
 ·rw[List.mem_singleton.mp hc]
  exact(mem _).mpr .refl
end
theorem UV_(P:List Nat->Prop):∀m:List (List Nat),∃R:List (List Nat),R.Nodup/\∀x,x∈R↔x∈m/\P x
 | []=>⟨[],.nil,λx=>by simp⟩
 | a::m=>by
  obtain⟨R,nd,h⟩:=UV_ P m
  by_cases q:P a/\a∉R
  ·refine⟨a::R,List.nodup_cons.mpr ⟨q.2,nd⟩,λx=>?_⟩
   rw[List.mem_cons,List.mem_cons,h]
   constructor
   ·rintro(rfl|z)
    ·exact⟨.inl rfl,q.1⟩
    ·exact⟨.inr z.1,z.2⟩
   ·rintro⟨rfl|z,p⟩
    ·exact .inl rfl
    ·exact .inr ⟨z,p⟩
  ·refine⟨R,nd,λx=>?_⟩
   rw[List.mem_cons,h]
   constructor
   ·exact λz=>⟨.inr z.1,z.2⟩
   ·rintro⟨rfl|z,p⟩
    ·exact(h x).mp (Classical.byContradiction λz=>q ⟨p,z⟩)
    ·exact⟨z,p⟩
theorem zhI_:∀n,n<6->∀h,h<8->(comps n h).length<=330:=by decide +kernel
theorem WO_{r:Rl}(w:Wf r){c0:List Nat}(hn:r.n<=5)(hc:c0.length=r.n)(hs:c0.sum<=7):∃R:List (List Nat),R.Nodup/\(∀c,c∈R↔Rch r c0 c)/\R.length<=330:=by
 obtain⟨R,nd,h⟩:=UV_ (Rch r c0) (comps r.n c0.sum)
 refine⟨R,nd,λc=>⟨λz=>((h c).mp z).2,λz=>(h c).mpr ⟨Yt_ _ _ c (z.fit w hc).1 (z.fit w hc).2,z⟩⟩,?_⟩
 exact Nat.le_trans (jW_ nd (m:=comps r.n c0.sum) λx hx=>((h x).mp hx).1) (zhI_ r.n (by first|decide|lia) c0.sum (by first|decide|lia))
theorem zhJ_{a b:List Nat}(h:cT a=cT b):a=b:=by
 have e:=YC_ a b
 rw[<-h,YC_ a a,decide_eq_true rfl]at e
 exact of_decide_eq_true e.symm
theorem zfD_:∀l:List D,(∀d∈l,∃c,d=cT c)->∃L:List (List Nat),l=L.map cT
 | [],_=>⟨[],rfl⟩
 | d::l,h=>by
  obtain⟨c,rfl⟩:=h d List.mem_cons_self
  obtain⟨L,rfl⟩:=zfD_ l λd hd=>h d (zzg _ hd)
  exact⟨c::L,rfl⟩
theorem zdb_{c:List Nat}{L:List (List Nat)}:cT c∈L.map cT↔c∈L:=by
 rw[List.mem_map]
 exact⟨λ⟨x,hx,e⟩=>zhJ_ e▸hx,λh=>⟨c,h,rfl⟩⟩
section
variable {r:Rl}(w:Wf r)(hn:r.n<=5)(hm:r.ms.length<=2000){c0:List Nat}(hc:c0.length=r.n)(hs:c0.sum<=7)
include w hn hm hc hs
theorem QD_:∃L:List (List Nat),JV_ r.d (cT c0) (.int 3000)=.ret (.list (L.map cT))/\(∀c,c∈L↔Rch r c0 c)/\L.length<=330:=by
 obtain⟨R,nd,mem,hl⟩:=WO_ w hn hc hs
 have n1:=w.n1
 rcases XR_ w (by first|decide|lia) hm hc nd mem (by first|decide|lia) 3000 with ⟨_,F,pm,e⟩|⟨h1,_⟩
 ·have ne:∀l∈F,l≠[]:=λl hl z=>by
   have:=(((mem l).mp (pm.mem_iff.mp hl)).fit w hc).1
   rw[z]at this
   simp at this
   lia
  have e1:uP_ [.dict (F.map (kE (vL r)))]=some (F.map cT):=by
   show(if isXe (F.map (kE (vL r)))then none else some ((F.map (kE (vL r))).map (·.1)))=_
   rw[XJ_,if_neg (by decide),zeR_]
  have e2:JO_ [.list (F.map cT)]=some (yE_ (F.map cT)):=by
   show(if jp_ (F.map cT)then some (yE_ (F.map cT))else none)=_
   rw[if_pos (WF_ ne)]
  have pm2:=us_ (F.map cT)
  obtain⟨L,hL⟩:=zfD_ (yE_ (F.map cT)) λd hd=>by
   obtain⟨c,_,rfl⟩:=List.mem_map.mp (pm2.mem_iff.mp hd)
   exact⟨c,rfl⟩
  refine⟨L,?_,λc=>?_,?_⟩
  ·unfold JV_
   rw[show zM_ r.d (cT c0) (.int 3000)=_ from e,bdR,e1,oMS,bdR,bdR,e2,oMS,bdR,bdR,hL]
  ·rw[<-zdb_,<-hL,pm2.mem_iff,zdb_,pm.mem_iff,mem]
  ·have h1:=pm2.length_eq
   rw[hL,zzd,zzd]at h1
   have h2:=pm.length_eq
   lia
 ·lia
theorem zaE_{g:List Nat}(hg:Rch r c0 g):∃ks:List Nat,Zs_ r.d (cT c0) (cT g) (.int 3000)=.ret (.list (ks.map iN))/\Pth r c0 ks g/\ks.length<=900:=by
 obtain⟨R,nd,mem,hl⟩:=WO_ w hn hc hs
 rcases XR_ w (by first|decide|lia) hm hc nd mem (by first|decide|lia) 3000 with ⟨_,F,pm,e⟩|⟨h1,_⟩
 ·have gF:g∈F:=pm.mem_iff.mpr ((mem g).mpr hg)
  obtain⟨ps,e2,pt,l2⟩:=zaF_ w hc mem (by first|decide|lia) (F0:=F) (λc=>pm.mem_iff) hg
  refine⟨ps.map (·.1),?_,pt,by rw[zzd];exact l2⟩
  have ok:yi_ (cT g) (M.ret (PyData.dict [(cT g,.bool true)]))=.ret (.dict [(cT g,.bool true)]):=by
   unfold yi_
   rw[uw_]
  have cm:jm_ (λd5=>bd (oM (zs_ d5 (.int 0))) λx6=>M.ret (some x6)) (ps.map ld)=.ret ((ps.map (·.1)).map iN):=by
   rw[yr_ (e:=ld) (g:=λp=>iN p.1) ps (λp _=>by rw[jK_,ixT0,oMS,bdR]),List.map_map]
   rfl
  unfold Zs_
  rw[show zM_ r.d (cT c0) (.int 3000)=_ from e,bdR,Zm_,oMS,bdR,decide_eq_true gF,if_neg (by decide),ok,bdR,e2,bdR,show seqD (.list (ps.map ld))=some (ps.map ld)from rfl,oMS,bdR,cm,bdR,u3_ (by rw[zzd,zzd];lia),bdR,bdR]
 ·lia
def sd(r:Rl)(c:List Nat):D:=zaQ_ (((List.range r.n).filter λi=>decide (0<fl c i)).map λi=>r.sy.getD i false)
omit hn hm hs in
theorem zfS_(hn:r.n<=1000):y9_ r.d (cT c0)=.ret (sd r c0):=by
 rw[YP_ hc]
 exact zdR_ w (fl c0) hn
omit w hn hm hc hs in
theorem zcI_(c:List Nat):sd r c=.str "yes" \/ sd r c=.str "both" \/ sd r c=.str "no":=by
 unfold sd zaQ_
 split
 ·exact .inl rfl
 ·split
  ·exact .inr (.inl rfl)
  ·exact .inr (.inr rfl)
omit w hn hm hc hs in
theorem Vj_(L:List (List Nat))(b:Bool):∃n:Nat,ul_ (.list (L.map (sd r))) [.str (if b then "yes" else "no")]=some (.int (n:Int))/\(n=L.length->∀c∈L,sd r c=.str (if b then "yes" else "no")):=by
 have lay:inOk (.str (if b then "yes" else "no")) (L.map (sd r))=true:=by
  unfold inOk
  rw[Z0_ λd hd=>by
   obtain⟨c,_,rfl⟩:=List.mem_map.mp hd
   rcases zcI_ (r:=r) c with e|e|e<;>rw[e]<;>decide +kernel]
  cases b<;>decide +kernel
 refine⟨_,by rw[ul_];exact if_pos lay,λh c hc=>?_⟩
 rw[<-zzd (sd r),List.countP_eq_length]at h
 have:=h (sd r c) (List.mem_map.mpr ⟨c,hc,rfl⟩)
 rcases zcI_ (r:=r) c with e|e|e<;>rw[e]at this ⊢ <;> cases b<;>first|rfl|exact absurd this (by decide +kernel)
theorem VK_:∃d:D,yu_ r.d (cT c0) (.int 3000)=.ret d/\(d=.none\/∃b:Bool,d=.bool b/\∀c,Rch r c0 c->sd r c=.str (if b then "yes" else "no")):=by
 obtain⟨L,e,mem,hl⟩:=QD_ w hn hm hc hs
 have cm:jm_ (λd2=>bd (y9_ r.d d2) λx3=>M.ret (some x3)) (L.map cT)=.ret (L.map (sd r)):=by
  refine yr_ (e:=cT) (g:=sd r) L λc hc'=>?_
  rw[zfS_ w (((mem c).mp hc').fit w hc).1 (by first|decide|lia),bdR]
 have ll:fLen [.list (L.map (sd r))]=some (.int (L.length:Int)):=by rw[L4.lenL,zzd]
 obtain⟨n1,c1,k1⟩:=Vj_ (r:=r) L true
 obtain⟨n2,c2,k2⟩:=Vj_ (r:=r) L false
 have c1':ul_ (.list (L.map (sd r))) [.str "yes"]=some (.int (n1:Int)):=c1
 have c2':ul_ (.list (L.map (sd r))) [.str "no"]=some (.int (n2:Int)):=c2
 have oT:∀m:M D,onT .lst (.list (L.map (sd r))) m=m:=λm=>rfl
 unfold yu_
 rw[e,bdR,show seqD (.list (L.map cT))=some (L.map cT)from rfl,oMS,bdR,cm,bdR,u3_ (by rw[zzd];lia),bdR,bdR,oT,c1',oMS,bdR,ll,oMS,bdR,eqI,oMS,bdR]
 by_cases h1:n1=L.length
 ·rw[if_pos (by rw[h1];simp)]
  exact⟨_,rfl,.inr ⟨true,rfl,λc hc=>k1 h1 c ((mem c).mpr hc)⟩⟩
 ·rw[if_neg (by simp;lia),oT,c2',oMS,bdR,bdR,eqI,oMS,bdR]
  by_cases h2:n2=L.length
  ·rw[if_pos (by rw[h2];simp),bdR]
   exact⟨_,rfl,.inr ⟨false,rfl,λc hc=>k2 h2 c ((mem c).mpr hc)⟩⟩
  ·rw[if_neg (by simp;lia),bdR]
   exact⟨_,rfl,.inl rfl⟩
end
theorem Q2_(c:List Nat)(L:List (List Nat)):zV_ (cT c) (.list (L.map cT))=some (!decide (c∈L)):=by
 rw[zbt_]
 have hi:inOk (cT c) (L.map cT)=true:=by
  unfold inOk
  rw[Z0_ λd hd=>by
   obtain⟨l,_,rfl⟩:=List.mem_map.mp hd
   exact(Q7_ l).1,(Q7_ c).1,decide_eq_true (Q7_ c).2]
  rfl
 rw[show jU_ (cT c) (.list (L.map cT))=if inOk (cT c) (L.map cT)then some (!((L.map cT).any λy=>PyData.eqv y (cT c)))else none from rfl,if_pos hi]
 congr 2
 rw[Bool.eq_iff_iff,List.any_eq_true,zzi]
 constructor
 ·rintro⟨d,hd,e⟩
  obtain⟨l,hl,rfl⟩:=List.mem_map.mp hd
  rw[YC_,zzi]at e
  exact e▸hl
 ·intro h
  exact⟨cT c,List.mem_map.mpr ⟨c,h,rfl⟩,by rw[YC_,decide_eq_true rfl]⟩
theorem WG_:∀(c:List Nat) (x:Nat) (h:x<c.length),(c.set x (c[x]+1)).sum=c.sum+1
 | a::c,0,h=>by simp;lia
 | a::c,x+1,h=>by
  have:=WG_ c x (by simpa using h)
  simp only[List.set_cons_succ,List.getElem_cons_succ,List.sum_cons]
  lia
theorem Vd_{T:Nat}{f:List D}{n most:Nat}(hf:Fd T f)(hT:T<=900000)(hn:1<=n)(hn2:n<=40)(h1:1<=most)(h2:most<=60):∃(c:List Nat) (f':List D),zU_ f (iN n) (iN most)=.ret (cT c,f')/\c.length=n/\c.sum<=most/\Fd (T+100) f':=by
 unfold zU_
 obtain⟨h0,f1,e1,hh,hf1⟩:=jt_ (m:=most) hf (by first|decide|lia) (by first|decide|lia) (by first|decide|lia)
 rw[zbw_ _ _ (by first|decide|lia),oMS,bdR,e1,bdR];dsimp only
 rw[zax_,oMS,bdR,uX_ _ (by first|decide|lia),oMS,bdR]
 let R:M (D×List D)->Prop:=λm=>∃(c:List Nat) (f':List D),m=.ret (cT c,f')/\c.length=n/\c.sum<=most/\Fd (T+100) f'
 refine Z7_ (R:=R) (P:=λi s=>∃(c:List Nat) (f:List D),s=(f,iN n,c.map iN,())/\c.length=n/\c.sum<=i/\Fd (T+1+i) f) _ _ ?_ ⟨List.replicate n 0,f1,by rw[List.map_replicate];rfl,by simp,by simp,hf1⟩ ?_
 ·rintro i s d hd ⟨c,f,rfl,hc,hs,hf⟩ kn hkn
  obtain⟨rfl,hi⟩:=Zi_ hd
  dsimp only
  unfold un_
  obtain⟨x,f2,e2,hx,hf2⟩:=jt_ (m:=n) hf (by first|decide|lia) (by first|decide|lia) (by first|decide|lia)
  have hxl:x<c.length:=by lia
  rw[e2,bdR];dsimp only
  rw[show opIx (.list (c.map iN)) (iN x)=_ from zbM_ iN c x hxl,oMS,bdR,zfw_,oMS,bdR,show putD (c.map iN) (iN x) (iN (c[x]+1))=_ from zbu_ (c[x]+1) hxl,oMS,bdR]
  refine hkn _ ⟨c.set x (c[x]+1),f2,rfl,by simp[hc],?_,hf2.le (by first|decide|lia)⟩
  rw[WG_ c x hxl]
  lia
 ·rintro s ⟨c,f,rfl,hc,hs,hf⟩
  rw[zzd,List.length_range]at hs hf
  dsimp only
  unfold uo_
  rw[tupL,oMS,bdR]
  exact⟨c,f,rfl,hc,by lia,hf.le (by first|decide|lia)⟩
theorem zgd_{r:Rl}(w:Wf r)(hm:r.ms.length<=2000){c0:List Nat}(hc0:c0.length=r.n){T:Nat}{f:List D}(hf:Fd T f)(hT:T<=900000) :
  ∃(ks c:List Nat) (f':List D),uD_ f r.d (cT c0)=.ret (.tuple [.list (ks.map iN),cT c],f')/\Pth r c0 ks c/\ks.length<=40/\c.length=r.n/\Fd (T+100) f':=by
 unfold uD_
 obtain⟨n,f1,e1,hn,hf1⟩:=jt_ (m:=9) hf (by first|decide|lia) (by first|decide|lia) (by first|decide|lia)
 rw[show zl_ f (.int 9)=_ from e1,bdR];dsimp only
 rw[uX_ n (by first|decide|lia),oMS,bdR]
 refine Z7_ (R:=λm=>∃(ks c:List Nat) (f':List D),m=.ret (PyData.tuple [.list (ks.map iN),cT c],f')/\Pth r c0 ks c/\ks.length<=40/\c.length=r.n/\Fd (T+100) f')
  (P:=λj s=>∃(ks c:List Nat) (f':List D),s=(f',r.d,cT c,ks.map iN,())/\Pth r c0 ks c/\ks.length<=j/\c.length=r.n/\Fd (T+1+2*j) f') _ _ ?_ ⟨[],c0,f1,rfl,.nil _,by simp,hc0,hf1⟩ ?_
 ·rintro j s d hd ⟨ks,c,f',rfl,pt,hl,hc,hf'⟩ kn hkn
  have hj:=(List.getElem?_eq_some_iff.mp hd).1
  rw[zzd,List.length_range]at hj
  dsimp only
  unfold yy_
  have ne:opNe (.list ((canL (fl c) r.ms).map iN)) (.list [])=some (!(canL (fl c) r.ms).isEmpty):=by
   have e:=zjb_ (canL (fl c) r.ms)
   unfold opEq at e
   unfold opNe
   split at e
   ·rename_i h;rw[if_pos h,Option.some.inj e]
   ·cases e
  have lc:jO_ r.d (cT c)=.ret (.list ((canL (fl c) r.ms).map iN)):=by
   rw[YP_ hc]
   exact Xv_ w (fl c) (by first|decide|lia)
  rw[lc,bdR,ne,oMS,bdR]
  cases hcn:(canL (fl c) r.ms).isEmpty with
  | true =>
   rw[Bool.not_true,if_neg (by decide)]
   exact hkn _ ⟨ks,c,f',rfl,pt,by lia,hc,hf'.le (by first|decide|lia)⟩
  | false =>
   rw[Bool.not_false,if_pos rfl]
   have ln:(canL (fl c) r.ms).length<=r.ms.length:=by
    unfold canL
    refine Nat.le_trans (List.length_filter_le _ _) ?_
    rw[List.length_range]
    exact Nat.le_refl _
   obtain⟨y,f3,e3,hy,hf3⟩:=zcW_ (m:=(canL (fl c) r.ms).map iN) (by
    rw[zzd]
    apply List.length_pos_iff.mpr
    intro z;rw[z]at hcn;cases hcn) (by rw[zzd];lia) hf' (by first|decide|lia)
   obtain⟨k,hk,rfl⟩:=List.mem_map.mp hy
   obtain⟨m,hmk,hcan⟩:=mem_canL.mp hk
   have hkk:k<r.ms.length:=(List.getElem?_eq_some_iff.mp hmk).1
   have em:r.ms[k]=m:=(List.getElem?_eq_some_iff.mp hmk).2
   have ok:=w.ms m (List.mem_of_getElem? hmk)
   have n1:Jn_ (.int 1)=some (.int (-1)):=id rfl
   have im:zs_ (.tuple (r.ms.map mD)) (iN k)=some (mD m):=by
    rw[jK_,show opIx (.tuple (r.ms.map mD)) (iN k)=_ from zbL_ mD r.ms k hkk,em]
   have bh:zW_ (cT c) (mD m)=.ret (cT (led r.n c m)):=by
    rw[YP_ hc]
    exact(YU_ ok).trans (by rw[if_pos hcan];rfl)
   rw[e3,bdR];dsimp only
   rw[Jk_ _ _ (by rw[zzd];lia),oMS,bdR,jK_,ixT2,oMS,bdR,n1,oMS,bdR,zam_,oMS,bdR,im,oMS,bdR,bh,bdR]
   exact hkn _ ⟨ks++[k],led r.n c m,f3,by rw[List.map_append];rfl,pt.snoc ⟨m,hmk,hcan,rfl⟩,by rw[zzf];simp;lia,yN_ _ _ _,hf3.le (by first|decide|lia)⟩
 ·rintro s ⟨ks,c,f',rfl,pt,hl,hc,hf'⟩
  rw[zzd,List.length_range]at hl hf'
  exact⟨ks,c,f',rfl,pt,by lia,hc,hf'.le (by first|decide|lia)⟩
theorem zfv_{n:Nat}{a b:List Nat}(ha:a.length=n)(hb:b.length=n):(add n a b).sum=a.sum+b.sum:=by
 have e1:a.sum=sumF n (fl a):=by rw[<-ZC_,Jx_ ha]
 have e2:b.sum=sumF n (fl b):=by rw[<-ZC_,Jx_ hb]
 rw[e1,e2,<-uq_]
 exact ZC_ n _
theorem u2(a b:D)(k:D->D->M D):un2 (.tuple [a,b]) k=k a b:=id rfl
section
variable {r:Rl}(w:Wf r)(hn:r.n<=5)(hm:r.ms.length<=2000){c o:List Nat}(hc:c.length=r.n)(ho:o.length=r.n)(hs:c.sum<=4)(hs2:o.sum<=3){Ls Lw:List (List Nat)}{word:D}
 (memS:∀x,x∈Ls↔Rch r c x) (memW:∀x,x∈Lw↔Rch r (add r.n c o) x) (hw:word=.none\/∃b:Bool,word=.bool b/\∀x,Rch r (add r.n c o) x->sd r x=.str (if b then "yes" else "no"))
include w hn hm hc ho hs hs2 memS memW hw
theorem zhb_{x:List Nat}(hx:x∈Ls)(kn5:D×Unit->M D)(sc:D)(f:List D)(kn:D×List D×D×D×D×D×D×D×D×Unit->M D) :
  Uy_ kn5 sc f r.d (cT c) (cT o) (cT (add r.n c o)) (.list (Ls.map cT)) (.list (Lw.map cT)) word (cT x) kn=kn (sc,f,r.d,cT c,cT o,cT (add r.n c o),.list (Ls.map cT),.list (Lw.map cT),word,()):=by
 have rx:=(memS x).mp hx
 have hxl:=(rx.fit w hc).1
 have ra:=rx.add w hc ho
 have hal:(add r.n x o).length=r.n:=jo_ _ _ _
 have hin:add r.n x o∈Lw:=(memW _).mpr ra
 obtain⟨ks,e2,pt,hl⟩:=zaE_ w hn hm hc (by first|decide|lia) rx
 have wk:=UL_ w (pt.add w hc ho) (jo_ _ _ _) (by first|decide|lia)
 unfold Uy_
 rw[Z2_ hxl ho (by first|decide|lia),bdR,Q2_,oMS,bdR,decide_eq_true hin,if_neg (by decide)]
 have mid:∀K:Bool->M D,(bd (bd (oM (jr_ word .none)) λb31=>if b31 then bd (y9_ r.d (cT (add r.n x o))) λx29=>bd (bd (oM (fInt [word])) λx28=>oM (zs_ (PyData.list [(.str "no"),(.str "yes")]) x28)) λx30=>oM (opNe x29 x30)else .ret false) K)=K false:=λK=>by
  rcases hw with rfl|⟨b,rfl,hb⟩
  ·rw[show jr_ .none .none=some false from rfl,oMS,bdR,if_neg (by decide),bdR]
  ·rw[show jr_ (.bool b) .none=some true from by cases b<;>rfl,oMS,bdR,if_pos rfl,zfS_ w hal (by first|decide|lia),bdR,hb _ ra]
   cases b<;>kernel_rfl
 rw[mid,if_neg (by decide),e2,bdR,show zbo_ (.list (ks.map iN)) .none=some false from rfl,oMS,bdR,if_neg (by decide),wk,bdR,L4.neT,decide_eq_true rfl,oMS,bdR,if_neg (by decide)]
theorem zhd_{T:Nat}{f:List D}(hf:Fd T f)(hT:T<=900000)(kn5:D×Unit->M D)(sc:D):UA_ kn5 sc f r.d (cT c) (cT o) (cT (add r.n c o)) (.list (Ls.map cT)) (.list (Lw.map cT)) word=kn5 (sc,()):=by
 obtain⟨ks,x,f',e1,pt,hl,hxl,_⟩:=zgd_ w hm hc hf hT
 have rx:Rch r c x:=pt.rch .refl
 have wk:=UL_ w (pt.add w hc ho) (jo_ _ _ _) (by first|decide|lia)
 unfold UA_
 rw[e1,bdR];dsimp only
 rw[u2,Q2_,oMS,bdR,decide_eq_true ((memS x).mpr rx),if_neg (by decide),wk,bdR,Z2_ hxl ho (by first|decide|lia),bdR,L4.neT,decide_eq_true rfl,oMS,bdR,if_neg (by decide)]
end
theorem zhc_(ns:List Int)(hn:ns.length<=63)(k:Nat)(kn5:D×Unit->M D):Uz_ (.list (ns.map PyData.int)) (iN k) kn5=kn5 (.list (ns.map PyData.int),()):=by
 unfold Uz_
 obtain⟨f,e1,hf⟩:=zfb_ ns k hn
 rw[e1,bdR]
 obtain⟨s,f1,e2,hs,hf1⟩:=jt_ (m:=3) hf (by first|decide|lia) (by first|decide|lia) (by first|decide|lia)
 rw[show zl_ f (.int 3)=_ from e2,bdR];dsimp only
 rw[zax_,oMS,bdR]
 obtain⟨r,f2,e3,w,rn,rs,rm,hf2⟩:=zdV_ (most:=5) (sorts:=s+1) hf1 (by first|decide|lia) (by first|decide|lia) (by first|decide|lia) (by first|decide|lia) (by first|decide|lia)
 rw[show jv_ f1 (.int 5) (iN (s+1))=_ from e3,bdR];dsimp only
 have n1:=w.n1
 rw[jK_,ixT0,oMS,bdR]
 obtain⟨c,f3,e4,hc,hcs,hf3⟩:=Vd_ (n:=r.n) (most:=4) hf2 (by first|decide|lia) (by first|decide|lia) (by first|decide|lia) (by first|decide|lia) (by first|decide|lia)
 rw[show zU_ f2 (iN r.n) (.int 4)=_ from e4,bdR];dsimp only
 rw[bdR]
 obtain⟨o,f4,e5,ho,hos,hf4⟩:=Vd_ (n:=r.n) (most:=3) hf3 (by first|decide|lia) (by first|decide|lia) (by first|decide|lia) (by first|decide|lia) (by first|decide|lia)
 rw[show zU_ f3 (iN r.n) (.int 3)=_ from e5,bdR];dsimp only
 have as:=zfv_ hc ho
 obtain⟨Ls,e6,memS,hls⟩:=QD_ w rn rm hc (by first|decide|lia)
 obtain⟨Lw,e7,memW,hlw⟩:=QD_ w rn rm (jo_ r.n c o) (by first|decide|lia)
 obtain⟨word,e8,hw⟩:=VK_ w rn rm (jo_ r.n c o) (by first|decide|lia)
 rw[Z2_ hc ho (by first|decide|lia),bdR,e6,bdR,e7,bdR,e8,bdR,show seqD (.list (Ls.map cT))=some (Ls.map cT)from rfl,oMS,bdR]
 refine(ux_ (e:=cT) (F:=λ_=>(PyData.list (ns.map PyData.int),f4,r.d,cT c,cT o,cT (add r.n c o),PyData.list (Ls.map cT),PyData.list (Lw.map cT),word,())) Ls ?_).trans ?_
 ·intro p x t hpt kn
  dsimp only
  exact zhb_ w rn rm hc ho hcs hos memS memW hw (by rw[hpt];simp) kn5 _ _ kn
 ·dsimp only
  exact zhd_ w rn rm hc ho hcs hos memS memW hw hf4 (by first|decide|lia) kn5 _
theorem main:∀ns:List Int,ns.length<=63->zco_ (.list (ns.map PyData.int))=.ret (.bool true):=by
 intro ns hn
 unfold zco_
 have e1:fLen [.list (ns.map PyData.int)]=some (.int (ns.length:Int)):=by rw[L4.lenL,zzd]
 have e2:X0_ [.int 4,.int (ns.length:Int)]=some (iN (min 4 ns.length)):=min2 4 ns.length
 rw[e1,oMS,bdR,e2,oMS,bdR,zax_,oMS,bdR,uX_ _ (by first|decide|lia),oMS,bdR]
 refine(ux_ (e:=iN) (F:=λ_=>(PyData.list (ns.map PyData.int),())) (List.range _) ?_).trans rfl
 intro p x t hpt kn
 dsimp only
 exact zhc_ ns hn x kn
theorem all_mk{l:PySem.W.OpenLaw}{w:World}{K:Fg}{h:Heap}{mg:Str->Option Value}{fa:Addr}(X:K.In h)(G:h.Ns mainGlobals mg)(hfa:mg "law" = some (.ref fa))(p0:Fa K "is_whole" yH_)(p1:Fa K "is_within" uU_)(p2:Fa K "joined" Zg_)(p3:Fa K "can_be" Uc_)(p4:Fa K "led_to" Ub_)(p5:Fa K "passed" Ua_)(p6:Fa K "walked" J8_)(p7:Fa K "pairs_of" yG_)(p8:Fa K "leads_at" ut_)(p9:Fa K "said" QQ_)(p10:Fa K "leads_from" ub_)(p11:FaV K "come" WK_ 1000)(p12:Fa K "row_to" J9_)(p13:Fa K "way_in" J7_)(p14:FaV K "way_to" Zf_ 1000)(p15:FaV K "settled" ye_ 1000)(p16:Fa K "_law_feed" uW_)(p17:Fa K "_law_next" uV_)(p18:Fa K "_law_one" yJ_)(p19:Fa K "_law_rule" jq_)(p20:Fa K "_law_behind" jR_)(p21:Fa K "_law_can" uu_)(p22:Fa K "_law_hands" uc_)(p23:Fa K "_law_row" yI_)(p24:Fa K "law" zdS_)(q0:Xa K "NoMeeting" "NoMeeting.__init__" jf_ ["place"])(q1:Xa K "TooMany" "TooMany.__init__" jB_ [])(bz:(BL.all λx=>isNN (PySem.W.nsIn K mainGlobals x))=true) :
  ∃fd:FuncData,(∀(s:Shared) (v:Value),BindsTo s fd ⟨[v],[]⟩ [("_law_script",v)])/\∀base:Heap,K.In base->base.Ns mainGlobals mg->FnOk l.prog w K mg base (CX1 l.prog w) 6 fa fd ["_law_script"] (spD K 1 Q5_):=by
 obtain⟨f0,fd0,a0,F0⟩:=p0
 obtain⟨f1,fd1,a1,F1⟩:=p1
 obtain⟨f2,fd2,a2,F2⟩:=p2
 obtain⟨f3,fd3,a3,F3⟩:=p3
 obtain⟨f4,fd4,a4,F4⟩:=p4
 obtain⟨f5,fd5,a5,F5⟩:=p5
 obtain⟨f6,fd6,a6,F6⟩:=p6
 obtain⟨f7,fd7,a7,F7⟩:=p7
 obtain⟨f8,fd8,a8,F8⟩:=p8
 obtain⟨f9,fd9,a9,F9⟩:=p9
 obtain⟨f10,fd10,a10,F10⟩:=p10
 obtain⟨f11,fd11,T11,a11,F11,t11⟩:=p11
 obtain⟨f12,fd12,a12,F12⟩:=p12
 obtain⟨f13,fd13,a13,F13⟩:=p13
 obtain⟨f14,fd14,T14,a14,F14,t14⟩:=p14
 obtain⟨f15,fd15,T15,a15,F15,t15⟩:=p15
 obtain⟨f16,fd16,a16,F16⟩:=p16
 obtain⟨f17,fd17,a17,F17⟩:=p17
 obtain⟨f18,fd18,a18,F18⟩:=p18
 obtain⟨f19,fd19,a19,F19⟩:=p19
 obtain⟨f20,fd20,a20,F20⟩:=p20
 obtain⟨f21,fd21,a21,F21⟩:=p21
 obtain⟨f22,fd22,a22,F22⟩:=p22
 obtain⟨f23,fd23,a23,F23⟩:=p23
 obtain⟨f24,fd24,a24,F24⟩:=p24
 obtain⟨C0,D0,g0,gd0,b0,G0,x0,y0,z0,u0,v0⟩:=q0
 obtain⟨C1,D1,g1,gd1,b1,G1,x1,y1,z1,u1,v1⟩:=q1
 cases hfa.symm.trans (PySem.W.mg_of X G a24)
 have B:BN mg:=zjg_ X G bz
 refine⟨fd24,λs v=>?_,λbase _ _=>?_⟩
 ·obtain⟨_,_,_,_,_,_,_,_,_,rfl,_⟩:=F24.ex
  exact .of_eq rfl
 have X_NoMeeting:=YI_ (P:=l.prog) (w:=w) (base:=base) G0 x0 (PySem.W.mg_of X G b0) y0 z0 u0 v0
 have X_TooMany:=We_ (P:=l.prog) (w:=w) (base:=base) G1 x1 (PySem.W.mg_of X G b1) y1 z1 u1 v1
 have ga7:=Qc_ (P:=l.prog) (w:=w) (base:=base) F0 (PySem.W.mg_of X G a0) B
 have ga0:=Yg_ (P:=l.prog) (w:=w) (base:=base) F1 (PySem.W.mg_of X G a1) B ga7
 have ga6:=Xh_ (P:=l.prog) (w:=w) (base:=base) F2 (PySem.W.mg_of X G a2) B
 have gaX:=Xj_ (P:=l.prog) (w:=w) (base:=base) F3 (PySem.W.mg_of X G a3) B
 have gaW:=Xf_ (P:=l.prog) (w:=w) (base:=base) F4 (PySem.W.mg_of X G a4) B
 have gbn:=Xd_ (P:=l.prog) (w:=w) (base:=base) F5 (PySem.W.mg_of X G a5) B gaW ga0 gaX
 have gbe:=Xb_ (P:=l.prog) (w:=w) (base:=base) F6 (PySem.W.mg_of X G a6) B gbn X_NoMeeting
 have ga8:=Qa_ (P:=l.prog) (w:=w) (base:=base) F7 (PySem.W.mg_of X G a7) B
 have ga9:=Qb_ (P:=l.prog) (w:=w) (base:=base) F8 (PySem.W.mg_of X G a8) B gaX gaW
 have gbk:=zeA_ (P:=l.prog) (w:=w) (base:=base) F9 (PySem.W.mg_of X G a9) B
 have gaA:=Ug_ (P:=l.prog) (w:=w) (base:=base) F10 (PySem.W.mg_of X G a10) B ga8 ga9 X_TooMany
 have gbh:=zeE_ (P:=l.prog) (w:=w) (base:=base) F11 t11 (PySem.W.mg_of X G a11) B gaA
 have gbr:=Xc_ (P:=l.prog) (w:=w) (base:=base) F12 (PySem.W.mg_of X G a12) B
 have gbs:=Xa_ (P:=l.prog) (w:=w) (base:=base) F13 (PySem.W.mg_of X G a13) B gbr
 have gbt:=W9_ (P:=l.prog) (w:=w) (base:=base) F14 t14 (PySem.W.mg_of X G a14) B gaA gbs
 have gbj:=VR_ (P:=l.prog) (w:=w) (base:=base) F15 t15 (PySem.W.mg_of X G a15) B gbk gbh
 have ga2:=Yj_ (P:=l.prog) (w:=w) (base:=base) F16 (PySem.W.mg_of X G a16) B
 have gad:=Yi_ (P:=l.prog) (w:=w) (base:=base) F17 (PySem.W.mg_of X G a17) B
 have gaH:=Qe_ (P:=l.prog) (w:=w) (base:=base) F18 (PySem.W.mg_of X G a18) B gad
 have ga3:=Yh_ (P:=l.prog) (w:=w) (base:=base) F19 (PySem.W.mg_of X G a19) B gad gaH
 have gax:=Jo_ (P:=l.prog) (w:=w) (base:=base) F20 (PySem.W.mg_of X G a20) B
 have gba:=Qf_ (P:=l.prog) (w:=w) (base:=base) F21 (PySem.W.mg_of X G a21) B gax
 have gaK:=Uh_ (P:=l.prog) (w:=w) (base:=base) F22 (PySem.W.mg_of X G a22) B gad
 have gbc:=Qd_ (P:=l.prog) (w:=w) (base:=base) F23 (PySem.W.mg_of X G a23) B gad gba gax gaH
 exact zhB_ F24 B ga2 ga3 ga6 gbh gbj gbc gaK gbt gad gbe gbk
theorem walk{l:PySem.W.OpenLaw}{q:Program}{loose:List Str}{XP:(Str->Option Value)->Heap->Prop}{YP:World->Heap->Prop}{d:DefRec}{K:Params->Fg}(main:∀ns:List Int,ns.length<=63->zco_ (.list (ns.map PyData.int))=.ret (.bool true))(hn:l.most=some 63)(hdf:d.params.defaults=[])
  (hY:∀(w:World) (h:Heap),YP w h->(K w.params).In h)
  (F:∀(w:World) (mg:Str->Option Value) (fa:Addr) (h:Heap),(K w.params).In h->h.Ns mainGlobals mg->mg d.name=some (.ref fa) ->
   ∃fd:FuncData,(∀(s:Shared) (u:Value),BindsTo s fd ⟨[u],[]⟩ [("_law_script",u)])/\∀base:Heap,(K w.params).In base->base.Ns mainGlobals mg->FnOk l.prog w (K w.params) mg base (CX1 l.prog w) 6 fa fd ["_law_script"] (spD (K w.params) 1 Q5_)) :
  PySem.W.WalkO q loose XP YP l.row.toRowW d [] (λf vs=>PySem.call f vs) :=
 L2.walk_of (n:=63) (k:=6) (x := "_law_script") (CX:=λw=>CX1 l.prog w) (sp:=λw=>spD (K w.params) 1 Q5_) hn (by decide) hdf ⟨rfl,by decide,by decide,rfl⟩ hY F (λw H a ns hl _ hS=>Xu_ hS (main ns hl)) λ_ _ _ _ _ ⟨_,_,_,_,_,_,_,_,_,_,z⟩=>z
end K95
open PySem PySem.W PyProof.Rows L4
set_option maxRecDepth 100000 in
set_option maxHeartbeats 0 in
theorem PySem.Challenge.cw_passersby_k95_whole_a_joined_crowd_does_holds : PySem.Challenge.rw_passersby_k95_whole_a_joined_crowd_does.Holds := by
 w_on;o_law;k_head;(case hw=>w_witness2)
 k_fill
 refine K95.walk (l:=PySem.Challenge.rw_passersby_k95_whole_a_joined_crowd_does) K95.main rfl rfl (λw h Y=>PySem.W.kIn_of Y) ?F
 case F =>
  intro w mg fa h KX G hmg
  refine' K95.all_mk KX G hmg (jy_ ?a0 ?l0 ?c0 ?k0) (jy_ ?a1 ?l1 ?c1 ?k1) (jy_ ?a2 ?l2 ?c2 ?k2) (jy_ ?a3 ?l3 ?c3 ?k3) (jy_ ?a4 ?l4 ?c4 ?k4) (jy_ ?a5 ?l5 ?c5 ?k5) (jy_ ?a6 ?l6 ?c6 ?k6) (jy_ ?a7 ?l7 ?c7 ?k7) (jy_ ?a8 ?l8 ?c8 ?k8) (jy_ ?a9 ?l9 ?c9 ?k9) (jy_ ?a10 ?l10 ?c10 ?k10) (XW_ ?a11 ?l11 ?c11 ?k11 ?d11 ?e11 ?r11) (jy_ ?a12 ?l12 ?c12 ?k12) (jy_ ?a13 ?l13 ?c13 ?k13) (XW_ ?a14 ?l14 ?c14 ?k14 ?d14 ?e14 ?r14) (XW_ ?a15 ?l15 ?c15 ?k15 ?d15 ?e15 ?r15) (jy_ ?a16 ?l16 ?c16 ?k16) (jy_ ?a17 ?l17 ?c17 ?k17) (jy_ ?a18 ?l18 ?c18 ?k18) (jy_ ?a19 ?l19 ?c19 ?k19) (jy_ ?a20 ?l20 ?c20 ?k20) (jy_ ?a21 ?l21 ?c21 ?k21) (jy_ ?a22 ?l22 ?c22 ?k22) (jy_ ?a23 ?l23 ?c23 ?k23) (jy_ ?a24 ?l24 ?c24 ?k24) (zfA_ ?xa0 ?xb0 ?xc0 ?xd0 ?xe0 ?xf0 ?xg0 ?xh0 ?xi0 ?xj0 ?xk0 ?xl0 ?xm0 ?xp0 ?xq0 ?xr0 ?xo0 (naC ?y0_0 na0)) (zfA_ ?xa1 ?xb1 ?xc1 ?xd1 ?xe1 ?xf1 ?xg1 ?xh1 ?xi1 ?xj1 ?xk1 ?xl1 ?xm1 ?xp1 ?xq1 ?xr1 ?xo1 na0) ?bz
  (case a0|l0|c0|k0|a1|l1|c1|k1|a2|l2|c2|k2|a3|l3|c3|k3|a4|l4|c4|k4|a5|l5|c5|k5|a6|l6|c6|k6|a7|l7|c7|k7|a8|l8|c8|k8|a9|l9|c9|k9|a10|l10|c10|k10|a11|l11|c11|k11|d11=>k_is)
  (case e11=>rfl)
  (case r11=>exact⟨_,rfl⟩)
  (case a12|l12|c12|k12|a13|l13|c13|k13|a14|l14|c14|k14|d14=>k_is)
  (case e14=>rfl)
  (case r14=>exact⟨_,rfl⟩)
  (case a15|l15|c15|k15|d15=>k_is)
  (case e15=>rfl)
  (case r15=>exact⟨_,rfl⟩)
  (case a16|l16|c16|k16|a17|l17|c17|k17|a18|l18|c18|k18|a19|l19|c19|k19|a20|l20|c20|k20|a21|l21|c21|k21|a22|l22|c22|k22|a23|l23|c23|k23|a24|l24|c24|k24|xa0|xb0|xc0|xd0|xe0|xf0|xg0=>k_is)
  (case xh0=>kernel_rfl)
  (case xi0|xj0|xk0|xl0=>k_is)
  (case xm0=>kernel_rfl)
  (case xp0|xq0|xr0=>k_is)
  (case xo0=>kernel_rfl)
  (case y0_0|xa1|xb1|xc1|xd1|xe1|xf1|xg1=>k_is)
  (case xh1=>kernel_rfl)
  (case xi1|xj1|xk1|xl1=>k_is)
  (case xm1=>kernel_rfl)
  (case xp1|xq1|xr1=>k_is)
  (case xo1|bz=>kernel_rfl)
