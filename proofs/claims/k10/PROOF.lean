import PyProof.Rows.All
import Wide.All
import OpenK.AllK
import Wide.FinOn
import Lean
import PyProof.EqAt
import PyProof.EqKinds
import PyProof.TupleCall
import PySem.Challenge.RW_passersby_k10_rules_as_rows
noncomputable section
set_option Elab.async false
set_option linter.all false
set_option maxRecDepth 100000
noncomputable def zza:=@PySem.wpAny_bind
noncomputable def zzb:=@PySem.wpAny_pure
noncomputable def zzc:=@PySem.Heap.get?_push_of_some
noncomputable def zzd:=@List.length_map
noncomputable def zze:=@PySem.Heap.get?_push_size
noncomputable def zzf:=@List.length_append
noncomputable def zzg:=@List.mem_cons_of_mem
noncomputable def zzi:=@decide_eq_true_eq
abbrev zzj:=PySem.Value->PySem.Shared->Prop
abbrev zzk:=List (PySem.Addr×PySem.Obj)
abbrev zzl:=PySem.Str->Option PySem.Value
namespace L2
open PySem PySem.Spec PyProof.Rows
abbrev Key:=Sum Int Str
def nN:Key->Value->Bool
 | .inl k,v=>Value.isInt k v
 | .inr x,v=>Value.isStrOf x v
def HA(w:World):Key->Int
 | .inl k=>hashInt k
 | .inr x=>hashStr w x
theorem bm:∀{k:Key} {v:Value},nN k v=true->(∃i t,k=Sum.inl i/\v=Value.int i t)\/(∃x t,k=Sum.inr x/\v=Value.str x t)
 | .inl i,v,h=>by
  obtain⟨t,e⟩:=Value.isInt_shape (k:=i) (v:=v) h
  exact .inl ⟨i,t,rfl,e⟩
 | .inr x,v,h=>by
  obtain⟨t,e⟩:=Value.isStrOf_shape (x:=x) (v:=v) h
  exact .inr ⟨x,t,rfl,e⟩
theorem w9(i:Int)(t:Tok):nN (.inl i) (.int i t)=true:=by simp[nN,Value.isInt]
theorem w6(x:Str)(t:Tok):nN (.inr x) (.str x t)=true:=by simp[nN,Value.isStrOf]
theorem D9(a b:Int):decide ((Sum.inl a:Key)=Sum.inl b)=(a==b):=by
 by_cases e:a=b
 ·subst e;simp
 ·have h:¬ (Sum.inl a:Key)=Sum.inl b:=λq=>e (Sum.inl.inj q)
  rw[decide_eq_false h]
  exact(beq_eq_false_iff_ne.mpr e).symm
theorem D6(a b:Str):decide ((Sum.inr a:Key)=Sum.inr b)=decide (a=b):=by
 by_cases e:a=b
 ·subst e;simp
 ·have h:¬ (Sum.inr a:Key)=Sum.inr b:=λq=>e (Sum.inr.inj q)
  rw[decide_eq_false h,decide_eq_false e]
theorem D8(a:Int)(b:Str):decide ((Sum.inl a:Key)=Sum.inr b)=false:=decide_eq_false (λq=>nomatch q)
theorem D7(a:Str)(b:Int):decide ((Sum.inr a:Key)=Sum.inl b)=false:=decide_eq_false (λq=>nomatch q)
def bv(prog:Program)(w:World):PySem.KeyKind prog w Key where
 is:=nN
 hash:=HA w
 inj:=λv a b ha hb=>by
  rcases bm ha with ⟨i,t,rfl,rfl⟩|⟨x,t,rfl,rfl⟩
  ·rcases bm hb with ⟨j,u,rfl,e⟩|⟨y,u,rfl,e⟩
   ·injection e with e1 _;rw[e1]
   ·exact nomatch e
  ·rcases bm hb with ⟨j,u,rfl,e⟩|⟨y,u,rfl,e⟩
   ·exact nomatch e
   ·injection e with e1 _;rw[e1]
 byValue:=λk v h=>by
  rcases bm h with ⟨i,t,rfl,rfl⟩|⟨x,t,rfl,rfl⟩<;>rfl
 pyHash:=λhv h=>by
  rcases bm hv with ⟨i,t,rfl,rfl⟩|⟨x,t,rfl,rfl⟩
  ·exact wpAny_pyHash_int h
  ·exact wpAny_pyHash_str h
 eqBool:=λhu hv h=>by
  rcases bm hu with ⟨i,t,rfl,rfl⟩|⟨x,t,rfl,rfl⟩
  ·rcases bm hv with ⟨j,u,rfl,rfl⟩|⟨y,u,rfl,rfl⟩
   ·rw[D9]at h;exact wpAny_eqBool_int h
   ·rw[D8]at h;exact SeqAt.EqAt.int_str i t y u _ _ _ _ h
  ·rcases bm hv with ⟨j,u,rfl,rfl⟩|⟨y,u,rfl,rfl⟩
   ·rw[D7]at h;exact SeqAt.EqAt.str_int x t j u _ _ _ _ h
   ·rw[D6]at h;exact wpAny_eqBool_str h
 «strs»:=λk x t v h=>by
  rcases bm h with ⟨i,u,rfl,e⟩|⟨y,u,rfl,e⟩
  ·exact nomatch e
  ·injection e with e1 _
   subst e1
   cases v<;>rfl
theorem rm(prog:Program)(w:World)(i:Int)(t:Tok):(bv prog w).is (.inl i) (.int i t)=true:=w9 i t
theorem rj(prog:Program)(w:World)(x:Str)(t:Tok):(bv prog w).is (.inr x) (.str x t)=true:=w6 x t
inductive V where
 | non|bl (b:Bool)|int (i:Int)|str (x:Str)|byt (b:Array UInt8)|flt (b:UInt64)|ref (a:Addr)|ty (n:String)
 deriving DecidableEq
def RelV:V->Value->Prop
 | .non,u=>u=Value.none
 | .bl b,u=>u=Value.bool b
 | .int i,u=>∃t,u=Value.int i t
 | .str x,u=>∃t,u=Value.str x t
 | .byt b,u=>∃t,u=Value.bytes b t
 | .flt b,u=>∃t,u=Value.float b t
 | .ref a,u=>u=Value.ref a
 | .ty n,u=>u=Value.type n
abbrev Vals:List V->List Value->Prop:=Paired RelV
theorem Vals.length{xs:List V}{us:List Value}(r:Vals xs us):xs.length=us.length:=Paired.length r
theorem Vals.get:∀{xs:List V} {us:List Value} {i:Nat} {x:V},Vals xs us->xs[i]? = some x->∃u,us[i]? = some u/\RelV x u
 | _,_,_,_,.nil,e=>by simp at e
 | _,_,0,_,.cons r _,e=>by simp at e;subst e;exact⟨_,rfl,r⟩
 | _,_,i+1,x,.cons _ t,e=>by
  obtain⟨u,h1,h2⟩:=Vals.get (i:=i) (x:=x) t (by simpa using e)
  exact⟨u,by simpa using h1,h2⟩
theorem Vals.set{x:V}{u:Value}(r:RelV x u):∀{xs:List V} {us:List Value} (i:Nat),Vals xs us->Vals (xs.set i x) (us.set i u)
 | _,_,_,.nil=>.nil
 | _,_,0,.cons _ t=>.cons r t
 | _,_,i+1,.cons q t=>.cons q (Vals.set r i t)
theorem Vals.append:∀{xs ys:List V} {us ws:List Value},Vals xs us->Vals ys ws->Vals (xs++ys) (us++ws):=by
 intro xs ys us ws h s
 induction h with
 | nil=>exact s
 | cons r _ ih=>exact .cons r ih
theorem Vals.take:∀{xs:List V} {us:List Value} (n:Nat),Vals xs us->Vals (xs.take n) (us.take n)
 | _,_,0,_=>.nil
 | _,_,_+1,.nil=>.nil
 | _,_,n+1,.cons r t=>.cons r (Vals.take n t)
theorem Vals.drop:∀{xs:List V} {us:List Value} (n:Nat),Vals xs us->Vals (xs.drop n) (us.drop n)
 | _,_,0,r=>r
 | _,_,_+1,.nil=>.nil
 | _,_,n+1,.cons _ t=>Vals.drop n t
def RelO:Option V->Option Value->Prop
 | some v,some u=>RelV v u
 | none,none=>True
 | _,_=>False
def KV{κ:Type}:List (κ×V)->List (κ×Value)->Prop:=Paired λ(p:κ×V) (q:κ×Value)=>p.1=q.1/\RelV p.2 q.2
def kV:Key->V
 | .inl i=>.int i
 | .inr x=>.str x
inductive HO where
 | lst (xs:List V)
 | tup (xs:List V)
 | dK (kvs:List (Key×V))|dT (kvs:List (List Key×V))
 | set (S:Int->Bool) (n:Nat)
 | ins (C dx:Addr) (fs:List (Str×V))
 | own (x:Addr)
 | xd (fs:List (Str×V))
 | met (f x:Addr)
 | rng (lo hi:Int)
 | frz (o:Obj) (u:HO)
 | tbl (ps:Array Value)
 | ext (φ:Heap->Prop)
abbrev Hp:=Addr->Option HO
def upd(H:Hp)(a:Addr)(o:HO):Hp:=λb=>if b=a then some o else H b
theorem aK{H:Hp}{a:Addr}{o:HO}:upd H a o a=some o:=by unfold upd;rw[if_pos rfl]
theorem aF{H:Hp}{a b:Addr}{o:HO}(h:b≠a):upd H a o b=H b:=by unfold upd;rw[if_neg h]
theorem aQ{H:Hp}{a b:Addr}{o:HO}(h:H a=some o)(h':H b=none):a≠b:=by
 intro e;subst e;rw[h]at h';cases h'
section
variable (P:Program)(w:World)
def _root_.L2.TupN(h:Heap)(a:Addr):Prop:=∃o,h.get? a=some o/\o.dict=none
theorem _root_.L2.TupN.new(h:Heap)(items:Array Value):TupN (h.push { cls:=.type "tuple",data:=.seq items }) h.objs.size:=⟨_,zze _ rfl,rfl⟩
def ObjOk(H:Hp)(h:Heap)(a:Addr):HO->Prop
 | .lst xs=>xs.length<=sizeLine/\∃(its:List Value) (n:Nat),Vals xs its/\h.get? a=some { cls:=.type "list",data:=.seq its.toArray n }
 | .tup xs=>xs.length<=sizeLine/\∃its:List Value,Vals xs its/\IsTup h a its.toArray/\TupN h a
 | .dK kvs=>kvs.length<=sizeLine/\(a==sysModules)=false/\∃vs,KV kvs vs/\h.DictOf (bv P w) a vs
 | .dT kvs=>kvs.length<=sizeLine/\(a==sysModules)=false/\∃xs:List (List Key×Addr×Value),
   Paired (λ(p:List Key×V) (q:List Key×Addr×Value)=>p.1=q.1/\H q.2.1=some (.tup (p.1.map kV))/\RelV p.2 q.2.2) kvs xs /\
   ∃o es ep,h.get? a=some o/\o.ExactDict/\o.data=.dict es ep/\es.toList=xs.map (entryOfKey (tupleKind (bv P w)))/\(xs.map (·.1)).Nodup
 | .set S n=>h.SetOf (intKind P w) a S n
 | .ins C dx fs=>H dx=some (.own a)/\fs.length<=1000/\dx≠a/\h.get? a=some (PySem.W.instObj C dx) /\
   ∃mA,h.Ns1 dx mA/\(∀f,RelO (fs.lookup f) (mA f))/\PySem.Within mA (fs.map (·.1))
 | .own _=>∃o,h.get? a=some o
 | .xd fs=>∃mA,h.Ns1 a mA/\∀f,RelO (fs.lookup f) (mA f)
 | .rng lo hi=>∃t u v,h.get? a=some { cls:=.type "range",data:=.fields #[.int lo t,.int hi u,.int 1 v] }
 | .frz o u=>h.get? a=some o/\ObjOk H h a u
 | .tbl ps=>h.get? a=some { cls:=.none,data:=.fields ps }
 | .met f x=>h.get? a=some (PySem.W.methodObj (.ref f) (.ref x))
 | .ext φ=>φ h/\(∃o,h.get? a=some o)/\∀h1 h2:Heap,φ h1->(∀o,h1.get? a=some o->h2.get? a=some o)->φ h2
def HOk(H:Hp)(h:Heap):Prop:=∀a o,H a=some o->ObjOk P w H h a o
end
section
variable {P:Program}{w:World}{H H':Hp}{h h':Heap}{a:Addr}{o:HO}
theorem ObjOk.lt(x:ObjOk P w H h a o):a<h.objs.size:=by
 cases o with
 | lst xs=>obtain⟨_,_,_,_,e⟩:=x;exact Heap.lt_size e
 | tup xs=>obtain⟨_,_,_,p⟩:=x;exact p.1.lt
 | dK kvs=>obtain⟨_,_,_,_,o,_,_,e,_⟩:=x;exact Heap.lt_size e
 | dT kvs=>obtain⟨_,_,_,_,o,_,_,e,_⟩:=x;exact Heap.lt_size e
 | set S n=>obtain⟨o,_,_,_,e,_⟩:=x;exact Heap.lt_size e
 | ins C dx fs=>obtain⟨_,_,_,e,_⟩:=x;exact Heap.lt_size e
 | own y=>obtain⟨_,e⟩:=x;exact Heap.lt_size e
 | xd fs=>obtain⟨_,⟨_,_,_,e,_⟩,_⟩:=x;exact Heap.lt_size e
 | rng lo hi=>obtain⟨_,_,_,e⟩:=x;exact Heap.lt_size e
 | frz ob u=>obtain⟨e,_⟩:=x;exact Heap.lt_size e
 | tbl ps=>exact Heap.lt_size (show h.get? a=some _ from x)
 | met f y=>exact Heap.lt_size (show h.get? a=some _ from x)
 | ext φ=>obtain⟨_,⟨_,e⟩,_⟩:=x;exact Heap.lt_size e
theorem Paired.mapP{α β:Type}{F G:α->β->Prop}:∀{l₁:List α} {l₂:List β},Paired F l₁ l₂->(∀a b,F a b->G a b)->Paired G l₁ l₂:=by
 intro l₁ l₂ h f
 induction h with
 | nil=>exact .nil
 | cons r _ ih=>exact .cons (f _ _ r) ih
theorem ObjOk.stay(x:ObjOk P w H h a o)(k:∀b u,(b=a\/H b=some (.own a))->h.get? b=some u->h'.get? b=some u)
  (ho:∀b,H b=some (.own a)->H' b=some (.own a)) (ht:∀b xs,H b=some (.tup xs)->H' b=some (.tup xs)):ObjOk P w H' h' a o:=by
 induction o with
 | lst xs=>obtain⟨z,its,n,r,e⟩:=x;exact⟨z,its,n,r,k _ _ (.inl rfl) e⟩
 | tup xs=>obtain⟨z,its,r,⟨ob,e,c⟩,ob2,e2,c2⟩:=x;exact⟨z,its,r,⟨ob,k _ _ (.inl rfl) e,c⟩,ob2,k _ _ (.inl rfl) e2,c2⟩
 | dK kvs=>obtain⟨z,y,vs,r,ob,es,ep,e,c⟩:=x;exact⟨z,y,vs,r,ob,es,ep,k _ _ (.inl rfl) e,c⟩
 | dT kvs =>
  obtain⟨z,y,xs,r,ob,es,ep,e,c⟩:=x
  exact⟨z,y,xs,Paired.mapP r λp q z=>⟨z.1,ht _ _ z.2.1,z.2.2⟩,ob,es,ep,k _ _ (.inl rfl) e,c⟩
 | set S n=>obtain⟨ob,es,ep,t,e,c⟩:=x;exact⟨ob,es,ep,t,k _ _ (.inl rfl) e,c⟩
 | ins C dx fs =>
  obtain⟨d,z,ne,e,mA,⟨od,es,ep,e2,c⟩,r⟩:=x
  exact⟨ho _ d,z,ne,k _ _ (.inl rfl) e,mA,⟨od,es,ep,k _ _ (.inr d) e2,c⟩,r⟩
 | own y=>obtain⟨ob,e⟩:=x;exact⟨ob,k _ _ (.inl rfl) e⟩
 | xd fs=>obtain⟨mA,⟨od,es,ep,e,c⟩,r⟩:=x;exact⟨mA,⟨od,es,ep,k _ _ (.inl rfl) e,c⟩,r⟩
 | rng lo hi=>obtain⟨t,u,v,e⟩:=x;exact⟨t,u,v,k _ _ (.inl rfl) e⟩
 | frz ob u ih=>obtain⟨e,q⟩:=x;exact⟨k _ _ (.inl rfl) e,ih q⟩
 | tbl ps =>
  have e:h.get? a=some { cls:=.none,data:=.fields ps }:=x
  show h'.get? a=some { cls:=.none,data:=.fields ps }
  exact k a _ (.inl rfl) e
 | met f y =>
  have e:h.get? a=some (PySem.W.methodObj (.ref f) (.ref y)):=x
  show h'.get? a=some (PySem.W.methodObj (.ref f) (.ref y))
  exact k a _ (.inl rfl) e
 | ext φ=>obtain⟨p,⟨o,e⟩,st⟩:=x;exact⟨st _ _ p λo q=>k _ _ (.inl rfl) q,⟨o,k _ _ (.inl rfl) e⟩,st⟩
theorem HOk.lt(x:HOk P w H h)(e:H a=some o):a<h.objs.size:=(x a o e).lt
theorem HOk.fresh(x:HOk P w H h)(e:h.objs.size<=a):H a=none:=by
 cases q:H a with
 | none=>rfl
 | some u=>exact absurd (Nat.lt_of_lt_of_le (x.lt q) e) (Nat.lt_irrefl _)
theorem HOk.kept(x:HOk P w H h)(k:∀b u,h.get? b=some u->h'.get? b=some u):HOk P w H h':=λa o e =>
 (x a o e).stay (λb u _ q=>k b u q) (λ_ q=>q) λ_ _ q=>q
theorem HOk.laid(x:HOk P w H h)(k:∀b u,h.get? b=some u->h'.get? b=some u)(hp:h.objs.size<=a)(new:ObjOk P w (upd H a o) h' a o):HOk P w (upd H a o) h':=λb u e=>by
 have hn:=x.fresh hp
 by_cases hb:b=a
 ·subst hb;rw[aK]at e;cases e;exact new
 ·rw[aF hb]at e
  exact(x b u e).stay (λc v _ q=>k c v q) (λc q=>by rw[aF (aQ q hn)];exact q) λc xs q=>by rw[aF (aQ q hn)];exact q
end
def Rd(H:Hp)(a:Addr)(u:HO):Prop:=H a=some u\/∃o,H a=some (.frz o u)
theorem Rd.ok{P:Program}{w:World}{H:Hp}{h:Heap}{a:Addr}{u:HO}(r:Rd H a u)(x:HOk P w H h):ObjOk P w H h a u:=by
 rcases r with r|⟨o,r⟩
 ·exact x a u r
 ·obtain⟨_,q⟩:=x a _ r
  exact q
def Mut:Option HO->Prop
 | some (.lst _)=>True
 | some (.dK _)=>True
 | some (.dT _)=>True
 | some (.set _ _)=>True
 | some (.ins _ _ _)=>True
 | some (.ext _)=>True
 | _=>False
section
variable {P:Program}{w:World}{H:Hp}{h h':Heap}{x e:Addr}{o':HO}
theorem HOk.write(ok:HOk P w H h)(mu:Mut (H x))(he:e=x\/H e=some (.own x))(k:∀b u,b≠e->h.get? b=some u->h'.get? b=some u)(heo:∃u,h'.get? e=some u)
  (new:ObjOk P w (upd H x o') h' x o'):HOk P w (upd H x o') h':=λb u q=>by
 have nown:∀c y,H c=some (.own y)->c≠x:=λc y r z=>by subst z;rw[r]at mu;exact mu
 have ntup:∀c xs,H c=some (.tup xs)->c≠x:=λc xs r z=>by subst z;rw[r]at mu;exact mu
 by_cases hb:b=x
 ·subst hb;rw[aK]at q;cases q;exact new
 ·rw[aF hb]at q
  by_cases hbe:b=e
  ·have q':H b=some (.own x):=by
    rcases he with z|z
    ·exact absurd (hbe.trans z) hb
    ·rw[hbe];exact z
   rw[q]at q';cases q'
   obtain⟨v,hv⟩:=heo
   exact⟨v,by rw[hbe];exact hv⟩
  ·refine(ok b u q).stay (λc v hc r=>k c v ?_ r) (λc r=>by rw[aF (nown c b r)];exact r) λc xs r=>by rw[aF (ntup c xs r)];exact r
   rcases hc with rfl|hc
   ·exact hbe
   ·rintro rfl
    rcases he with z|z
    ·exact nown c b hc z
    ·rw[hc]at z;cases z;exact hb rfl
end
structure Un(fs ex:List Addr)(H H':Hp)(h h':Heap):Prop where
 keep:∀b o,h.get? b=some o->H b=none->b∉fs->b∉ex->h'.get? b=some o
 slot:∀b o,h.get? b=some o->H b=none->b∈fs->b∉ex->∃sl,h'.get? b=some { o with slots:=sl }
 free:∀b o,h.get? b=some o->H b=none->b∉ex->H' b=none
 there:∀b o,h.get? b=some o->b∉ex->∃o',h'.get? b=some o'
 tups:∀b xs,H b=some (.tup xs)->H' b=some (.tup xs)
 frzs:∀b o u,H b=some (.frz o u)->H' b=some (.frz o u)
 tbls:∀b ps,H b=some (.tbl ps)->∃more,H' b=some (.tbl (ps++more))
section
variable {fs fs' ex ex':List Addr}{H H1 H2:Hp}{h h1 h2 h':Heap}{a x e:Addr}{o:HO}
theorem Un.any(u:Un fs ex H H1 h h1){b:Addr}{ob:Obj}(q:h.get? b=some ob)(n:H b=none)(hx:b∉ex):∃sl,h1.get? b=some { ob with slots:=sl }:=by
 by_cases hb:b∈fs
 ·exact u.slot b ob q n hb hx
 ·exact⟨ob.slots,u.keep b ob q n hb hx⟩
theorem Un.kept(k:∀b u,h.get? b=some u->h'.get? b=some u):Un fs ex H H h h' :=
 ⟨λb ob q _ _ _=>k b ob q,λb ob q _ _ _=>⟨ob.slots,k b ob q⟩,λ_ _ _ n _=>n,λb ob q _=>⟨ob,k b ob q⟩,λ_ _ q=>q,λ_ _ _ q=>q,λ_ ps q=>⟨#[],by rw[q];simp⟩⟩
theorem Un.refl:Un fs ex H H h h:=Un.kept λ_ _ q=>q
theorem Un.laid(k:∀b u,h.get? b=some u->h'.get? b=some u)(hp:h.objs.size<=a)(hn:H a=none):Un fs ex H (upd H a o) h h' where
 keep:=λb u q _ _ _=>k b u q
 slot:=λb u q _ _ _=>⟨u.slots,k b u q⟩
 free:=λb u q n _=>by rw[aF (Nat.ne_of_lt (Nat.lt_of_lt_of_le (Heap.lt_size q) hp))];exact n
 there:=λb u q _=>⟨u,k b u q⟩
 tups:=λb xs q=>by rw[aF (aQ q hn)];exact q
 frzs:=λb u xs q=>by rw[aF (aQ q hn)];exact q
 tbls:=λb ps q=>⟨#[],by rw[aF (aQ q hn),q];simp⟩
theorem Un.write(mu:Mut (H x))(he:e=x\/H e=some (.own x))(k:∀b u,b≠e->h.get? b=some u->h'.get? b=some u)(heo:∃u,h'.get? e=some u):Un fs ex H (upd H x o) h h':=by
 have hx:∀b,H b=none->b≠x:=λb n z=>by subst z;rw[n]at mu;exact mu
 have hb:∀b,H b=none->b≠e:=λb n z=>by
  subst z
  rcases he with r|r
  ·exact hx b n r
  ·rw[n]at r;cases r
 have hm:∀b u,H b=some u->¬ Mut (some u)->b≠x:=λb u q nm z=>by subst z;rw[q]at mu;exact nm mu
 refine⟨λb u q n _ _=>k b u (hb b n) q,λb u q n _ _=>⟨u.slots,k b u (hb b n) q⟩,λb u q n _=>by rw[aF (hx b n)];exact n,λb u q _=>?_,
  λb xs q=>by rw[aF (hm b _ q λz=>z)];exact q,λb u xs q=>by rw[aF (hm b _ q λz=>z)];exact q,λb ps q=>⟨#[],by rw[aF (hm b _ q λz=>z),q];simp⟩⟩
 by_cases hbe:b=e
 ·subst hbe;exact heo
 ·exact⟨u,k b u hbe q⟩
end
def trk(h:Heap)(H:Hp):List Addr:=(List.range h.objs.size).filter λa=>(H a).isSome
def pT(h:Heap)(H:Hp):Heap:=PySem.W.hideAll h (trk h H)
theorem xy(h:Heap)(H:Hp):(pT h H).objs.size=h.objs.size:=PySem.W.hideAll_size _ _
theorem zH{h:Heap}{H:Hp}{b:Addr}{o:Obj}(e:h.get? b=some o)(n:H b=none):(pT h H).get? b=some o :=
 PySem.W.hideAll_get _ e λhm=>by
  have q:(H b).isSome=true:=(List.mem_filter.mp hm).2
  rw[n]at q;simp at q
theorem Bh{h:Heap}{H:Hp}{b:Addr}{o:Obj}(e:(pT h H).get? b=some o):h.get? b=some o/\H b=none:=by
 have e':h.get? b=some o:=PySem.W.of_hideAll (trk h H) e
 refine⟨e',?_⟩
 cases q:H b with
 | none=>rfl
 | some x =>
  have hm:b∈trk h H:=List.mem_filter.mpr ⟨List.mem_range.mpr (Heap.lt_size e'),by simp[q]⟩
  have z:(pT h H).get? b=none:=PySem.W.hideAll_none (trk h H) hm
  rw[z]at e;cases e
structure Mod(K:PySem.W.Frag)(mg:zzl)(base:Heap):Prop where
 kin:K.In base
 glob:base.Ns mainGlobals mg
 blt:∃mb,base.Ns builtinsNs mb/\∀x:Str,x ≠ "__name__" -> mb x=bootBuiltins x
 nolimit:base.NoLimit
structure Cx where
 prog:Program
 w:World
 K:PySem.W.Frag
 mg:Str->Option Value
 base:Heap
 A:Around
 N:List Str
 s₀:Shared
 H₀:Hp
 env:Env
 outer:List Env
 stack:List Env
 ex:List Addr
 fn:Str->Bool
 calm:Bool
 pn:List (Addr×Obj)
 xe:Value->Shared->Prop
def frs(l:List Env):List Addr:=l.filterMap (·.frame)
abbrev Cx.fs(X:Cx):List Addr:=frs X.outer
def Vis(sc:Scope)(x:Str):Prop:=sc.names.lookup x=some .local\/sc.names.lookup x=some .cell\/sc.names.lookup x=some .free
def Loc(sc:Scope)(x:Str):Prop:=sc.names.lookup x=some .local\/sc.names.lookup x=some .cell
def Look(env:Env)(h:Heap)(m:zzl)(x:Str)(u:Value):Prop :=
 (env.kindOf x=some .local/\m x=some u)\/((env.kindOf x=some .cell\/env.kindOf x=some .free)/\∃c,env.cells.lookup x=some c/\h.IsCell c (some u))
structure Cx.Ok(X:Cx):Prop where
 mod:Mod X.K X.mg X.base
 kind:X.env.scope.kind=.function
 glob:X.env.globals=mainGlobals
 blt:X.env.builtins=builtinsNs
 above:X.s₀.heap.objs.size<=X.env.locals
 inj:∀x y c,X.env.cells.lookup x=some c->X.env.cells.lookup y=some c->x=y
 has:∀x,(X.env.kindOf x=some .cell\/X.env.kindOf x=some .free)->∃c,X.env.cells.lookup x=some c
 cab:∀x c,X.fn x=true->X.env.cells.lookup x=some c->X.s₀.heap.objs.size<=c
 hd:X.calm=true->X.A.handled=none
 frames:X.A.frames=some X.stack
 stk:X.stack=X.outer\/(X.stack=X.env::X.outer/\X.env.frame=some X.env.locals)
 exf:∀b∈X.ex,b≠X.env.locals/\∀x c,X.env.cells.lookup x=some c->c≠b
 bs:∀b o,X.base.get? b=some o->X.s₀.heap.get? b=some o/\X.H₀ b=none
 bsz:X.base.objs.size<=X.s₀.heap.objs.size
 noex:∀b o,X.base.get? b=some o->b∉X.ex
 exfs:∀b∈X.ex,b∉X.fs
 funs:X.s₀.heap.FunFrames X.base X.outer
 frf:∀b∈X.fs,X.H₀ b=none
structure Inv(X:Cx)(pins:zzk)(Z:List (Option V))(H:Hp)(s:Shared):Prop where
 ok:X.Ok
 os:s.os=X.s₀.os
 bare:AllBare s.gens
 base:Un X.fs X.ex X.H₀ H X.s₀.heap s.heap
 loc:∃m,s.heap.Ns X.env.locals m/\∀(i:Nat) (x:Str) (v:V),X.N[i]? = some x->Z[i]? = some (some v)->Vis X.env.scope x->∃u,RelV v u/\Look X.env s.heap m x u
 cell:∀x c,X.env.cells.lookup x=some c->∃v,s.heap.IsCell c v
 free:H X.env.locals=none
 freeC:∀x c,X.env.cells.lookup x=some c->H c=none
 pin:∀p∈X.pn++pins,s.heap.get? p.1=some p.2/\H p.1=none/\p.1≠X.env.locals/\p.1∉X.fs/\∀v,p.2.data≠.cell v
 hok:HOk X.prog X.w H s.heap
 len:Z.length=X.N.length
section
variable {X:Cx}{pins:zzk}{Z:List (Option V)}{H H':Hp}{s:Shared}{h':Heap}
theorem Cx.Ok.nofr(ok:X.Ok){b:Addr}{o:Obj}(e:X.base.get? b=some o):b∉X.fs:=λhb=>by
 have:=(ok.funs.mem hb).1
 rw[e]at this;cases this
theorem Inv.bs(I:Inv X pins Z H s):∀b o,X.base.get? b=some o->s.heap.get? b=some o/\H b=none:=λb o e =>
 ⟨I.base.keep b o (I.ok.bs b o e).1 (I.ok.bs b o e).2 (I.ok.nofr e) (I.ok.noex b o e),I.base.free b o (I.ok.bs b o e).1 (I.ok.bs b o e).2 (I.ok.noex b o e)⟩
theorem Inv.bk(I:Inv X pins Z H s):∀b o,X.base.get? b=some o->s.heap.get? b=some o:=λb o e=>(I.bs b o e).1
theorem Inv.mod(I:Inv X pins Z H s):Mod X.K X.mg X.base:=I.ok.mod
theorem Inv.kIn(I:Inv X pins Z H s):X.K.In s.heap:=I.ok.mod.kin.keeps I.bk
theorem Inv.lt(I:Inv X pins Z H s):X.env.locals<s.heap.objs.size:=let ⟨_,hn,_⟩:=I.loc;hn.lt
theorem Inv.sz(I:Inv X pins Z H s):X.s₀.heap.objs.size<=s.heap.objs.size:=Nat.le_trans I.ok.above (Nat.le_of_lt I.lt)
theorem Inv.nofs(I:Inv X pins Z H s){a:Addr}(h:s.heap.objs.size<=a):a∉X.fs:=λhb=>by
 obtain⟨_,o,ho,_⟩:=I.ok.funs.mem hb
 exact absurd (Nat.lt_of_lt_of_le (Heap.lt_size ho) (Nat.le_trans I.sz h)) (Nat.lt_irrefl _)
theorem Inv.cne(I:Inv X pins Z H s):∀x c,X.env.cells.lookup x=some c->c≠X.env.locals:=λx c e z=>by
 obtain⟨v,o,ho,hd⟩:=I.cell x c e
 obtain⟨m,⟨o',es,ep,ho',hd',_⟩,_⟩:=I.loc
 rw[z,ho']at ho;cases ho;rw[hd']at hd;cases hd
theorem Inv.funs(I:Inv X pins Z H s):s.heap.FunFrames X.base X.outer:=by
 have all:∀(l:List Env),(∀b∈frs l,b∈X.fs)->X.s₀.heap.FunFrames X.base l->s.heap.FunFrames X.base l:=by
  intro l
  induction l with
  | nil=>intro _ _;trivial
  | cons env r ih =>
   intro hs hl
   obtain⟨hk,⟨L,o,hf,hn,ho,hd⟩,hr⟩:=hl
   have hL:L∈X.fs:=hs L (by unfold frs;rw[List.filterMap_cons,hf];exact List.mem_cons_self)
   obtain⟨sl,e⟩:=I.base.slot L o ho (I.ok.frf L hL) hL λz=>I.ok.exfs L z hL
   exact⟨hk,⟨L,_,hf,hn,e,hd⟩,ih (λb hb=>hs b (by unfold frs;rw[List.filterMap_cons,hf];exact zzg _ hb)) hr⟩
 exact all X.outer (λ_ hb=>hb) I.ok.funs
theorem Inv.stack(I:Inv X pins Z H s):s.heap.FunFrames X.base X.stack:=by
 rcases I.ok.stk with e|⟨e,hf⟩
 ·rw[e];exact I.funs
 ·rw[e]
  obtain⟨m,hn,_⟩:=I.loc
  refine .cons (by rw[I.ok.kind];decide) hf hn ?_ I.funs
  exact Heap.get?_none_of_le (Nat.le_trans I.ok.bsz I.ok.above)
theorem Inv.stkSub(I:Inv X pins Z H s):∀b∈frs X.stack,b∈X.env.locals::X.fs:=λb hb=>by
 rcases I.ok.stk with e|⟨e,hf⟩
 ·rw[e]at hb;exact zzg _ hb
 ·rw[e]at hb
  unfold frs at hb
  rw[List.filterMap_cons,hf]at hb
  exact hb
theorem Inv.stkFree(I:Inv X pins Z H s):∀b∈frs X.stack,H b=none:=λb hb=>by
 rcases List.mem_cons.mp (I.stkSub b hb)with e|hb
 ·rw[e];exact I.free
 ·obtain⟨_,o,ho,_⟩:=I.ok.funs.mem hb
  exact I.base.free b o ho (I.ok.frf b hb) λz=>I.ok.exfs b z hb
theorem Inv.step{g':Array GenState}{t':Nat}{d':Drawn}{ch:List Addr}(I:Inv X pins Z H s)
  (hch:∀b∈ch,(b∈X.ex\/X.s₀.heap.objs.size<=b)/\b≠X.env.locals/\(∀x c,X.env.cells.lookup x=some c->c≠b)/\∀p∈X.pn++pins,p.1≠b)
  (keep:∀b o,b≠X.env.locals->b∉X.fs->b∉ch->s.heap.get? b=some o->H b=none->h'.get? b=some o)
  (slot:∀b o,b≠X.env.locals->b∈X.fs->b∉ch->s.heap.get? b=some o->H b=none->∃sl,h'.get? b=some { o with slots:=sl }) (free:∀b o,b∉ch->s.heap.get? b=some o->H b=none->H' b=none)
  (there:∀b o,b∉ch->s.heap.get? b=some o->∃o',h'.get? b=some o')
  (tups:∀b xs,H b=some (.tup xs)->H' b=some (.tup xs)) (frzs:∀b o u,H b=some (.frz o u)->H' b=some (.frz o u)) (tbls:∀b ps,H b=some (.tbl ps)->∃more,H' b=some (.tbl (ps++more)))
  (ns:∀m,s.heap.Ns X.env.locals m->h'.Ns X.env.locals m) (hok:HOk X.prog X.w H' h') (hg:AllBare g') :
  Inv X pins Z H' { s with heap:=h',gens:=g',drawn:=d',toks:=t' }:=by
 have neL:∀b o,X.s₀.heap.get? b=some o->b≠X.env.locals:=λb o e=>Nat.ne_of_lt (Nat.lt_of_lt_of_le (Heap.lt_size e) I.ok.above)
 have neC:∀b o,X.s₀.heap.get? b=some o->b∉X.ex->b∉ch:=λb o e hx hb=>by
  rcases(hch b hb).1 with z|z
  ·exact hx z
  ·exact absurd (Nat.lt_of_lt_of_le (Heap.lt_size e) z) (Nat.lt_irrefl _)
 have cellK:∀x c,X.env.cells.lookup x=some c->∀v,s.heap.IsCell c v->h'.IsCell c v:=λx c e v ⟨o,ho,hd⟩=>by
  have nch:c∉ch:=λz=>(hch c z).2.2.1 x c e rfl
  by_cases hc:c∈X.fs
  ·obtain⟨sl,q⟩:=slot c o (I.cne x c e) hc nch ho (I.freeC x c e)
   exact⟨_,q,hd⟩
  ·exact⟨o,keep c o (I.cne x c e) hc nch ho (I.freeC x c e),hd⟩
 refine⟨I.ok,I.os,hg,⟨λb o e n hb hx=>?_,λb o e n hb hx=>?_,λb o e n hx=>?_,λb o e hx=>?_,λb xs e=>tups b xs (I.base.tups b xs e),λb o xs e=>frzs b o xs (I.base.frzs b o xs e),λb ps e=>?_⟩,?_,λx c e=>?_,?_,λx c e=>?_,λp hp=>?_,hok,I.len⟩
 ·exact keep b o (neL b o e) hb (neC b o e hx) (I.base.keep b o e n hb hx) (I.base.free b o e n hx)
 ·obtain⟨sl,e1⟩:=I.base.slot b o e n hb hx
  obtain⟨sl',e2⟩:=slot b _ (neL b o e) hb (neC b o e hx) e1 (I.base.free b o e n hx)
  exact⟨sl',e2⟩
 ·obtain⟨o',e1⟩:=I.base.there b o e hx
  exact free b o' (neC b o e hx) e1 (I.base.free b o e n hx)
 ·obtain⟨o',e1⟩:=I.base.there b o e hx
  exact there b o' (neC b o e hx) e1
 ·obtain⟨m1,e1⟩:=I.base.tbls b ps e
  obtain⟨m2,e2⟩:=tbls b _ e1
  exact⟨m1++m2,by rw[e2,Array.append_assoc]⟩
 ·obtain⟨m,hn,hl⟩:=I.loc
  refine⟨m,ns m hn,λi x v e1 e2 e3=>?_⟩
  obtain⟨u,r,l⟩:=hl i x v e1 e2 e3
  refine⟨u,r,?_⟩
  rcases l with l|⟨k,c,e,z⟩
  ·exact .inl l
  ·exact .inr ⟨k,c,e,cellK x c e _ z⟩
 ·obtain⟨v,z⟩:=I.cell x c e
  exact⟨v,cellK x c e v z⟩
 ·obtain⟨m,⟨o,_,_,ho,_⟩,_⟩:=I.loc
  exact free _ o (λz=>(hch _ z).2.1 rfl) ho I.free
 ·obtain⟨v,o,ho,hd⟩:=I.cell x c e
  exact free c o (λz=>(hch c z).2.2.1 x c e rfl) ho (I.freeC x c e)
 ·obtain⟨e,n,ne,nf,d⟩:=I.pin p hp
  have nch:p.1∉ch:=λz=>(hch p.1 z).2.2.2 p hp rfl
  exact⟨keep p.1 p.2 ne nf nch e n,free p.1 p.2 nch e n,ne,nf,d⟩
theorem Inv.un{t':Nat}(I:Inv X pins Z H s)(u:Un X.fs [] H H' s.heap h')(hok:HOk X.prog X.w H' h'):Inv X pins Z H' { s with heap:=h',toks:=t' }:=by
 obtain⟨m,⟨o,es,ep,ho,r⟩,_⟩:=id I.loc
 obtain⟨sl,hL⟩:=u.any ho I.free (by simp)
 exact I.step (g':=s.gens) (d':=s.drawn) (ch:=[]) (λ_ z=>nomatch z) (λb o _ hb _ e n=>u.keep b o e n hb (by simp)) (λb o _ hb _ e n=>u.slot b o e n hb (by simp)) (λb o _ e n=>u.free b o e n (by simp)) (λb o _ e=>u.there b o e (by simp)) u.tups u.frzs u.tbls (λm' hm=>by
  obtain⟨o',es',ep',ho',r'⟩:=hm
  rw[ho]at ho';cases ho'
  exact⟨_,es',ep',hL,r'⟩) hok I.bare
theorem Inv.call{g':Array GenState}{t':Nat}{d':Drawn}{ch:List Addr}(I:Inv X pins Z H s)(u:Un (frs X.stack) ch H H' s.heap h')(hok:HOk X.prog X.w H' h')(hg:AllBare g')
  (hch:∀b∈ch,(b∈X.ex\/X.s₀.heap.objs.size<=b)/\b≠X.env.locals/\(∀x c,X.env.cells.lookup x=some c->c≠b)/\∀p∈X.pn++pins,p.1≠b) :
  Inv X pins Z H' { s with heap:=h',gens:=g',drawn:=d',toks:=t' }:=by
 obtain⟨m,⟨o,es,ep,ho,r⟩,_⟩:=id I.loc
 obtain⟨sl,hL⟩:=u.any ho I.free λz=>(hch _ z).2.1 rfl
 exact I.step (ch:=ch) hch (λb o hL hb hc e n=>u.keep b o e n (λz=>(List.mem_cons.mp (I.stkSub b z)).elim hL hb) hc) (λb o _ _ hc e n=>u.any e n hc) (λb o hc e n=>u.free b o e n hc) (λb o hc e=>u.there b o e hc) u.tups u.frzs u.tbls (λm' hm=>by
  obtain⟨o',es',ep',ho',r'⟩:=hm
  rw[ho]at ho';cases ho'
  exact⟨_,es',ep',hL,r'⟩) hok hg
theorem Inv.turned{t':Nat}{it:Addr}(I:Inv X pins Z H s)(k:∀b o,b≠it->s.heap.get? b=some o->h'.get? b=some o)(hn:H it=none)(hL:it≠X.env.locals)
  (h1:it∈X.ex\/X.s₀.heap.objs.size<=it) (h2:∀x c,X.env.cells.lookup x=some c->c≠it) (h3:∀p∈X.pn++pins,p.1≠it):Inv X pins Z H { s with heap:=h',toks:=t' }:=by
 have nit:∀b u,H b=some u->b≠it:=λb u e z=>by rw[z,hn]at e;cases e
 refine I.step (g':=s.gens) (d':=s.drawn) (ch:=[it]) (λb hb=>?_) (λb o _ _ hc e _=>k b o (λz=>hc (by simp[z])) e) (λb o _ _ hc e _=>⟨o.slots,k b o (λz=>hc (by simp[z])) e⟩) (λ_ _ _ _ n=>n)
  (λb o hc e=>⟨o,k b o (λz=>hc (by simp[z])) e⟩) (λ_ _ e=>e) (λ_ _ _ e=>e) (λb ps e=>⟨#[],by rw[e];simp⟩) (λm hm=>?_) (λb u e=>?_) I.bare
 ·have e:b=it:=by simpa using hb
  subst e
  exact⟨h1,hL,h2,h3⟩
 ·obtain⟨o,es,ep,ho,r⟩:=hm
  exact⟨o,es,ep,k _ o (Ne.symm hL) ho,r⟩
 ·refine(I.hok b u e).stay (λc v hc q=>k c v ?_ q) (λ_ q=>q) λ_ _ q=>q
  rcases hc with z|z
  ·rw[z];exact nit b u e
  ·exact nit c _ z
theorem Inv.tok(I:Inv X pins Z H s)(t:Nat):Inv X pins Z H { s with toks:=t }:=I.un (h':=s.heap) (t':=t) Un.refl I.hok
theorem Inv.kept{t':Nat}(I:Inv X pins Z H s)(k:∀b u,s.heap.get? b=some u->h'.get? b=some u):Inv X pins Z H { s with heap:=h',toks:=t' }:=I.un (Un.kept k) (I.hok.kept k)
theorem Inv.laid{a:Addr}{o:HO}{t':Nat}(I:Inv X pins Z H s)(k:∀b u,s.heap.get? b=some u->h'.get? b=some u)(hp:s.heap.objs.size<=a)(new:ObjOk X.prog X.w (upd H a o) h' a o) :
  Inv X pins Z (upd H a o) { s with heap:=h',toks:=t' }:=I.un (Un.laid k hp (I.hok.fresh hp)) (I.hok.laid k hp new)
theorem Inv.write{x e:Addr}{o:HO}{t':Nat}(I:Inv X pins Z H s)(mu:Mut (H x))(he:e=x\/H e=some (.own x))(k:∀b u,b≠e->s.heap.get? b=some u->h'.get? b=some u)(heo:∃u,h'.get? e=some u)
  (new:ObjOk X.prog X.w (upd H x o) h' x o):Inv X pins Z (upd H x o) { s with heap:=h',toks:=t' }:=I.un (Un.write mu he k heo) (I.hok.write mu he k heo new)
theorem Inv.pins_of{pins':zzk}(I:Inv X pins Z H s)(h:∀p∈pins',s.heap.get? p.1=some p.2/\H p.1=none/\p.1≠X.env.locals/\p.1∉X.fs/\∀v,p.2.data≠.cell v):Inv X pins' Z H s :=
 ⟨I.ok,I.os,I.bare,I.base,I.loc,I.cell,I.free,I.freeC,λp hp=>(List.mem_append.mp hp).elim (λz=>I.pin p (List.mem_append_left _ z)) (h p),I.hok,I.len⟩
theorem rg{N:List Str}(hN:N.Nodup){i j:Nat}{x:Str}(a:N[i]? = some x)(b:N[j]? = some x):i=j:=by
 obtain⟨h1,e1⟩:=List.getElem?_eq_some_iff.mp a
 obtain⟨h2,e2⟩:=List.getElem?_eq_some_iff.mp b
 exact(List.getElem_inj hN).mp (e1.trans e2.symm)
theorem nF{M:Model}{A:Around}{E:zzj}{i:Nat}{x:Str}{v:V}{u:Value}{Q:Unit->Shared->Prop}(I:Inv X pins Z H s)(hN:X.N.Nodup)(hi:X.N[i]? = some x)(hx:Loc X.env.scope x)(r:RelV v u)
  (h:∀s',Inv X pins (Z.set i (some v)) H s'->(∃a,Heap.SameBut a s.heap s'.heap/\(a=X.env.locals\/X.env.cells.lookup x=some a))->Q () s') (hf:X.fn x=true\/X.env.scope.names.lookup x=some .local:=by first|exact .inl rfl|exact .inr rfl|assumption):wpAny M A (storeName X.env x u) Q E s:=by
 obtain⟨m,hn,hl⟩:=id I.loc
 have hcls:(X.env.scope.kind==.class||(X.env.scope.kind==.module&&X.env.locals != X.env.globals))=false:=by rw[I.ok.kind];rfl
 have hiσ:i<Z.length:=by rw[I.len];exact(List.getElem?_eq_some_iff.mp hi).1
 have cne:=I.cne
 have tracked:∀{a:Addr} {h':Heap},(∃o,s.heap.get? a=some o/\H a=none)->Heap.SameBut a s.heap h'->HOk X.prog X.w H h':=λ{a h'} ha hs b ob e=>by
  obtain⟨_,_,hfree⟩:=ha
  refine(I.hok b ob e).stay (λc w' hc q=>(hs.2 c ?_).trans q) (λ_ q=>q) λ_ _ q=>q
  rintro rfl
  rcases hc with rfl|hc
  ·rw[hfree]at e;cases e
  ·rw[hfree]at hc;cases hc
 rcases hx with hk|hk
 ·refine wpAny_storeName_local hk hn (λh' hn' hs=>?_) hcls
  obtain⟨oL,_,_,hoL,_⟩:=id hn
  refine h _ ⟨I.ok,I.os,I.bare,⟨λb o e n hb hx=>?_,λb o e n hb hx=>?_,I.base.free,λb o e hx=>?_,I.base.tups,I.base.frzs,I.base.tbls⟩,⟨_,hn',λj y v' e1 e2 e3=>?_⟩,λy c e=>?_,I.free,I.freeC,λp hp=>?_,tracked ⟨oL,hoL,I.free⟩ hs,by simpa using I.len⟩ ⟨_,hs,.inl rfl⟩
  ·exact(hs.2 b (Nat.ne_of_lt (Nat.lt_of_lt_of_le (Heap.lt_size e) I.ok.above))).trans (I.base.keep b o e n hb hx)
  ·obtain⟨sl,e1⟩:=I.base.slot b o e n hb hx
   exact⟨sl,(hs.2 b (Nat.ne_of_lt (Nat.lt_of_lt_of_le (Heap.lt_size e) I.ok.above))).trans e1⟩
  ·obtain⟨o',e1⟩:=I.base.there b o e hx
   exact⟨o',(hs.2 b (Nat.ne_of_lt (Nat.lt_of_lt_of_le (Heap.lt_size e) I.ok.above))).trans e1⟩
  ·by_cases hj:j=i
   ·subst hj
    rw[hi]at e1;cases e1
    rw[List.getElem?_set_self hiσ]at e2
    cases e2
    exact⟨u,r,.inl ⟨hk,by simp⟩⟩
   ·rw[List.getElem?_set_ne (Ne.symm hj)]at e2
    obtain⟨u',r',q⟩:=hl j y v' e1 e2 e3
    refine⟨u',r',?_⟩
    rcases q with ⟨k,e⟩|⟨k,c,e,z⟩
    ·refine .inl ⟨k,?_⟩
     have:y≠x:=λe=>hj (rg hN e1 (e▸hi))
     simp[this,e]
    ·exact .inr ⟨k,c,e,z.sameBut hs (cne y c e)⟩
  ·obtain⟨w',z⟩:=I.cell y c e
   exact⟨w',z.sameBut hs (cne y c e)⟩
  ·obtain⟨e,n,ne,nf,d⟩:=I.pin p hp
   exact⟨(hs.2 p.1 ne).trans e,n,ne,nf,d⟩
 ·have hfn:X.fn x=true:=by
   rcases hf with z|z
   ·exact z
   ·rw[z]at hk;cases hk
  obtain⟨c,hc⟩:=I.ok.has x (.inl hk)
  obtain⟨w',z⟩:=I.cell x c hc
  refine wpAny_storeName_cell I.ok.kind hk hc z (λh' hc' hs=>?_)
  obtain⟨oc,hoc,hocd⟩:=id z
  refine h { s with heap:=h' } ⟨I.ok,I.os,I.bare,⟨λb o e n hb hx=>?_,λb o e n hb hx=>?_,I.base.free,λb o e hx=>?_,I.base.tups,I.base.frzs,I.base.tbls⟩,⟨m,hn.sameBut hs (Ne.symm (cne x c hc)),λj y v' e1 e2 e3=>?_⟩,λy c' e=>?_,I.free,I.freeC,λp hp=>?_,tracked ⟨oc,hoc,I.freeC x c hc⟩ hs,by simpa using I.len⟩ ⟨c,hs,.inr hc⟩
  ·exact(hs.2 b (Nat.ne_of_lt (Nat.lt_of_lt_of_le (Heap.lt_size e) (I.ok.cab x c hfn hc)))).trans (I.base.keep b o e n hb hx)
  ·obtain⟨sl,e1⟩:=I.base.slot b o e n hb hx
   exact⟨sl,(hs.2 b (Nat.ne_of_lt (Nat.lt_of_lt_of_le (Heap.lt_size e) (I.ok.cab x c hfn hc)))).trans e1⟩
  ·obtain⟨o',e1⟩:=I.base.there b o e hx
   exact⟨o',(hs.2 b (Nat.ne_of_lt (Nat.lt_of_lt_of_le (Heap.lt_size e) (I.ok.cab x c hfn hc)))).trans e1⟩
  ·by_cases hj:j=i
   ·subst hj
    rw[hi]at e1;cases e1
    rw[List.getElem?_set_self hiσ]at e2
    cases e2
    exact⟨u,r,.inr ⟨.inl hk,c,hc,hc'⟩⟩
   ·rw[List.getElem?_set_ne (Ne.symm hj)]at e2
    obtain⟨u',r',q⟩:=hl j y v' e1 e2 e3
    refine⟨u',r',?_⟩
    rcases q with q|⟨k,c',e,z'⟩
    ·exact .inl q
    ·refine .inr ⟨k,c',e,z'.sameBut hs ?_⟩
     rintro rfl
     exact hj (rg hN e1 (I.ok.inj _ _ _ e hc▸hi))
  ·by_cases hcc:c'=c
   ·subst hcc;exact⟨_,hc'⟩
   ·obtain⟨w2,z2⟩:=I.cell y c' e
    exact⟨w2,z2.sameBut hs hcc⟩
  ·obtain⟨e,n,ne,nf,d⟩:=I.pin p hp
   refine⟨(hs.2 p.1 ?_).trans e,n,ne,nf,d⟩
   intro q
   rw[q,hoc]at e
   have q':oc=p.2:=Option.some.inj e
   exact d w' (by rw[<-q'];exact hocd)
theorem iL{M:Model}{A:Around}{E:zzj}{i:Nat}{x:Str}{v:V}{u:Value}{Q:Unit->Shared->Prop}(I:Inv X pins Z H s)(hN:X.N.Nodup)(hi:X.N[i]? = some x)(hx:Loc X.env.scope x)(r:RelV v u)
  (h:∀s',Inv X pins (Z.set i (some v)) H s'->Q () s') (hf:X.fn x=true\/X.env.scope.names.lookup x=some .local:=by first|exact .inl rfl|exact .inr rfl|assumption):wpAny M A (storeName X.env x u) Q E s :=
 nF I hN hi hx r (λs' I' _=>h s' I') hf
theorem Inv.call'{s':Shared}{ch:List Addr}(I:Inv X pins Z H s)(ho:s'.os=s.os)(u:Un (frs X.stack) ch H H' s.heap s'.heap)(hok:HOk X.prog X.w H' s'.heap)(hg:AllBare s'.gens)
  (hch:∀b∈ch,(b∈X.ex\/X.s₀.heap.objs.size<=b)/\b≠X.env.locals/\(∀x c,X.env.cells.lookup x=some c->c≠b)/\∀p∈X.pn++pins,p.1≠b):Inv X pins Z H' s':=by
 obtain⟨h',g',d',t',o'⟩:=s'
 have e:o'=s.os:=ho
 subst e
 exact I.call (g':=g') (t':=t') (d':=d') u hok hg hch
end
abbrev XK:=Value->Option Addr->Hp->Prop
abbrev St:=List (Option V)
abbrev VK:=V->Hp->Prop
abbrev TE:=St->Hp->VK->Prop
abbrev TT:=St->Hp->(Bool->Hp->Prop)->Prop
abbrev TA:=St->Hp->(List V->Hp->Prop)->Prop
structure Ends where
 nx:St->Hp->Prop
 rt:VK
 bk:St->Hp->Prop:=λ_ _=>False
 ct:St->Hp->Prop:=λ_ _=>False
abbrev TS:=Ends->St->Hp->Prop
def EP(X:Cx)(pins:zzk)(Z:St)(Q:VK)(u:Value)(s':Shared):Prop:=∃v H',Inv X pins Z H' s'/\RelV v u/\Q v H'
def TP(X:Cx)(pins:zzk)(Z:St)(Q:Bool->Hp->Prop)(b:Bool)(s':Shared):Prop:=∃H',Inv X pins Z H' s'/\Q b H'
def AP(X:Cx)(pins:zzk)(Z:St)(Q:List V->Hp->Prop)(us:List Value)(s':Shared):Prop:=∃vs H',Inv X pins Z H' s'/\Vals vs us/\Q vs H'
def SP(X:Cx)(pins:zzk)(D:Ends)(f:Flow)(s':Shared):Prop :=
 match f with
 | .next=>∃σ' H',Inv X pins σ' H' s'/\D.nx σ' H'
 | .brk=>∃σ' H',Inv X pins σ' H' s'/\D.bk σ' H'
 | .cont=>∃σ' H',Inv X pins σ' H' s'/\D.ct σ' H'
 | .ret u=>∃v σ' H',Inv X pins σ' H' s'/\RelV v u/\D.rt v H'
def PE(X:Cx)(e:Expr)(t:TE):Prop :=
 ∀(pins:zzk) (s:Shared) (Z:St) (H:Hp) (Q:VK),Inv X pins Z H s->t Z H Q->wpAny (model X.prog X.w) X.A (eval e X.env) (EP X pins Z Q) X.xe s
def PT(X:Cx)(e:Expr)(t:TT):Prop :=
 ∀(pins:zzk) (s:Shared) (Z:St) (H:Hp) (Q:Bool->Hp->Prop),Inv X pins Z H s->t Z H Q->wpAny (model X.prog X.w) X.A (isTrue e X.env (eval e X.env)) (TP X pins Z Q) X.xe s
def PW(X:Cx)(e:Expr)(t:TT):Prop :=
 ∀(whole:Sem Value) (pins:zzk) (s:Shared) (Z:St) (H:Hp) (Q:Bool->Hp->Prop),Inv X pins Z H s->t Z H Q->wpAny (model X.prog X.w) X.A (isTrue e X.env whole) (TP X pins Z Q) X.xe s
def PA(X:Cx)(es:List Expr)(t:TA):Prop :=
 ∀(pos:Pos) (pins:zzk) (s:Shared) (Z:St) (H:Hp) (Q:List V->Hp->Prop),Inv X pins Z H s->t Z H Q->wpAny (model X.prog X.w) X.A (spliced (backTo pos (starEach es X.env))) (AP X pins Z Q) X.xe s
def PS(X:Cx)(st:Stmt)(t:TS):Prop :=
 ∀(pins:zzk) (s:Shared) (Z:St) (H:Hp) (D:Ends),Inv X pins Z H s->t D Z H->wpAny (model X.prog X.w) X.A (exec st X.env) (SP X pins D) X.xe s
def PSs(X:Cx)(st:List Stmt)(t:TS):Prop :=
 ∀(pins:zzk) (s:Shared) (Z:St) (H:Hp) (D:Ends),Inv X pins Z H s->t D Z H->wpAny (model X.prog X.w) X.A (execs st X.env) (SP X pins D) X.xe s
theorem thn{α:Type}{t:Sem α}{Q Q':α->Shared->Prop}{M:Model}{A:Around}{E:zzj}{s:Shared}(h:wpAny M A t Q E s)(hQ:∀a s,Q a s->Q' a s):wpAny M A t Q' E s:=wpAny_mono h hQ λ_ _ x=>x
section
variable {X:Cx}
def wt(i:Nat):TE:=λZ H Q=>∃v,Z[i]? = some (some v)/\Q v H
def tC(v:V):TE:=λ_ H Q=>Q v H
theorem bV{i:Nat}{x:Str}{pos:Pos}(hN:X.N[i]? = some x)(hv:Vis X.env.scope x)(hd:(x==("__debug__" : Str))=false:=by decide)(hcd:(x==("__classdict__" : Str))=false:=by decide):PE X (.Name x pos) (wt i):=by
 intro pins s Z H Q I h
 obtain⟨v,e,h⟩:=h
 obtain⟨m,hn,hl⟩:=I.loc
 obtain⟨u,r,l⟩:=hl i x v hN e hv
 have fin:EP X pins Z Q u s:=⟨v,H,I,r,h⟩
 rcases l with ⟨hk,hm⟩|⟨hk,c,hc,hcell⟩
 ·exact wpAny_Name (wpAny_loadName_local I.ok.kind hk hn hm fin) hd
 ·rcases hk with hk|hk
  ·exact wpAny_Name (wpAny_loadName_cell I.ok.kind hk hc hcell fin) hd
  ·exact wpAny_Name (wpAny_loadName_free I.ok.kind hk hc hcell fin hcd) hd
theorem DD{i j pos}:PE X (.Constant (.int i) j pos) (tC (.int i)):=λ_ _ _ H _ I h=>wpAny_Constant_int ⟨.int i,H,I.tok _,⟨_,rfl⟩,h⟩
theorem FK{b j pos}:PE X (.Constant (.bool b) j pos) (tC (.bl b)):=λ_ _ _ H _ I h=>Constant_bool ⟨.bl b,H,I,rfl,h⟩
theorem DC{j pos}:PE X (.Constant .none j pos) (tC .non):=λ_ _ _ H _ I h=>Constant_none ⟨.non,H,I,rfl,h⟩
theorem DB{x j pos}:PE X (.Constant (.str x) j pos) (tC (.str x)):=λ_ _ _ H _ I h=>Calls.Constant_str ⟨.str x,H,I.tok _,⟨_,rfl⟩,h⟩
def Gl(X:Cx)(x:Str):Prop:=X.env.kindOf x=some .globalImplicit
theorem kH{E:zzj}{pins:zzk}{s:Shared}{Z:St}{H:Hp}{x:Str}{u:Value}{pos:Pos}{Q:zzj}(I:Inv X pins Z H s)(hg:Gl X x)(hm:X.mg x=some u)(h:Q u s)
  (hd:(x==("__debug__" : Str))=false:=by decide):wpAny (model X.prog X.w) X.A (eval (.Name x pos) X.env) Q E s :=
 Calls.Name_function_global I.ok.kind hg (Calls.loadGlobal_global (by rw[I.ok.glob];exact I.mod.glob.keeps I.bk) hm h) hd
theorem pM{E:zzj}{pins:zzk}{s:Shared}{Z:St}{H:Hp}{x:Str}{u:Value}{pos:Pos}{Q:zzj}(I:Inv X pins Z H s)(hg:Gl X x)(hm:X.mg x=none)(hv:bootBuiltins x=some u)(h:Q u s)
  (hn:x ≠ "__name__":=by decide) (hd:(x==("__debug__" : Str))=false:=by decide):wpAny (model X.prog X.w) X.A (eval (.Name x pos) X.env) Q E s:=by
 obtain⟨mb,h1,h2⟩:=I.mod.blt
 exact Calls.Name_function_global I.ok.kind hg (Calls.loadGlobal_builtin (by rw[I.ok.glob];exact I.mod.glob.keeps I.bk) hm (by rw[I.ok.blt];exact h1.keeps I.bk) ((h2 x hn).trans hv) h) hd
theorem A7{x:Str}{v:V}{u:Value}{pos:Pos}(hg:Gl X x)(hm:X.mg x=some u)(r:RelV v u)(hd:(x==("__debug__" : Str))=false:=by decide):PE X (.Name x pos) (tC v) :=
 λ_ _ _ H _ I h=>kH I hg hm ⟨v,H,I,r,h⟩ hd
variable {a b:Expr}{ta tb:TE}{pos:Pos}
variable {tA tB':TT}{rest:List Expr}
def Hc(t u:TT):TT:=λZ H Q=>t Z H λc H1=>if c=true then u Z H1 Q else Q false H1
def tOr(t u:TT):TT:=λZ H Q=>t Z H λc H1=>if c=true then Q true H1 else u Z H1 Q
def G5(t:TT):TT:=λZ H Q=>t Z H λc H1=>Q (!c) H1
theorem uW(ha:PT X a tA):PW X (.BoolOp .And [a] pos) tA:=by
 intro wh pins s Z H Q I h
 refine isTrue_and (thn (ha pins s Z H Q I h) λc s1 e=>?_)
 cases c with
 | true=>exact isTrue_and_nil e
 | false=>exact e
theorem Dt(ha:PT X a tA):PW X (.BoolOp .Or [a] pos) tA:=by
 intro wh pins s Z H Q I h
 refine isTrue_or (thn (ha pins s Z H Q I h) λc s1 e=>?_)
 cases c with
 | false=>exact isTrue_or_nil e
 | true=>exact e
theorem yI(ha:PT X a tA)(hb:PW X (.BoolOp .And (b::rest) pos) tB'):PW X (.BoolOp .And (a::b::rest) pos) (Hc tA tB'):=by
 intro wh pins s Z H Q I h
 refine isTrue_and (thn (ha pins s Z H _ I h) λc s1 ⟨H1,I1,q1⟩=>?_)
 cases c with
 | true=>exact hb wh pins s1 Z H1 Q I1 q1
 | false=>exact⟨H1,I1,q1⟩
theorem FD(ha:PT X a tA)(hb:PW X (.BoolOp .Or (b::rest) pos) tB'):PW X (.BoolOp .Or (a::b::rest) pos) (tOr tA tB'):=by
 intro wh pins s Z H Q I h
 refine isTrue_or (thn (ha pins s Z H _ I h) λc s1 ⟨H1,I1,q1⟩=>?_)
 cases c with
 | true=>exact⟨H1,I1,q1⟩
 | false=>exact hb wh pins s1 Z H1 Q I1 q1
theorem yJ(ha:PT X a tA):PT X (.UnaryOp .Not a pos) (G5 tA):=by
 intro pins s Z H Q I h
 exact isTrue_not (ha pins s Z H (λc H1=>Q (!c) H1) I h)
def tIf(t:TT)(ta tb:TE):TE:=λZ H Q=>t Z H λc H1=>if c=true then ta Z H1 Q else tb Z H1 Q
theorem qV{c:Expr}(hc:PT X c tA)(ha:PE X a ta)(hb:PE X b tb):PE X (.IfExp c a b pos) (tIf tA ta tb):=by
 intro pins s Z H Q I h
 refine wpAny_IfExp (thn (hc pins s Z H _ I h) λd s1 ⟨H1,I1,q1⟩=>?_)
 cases d with
 | true=>exact ha pins s1 Z H1 Q I1 q1
 | false=>exact hb pins s1 Z H1 Q I1 q1
end
def SqL(K:PySem.W.Frag)(H:Hp)(a:Addr)(xs:List V):Prop :=
 Rd H a (.lst xs) \/
  ∃(o:Obj) (its:Array Value) (n:Nat),K.lookup a=some o/\o.cls=.type "list" /\ o.dict=none/\o.data=.seq its n/\its.size<=sizeLine/\Vals xs its.toList
def SqT(K:PySem.W.Frag)(H:Hp)(a:Addr)(xs:List V):Prop :=
 Rd H a (.tup xs) \/
  ∃(o:Obj) (its:Array Value) (n:Nat),K.lookup a=some o/\o.cls=.type "tuple" /\ o.data=.seq its n/\its.size<=sizeLine/\Vals xs its.toList
def HX:Value->Option V
 | .none=>some .non
 | .bool b=>some (.bl b)
 | .int i _=>some (.int i)
 | .str x _=>some (.str x)
 | .bytes b _=>some (.byt b)
 | .float b _=>some (.flt b)
 | .ref a=>some (.ref a)
 | .type n=>some (.ty n)
 | _=>none
theorem RelV.abs{x:V}{u:Value}(r:RelV x u):HX u=some x:=by
 cases x with
 | non=>cases r;rfl
 | bl _=>cases r;rfl
 | int _=>obtain⟨t,rfl⟩:=r;rfl
 | str _=>obtain⟨t,rfl⟩:=r;rfl
 | byt _=>obtain⟨t,rfl⟩:=r;rfl
 | flt _=>obtain⟨t,rfl⟩:=r;rfl
 | ref _=>cases r;rfl
 | ty _=>cases r;rfl
theorem RelV.inj{x y:V}{u:Value}(r:RelV x u)(q:RelV y u):x=y:=Option.some.inj (r.abs.symm.trans q.abs)
theorem Vals.inj:∀{xs ys:List V} {us:List Value},Vals xs us->Vals ys us->xs=ys:=by
 intro xs ys us h
 induction h generalizing ys with
 | nil=>intro h2;cases h2;rfl
 | cons r _ ih =>
  intro h2
  cases h2 with
  | cons r' t'=>rw[r.inj r',ih t']
section
variable {X:Cx}{pins:zzk}{Z:St}{H:Hp}{s:Shared}{a:Addr}{xs ys:List V}
theorem SqT.of{K:PySem.W.Frag}(h:H a=some (.tup xs)):SqT K H a xs:=.inl (.inl h)
theorem Inv.list(I:Inv X pins Z H s)(h:SqL X.K H a xs):∃its:List Value,Vals xs its/\PlainL s.heap a its.toArray/\xs.length<=sizeLine:=by
 rcases h with h|⟨o,its,n,hk,hc,hd,hs,hz,r⟩
 ·obtain⟨z,its,n,r,e⟩:=h.ok I.hok
  exact⟨its,r,⟨_,n,e,rfl,rfl,rfl⟩,z⟩
 ·refine⟨its.toList,r,⟨o,n,I.kIn a o hk,hc,hd,by simpa using hs⟩,?_⟩
  have e:=r.length
  simp only[Array.length_toList]at e
  lia
theorem Inv.tuple(I:Inv X pins Z H s)(h:SqT X.K H a xs):∃its:List Value,Vals xs its/\IsTup s.heap a its.toArray/\xs.length<=sizeLine:=by
 rcases h with h|⟨o,its,n,hk,hc,hs,hz,r⟩
 ·obtain⟨z,its,r,p⟩:=h.ok I.hok
  exact⟨its,r,p.1,z⟩
 ·refine⟨its.toList,r,⟨o,I.kIn a o hk,hc,n,by simpa using hs⟩,?_⟩
  have e:=r.length
  simp only[Array.length_toList]at e
  lia
theorem Inv.list_inj(I:Inv X pins Z H s)(h:SqL X.K H a xs)(h':SqL X.K H a ys):xs=ys:=by
 obtain⟨its,r,⟨o,n,e,_,_,d⟩,_⟩:=I.list h
 obtain⟨its',r',⟨o',n',e',_,_,d'⟩,_⟩:=I.list h'
 rw[e]at e';cases e'
 rw[d]at d'
 injection d' with d1 _
 have:its=its':=by simpa using congrArg Array.toList d1
 subst this
 exact r.inj r'
theorem Inv.tuple_inj(I:Inv X pins Z H s)(h:SqT X.K H a xs)(h':SqT X.K H a ys):xs=ys:=by
 obtain⟨its,r,⟨o,e,_,n,d⟩,_⟩:=I.tuple h
 obtain⟨its',r',⟨o',e',_,n',d'⟩,_⟩:=I.tuple h'
 rw[e]at e';cases e'
 rw[d]at d'
 injection d' with d1 _
 have:its=its':=by simpa using congrArg Array.toList d1
 subst this
 exact r.inj r'
end
section
variable {X:Cx}{st:Stmt}{rest:List Stmt}{t u:TS}{e:Expr}{te:TE}{pos:Pos}
def Cg:TS:=λD Z H=>D.nx Z H
def G1(t u:TS):TS:=λD Z H=>t { D with nx:=u D } Z H
theorem u4:PSs X [] Cg:=λ_ _ Z H _ I h=>wpAny_execs_nil ⟨Z,H,I,h⟩
theorem lx(h1:PS X st t)(h2:PSs X rest u):PSs X (st::rest) (G1 t u):=by
 intro pins s Z H D I h
 refine wpAny_execs_cons (thn (h1 pins s Z H { D with nx:=u D } I h) λf s1 q=>?_)
 cases f with
 | next =>
  obtain⟨σ',H',I',q⟩:=q
  exact h2 pins s1 σ' H' D I' q
 | ret v=>exact q
 | brk=>exact q
 | cont=>exact q
theorem A0(h1:PS X st t):PSs X [st] t:=by
 intro pins s Z H D I h
 refine wpAny_execs_cons (thn (h1 pins s Z H D I h) λf s1 q=>?_)
 cases f with
 | next=>exact wpAny_execs_nil q
 | ret v=>exact q
 | brk=>exact q
 | cont=>exact q
theorem A1:PS X (.Pass pos) Cg:=λ_ _ Z H _ I h=>wpAny_Pass ⟨Z,H,I,h⟩
theorem Inv.quiet{pins:zzk}{Z:St}{H:Hp}{s:Shared}(I:Inv X pins Z H s):interactive X.env=false:=by simp[interactive,I.ok.kind]
def EY(te:TE):TS:=λD Z H=>te Z H λ_ H1=>D.nx Z H1
theorem oU(he:PE X e te)(hs:swapsWith e none pos.line X.env=pure false:=by rfl):PS X (.Expr e pos) (EY te):=by
 intro pins s Z H D I h
 exact wpAny_Expr_any (thn (he pins s Z H _ I h) λv s1 ⟨x,H1,I1,r1,q1⟩=>⟨Z,H1,I1,q1⟩) I.quiet hs
def G3(te:TE):TS:=λD Z H=>te Z H D.rt
theorem tQ(he:PE X e te):PS X (.Return (some e) pos) (G3 te):=by
 intro pins s Z H D I h
 exact wpAny_Return_some (thn (he pins s Z H _ I h) λv s1 ⟨x,H1,I1,r1,q1⟩=>⟨x,Z,H1,I1,r1,q1⟩)
def G8(c:TT)(t u:TS):TS:=λD Z H=>c Z H λb H1=>if b=true then t D Z H1 else u D Z H1
theorem FG{c:Expr}{a b:List Stmt}{tc:TT}(hc:PT X c tc)(ha:PSs X a t)(hb:PSs X b u):PS X (.If c a b pos) (G8 tc t u):=by
 intro pins s Z H D I h
 refine wpAny_If (thn (hc pins s Z H _ I h) λd s1 ⟨H1,I1,q1⟩=>?_)
 cases d with
 | true=>exact ha pins s1 Z H1 D I1 q1
 | false=>exact hb pins s1 Z H1 D I1 q1
end
abbrev TG:=V->St->Hp->(St->Hp->Prop)->Prop
abbrev TGs:=List V->St->Hp->(St->Hp->Prop)->Prop
def PG(X:Cx)(target:Expr)(t:TG):Prop :=
 ∀(pins:zzk) (s:Shared) (Z:St) (H:Hp) (v:V) (u:Value) (Q:St->Hp->Prop),Inv X pins Z H s->RelV v u->t v Z H Q ->
  wpAny (model X.prog X.w) X.A (assign target X.env u) (λ_ s'=>∃σ' H',Inv X pins σ' H' s'/\Q σ' H') X.xe s
def PGs(X:Cx)(ts:List Expr)(t:TGs):Prop :=
 ∀(pins:zzk) (s:Shared) (Z:St) (H:Hp) (vs:List V) (us:List Value) (Q:St->Hp->Prop),Inv X pins Z H s->Vals vs us->t vs Z H Q ->
  wpAny (model X.prog X.w) X.A (assignInOrder ((assignEach ts X.env).map (·.2)) us) (λ_ s'=>∃σ' H',Inv X pins σ' H' s'/\Q σ' H') X.xe s
abbrev EF:=V->V->V->Hp->(Hp->Prop)->Prop
def GS(X:Cx)(t:EF):Prop :=
 ∀(pins:zzk) (s:Shared) (Z:St) (H:Hp) (o i v:V) (ov iv u:Value) (Q:Hp->Prop),Inv X pins Z H s->RelV o ov->RelV i iv->RelV v u->t o i v H Q ->
  wpAny (model X.prog X.w) X.A (setItem ov iv u) (λ_ s'=>∃H',Inv X pins Z H' s'/\Q H') X.xe s
section
variable {X:Cx}{pos:Pos}
def rN(i:Nat):TG:=λv Z H Q=>Q (Z.set i (some v)) H
theorem A6{i:Nat}{x:Str}(hN:X.N.Nodup)(hi:X.N[i]? = some x)(hx:Loc X.env.scope x)(hf:X.fn x=true\/X.env.scope.names.lookup x=some .local:=by first|exact .inl rfl|exact .inr rfl|assumption):PG X (.Name x pos) (rN i):=by
 intro pins s Z H v u Q I r h
 exact wpAny_assign_Name (iL I hN hi hx r (λs' I'=>⟨_,H,I',h⟩) hf)
def HE:TGs:=λvs Z H Q=>vs=[]/\Q Z H
def GC(t:TG)(u:TGs):TGs:=λvs Z H Q=>∃v r,vs=v::r/\t v Z H λσ' H'=>u r σ' H' Q
theorem A5:PGs X [] HE:=by
 intro pins s Z H vs us Q I r h
 obtain⟨e,h⟩:=h
 subst e
 cases r
 exact assignInOrder_nil ⟨Z,H,I,h⟩
theorem yP{e:Expr}{es:List Expr}{t:TG}{u:TGs}(h1:PG X e t)(h2:PGs X es u)
  (hs:(assignEach (e::es) X.env).map (·.2)=assign e X.env::(assignEach es X.env).map (·.2):=by rfl):PGs X (e::es) (GC t u):=by
 intro pins s Z H vs us Q I r h
 obtain⟨v,vr,e1,h⟩:=h
 subst e1
 cases r with
 | cons r rr =>
  rw[hs]
  refine assignInOrder_cons (thn (h1 pins s Z H _ _ _ I r h) λ_ s1 ⟨σ1,H1,I1,q1⟩=>?_)
  exact h2 pins s1 σ1 H1 _ _ Q I1 rr q1
def HC(K:PySem.W.Frag)(n:Nat)(t:TGs):TG:=λv Z H Q=>∃a xs,v=.ref a/\SqT K H a xs/\xs.length=n/\t xs Z H Q
theorem Dz{es:List Expr}{k:Nat}{t:TGs}{n:Nat}(hc:X.calm=true)(h:PGs X es t)
  (hn:(assignEach es X.env).length=n:=by rfl) (hst:(assignEach es X.env).findIdx? (·.1)=none:=by rfl):PG X (.Tuple es k pos) (HC X.K n t):=by
 intro pins s Z H v u Q I r hw
 obtain⟨a,xs,e1,hq,hl,hw⟩:=hw
 subst e1
 cases r
 obtain⟨its,rv,ht,hz⟩:=I.tuple hq
 refine assign_Tuple_tuple (I.ok.hd hc) ht (by simp[hn,<-hl,rv.length]) hst λh' hx=>?_
 have I1:Inv X pins Z H { s with heap:=h' }:=I.kept (t':=s.toks) λb o e=>hx b o (Nat.ne_of_lt (Heap.lt_size e)) e
 exact h pins _ Z H xs _ Q I1 (by simpa using rv) hw
def HD(to ti:TE)(t:EF):TG:=λv Z H Q=>to Z H λo H1=>ti Z H1 λi H2=>t o i v H2 λH3=>Q Z H3
theorem DA{o i:Expr}{to ti:TE}{t:EF}(ho:PE X o to)(hi:PE X i ti)(hs:GS X t)
  (ha:∀v,assign (.Subscript o i pos) X.env v=(do
   let ov <-holding [v] (eval o X.env)
   let iv <-holding [v,ov] (eval i X.env)
   standAt pos
   holding [v,ov,iv] (setItem ov iv v)
   release [v,ov,iv] []):=by intro _;rfl):PG X (.Subscript o i pos) (HD to ti t):=by
 intro pins s Z H v u Q I r h
 rw[ha]
 refine zza (wpAny_holding (thn (ho pins s Z H _ I h) λov s1 ⟨x,H1,I1,r1,q1⟩=>?_))
 refine zza (wpAny_holding (thn (hi pins s1 Z H1 _ I1 q1) λiv s2 ⟨y,H2,I2,r2,q2⟩=>?_))
 refine zza (wpAny_standAt (zza (wpAny_holding (thn (hs pins s2 Z H2 x y v ov iv u _ I2 r1 r2 r q2) λ_ s3 ⟨H3,I3,q3⟩=>?_))))
 exact wpAny_release ⟨Z,H3,I3,q3⟩
def De(te:TE)(g:TG):TS:=λD Z H=>te Z H λx H1=>g x Z H1 D.nx
theorem Dx{tg e:Expr}{te:TE}{g:TG}(he:PE X e te)(hg:PG X tg g)(hs:swapsWithSole [tg] e pos.line X.env=pure false:=by rfl)(hw:swappedStores [tg] e X.env=pure none:=by rfl)
  (h1:(assignEach [tg] X.env).map (·.2)=[assign tg X.env]:=by rfl):PS X (.Assign [tg] e pos) (De te g):=by
 intro pins s Z H D I h
 refine wpAny_Assign_stores (thn (he pins s Z H _ I h) λv s1 ⟨x,H1,I1,r1,q1⟩=>?_) hs hw
 rw[h1]
 exact thn (hg pins s1 Z H1 x v _ I1 r1 q1) λ_ s2 q=>q
theorem oS{i:Nat}{x:Str}{e:Expr}{te:TE}{pos':Pos}(hN:X.N.Nodup)(hi:X.N[i]? = some x)(hx:Loc X.env.scope x)(he:PE X e te)(hs:swapsWith e (some (.Name x pos')) pos.line X.env=pure false:=by rfl)(hf:X.fn x=true\/X.env.scope.names.lookup x=some .local:=by first|exact .inl rfl|exact .inr rfl|assumption) :
  PS X (.Assign [.Name x pos'] e pos) (De te (rN i)):=by
 intro pins s Z H D I h
 refine wpAny_Assign_Name (thn (he pins s Z H _ I h) λv s1 ⟨y,H1,I1,r1,q1⟩=>?_) hs
 exact iL I1 hN hi hx r1 (λs2 I2=>⟨_,H1,I2,q1⟩) hf
def G4(i j:Nat)(ta:TA):TS:=λD Z H=>ta Z H λvs H1=>∃v w,vs=[v,w]/\D.nx ((Z.set i (some v)).set j (some w)) H1
theorem Du{i j:Nat}{x y:Str}{a b:Expr}{ta:TA}{px py pt:Pos}{kt k2 pt2}(hc:X.calm=true)(hN:X.N.Nodup)(hi:X.N[i]? = some x)(hj:X.N[j]? = some y)(hij:i≠j)
  (hx:X.env.scope.names.lookup x=some .local) (hy:X.env.scope.names.lookup y=some .local) (ha:PA X [a,b] ta)
  (hw:swappedStores [.Tuple [.Name x px,.Name y py] kt pt] (.Tuple [a,b] k2 pt2) X.env=pure (some [x,y]))
  (hs:swapsWithSole [.Tuple [.Name x px,.Name y py] kt pt] (.Tuple [a,b] k2 pt2) pos.line X.env=pure false:=by rfl) :
  PS X (.Assign [.Tuple [.Name x px,.Name y py] kt pt] (.Tuple [a,b] k2 pt2) pos) (G4 i j ta):=by
 intro pins s Z H D I h
 rw[exec_Assign_arm]
 refine zza (wpAny_standAt ?_)
 rw[hs]
 refine zza (zzb ?_)
 rw[if_neg (by decide)]
 refine zza (Tuple_ (thn (ha _ pins s Z H _ I h) λus s1 ⟨vs,H1,I1,r1,q1⟩=>?_))
 obtain⟨v,w,e1,q1⟩:=q1
 subst e1
 obtain⟨u1,u2,rfl,rv,rw'⟩:∃u1 u2,us=[u1,u2]/\RelV v u1/\RelV w u2:=by
  cases r1 with
  | cons p q =>
   cases q with
   | cons p' q' =>
    cases q'
    exact⟨_,_,rfl,p,p'⟩
 refine wpAny_newObj_type ?_ (by show 2<=sizeLine;decide)
 have I2:Inv X pins Z H1 { s1 with heap:=s1.heap.push { cls:=.type "tuple",data:=.seq [u1,u2].toArray } }:=I1.kept (t':=s1.toks) λb o e=>zzc _ e
 rw[hw]
 refine zza (zzb ?_)
 show wpAny (model X.prog X.w) X.A (do rule "assign.swapped-stores";let items <-unpackItems (.ref s1.heap.objs.size) 2 none;assignInOrder [λv=>bindName X.env y v,λv=>bindName X.env x v] items.reverse;pure Flow.next) _ _ _
 refine zza (wpAny_rule (zza (unpackItems_tuple (items:=#[u1,u2]) (I.ok.hd hc) (IsTup.new s1.heap _) λh' hx'=>?_)))
 have I3:=I2.kept (h':=h') (t':=s1.toks) λb o e=>hx' b o (Nat.ne_of_lt (Heap.lt_size e)) e
 show wpAny _ _ (assignInOrder [λv=>bindName X.env y v,λv=>bindName X.env x v] [u2,u1] >>= λ_=>pure Flow.next) _ _ _
 refine zza (assignInOrder_cons (wpAny_bindName (iL I3 hN hj (.inl hy) rw' (λs2 I4=>?_) (.inr hy))))
 refine assignInOrder_cons (wpAny_bindName (iL I4 hN hi (.inl hx) rv (λs3 I5=>assignInOrder_nil (zzb ?_)) (.inr hx)))
 rw[List.set_comm _ _ (Ne.symm hij)]at I5
 exact⟨_,H1,I5,q1⟩
end
section
variable {X:Cx}{pos:Pos}
def Dc(c:TT)(tb:TS):TS:=λD Z H=>∃W:Nat->St->Hp->Prop,(∃m,W m Z H)/\∀m Z H,W m Z H ->
 c Z H λb H1=>if b=true then ∃N:St->Hp->Prop,(∀σ' H',N σ' H'->∃m',m'<m/\W m' σ' H')/\tb { D with nx:=N,ct:=N,bk:=D.nx } Z H1 else D.nx Z H1
theorem yL{c:Expr}{body:List Stmt}{tc:TT}{tb:TS}(hp:PassesOwn (model X.prog X.w) X.A X.env X.xe)(hc:PT X c tc)(hb:PSs X body tb):PS X (.While c body [] pos) (Dc tc tb):=by
 intro pins s Z H D I h
 obtain⟨W,⟨m0,w0⟩,turn⟩:=h
 refine wpAny_While (codeAny_whileLoop (λn s'=>∃σ' H',Inv X pins σ' H' s'/\W n σ' H') ?_ m0 ⟨Z,H,I,w0⟩)
 rintro n s1 ⟨σ1,H1,I1,w1⟩
 refine wpAny_passesOwn hp (thn (hc pins s1 σ1 H1 _ I1 (turn n σ1 H1 w1)) λb s2 ⟨H2,I2,q2⟩=>?_)
 cases b with
 | true =>
  obtain⟨N,hN,q2⟩:=q2
  rw[if_pos rfl]
  refine wpAny_passesOwn hp (thn (hb pins s2 σ1 H2 _ I2 q2) λf s3 q3=>?_)
  cases f with
  | next =>
   obtain⟨σ3,H3,I3,n3⟩:=q3
   obtain⟨m',hm,w3⟩:=hN σ3 H3 n3
   exact⟨m',hm,σ3,H3,I3,w3⟩
  | cont =>
   obtain⟨σ3,H3,I3,n3⟩:=q3
   obtain⟨m',hm,w3⟩:=hN σ3 H3 n3
   exact⟨m',hm,σ3,H3,I3,w3⟩
  | brk=>exact q3
  | ret v=>exact q3
 | false =>
  rw[if_neg Bool.false_ne_true]
  exact wpAny_execs_nil ⟨σ1,H2,I2,q2⟩
end
structure It where
 go:Nat->Hp->Prop
 yld:Nat->Hp->V->Hp->Prop
 stop:Nat->Hp->Prop
def mM(X:Cx)(pins:zzk)(H:Hp)(b:Addr):Prop :=
 H b=none/\b≠X.env.locals/\b∉X.fs/\(b∈X.ex\/X.s₀.heap.objs.size<=b)/\(∀x c,X.env.cells.lookup x=some c->c≠b)/\∀p∈X.pn++pins,p.1≠b
theorem Inv.fpOk{X:Cx}{pins:zzk}{Z:St}{H H':Hp}{s:Shared}{b:Addr}(I:Inv X pins Z H s)(hb:s.heap.objs.size<=b)(hn:H' b=none):mM X pins H' b:=by
 refine⟨hn,Nat.ne_of_gt (Nat.lt_of_lt_of_le I.lt hb),I.nofs hb,.inr (Nat.le_trans I.sz hb),λx c e z=>?_,λp hp z=>?_⟩
 ·obtain⟨v,q⟩:=I.cell x c e
  exact absurd (Nat.lt_of_lt_of_le q.lt (by rw[z];exact hb)) (Nat.lt_irrefl _)
 ·exact absurd (Nat.lt_of_lt_of_le (Heap.lt_size (I.pin p hp).1) (by rw[z];exact hb)) (Nat.lt_irrefl _)
structure Turn(P:Program)(w:World)(K:PySem.W.Frag)(tg:Expr)(J:It)(fp:List Addr)(it:Addr)(tn:Nat->Heap->Prop):Prop where
 mem:it∈fp
 obj:∀i h,tn i h->∀b∈fp,∃o,h.get? b=some o/\∀v,o.data≠.cell v
 keep:∀i h h',tn i h->(∀b∈fp,∀o,h.get? b=some o->h'.get? b=some o)->tn i h'
 item:∀(X:Cx),X.prog=P->X.w=w->X.K=K->X.calm=true->∀(i:Nat) (pins:zzk) (s:Shared) (Z:St) (H:Hp) (E:zzj),Inv X pins Z H s->(∀b∈fp,mM X pins H b)->tn i s.heap->J.go i H ->
  wpAny (model P w) X.A (pyNext (.ref it)) (λr s1=>∃u,r=some u /\
   wpAny (model P w) X.A (letOwnedTupleGo tg (.ref it) u) (λ_ s2=>∃x H',Inv X pins Z H' s2/\RelV x u/\J.yld i H x H'/\tn (i+1) s2.heap/\∀b∈fp,H' b=none) E s1) E s
 done:∀(X:Cx),X.prog=P->X.w=w->X.K=K->X.calm=true->∀(i:Nat) (pins:zzk) (s:Shared) (Z:St) (H:Hp) (E:zzj),Inv X pins Z H s->(∀b∈fp,mM X pins H b)->tn i s.heap->J.stop i H ->
  wpAny (model P w) X.A (pyNext (.ref it)) (λr s1=>r=none/\Inv X pins Z H s1) E s
 self:∀(A:Around) (i:Nat) (s:Shared) (Q:zzj) (E:zzj),tn i s.heap->Q (.ref it) s->wpAny (model P w) A (pyIter (.ref it)) Q E s
abbrev TI:=St->Hp->(It->Hp->Prop)->Prop
def PIE(X:Cx)(pins:zzk)(Z:St)(tg:Expr)(R:It->Hp->Prop)(itv:Value)(s2:Shared):Prop :=
 ∃(it:Addr) (fp:List Addr) (tn:Nat->Heap->Prop) (J:It) (H':Hp),itv=.ref it/\Inv X pins Z H' s2/\Turn X.prog X.w X.K tg J fp it tn/\tn 0 s2.heap/\(∀b∈fp,mM X pins H' b)/\R J H'
def PI(X:Cx)(tg iter:Expr)(wi:TI):Prop :=
 ∀(pins:zzk) (s:Shared) (Z:St) (H:Hp) (R:It->Hp->Prop),Inv X pins Z H s->wi Z H R ->
  wpAny (model X.prog X.w) X.A (eval iter X.env) (λv s1=>wpAny (model X.prog X.w) X.A (pyIter v) (PIE X pins Z tg R) X.xe s1) X.xe s
theorem vG{M:Model}{A:Around}{E:zzj}{s:Shared}{tg:Expr}{it:Addr}{u:Value}{o:Obj}{n:String}{vs:Array Value}{Q:Unit->Shared->Prop}(ho:s.heap.get? it=some o)(hc:o.cls=.type n)(hd:o.data=.fields vs)
  (hn:["enumerate", "zip", "dict_itemiterator", "dict_reverseitemiterator", "odict_iterator", "itertools.zip_longest", "itertools.pairwise"].contains n=false) (hQ:Q () s):wpAny M A (letOwnedTupleGo tg (.ref it) u) Q E s:=by
 unfold letOwnedTupleGo
 cases tg<;>first
  | exact zzb hQ
  | (cases u<;>first
     | exact zzb hQ
     | (refine zza (wpAny_load ho ?_)
        rw[hc,hd]
        show wpAny M A (if(["enumerate", "zip", "dict_itemiterator", "dict_reverseitemiterator", "odict_iterator", "itertools.zip_longest", "itertools.pairwise"].contains n&&vs[0]? == some (rawInt _))=true then _ else _) Q E s
        rw[if_neg (by intro h;rw[hn,Bool.false_and]at h;cases h)]
        exact zzb hQ))
def Itl(K:PySem.W.Frag)(a:Addr):It :=
 ⟨λi H=>∃xs x,SqL K H a xs/\xs[i]? = some x,λi H x H'=>H'=H/\∀xs,SqL K H a xs->xs[i]? = some x,λi H=>∃xs,SqL K H a xs/\xs.length<=i⟩
def Itt(K:PySem.W.Frag)(a:Addr):It :=
 ⟨λi H=>∃xs x,SqT K H a xs/\xs[i]? = some x,λi H x H'=>H'=H/\∀xs,SqT K H a xs->xs[i]? = some x,λi H=>∃xs,SqT K H a xs/\xs.length<=i⟩
def Itr(lo:Int)(n:Nat):It:=⟨λi _=>i<n,λi H x H'=>H'=H/\x=.int (lo+i),λi _=>n<=i⟩
theorem wj{P:Program}{w:World}{K:PySem.W.Frag}{tg:Expr}(a it:Addr):Turn P w K tg (Itl K a) [it] it (λi h=>h.IsListIter it a i) where
 mem:=by simp
 obj:=λi h st b hb=>by
  have e:b=it:=by simpa using hb
  subst e
  obtain⟨o,e,c,d⟩:=st
  exact⟨o,e,λv z=>by rw[d]at z;cases z⟩
 keep:=λi h h' st k=>st.at λo e=>k it (by simp) o e
 item:=by
  intro X hP hw hK hc i pins s Z H E I hf st hg
  subst hP hw hK
  obtain⟨xs,x,hq,hx⟩:=hg
  obtain⟨its,rv,p,hz⟩:=I.list hq
  obtain⟨u,hu,ru⟩:=rv.get hx
  obtain⟨f0,f1,f2,f3,f4,f5⟩:=hf it (by simp)
  refine wpAny_pyNext_list_item st p.isList (x:=u) (by simpa using hu) λh' st' sb=>?_
  have I1:Inv X pins Z H { s with heap:=h' }:=I.turned (t':=s.toks) (λb o hb e=>(sb.2 b hb).trans e) f0 f1 f3 f4 f5
  obtain⟨o,e,c,d⟩:=id st'
  exact⟨u,rfl,vG (s:={ s with heap:=h' }) e c d (by decide) ⟨x,H,I1,ru,⟨rfl,λys hy=>by rw[I.list_inj hy hq];exact hx⟩,st',λb hb=>(hf b hb).1⟩⟩
 done:=by
  intro X hP hw hK hc i pins s Z H E I hf st hg
  subst hP hw hK
  obtain⟨xs,hq,hx⟩:=hg
  obtain⟨its,rv,p,hz⟩:=I.list hq
  obtain⟨f0,f1,f2,f3,f4,f5⟩:=hf it (by simp)
  have hl:=rv.length
  exact wpAny_pyNext_list_end (I.ok.hd hc) st p.isList (by simp;lia) λh' eb=>⟨rfl,I.turned (t':=s.toks) (λb o hb e=>eb b o hb e) f0 f1 f3 f4 f5⟩
 self:=λ_ _ _ _ _ st h=>wpAny_pyIter_listiter st h
theorem tF{P:Program}{w:World}{K:PySem.W.Frag}{tg:Expr}(a it:Addr):Turn P w K tg (Itt K a) [it] it (λi h=>h.IsTupleIter it a i) where
 mem:=by simp
 obj:=λi h st b hb=>by
  have e:b=it:=by simpa using hb
  subst e
  obtain⟨o,e,c,d⟩:=st
  exact⟨o,e,λv z=>by rw[d]at z;cases z⟩
 keep:=λi h h' st k=>st.at λo e=>k it (by simp) o e
 item:=by
  intro X hP hw hK hc i pins s Z H E I hf st hg
  subst hP hw hK
  obtain⟨xs,x,hq,hx⟩:=hg
  obtain⟨its,rv,p,hz⟩:=I.tuple hq
  obtain⟨u,hu,ru⟩:=rv.get hx
  obtain⟨f0,f1,f2,f3,f4,f5⟩:=hf it (by simp)
  refine wpAny_pyNext_tuple_item st (show s.heap.IsTuple a its.toArray from p) (x:=u) (by simpa using hu) λh' st' sb=>?_
  have I1:Inv X pins Z H { s with heap:=h' }:=I.turned (t':=s.toks) (λb o hb e=>(sb.2 b hb).trans e) f0 f1 f3 f4 f5
  obtain⟨o,e,c,d⟩:=id st'
  exact⟨u,rfl,vG (s:={ s with heap:=h' }) e c d (by decide) ⟨x,H,I1,ru,⟨rfl,λys hy=>by rw[I.tuple_inj hy hq];exact hx⟩,st',λb hb=>(hf b hb).1⟩⟩
 done:=by
  intro X hP hw hK hc i pins s Z H E I hf st hg
  subst hP hw hK
  obtain⟨xs,hq,hx⟩:=hg
  obtain⟨its,rv,p,hz⟩:=I.tuple hq
  obtain⟨f0,f1,f2,f3,f4,f5⟩:=hf it (by simp)
  have hl:=rv.length
  exact wpAny_pyNext_tuple_end (I.ok.hd hc) st (show s.heap.IsTuple a its.toArray from p) (by simp;lia) λh' eb=>⟨rfl,I.turned (t':=s.toks) (λb o hb e=>eb b o hb e) f0 f1 f3 f4 f5⟩
 self:=λ_ _ _ _ _ st h=>wpAny_pyIter_tupleiter st h
theorem tG{P:Program}{w:World}{K:PySem.W.Frag}{tg:Expr}(it:Addr)(lo:Int)(n:Nat):Turn P w K tg (Itr lo n) [it] it (λi h=>IsRangeIter h it (lo+(i:Nat)*1) ((n:Int) - (i:Nat)) 1) where
 mem:=by simp
 obj:=λi h st b hb=>by
  have e:b=it:=by simpa using hb
  subst e
  exact⟨_,st,λv z=>by
   have z':Data.fields _=Data.cell v:=z
   cases z'⟩
 keep:=λi h h' st k=>k it (by simp) _ st
 item:=by
  intro X hP hw hK hc i pins s Z H E I hf st hg
  subst hP hw hK
  obtain⟨f0,f1,f2,f3,f4,f5⟩:=hf it (by simp)
  have W:=Walks.range (prog:=X.prog) (w:=X.w) (I.ok.hd hc) it lo 1 n
  refine W.item i s _ _ hg st λv h' tk hv st' kk=>?_
  obtain⟨t,rfl⟩:=hv
  have I1:Inv X pins Z H { s with heap:=h',toks:=tk }:=I.turned (λb o hb e=>kk b o (by simpa using hb) e) f0 f1 f3 f4 f5
  refine⟨_,rfl,vG (s:={ s with heap:=h',toks:=tk }) (n := "range_iterator") st' rfl rfl (by decide) ⟨.int (lo+i),H,I1,⟨t,?_⟩,⟨rfl,rfl⟩,st',λb hb=>(hf b hb).1⟩⟩
  rw[Int.mul_one]
 done:=by
  intro X hP hw hK hc i pins s Z H E I hf st hg
  subst hP hw hK
  obtain⟨f0,f1,f2,f3,f4,f5⟩:=hf it (by simp)
  exact wpAny_pyNext_range_end (I.ok.hd hc) st (by have:n<=i:=hg;lia) λh' eb=>⟨rfl,I.turned (t':=s.toks) (λb o hb e=>eb b o hb e) f0 f1 f3 f4 f5⟩
 self:=λ_ _ _ _ _ st h=>wpAny_pyIter_rangeiter st h
section
variable {X:Cx}{tg:Expr}
theorem qQ{pins:zzk}{Z:St}{H:Hp}{s:Shared}{R:It->Hp->Prop}{E:zzj}{lo hi:Int}{t u v:Tok}{tk:Nat}(I:Inv X pins Z H s)(h1 : -(2^62)<=lo)(h2:lo<2^62)(h3 : -(2^62)<=hi)(h4:hi<2^62)
  (q:R (Itr lo (hi - lo).toNat) H):wpAny (model X.prog X.w) X.A (pyIter (.ref s.heap.objs.size)) (PIE X pins Z tg R) E { s with heap:=s.heap.push { cls:=.type "range",data:=.fields #[.int lo t,.int hi u,.int 1 v] },toks:=tk }:=by
 refine wpAny_pyIter_range (IsRange.new ..) (small_one h1 h2 h3 h4) ?_
 have I1:Inv X pins Z H { s with heap:=s.heap.push { cls:=.type "range",data:=.fields #[.int lo t,.int hi u,.int 1 v] },toks:=tk }:=I.kept λb o e=>zzc _ e
 refine⟨(s.heap.push { cls:=.type "range",data:=.fields #[.int lo t,.int hi u,.int 1 v] }).objs.size,[(s.heap.push { cls:=.type "range",data:=.fields #[.int lo t,.int hi u,.int 1 v] }).objs.size],_,_,H,rfl,
  I1.kept (t':=tk) λb o e=>zzc _ e,tG _ lo (hi - lo).toNat,?_,λb hb=>?_,q⟩
 ·have e1:lo+((0:Nat):Int)*1=lo:=by simp
  have e2:(((hi - lo).toNat:Nat):Int) - ((0:Nat):Int)=Builtin.Range.rangeSize lo hi 1:=by rw[rangeSize_one];split<;>lia
  show IsRangeIter _ _ (lo+((0:Nat):Int)*1) ((((hi - lo).toNat:Nat):Int) - ((0:Nat):Int)) 1
  rw[e1,e2]
  exact zze _ rfl
 ·have e:b=(s.heap.push { cls:=.type "range",data:=.fields #[.int lo t,.int hi u,.int 1 v] }).objs.size:=by simpa using hb
  subst e
  exact I1.fpOk (Nat.le_refl _) (I1.hok.fresh (Nat.le_refl _))
def Gz(ta:TA):TI:=λZ H R=>ta Z H λvs H1=>∃j:Int,vs=[.int j] /\ -(2^62)<=j/\j<2^62/\R (Itr 0 j.toNat) H1
def Gy(ta:TA):TI:=λZ H R=>ta Z H λvs H1=>∃i j:Int,vs=[.int i,.int j]/\(-(2^62)<=i/\i<2^62 /\ -(2^62)<=j/\j<2^62)/\R (Itr i (j - i).toNat) H1
theorem nK{a:Expr}{ta:TA}{p pos:Pos}(hg:Gl X "range")(hm:X.mg "range" = none)(ha:PA X [a] ta)(hs:starEach [a] X.env=[(false,eval a X.env)]:=by rfl):PI X tg (.Call (.Name "range" p) [a] [] pos) (Gz ta):=by
 intro pins s Z H R I h
 refine Call_ (pM I hg hm boot_range (PyProof.Rows.callWith_type1 (thn (ha pos pins s Z H _ I h) λus s1 ⟨vs,H1,I1,r1,q1⟩=>?_) hs rfl))
 obtain⟨j,e,q1,q2,q⟩:=q1
 subst e
 cases r1 with
 | cons r rr =>
  cases rr
  obtain⟨t,rfl⟩:=r
  exact call_range_1 (qQ I1 (by lia) (by lia) q1 q2 (by simpa using q))
theorem wM{a b:Expr}{ta:TA}{p pos:Pos}(hg:Gl X "range")(hm:X.mg "range" = none)(ha:PA X [a,b] ta)(hs:starEach [a,b] X.env=[(false,eval a X.env),(false,eval b X.env)]:=by rfl)(hs2:starEach [b] X.env=[(false,eval b X.env)]:=by rfl) :
  PI X tg (.Call (.Name "range" p) [a,b] [] pos) (Gy ta):=by
 intro pins s Z H R I h
 refine Call_ (pM I hg hm boot_range (PyProof.Rows.callWith_type1 (thn (ha pos pins s Z H _ I h) λus s1 ⟨vs,H1,I1,r1,q1⟩=>?_) (by rw[hs,hs2]) (by rw[hs2];rfl)))
 obtain⟨i,j,e,⟨q1,q2,q3,q4⟩,q⟩:=q1
 subst e
 cases r1 with
 | cons r rr =>
  cases rr with
  | cons r' rr =>
   cases rr
   obtain⟨t,rfl⟩:=r
   obtain⟨t',rfl⟩:=r'
   exact call_range_2 (qQ I1 q1 q2 q3 q4 q)
def G9(wi:TI)(g:TG)(tb:TS):TS:=λD Z H=>wi Z H λJ H1=>∃W:Nat->Nat->St->Hp->Prop,(∃m,W 0 m Z H1)/\∀i m Z H,W i m Z H ->
 (J.stop i H/\D.nx Z H)\/(J.go i H/\∃N:St->Hp->Prop,(∀σ' H',N σ' H'->∃m',m'<m/\W (i+1) m' σ' H')/\∀x H',J.yld i H x H'->g x Z H' λσ2 H2=>tb { D with nx:=N,ct:=N,bk:=D.nx } σ2 H2)
def lz(fp:List Addr)(h:Heap):List (Addr×Obj):=fp.filterMap λb=>(h.get? b).map λo=>(b,o)
theorem fP{fp:List Addr}{h:Heap}{b:Addr}{o:Obj}(hb:b∈fp)(e:h.get? b=some o):(b,o)∈lz fp h:=List.mem_filterMap.mpr ⟨b,hb,by rw[e];rfl⟩
theorem wV{fp:List Addr}{h:Heap}{p:Addr×Obj}(hp:p∈lz fp h):p.1∈fp/\h.get? p.1=some p.2:=by
 obtain⟨b,hb,e⟩:=List.mem_filterMap.mp hp
 cases q:h.get? b with
 | none=>rw[q]at e;cases e
 | some o =>
  rw[q]at e
  have e':(b,o)=p:=Option.some.inj e
  subst e'
  exact⟨hb,q⟩
theorem Inv.pinned{pins:zzk}{Z:St}{H:Hp}{s:Shared}{fp:List Addr}(I:Inv X pins Z H s)(hf:∀b∈fp,mM X pins H b)(ho:∀b∈fp,∃o,s.heap.get? b=some o/\∀v,o.data≠.cell v):Inv X (pins++lz fp s.heap) Z H s :=
 I.pins_of λp hp=>(List.mem_append.mp hp).elim (λz=>I.pin p (List.mem_append_right _ z)) λz=>by
  obtain⟨hb,e⟩:=wV z
  obtain⟨f0,f1,f2,_⟩:=hf p.1 hb
  obtain⟨o,e',d⟩:=ho p.1 hb
  rw[e]at e';cases e'
  exact⟨e,f0,f1,f2,d⟩
theorem Inv.unpinned{pins pl:zzk}{Z:St}{H:Hp}{s:Shared}(I:Inv X (pins++pl) Z H s):Inv X pins Z H s:=I.pins_of λp hp=>I.pin p (List.mem_append_right _ (List.mem_append_left _ hp))
theorem Dv{iter:Expr}{body:List Stmt}{wi:TI}{g:TG}{tb:TS}{pos:Pos}(hp:PassesOwn (model X.prog X.w) X.A X.env X.xe)(hc:X.calm=true)(hi:PI X tg iter wi)(hg:PG X tg g)(hb:PSs X body tb)
  (hs:∀x,foldedSetIterable iter X.env x=pure x:=by intro _;rfl):PS X (.For tg iter body [] pos) (G9 wi g tb):=by
 intro pins s Z H D I h
 refine wpAny_For (thn (hi pins s Z H _ I h) λv s1 h1=>thn h1 λitv s2 h2=>?_) hs
 obtain⟨it,fp,tn,J,H2,e,I2,T,st2,f2,W,⟨m0,w0⟩,turn⟩:=h2
 subst e
 have stat:∀{H':Hp},(∀b∈fp,H' b=none)->∀b∈fp,mM X pins H' b:=λhn b hb=>⟨hn b hb,(f2 b hb).2⟩
 refine codeAny_forLoop_any (λn s'=>∃i σ' H',Inv X pins σ' H' s'/\tn i s'.heap/\(∀b∈fp,H' b=none)/\W i n σ' H') ?_ m0 ⟨0,Z,H2,I2,st2,λb hb=>(f2 b hb).1,w0⟩
 rintro n s3 ⟨i,σ3,H3,I3,st3,fr3,w3⟩
 rcases turn i n σ3 H3 w3 with ⟨stop,qn⟩|⟨go,N,hN,step⟩
 ·refine wpAny_passesOwn hp (thn (T.done X rfl rfl rfl hc i pins s3 σ3 H3 X.xe I3 (stat fr3) st3 stop) λr s4 ⟨hr,I4⟩=>?_)
  subst hr
  exact wpAny_execs_nil ⟨σ3,H3,I4,qn⟩
 ·refine wpAny_passesOwn hp (thn (T.item X rfl rfl rfl hc i pins s3 σ3 H3 X.xe I3 (stat fr3) st3 go) λr s4 ⟨u,hr,h4⟩=>?_)
  subst hr
  refine wpAny_passesOwn hp (thn h4 λ_ s5 ⟨x,H5,I5,r5,y5,st5,fr5⟩=>?_)
  have I5':=I5.pinned (stat fr5) (T.obj _ _ st5)
  refine wpAny_passesOwn hp (thn (hg _ s5 σ3 H5 x u _ I5' r5 (step x H5 y5)) λ_ s6 ⟨σ6,H6,I6,q6⟩=>?_)
  refine wpAny_passesOwn hp (thn (hb _ s6 σ6 H6 _ I6 q6) λf s7 q7=>?_)
  have again:∀{σ7:St} {H7:Hp},Inv X (pins++lz fp s5.heap) σ7 H7 s7->N σ7 H7->∃m,m<n/\∃i σ' H',Inv X pins σ' H' s7/\tn i s7.heap/\(∀b∈fp,H' b=none)/\W i m σ' H':=λ{σ7 H7} I7 n7=>by
   obtain⟨m',hm,w7⟩:=hN σ7 H7 n7
   refine⟨m',hm,i+1,σ7,H7,I7.unpinned,T.keep _ _ _ st5 λb hb o e=>(I7.pin (b,o) (List.mem_append_right _ (List.mem_append_right _ (fP hb e)))).1,λb hb=>?_,w7⟩
   obtain⟨o,e,d⟩:=T.obj _ _ st5 b hb
   exact(I7.pin (b,o) (List.mem_append_right _ (List.mem_append_right _ (fP hb e)))).2.1
  cases f with
  | next=>obtain⟨σ7,H7,I7,n7⟩:=q7;exact again I7 n7
  | cont=>obtain⟨σ7,H7,I7,n7⟩:=q7;exact again I7 n7
  | brk=>obtain⟨σ7,H7,I7,q7⟩:=q7;exact⟨σ7,H7,I7.unpinned,q7⟩
  | ret v=>obtain⟨x7,σ7,H7,I7,r7,q7⟩:=q7;exact⟨x7,σ7,H7,I7.unpinned,r7,q7⟩
end
abbrev R2:=V->V->Hp->VK->Prop
def OpR(X:Cx)(f:Value->Value->Sem Value)(r:R2):Prop :=
 ∀(pins:zzk) (s:Shared) (Z:St) (H:Hp) (x y:V) (v u:Value) (Q:VK),Inv X pins Z H s->RelV x v->RelV y u->r x y H Q ->
  wpAny (model X.prog X.w) X.A (f v u) (EP X pins Z Q) X.xe s
def UnR(X:Cx)(f:Value->Sem Value)(r:V->Hp->VK->Prop):Prop :=
 ∀(pins:zzk) (s:Shared) (Z:St) (H:Hp) (x:V) (v:Value) (Q:VK),Inv X pins Z H s->RelV x v->r x H Q ->
  wpAny (model X.prog X.w) X.A (f v) (EP X pins Z Q) X.xe s
def CallR(X:Cx)(f:Value)(r:List V->Hp->VK->Prop):Prop :=
 ∀(pins:zzk) (s:Shared) (Z:St) (H:Hp) (xs:List V) (us:List Value) (Q:VK),Inv X pins Z H s->Vals xs us->r xs H Q ->
  wpAny (model X.prog X.w) X.A (call f us) (EP X pins Z Q) X.xe s
def HZ(X:Cx)(r:V->Hp->(Bool->Hp->Prop)->Prop):Prop :=
 ∀(pins:zzk) (s:Shared) (Z:St) (H:Hp) (x:V) (v:Value) (Q:Bool->Hp->Prop),Inv X pins Z H s->RelV x v->r x H Q ->
  wpAny (model X.prog X.w) X.A (truthy v) (TP X pins Z Q) X.xe s
def tOp(r:R2)(ta tb:TE):TE:=λZ H Q=>ta Z H λx H1=>tb Z H1 λy H2=>r x y H2 Q
def tUn(r:V->Hp->VK->Prop)(ta:TE):TE:=λZ H Q=>ta Z H λx H1=>r x H1 Q
def rI(C:Int->Int->Prop)(g:Int->Int->V):R2:=λx y H Q=>∃i j,x=.int i/\y=.int j/\C i j/\Q (g i j) H
def rI0(g:Int->Int->V):R2:=λx y H Q=>∃i j,x=.int i/\y=.int j/\Q (g i j) H
def rU(g:Int->V):V->Hp->VK->Prop:=λx H Q=>∃i,x=.int i/\Q (g i) H
section
variable {X:Cx}{a b c:Expr}{ta tb tc:TE}{pos:Pos}
theorem Et(ha:PE X a ta)(hb:PE X b tb){pins:zzk}{s:Shared}{Z:St}{H:Hp}{R:V->V->Hp->Prop}(I:Inv X pins Z H s)
  (h:ta Z H λx H1=>tb Z H1 λy H2=>R x y H2) {Q:zzj} {f:Value->Value->Sem Value}
  (hf:∀v u s2 x y H2,Inv X pins Z H2 s2->RelV x v->RelV y u->R x y H2->wpAny (model X.prog X.w) X.A (f v u) Q X.xe s2) :
  wpAny (model X.prog X.w) X.A (eval a X.env) (λv s₁=>wpAny (model X.prog X.w) X.A (eval b X.env) (λu s₂=>wpAny (model X.prog X.w) X.A (f v u) Q X.xe s₂) X.xe s₁) X.xe s:=by
 refine thn (ha pins s Z H _ I h) λv s1 ⟨x,H1,I1,r1,q1⟩=>?_
 refine thn (hb pins s1 Z H1 _ I1 q1) λu s2 ⟨y,H2,I2,r2,q2⟩=>?_
 exact hf v u s2 x y H2 I2 r1 r2 q2
theorem yT{op:Operator}{r:R2}(ho:OpR X (binaryOp op) r)(ha:PE X a ta)(hb:PE X b tb):PE X (.BinOp a op b pos) (tOp r ta tb):=by
 intro pins s Z H Q I h
 exact wpAny_BinOp (Et ha hb I h λv u s2 x y H2 I2 rx ry q=>ho pins s2 Z H2 x y v u Q I2 rx ry q)
theorem FH{op:UnaryOp}{r:V->Hp->VK->Prop}(ho:UnR X (unaryOp op) r)(ha:PE X a ta):PE X (.UnaryOp op a pos) (tUn r ta):=by
 intro pins s Z H Q I h
 exact UnaryOp_ (thn (ha pins s Z H _ I h) λv s1 ⟨x,H1,I1,r1,q1⟩=>ho pins s1 Z H1 x v Q I1 r1 q1)
theorem opI{f:Value->Value->Sem Value}{C:Int->Int->Prop}{g:Int->Int->Int}
  (rule:∀(i j:Int) (t u:Tok) (s:Shared) (Q:zzj) (E:zzj),C i j->Q (.int (g i j) s.toks) { s with toks:=s.toks+1 }->wpAny (model X.prog X.w) X.A (f (.int i t) (.int j u)) Q E s) :
  OpR X f (rI C λi j=>.int (g i j)):=by
 intro pins s Z H x y v u Q I rx ry h
 obtain⟨i,j,rfl,rfl,hc,q⟩:=h
 obtain⟨t,rfl⟩:=rx
 obtain⟨t',rfl⟩:=ry
 exact rule i j t t' s _ _ hc ⟨.int (g i j),H,I.tok _,⟨_,rfl⟩,q⟩
theorem FU{f:Value->Value->Sem Value}{g:Int->Int->Int}
  (rule:∀(i j:Int) (t u:Tok) (s:Shared) (Q:zzj) (E:zzj),Q (.int (g i j) s.toks) { s with toks:=s.toks+1 }->wpAny (model X.prog X.w) X.A (f (.int i t) (.int j u)) Q E s) :
  OpR X f (rI0 λi j=>.int (g i j)):=by
 intro pins s Z H x y v u Q I rx ry h
 obtain⟨i,j,rfl,rfl,q⟩:=h
 obtain⟨t,rfl⟩:=rx
 obtain⟨t',rfl⟩:=ry
 exact rule i j t t' s _ _ ⟨.int (g i j),H,I.tok _,⟨_,rfl⟩,q⟩
theorem Bd{f:Value->Value->Sem Value}{g:Int->Int->Bool}
  (rule:∀(i j:Int) (t u:Tok) (s:Shared) (Q:zzj) (E:zzj),Q (.bool (g i j)) s->wpAny (model X.prog X.w) X.A (f (.int i t) (.int j u)) Q E s) :
  OpR X f (rI0 λi j=>.bl (g i j)):=by
 intro pins s Z H x y v u Q I rx ry h
 obtain⟨i,j,rfl,rfl,q⟩:=h
 obtain⟨t,rfl⟩:=rx
 obtain⟨t',rfl⟩:=ry
 exact rule i j t t' s _ _ ⟨.bl (g i j),H,I,rfl,q⟩
def GY(i j:Int):Prop:=0<j/\j<1073741824
def GX(i j:Int):Prop:=0<=j/\j<=1000000/\i.natAbs<2^64
def CMul(i j:Int):Prop:=(-(2^64)<i/\i<2^64)\/(-(2^64)<j/\j<2^64)
theorem CMul.ok{i j:Int}(h:CMul i j):IntMulOk i j:=by
 rcases h with ⟨h1,h2⟩|⟨h1,h2⟩
 ·exact .of_left (intBits_le_64 h1 h2)
 ·exact .of_right (intBits_le_64 h1 h2)
theorem op_add:OpR X (binaryOp .Add) (rI0 λi j=>.int (i+j)):=FU λ_ _ _ _ _ _ _ q=>add_int q
theorem jG:OpR X (binaryOp .Sub) (rI0 λi j=>.int (i - j)):=FU λ_ _ _ _ _ _ _ q=>sub_int q
theorem lF:OpR X (binaryOp .Mult) (rI CMul λi j=>.int (i*j)):=opI λ_ _ _ _ _ _ _ hc q=>mul_int q hc.ok
theorem vf:OpR X (binaryOp .FloorDiv) (rI GY λi j=>.int (i / j)):=opI λi j _ _ _ _ _ hc q=>by
 have h1:(0:Int)<j:=hc.1
 have h2:j<1073741824:=hc.2
 exact floordiv_int (by lia) (by rw[Int.fdiv_eq_ediv_of_nonneg i (by lia)];exact q) (.inl (PyProof.noPylong_small (by lia)))
theorem iz:OpR X (binaryOp .Mod) (rI (λ_ j=>0<j) λi j=>.int (i % j)):=opI λi j _ _ _ _ _ hc q=>by
 have h1:(0:Int)<j:=hc
 exact mod_int' (by lia) (by rw[Int.fmod_eq_emod_of_nonneg i (by lia)];exact q)
theorem DM:OpR X (binaryOp .Pow) (rI GX λi j=>.int (i^j.toNat)):=opI λ_ _ _ _ _ _ _ hc q=>pow_int_small hc.1 hc.2.1 hc.2.2 q
theorem unI{f:Value->Sem Value}{g:Int->Int}
  (rule:∀(i:Int) (t:Tok) (s:Shared) (Q:zzj) (E:zzj),Q (.int (g i) s.toks) { s with toks:=s.toks+1 }->wpAny (model X.prog X.w) X.A (f (.int i t)) Q E s) :
  UnR X f (rU λi=>.int (g i)):=by
 intro pins s Z H x v Q I rx h
 obtain⟨i,rfl,q⟩:=h
 obtain⟨t,rfl⟩:=rx
 exact rule i t s _ _ ⟨.int (g i),H,I.tok _,⟨_,rfl⟩,q⟩
theorem C6:UnR X (unaryOp .USub) (rU λi=>.int (-i)):=unI λ_ _ _ _ _ q=>neg_int q
end
section
variable {X:Cx}{a b c:Expr}{ta tb tc:TE}{pos:Pos}
theorem uf{pins:zzk}{Z:St}{H:Hp}{s:Shared}{Q:VK}{k k':Bool}(I:Inv X pins Z H s)(q:Q (.bl k) H)(e:k=k'):EP X pins Z Q (.bool k') s:=by
 subst e
 exact⟨.bl k,H,I,rfl,q⟩
theorem FR:OpR X (compareOp .Lt) (rI0 λi j=>.bl (decide (i<j))):=Bd λ_ _ _ _ _ _ _ q=>lt_int q
theorem FS:OpR X (compareOp .LtE) (rI0 λi j=>.bl (decide (i<=j))):=Bd λ_ _ _ _ _ _ _ q=>le_int q
theorem yY:OpR X (compareOp .Gt) (rI0 λi j=>.bl (decide (j<i))):=Bd λ_ _ _ _ _ _ _ q=>gt_int q
theorem CJ:OpR X (compareOp .GtE) (rI0 λi j=>.bl (decide (j<=i))):=Bd λ_ _ _ _ _ _ _ q=>ge_int q
theorem wR:OpR X (compareOp .In) (λx y H Q=>∃i j,x=.str i/\y=.str j/\Q (.bl (!(Builtin.Str.occurrences j i 0 j.length 1).isEmpty)) H):=by
 intro pins s Z H x y v u Q I rx ry h
 obtain⟨i,j,rfl,rfl,q⟩:=h
 obtain⟨t,rfl⟩:=rx
 obtain⟨t',rfl⟩:=ry
 exact in_str (uf I q rfl)
theorem DP:OpR X (compareOp .Is) (λx y H Q=>y=.non/\Q (.bl (decide (x=.non))) H):=by
 intro pins s Z H x y v u Q I rx ry h
 obtain⟨rfl,q⟩:=h
 cases ry
 refine is_none_gen (uf I q ?_)
 cases x<;>first
  | (cases rx;rfl)
  | (obtain⟨t,rfl⟩:=rx;rfl)
theorem oY:OpR X (compareOp .NotIn) (λx y H Q=>∃i j,x=.str i/\y=.str j/\Q (.bl (!(!(Builtin.Str.occurrences j i 0 j.length 1).isEmpty))) H):=by
 intro pins s Z H x y v u Q I rx ry h
 obtain⟨i,j,rfl,rfl,q⟩:=h
 obtain⟨t,rfl⟩:=rx
 obtain⟨t',rfl⟩:=ry
 exact notIn_str (uf I q rfl)
theorem OpR.or{f:Value->Value->Sem Value}{r r':R2}(h:OpR X f r)(h':OpR X f r'):OpR X f (λx y H Q=>r x y H Q\/r' x y H Q):=by
 intro pins s Z H x y v u Q I rx ry q
 rcases q with q|q
 ·exact h pins s Z H x y v u Q I rx ry q
 ·exact h' pins s Z H x y v u Q I rx ry q
theorem va{op:CmpOp}{r:R2}(ho:OpR X (compareOp op) r)(ha:PE X a ta)(hb:PE X b tb)(hm:behindInMarks op b=false):PE X (.Compare a [op] [b] pos) (tOp r ta tb):=by
 intro pins s Z H Q I h
 exact wpAny_Compare1 (Et ha hb I h λv u s2 x y H2 I2 rx ry q=>ho pins s2 Z H2 x y v u Q I2 rx ry q) hm
def Cf(t:TE):TT:=λZ H Q=>t Z H λx H'=>∃k,x=.bl k/\Q k H'
theorem uZ{op:CmpOp}{r:R2}(ho:OpR X (compareOp op) r)(ha:PE X a ta)(hb:PE X b tb)(hm:behindInMarks op b=false):PT X (.Compare a [op] [b] pos) (Cf (tOp r ta tb)):=by
 intro pins s Z H Q I h
 refine wpAny_isTrue_Compare1 (thn (ha pins s Z H _ I h) λv s1 ⟨x,H1,I1,r1,q1⟩=>thn (hb pins s1 Z H1 _ I1 q1) λu s2 ⟨y,H2,I2,r2,q2⟩ =>
  thn (ho pins s2 Z H2 x y v u _ I2 r1 r2 q2) λc s3 ⟨z,H3,I3,r3,k,e,q3⟩=>?_) hm
 subst e
 cases r3
 exact wpAny_truthy_bool ⟨H3,I3,q3⟩
def xX(r r':R2)(ta tb tc:TE):TE:=λZ H Q=>ta Z H λx H1=>tb Z H1 λy H2=>r x y H2 λz H3=>∃k,z=.bl k /\
 (if k=true then tc Z H3 λw' H4=>r' y w' H4 Q else Q (.bl false) H3)
theorem yK{op op':CmpOp}{r r':R2}(ho:OpR X (compareOp op) r)(ho':OpR X (compareOp op') r')(ha:PE X a ta)(hb:PE X b tb)(hc:PE X c tc)
  (hm:lastMarks [op,op'] [b,c]=false:=by with_unfolding_all rfl):PT X (.Compare a [op,op'] [b,c] pos) (Cf (xX r r' ta tb tc)):=by
 intro pins s Z H Q I h
 refine isTrue_chain (thn (ha pins s Z H _ I h) λv s1 ⟨x,H1,I1,r1,q1⟩=>test_link (thn (hb pins s1 Z H1 _ I1 q1) λu s2 ⟨y,H2,I2,r2,q2⟩ =>
  thn (ho pins s2 Z H2 x y v u _ I2 r1 r2 q2) λd s3 ⟨z,H3,I3,r3,k,e,q3⟩=>?_)) hm
 subst e
 cases r3
 refine wpAny_truthy_bool ?_
 cases k with
 | false =>
  obtain⟨k',e',q'⟩:=q3
  cases e'
  exact ite_ff ⟨H3,I3,q'⟩
 | true =>
  refine ite_tt (test_last (thn (hc pins s3 Z H3 _ I3 q3) λw' s4 ⟨z',H4,I4,r4,q4⟩=>thn (ho' pins s4 Z H4 y z' u w' _ I4 r2 r4 q4) λd' s5 ⟨z2,H5,I5,r5,k2,e2,q5⟩=>?_))
  subst e2
  cases r5
  exact wpAny_truthy_bool ⟨H5,I5,q5⟩
def GR(K:PySem.W.Frag)(x:V)(H:Hp)(k:Bool):Prop :=
 match x with
 | .non=>k=false
 | .bl b=>k=b
 | .int i=>k=(i != 0)
 | .str y=>y.length<=sizeLine/\k=((y.length:Int) != 0)
 | .byt y=>y.size<=sizeLine/\k=((y.size:Int) != 0)
 | .ref p=>(∃xs,SqL K H p xs/\k = !xs.isEmpty)\/(∃xs,SqT K H p xs/\k = !xs.isEmpty)\/∃kvs,H p=some (.dK kvs)/\k = !kvs.isEmpty
 | _=>False
theorem ud{κ:Type}{kvs:List (κ×V)}{vs:List (κ×Value)}(r:KV kvs vs):(!vs.isEmpty) = !kvs.isEmpty:=by
 cases r<;>rfl
theorem lT{xs:List V}{its:List Value}(r:Vals xs its):(!its.toArray.isEmpty) = !xs.isEmpty:=by
 cases r<;>simp
theorem iC:(sizeLine:Nat)<2^63:=by rw[sizeLine_eq];decide
theorem Da:HZ X (λx H Q=>∃k,GR X.K x H k/\Q k H):=by
 intro pins s Z H x v Q I rx h
 obtain⟨k,e,q⟩:=h
 have hl:=iC
 have hs:sizeLine=16777216:=sizeLine_eq
 cases x with
 | non =>
  cases rx
  have e':k=false:=e
  subst e'
  exact truthy_none ⟨H,I,q⟩
 | bl b =>
  cases rx
  have e':k=b:=e
  subst e'
  exact wpAny_truthy_bool ⟨H,I,q⟩
 | int i =>
  obtain⟨t,rfl⟩:=rx
  have e':k=(i != 0):=e
  subst e'
  exact PySem.P.truthy_int ⟨H,I,q⟩
 | str y =>
  obtain⟨t,rfl⟩:=rx
  obtain⟨hy,e'⟩:y.length<=sizeLine/\k=((y.length:Int) != 0):=e
  subst e'
  exact PySem.P.truthy_str (by lia) ⟨H,I.tok _,q⟩
 | byt y =>
  obtain⟨t,rfl⟩:=rx
  obtain⟨hy,e'⟩:y.size<=sizeLine/\k=((y.size:Int) != 0):=e
  subst e'
  exact PySem.W.truthy_bytes (by lia) ⟨H,I.tok _,q⟩
 | ref p =>
  cases rx
  have e':(∃xs,SqL X.K H p xs/\k = !xs.isEmpty)\/(∃xs,SqT X.K H p xs/\k = !xs.isEmpty)\/∃kvs,H p=some (.dK kvs)/\k = !kvs.isEmpty:=e
  rcases e' with ⟨xs,hx,e'⟩|⟨xs,hx,e'⟩|⟨kvs,hx,e'⟩
  ·subst e'
   obtain⟨its,r,pl,hz⟩:=I.list hx
   have hlen:=r.length
   exact wpAny_truthy_list pl.isList (by simp only[List.size_toArray];lia) ⟨H,I.tok _,by rw[lT r];exact q⟩
  ·subst e'
   obtain⟨its,r,pl,hz⟩:=I.tuple hx
   have hlen:=r.length
   exact truthy_tuple pl (by simp only[List.size_toArray];lia) ⟨H,I.tok _,by rw[lT r];exact q⟩
  ·subst e'
   obtain⟨hz,hS,vs,r,m⟩:kvs.length<=sizeLine/\(p==sysModules)=false/\∃vs,KV kvs vs/\s.heap.DictOf (bv X.prog X.w) p vs:=I.hok p _ hx
   have hlen:kvs.length=vs.length:=Paired.length r
   exact wpAny_truthy_dict hS m (by lia) ⟨H,I.tok _,by rw[ud r];exact q⟩
 | _=>exact(show False from e).elim
theorem lw(ha:PE X a ta)(he:∀whole,isTrue a X.env whole=(do let v <-whole;standAt a.pos;holding [v] (truthy v))) :
  PT X a (λZ H Q=>ta Z H λx H'=>∃k,GR X.K x H' k/\Q k H'):=by
 intro pins s Z H Q I h
 exact isTrue_plain (thn (ha pins s Z H _ I h) λv s1 ⟨x,H1,I1,r1,q1⟩=>Da pins s1 Z H1 x v Q I1 r1 q1) (he _)
theorem tU:OpR X (binaryOp .Add) (λx y H Q=>∃i j,x=.str i/\y=.str j/\i.length+j.length<=sizeLine/\Q (.str (i++j)) H):=by
 intro pins s Z H x y v u Q I rx ry h
 obtain⟨i,j,rfl,rfl,hz,q⟩:=h
 obtain⟨t,rfl⟩:=rx
 obtain⟨t',rfl⟩:=ry
 exact add_str (λt' tk=>⟨.str (i++j),H,I.tok _,⟨_,rfl⟩,q⟩) hz
theorem vals1{x:V}{us:List Value}(r:Vals [x] us):∃u,us=[u]/\RelV x u:=by
 cases r with
 | cons r1 r2=>cases r2;exact⟨_,rfl,r1⟩
theorem vals2{x y:V}{us:List Value}(r:Vals [x,y] us):∃u w',us=[u,w']/\RelV x u/\RelV y w':=by
 cases r with
 | cons r1 r2 =>
  cases r2 with
  | cons r3 r4=>cases r4;exact⟨_,_,rfl,r1,r3⟩
theorem sF:CallR X (.builtin "abs") (λxs H Q=>∃i,xs=[.int i]/\Q (.int (if i<0 then -i else i)) H):=by
 intro pins s Z H xs us Q I r h
 obtain⟨i,rfl,q⟩:=h
 obtain⟨u,rfl,t,rfl⟩:=vals1 r
 exact call_abs_int λu tk=>⟨.int (if i<0 then -i else i),H,I.tok _,⟨_,rfl⟩,q⟩
theorem xM(hc:X.calm=true):CallR X (.builtin "min") (λxs H Q=>∃i j,xs=[.int i,.int j]/\Q (.int (if j<i then j else i)) H):=by
 intro pins s Z H xs us Q I r h
 obtain⟨i,j,rfl,q⟩:=h
 obtain⟨u,w',rfl,⟨t,rfl⟩,⟨t',rfl⟩⟩:=vals2 r
 refine min_two_ints (I.ok.hd hc) λh' tk k=>⟨_,H,I.kept k,?_,q⟩
 by_cases hj:j<i
 ·rw[if_pos hj,if_pos hj];exact⟨_,rfl⟩
 ·rw[if_neg hj,if_neg hj];exact⟨_,rfl⟩
theorem xN:CallR X (.type "int") (λxs H Q=>(∃i,xs=[.int i]/\Q (.int i) H)\/∃k,xs=[.bl k]/\Q (.int (if k then 1 else 0)) H):=by
 intro pins s Z H xs us Q I r h
 rcases h with ⟨i,rfl,q⟩|⟨k,rfl,q⟩
 ·obtain⟨u,rfl,t,rfl⟩:=vals1 r
  exact call_int_int ⟨.int i,H,I,⟨_,rfl⟩,q⟩
 ·obtain⟨u,rfl,r1⟩:=vals1 r
  cases r1
  exact call_int_bool ⟨.int (if k then 1 else 0),H,I.tok _,⟨_,rfl⟩,q⟩
theorem dN:CallR X (.type "str") (λxs H Q=>∃i,xs=[.int i]/\i.natAbs.log2<1920/\Q (.str (toString i)) H):=by
 intro pins s Z H xs us Q I r h
 obtain⟨i,rfl,hz,q⟩:=h
 obtain⟨u,rfl,t,rfl⟩:=vals1 r
 exact PySem.P.str_of_int hz ⟨.str _,H,I.tok _,⟨_,rfl⟩,q⟩
end
structure ObjM(h:Heap)(x dx C:Addr)(mA:zzl):Prop where
 obj:h.get? x=some (PySem.W.instObj C dx)
 ns:h.Ns1 dx mA
 ne:dx≠x
theorem wY{h:Heap}{dx:Addr}{mA:zzl}(n:h.Ns1 dx mA):∃od,h.get? dx=some od/\∀name,PySem.W.lookIn name od=some (mA name):=by
 obtain⟨o,es,ep,ho,hd,hk,_,hm⟩:=n
 refine⟨o,ho,λname=>?_⟩
 have e:=hm name
 unfold nsFind findBy at e
 rw[<-Array.find?_toList]at e
 unfold PySem.W.lookIn
 rw[hd]
 dsimp only
 split
 ·rename_i y q
  rw[q]at e
  exact congrArg some e
 ·rename_i q
  rw[q]at e
  have a:es.toList.any (·.refKey)=false:=by
   rw[List.any_eq_false]
   intro y hy
   obtain⟨z,t,hkey⟩:=hk y (Array.mem_toList_iff.mp hy)
   simp[DictEntry.refKey,hkey]
  have a':¬ es.toList.any (·.refKey)=true:=by rw[a];exact Bool.false_ne_true
  rw[if_neg a']
  exact congrArg some e
theorem ObjM.look{h:Heap}{x dx C:Addr}{mA:zzl}(I:ObjM h x dx C mA):∃od,PySem.W.InstAt h x (PySem.W.instObj C dx) C (some od)/\∀name,PySem.W.lookIn name od=some (mA name) :=
 let ⟨od,ho,hl⟩:=wY I.ns
 ⟨od,⟨I.obj,rfl,rfl,ho⟩,hl⟩
section
variable {prog:Program}{w:World}{A:Around}{E:zzj}{s:Shared}{K:PySem.W.Frag}{x dx C f:Addr}{mA:zzl}{name:Str}{v:Value}
theorem BA{expr:Bool}{Q:zzj}(X:K.In s.heap)(I:ObjM s.heap x dx C mA)(hg:PySem.W.plainGet K C name=true)(hh:PySem.W.hasDictIn K C=true)
  (ha:PySem.W.findIn K (.ref C) name=some none) (hv:mA name=some v) (hv':PySem.W.handedIn v=true) (h:Q v { s with toks:=s.toks+1 }) :
  wpAny (model prog w) A (getAttr (.ref x) name expr) Q E s:=by
 obtain⟨od,J,hl⟩:=I.look
 exact PySem.W.get_value X J (PySem.W.plainGet_of hg).1 (PySem.W.findObj_own hh ha rfl (by rw[hl,hv])) hv' h
theorem zJ{pl:Sem Bool}{Q:Value×List Value->Shared->Prop}(X:K.In s.heap)(I:ObjM s.heap x dx C mA)(hg:PySem.W.plainGet K C name=true)
  (hf:PySem.W.findIn K (.ref C) name=some (some (.ref f))) (ht:PySem.W.isFn K (.ref f)=true) (hv:mA name=none) (h:Q (.ref f,[.ref x]) s) :
  wpAny (model prog w) A (getMethod (.ref x) name pl) Q E s:=by
 obtain⟨od,J,hl⟩:=I.look
 exact PySem.W.method_fn X J (PySem.W.plainGet_of hg).1 (PySem.W.plainGet_of hg).2 hf (beq_iff_eq.mp ht) (by show(PySem.W.lookIn name od).map (·.isSome)=some false;rw[hl,hv];rfl) h
theorem AF{ns:List Str}{Q:Unit->Shared->Prop}(X:K.In s.heap)(I:ObjM s.heap x dx C mA)
  (hs:PySem.W.findIn K (.ref C) "__setattr__" = some (some (.builtin "object.__setattr__"))) (hp:PySem.W.plainOver K C=true) (ht:PySem.W.takerIn K C name=some none) (hh:PySem.W.hasDictIn K C=true)
  (hw:PySem.Within mA ns) (hsz:ns.length<=sizeLine)
  (h:∀h',ObjM h' x dx C (λy=>if y=name then some v else mA y)->Heap.SameBut dx s.heap h'->Q () { s with heap:=h',toks:=s.toks+2 }) :
  wpAny (model prog w) A (setAttr (.ref x) name v) Q E s:=by
 obtain⟨od,J,hl⟩:=I.look
 refine PySem.W.set_plain X J hs (PySem.W.osa_open (s:={ s with toks:=s.toks+1 }) (r:=none) X J hp ht λb=>?_)
 obtain⟨cd,hc,hd'⟩:=PySem.W.any_some hh
 have hx:s.heap.get? x=some ⟨.ref C,some dx,.plain,#[]⟩:=I.obj
 refine zza (zzb (zza (zza (wpAny_loadPart hx (zza (PySem.W.Looks.here (s:={ s with toks:=s.toks+1 }) (PySem.W.looks_clsIn X hc) ?_))))))
 rw[hd']
 refine zzb (a:=some dx) (zza (zzb (zza ?_)))
 refine wpAny_nsSet1 (s:={ s with toks:=s.toks+1 }) I.ns λh' hn2 hs2=>?_
 obtain⟨oD,esD,epD,hoD,hdD,hcD⟩:=hn2.count (PySem.Within.cons name v hw)
 refine zza (wpAny_lookBehind hoD (by rw[hdD];exact pastItsLine_dict (Nat.le_trans hcD (by rw[List.length_cons];lia))) ?_)
 exact zzb (h _ ⟨(hs2.2 _ (Ne.symm I.ne)).trans I.obj,hn2,I.ne⟩ hs2)
theorem zm{R:Result->Shared->Prop}{vs:List Value}{kw:List (Str×Value)}(X:K.In s.heap)(hm:PySem.W.makesIn K C=true)
  (hi:PySem.W.findIn K (.ref C) "__init__" = some (some (.ref f))) (hf:PySem.W.typeIn K (.ref f)=some (.type "function"))
  (h:codeAny (model prog w) (A.under (.builtin "type.__call__" ⟨.ref C::vs,kw⟩)) (.call (.ref f) ⟨.ref (s.heap.objs.size+1)::vs,kw⟩) (PySem.W.InitBack (s.heap.objs.size+1) R)
   { s with heap:=(s.heap.push PySem.W.emptyDict).push (PySem.W.instObj C s.heap.objs.size) }) :
  codeAny (model prog w) A (.call (.ref C) ⟨vs,kw⟩) R s:=by
 obtain⟨hh,g,d,t,os⟩:=s
 exact PySem.W.make_core (PySem.W.makes_of X hm) (PySem.W.looks_findIn X hi) (λself=>PySem.W.bind_fn X self hf) (.inl rfl) h
end
def cU(f:Str)(v:V):List (Str×V)->List (Str×V)
 | []=>[(f,v)]
 | (g,x)::r=>if g=f then(g,v)::r else(g,x)::cU f v r
theorem gG(f g:Str)(v:V):∀fs:List (Str×V),(cU f v fs).lookup g=if g=f then some v else fs.lookup g
 | []=>by
  show List.lookup g [(f,v)]=_
  by_cases h:g=f
  ·have hb:(g==f)=true:=beq_iff_eq.mpr h
   simp only[List.lookup,hb,if_pos h]
  ·have hb:(g==f)=false:=beq_eq_false_iff_ne.mpr h
   simp only[List.lookup,hb,if_neg h]
 | (k,x)::r=>by
  have ih:=gG f g v r
  rw[show cU f v ((k,x)::r)=(if k=f then(k,v)::r else(k,x)::cU f v r)from rfl]
  by_cases hk:k=f
  ·rw[if_pos hk]
   by_cases h:g=k
   ·have hb:(g==k)=true:=beq_iff_eq.mpr h
    simp only[List.lookup,hb,if_pos (h.trans hk)]
   ·have hb:(g==k)=false:=beq_eq_false_iff_ne.mpr h
    simp only[List.lookup,hb,if_neg (λe:g=f=>h (e.trans hk.symm))]
  ·rw[if_neg hk]
   by_cases h:g=k
   ·have hb:(g==k)=true:=beq_iff_eq.mpr h
    simp only[List.lookup,hb,if_neg (λe:g=f=>hk (h.symm.trans e))]
   ·have hb:(g==k)=false:=beq_eq_false_iff_ne.mpr h
    simp only[List.lookup,hb]
    exact ih
theorem fw(f:Str)(v:V):∀fs:List (Str×V),f∈(cU f v fs).map (·.1)/\∀g,g∈fs.map (·.1)->g∈(cU f v fs).map (·.1)
 | []=>⟨by simp[cU],λg h=>by simp at h⟩
 | (k,x)::r=>by
  obtain⟨i1,i2⟩:=fw f v r
  rw[show cU f v ((k,x)::r)=(if k=f then(k,v)::r else(k,x)::cU f v r)from rfl]
  by_cases hk:k=f
  ·rw[if_pos hk]
   subst hk
   exact⟨by simp,λg h=>by simpa using h⟩
  ·rw[if_neg hk]
   refine⟨?_,λg h=>?_⟩
   ·rw[List.map_cons]
    exact zzg _ i1
   ·rw[List.map_cons]at h ⊢
    rcases List.mem_cons.mp h with e|e
    ·exact List.mem_cons.mpr (.inl e)
    ·exact zzg _ (i2 g e)
theorem ka(f:Str)(v:V):∀fs:List (Str×V),(cU f v fs).length<=fs.length+1
 | []=>by simp[cU]
 | (k,x)::r=>by
  have ih:=ka f v r
  rw[show cU f v ((k,x)::r)=(if k=f then(k,v)::r else(k,x)::cU f v r)from rfl]
  by_cases hk:k=f
  ·rw[if_pos hk,List.length_cons,List.length_cons];lia
  ·rw[if_neg hk,List.length_cons,List.length_cons];lia
theorem RelO.some_of{v:V}{o:Option Value}(r:RelO (some v) o):∃u,o=some u/\RelV v u:=by
 cases o with
 | none=>exact(show False from r).elim
 | some u=>exact⟨u,rfl,r⟩
theorem RelO.none_of{o:Option Value}(r:RelO none o):o=none:=by
 cases o with
 | none=>rfl
 | some u=>exact(show False from r).elim
theorem xA{v:V}{u:Value}(r:RelV v u):PySem.W.handedIn u=true:=by
 cases v with
 | non=>cases (show u=Value.none from r);rfl
 | bl b=>cases (show u=Value.bool b from r);rfl
 | int i=>obtain⟨t,e⟩:=(show ∃t,u=Value.int i t from r);cases e;rfl
 | str x=>obtain⟨t,e⟩:=(show ∃t,u=Value.str x t from r);cases e;rfl
 | byt b=>obtain⟨t,e⟩:=(show ∃t,u=Value.bytes b t from r);cases e;rfl
 | flt b=>obtain⟨t,e⟩:=(show ∃t,u=Value.float b t from r);cases e;rfl
 | ref a=>cases (show u=Value.ref a from r);rfl
 | ty n=>cases (show u=Value.type n from r);rfl
section
variable {P:Program}{w:World}{H H':Hp}{h h':Heap}{a C dx:Addr}{fs fs':List (Str×V)}
theorem pS(hok:HOk P w H h)(e:H a=some (.ins C dx fs)):∃mA,ObjM h a dx C mA/\(∀f,RelO (fs.lookup f) (mA f))/\PySem.Within mA (fs.map (·.1))/\fs.length<=1000/\H dx=some (.own a):=by
 obtain⟨d,z,ne,ob,mA,n,r,q⟩:=(show ObjOk P w H h a (.ins C dx fs)from hok a _ e)
 exact⟨mA,⟨ob,n,ne⟩,r,q,z,d⟩
end
structure Cls(K:PySem.W.Frag)(C:Addr):Prop where
 pg:PySem.W.plainGet K C Str.empty=true
 hd:PySem.W.hasDictIn K C=true
 po:PySem.W.plainOver K C=true
 sa:PySem.W.findIn K (.ref C) "__setattr__" = some (some (.builtin "object.__setattr__"))
theorem Cls.get{K:PySem.W.Frag}{C:Addr}(c:Cls K C)(f:Str):PySem.W.plainGet K C f=true:=c.pg
def NoAttr(K:PySem.W.Frag)(C:Addr)(f:Str):Prop:=PySem.W.findIn K (.ref C) f=some none
theorem NoAttr.taker{K:PySem.W.Frag}{C:Addr}{f:Str}(n:NoAttr K C f):PySem.W.takerIn K C f=some none:=by
 unfold PySem.W.takerIn
 rw[show PySem.W.findIn K (.ref C) f=some none from n]
 rfl
structure Meth(K:PySem.W.Frag)(C:Addr)(m:Str)(f:Addr):Prop where
 at_:PySem.W.findIn K (.ref C) m=some (some (.ref f))
 fn:PySem.W.isFn K (.ref f)=true
 kp:PySem.W.keepIn K (.ref f)=true
section
variable {X:Cx}{pins:zzk}{Z:St}{H:Hp}{s:Shared}{a C dx:Addr}{fs:List (Str×V)}{f:Str}{v:V}{A:Around}{E:zzj}
theorem lV{b:Bool}{Q:zzj}(I:Inv X pins Z H s)(e:H a=some (.ins C dx fs))(c:Cls X.K C)(n:NoAttr X.K C f)(l:fs.lookup f=some v)
  (h:∀u s',Inv X pins Z H s'->RelV v u->Q u s'):wpAny (model X.prog X.w) A (getAttr (.ref a) f b) Q E s:=by
 obtain⟨mA,O,r,_,_,_⟩:=pS I.hok e
 obtain⟨u,hu,ru⟩:=RelO.some_of (v:=v) (o:=mA f) (by rw[<-l];exact r f)
 exact BA I.kIn O (c.get f) c.hd n hu (xA ru) (h u _ (I.tok _) ru)
theorem lU{m:Str}{g:Addr}{pl:Sem Bool}{Q:Value×List Value->Shared->Prop}(I:Inv X pins Z H s)(e:H a=some (.ins C dx fs))(c:Cls X.K C)(k:Meth X.K C m g)(l:fs.lookup m=none)
  (h:Q (.ref g,[.ref a]) s):wpAny (model X.prog X.w) A (getMethod (.ref a) m pl) Q E s:=by
 obtain⟨mA,O,r,_,_,_⟩:=pS I.hok e
 have hn:mA m=none:=RelO.none_of (by rw[<-l];exact r m)
 exact zJ I.kIn O (c.get m) k.at_ k.fn hn h
theorem kZ{y:V}{u:Value}{Q:Unit->Shared->Prop}(I:Inv X pins Z H s)(e:H a=some (.ins C dx fs))(c:Cls X.K C)(n:NoAttr X.K C f)(hl:fs.length<1000)(ry:RelV y u)
  (h:∀s',Inv X pins Z (upd H a (.ins C dx (cU f y fs))) s'->Q () s'):wpAny (model X.prog X.w) A (setAttr (.ref a) f u) Q E s:=by
 obtain⟨mA,O,r,wi,_,ho⟩:=pS I.hok e
 have hz:(fs.map (·.1)).length<=sizeLine:=by rw[zzd,sizeLine_eq];lia
 refine AF I.kIn O c.sa c.po n.taker c.hd wi hz λh' O' sb=>h _ ?_
 have hd:∃o,h'.get? dx=some o:=let ⟨o,_,_,e',_⟩:=O'.ns;⟨o,e'⟩
 refine I.write (x:=a) (e:=dx) (by rw[e];exact True.intro) (.inr ho) (λb q hb z=>(sb.2 b hb).trans z) hd ?_
 refine⟨by rw[aF O.ne];exact ho,?_,O.ne,O'.obj,_,O'.ns,λg=>?_,λg hg=>?_⟩
 ·have:=ka f y fs;lia
 ·show RelO ((cU f y fs).lookup g) (if g=f then some u else mA g)
  rw[gG]
  by_cases q:g=f
  ·rw[if_pos q,if_pos q];exact ry
  ·rw[if_neg q,if_neg q];exact r g
 ·by_cases q:g=f
  ·rw[q];exact(fw f y fs).1
  ·refine(fw f y fs).2 g (wi g λz=>hg ?_)
   show(if g=f then some u else mA g)=none
   rw[if_neg q];exact z
theorem Inv.made(I:Inv X pins Z H s):Inv X pins Z (upd (upd H s.heap.objs.size (.own (s.heap.objs.size+1))) (s.heap.objs.size+1) (.ins C s.heap.objs.size []))
  { s with heap:=(s.heap.push PySem.W.emptyDict).push (PySem.W.instObj C s.heap.objs.size) }:=by
 have e1:(s.heap.push PySem.W.emptyDict).get? s.heap.objs.size=some PySem.W.emptyDict:=zze s.heap rfl
 have e2:((s.heap.push PySem.W.emptyDict).push (PySem.W.instObj C s.heap.objs.size)).get? (s.heap.objs.size+1)=some (PySem.W.instObj C s.heap.objs.size):=by
  have:=zze (s.heap.push PySem.W.emptyDict) (o:=PySem.W.instObj C s.heap.objs.size) rfl
  rwa [Heap.size_push]at this
 have e3:(s.heap.push PySem.W.emptyDict).Ns s.heap.objs.size (λ_=>none):=⟨PySem.W.emptyDict,#[],_,e1,rfl,(λe he=>absurd he (by simp)),λ_=>rfl⟩
 have I1:=I.laid (a:=s.heap.objs.size) (o:=.own (s.heap.objs.size+1)) (h':=s.heap.push PySem.W.emptyDict) (t':=s.toks) (λb u q=>zzc _ q) (Nat.le_refl _) ⟨_,e1⟩
 refine I1.laid (a:=s.heap.objs.size+1) (o:=.ins C s.heap.objs.size []) (t':=s.toks) (λb u q=>zzc _ q) (Nat.le_of_eq (Heap.size_push _ _)) ?_
 have ne:s.heap.objs.size≠s.heap.objs.size+1:=Nat.ne_of_lt (Nat.lt_succ_self _)
 refine⟨by rw[aF ne,aK],Nat.zero_le _,ne,e2,λ_=>none,(Heap.Ns1.of_empty e3).at λo q=>zzc _ q,λ_=>True.intro,λy hy=>absurd rfl hy⟩
theorem BU{prog:Program}{w:World}{env:Env}{e:Expr}{f:Str}{pos:Pos}{s:Shared}{Q:zzj}(hb:attributeBase e f env (eval e env)=eval e env)
  (h:wpAny (model prog w) A (eval e env) (λo s₁=>wpAny (model prog w) A (getAttr o f true) Q E s₁) E s):wpAny (model prog w) A (eval (.Attribute e f pos) env) Q E s :=
 Attribute_any_ h (by rw[arm_eval_Attribute,hb])
end
def Ha(K:PySem.W.Frag)(ta:TE)(f:Str):TE:=λZ H Q=>ta Z H λx H1=>∃a C dx fs v,x=.ref a/\H1 a=some (.ins C dx fs)/\Cls K C/\NoAttr K C f/\fs.lookup f=some v/\Q v H1
def Hh(K:PySem.W.Frag)(ta tv:TE)(f:Str):TS:=λD Z H=>tv Z H λy H1=>ta Z H1 λx H2=>∃a C dx fs,x=.ref a/\H2 a=some (.ins C dx fs)/\Cls K C/\NoAttr K C f/\fs.length<1000 /\
 D.nx Z (upd H2 a (.ins C dx (cU f y fs)))
def GW(X:Cx)(op:Operator)(rd:V->V->Hp->VK->Prop):Prop :=
 ∀(pins:zzk) (s:Shared) (Z:St) (H:Hp) (x y:V) (u v:Value) (Q:VK),Inv X pins Z H s->RelV x u->RelV y v->rd x y H Q->wpAny (model X.prog X.w) X.A (inplaceOp op u v) (EP X pins Z Q) X.xe s
def AK(K:PySem.W.Frag)(ta tv:TE)(rd:V->V->Hp->VK->Prop)(f:Str):TS:=λD Z H=>ta Z H λx H1=>∃a C dx fs v,x=.ref a/\H1 a=some (.ins C dx fs)/\Cls K C/\NoAttr K C f/\fs.lookup f=some v /\
 tv Z H1 λy H2=>rd v y H2 λz H3=>∃dx' fs',H3 a=some (.ins C dx' fs')/\fs'.length<1000/\D.nx Z (upd H3 a (.ins C dx' (cU f z fs')))
section
variable {X:Cx}{o e value:Expr}{f:Str}{pos pos' tpos:Pos}{ta tv:TE}
theorem DE(he:PE X e ta)(hb:attributeBase e f X.env (eval e X.env)=eval e X.env):PE X (.Attribute e f pos) (Ha X.K ta f):=by
 intro pins s Z H Q I h
 refine BU hb (thn (he pins s Z H _ I h) λu s1 ⟨x,H1,I1,rx,a,C,dx,fs,v,ex,ea,c,n,l,q⟩=>?_)
 subst ex
 obtain rfl:u=Value.ref a:=rx
 exact lV I1 ea c n l λu' s2 I2 ru=>⟨v,H1,I2,ru,q⟩
theorem Dw(ha:PE X o ta)(hv:PE X value tv)(hs:swapsWith value (some (.Attribute o f pos')) pos.line X.env=pure false):PS X (.Assign [.Attribute o f pos'] value pos) (Hh X.K ta tv f):=by
 intro pins s Z H D I h
 refine plainObj_wpAny_Assign_Attribute (thn (hv pins s Z H _ I h) λu s1 ⟨y,H1,I1,ry,q⟩=>thn (ha pins s1 Z H1 _ I1 q) λov s2 ⟨x,H2,I2,rx,a,C,dx,fs,ex,ea,c,n,l,q2⟩=>?_) hs
 subst ex
 obtain rfl:ov=Value.ref a:=rx
 exact kZ I2 ea c n l ry λs3 I3=>⟨Z,_,I3,q2⟩
theorem wJ{op:Operator}{rd:V->V->Hp->VK->Prop}(ha:PE X o ta)(hv:PE X value tv)(hop:GW X op rd):PS X (.AugAssign (.Attribute o f tpos) op value pos) (AK X.K ta tv rd f):=by
 intro pins s Z H D I h
 refine wpAny_AugAssign_AttributeAny (thn (ha pins s Z H _ I h) λov s1 ⟨x,H1,I1,rx,a,C,dx,fs,v,ex,ea,c,n,l,q⟩=>?_)
 subst ex
 obtain rfl:ov=Value.ref a:=rx
 refine lV I1 ea c n l λu s2 I2 ru=>thn (hv pins s2 Z H1 _ I2 q) λw3 s3 ⟨y,H2,I3,ry,q3⟩=>thn (hop pins s3 Z H2 v y u w3 _ I3 ru ry q3) λw4 s4 ⟨z,H3,I4,rz,dx',fs',ea',l',q4⟩=>?_
 exact kZ I4 ea' c n l' rz λs5 I5=>⟨Z,_,I5,q4⟩
def Hn:V->V->Hp->VK->Prop:=λx y H Q=>∃i j,x=.int i/\y=.int j/\Q (.int (i+j)) H
theorem Eg:GW X .Add Hn:=by
 rintro pins s Z H x y u v Q I rx ry ⟨i,j,rfl,rfl,q⟩
 obtain⟨t,rfl⟩:=(show ∃t,u=Value.int i t from rx)
 obtain⟨t',rfl⟩:=(show ∃t',v=Value.int j t' from ry)
 exact PyProof.Rows.iadd_int ⟨.int (i+j),H,I.tok _,⟨_,rfl⟩,q⟩
end
structure Room(k:Nat)(A:Around):Prop where
 hd:A.handled=none
 dp:A.depth+3*k+5<recursionLimit
 un:A.units+16*k+1200<cLine
 gd:A.guards=some []
theorem Room.mono{j k:Nat}{A:Around}(r:Room k A)(h:j<=k):Room j A:=⟨r.hd,by have:=r.dp;lia,by have:=r.un;lia,r.gd⟩
theorem Room.deeper{k:Nat}{A:Around}(r:Room (k+1) A)(env:Env):Room k (A.deeper env) :=
 ⟨r.hd,by have:=r.dp;show A.depth+1+3*k+5<_;lia,by have:=r.un;show A.units+3+16*k+1200<_;lia,r.gd⟩
theorem t0{A:Around}{C:Addr}{us:List Value}{kw:List (Str×Value)}:(A.under (.builtin "type.__call__" ⟨.ref C::us,kw⟩)).depth=A.depth+1:=by
 first|rfl|simp[Around.under,Code.weight,Code.isCreation,Code.isGuard,Code.isCaller,Code.frames,Code.isFrame,guardIds]
theorem tZ{A:Around}{C:Addr}{us:List Value}{kw:List (Str×Value)}:(A.under (.builtin "type.__call__" ⟨.ref C::us,kw⟩)).units=A.units+1:=by
 first|rfl|simp[Around.under,Code.cUnits,Code.frames,Code.isFrame]
theorem Room.make{k:Nat}{A:Around}(r:Room (k+1) A)(C:Addr)(us:List Value)(kw:List (Str×Value)):Room k (A.under (.builtin "type.__call__" ⟨.ref C::us,kw⟩)) :=
 ⟨r.hd,by have:=r.dp;rw[t0];lia,by have:=r.un;rw[tZ];lia,by first|exact r.gd|simpa[Around.under,Code.isGuard,guardIds]using r.gd⟩
theorem Room.depth{k:Nat}{A:Around}(r:Room k A):A.depth<recursionLimit:=by have:=r.dp;lia
def G6:TA:=λ_ H Q=>Q [] H
def EZ(ta:TE)(tr:TA):TA:=λZ H Q=>ta Z H λx H1=>tr Z H1 λxs H2=>Q (x::xs) H2
section
variable {X:Cx}{e:Expr}{es:List Expr}{te:TE}{t:TA}{pos:Pos}
theorem lC:PA X [] G6:=λ_ _ _ _ H Q I h=>Calls.spliced_nil ⟨[],H,I,.nil,h⟩
theorem gX(ha:PE X e te)(hr:PA X es t)(hs:starEach (e::es) X.env=(false,eval e X.env)::starEach es X.env:=by rfl):PA X (e::es) (EZ te t):=by
 intro pos pins s Z H Q I h
 rw[hs]
 show wpAny _ _ (spliced ((false,eval e X.env)::backTo pos (starEach es X.env))) _ _ s
 refine Calls.spliced_cons (thn (ha pins s Z H _ I h) λu s1 ⟨x,H1,I1,r1,q1⟩=>?_)
 exact thn (hr pos pins s1 Z H1 _ I1 q1) λus s2 ⟨xs,H2,I2,r2,q2⟩=>⟨x::xs,H2,I2,.cons r1 r2,q2⟩
def GZ(t:TA):TE:=λZ H Q=>t Z H λxs H1=>xs.length<=sizeLine/\∀p,H1 p=none->Q (.ref p) (upd H1 p (.tup xs))
def G7(t:TA):TE:=λZ H Q=>t Z H λxs H1=>xs.length<=sizeLine/\∀p,H1 p=none->Q (.ref p) (upd H1 p (.lst xs))
theorem yR{x1}(h:PA X es t):PE X (.Tuple es x1 pos) (GZ t):=by
 intro pins s Z H Q I hq
 refine wpAny_Tuple_spliced (thn (h pos pins s Z H _ I hq) λus s1 ⟨xs,H1,I1,r,z,q⟩=>⟨by rw[<-r.length];exact z,?_⟩)
 have hf:H1 s1.heap.objs.size=none:=I1.hok.fresh (Nat.le_refl _)
 refine⟨.ref s1.heap.objs.size,upd H1 s1.heap.objs.size (.tup xs),I1.laid (t':=s1.toks) (λb u e=>zzc _ e) (Nat.le_refl _) ?_,rfl,q _ hf⟩
 exact⟨z,us,r,⟨_,zze _ rfl,rfl,_,rfl⟩,⟨_,zze _ rfl,rfl⟩⟩
theorem yU(h:PA X es t):PE X (.List es pos) (G7 t):=by
 intro pins s Z H Q I hq
 refine wpAny_List_spliced (thn (h pos pins s Z H _ I hq) λus s1 ⟨xs,H1,I1,r,z,q⟩=>⟨by rw[<-r.length];exact z,?_⟩)
 have hf:H1 s1.heap.objs.size=none:=I1.hok.fresh (Nat.le_refl _)
 refine⟨.ref s1.heap.objs.size,upd H1 s1.heap.objs.size (.lst xs),I1.laid (t':=s1.toks) (λb u e=>zzc _ e) (Nat.le_refl _) ?_,rfl,q _ hf⟩
 exact⟨z,us,0,r,zze _ rfl⟩
end
abbrev Sp:=List V->Hp->VK->XK->Prop
abbrev CXT:=List Env->Hp->Shared->XK->Value->Shared->Prop
structure Env0(P:Program)(w:World)(K:PySem.W.Frag)(mg:zzl)(base:Heap)(A:Around)(outer:List Env)(s:Shared)(H:Hp):Prop where
 frames:A.frames=some outer
 mod:Mod K mg base
 bs:∀b o,base.get? b=some o->s.heap.get? b=some o/\H b=none
 bsz:base.objs.size<=s.heap.objs.size
 funs:s.heap.FunFrames base outer
 frf:∀b∈frs outer,H b=none
 hok:HOk P w H s.heap
 bare:AllBare s.gens
def CE(outer:List Env)(P:Program)(w:World)(H:Hp)(s:Shared)(Q:VK)(u:Value)(s':Shared):Prop :=
 ∃v H',s'.os=s.os/\AllBare s'.gens/\Un (frs outer) [] H H' s.heap s'.heap/\HOk P w H' s'.heap/\RelV v u/\Q v H'
def CR(CX:CXT)(outer:List Env)(P:Program)(w:World)(H:Hp)(s:Shared)(Q:VK)(E:XK)(r:Result)(s':Shared):Prop :=
 match r with
 | .ok (.ret u)=>CE outer P w H s Q u s'
 | .ok _=>False
 | .error e=>CX outer H s E e s'
structure FnOk(P:Program)(w:World)(K:PySem.W.Frag)(mg:zzl)(base:Heap)(CX:CXT)(k:Nat)(f:Addr)(fd:FuncData)(ps:List Str)(sp:Sp):Prop where
 len:∀vs H Q E,sp vs H Q E->vs.length=ps.length
 run:∀(A:Around) (outer:List Env) (s:Shared) (H:Hp) (args:Args) (us:List Value) (vs:List V) (Q:VK) (E:XK),Room k A->Env0 P w K mg base A outer s H->BindsTo s fd args (ps.zip us)->Vals vs us->sp vs H Q E ->
  codeAny (model P w) A (.call (.ref f) args) (CR CX outer P w H s Q E) s
theorem Env0.make{P:Program}{w:World}{K:PySem.W.Frag}{mg:zzl}{base:Heap}{A:Around}{outer:List Env}{s:Shared}{H:Hp}(e:Env0 P w K mg base A outer s H)(C:Addr)(us:List Value)(kw:List (Str×Value)) :
  Env0 P w K mg base (A.under (.builtin "type.__call__" ⟨.ref C::us,kw⟩)) outer s H:=⟨by first|exact e.frames|(simpa[Around.under,Code.envs,Code.isFrame,pushEnvs]using e.frames),e.mod,e.bs,e.bsz,e.funs,e.frf,e.hok,e.bare⟩
section
variable {X:Cx}{pins:zzk}{Z:St}{H:Hp}{s s':Shared}
theorem Inv.env0(I:Inv X pins Z H s):Env0 X.prog X.w X.K X.mg X.base X.A X.stack s H :=
 ⟨I.ok.frames,I.ok.mod,I.bs,Nat.le_trans I.ok.bsz I.sz,I.stack,I.stkFree,I.hok,I.bare⟩
theorem Inv.after{Q:VK}{u:Value}(I:Inv X pins Z H s)(h:CE X.stack X.prog X.w H s Q u s'):EP X pins Z Q u s':=by
 obtain⟨v,H',os,bare,un,hok,r,q⟩:=h
 obtain⟨hh,g,d,t,os'⟩:=s'
 obtain rfl:os'=s.os:=os
 exact⟨v,H',I.call (h':=hh) (g':=g) (d':=d) (t':=t) (ch:=[]) un hok bare (λb z=>absurd z (by simp)),r,q⟩
end
def Binds(K:PySem.W.Frag)(fd:FuncData)(ps:List Str)(ds:List Value):Prop :=
 ∀(s:Shared) (us:List Value),K.In s.heap->(us++ds).length=ps.length->BindsTo s fd ⟨us,[]⟩ (ps.zip (us++ds))
theorem Binds.all{K:PySem.W.Frag}{fd:FuncData}{ps:List Str}(h:∀us:List Value,us.length=ps.length->bindArgs fd ⟨us,[]⟩=pure (ps.zip us)):Binds K fd ps []:=λs us _ hl=>by
 rw[List.append_nil]at hl ⊢
 exact .of_eq (h us hl)
def EG(CX:CXT)(X:Cx)(E:XK):Prop:=∀(pins:zzk) (Z:St) (H:Hp) (s:Shared) (e:Value) (s':Shared),Inv X pins Z H s->CX X.stack H s E e s'->X.xe e s'
section
variable {X:Cx}{CX:CXT}{k:Nat}{f C:Addr}{fd:FuncData}{ps:List Str}{sp:Sp}{dvs:List V}{ds:List Value}{E:XK}{x m:Str}{p pos apos:Pos}{e o:Expr}{es:List Expr}{ta:TE}{t:TA}
structure Mk(K:PySem.W.Frag)(C f:Addr):Prop where
 makes:PySem.W.makesIn K C=true
 init:PySem.W.findIn K (.ref C) "__init__" = some (some (.ref f))
 fn:PySem.W.isFn K (.ref f)=true
 kp:PySem.W.keepIn K (.ref C)=true
theorem run_make{pins:zzk}{Z:St}{H:Hp}{s:Shared}{Q:VK}{us:List Value}{vs:List V}(M:Mk X.K C f)(F:FnOk X.prog X.w X.K X.mg X.base CX k f fd ps sp)(hr:Room (k+1) X.A)(hb:Binds X.K fd ps ds)(hd:Vals dvs ds)
  (hx:EG CX X E) (I:Inv X pins Z H s) (r:Vals vs us)
  (h:∀x dx,H x=none->H dx=none->dx≠x->sp (.ref x::(vs++dvs)) (upd (upd H dx (.own x)) x (.ins C dx [])) (λv H2=>v=.non/\Q (.ref x) H2) E) :
  wpAny (model X.prog X.w) X.A (call (.ref C) us) (EP X pins Z Q) X.xe s:=by
 have hq:=h (s.heap.objs.size+1) s.heap.objs.size (I.hok.fresh (Nat.le_succ _)) (I.hok.fresh (Nat.le_refl _)) (Nat.ne_of_lt (Nat.lt_succ_self _))
 have I2:=Inv.made (C:=C) I
 have r2:Vals (V.ref (s.heap.objs.size+1)::(vs++dvs)) (Value.ref (s.heap.objs.size+1)::(us++ds)):=.cons rfl (r.append hd)
 have hl:(Value.ref (s.heap.objs.size+1)::us++ds).length=ps.length:=by
  have e:=r2.length
  rw[F.len _ _ _ _ hq]at e
  exact e.symm
 refine wpAny_call (zm (f:=f) I.kIn M.makes M.init (beq_iff_eq.mp M.fn) (codeAny_mono (F.run _ X.stack _ _ ⟨Value.ref (s.heap.objs.size+1)::us,[]⟩ (Value.ref (s.heap.objs.size+1)::(us++ds)) _ _ E (hr.make C us [])
  (I2.env0.make C us []) (hb _ (Value.ref (s.heap.objs.size+1)::us) I2.kIn hl) r2 hq) λr s' hq'=>?_))
 cases r with
 | error e=>exact hx pins Z _ _ e s' I2 hq'
 | ok fl =>
  cases fl with
  | ret u =>
   obtain⟨v,H',I3,rv,ev,q3⟩:=I2.after hq'
   subst ev
   exact⟨rv,⟨V.ref (s.heap.objs.size+1),H',I3,rfl,q3⟩⟩
  | next=>exact False.elim hq'
  | brk=>exact False.elim hq'
  | cont=>exact False.elim hq'
end
structure FnScope(N P:List Str)(sc:Scope):Prop where
 kind:sc.kind=.function
 co:sc.isCoroutine=false
 gen:sc.isGenerator=false
 nd:N.Nodup
 pre:N.take P.length=P
 par:∀x∈P,sc.names.lookup x=some .local\/sc.names.lookup x=some .cell
 nofree:∀y∈sc.names,y.2≠.free
theorem n4{kindOf:Str->Option NameKind}{x:Str}:∀{binds:List (Str×Value)} {m:zzl},(∀v,(x,v)∉binds)->bindL kindOf binds m x=m x
 | [],_,_=>rfl
 | (n,v)::r,m,h=>by
  unfold bindL
  rw[n4 λw hw=>h w (zzg _ hw)]
  split
  ·have:x≠n:=by rintro rfl;exact h v List.mem_cons_self
   simp[this]
  ·rfl
theorem n6{kindOf:Str->Option NameKind}{x:Str}:∀{binds:List (Str×Value)} {m:zzl},(∀v,(x,v)∉binds)->bindC kindOf binds m x=m x
 | [],_,_=>rfl
 | (n,v)::r,m,h=>by
  unfold bindC
  rw[n6 λw hw=>h w (zzg _ hw)]
  split
  ·rfl
  ·have:x≠n:=by rintro rfl;exact h v List.mem_cons_self
   simp[this]
theorem n5{kindOf:Str->Option NameKind}{x:Str}{v:Value}:∀{P:List Str} {vs:List Value} {i:Nat} {m:zzl},P.Nodup->P[i]? = some x->vs[i]? = some v->kindOf x=some .local ->
  bindL kindOf (P.zip vs) m x=some v
 | [],_,_,_,_,h,_,_=>by simp at h
 | _::_,[],_,_,_,_,h,_=>by simp at h
 | p::P,w::vs,0,m,nd,h1,h2,hk=>by
  simp at h1 h2;subst h1;subst h2
  show bindL kindOf ((p,w)::P.zip vs) m p=_
  unfold bindL
  rw[n4 λv hv=>(List.nodup_cons.mp nd).1 (List.of_mem_zip hv).1,if_pos hk]
  simp
 | p::P,w::vs,i+1,m,nd,h1,h2,hk=>by
  show bindL kindOf ((p,w)::P.zip vs) m x=_
  unfold bindL
  exact n5 (i:=i) (List.nodup_cons.mp nd).2 (by simpa using h1) (by simpa using h2) hk
theorem n8{kindOf:Str->Option NameKind}{x:Str}{v:Value}:∀{P:List Str} {vs:List Value} {i:Nat} {m:zzl},P.Nodup->P[i]? = some x->vs[i]? = some v->kindOf x≠some .local ->
  bindC kindOf (P.zip vs) m x=some v
 | [],_,_,_,_,h,_,_=>by simp at h
 | _::_,[],_,_,_,_,h,_=>by simp at h
 | p::P,w::vs,0,m,nd,h1,h2,hk=>by
  simp at h1 h2;subst h1;subst h2
  show bindC kindOf ((p,w)::P.zip vs) m p=_
  unfold bindC
  rw[n6 λv hv=>(List.nodup_cons.mp nd).1 (List.of_mem_zip hv).1,if_neg hk]
  simp
 | p::P,w::vs,i+1,m,nd,h1,h2,hk=>by
  show bindC kindOf ((p,w)::P.zip vs) m x=_
  unfold bindC
  exact n8 (i:=i) (List.nodup_cons.mp nd).2 (by simpa using h1) (by simpa using h2) hk
def start(N:List Str)(vs:List V):St:=vs.map some++List.replicate (N.length - vs.length) none
def jt(CX:CXT)(P:Program)(w:World)(K:PySem.W.Frag)(mg:zzl)(base:Heap)(N:List Str)(qual:Str)(scope:Scope)(f:Addr)(cd:Value)(A:Around)(outer:List Env)(s:Shared)(H:Hp)(E:XK):Cx where
 prog:=P
 w:=w
 K:=K
 mg:=mg
 base:=base
 A:=A.deeper (envOfC qual scope s.heap.objs.size f cd)
 N:=N
 s₀:=s
 H₀:=H
 env:=envOfC qual scope s.heap.objs.size f cd
 outer:=outer
 stack:=envOfC qual scope s.heap.objs.size f cd::outer
 ex:=[]
 calm:=true
 fn:=λ_=>true
 pn:=[]
 xe:=λe s'=>wpAny (model P w) (A.deeper (envOfC qual scope s.heap.objs.size f cd)) (leaving (envOfC qual scope s.heap.objs.size f cd) e) (λ_ s''=>CX outer H s E e s'') (λe' s''=>CX outer H s E e' s'') s'
theorem sE{sc:Scope}{n:Nat}{x:Str}(h:sc.names.lookup x=some .cell):∃c,(cellsFrom n sc.names []).lookup x=some c:=by
 have q:=PySem.W.cellsFrom_some sc.names n [] (.inl h)
 exact Option.isSome_iff_exists.mp q
theorem xx{CX:CXT}{P:Program}{w:World}{K:PySem.W.Frag}{mg:zzl}{base:Heap}{N ps:List Str}{qual:Str}{scope:Scope}{f:Addr}{cd:Value}{A:Around}{outer:List Env}{s s1:Shared}{H:Hp}{E:XK}{us:List Value}{vs:List V}
  (S:FnScope N ps scope) (hd:A.handled=none) (e0:Env0 P w K mg base A outer s H) (hl:vs.length=ps.length) (r:Vals vs us)
  (x:InCallC s s.heap.objs.size (bindL (envOfC qual scope s.heap.objs.size f cd).kindOf (ps.zip us) λ_=>none) (cellsFrom (s.heap.objs.size+1) scope.names []) (bindC (envOfC qual scope s.heap.objs.size f cd).kindOf (ps.zip us) λ_=>none) s1) :
  Inv (jt CX P w K mg base N qual scope f cd A outer s H E) [] (start N vs) H s1:=by
 have hpl:ps.length<=N.length:=by have:=congrArg List.length S.pre;rw[List.length_take]at this;lia
 obtain⟨h1,tk,rfl,hk⟩:=x.done
 have noA:∀b:Addr,b∉(jt CX P w K mg base N qual scope f cd A outer s H E).ex:=λb z=>absurd (show b∈([]:List Addr)from z) (by simp)
 refine⟨⟨e0.mod,S.kind,rfl,rfl,Nat.le_refl _,λy z c h1 h2=>?_,λy hy=>?_,λy c _ h=>?_,λ_=>hd,Around.frames_deeper e0.frames,.inr ⟨rfl,rfl⟩,λb z=>absurd z (noA b),e0.bs,e0.bsz,λb _ _=>noA b,λb z=>absurd z (noA b),e0.funs,e0.frf⟩,
  rfl,e0.bare,Un.kept hk,⟨_,x.toInCall.ns,λi y v h1 h2 h3=>?_⟩,λy c h=>⟨_,x.cell y c h⟩,e0.hok.fresh (Nat.le_refl _),λy c h=>?_,λp hp=>absurd (show p∈([]:zzk)from hp) (by simp),e0.hok.kept hk,?_⟩
 ·exact name_of_addr x.apart (PySem.mem_of_lookup h1) (PySem.mem_of_lookup h2)
 ·have hy:scope.names.lookup y=some .cell\/scope.names.lookup y=some .free:=hy
  rcases hy with hy|hy
  ·exact sE hy
  ·exact absurd rfl (S.nofree _ (PySem.mem_of_lookup hy))
 ·exact Nat.le_of_lt (x.above y c (PySem.mem_of_lookup h))
 ·have hi:i<vs.length:=by
   unfold start at h2
   by_cases hi:i<vs.length
   ·exact hi
   ·rw[List.getElem?_append_right (by simpa using hi)]at h2
    rw[List.getElem?_replicate]at h2
    split at h2<;>cases h2
  have ha:vs[i]? = some v:=by
   unfold start at h2
   rw[List.getElem?_append_left (by simpa using hi),List.getElem?_map]at h2
   cases e:vs[i]? with
   | none=>rw[e]at h2;cases h2
   | some a=>rw[e]at h2;cases h2;rfl
  obtain⟨u,hu,rv⟩:=r.get ha
  have hp:ps[i]? = some y:=by
   rw[<-S.pre,List.getElem?_take_of_lt (by lia)];exact h1
  have ndP:ps.Nodup:=by rw[<-S.pre];exact S.nd.sublist (List.take_sublist _ _)
  refine⟨u,rv,?_⟩
  rcases S.par y (List.mem_of_getElem? hp)with k|k
  ·exact .inl ⟨k,n5 ndP hp hu k⟩
  ·obtain⟨c,e⟩:=sE (n:=s.heap.objs.size+1) k
   refine .inr ⟨.inl k,c,e,?_⟩
   have q:=x.cell y c e
   rw[n8 ndP hp hu (by show scope.names.lookup y≠_;rw[k];decide)]at q
   exact q
 ·exact e0.hok.fresh (Nat.le_of_lt (x.above y c (PySem.mem_of_lookup h)))
 ·unfold start
  show _=N.length
  rw[zzf,zzd,List.length_replicate]
  lia
theorem GD{CX:CXT}{P:Program}{w:World}{K:PySem.W.Frag}{mg:zzl}{base:Heap}{k:Nat}{f:Addr}{name qual:Str}{params:Arguments}{body:List Stmt}{scope:Scope}{dV kV doc pm cdv ct oc:Value}{an od:Option Addr}
  {osl:Array (Option Value)} {N ps:List Str} {sp:Sp} (lk:K.lookup f=some ⟨oc,od,.func (PySem.W.fnOf name qual params body scope dV kV doc pm an cdv ct),osl⟩) (hcd:PySem.W.codeIn K cdv qual=true) (S:FnScope N ps scope)
  (len:∀vs H Q E,sp vs H Q E->vs.length=ps.length)
  (hbody:∀(A:Around) (outer:List Env) (s:Shared) (H:Hp) (vs:List V) (Q:VK) (E:XK),Room k (A.deeper (envOfC qual scope s.heap.objs.size f cdv))->sp vs H Q E ->
   ∃t,PSs (jt CX P w K mg base N qual scope f cdv A outer s H E) body t/\t { nx:=λ_ H'=>Q .non H',rt:=Q } (start N vs) H) :
  FnOk P w K mg base CX (k+1) f (PySem.W.fnOf name qual params body scope dV kV doc pm an cdv ct) ps sp:=by
 refine⟨len,λA outer s H args us vs Q E hr e0 hb r hsp=>?_⟩
 have hl:=len _ _ _ _ hsp
 have KX:K.In s.heap:=e0.mod.kin.keeps λb o e=>(e0.bs b o e).1
 have lim:s.heap.NoLimit:=e0.mod.nolimit.keeps λb o e=>(e0.bs b o e).1
 have hkind:∀y∈ps.zip us,scope.names.lookup y.1=some .local\/(scope.names.lookup y.1=some .cell/\((cellsFrom (s.heap.objs.size+1) scope.names []).lookup y.1).isSome=true):=λ⟨n,v⟩ hy=>by
  rcases S.par n (List.of_mem_zip hy).1 with q|q
  ·exact .inl q
  ·exact .inr ⟨q,PySem.W.cellsFrom_some _ _ _ (.inl q)⟩
 refine codeAny_call_function hr.depth (KX _ _ lk) rfl S.co S.gen rfl (PySem.W.codeRec_of KX hcd) (hb _ _ _ _ ?_)
 refine wpAny_newFunctionEnv_cells S.kind hkind λenv he s1 x=>?_
 subst he
 refine⟨lim.keeps x.toInCall.keep,codeAny_func ?_⟩
 obtain⟨t,ht,hq⟩:=hbody A outer s H vs Q E (hr.deeper _) hsp
 have I:Inv (jt CX P w K mg base N qual scope f cdv A outer s H E) [] (start N vs) H s1:=xx S hr.hd e0 hl r x
 refine wpAny_mono (ht [] s1 (start N vs) H _ I hq) (λfl s' hs=>?_) λe s' hs=>hs
 have fin:∀{σ':St} {H':Hp} {v:V} {u:Value},Inv (jt CX P w K mg base N qual scope f cdv A outer s H E) [] σ' H' s'->RelV v u->Q v H'->CE outer P w H s Q u s' :=
  λ{σ' H' v u} J rv q=>⟨v,H',J.os,J.bare,J.base,J.hok,rv,q⟩
 cases fl with
 | ret u =>
  obtain⟨v,σ',H',J,rv,q⟩:=hs
  exact fin J rv q
 | next =>
  obtain⟨σ',H',J,q⟩:=hs
  exact fin (v:=V.non) (u:=Value.none) J rfl q
 | brk =>
  obtain⟨_,_,_,q⟩:=hs
  exact False.elim q
 | cont =>
  obtain⟨_,_,_,q⟩:=hs
  exact False.elim q
section
variable {X:Cx}{x:Str}{p pos:Pos}{e:Expr}{es:List Expr}{t:TA}{id T:String}{r:List V->Hp->VK->Prop}
def tCB(r:List V->Hp->VK->Prop)(t:TA):TE:=λZ H Q=>t Z H λvs H1=>r vs H1 Q
theorem iQ(hc:CallR X (.builtin id) r)(hg:Gl X x)(hm:X.mg x=none)(hv:bootBuiltins x=some (.builtin id))(ha:PA X (e::es) t)(hn:x ≠ "__name__":=by decide)(hdb:(x==("__debug__" : Str))=false:=by decide)
  (he:starEach (e::es) X.env=(false,eval e X.env)::starEach es X.env:=by rfl) (hpl:(backTo pos (starEach es X.env)).any (·.1)=false:=by rfl):PE X (.Call (.Name x p) (e::es) [] pos) (tCB r t):=by
 intro pins s Z H Q I h
 refine wpAny_Call_Name_kw (pM I hg hm hv ?_ hn hdb)
 exact PyProof.Rows.callWith_builtin1 (thn (ha pos pins s Z H _ I h) λus s1 ⟨vs,H1,I1,r1,q1⟩=>hc pins s1 Z H1 vs us Q I1 r1 q1) he hpl
theorem jF(hc:CallR X (.type T) r)(hg:Gl X x)(hm:X.mg x=none)(hv:bootBuiltins x=some (.type T))(ha:PA X (e::es) t)(hn:x ≠ "__name__":=by decide)(hdb:(x==("__debug__" : Str))=false:=by decide)
  (he:starEach (e::es) X.env=(false,eval e X.env)::starEach es X.env:=by rfl) (hpl:(backTo pos (starEach es X.env)).any (·.1)=false:=by rfl):PE X (.Call (.Name x p) (e::es) [] pos) (tCB r t):=by
 intro pins s Z H Q I h
 refine wpAny_Call_Name_kw (pM I hg hm hv ?_ hn hdb)
 exact PyProof.Rows.callWith_type1 (thn (ha pos pins s Z H _ I h) λus s1 ⟨vs,H1,I1,r1,q1⟩=>hc pins s1 Z H1 vs us Q I1 r1 q1) he hpl
end
end L2
namespace HT
open PySem PyProof.Rows
def lexLt:List Int->List Int->Bool
 | [],[]=>false
 | [],_::_=>true
 | _::_,[]=>false
 | x::xs,y::ys=>if x=y then lexLt xs ys else decide (x<y)
theorem lexLt_cons(x y:Int)(xs ys:List Int):lexLt (x::xs) (y::ys)=if x=y then lexLt xs ys else decide (x<y):=rfl
theorem lexLt_nil_nil:lexLt [] []=false:=rfl
theorem lM(y:Int)(ys:List Int):lexLt [] (y::ys)=true:=rfl
theorem lN(x:Int)(xs:List Int):lexLt (x::xs) []=false:=rfl
theorem rX(A:Around)(s:Shared)(a:Int)(t:Tok)(c:Int)(u:Tok):∃e,SeqAt.EqAt A s (.int a t) (.int c u) e/\(e=true↔a=c) :=
 ⟨(a==c),SeqAt.EqAt.int_int a t c u,by simp⟩
theorem yA(A:Around)(s:Shared)(a:Int)(t:Tok)(c:Int)(u:Tok)(prog:Program)(w:World)(E:zzj)(Q:zzj)(h:Q (.bool (decide (a<c))) s) :
  wpAny (model prog w) A (richCompare .Lt (.int a t) (.int c u)) Q E s :=
 (PyProof.Rows.lt_int h:wpAny (model prog w) A (compareOp .Lt (.int a t) (.int c u)) Q E s)
section
open PySem.SeqAt
open PySem.AutoSeq1 (wpAny_loadPart')
open PySem.MeetsSeq PySem.MeetsSeq2 PySem.MeetsSeq3
theorem mN(l b:Addr)(items items2:Array Value)(n n2:Nat)(dd dd2:Option Addr)(sl sl2:Array (Option Value))(ns ms:List Int)(hi:IntsAre items.toList ns)(hj:IntsAre items2.toList ms) :
  Meets (Builtin.«tuple.__lt__» ⟨[.ref l,.ref b],[]⟩)
   (λ_ R s=>s.heap.get? l=some { cls:=.type "tuple",dict:=dd,data:=.seq items n,slots:=sl }/\s.heap.get? b=some { cls:=.type "tuple",dict:=dd2,data:=.seq items2 n2,slots:=sl2 } /\
    R (.ok (.ret (.bool (lexLt ns ms)))) s) :=
 .of_wp λprog w A R s h=>by
  obtain⟨hp,g,d,tk,os⟩:=s;obtain⟨hl,hb,h⟩:=h
  have f2:=AutoSeq1.sub_tuple_tuple
  have z1:items.size=ns.length:=by rw[<-hi.length];simp
  have z2:items2.size=ms.length:=by rw[<-hj.length];simp
  wp_walk using wpAny_loadPart' hl,wpAny_loadPart' hb,wpAny_forIn_list _ (λrest b s'=>b.1=none/\s'=⟨hp,g,d,tk,os⟩/\∃(vs ws:List Value) (ns' ms':List Int),rest=vs.zip ws /\
   IntsAre vs ns'/\IntsAre ws ms'/\ns'.length+items2.size=ms'.length+items.size/\R (.ok (.ret (.bool (lexLt ns' ms')))) ⟨hp,g,d,tk,os⟩) _
  case turn =>
   rintro⟨y,x⟩ rest b s' ⟨hb',rfl,vs,ws,ns',ms',hz,hvi,hwi,hlen,hR⟩
   cases hvi with
   | nil=>rw[List.zip_nil_left]at hz;cases hz
   | cons a t hvi' =>
    cases hwi with
    | nil=>rw[List.zip_nil_right]at hz;cases hz
    | cons c u hwi' =>
     rw[List.zip_cons_cons]at hz
     injection hz with hyx hrest
     injection hyx with hy hx
     subst hy hx
     rw[lexLt_cons]at hR
     simp only[List.length_cons]at hlen
     obtain⟨e,he,hiff⟩:=rX A.in1 ⟨hp,g,d,tk,os⟩ a t c u
     refine zza (he prog w _ _ ?_)
     cases e with
     | true =>
      rw[if_pos (hiff.mp rfl)]at hR
      wp_walk
      exact⟨rfl,rfl,_,_,_,_,hrest,hvi',hwi',by lia,hR⟩
     | false =>
      rw[if_neg (λq=>absurd (hiff.mpr q) Bool.false_ne_true)]at hR
      have hri:=yA A.in1 ⟨hp,g,d,tk,os⟩ a t c u prog w
      wp_walk using hri
      exact⟨_,rfl,by simpa using hR⟩
  case fin =>
   rintro⟨b1,b2⟩ s' ⟨hb',rfl,vs,ws,ns',ms',hz,hvi,hwi,hlen,hR⟩
   simp only at hb'
   subst hb'
   have hv:lexLt ns' ms'=decide (items.size<items2.size):=by
    cases hvi with
    | nil =>
     cases hwi with
     | nil =>
      simp only[List.length_nil]at hlen
      rw[lexLt_nil_nil]
      exact(decide_eq_false (by lia)).symm
     | cons c u hw =>
      simp only[List.length_nil,List.length_cons]at hlen
      rw[lM]
      exact(decide_eq_true (by lia)).symm
    | cons a t hv =>
     cases hwi with
     | nil =>
      simp only[List.length_nil,List.length_cons]at hlen
      rw[lN]
      exact(decide_eq_false (by lia)).symm
     | cons c u hw =>
      rw[List.zip_cons_cons]at hz
      cases hz
   rw[hv]at hR
   wp_walk
   exact⟨_,rfl,by simpa[Builtin.Tuple.tupleCompareSizes]using hR⟩
  case h =>
   exact⟨rfl,rfl,items.toList,items2.toList,ns,ms,rfl,hi,hj,by lia,h⟩
end
section
variable {prog:Program}{w:World}{A:Around}{E:zzj}{s:Shared}
theorem lt_tupInts{l b:Addr}{items items2:Array Value}{ns ms:List Int}{Q:zzj}(hl:IsTup s.heap l items)(hb:IsTup s.heap b items2)(hi:IntsAre items.toList ns)(hj:IntsAre items2.toList ms)
  (hu:A.units<cLine) (h:Q (.bool (lexLt ns ms)) s):wpAny (model prog w) A (compareOp .Lt (.ref l) (.ref b)) Q E s:=by
 obtain⟨⟨cls,dd,data,sl⟩,ho,hc,n,hd⟩:=id hl
 obtain⟨⟨cls2,dd2,data2,sl2⟩,ho2,hc2,n2,hd2⟩:=id hb
 simp only at hc hd hc2 hd2
 subst hc hd hc2 hd2
 exact richCompare_meets_room (op:=.Lt) ⟨_,ho,rfl⟩ ⟨_,ho2,rfl⟩ PySem.F.slot_tuple_lt PySem.F.entry_tuple_lt (PySem.F.args_tuple_lt_2 _ _) (mN l b items items2 n n2 dd dd2 sl sl2 ns ms hi hj)
  ⟨ho,ho2,show Value.bool (lexLt ns ms)≠Value.notImplemented/\Q (.bool (lexLt ns ms)) s from⟨(λx=>nomatch x),h⟩⟩ hu
theorem cat_tup{t b:Addr}{vs ws:List Value}{Q:zzj}(ht:IsTup s.heap t vs.toArray)(hb:IsTup s.heap b ws.toArray)(hv:vs≠[])
  (h1:ws=[]->Q (.ref t) s) (h2:ws≠[]->Q (.ref s.heap.objs.size) { s with heap:=s.heap.push { cls:=.type "tuple",data:=.seq (vs++ws).toArray } })
  (hsz:vs.length+ws.length<=sizeLine):wpAny (model prog w) A (binaryOp .Add (.ref t) (.ref b)) Q E s:=by
 obtain⟨⟨cls,dd,data,sl⟩,ho,hc,n,hd⟩:=id ht
 obtain⟨⟨cls2,dd2,data2,sl2⟩,ho2,hc2,n2,hd2⟩:=id hb
 simp only at hc hd hc2 hd2
 subst hc hd hc2 hd2
 have e:vs.toArray++ws.toArray=(vs++ws).toArray:=by simp
 by_cases hw:ws=[]
 ·exact concat_meets ⟨_,ho,rfl⟩ ⟨_,ho2,rfl⟩ noFill_tuple_add seq_tuple_add PySem.F.slot_tuple_add PySem.F.entry_tuple_add (PySem.F.args_tuple_add_2 _ _)
   (tuple_addW1 t b vs.toArray ws.toArray n n2 dd dd2 sl sl2 (by simpa using hv) (by simp[hw])) ⟨ho,ho2,h1 hw⟩
 ·refine concat_meets ⟨_,ho,rfl⟩ ⟨_,ho2,rfl⟩ noFill_tuple_add seq_tuple_add PySem.F.slot_tuple_add PySem.F.entry_tuple_add (PySem.F.args_tuple_add_2 _ _)
   (tuple_addW2 t b vs.toArray ws.toArray n n2 dd dd2 sl sl2 (by simpa using hv) (by simpa using hw) (by rw[List.size_toArray,List.size_toArray];exact hsz)) ⟨ho,ho2,?_⟩
  rw[e]
  exact h2 hw
def sIx(n d:Nat):Option Int->Nat
 | none=>d
 | some v=>if v<0 then(v+(n:Int)).toNat else min v.toNat n
theorem sIx_none(n d:Nat):sIx n d none=d:=rfl
theorem sIx_nat(n d k:Nat):sIx n d (some (k:Int))=min k n:=by
 show(if(k:Int)<0 then((k:Int)+(n:Int)).toNat else min (k:Int).toNat n)=min k n
 rw[if_neg (by lia),Int.toNat_natCast]
theorem Dn(n d:Nat)(hd:d<=n)(o:Option Int):sIx n d o<=n:=by
 cases o with
 | none=>exact hd
 | some v =>
  show(if v<0 then(v+(n:Int)).toNat else min v.toNat n)<=n
  by_cases hv:v<0
  ·rw[if_pos hv];lia
  ·rw[if_neg hv];exact Nat.min_le_right _ _
theorem vR(v:Int)(n d:Nat):(if v<0 then max (v+(n:Int)) 0 else min v (n:Int))=((sIx n d (some v):Nat):Int):=by
 show(if v<0 then max (v+(n:Int)) 0 else min v (n:Int))=(((if v<0 then(v+(n:Int)).toNat else min v.toNat n):Nat):Int)
 by_cases hv:v<0
 ·simp only[if_pos hv];lia
 ·simp only[if_neg hv];lia
theorem uK(lo hi:Option Int)(n:Nat):Builtin.Slice.sliceAdjust lo hi 1 (n:Int)=(((sIx n 0 lo:Nat):Int),((sIx n n hi:Nat):Int)):=by
 have h1:¬ ((1:Int)<0):=by lia
 unfold Builtin.Slice.sliceAdjust
 simp only[h1,if_false]
 refine Prod.ext ?_ ?_
 ·cases lo with
  | none=>rfl
  | some v=>exact vR v n 0
 ·cases hi with
  | none=>rfl
  | some v=>exact vR v n n
theorem tS(i j:Nat):Builtin.Slice.slicePlaces (i:Int) (j:Int) 1=j - i:=by
 unfold Builtin.Slice.slicePlaces
 have h1:(1:Int)>0:=by lia
 simp only[h1,if_true,Int.ediv_one]
 split<;>lia
theorem kY{v:Value}{o:Option Int}{Q:Option Int->Shared->Prop}(p:IsPart v o)(h:Q o s):wpAny (model prog w) A (Builtin.Slice.slicePartIndex v) Q E s:=by
 cases p with
 | none=>exact slicePart_none h
 | int i t=>exact slicePart_int h
theorem fg{sl:Addr}{vl vu:Value}{lo hi:Option Int}{n:Nat}{Q:Int×Int×Nat->Shared->Prop}(hs:s.heap.IsSliceOf sl vl vu .none)(pl:IsPart vl lo)(pu:IsPart vu hi)
  (h:Q (((sIx n 0 lo:Nat):Int),1,sIx n n hi - sIx n 0 lo) s):wpAny (model prog w) A (Builtin.Slice.sliceApplied (.ref sl) (pure (n:Int))) Q E s:=by
 obtain⟨os,hos,hcs,hds⟩:=id hs
 unfold Builtin.Slice.sliceApplied Builtin.Slice.sliceFields
 refine zza (zza (wpAny_field hos hds (x:=vl) rfl (zza (wpAny_field hos hds (x:=vu) rfl (zza (wpAny_field hos hds (x:=.none) rfl (zzb ?_)))))))
 refine zza (slicePart_none ?_)
 show wpAny _ _ (if((1:Int)==0)=true then _ else _) _ _ s
 rw[if_neg (by decide)]
 refine zza (kY pl (zza (kY pu (zza (zzb ?_)))))
 show wpAny _ _ (match Builtin.Slice.sliceAdjust lo hi 1 (n:Int)with|(lo,hi)=>pure (lo,(1:Int),Builtin.Slice.slicePlaces lo hi 1)) _ _ s
 rw[uK lo hi n]
 show wpAny _ _ (pure (((sIx n 0 lo:Nat):Int),(1:Int),Builtin.Slice.slicePlaces ((sIx n 0 lo:Nat):Int) ((sIx n n hi:Nat):Int) 1)) _ _ s
 rw[tS]
 exact zzb h
theorem yO(xs:Array Value)(i k:Nat):((List.range k).filterMap λ(m:Nat)=>xs[((i:Int)+(m:Int)*1).toNat]?).toArray=((xs.toList.drop i).take k).toArray:=by
 have e:(λ(m:Nat)=>xs[((i:Int)+(m:Int)*1).toNat]?)=λm=>xs[i+m]?:=by
  funext m
  have:((i:Int)+(m:Int)*1).toNat=i+m:=by lia
  rw[this]
 rw[e]
 have:=pick_run xs i k
 rw[List.filterMap_map]at this
 have e2:((λx=>xs[x]?)∘λx=>i+x)=λm=>xs[i+m]?:=rfl
 rw[e2]at this
 rw[this]
theorem getItem_tuple_cut{t sl:Addr}{items:Array Value}{vl vu:Value}{lo hi:Option Int}{Q:zzj}(ht:IsTup s.heap t items)(hs:s.heap.IsSliceOf sl vl vu .none)(pl:IsPart vl lo)(pu:IsPart vu hi)
  (hw:¬ (sIx items.size 0 lo=0/\sIx items.size items.size hi=items.size))
  (h:Q (.ref s.heap.objs.size) { s with heap:=s.heap.push { cls:=.type "tuple",data:=.seq ((items.toList.drop (sIx items.size 0 lo)).take (sIx items.size items.size hi - sIx items.size 0 lo)).toArray } })
  (hsz:items.size<=sizeLine):wpAny (model prog w) A (getItem (.ref t) (.ref sl)) Q E s:=by
 have htake:sizeOk (.seq ((items.toList.drop (sIx items.size 0 lo)).take (sIx items.size items.size hi - sIx items.size 0 lo)).toArray):=by
  show((items.toList.drop (sIx items.size 0 lo)).take (sIx items.size items.size hi - sIx items.size 0 lo)).toArray.size<=sizeLine
  rw[List.size_toArray,List.length_take,List.length_drop,Array.length_toList]
  lia
 have hj:sIx items.size items.size hi<=items.size:=Dn _ _ (Nat.le_refl _) hi
 obtain⟨os,hos,hcs,hds⟩:=id hs
 have hTs:s.TypeIs (.ref sl) "slice":=⟨os,hos,hcs⟩
 unfold getItem
 try with_reducible refine wpAny_holding ?_
 first|refine zza (zzb ?_)|skip
 refine zza (wpAny_sequenceKey ht.typeIs (by decide) ?_)
 refine zza (wpAny_callSpecial?_slot (name:=Str.ofString "__getitem__") ht.typeIs PyProof.Rows.slot_tuple_getitem
  (wpAny_call_entry PyProof.Rows.slot_tuple_getitem ht.typeIs entry_tuple_getitem ?_ (args_tuple_getitem _ _)))
 show wpAny _ _ (Builtin.Tuple.tupleItemsOf (.ref t) >>= _) _ _ s
 refine zza (tupleItemsOf_ ht ?_)
 refine zza (wpAny_typeOf hTs ?_)
 rw[if_pos (by decide)]
 refine zza (fg hs pl pu ?_)
 have hno:¬ ((((sIx items.size 0 lo:Nat):Int)==0&&(1:Int)==1&&(sIx items.size items.size hi - sIx items.size 0 lo)==items.size)=true):=by
  intro q
  rw[Bool.and_eq_true,Bool.and_eq_true]at q
  have q1:((sIx items.size 0 lo:Nat):Int)=0:=eq_of_beq q.1.1
  have q2:sIx items.size items.size hi - sIx items.size 0 lo=items.size:=eq_of_beq q.2
  exact hw ⟨by lia,by lia⟩
 show wpAny _ _ (if(((sIx items.size 0 lo:Nat):Int)==0&&(1:Int)==1&&(sIx items.size items.size hi - sIx items.size 0 lo)==items.size)=true then _ else _) _ _ s
 rw[if_neg hno,yO]
 first
  | exact zza (m:=Builtin.Tuple.tupleExact _) (wpAny_newObj_type (zzb ⟨_,rfl,zzb h⟩) htake)
  | exact zza (m:=Builtin.Tuple.tupleExact _) (wpAny_newObj_type (zza (zzb (zzb ⟨_,rfl,zzb h⟩))) htake)
  | exact zza (zza (m:=Builtin.Tuple.tupleExact _) (wpAny_newObj_type (zzb (zzb ⟨_,rfl,zzb h⟩)) htake))
  | exact zza (zza (m:=Builtin.Tuple.tupleExact _) (wpAny_newObj_type (zzb ⟨_,rfl,zzb h⟩) htake))
end
end HT
namespace L2
open PySem PySem.Spec PyProof.Rows
abbrev TO:=St->Hp->(Option Int->Hp->Prop)->Prop
def PO(X:Cx)(e:Option Expr)(t:TO):Prop :=
 ∀(pins:zzk) (s:Shared) (Z:St) (H:Hp) (Q:Option Int->Hp->Prop),Inv X pins Z H s->t Z H Q ->
  wpAny (model X.prog X.w) X.A (evalPart e X.env) (λu s'=>∃o H',Inv X pins Z H' s'/\IsPart u o/\Q o H') X.xe s
def Av:TO:=λ_ H Q=>Q none H
def EW(t:TE):TO:=λZ H Q=>t Z H λx H1=>∃i,x=.int i/\Q (some i) H1
theorem intsAre_of{ns:List Int}:∀{us:List Value},Vals (ns.map V.int) us->IntsAre us ns:=by
 induction ns with
 | nil=>intro us r;rw[List.map_nil]at r;cases r;exact .nil
 | cons n ns ih =>
  intro us r
  rw[List.map_cons]at r
  cases r with
  | cons r1 r2 =>
   obtain⟨t,e⟩:=r1
   subst e
   exact .cons n t (ih r2)
section
variable {X:Cx}{e:Expr}{te:TE}{lo hi:Option Expr}{tl th:TO}{pos p2:Pos}
theorem A3:PO X none Av:=by
 intro pins s Z H Q I h
 rw[evalPart_none]
 exact zzb ⟨none,H,I,.none,h⟩
theorem A2(h:PE X e te):PO X (some e) (EW te):=by
 intro pins s Z H Q I hw
 rw[evalPart_some]
 refine thn (h pins s Z H _ I hw) λu s1 ⟨x,H1,I1,r1,q1⟩=>?_
 obtain⟨i,rfl,q⟩:=q1
 obtain⟨t,rfl⟩:=r1
 exact⟨some i,H1,I1,.int i t,q⟩
def SlR(X:Cx)(r:V->Option Int->Option Int->Hp->VK->Prop):Prop :=
 ∀(pins:zzk) (s:Shared) (Z:St) (H:Hp) (x:V) (v vl vu:Value) (lo hi:Option Int) (sl:Addr) (Q:VK),Inv X pins Z H s->RelV x v->s.heap.IsSliceOf sl vl vu .none->IsPart vl lo->IsPart vu hi->r x lo hi H Q ->
  ∃T id,typeLookup (.type T) "__getitem__" = pure (some (.builtin id))/\s.TypeIs v T/\wpAny (model X.prog X.w) X.A (getItem v (.ref sl)) (EP X pins Z Q) X.xe s
theorem SlR.or{r r':V->Option Int->Option Int->Hp->VK->Prop}(h:SlR X r)(h':SlR X r'):SlR X (λx lo hi H Q=>r x lo hi H Q\/r' x lo hi H Q):=by
 intro pins s Z H x v vl vu lo hi sl Q I rx hs pl pu q
 rcases q with q|q
 ·exact h pins s Z H x v vl vu lo hi sl Q I rx hs pl pu q
 ·exact h' pins s Z H x v vl vu lo hi sl Q I rx hs pl pu q
def tSl(r:V->Option Int->Option Int->Hp->VK->Prop)(te:TE)(tl th:TO):TE:=λZ H Q=>te Z H λx H1=>tl Z H1 λl H2=>th Z H2 λu H3=>r x l u H3 Q
theorem yS{r:V->Option Int->Option Int->Hp->VK->Prop}(hr:SlR X r)(he:PE X e te)(hl:PO X lo tl)(hu:PO X hi th):PE X (.Subscript e (.Slice lo hi none p2) pos) (tSl r te tl th):=by
 intro pins s Z H Q I h
 refine Subscript_ (thn (he pins s Z H _ I h) λv s1 ⟨x,H1,I1,r1,q1⟩=>?_)
 refine wpAny_Slice (thn (hl pins s1 Z H1 _ I1 q1) λvl s2 ⟨l,H2,I2,pl,q2⟩=>thn (hu pins s2 Z H2 _ I2 q2) λvu s3 ⟨u,H3,I3,pu,q3⟩=>?_)
 rw[evalPart_none]
 refine zzb ?_
 have I4:Inv X pins Z H3 { s3 with heap:=s3.heap.push { cls:=.type "slice",data:=.fields #[vl,vu,.none] } }:=I3.kept (t':=s3.toks) λb ob q=>zzc _ q
 obtain⟨T,id,hT,ht,hg⟩:=hr pins { s3 with heap:=s3.heap.push { cls:=.type "slice",data:=.fields #[vl,vu,.none] } } Z H3 x v vl vu l u s3.heap.objs.size Q I4 r1 (Heap.IsSliceOf.new ..) pl pu q3
 show wpAny (model X.prog X.w) X.A (subscriptTail e (.Slice lo hi none p2) v (.ref s3.heap.objs.size)) (EP X pins Z Q) X.xe { s3 with heap:=s3.heap.push { cls:=.type "slice",data:=.fields #[vl,vu,.none] } }
 exact tail_any (ops:=[.ref s3.heap.objs.size,v]) ht hT hg (by with_unfolding_all rfl)
def sv(xs:List V)(lo hi:Option Int):List V:=(xs.drop (HT.sIx xs.length 0 lo)).take (HT.sIx xs.length xs.length hi - HT.sIx xs.length 0 lo)
theorem kh(xs:List V)(lo hi:Option Int):(sv xs lo hi).length<=xs.length:=by
 unfold sv
 rw[List.length_take,List.length_drop]
 lia
def Hi(K:PySem.W.Frag):V->Option Int->Option Int->Hp->VK->Prop:=λx lo hi H Q=>∃a xs,x=.ref a/\SqT K H a xs /\
 ¬ (HT.sIx xs.length 0 lo=0/\HT.sIx xs.length xs.length hi=xs.length)/\∀p,H p=none->Q (.ref p) (upd H p (.tup (sv xs lo hi)))
theorem sl_tup:SlR X (Hi X.K):=by
 intro pins s Z H x v vl vu lo hi sl Q I rx hs pl pu h
 obtain⟨a,xs,rfl,hx,hw,q⟩:=h
 cases rx
 obtain⟨its,r,ht,hz⟩:=I.tuple hx
 have hlen:its.toArray.size=xs.length:=by rw[List.size_toArray];exact r.length.symm
 refine⟨"tuple",_,PyProof.Rows.slot_tuple_getitem.lookup,ht.typeIs,?_⟩
 refine HT.getItem_tuple_cut ht hs pl pu (by rw[hlen];exact hw) ?_ (by rw[hlen];exact hz)
 rw[hlen]
 refine⟨.ref s.heap.objs.size,_,I.laid (t':=s.toks) (o:=.tup (sv xs lo hi)) (λb ob q=>zzc _ q) (Nat.le_refl _) ?_,rfl,q _ (I.hok.fresh (Nat.le_refl _))⟩
 exact⟨Nat.le_trans (kh xs lo hi) hz,_,(r.drop (HT.sIx xs.length 0 lo)).take (HT.sIx xs.length xs.length hi - HT.sIx xs.length 0 lo),IsTup.new _ _,TupN.new _ _⟩
def Fp(K:PySem.W.Frag):R2:=λx y H Q=>∃a b ns ms,x=.ref a/\y=.ref b/\SqT K H a (ns.map V.int)/\SqT K H b (ms.map V.int)/\Q (.bl (HT.lexLt ns ms)) H
theorem DN(hu:X.A.units<cLine):OpR X (compareOp .Lt) (Fp X.K):=by
 intro pins s Z H x y v u Q I rx ry h
 obtain⟨a,b,ns,ms,rfl,rfl,ha,hb,q⟩:=h
 cases rx
 cases ry
 obtain⟨its,r1,p1,_⟩:=I.tuple ha
 obtain⟨its2,r2,p2,_⟩:=I.tuple hb
 have i1:IntsAre its.toArray.toList ns:=intsAre_of r1
 have i2:IntsAre its2.toArray.toList ms:=intsAre_of r2
 exact HT.lt_tupInts p1 p2 i1 i2 hu ⟨.bl (HT.lexLt ns ms),H,I,rfl,q⟩
def FC(K:PySem.W.Frag):R2:=λx y H Q=>∃a b xs ys,x=.ref a/\y=.ref b/\SqT K H a xs/\SqT K H b ys/\xs≠[]/\xs.length+ys.length<=sizeLine /\
 (ys=[]->Q (.ref a) H)/\(ys≠[]->∀p,H p=none->Q (.ref p) (upd H p (.tup (xs++ys))))
theorem Vals.nil_iff{xs:List V}{us:List Value}(r:Vals xs us):us=[]↔xs=[]:=by
 cases r with
 | nil=>simp
 | cons _ _=>simp
theorem Bc:OpR X (binaryOp .Add) (FC X.K):=by
 intro pins s Z H x y v u Q I rx ry h
 obtain⟨a,b,xs,ys,rfl,rfl,ha,hb,hx,hz,q1,q2⟩:=h
 cases rx
 cases ry
 obtain⟨its,r1,p1,_⟩:=I.tuple ha
 obtain⟨its2,r2,p2,_⟩:=I.tuple hb
 refine HT.cat_tup p1 p2 (λz=>hx (r1.nil_iff.mp z)) (λz=>⟨.ref a,H,I,rfl,q1 (r2.nil_iff.mp z)⟩) (λz=>?_) (by rw[<-r1.length,<-r2.length];exact hz)
 refine⟨.ref s.heap.objs.size,_,I.laid (t':=s.toks) (o:=.tup (xs++ys)) (λb ob q=>zzc _ q) (Nat.le_refl _) ?_,rfl,q2 (λw=>z (r2.nil_iff.mpr w)) _ (I.hok.fresh (Nat.le_refl _))⟩
 exact⟨by rw[zzf];exact hz,_,r1.append r2,IsTup.new _ _,TupN.new _ _⟩
end
def ixN(n:Nat)(i:Int):Option Nat:=if 0<=i then(if i<n then some i.toNat else none)else if -(n:Int)<=i then some (i+n).toNat else none
def atI{α:Type}(xs:List α)(i:Int):Option α:=(ixN xs.length i).bind λj=>xs[j]?
theorem vB{n:Nat}{i:Int}{j:Nat}(h:ixN n i=some j):seqIndex? i n=some j/\j<n /\ -(n:Int)<=i/\i<n:=by
 unfold ixN at h
 by_cases h0:0<=i
 ·rw[if_pos h0]at h
  by_cases h1:i<n
  ·rw[if_pos h1]at h
   have e:i.toNat=j:=Option.some.inj h
   exact⟨by rw[seqIndex_of h0 h1,e],by lia,by lia,h1⟩
  ·rw[if_neg h1]at h;cases h
 ·rw[if_neg h0]at h
  by_cases h1 : -(n:Int)<=i
  ·rw[if_pos h1]at h
   have e:(i+n).toNat=j:=Option.some.inj h
   exact⟨by rw[seqIndex_neg (by lia) h1,e],by lia,h1,by lia⟩
  ·rw[if_neg h1]at h;cases h
theorem qi{α:Type}{xs:List α}{i:Int}{v:α}(h:atI xs i=some v):∃j,seqIndex? i xs.length=some j/\xs[j]? = some v/\j<xs.length /\ -(xs.length:Int)<=i/\i<xs.length:=by
 unfold atI at h
 cases e:ixN xs.length i with
 | none=>rw[e]at h;cases h
 | some j =>
  rw[e]at h
  obtain⟨h1,h2,h3,h4⟩:=vB e
  exact⟨j,h1,h,h2,h3,h4⟩
def qp(b:Expr):Prop:=∀o i,subscripted b false o i=operate [o,i] (getItem o i)
def IxR(X:Cx)(r:R2):Prop :=
 ∀(value slice:Expr) (pins:zzk) (s:Shared) (Z:St) (H:Hp) (x y:V) (v u:Value) (Q:VK),Inv X pins Z H s->RelV x v->RelV y u->r x y H Q ->
  subscripted slice false v u=operate [v,u] (getItem v u)->wpAny (model X.prog X.w) X.A (subscriptTail value slice v u) (EP X pins Z Q) X.xe s
def MtR(X:Cx)(id:String)(r:V->List V->Hp->VK->Prop):Prop :=
 ∀(pins:zzk) (s:Shared) (Z:St) (H:Hp) (x:V) (xs:List V) (v:Value) (us:List Value) (Q:VK),Inv X pins Z H s->RelV x v->Vals xs us->r x xs H Q ->
  wpAny (model X.prog X.w) X.A (call (.builtin id) (v::us)) (EP X pins Z Q) X.xe s
section
variable {X:Cx}{a b:Expr}{ta tb:TE}{pos:Pos}
theorem IxR.or{r r':R2}(h:IxR X r)(h':IxR X r'):IxR X (λx y H Q=>r x y H Q\/r' x y H Q):=by
 intro value slice pins s Z H x y v u Q I rx ry q hs
 rcases q with q|q
 ·exact h value slice pins s Z H x y v u Q I rx ry q hs
 ·exact h' value slice pins s Z H x y v u Q I rx ry q hs
theorem CB{r:R2}(hr:IxR X r)(ha:PE X a ta)(hb:PE X b tb)(hs:qp b):PE X (.Subscript a b pos) (tOp r ta tb):=by
 intro pins s Z H Q I h
 exact Subscript_ (Et ha hb I h λv u s2 x y H2 I2 rx ry q=>hr a b pins s2 Z H2 x y v u Q I2 rx ry q (hs _ _))
def Fx(K:PySem.W.Frag):R2:=λx y H Q=>∃p xs i v,x=.ref p/\y=.int i/\SqL K H p xs/\atI xs i=some v/\Q v H
def Fv(K:PySem.W.Frag):R2:=λx y H Q=>∃p xs i v,x=.ref p/\y=.int i/\SqT K H p xs/\atI xs i=some v/\Q v H
def Fw:R2:=λx y H Q=>∃z i c,x=.str z/\y=.int i/\z.length<=sizeLine/\atI z.cps.toList i=some c/\Q (.str ⟨#[c]⟩) H
theorem ix_list:IxR X (Fx X.K):=by
 intro value slice pins s Z H x y v u Q I rx ry h hs
 obtain⟨p,xs,i,z,rfl,rfl,hq,he,q⟩:=h
 cases rx
 obtain⟨t,rfl⟩:=ry
 obtain⟨its,r,pl,hz⟩:=I.list hq
 obtain⟨j,h1,h2,h3,h4,h5⟩:=qi he
 obtain⟨w,ew,rw'⟩:=r.get h2
 have hl:=r.length
 have hn:=iC
 have fin:EP X pins Z Q w s:=⟨z,H,I,rw',q⟩
 by_cases h0:0<=i
 ·have hj:i.toNat=j:=by
   rw[seqIndex_of h0 h5]at h1
   exact Option.some.inj h1
  exact item_listR pl.isList h0 (by lia) (by rw[hj];simpa using ew) fin hs
 ·have hj:(i+(its.toArray.size:Int)).toNat=j:=by
   rw[seqIndex_neg (by lia) h4]at h1
   rw[List.size_toArray,<-hl]
   exact Option.some.inj h1
  exact subscriptTail_builtinR (x:=w) pl.isList.typeIs slot_list_getitem.lookup
   (wpAny_getItem_list_neg (Q:=λr s'=>r=w/\EP X pins Z Q r s') pl.isList (by lia) (by rw[List.size_toArray]<;>lia) (by lia) (by rw[hj];simpa using ew) ⟨rfl,fin⟩) hs
theorem ix_tup:IxR X (Fv X.K):=by
 intro value slice pins s Z H x y v u Q I rx ry h hs
 obtain⟨p,xs,i,z,rfl,rfl,hq,he,q⟩:=h
 cases rx
 obtain⟨t,rfl⟩:=ry
 obtain⟨its,r,pl,hz⟩:=I.tuple hq
 obtain⟨j,h1,h2,h3,h4,h5⟩:=qi he
 obtain⟨w,ew,rw'⟩:=r.get h2
 have hl:=r.length
 have hn:=iC
 have fin:EP X pins Z Q w s:=⟨z,H,I,rw',q⟩
 exact subscriptTail_builtinR (x:=w) pl.typeIs slot_tuple_getitem.lookup
  (getItem_tuple (j:=j) (Q:=λr s'=>r=w/\EP X pins Z Q r s') pl (by lia) (by lia) (by rw[List.size_toArray,<-hl];exact h1) (by simpa using ew) ⟨rfl,fin⟩) hs
theorem Ec:IxR X Fw:=by
 intro value slice pins s Z H x y v u Q I rx ry h hs
 obtain⟨z,i,c,rfl,rfl,hz,he,q⟩:=h
 obtain⟨t,rfl⟩:=rx
 obtain⟨t',rfl⟩:=ry
 obtain⟨j,h1,h2,h3,h4,h5⟩:=qi he
 have hl:z.cps.toList.length=z.length:=by simp[Str.length]
 rw[hl]at h1 h4 h5
 have hn:=iC
 exact tail_any (typeIs_str s z t) slot_str_getitem.lookup (getItem_str (c:=c) (by
  have e1:decide (i < -(2^63:Int))=false:=decide_eq_false (by lia)
  have e2:decide (i>=2^63)=false:=decide_eq_false (by lia)
  rw[e1,e2,Bool.or_false]) (by rw[h1];simpa using h2) ⟨.str ⟨#[c]⟩,H,I.tok _,⟨_,rfl⟩,q⟩) hs
def rIx(K:PySem.W.Frag):R2:=λx y H Q=>Fx K x y H Q\/Fv K x y H Q\/Fw x y H Q
theorem Ed:IxR X (rIx X.K):=ix_list.or (ix_tup.or Ec)
theorem tY(its:List Value)(n j:Nat)(u:Value):Obj.mapSeq (·.setIfInBounds j u) { cls:=.type "list",data:=.seq its.toArray n }={ cls:=.type "list",data:=.seq (its.set j u).toArray n }:=by
 simp[Obj.mapSeq]
theorem Inv.lst{pins:zzk}{Z:St}{H:Hp}{s:Shared}{p:Addr}{xs:List V}(I:Inv X pins Z H s)(h:H p=some (.lst xs)) :
  ∃(its:List Value) (n:Nat),Vals xs its/\s.heap.get? p=some { cls:=.type "list",data:=.seq its.toArray n }/\xs.length<=sizeLine:=by
 obtain⟨z,its,n,r,e⟩:=I.hok p _ h
 exact⟨its,n,r,e,z⟩
theorem Inv.lstUpd{pins:zzk}{Z:St}{H:Hp}{s:Shared}{p:Addr}{xs ys:List V}{its its':List Value}{n n':Nat}{f:Obj->Obj}(I:Inv X pins Z H s)(h:H p=some (.lst xs))
  (ho:s.heap.get? p=some { cls:=.type "list",data:=.seq its.toArray n }) (hf:f { cls:=.type "list",data:=.seq its.toArray n }={ cls:=.type "list",data:=.seq its'.toArray n' }) (r:Vals ys its') (hz:ys.length<=sizeLine) (t:Nat) :
  Inv X pins Z (upd H p (.lst ys)) { s with heap:=s.heap.update p f,toks:=t }:=by
 have e:(s.heap.update p f).get? p=some { cls:=.type "list",data:=.seq its'.toArray n' }:=by
  rw[Heap.get?_update_self f ho (by rw[hf]<;>rfl),hf]
 refine I.write (x:=p) (e:=p) (by rw[h];trivial) (.inl rfl) (λb u hb q=>(Heap.get?_update_other _ _ (Ne.symm hb)).trans q) ⟨_,e⟩ ?_
 exact⟨hz,its',n',r,e⟩
def Fo:V->V->V->Hp->(Hp->Prop)->Prop:=λo i v H Q=>∃p xs k j,o=.ref p/\i=.int k/\H p=some (.lst xs)/\ixN xs.length k=some j/\Q (upd H p (.lst (xs.set j v)))
theorem set_list:GS X Fo:=by
 intro pins s Z H o i v ov iv u Q I ro ri rv h
 obtain⟨p,xs,k,j,rfl,rfl,hp,hj,q⟩:=h
 cases ro
 obtain⟨t,rfl⟩:=ri
 obtain⟨its,n,r,ho,hz⟩:=I.lst hp
 obtain⟨h1,h2,h3,h4⟩:=vB hj
 have hl:=r.length
 have hn:=iC
 have I':Inv X pins Z (upd H p (.lst (xs.set j v))) { s with heap:=s.heap.update p (Obj.mapSeq (·.setIfInBounds j u)) } :=
  I.lstUpd hp ho (tY its n j u) (r.set rv j) (by rw[List.length_set];exact hz) s.toks
 by_cases h0:0<=k
 ·have hk:k.toNat=j:=by
   rw[seqIndex_of h0 h4]at h1
   exact Option.some.inj h1
  exact PySem.W.ki_setAt ho h0 (by lia) (by rw[List.size_toArray,<-hl];exact h4) (by rw[hk];exact⟨_,I',q⟩)
 ·have hk:(k+(its.toArray.size:Int)).toNat=j:=by
   rw[seqIndex_neg (by lia) h3]at h1
   rw[List.size_toArray,<-hl]
   exact Option.some.inj h1
  exact PySem.W.ki_setBack ho (by lia) (by rw[List.size_toArray,<-hl];exact h3) (by lia) (by rw[hk];exact⟨_,I',q⟩)
theorem oH(lo hi:Option Int)(n:Nat):(sliceBounds lo hi none n).1=((HT.sIx n 0 lo:Nat):Int)/\(sliceBounds lo hi none n).2.1=((HT.sIx n n hi:Nat):Int)/\(sliceBounds lo hi none n).2.2=1:=by
 refine⟨?_,?_,rfl⟩
 ·cases lo with
  | none=>simp[sliceBounds,HT.sIx]
  | some i =>
   simp only[sliceBounds,HT.sIx,Option.getD_none,show(1:Int)>0 by decide,if_true]
   by_cases h:i<0
   ·simp only[h,if_true]<;>lia
   ·simp only[h,if_false]<;>lia
 ·cases hi with
  | none=>simp[sliceBounds,HT.sIx]
  | some i =>
   simp only[sliceBounds,HT.sIx,Option.getD_none,show(1:Int)>0 by decide,if_true]
   by_cases h:i<0
   ·simp only[h,if_true]<;>lia
   ·simp only[h,if_false]<;>lia
theorem mQ(its:List Value)(lo hi:Option Int):slicePick its.toArray lo hi none=((its.drop (HT.sIx its.length 0 lo)).take (HT.sIx its.length its.length hi - HT.sIx its.length 0 lo)).toArray:=by
 obtain⟨h1,h2,h3⟩:=oH lo hi its.toArray.size
 unfold slicePick
 rw[h1,h2,h3]
 simp only[sliceRange_one,pick_run,List.size_toArray]<;>rfl
def Hk(K:PySem.W.Frag):V->Option Int->Option Int->Hp->VK->Prop:=λx lo hi H Q=>∃a xs,x=.ref a/\SqL K H a xs/\∀p,H p=none->Q (.ref p) (upd H p (.lst (sv xs lo hi)))
theorem AD:SlR X (Hk X.K):=by
 intro pins s Z H x v vl vu lo hi sl Q I rx hs pl pu h
 obtain⟨a,xs,rfl,hx,q⟩:=h
 cases rx
 obtain⟨its,r,ht,hz⟩:=I.list hx
 have hlen:=r.length
 refine⟨"list",_,slot_list_getitem.lookup,ht.isList.typeIs,?_⟩
 refine wpAny_getItem_list_slice ht.isList hs pl pu .none (by simp) ?_ (by rw[List.size_toArray]<;>lia)
 rw[mQ,<-hlen]
 refine⟨.ref s.heap.objs.size,_,I.laid (t':=s.toks) (o:=.lst (sv xs lo hi)) (λb ob q=>zzc _ q) (Nat.le_refl _) ?_,rfl,q _ (I.hok.fresh (Nat.le_refl _))⟩
 exact⟨Nat.le_trans (kh xs lo hi) hz,_,0,(r.drop (HT.sIx xs.length 0 lo)).take (HT.sIx xs.length xs.length hi - HT.sIx xs.length 0 lo),zze _ rfl⟩
theorem qe:CallR X (.builtin "len") (λxs H Q=>∃p ys,xs=[.ref p]/\(SqL X.K H p ys\/SqT X.K H p ys)/\Q (.int ys.length) H):=by
 intro pins s Z H xs us Q I r h
 obtain⟨p,ys,rfl,hq,q⟩:=h
 obtain⟨u,rfl,rx⟩:=vals1 r
 cases rx
 have hn:=iC
 rcases hq with hq|hq
 ·obtain⟨its,r',pl,hz⟩:=I.list hq
  have hlen:=r'.length
  exact Calls.call_len_list pl.isList (by simp only[List.size_toArray]<;>lia) ⟨.int ys.length,H,I.tok _,⟨s.toks+1,by rw[List.size_toArray,hlen]⟩,q⟩
 ·obtain⟨its,r',pl,hz⟩:=I.tuple hq
  have hlen:=r'.length
  exact len_tuple pl (by simp only[List.size_toArray]<;>lia) ⟨.int ys.length,H,I.tok _,⟨s.toks+1,by rw[List.size_toArray,hlen]⟩,q⟩
theorem qc:CallR X (.builtin "len") (λxs H Q=>∃z,xs=[.str z]/\z.length<=sizeLine/\Q (.int z.length) H):=by
 intro pins s Z H xs us Q I r h
 obtain⟨z,rfl,hz,q⟩:=h
 obtain⟨u,rfl,t,rfl⟩:=vals1 r
 have hn:=iC
 exact len_str (by lia) ⟨.int z.length,H,I.tok _,⟨_,rfl⟩,q⟩
theorem CallR.or{f:Value}{r r':List V->Hp->VK->Prop}(h:CallR X f r)(h':CallR X f r'):CallR X f (λxs H Q=>r xs H Q\/r' xs H Q):=by
 intro pins s Z H xs us Q I rs q
 rcases q with q|q
 ·exact h pins s Z H xs us Q I rs q
 ·exact h' pins s Z H xs us Q I rs q
theorem aR:CallR X (.type "tuple") (λxs H Q=>∃p ys,xs=[.ref p]/\((SqL X.K H p ys/\∀l,H l=none->Q (.ref l) (upd H l (.tup ys)))\/(SqT X.K H p ys/\Q (.ref p) H))):=by
 intro pins s Z H xs us Q I r h
 obtain⟨p,ys,rfl,h⟩:=h
 obtain⟨u,rfl,rx⟩:=vals1 r
 cases rx
 rcases h with ⟨hq,q⟩|⟨hq,q⟩
 ·obtain⟨its,r',pl,hz⟩:=I.list hq
  have hlen:=r'.length
  refine call_tuple_list pl.isList (λh' kp=>?_) (by simp only[List.size_toArray]<;>lia)
  have I1:Inv X pins Z H { s with heap:=h' }:=I.kept (t':=s.toks) kp
  have I2:Inv X pins Z (upd H h'.objs.size (.tup ys)) { s with heap:=h'.push { cls:=.type "tuple",data:=.seq its.toArray } } :=
   I1.laid (t':=s.toks) (λb o e=>zzc _ e) (Nat.le_refl _) (show ObjOk X.prog X.w _ _ _ (.tup ys)from⟨hz,its,r',IsTup.new _ _,TupN.new _ _⟩)
  exact⟨.ref h'.objs.size,_,I2,rfl,q _ (I1.hok.fresh (Nat.le_refl _))⟩
 ·obtain⟨its,r',pl,hz⟩:=I.tuple hq
  exact call_tuple_same pl ⟨.ref p,H,I,rfl,q⟩
def tyV(K:PySem.W.Frag)(T:String)(x:V)(H:Hp):Prop:=match x with
 | .str _=>T = "str"
 | .int _=>T = "int"
 | .ref p=>(T = "list" /\ ∃xs,SqL K H p xs)\/(T = "tuple" /\ ∃o,K.lookup p=some o/\o.cls=.type "tuple" /\ o.dict=none) \/
   (T = "dict" /\ ((∃kvs,H p=some (.dK kvs))\/∃kvs,H p=some (.dT kvs)))\/(T = "set" /\ ∃S n,H p=some (.set S n))
 | _=>False
theorem tD{pins:zzk}{Z:St}{H:Hp}{s:Shared}{T:String}{x:V}{v:Value}(I:Inv X pins Z H s)(r:RelV x v)(ty:tyV X.K T x H) :
  s.TypeIs v T/\∀a,v=.ref a->∃ob,s.heap.get? a=some ob/\ob.dict=none:=by
 cases x with
 | str z =>
  obtain⟨t,rfl⟩:=r
  cases (show T = "str" from ty)
  exact⟨typeIs_str s z t,λ_ e=>nomatch e⟩
 | int i =>
  obtain⟨t,rfl⟩:=r
  cases (show T = "int" from ty)
  exact⟨typeIs_int s i t,λ_ e=>nomatch e⟩
 | ref p =>
  cases r
  rcases ty with ⟨rfl,xs,hq⟩|⟨rfl,o,hk,hc,hd⟩|⟨rfl,hk⟩|⟨rfl,S,n,hk⟩
  ·obtain⟨its,_,pl,_⟩:=I.list hq
   refine⟨pl.isList.typeIs,λa e=>?_⟩
   cases e
   obtain⟨o,n,e,c,hd,_⟩:=pl
   exact⟨o,e,hd⟩
  ·refine⟨⟨o,I.kIn p o hk,hc⟩,λa e=>?_⟩
   cases e
   exact⟨o,I.kIn _ o hk,hd⟩
  ·have z:∃o,s.heap.get? p=some o/\o.ExactDict:=by
    rcases hk with ⟨kvs,hk⟩|⟨kvs,hk⟩
    ·obtain⟨_,_,_,_,o,_,_,e,ex,_⟩:=I.hok p _ hk
     exact⟨o,e,ex⟩
    ·obtain⟨_,_,_,_,o,_,_,e,ex,_⟩:=I.hok p _ hk
     exact⟨o,e,ex⟩
   obtain⟨o,e,ex⟩:=z
   refine⟨⟨o,e,ex.1⟩,λa e2=>?_⟩
   cases e2
   exact⟨o,e,ex.2.1⟩
  ·obtain⟨o,_,_,_,e,ex,_⟩:=I.hok p _ hk
   refine⟨⟨o,e,ex.1⟩,λa e2=>?_⟩
   cases e2
   exact⟨o,e,ex.2.1⟩
 | _=>exact False.elim ty
def Hb(K:PySem.W.Frag)(T:String)(r:V->List V->Hp->VK->Prop)(to:TE):TE:=λZ H Q=>to Z H λx H1=>tyV K T x H1/\r x [] H1 Q
def tBM(K:PySem.W.Frag)(T:String)(r:V->List V->Hp->VK->Prop)(to:TE)(t:TA):TE:=λZ H Q=>to Z H λx H1=>tyV K T x H1/\t Z H1 λxs H2=>r x xs H2 Q
variable {o e:Expr}{es:List Expr}{to:TE}{t:TA}{name:Str}{apos cpos:Pos}{T id:String}{r:V->List V->Hp->VK->Prop}
theorem DF(pa:PlainAttrs T)(slot:Slot T name id)(hty:typeOf (.builtin id)=pure (.type "method_descriptor"))(hm:MtR X id r)(ho:PE X o to)
  (hbase:attributeBase o name X.env (eval o X.env)=eval o X.env:=by rfl) (hline:(apos.endLine==cpos.line)=true:=by rfl):PE X (.Call (.Attribute o name apos) [] [] cpos) (Hb X.K T r to):=by
 intro pins s Z H Q I h
 refine wpAny_Call_method0_late hbase hline (thn (ho pins s Z H _ I h) λv s1 ⟨x,H1,I1,r1,ty,q1⟩=>?_)
 obtain⟨h1,h2⟩:=tD I1 r1 ty
 exact⟨T,id,pa,slot,hty,h1,h2,Calls.callWith_builtin rfl (PySem.evalArgs_none (hm pins s1 Z H1 x [] v [] Q I1 r1 .nil q1))⟩
theorem FJ(pa:PlainAttrs T)(slot:Slot T name id)(hty:typeOf (.builtin id)=pure (.type "method_descriptor"))(hm:MtR X id r)(ho:PE X o to)(ha:PA X (e::es) t)
  (hbase:attributeBase o name X.env (eval o X.env)=eval o X.env:=by rfl)
  (hfew:((backTo cpos (starEach (e::es) X.env)).all (λx=>!x.1)&&(backToKw cpos (keywordEach [] X.env)).all (λx=>x.1.isSome)
   && decide ((e::es).length+([]:List Keyword).length+(if([]:List Keyword).isEmpty then 0 else 1)<30))=true:=by rfl)
  (hline:(apos.endLine==cpos.line)=true:=by rfl) (hs:starEach (e::es) X.env=(false,eval e X.env)::starEach es X.env:=by rfl) (hplain:(backTo cpos (starEach es X.env)).any (·.1)=false:=by rfl) :
  PE X (.Call (.Attribute o name apos) (e::es) [] cpos) (tBM X.K T r to t):=by
 intro pins s Z H Q I h
 refine wpAny_Call_method_late hbase hfew hline rfl (thn (ho pins s Z H _ I h) λv s1 ⟨x,H1,I1,r1,ty,q1⟩=>?_)
 obtain⟨h1,h2⟩:=tD I1 r1 ty
 refine⟨T,id,pa,slot,hty,h1,h2,?_⟩
 have hA:=ha cpos pins s1 Z H1 _ I1 q1
 rw[hs]at hA ⊢
 refine Calls.callWith_builtin (by show(false||(backTo cpos (starEach es X.env)).any (·.1))=false;rw[hplain]<;>rfl) (Calls.evalArgs_plain ?_)
 exact thn hA λus s2 ⟨vs,H2,I2,r2,q2⟩=>hm pins s2 Z H2 x vs v us Q I2 r1 r2 q2
end
def MtM(X:Cx)(id:String)(r:V->List V->Hp->VK->Prop):Prop :=
 ∀(pins:zzk) (s:Shared) (Z:St) (H:Hp) (x:V) (xs:List V) (v:Value) (us:List Value) (Q:VK),Inv X pins Z H s->RelV x v->Vals xs us->r x xs H Q ->
  wpAny (model X.prog X.w) X.A (call (.builtin id) (v::us)) (EP X pins Z Q) X.xe s
theorem Vals.one:∀{x:V} {us:List Value},Vals [x] us->∃u,us=[u]/\RelV x u:=by
 intro x us h
 cases h with
 | cons r t=>cases t;exact⟨_,rfl,r⟩
theorem Vals.zero:∀{us:List Value},Vals [] us->us=[]
 | _,.nil=>rfl
section
variable {X:Cx}{pins:zzk}{Z:St}{H:Hp}{s:Shared}{l b:Addr}{xs ys zs:List V}
theorem Inv.lset{its its':List Value}{n:Nat}{f:Array Value->Array Value}{t':Nat}(I:Inv X pins Z H s)(hH:H l=some (.lst xs))
  (e:s.heap.get? l=some { cls:=.type "list",data:=.seq its.toArray n }) (hf:f its.toArray=its'.toArray) (hv:Vals ys its') (hz:ys.length<=sizeLine) :
  Inv X pins Z (upd H l (.lst ys)) { s with heap:=s.heap.update l (Obj.mapSeq f),toks:=t' }:=by
 have q:=PySem.IsL.update e f
 rw[hf]at q
 refine I.write (x:=l) (e:=l) (by rw[hH];exact trivial) (.inl rfl) (λb' u hb hu=>(Heap.get?_update_other s.heap (Obj.mapSeq f) (Ne.symm hb)).trans hu) ⟨_,q⟩ ?_
 exact⟨hz,its',_,hv,q⟩
theorem Inv.lstM(I:Inv X pins Z H s)(hH:H l=some (.lst xs)):xs.length<=sizeLine/\∃(its:List Value) (n:Nat),Vals xs its/\xs.length=its.length/\s.heap.get? l=some { cls:=.type "list",data:=.seq its.toArray n }:=by
 obtain⟨z,its,n,r,e⟩:=I.hok l _ hH
 exact⟨z,its,n,r,r.length,e⟩
end
section
variable {X:Cx}
def AU:V->List V->Hp->VK->Prop:=λx vs H Q=>∃l xs y,x=.ref l/\vs=[y]/\H l=some (.lst xs)/\xs.length<sizeLine/\Q .non (upd H l (.lst (xs++[y])))
theorem wW:MtM X "list.append" AU:=by
 intro pins s Z H x vs v us Q I rx rv h
 obtain⟨l,xs,y,rfl,rfl,hH,hz,q⟩:=h
 cases rx
 obtain⟨u,rfl,ru⟩:=rv.one
 obtain⟨z,its,n,r,hl,e⟩:=I.lstM hH
 refine call_meets F.slot_list_append ⟨_,e,rfl⟩ F.entry_list_append (F.args_list_append_2 _ _) (PySem.list_append l its.toArray n u (by rw[List.size_toArray];lia)) ⟨e,?_⟩
 refine⟨.non,_,I.lset (its':=its++[u]) hH e (by simp) (r.append (.cons ru .nil)) ?_,rfl,q⟩
 rw[zzf,List.length_singleton]
 lia
def Ds:V->List V->Hp->VK->Prop:=λx vs H Q=>∃l xs,x=.ref l/\vs=[]/\H l=some (.lst xs)/\Q .non (upd H l (.lst []))
theorem zk:MtM X "list.clear" Ds:=by
 intro pins s Z H x vs v us Q I rx rv h
 obtain⟨l,xs,rfl,rfl,hH,q⟩:=h
 cases rx
 have hus:=rv.zero
 subst hus
 obtain⟨z,its,n,r,hl,e⟩:=I.lstM hH
 refine call_meets F.slot_list_clear ⟨_,e,rfl⟩ F.entry_list_clear (F.args_list_clear_1 _) (AutoSeq1.list_clear_list_0 l its.toArray n (by rw[List.size_toArray];lia)) ⟨e,?_⟩
 exact⟨.non,_,I.lset (its':=[]) (ys:=[]) hH e rfl .nil (Nat.zero_le _),rfl,q⟩
end
end L2
namespace Att
open PySem PySem.W PySem.Calls PyProof.Rows
theorem kA{P:Params}{h:Heap}:∀(ns:List Int) (vs:List Value),WellAll P h vs (ns.map WData.int)->IntsAre vs ns:=by
 intro ns
 induction ns with
 | nil =>
  intro vs w
  rw[List.map_nil]at w
  cases w
  exact .nil
 | cons n ns ih =>
  intro vs w
  rw[List.map_cons]at w
  cases w with
  | cons a b =>
   cases a
   exact .cons _ _ (ih _ b)
theorem wB{l:OpenLaw}{n:Nat}(hn:l.most=some n){P:Params}{h:Heap}{args:List WData}{vals:List Value}
  (hpre:l.row.toRowW.claim.pre args=true) (hwl:WellAll P h vals args) :
  ∃a vs ns,vals=[Value.ref a]/\args=[WData.list (ns.map WData.int)]/\h.get? a=some { cls:=.type "list",data:=.seq vs.toArray }/\IntsAre vs ns/\ns.length<=n:=by
 have hsh:WShape.hasAll [] args [.list .int]=true:=(pre_splitW hpre).1
 have hc:l.pre.holds [] { args:=args }=true:=(pre_splitW hpre).2
 obtain⟨d,r,rfl,h1,h2⟩:=hasAllW_cons hsh
 obtain rfl:=hasAllW_nil h2
 obtain⟨xs,rfl,h3⟩:=hasW_list h1
 obtain⟨ns,rfl⟩:=items_int h3
 have hlen:ns.length<=n:=by
  unfold OpenLaw.pre at hc
  have h4:(WTm.not (.lt (.lit (.int (n:Int))) (.len (.arg 0)))).holds [] { args:=[.list (ns.map .int)] }=true:=by
   have h4:=(holds_andW hc).1
   rw[hn]at h4
   exact h4
  have h5:=condW_of h4 (w_not (w_lt w_lit (w_len_list (w_arg rfl))))
  rw[zzd]at h5
  refine Nat.le_of_not_lt λq=>?_
  have q':(n:Int)<((ns.length:Nat):Int):=by lia
  first
   | (rw[decide_eq_true q']at h5;exact absurd h5 (by decide))
   | (simp at h5;lia)
 cases hwl with
 | cons w1 w2 =>
  cases w2
  cases w1 with
  | list ho hall=>exact⟨_,_,ns,rfl,rfl,ho,kA ns _ hall,hlen⟩
theorem wK(l:OpenLaw)(args:List WData):l.row.toRowW.claim.post args (.bool true) args=true :=
 postW_of (r:=l.row.toRowW) (X:=(true==true))
  (show WShape.has [] (.bool true) .bool=true by first|rfl|decide|simp[WShape.has,WShape.arms,WShape.armsAll])
  (show(WTm.eq .res (.lit (.bool true))).value [] { args:=args,res:=some (.bool true),after:=args }=some (.bool (true==true))from w_eq_bool (w_res rfl) w_lit) rfl
theorem attach_call{l:OpenLaw}{n:Nat}{q:Program}{loose:List Str}{XP:(Str->Option Value)->Heap->Prop}{YP:World->Heap->Prop}{d:DefRec}
  (hn:l.most=some n) (hdf:d.params.defaults=[])
  (call:∀(w:World) (s₀ s₁:Shared) (mg mb:zzl) (fa:Addr) (o:Obj) (pm cd doc:Value) (a:Addr) (vs:List Value) (ns:List Int),
   Ground q loose [] XP w s₀ mg mb s₁.heap->YP w s₁.heap ->
   s₁.heap.get? fa=some o->o.data=.func (docDef d.name d.params d.body d.scope pm cd doc)->s₁.heap.CodeRec cd d.name->mg d.name=some (.ref fa) ->
   s₁.heap.get? a=some { cls:=.type "list",data:=.seq vs.toArray }->IntsAre vs ns->ns.length<=n->s₁.gens = #[] ->
   codeAny (model l.prog w) callerA (.call (.ref fa) ⟨[.ref a],[]⟩) (λr s'=>r=.ok (.ret (.bool true))/\OldK s₁.heap s'.heap/\s'.os=s₁.os/\AllBare s'.gens) s₁) :
  WalkO q loose XP YP l.row.toRowW d [] (λf vs=>PySem.call f vs):=by
 intro w s₀ s₁ mg mb G Y fa o pm cd doc dV kV ho hd hcd hD hmg hg args vals as hpre hlay hrd hwl hlo
 obtain rfl:dV=.none:=Dflts.none hD hdf
 obtain rfl:kV=.none:=Dflts.noKw hD
 obtain⟨a,vs,ns,rfl,rfl,hobj,hints,hlen⟩:=wB hn hpre hwl
 refine enter_call (codeAny_mono (call w s₀ s₁ mg mb fa o pm cd doc a vs ns G Y ho (fd_plain hd) hcd hmg hobj hints hlen hg) λr s' hq=>?_)
 obtain⟨rfl,h2,h3,h4⟩:=hq
 exact⟨.inl ⟨.bool true,.bool true,[],rfl,λ_=>rfl,.bool true,wK l _,λ_=>⟨List.Pairwise.nil,λ_ hm=>(nomatch hm)⟩⟩,h2,h3,h4⟩
end Att
namespace L2
open PySem PySem.Spec PyProof.Rows
theorem nq:∀{vs:List Value} {ns:List Int},IntsAre vs ns->Vals (ns.map V.int) vs
 | _,_,.nil=>.nil
 | _,_,.cons n t h=>.cons ⟨t,rfl⟩ (nq h)
def EH(H:Hp):Prop:=∀b,H b=none\/∃o xs,H b=some (.frz o (.lst xs))
theorem zu{P:Program}{w:World}{K:PySem.W.Frag}{mg mb:zzl}{CX:CXT}{k:Nat}{fa a:Addr}{fd:FuncData}{x:Str}{sp:Sp}{s₁:Shared}{vs:List Value}{ns:List Int}
  (KX:K.In s₁.heap) (hns:s₁.heap.Ns mainGlobals mg) (hb:s₁.heap.Ns builtinsNs mb) (hbb:∀x:Str,x ≠ "__name__" -> mb x=bootBuiltins x) (hlim:s₁.heap.NoLimit) (hg:s₁.gens = #[])
  (ha:s₁.heap.get? a=some { cls:=.type "list",data:=.seq vs.toArray }) (hi:IntsAre vs ns) (hl:ns.length<=sizeLine) (hr:Room k callerA)
  (F:∀base:Heap,K.In base->base.Ns mainGlobals mg->FnOk P w K mg base CX k fa fd [x] sp) (hbind:∀(s:Shared) (u:Value),BindsTo s fd ⟨[u],[]⟩ [(x,u)])
  (hsp:∀H:Hp,EH H->SqL K H a (ns.map V.int)->sp [.ref a] H (λv _=>v=.bl true) λ_ _ _=>False)
  (hCX:∀H e s',CX [] H s₁ (λ_ _ _=>False) e s'->False) :
  codeAny (model P w) callerA (.call (.ref fa) ⟨[.ref a],[]⟩) (λr s'=>r=.ok (.ret (.bool true))/\OldK s₁.heap s'.heap/\s'.os=s₁.os/\AllBare s'.gens) s₁:=by
 have rv:=nq hi
 have lenV:=hi.length
 have core:∀H:Hp,EH H->SqL K H a (ns.map V.int)->HOk P w H s₁.heap->(∀b,H b≠none->b=a)->(H a≠none->K.lookup a=none) ->
   codeAny (model P w) callerA (.call (.ref fa) ⟨[.ref a],[]⟩) (λr s'=>r=.ok (.ret (.bool true))/\OldK s₁.heap s'.heap/\s'.os=s₁.os/\AllBare s'.gens) s₁:=by
  intro H hO hS hok hA hK
  have base_of:∀{b:Addr} {o:Obj},s₁.heap.get? b=some o->H b=none->(pT s₁.heap H).get? b=some o:=λe n=>zH e n
  have noA:∀{b:Addr} {o:Obj} {es:Array DictEntry} {ep:Nat},s₁.heap.get? b=some o->o.data=.dict es ep->H b=none:=λ{b o es ep} e d=>by
   cases q:H b with
   | none=>rfl
   | some u =>
    have e':b=a:=hA b (by rw[q];simp)
    subst e'
    rw[ha]at e;cases e
    have d':Data.seq vs.toArray _=Data.dict es ep:=d
    cases d'
  have nsK:∀{b:Addr} {m:zzl},s₁.heap.Ns b m->(pT s₁.heap H).Ns b m:=λ{b m} ⟨o,es,ep,e,d,r⟩=>⟨o,es,ep,base_of e (noA e d),d,r⟩
  have hKb:K.In (pT s₁.heap H):=λb o e=>base_of (KX b o e) (by
   cases q:H b with
   | none=>rfl
   | some u =>
    have e':b=a:=hA b (by rw[q];simp)
    subst e'
    rw[hK (by rw[q];simp)]at e;cases e)
  have hM:Mod K mg (pT s₁.heap H):=⟨hKb,nsK hns,⟨mb,nsK hb,hbb⟩,let ⟨mc,h1,h2⟩:=hlim;⟨mc,nsK h1,h2⟩⟩
  have e0:Env0 P w K mg (pT s₁.heap H) callerA [] s₁ H:=⟨rfl,hM,λb o e=>Bh e,Nat.le_of_eq (xy _ _),trivial,λb hb=>absurd (show b∈([]:List Addr)from hb) (by simp),hok,.of_eq hg⟩
  refine codeAny_mono ((F _ hKb (nsK hns)).run callerA [] s₁ H ⟨[.ref a],[]⟩ [.ref a] [.ref a] _ _ hr e0 (hbind s₁ (.ref a)) (.cons rfl .nil) (hsp H hO hS)) λr s' h=>?_
  cases r with
  | error e=>exact(hCX H e s' h).elim
  | ok fl =>
   cases fl with
   | next=>exact False.elim h
   | brk=>exact False.elim h
   | cont=>exact False.elim h
   | ret u =>
    obtain⟨v,H',os,bare,un,hok',r',q⟩:=h
    have q':v=.bl true:=q
    subst q'
    obtain rfl:u=Value.bool true:=r'
    refine⟨rfl,OldK.of_keep λb o e=>?_,os,bare⟩
    cases q:H b with
    | none=>exact un.keep b o e q (by intro z;exact absurd (show b∈([]:List Addr)from z) (by simp)) (by simp)
    | some u =>
     rcases hO b with z|⟨ob,xs,z⟩
     ·rw[q]at z;cases z
     ·have z2:=un.frzs b ob _ z
      obtain⟨e1,_⟩:=hok b _ z
      obtain⟨e2,_⟩:=hok' b _ z2
      rw[e]at e1;cases e1
      exact e2
 cases hk:K.lookup a with
 | some o =>
  have e:=KX a o hk
  rw[ha]at e
  cases e
  refine core (λ_=>none) (λ_=>.inl rfl) (.inr ⟨_,vs.toArray,_,hk,rfl,rfl,rfl,by rw[List.size_toArray,lenV];exact hl,by simpa using rv⟩) (λb u z=>by have z':(none:Option HO)=some u:=z;cases z') (λb z=>absurd rfl z) λz=>absurd rfl z
 | none =>
  refine core (λb=>if b=a then some (.frz { cls:=.type "list",data:=.seq vs.toArray } (.lst (ns.map V.int)))else none) (λb=>?_) (.inl (.inr ⟨{ cls:=.type "list",data:=.seq vs.toArray },if_pos rfl⟩)) (λb u z=>?_) (λb z=>?_) λ_=>hk
  ·by_cases hb:b=a
   ·exact .inr ⟨_,_,if_pos hb⟩
   ·exact .inl (if_neg hb)
  ·by_cases hb:b=a
   ·have z':=(if_pos hb).symm.trans z
    cases z'
    subst hb
    exact⟨ha,by rw[zzd];exact hl,vs,_,rv,ha⟩
   ·have z':=(if_neg hb).symm.trans z
    cases z'
  ·by_cases hb:b=a
   ·exact hb
   ·exact absurd (if_neg hb) z
theorem walk_of{l:PySem.W.OpenLaw}{n k:Nat}{q:Program}{loose:List Str}{XP:(Str->Option Value)->Heap->Prop}{YP:World->Heap->Prop}{d:DefRec}{K:Params->PySem.W.Frag}{CX:World->CXT}{sp:World->Sp}{x:Str}
  (hn:l.most=some n) (hn2:n<=sizeLine) (hdf:d.params.defaults=[]) (hr:Room k callerA)
  (hY:∀(w:World) (h:Heap),YP w h->(K w.params).In h)
  (F:∀(w:World) (mg:zzl) (fa:Addr) (h:Heap),(K w.params).In h->h.Ns mainGlobals mg->mg d.name=some (.ref fa) ->
   ∃fd:FuncData,(∀(s:Shared) (u:Value),BindsTo s fd ⟨[u],[]⟩ [(x,u)]) /\
    ∀base:Heap,(K w.params).In base->base.Ns mainGlobals mg->FnOk l.prog w (K w.params) mg base (CX w) k fa fd [x] (sp w))
  (hsp:∀(w:World) (H:Hp) (a:Addr) (ns:List Int),ns.length<=n->EH H->SqL (K w.params) H a (ns.map V.int)->sp w [.ref a] H (λv _=>v=.bl true) λ_ _ _=>False)
  (hCX:∀(w:World) (H:Hp) (s:Shared) (e:Value) (s':Shared),CX w [] H s (λ_ _ _=>False) e s'->False) :
  PySem.W.WalkO q loose XP YP l.row.toRowW d [] (λf vs=>PySem.call f vs):=by
 refine Att.attach_call hn hdf λw s₀ s₁ mg mb fa o pm cd doc a vs ns G Y ho hd hcd hmg hobj hints hlen hg=>?_
 have KX:=hY w _ Y
 obtain⟨fd,hb,hF⟩:=F w mg fa _ KX G.T.g hmg
 exact zu KX G.T.g G.T.b G.T.builtins G.T.nolimit hg hobj hints (Nat.le_trans hlen hn2) hr hF hb (λH hO hS=>hsp w H a ns hlen hO hS) λH e s'=>hCX w H s₁ e s'
def cz(s:Stmt):Arguments:=match s with
 | .FunctionDef _ a _ _ _ _ _ _ _ _=>a
 | _=>{ posonlyargs:=[],args:=[],vararg:=none,kwonlyargs:=[],kw_defaults:=[],kwarg:=none,defaults:=[] }
def bf(s:Stmt):List Stmt:=match s with
 | .FunctionDef _ _ b _ _ _ _ _ _ _=>b
 | _=>[]
def au(s:Stmt):Scope:=match s with
 | .FunctionDef _ _ _ _ _ _ sc _ _ _=>sc
 | _=>{ kind:=.function,names:=[],isGenerator:=false,isCoroutine:=false }
structure Fun(K:PySem.W.Frag)(x qual:Str)(st:Stmt)(f:Addr)(fd:FuncData):Prop where
 ex:∃(oc:Value) (od:Option Addr) (kV doc pm:Value) (an:Option Addr) (cdv ct:Value) (osl:Array (Option Value)),
  fd=PySem.W.fnOf x qual (cz st) (bf st) (au st) .none kV doc pm an cdv ct/\K.lookup f=some ⟨oc,od,.func fd,osl⟩/\PySem.W.codeIn K cdv qual=true
 kp:PySem.W.keepIn K (.ref f)=true
section
variable {P:Program}{w:World}{K:PySem.W.Frag}{mg:zzl}{base:Heap}
theorem Fun.binds{x qual:Str}{st:Stmt}{f:Addr}{fd:FuncData}{ps:List Str}(F:Fun K x qual st f fd)
  (h:∀(kV doc pm:Value) (an:Option Addr) (cdv ct:Value) (us:List Value),us.length=ps.length->bindArgs (PySem.W.fnOf x qual (cz st) (bf st) (au st) .none kV doc pm an cdv ct) ⟨us,[]⟩=pure (ps.zip us)):Binds K fd ps []:=by
 obtain⟨oc,od,kV,doc,pm,an,cdv,ct,osl,rfl,lk,hcd⟩:=F.ex
 exact .all (h kV doc pm an cdv ct)
theorem pV{x qual:Str}{st:Stmt}{f:Addr}{oc:Value}{od an:Option Addr}{osl:Array (Option Value)}{kV doc pm cdv ct:Value}(l:K.lookup f=some ⟨oc,od,.func (PySem.W.fnOf x qual (cz st) (bf st) (au st) .none kV doc pm an cdv ct),osl⟩)
  (c:PySem.W.codeIn K cdv qual=true) (k:PySem.W.keepIn K (.ref f)=true):Fun K x qual st f (PySem.W.fnOf x qual (cz st) (bf st) (au st) .none kV doc pm an cdv ct):=⟨⟨oc,od,kV,doc,pm,an,cdv,ct,osl,rfl,l,c⟩,k⟩
end
theorem rL{A B:Prop}(h:B):if false=true then A else B:=by
 rw[if_neg Bool.false_ne_true]
 exact h
theorem pR{A B:Prop}(h:A):if true=true then A else B:=by
 rw[if_pos rfl]
 exact h
def Same(H H':Hp):Prop:=∀b o,H b=some o->H' b=some o
theorem Same.refl(H:Hp):Same H H:=λ_ _ h=>h
theorem Same.trans{H H1 H2:Hp}(a:Same H H1)(b:Same H1 H2):Same H H2:=λc o h=>b c o (a c o h)
theorem Same.free{H H':Hp}(e:Same H H'){l:Addr}(h:H' l=Option.none):H l=Option.none:=by
 cases q:H l with
 | none=>rfl
 | some o =>
  rw[e l o q]at h
  cases h
theorem Same.seq{K:PySem.W.Frag}{H H':Hp}{a:Addr}{xs:List V}(e:Same H H')(h:SqL K H a xs):SqL K H' a xs:=by
 rcases h with (h|⟨o,h⟩)|h
 ·exact .inl (.inl (e _ _ h))
 ·exact .inl (.inr ⟨o,e _ _ h⟩)
 ·exact .inr h
def aL(X:Cx)(N':List Str)(scope:Scope)(cl:List (Str×Addr))(s₂:Shared)(H₂:Hp)(fp:List Addr)(C:Addr):Cx :=
 { X with N:=N',s₀:=s₂,H₀:=H₂,env:=compEnvC scope cl C X.env,outer:=X.stack,ex:=fp,fn:=λ_=>false,pn:=[],xe:=λ_ _=>False }
def lobj(ys:List Value)(k:Nat):Obj:={ cls:=.type "list",data:=.seq ys.toArray k }
section
variable {prog:Program}{w:World}{A:Around}{R:Result->Shared->Prop}{s:Shared}
theorem gM{elt target iter:Expr}{ifs:List Expr}{scope:Scope}{pos:Pos}{it acc:Value}{env:Env}(I:Nat->Shared->Prop)
  (turn:∀n s,I n s->wpAny (model prog w) A (pyNext it) (λr s₁=>match r with
   | none=>R (.ok .next) s₁
   | some v=>wpAny (model prog w) A (letOwnedTupleGo target it v) (λ_ s₁'=>wpAny (model prog w) A (assign target env v) (λ_ s₂ =>
     wpAny (model prog w) A (forIn ifs true λc r=>if r=true then do let ok <-isTrue c env (eval c env);pure (ForInStep.yield ok)else pure (ForInStep.yield r)) (λok s₃ =>
      if ok=true then wpAny (model prog w) A (eval elt env) (λx s₄ =>
       wpAny (model prog w) A (call (.builtin "list.append") [acc,x]) (λ_ s₅=>∃m,m<n/\I m s₅) (λ_ _=>False) s₄) (λ_ _=>False) s₃
      else ∃m,m<n/\I m s₃) (λ_ _=>False) s₂) (λ_ _=>False) s₁') (λ_ _=>False) s₁) (λ_ _=>False) s)
  (n:Nat) (h:I n s) :
  codeAny (model prog w) A (.compLoop (.ListComp elt [⟨target,iter,ifs,0⟩] scope pos) 0 it acc env) R s:=by
 refine codeAny_loop rfl I (λn s hI=>?_) n h
 show wpAny _ A ((compTurn (.ListComp elt [⟨target,iter,ifs,0⟩] scope pos) 0 it acc env).onRaise (λx=>do noteFrame x env;theTreesLotGoes x)) _ _ s
 refine wpAny_noted ?_
 rw[compTurn_list]
 refine zza (wpAny_standAt (zza (wpAny_mono (turn n s hI) (λr s₁ h₁=>?_) λ_ _ h'=>h'.elim)))
 cases r with
 | none=>exact zzb h₁
 | some v =>
  refine zza (wpAny_mono h₁ (λ_ s₁' h₁'=>?_) λ_ _ h'=>h'.elim)
  refine zza (wpAny_mono h₁' (λ_ s₂ h₂=>zza (wpAny_mono h₂ (λok s₃ h₃=>?_) λ_ _ h'=>h'.elim)) λ_ _ h'=>h'.elim)
  cases ok with
  | false=>exact zzb ⟨rfl,h₃⟩
  | true =>
   exact zza (zza (wpAny_mono h₃ (λx s₄ h₄=>zza (wpAny_mono h₄ (λ_ s₅ h₅=>zzb (zzb ⟨rfl,h₅⟩)) λ_ _ h'=>h'.elim)) λ_ _ h'=>h'.elim))
end
def PTs(X:Cx)(ifs:List Expr)(t:TT):Prop :=
 ∀(pins:zzk) (s:Shared) (Z:St) (H:Hp) (Q:Bool->Hp->Prop),Inv X pins Z H s->t Z H Q ->
  wpAny (model X.prog X.w) X.A (forIn ifs true λc r=>if r=true then do let ok <-isTrue c X.env (eval c X.env);pure (ForInStep.yield ok)else pure (ForInStep.yield r)) (TP X pins Z Q) X.xe s
theorem AZ{X:Cx}:PTs X [] (λ_ H Q=>Q true H):=λ_ _ _ H _ I h=>wpAny_tests_nil ⟨H,I,h⟩
theorem AY{X:Cx}{c:Expr}{t:TT}(h:PT X c t):PTs X [c] t:=λpins s Z H Q I q=>wpAny_tests_one (h pins s Z H Q I q)
theorem d9{env:Env}:∀{names:List (Str×NameKind)} {x:Str},
  (names.map λ(n,k)=>if(k==NameKind.free&&env.scope.kind==.function&&env.kindOf n==some .cell)then(n,NameKind.cell)else(n,k)).lookup x
   = (names.lookup x).map λk=>if(k==NameKind.free&&env.scope.kind==.function&&env.kindOf x==some .cell)then NameKind.cell else k
 | [],_=>rfl
 | (n,k)::r,x=>by
  have ih:=@d9 env r x
  show List.lookup x ((if(k==NameKind.free&&env.scope.kind==.function&&env.kindOf n==some .cell)=true then(n,NameKind.cell)else(n,k))::_)=_
  cases hx:x==n with
  | true =>
   have e:x=n:=by simpa using hx
   subst e
   by_cases hc:(k==NameKind.free&&env.scope.kind==.function&&env.kindOf x==some .cell)=true
   ·rw[if_pos hc];simp only[List.lookup_cons,hx,Option.map_some,if_pos hc]
   ·rw[if_neg hc];simp only[List.lookup_cons,hx,Option.map_some,if_neg hc]
  | false =>
   by_cases hc:(k==NameKind.free&&env.scope.kind==.function&&env.kindOf n==some .cell)=true
   ·rw[if_pos hc];simp only[List.lookup_cons,hx];exact ih
   ·rw[if_neg hc];simp only[List.lookup_cons,hx];exact ih
theorem iH{env:Env}:∀(names:List (Str×NameKind)) (acc:List (Str×Addr)),(∀x∈names,x.2=.free->∃c,env.cells.lookup x.1=some c) ->
  (∀x c,acc.lookup x=some c->env.cells.lookup x=some c) ->
  ∃cl,(forIn names acc λ(x:Str×NameKind) (cs:List (Str×Addr))=>(if(x.2==NameKind.free)=true then(do let c <-cellOf env x.1;pure (ForInStep.yield ((x.1,c)::cs)))else pure (ForInStep.yield cs):Sem (ForInStep (List (Str×Addr)))))=pure cl /\
   (∀x c,cl.lookup x=some c->env.cells.lookup x=some c)/\(∀x,(acc.lookup x).isSome->(cl.lookup x).isSome)/\∀x∈names,x.2=.free->(cl.lookup x.1).isSome
 | [],acc,_,ha=>⟨acc,rfl,ha,λ_ h=>h,λ_ h=>nomatch h⟩
 | (n,k)::r,acc,hn,ha=>by
  cases hk:(k==NameKind.free)with
  | true =>
   obtain⟨c,hc⟩:=hn (n,k) List.mem_cons_self (by simpa using hk)
   have ha':∀x d,((n,c)::acc).lookup x=some d->env.cells.lookup x=some d:=λx d e=>by
    rw[List.lookup_cons]at e
    cases q:x==n with
    | true =>
     rw[q]at e
     have:x=n:=by simpa using q
     subst this
     exact hc.trans e
    | false=>rw[q]at e;exact ha x d e
   obtain⟨cl,e,h1,h2,h3⟩:=iH r ((n,c)::acc) (λx hx=>hn x (zzg _ hx)) ha'
   have grow:∀x,(acc.lookup x).isSome->(((n,c)::acc).lookup x).isSome:=λx hx=>by
    rw[List.lookup_cons]
    cases q:x==n with
    | true=>rfl
    | false=>exact hx
   refine⟨cl,?_,h1,λx hx=>h2 x (grow x hx),λx hx hf=>?_⟩
   ·rw[List.forIn_cons]
    have q:cellOf env n=pure c:=by
     unfold cellOf
     rw[hc]
    simp only[hk,if_true,q]
    exact e
   ·rcases List.mem_cons.mp hx with rfl|hx
    ·exact h2 _ (by simp[List.lookup_cons])
    ·exact h3 x hx hf
  | false =>
   obtain⟨cl,e,h1,h2,h3⟩:=iH r acc (λx hx=>hn x (zzg _ hx)) ha
   refine⟨cl,?_,h1,h2,λx hx hf=>?_⟩
   ·rw[List.forIn_cons]
    simp only[hk,Bool.false_eq_true,if_false]
    exact e
   ·rcases List.mem_cons.mp hx with rfl|hx
    ·exfalso;have:k=.free:=hf;subst this;simp at hk
    ·exact h3 x hx hf
theorem mv{env:Env}{scope:Scope}(h:∀x∈scope.names,x.2=.free->∃c,env.cells.lookup x.1=some c) :
  ∃cl,closureFor scope env=pure cl/\(∀x c,cl.lookup x=some c->env.cells.lookup x=some c)/\∀x∈scope.names,x.2=.free->(cl.lookup x.1).isSome:=by
 obtain⟨cl,e,h1,_,h3⟩:=iH (env:=env) scope.names [] h (λx c e=>by simp at e)
 refine⟨cl,?_,h1,h3⟩
 unfold closureFor
 have q:(forIn scope.names [] λ(x:Str×NameKind) (cs:List (Str×Addr))=>(match x with|(name,kind)=>if(kind==NameKind.free)=true then(do let c <-cellOf env name;pure (ForInStep.yield ((name,c)::cs)))else pure (ForInStep.yield cs):Sem (ForInStep (List (Str×Addr)))))=pure cl:=e
 first
  | (simp only[];rw[q];rfl)
  | (show(do let cs <-_;pure cs)=_;rw[q];rfl)
  | (rw[show(forIn scope.names [] _)=pure cl from q];rfl)
structure CompOk(X:Cx)(N':List Str)(k:Nat)(scope:Scope):Prop where
 kind:scope.kind=.function
 len:N'.length=X.N.length+k
 nocell:∀y∈scope.names,y.2≠.cell
 names:∀y∈scope.names,y.2=.local->scope.names.lookup y.1=some .local
 outer:∀(i:Nat) x,i<X.N.length->N'[i]? = some x->(scope.names.lookup x).isSome->(scope.names.lookup x=some .free\/scope.names.lookup x=some .local\/scope.names.lookup x=some .cell)->X.N[i]? = some x/\scope.names.lookup x=some .free
 free:∀y∈scope.names,y.2=.free->X.env.kindOf y.1=some .cell\/X.env.kindOf y.1=some .free
def uP(wi:TI)(k:Nat)(g:TG)(tc:TT)(te:TE):TE:=λZ H Q=>wi Z H λJ H1=>∃W:Nat->Nat->List V->St->Hp->Prop,(∃m,W 0 m [] (Z++List.replicate k none) H1) /\
 ∀i m vs σ' H',W i m vs σ' H'->vs.length<=sizeLine /\
  ((J.stop i H'/\∀p,H' p=none->Q (.ref p) (upd H' p (.lst vs))) \/
   (J.go i H'/\∀x H2,J.yld i H' x H2->g x σ' H2 λσ3 H3=>tc σ3 H3 λb H4=>if b=true then te σ3 H4 λy H5=>∃m',m'<m/\W (i+1) m' (vs++[y]) σ3 H5 else ∃m',m'<m/\W (i+1) m' vs σ3 H4))
section
variable {X:Cx}{pins:zzk}{Z:St}{H2:Hp}{s2:Shared}
theorem HOk.track{P:Program}{w:World}{H:Hp}{h:Heap}{D:Addr}{vs:List V}{ys:List Value}{k:Nat}(x:HOk P w H h)(hn:H D=none)(hl:vs.length<=sizeLine)(r:Vals vs ys)(e:h.get? D=some (lobj ys k)) :
  HOk P w (upd H D (.lst vs)) h:=λb u q=>by
 by_cases hb:b=D
 ·subst hb
  rw[aK]at q
  cases q
  exact⟨hl,ys,k,r,e⟩
 ·rw[aF hb]at q
  exact(x b u q).stay (λ_ _ _ z=>z) (λc z=>by rw[aF (aQ z hn)];exact z) λc xs z=>by rw[aF (aQ z hn)];exact z
theorem nV{elt tg iter:Expr}{ifs:List Expr}{scope:Scope}{pos:Pos}{N':List Str}{k:Nat}{cl:List (Str×Addr)}{J:It}{fp:List Addr}{it:Addr}{tn:Nat->Heap->Prop}{g:TG}{tc:TT}{te:TE}{E:zzj}
  {RR:Value->Addr->Result->Shared->Prop} {Q:VK}
  (hc:X.calm=true) (S:CompOk X N' k scope) (hcl:∀x c,cl.lookup x=some c->X.env.cells.lookup x=some c) (hcf:∀x∈scope.names,x.2=.free->(cl.lookup x.1).isSome)
  (I:Inv X pins Z H2 s2) (T:Turn X.prog X.w X.K tg J fp it tn) (st:tn 0 s2.heap) (ff:∀b∈fp,mM X pins H2 b)
  (hg:∀C,PG (aL X N' scope cl s2 H2 fp C) tg g) (ht:∀C,PTs (aL X N' scope cl s2 H2 fp C) ifs tc) (he:∀C,PE (aL X N' scope cl s2 H2 fp C) elt te)
  (rd:∃W:Nat->Nat->List V->St->Hp->Prop,(∃m,W 0 m [] (Z++List.replicate k none) H2) /\
   ∀i m vs σ' H',W i m vs σ' H'->vs.length<=sizeLine /\
    ((J.stop i H'/\∀p,H' p=none->Q (.ref p) (upd H' p (.lst vs))) \/
     (J.go i H'/\∀x H2,J.yld i H' x H2->g x σ' H2 λσ3 H3=>tc σ3 H3 λb H4=>if b=true then te σ3 H4 λy H5=>∃m',m'<m/\W (i+1) m' (vs++[y]) σ3 H5 else ∃m',m'<m/\W (i+1) m' vs σ3 H4)))
  (hRR:∀D C s' H',Inv X pins Z H' s'->(∃m,s'.heap.Ns C m)->mM X pins H' C->Q (.ref D) H'->RR (.ref D) C (.ok .next) s') :
  wpAny (model X.prog X.w) X.A (newList []) (λacc s₃=>wpAny (model X.prog X.w) X.A (newFunctionEnv scope X.env.globals cl [] X.env.qual none .none (some X.env)) (λcenv s₄ =>
   codeAny (model X.prog X.w) X.A (.compStart (.ListComp elt [⟨tg,iter,ifs,0⟩] scope pos) 0 (.ref it) acc { cenv with scope:=relabel scope X.env }) (RR acc cenv.locals) s₄) E s₃) E s2:=by
 obtain⟨W,⟨m0,w0⟩,turn⟩:=rd
 refine wpAny_newObj_type (wpAny_newFunctionEnv S.nocell (by intro y hy;simp at hy) (λh₁ hns₁ hsb₁=>?_) S.kind)
 dsimp only at hns₁ hsb₁ ⊢
 generalize hH2:s2.heap.push { cls:=.type "list",dict:=none,data:=.seq ([]:List Value).toArray }=G2 at hns₁ hsb₁ ⊢
 have hCs:G2.objs.size=s2.heap.objs.size+1:=by rw[<-hH2,Heap.size_push]
 have hDC:s2.heap.objs.size≠G2.objs.size:=by rw[hCs];exact Nat.ne_of_lt (Nat.lt_succ_self _)
 have hCle:s2.heap.objs.size<=G2.objs.size:=by rw[hCs];exact Nat.le_succ _
 have below:∀b,b<s2.heap.objs.size->b≠G2.objs.size/\b≠s2.heap.objs.size:=λb hb=>⟨by rw[hCs];exact Nat.ne_of_lt (Nat.lt_succ_of_lt hb),Nat.ne_of_lt hb⟩
 have old:∀b o,s2.heap.get? b=some o->h₁.get? b=some o:=λb o e=>hsb₁.extBut b o (below b (Heap.lt_size e)).1 (zzc _ (hH2▸zzc _ e))
 have hacc:h₁.get? s2.heap.objs.size=some (lobj [] 0):=hsb₁.extBut _ _ hDC (zzc _ (hH2▸zze _ rfl))
 generalize hDe:s2.heap.objs.size=D at *
 generalize hCe:G2.objs.size=C at *
 have fpD:mM X pins H2 D:=I.fpOk (by rw[hDe];exact Nat.le_refl _) (I.hok.fresh (by rw[hDe];exact Nat.le_refl _))
 have fpC:∀H',H' C=none->mM X pins H' C:=λH' hn=>I.fpOk (by rw[hDe];exact hCle) hn
 have hfpD:∀b∈fp,b<D:=λb hb=>by
  obtain⟨o,e,_⟩:=T.obj _ _ st b hb
  rw[<-hDe];exact Heap.lt_size e
 have nofr:∀b,D<=b->b∉frs X.stack:=λb hb hm=>by
  rcases List.mem_cons.mp (I.stkSub b hm)with e|hm
  ·have:=I.lt;rw[hDe]at this;rw[e]at hb;exact absurd (Nat.lt_of_lt_of_le this hb) (Nat.lt_irrefl _)
  ·exact I.nofs (by rw[hDe];exact hb) hm
 let X':=aL X N' scope cl s2 H2 fp C
 have cellLt:∀x c,cl.lookup x=some c->c<D:=λx c e=>by
  obtain⟨v,z⟩:=I.cell x c (hcl x c e)
  rw[<-hDe];exact z.lt
 have ok':X'.Ok:=by
  refine⟨I.ok.mod,S.kind,I.ok.glob,I.ok.blt,?_,λx y c e1 e2=>I.ok.inj x y c (hcl _ _ e1) (hcl _ _ e2),λx hx=>?_,λx c hf _=>(nomatch hf),I.ok.hd,I.ok.frames,.inl rfl,λb hb=>⟨?_,λx c e z=>?_⟩,I.bs,?_,λb o e hb=>?_,λb hb hm=>?_,I.stack,I.stkFree⟩
  ·show s2.heap.objs.size<=C
   rw[hDe];exact hCle
  ·have hx':(relabel scope X.env).names.lookup x=some .cell\/(relabel scope X.env).names.lookup x=some .free:=hx
   have e:=d9 (env:=X.env) (names:=scope.names) (x:=x)
   have e':(relabel scope X.env).names.lookup x=(scope.names.lookup x).map λk=>if(k==NameKind.free&&X.env.scope.kind==.function&&X.env.kindOf x==some .cell)then NameKind.cell else k:=e
   rw[e']at hx'
   cases q:scope.names.lookup x with
   | none=>rw[q]at hx';rcases hx' with z|z<;>cases z
   | some kd =>
    have hmem:=PySem.mem_of_lookup q
    rw[q]at hx'
    have hkd:kd=.free:=by
     by_cases hz:kd=.free
     ·exact hz
     ·exfalso
      have hb:(kd==NameKind.free)=false:=by simpa using hz
      simp only[hb,Bool.false_and,Bool.false_eq_true,if_false,Option.map_some]at hx'
      rcases hx' with z|z
      ·exact S.nocell _ hmem (Option.some.inj z)
      ·exact hz (Option.some.inj z)
    exact Option.isSome_iff_exists.mp (hcf _ hmem hkd)
  ·exact Nat.ne_of_lt (Nat.lt_of_lt_of_le (hfpD b hb) hCle)
  ·exact(ff b hb).2.2.2.2.1 x c (hcl x c e) z
  ·exact Nat.le_trans I.ok.bsz I.sz
  ·obtain⟨_,_,_,hx,_⟩:=ff b hb
   rcases hx with hx|hx
   ·exact I.ok.noex b o e hx
   ·exact absurd (Nat.lt_of_lt_of_le (Heap.lt_size (I.ok.bs b o e).1) hx) (Nat.lt_irrefl _)
  ·obtain⟨_,hl,hfs,_⟩:=ff b hb
   rcases List.mem_cons.mp (I.stkSub b hm)with e|hm
   ·exact hl e
   ·exact hfs hm
 have lenσ:(Z++List.replicate k none).length=N'.length:=by rw[zzf,List.length_replicate,I.len,S.len]
 have I0:Inv X' [(D,lobj [] 0)] (Z++List.replicate k none) H2 { s2 with heap:=h₁,toks:=s2.toks+([]:List (Str×Value)).length }:=by
  refine⟨ok',rfl,I.bare,Un.kept old,⟨_,hns₁,λi x v e1 e2 e3=>?_⟩,λx c e=>?_,I.hok.fresh (by rw[hDe];exact hCle),λx c e=>I.freeC x c (hcl x c e),λp hp=>?_,I.hok.kept old,lenσ⟩
  ·have hi:i<Z.length:=by
    by_cases hi:i<Z.length
    ·exact hi
    ·rw[List.getElem?_append_right (Nat.not_lt.mp hi),List.getElem?_replicate]at e2
     split at e2<;>cases e2
   rw[List.getElem?_append_left hi]at e2
   have e':(relabel scope X.env).names.lookup x=(scope.names.lookup x).map λk=>if(k==NameKind.free&&X.env.scope.kind==.function&&X.env.kindOf x==some .cell)then NameKind.cell else k:=d9 (env:=X.env) (names:=scope.names) (x:=x)
   have hsome:∃kd,scope.names.lookup x=some kd/\(kd=.free\/kd=.local\/kd=.cell):=by
    have e3':(relabel scope X.env).names.lookup x=some .local\/(relabel scope X.env).names.lookup x=some .cell\/(relabel scope X.env).names.lookup x=some .free:=e3
    rw[e']at e3'
    cases q:scope.names.lookup x with
    | none=>rw[q]at e3';rcases e3' with z|z|z<;>cases z
    | some kd =>
     refine⟨kd,rfl,?_⟩
     rw[q]at e3'
     by_cases hz:kd=.free
     ·exact .inl hz
     ·have hb:(kd==NameKind.free)=false:=by simpa using hz
      simp only[hb,Bool.false_and,Bool.false_eq_true,if_false,Option.map_some,Option.some.injEq]at e3'
      rcases e3' with z|z|z
      ·exact .inr (.inl z)
      ·exact .inr (.inr z)
      ·exact .inl z
   obtain⟨kd,hk1,hk2⟩:=hsome
   obtain⟨hN,hfree⟩:=S.outer i x (by rw[<-I.len];exact hi) e1 (by rw[hk1];rfl) (by rcases hk2 with z|z|z<;>subst z<;>simp[hk1])
   have hmem:=PySem.mem_of_lookup hfree
   have hko:=S.free _ hmem rfl
   have hkx:X.env.kindOf x=some .cell\/X.env.kindOf x=some .free:=hko
   obtain⟨m,hn,hl⟩:=I.loc
   obtain⟨u,r,lk⟩:=hl i x v hN e2 (by rcases hkx with z|z;exact .inr (.inl z);exact .inr (.inr z))
   refine⟨u,r,.inr ⟨?_,?_⟩⟩
   ·show(relabel scope X.env).names.lookup x=some .cell\/(relabel scope X.env).names.lookup x=some .free
    rw[e',hfree,Option.map_some]
    split
    ·exact .inl rfl
    ·exact .inr rfl
   ·rcases lk with ⟨kl,_⟩|⟨_,c,ec,hcell⟩
    ·rcases hkx with z|z<;>(rw[z]at kl;cases kl)
    ·obtain⟨c',ec'⟩:=Option.isSome_iff_exists.mp (hcf _ hmem rfl)
     have q:=hcl _ _ ec'
     rw[ec]at q
     cases q
     exact⟨c,ec',hcell.keeps old⟩
  ·obtain⟨v,z⟩:=I.cell x c (hcl x c e)
   exact⟨v,z.keeps old⟩
  ·have hp':p∈([]:zzk)++[(D,lobj [] 0)]:=hp
   have ep:p=(D,lobj [] 0):=by simpa using hp'
   subst ep
   exact⟨hacc,fpD.1,hDC,nofr D (Nat.le_refl _),λv z=>nomatch z⟩
 have stat:∀{H':Hp} {o:Obj},(∀b∈fp,H' b=none)->∀b∈fp,mM X' [(D,o)] H' b:=λ{H' o} hn b hb=>by
  refine⟨hn b hb,Nat.ne_of_lt (Nat.lt_of_lt_of_le (hfpD b hb) hCle),ok'.exfs b hb,.inl hb,λx c e z=>(ff b hb).2.2.2.2.1 x c (hcl x c e) z,λp hp=>?_⟩
  have hp':p∈([]:zzk)++[(D,o)]:=hp
  have ep:p=(D,o):=by simpa using hp'
  subst ep
  exact Nat.ne_of_gt (hfpD b hb)
 have loop:∀s₃:Shared,s₃={ s2 with heap:=h₁,toks:=s2.toks+([]:List (Str×Value)).length } ->
   codeAny (model X.prog X.w) X.A (.compLoop (.ListComp elt [⟨tg,iter,ifs,0⟩] scope pos) 0 (.ref it) (.ref D) (compEnvC scope cl C X.env)) (RR (.ref D) C) s₃:=by
  rintro s₃ rfl
  refine gM (λn s'=>∃i vs ys kk σ' H',Inv X' [(D,lobj ys kk)] σ' H' s'/\tn i s'.heap/\(∀b∈fp,H' b=none)/\Vals vs ys/\W i n vs σ' H') ?_ m0
   ⟨0,[],[],0,_,H2,I0,T.keep _ _ _ st λb _ o e=>old b o e,λb hb=>(ff b hb).1,.nil,w0⟩
  rintro n s3 ⟨i,vs,ys,kk,σ3,H3,I3,st3,fr3,rv,w3⟩
  obtain⟨hvl,hcase⟩:=turn i n vs σ3 H3 w3
  have pinD:∀{o:Obj} {σ' H' s'},Inv X' [(D,o)] σ' H' s'->s'.heap.get? D=some o/\H' D=none:=λJ=>⟨(J.pin _ (List.mem_append_right _ List.mem_cons_self)).1,(J.pin _ (List.mem_append_right _ List.mem_cons_self)).2.1⟩
  rcases hcase with ⟨stop,qn⟩|⟨go,step⟩
  ·refine thn (T.done X' rfl rfl rfl hc i _ s3 σ3 H3 (λ_ _=>False) I3 (stat fr3) st3 stop) λr s4 ⟨hr,I4⟩=>?_
   subst hr
   obtain⟨gD,nD⟩:=pinD I4
   obtain⟨m',hm',_⟩:=I4.loc
   have hC4:H3 C=none:=I4.free
   have u0:Un (frs X.stack) fp H2 H3 s2.heap s4.heap:=I4.base
   have neD:∀b o,s2.heap.get? b=some o->b≠D:=λb o e=>by rw[<-hDe];exact Nat.ne_of_lt (Heap.lt_size e)
   have u1:Un (frs X.stack) fp H2 (upd H3 D (.lst vs)) s2.heap s4.heap :=
    ⟨u0.keep,u0.slot,λb o e n hx=>by rw[aF (neD b o e)];exact u0.free b o e n hx,u0.there,
     λb xs e=>by have q:=u0.tups b xs e;rw[aF (aQ q nD)];exact q,
     λb o u e=>by have q:=u0.frzs b o u e;rw[aF (aQ q nD)];exact q,
     λb ps e=>by obtain⟨more,q⟩:=u0.tbls b ps e;exact⟨more,by rw[aF (aQ q nD)];exact q⟩⟩
   have I5:Inv X pins Z (upd H3 D (.lst vs)) s4:=I.call' I4.os u1 (I4.hok.track nD hvl rv gD) I4.bare λb hb=>⟨(ff b hb).2.2.2.1,(ff b hb).2.1,(ff b hb).2.2.2.2.1,(ff b hb).2.2.2.2.2⟩
   exact hRR D C s4 _ I5 ⟨m',hm'⟩ (fpC _ (by rw[aF (Ne.symm hDC)];exact hC4)) (qn D nD)
  ·refine thn (T.item X' rfl rfl rfl hc i _ s3 σ3 H3 (λ_ _=>False) I3 (stat fr3) st3 go) λr s4 ⟨u,hr,h4⟩=>?_
   subst hr
   refine thn h4 λ_ s5 ⟨x,H5,I5,r5,y5,st5,fr5⟩=>?_
   have I5':=I5.pinned (stat fr5) (T.obj _ _ st5)
   refine thn (hg C _ s5 σ3 H5 x u _ I5' r5 (step x H5 y5)) λ_ s6 ⟨σ6,H6,I6,q6⟩=>?_
   refine thn (ht C _ s6 σ6 H6 _ I6 q6) λok s7 ⟨H7,I7,q7⟩=>?_
   have unpin:∀{σ' H' s'},Inv X' ([(D,lobj ys kk)]++lz fp s5.heap) σ' H' s'->Inv X' [(D,lobj ys kk)] σ' H' s'/\tn (i+1) s'.heap/\∀b∈fp,H' b=none:=λ{σ' H' s'} J =>
    ⟨J.unpinned,T.keep _ _ _ st5 λb hb o e=>(J.pin (b,o) (List.mem_append_right _ (List.mem_append_right _ (fP hb e)))).1,λb hb=>by
     obtain⟨o,e,d⟩:=T.obj _ _ st5 b hb
     exact(J.pin (b,o) (List.mem_append_right _ (List.mem_append_right _ (fP hb e)))).2.1⟩
   cases ok with
   | false =>
    rw[if_neg Bool.false_ne_true]
    rw[if_neg Bool.false_ne_true]at q7
    obtain⟨m',hm',w7⟩:=q7
    obtain⟨J1,J2,J3⟩:=unpin I7
    exact⟨m',hm',i+1,vs,ys,kk,σ6,H7,J1,J2,J3,rv,w7⟩
   | true =>
    rw[if_pos rfl]
    rw[if_pos rfl]at q7
    refine thn (he C _ s7 σ6 H7 _ I7 q7) λuy s8 ⟨y,H8,I8,r8,m',hm',w8⟩=>?_
    obtain⟨J1,J2,J3⟩:=unpin I8
    obtain⟨gD,nD⟩:=pinD J1
    refine append_at (hsz:=by show ys.toArray.size<=sizeLine;rw[List.size_toArray,<-rv.length];exact hvl) gD λh9 hs9 hD9=>?_
    have J1':Inv X' [] σ6 H8 s8:=J1.pins_of λp hp=>nomatch hp
    have J9:Inv X' [] σ6 H8 { s8 with heap:=h9 }:=J1'.turned (t':=s8.toks) (it:=D) (λb o hb e=>hs9.extBut b o hb e) nD hDC (.inr (by show s2.heap.objs.size<=D;rw[hDe];exact Nat.le_refl _)) (λx c e=>Nat.ne_of_lt (cellLt x c e)) λp hp=>nomatch hp
    have eo:({ cls:=.type "list",data:=.seq (ys.toArray.push uy) (kk+1) }:Obj)=lobj (ys++[uy]) (kk+1):=by
     unfold lobj
     rw[List.push_toArray]
    refine⟨m',hm',i+1,vs++[y],ys++[uy],kk+1,σ6,H8,J9.pins_of λp hp=>?_,T.keep _ _ _ J2 λb hb o e=>hs9.extBut b o (Nat.ne_of_lt (hfpD b hb)) e,J3,rv.append (.cons r8 .nil),w8⟩
    have ep:p=(D,lobj (ys++[uy]) (kk+1)):=by simpa using hp
    subst ep
    exact⟨by show h9.get? D=_;rw[hD9,eo],nD,hDC,nofr D (Nat.le_refl _),λv z=>nomatch z⟩
 exact codeAny_compStart_list (loop _ rfl) (T.self _ 0 _ _ _ (T.keep _ _ _ st λb _ o e=>old b o e) (loop _ rfl))
end
section
variable {X:Cx}
theorem u9{elt tg iter:Expr}{ifs:List Expr}{scope:Scope}{pos:Pos}{N':List Str}{k:Nat}{wi:TI}{g:TG}{tc:TT}{te:TE}
  (hc:X.calm=true) (S:CompOk X N' k scope) (hcells:∀x∈scope.names,x.2=.free->∃c,X.env.cells.lookup x.1=some c) (hi:PI X tg iter wi)
  (hg:∀cl s H fp C,PG (aL X N' scope cl s H fp C) tg g) (ht:∀cl s H fp C,PTs (aL X N' scope cl s H fp C) ifs tc) (he:∀cl s H fp C,PE (aL X N' scope cl s H fp C) elt te)
  (hs:∀x,foldedSetIterable iter X.env x=pure x:=by intro _;rfl) :
  PE X (.ListComp elt [⟨tg,iter,ifs,0⟩] scope pos) (uP wi k g tc te):=by
 intro pins s Z H Q I h
 obtain⟨cl,hclos,h1,h2⟩:=mv (env:=X.env) (scope:=scope) hcells
 rw[eval_ListComp]
 refine wpAny_comprehension_free (use:=none) rfl hs hclos S.kind S.names (thn (hi pins s Z H _ I h) λxv s1 h1'=>thn h1' λitv s2 h2'=>?_)
 obtain⟨it,fp,tn,J,H2,e,I2,T,st2,f2,rd⟩:=h2'
 subst e
 refine nV hc S h1 h2 I2 T st2 f2 (λC=>hg _ _ _ _ C) (λC=>ht _ _ _ _ C) (λC=>he _ _ _ _ C) rd λD C s' H' I' ⟨m,hm⟩ fC q=>?_
 refine⟨m,hm,λh' hs'=>⟨.ref D,H',?_,rfl,q⟩⟩
 exact I'.turned (t':=s'.toks) (it:=C) (λb o hb e=>hs'.extBut b o hb e) fC.1 fC.2.1 fC.2.2.2.1 fC.2.2.2.2.1 fC.2.2.2.2.2
theorem ly{elt tg iter:Expr}{ifs:List Expr}{scope:Scope}{pos pos' spos:Pos}{N':List Str}{k i:Nat}{y:Str}{wi:TI}{g:TG}{tc:TT}{te:TE}
  (hN:X.N.Nodup) (hy:X.N[i]? = some y) (hly:Loc X.env.scope y) (hfn:X.fn y=true\/X.env.scope.names.lookup y=some .local)
  (hc:X.calm=true) (S:CompOk X N' k scope) (hcells:∀x∈scope.names,x.2=.free->∃c,X.env.cells.lookup x.1=some c) (hi:PI X tg iter wi)
  (hg:∀cl s H fp C,PG (aL X N' scope cl s H fp C) tg g) (ht:∀cl s H fp C,PTs (aL X N' scope cl s H fp C) ifs tc) (he:∀cl s H fp C,PE (aL X N' scope cl s H fp C) elt te)
  (hsw:swapsWith (.ListComp elt [⟨tg,iter,ifs,0⟩] scope pos) (some (.Name y pos')) spos.line X.env=pure true)
  (hs:∀x,foldedSetIterable iter X.env x=pure x:=by intro _;rfl) :
  PS X (.Assign [.Name y pos'] (.ListComp elt [⟨tg,iter,ifs,0⟩] scope pos) spos) (De (uP wi k g tc te) (rN i)):=by
 intro pins s Z H D₀ I h
 obtain⟨cl,hclos,h1,h2⟩:=mv (env:=X.env) (scope:=scope) hcells
 rw[exec_Assign_Name_used _ _ _ _ hsw]
 refine zza (wpAny_standAt (zza ?_))
 show wpAny _ X.A (do let _ <-comprehension (.ListComp elt [⟨tg,iter,ifs,0⟩] scope pos) scope X.env _ (newList []) false (eval iter X.env) (some (assign (.Name y pos') X.env))) _ _ s
 refine zza (wpAny_mono (wpAny_comprehension_free (use:=some (assign (.Name y pos') X.env)) (Q:=λ_ s'=>SP X pins D₀ .next s') rfl hs hclos S.kind S.names
  (thn (hi pins s Z H _ I h) λxv s1 h1'=>thn h1' λitv s2 h2'=>?_)) (λ_ s' hq=>zzb (zzb hq)) λ_ _ e=>e)
 obtain⟨it,fp,tn,J,H2,e,I2,T,st2,f2,rd⟩:=h2'
 subst e
 refine nV (Q:=λx H1=>rN i x Z H1 D₀.nx) hc S h1 h2 I2 T st2 f2 (λC=>hg _ _ _ _ C) (λC=>ht _ _ _ _ C) (λC=>he _ _ _ _ C) rd λD C s' H' I' ⟨m,hm⟩ fC q=>?_
 show wpAny _ X.A (assign (.Name y pos') X.env (.ref D)) _ _ _
 refine wpAny_assign_Name (nF I' hN hy hly (show RelV (.ref D) (.ref D)from rfl) (λs'' I'' ⟨a,hsb,ha⟩=>?_) hfn)
 have hCa:C≠a:=by
  rcases ha with rfl|ha
  ·exact fC.2.1
  ·exact λz=>fC.2.2.2.2.1 y a ha z.symm
 refine⟨m,hm.sameBut hsb hCa,λh' hs'=>⟨_,H',?_,q⟩⟩
 exact I''.turned (t':=s''.toks) (it:=C) (λb o hb e=>hs'.extBut b o hb e) fC.1 fC.2.1 fC.2.2.2.1 fC.2.2.2.2.1 fC.2.2.2.2.2
end
section
variable {κ:Type}[DecidableEq κ]
def iK(kvs:List (κ×V))(k:κ):Option V:=(kvs.find? λkv=>decide (kv.1=k)).map (·.2)
theorem qy{p:κ×V}{r:List (κ×V)}{k:κ}(e:p.1=k):iK (p::r) k=some p.2:=by simp[iK,List.find?_cons,e]
theorem qz{p:κ×V}{r:List (κ×V)}{k:κ}(e:¬ p.1=k):iK (p::r) k=iK r k:=by simp[iK,List.find?_cons,e]
theorem RelO.isSome_eq{o:Option V}{u:Option Value}(r:RelO o u):o.isSome=u.isSome:=by
 cases o with
 | none=>cases u with
  | none=>rfl
  | some _=>exact(show False from r).elim
 | some _=>cases u with
  | none=>exact(show False from r).elim
  | some _=>rfl
theorem KV.val{kvs:List (κ×V)}{vs:List (κ×Value)}(r:KV kvs vs)(k:κ):RelO (iK kvs k) (valueAt vs k):=by
 unfold KV at r
 induction r with
 | nil=>exact True.intro
 | @cons p q ps qs h t ih =>
  obtain⟨h1,h2⟩:=h
  by_cases e:p.1=k
  ·have e':q.1=k:=h1.symm.trans e
   have b:valueAt (q::qs) k=some q.2:=by simp[valueAt,List.find?_cons,e']
   rw[qy e,b];exact h2
  ·have e':¬ q.1=k:=λz=>e (h1.trans z)
   have b:valueAt (q::qs) k=valueAt qs k:=by simp[valueAt,List.find?_cons,e']
   rw[qz e,b];exact ih
end
theorem nO{P:Program}{w:World}{k:Key}{u:Value}(r:RelV (kV k) u):(bv P w).is k u=true:=by
 cases k with
 | inl i=>obtain⟨t,e⟩:=(show ∃t,u=Value.int i t from r);subst e;exact rm P w i t
 | inr x=>obtain⟨t,e⟩:=(show ∃t,u=Value.str x t from r);subst e;exact rj P w x t
theorem nP{P:Program}{w:World}:∀{ks:List Key} {us:List Value},Vals (ks.map kV) us->ItemsAre (bv P w) ks us
 | [],_,r=>by rw[List.map_nil]at r;cases r;exact .nil
 | k::ks,_,r=>by
  rw[List.map_cons]at r
  cases r with
  | cons h t=>exact .cons (nO h) (nP t)
abbrev KT(H:Hp):List (List Key×V)->List (List Key×Addr×Value)->Prop:=Paired λp q=>p.1=q.1/\H q.2.1=some (.tup (p.1.map kV))/\RelV p.2 q.2.2
theorem KT.val{H:Hp}{kvs:List (List Key×V)}{xs:List (List Key×Addr×Value)}(r:KT H kvs xs)(k:List Key):RelO (iK kvs k) ((atKey xs k).map (·.2)):=by
 induction r with
 | nil=>exact True.intro
 | @cons p q ps qs h t ih =>
  obtain⟨h1,_,h2⟩:=h
  by_cases e:p.1=k
  ·have e':q.1=k:=h1.symm.trans e
   have b:atKey (q::qs) k=some q.2:=by simp[atKey,List.find?_cons,e']
   rw[qy e,b];exact h2
  ·have e':¬ q.1=k:=λz=>e (h1.trans z)
   have b:atKey (q::qs) k=atKey qs k:=by simp[atKey,List.find?_cons,e']
   rw[qz e,b];exact ih
section
variable {P:Program}{w:World}{H:Hp}{h:Heap}{a:Addr}
theorem Ct{u:HO}(ok:HOk P w H h)(e:Rd H a u):ObjOk P w H h a u:=e.ok ok
theorem sr{kvs:List (Key×V)}(ok:HOk P w H h)(e:Rd H a (.dK kvs)):kvs.length<=sizeLine/\(a==sysModules)=false/\∃vs,KV kvs vs/\h.DictOf (bv P w) a vs :=
 show ObjOk P w H h a (.dK kvs)from Ct ok e
theorem C2{kvs:List (Key×V)}(ok:HOk P w H h)(e:H a=some (.dK kvs)):kvs.length<=sizeLine/\(a==sysModules)=false/\∃vs,KV kvs vs/\h.DictOf (bv P w) a vs:=sr ok (.inl e)
theorem jS{ks:List Key}(ok:HOk P w H h)(e:H a=some (.tup (ks.map kV))):(tupleKind (bv P w)).is h ks a:=by
 obtain⟨_,its,r,⟨o,h1,h2,n,h3⟩,_⟩:=(show ObjOk P w H h a (.tup (ks.map kV))from ok a _ e)
 exact⟨o,its.toArray,n,h1,h2,h3,by simpa using nP r⟩
theorem sq{kvs:List (List Key×V)}(ok:HOk P w H h)(e:Rd H a (.dT kvs)):kvs.length<=sizeLine/\(a==sysModules)=false /\
  ∃xs,KT H kvs xs/\h.DictOfH (tupleKind (bv P w)) a xs:=by
 obtain⟨z,y,xs,r,o,es,ep,h1,h2,h3,h4,h5⟩:=(show ObjOk P w H h a (.dT kvs)from Ct ok e)
 refine⟨z,y,xs,r,o,es,ep,h1,h2,h3,h4,λx hx=>?_,h5⟩
 have all:∀{l:List (List Key×V)} {m:List (List Key×Addr×Value)},KT H l m->∀x∈m,(tupleKind (bv P w)).is h x.1 x.2.1:=by
  intro l m q
  induction q with
  | nil=>intro x hx;exact nomatch hx
  | @cons p q ps qs hq t ih =>
   intro x hx
   rcases List.mem_cons.mp hx with e|hx
   ·subst e
    exact jS ok (by rw[<-hq.1];exact hq.2.1)
   ·exact ih x hx
 exact all r x hx
theorem C1{kvs:List (List Key×V)}(ok:HOk P w H h)(e:H a=some (.dT kvs)):kvs.length<=sizeLine/\(a==sysModules)=false /\
  ∃xs,KT H kvs xs/\h.DictOfH (tupleKind (bv P w)) a xs:=sq ok (.inl e)
end
def DGet(H:Hp)(a:Addr)(y:V)(r:Option V):Prop :=
 (∃kvs k,Rd H a (.dK kvs)/\y=kV k/\r=iK kvs k)\/∃kvs k b,Rd H a (.dT kvs)/\y=.ref b/\H b=some (.tup (k.map kV))/\r=iK kvs k
theorem DGet.k{H:Hp}{a:Addr}{kvs:List (Key×V)}{k:Key}(e:H a=some (.dK kvs)):DGet H a (kV k) (iK kvs k):=.inl ⟨kvs,k,.inl e,rfl,rfl⟩
theorem DGet.t{H:Hp}{a b:Addr}{kvs:List (List Key×V)}{k:List Key}(e:H a=some (.dT kvs))(eb:H b=some (.tup (k.map kV))):DGet H a (.ref b) (iK kvs k):=.inr ⟨kvs,k,b,.inl e,rfl,eb,rfl⟩
section
variable {X:Cx}{pins:zzk}{Z:St}{H:Hp}{s:Shared}{a:Addr}{y v:V}{u r:Value}{o:Option V}{A:Around}{E:zzj}
theorem xF{Q:zzj}(hu:A.units+1<cLine)(I:Inv X pins Z H s)(g:DGet H a y (some v))(ry:RelV y u)(h:∀w' s',Inv X pins Z H s'->RelV v w'->Q w' s') :
  wpAny (model X.prog X.w) A (getItem (.ref a) u) Q E s:=by
 rcases g with ⟨kvs,k,e,ey,l⟩|⟨kvs,k,b,e,ey,eb,l⟩
 ·subst ey
  obtain⟨z,hd,vs,rel,dd⟩:=sr I.hok e
  obtain⟨w',hw,rw'⟩:=RelO.some_of (v:=v) (o:=valueAt vs k) (by rw[l];exact rel.val k)
  exact wpAny_getItem_of (nO ry) dd.mapOf hw (h w' _ (I.tok _) rw')
 ·subst ey
  cases (show u=Value.ref b from ry)
  obtain⟨z,hd,xs,rel,dd⟩:=sq I.hok e
  obtain⟨w',hw,rw'⟩:=RelO.some_of (v:=v) (o:=(atKey xs k).map (·.2)) (by rw[l];exact rel.val k)
  obtain⟨p,hp,hp2⟩:=Option.map_eq_some_iff.mp hw
  refine wpAny_getItem_heap (tupleKind_room_in1 hu) (jS I.hok eb) dd hp ?_
  rw[hp2]
  exact h w' _ (I.tok _) rw'
theorem HR{Q:zzj}(hu:A.units+1<cLine)(I:Inv X pins Z H s)(g:DGet H a y o)(ry:RelV y u)(h:∀s',Inv X pins Z H s'->Q (.bool o.isSome) s') :
  wpAny (model X.prog X.w) A (compareOp .In u (.ref a)) Q E s:=by
 rcases g with ⟨kvs,k,e,ey,l⟩|⟨kvs,k,b,e,ey,eb,l⟩
 ·subst ey
  obtain⟨z,hd,vs,rel,dd⟩:=sr I.hok e
  refine wpAny_in_of (nO ry) hd dd.mapOf ?_
  rw[<-(rel.val k).isSome_eq,<-l]
  exact h _ (I.tok _)
 ·subst ey
  cases (show u=Value.ref b from ry)
  obtain⟨z,hd,xs,rel,dd⟩:=sq I.hok e
  refine wpAny_in_heap (tupleKind_room_in1 hu) (jS I.hok eb) hd dd ?_
  have q:=(rel.val k).isSome_eq
  rw[Option.isSome_map]at q
  rw[<-q,<-l]
  exact h _ (I.tok _)
theorem BJ{Q:zzj}(hu:A.units+1<cLine)(I:Inv X pins Z H s)(g:DGet H a y o)(ry:RelV y u)(h:∀s',Inv X pins Z H s'->Q (.bool (!o.isSome)) s') :
  wpAny (model X.prog X.w) A (compareOp .NotIn u (.ref a)) Q E s:=by
 rcases g with ⟨kvs,k,e,ey,l⟩|⟨kvs,k,b,e,ey,eb,l⟩
 ·subst ey
  obtain⟨z,hd,vs,rel,dd⟩:=sr I.hok e
  refine wpAny_notIn_of (nO ry) hd dd.mapOf ?_
  rw[<-(rel.val k).isSome_eq,<-l]
  exact h _ (I.tok _)
 ·subst ey
  cases (show u=Value.ref b from ry)
  obtain⟨z,hd,xs,rel,dd⟩:=sq I.hok e
  refine wpAny_notIn_heap (tupleKind_room_in1 hu) (jS I.hok eb) hd dd ?_
  have q:=(rel.val k).isSome_eq
  rw[Option.isSome_map]at q
  rw[<-q,<-l]
  exact h _ (I.tok _)
end
theorem su{X:Cx}{pins:zzk}{Z:St}{H:Hp}{s:Shared}{a:Addr}{y:V}{o:Option V}(I:Inv X pins Z H s)(g:DGet H a y o):s.TypeIs (.ref a) "dict":=by
 rcases g with ⟨kvs,k,e,_,_⟩|⟨kvs,k,b,e,_,_,_⟩
 ·obtain⟨_,_,vs,_,dd⟩:=sr I.hok e
  exact dd.typeIs
 ·obtain⟨_,_,xs,_,dd⟩:=sq I.hok e
  exact dd.typeIs
end L2
namespace L4
open PySem PySem.Spec PyProof.Rows L2 PySem.W
def XO(e C:Addr)(dd:Option Addr):Heap->Prop:=λh=>∃oe,h.get? e=some oe/\oe.cls=.ref C/\oe.dict=dd/\PySem.W.notCls oe=true
def XD(dx:Addr)(fs:List (Str×V)):Heap->Prop:=λh=>∃mA,h.Ns1 dx mA/\PySem.Within mA (fs.map (·.1))/\∀f,RelO (fs.lookup f) (mA f)
abbrev bmV:List Value:=[.type "ValueError",.type "Exception",.type "BaseException",.type "object"]
structure XC(K:Frag)(C D fI:Addr):Prop where
 obj:∃nm q N bs sn sub ab col dd k0 k1 k2 k3 k5,K.lookup C=some (excClassObj nm q C N bs (.ref D::bmV) true sn sub ab col dd k0 k1 k2 k3 k5 "ValueError.__new__")
 tl:tailIn K bmV (.ref D::bmV)=true
 ini:findIn K (.ref C) "__init__" = some (some (.ref fI))
 fn:typeIn K (.ref fI)=some (.type "function")
 sa:findIn K (.ref C) "__setattr__" = some (some (.builtin "object.__setattr__"))
 ga:findIn K (.ref C) "__getattribute__" = some (some (.builtin "BaseException.__getattribute__"))
 gr:findIn K (.ref C) "__getattr__" = some none
structure KC(K:Frag)(C:Addr):Prop where
 ha:findIn K (.ref C) "__class__" = some (some (.builtin "object.__class__"))
 hn:specialIn K (.builtin "object.__class__") "__get__" = some (some (.builtin "getset_descriptor.__get__"))
 htk:takesIn K (.builtin "object.__class__")=some true
def C8(T:String):Bool:=T == "bool" || T == "int" || T == "str" || T == "list" || T == "tuple" || T == "dict"
structure XQ(K:Frag)(C:Addr)(x:Str):Prop where
 ns:nsIn K mainGlobals x=some (some (.ref C))
 xc:∃D fI,XC K C D fI
 kc:KC K C
 no:∀T,C8 T=true->kitOne K (.ref C) (.type T)=some false
def FX(F:Hp)(dd:Option Addr)(fv:List (Str×V)):Prop:=(dd=none/\fv=[])\/∃dx,dd=some dx/\F dx=some (.ext (XD dx fv))
theorem FX.mono{F F':Hp}{dd:Option Addr}{fv:List (Str×V)}(e:Same F F')(h:FX F dd fv):FX F' dd fv:=h.imp id λ⟨dx,h1,h2⟩=>⟨dx,h1,e _ _ h2⟩
end L4
namespace L3
open PySem PySem.Spec PyProof.Rows L2
abbrev D:=PyData
abbrev Fg:=PySem.W.Frag
def keyD:Key->D
 | .inl i=>.int i
 | .inr x=>.str x
def m9(k:List Key):D:=.tuple (k.map keyD)
mutual
inductive Rep(K:Fg)(F:Hp):V->D->Prop
 | non:Rep K F .non .none
 | bl (b):Rep K F (.bl b) (.bool b)
 | int (i):Rep K F (.int i) (.int i)
 | str (x):Rep K F (.str x) (.str x)
 | tup {a vs ds}:F a=some (.tup vs)->RepL K F vs ds->Rep K F (.ref a) (.tuple ds)
 | lst {a vs ds}:SqL K F a vs->RepL K F vs ds->Rep K F (.ref a) (.list ds)
 | dct {a kvs es}:F a=some (.dT kvs)->es.map (·.1)=kvs.map (λp=>m9 p.1)->RepL K F (kvs.map (·.2)) (es.map (·.2))->Rep K F (.ref a) (.dict es)
 | dck {a kvs es}:F a=some (.dK kvs)->es.map (·.1)=kvs.map (λp=>keyD p.1)->RepL K F (kvs.map (·.2)) (es.map (·.2))->Rep K F (.ref a) (.dict es)
 | exc {a C dd cl fv es}:F a=some (.ext (L4.XO a C dd))->L4.XQ K C cl->L4.FX F dd fv->es.map (·.1)=fv.map (λp=>.str p.1)->RepL K F (fv.map (·.2)) (es.map (·.2))->Rep K F (.ref a) (.dict ((.none,.str cl)::es))
 | fn {a f}:PySem.W.nsIn K mainGlobals f=some (some (.ref a))->Rep K F (.ref a) (.dict [(.bool true,.str f)])
inductive RepL(K:Fg)(F:Hp):List V->List D->Prop
 | nil:RepL K F [] []
 | cons {v d vs ds}:Rep K F v d->RepL K F vs ds->RepL K F (v::vs) (d::ds)
end
theorem e9{K:Fg}{F F':Hp}{a:Addr}{xs:List V}(e:Same F F')(h:SqT K F a xs):SqT K F' a xs:=by
 rcases h with (h|⟨o,h⟩)|h
 ·exact .inl (.inl (e _ _ h))
 ·exact .inl (.inr ⟨o,e _ _ h⟩)
 ·exact .inr h
theorem Rep.mono{K:Fg}{F F':Hp}(e:Same F F'){v:V}{d:D}(h:Rep K F v d):Rep K F' v d :=
 Rep.rec (motive_1:=λv d _=>Rep K F' v d) (motive_2:=λvs ds _=>RepL K F' vs ds) .non .bl .int .str (λh _ r=>.tup (e _ _ h) r) (λh _ r=>.lst (e.seq h) r) (λh k _ r=>.dct (e _ _ h) k r) (λh k _ r=>.dck (e _ _ h) k r) (λh q f k _ r=>.exc (e _ _ h) q (f.mono e) k r) (λh=>.fn h) .nil (λ_ _ a b=>.cons a b) h
theorem RepL.mono{K:Fg}{F F':Hp}(e:Same F F'){vs:List V}{ds:List D}(h:RepL K F vs ds):RepL K F' vs ds:=by
 induction vs generalizing ds with
 | nil=>cases h;exact .nil
 | cons v vs ih=>cases h with
  | cons a b=>exact .cons (a.mono e) (ih b)
def Fj(K:Fg)(F:Hp):D->V->Prop
 | .none,v=>v=.non
 | .bool b,v=>v=.bl b
 | .int i,v=>v=.int i
 | .str x,v=>v=.str x
 | .tuple ds,v=>∃a vs,v=.ref a/\F a=some (.tup vs)/\RepL K F vs ds
 | .list ds,v=>∃a vs,v=.ref a/\SqL K F a vs/\RepL K F vs ds
 | _,_=>True
theorem Rep.inv{K:Fg}{F:Hp}{v:V}{d:D}(h:Rep K F v d):Fj K F d v :=
 Rep.casesOn (motive_1:=λv d _=>Fj K F d v) h rfl (λ_=>rfl) (λ_=>rfl) (λ_=>rfl) (λh r=>⟨_,_,rfl,h,r⟩) (λh r=>⟨_,_,rfl,h,r⟩) (λ_ _ _=>True.intro) (λ_ _ _=>True.intro) (λ_ _ _ _ _=>True.intro) (λ_=>True.intro)
theorem Rep.int_inv{K:Fg}{F:Hp}{v:V}{i:Int}(h:Rep K F v (.int i)):v=.int i:=h.inv
theorem Rep.bool_inv{K:Fg}{F:Hp}{v:V}{i:Bool}(h:Rep K F v (.bool i)):v=.bl i:=h.inv
theorem Rep.str_inv{K:Fg}{F:Hp}{v:V}{i:Str}(h:Rep K F v (.str i)):v=.str i:=h.inv
theorem Rep.tup_inv{K:Fg}{F:Hp}{v:V}{ds:List D}(h:Rep K F v (.tuple ds)):∃a vs,v=.ref a/\F a=some (.tup vs)/\RepL K F vs ds:=h.inv
theorem Rep.lst_inv{K:Fg}{F:Hp}{v:V}{ds:List D}(h:Rep K F v (.list ds)):∃a vs,v=.ref a/\SqL K F a vs/\RepL K F vs ds:=h.inv
def Cs(K:Fg)(F:Hp):List D->List V->Prop
 | [],vs=>vs=[]
 | d::ds,vs=>∃v us,vs=v::us/\Rep K F v d/\RepL K F us ds
theorem RepL.inv{K:Fg}{F:Hp}{vs:List V}{ds:List D}(h:RepL K F vs ds):Cs K F ds vs :=
 RepL.casesOn (motive_2:=λvs ds _=>Cs K F ds vs) h rfl (λa b=>⟨_,_,rfl,a,b⟩)
theorem RepL.one_inv{K:Fg}{F:Hp}{vs:List V}{d:D}(h:RepL K F vs [d]):∃v,vs=[v]/\Rep K F v d:=by
 obtain⟨v,us,rfl,a,b⟩:=(h.inv:∃v us,vs=v::us/\Rep K F v d/\RepL K F us [])
 obtain rfl:us=[]:=b.inv
 exact⟨v,rfl,a⟩
theorem RepL.two_inv{K:Fg}{F:Hp}{vs:List V}{d e:D}(h:RepL K F vs [d,e]):∃v u,vs=[v,u]/\Rep K F v d/\Rep K F u e:=by
 obtain⟨v,us,rfl,a,b⟩:=(h.inv:∃v us,vs=v::us/\Rep K F v d/\RepL K F us [e])
 obtain⟨u,rfl,c⟩:=b.one_inv
 exact⟨v,u,rfl,a,c⟩
theorem RepL.length{K:Fg}{F:Hp}:∀{vs ds},RepL K F vs ds->vs.length=ds.length
 | _,_,.nil=>rfl
 | _,_,.cons _ r=>by simp[RepL.length r]
theorem RepL.get{K:Fg}{F:Hp}:∀{vs ds} {i:Nat} {d:D},RepL K F vs ds->ds[i]? = some d->∃v,vs[i]? = some v/\Rep K F v d
 | _,_,_,_,.nil,e=>by simp at e
 | _,_,0,_,.cons h _,e=>by simp at e;subst e;exact⟨_,rfl,h⟩
 | _,_,i+1,d,.cons _ r,e=>by
  obtain⟨v,h1,h2⟩:=RepL.get (i:=i) (d:=d) r (by simpa using e)
  exact⟨v,by simpa using h1,h2⟩
theorem RepL.append{K:Fg}{F:Hp}{vs:List V}{ds:List D}{us:List V}{es:List D}(h:RepL K F vs ds)(s:RepL K F us es):RepL K F (vs++us) (ds++es):=by
 induction vs generalizing ds with
 | nil=>cases h;exact s
 | cons v vs ih=>cases h with
  | cons a b=>exact .cons a (ih b)
theorem RepL.take{K:Fg}{F:Hp}:∀{vs ds} (n:Nat),RepL K F vs ds->RepL K F (vs.take n) (ds.take n)
 | _,_,0,_=>.nil
 | _,_,_+1,.nil=>.nil
 | _,_,n+1,.cons h r=>.cons h (RepL.take n r)
theorem RepL.drop{K:Fg}{F:Hp}:∀{vs ds} (n:Nat),RepL K F vs ds->RepL K F (vs.drop n) (ds.drop n)
 | _,_,0,r=>r
 | _,_,_+1,.nil=>.nil
 | _,_,n+1,.cons _ r=>RepL.drop n r
theorem RepL.set{K:Fg}{F:Hp}{v:V}{d:D}(h:Rep K F v d):∀{vs ds} (i:Nat),RepL K F vs ds->RepL K F (vs.set i v) (ds.set i d)
 | _,_,_,.nil=>.nil
 | _,_,0,.cons _ r=>.cons h r
 | _,_,i+1,.cons q r=>.cons q (RepL.set h i r)
theorem RepL.ints{K:Fg}{F:Hp}:∀(ns:List Int),RepL K F (ns.map V.int) (ns.map PyData.int)
 | []=>.nil
 | n::r=>.cons (.int n) (RepL.ints r)
section
variable {X:Cx}{pins:zzk}{Z:L2.St}{H:Hp}{s:Shared}
theorem nI{u:List Value}(r:Vals [] u):∃as,ReadsAll s.heap u [] as:=by cases r;exact⟨_,.nil⟩
theorem lj{v:V}{d:D}{vs:List V}{ds:List D}(h:d.canLay0=true->∀{u},RelV v u->∃as,Reads s.heap u d as)(t:PyData.canLayAll0 ds=true->∀{us},Vals vs us->∃as,ReadsAll s.heap us ds as)(c:PyData.canLayAll0 (d::ds)=true){us:List Value}(r:Vals (v::vs) us):∃as,ReadsAll s.heap us (d::ds) as:=by
 simp only[PyData.canLayAll0,Bool.and_eq_true]at c
 cases r with
 | cons r rr =>
  obtain⟨as,ra⟩:=h c.1 r
  obtain⟨bs,rb⟩:=t c.2 rr
  exact⟨_,.cons ra rb⟩
theorem wG(I:Inv X pins Z H s){a:Addr}{vs:List V}{ds:List D}(hq:H a=some (.tup vs))(ih:PyData.canLayAll0 ds=true->∀{us},Vals vs us->∃as,ReadsAll s.heap us ds as)(c:(PyData.tuple ds).canLay0=true){u:Value}(r:RelV (.ref a) u):∃as,Reads s.heap u (.tuple ds) as:=by
 cases r
 obtain⟨its,rv,⟨o,e1,e2,n',e3⟩,hz⟩:=I.tuple (SqT.of hq)
 obtain⟨as,ra⟩:=ih (by simpa[PyData.canLay0]using c) rv
 exact⟨_,.tuple e1 e2 e3 (by simpa using ra)⟩
theorem wH(I:Inv X pins Z H s){a:Addr}{vs:List V}{ds:List D}(hq:SqL X.K H a vs)(ih:PyData.canLayAll0 ds=true->∀{us},Vals vs us->∃as,ReadsAll s.heap us ds as)(c:(PyData.list ds).canLay0=true){u:Value}(r:RelV (.ref a) u):∃as,Reads s.heap u (.list ds) as:=by
 cases r
 obtain⟨its,rv,⟨o,n',e1,e2,e3,e4⟩,hz⟩:=I.list hq
 obtain⟨as,ra⟩:=ih (by simpa[PyData.canLay0]using c) rv
 exact⟨_,.list e1 e2 e4 (by simpa using ra)⟩
theorem gW{es:List (D×D)}{P:Prop}(c:(PyData.dict es).canLay0=true):P:=by simp[PyData.canLay0]at c
theorem yy(I:Inv X pins Z H s){v:V}{d:D}(h:Rep X.K H v d):d.canLay0=true->∀{u},RelV v u->∃as,Reads s.heap u d as :=
 Rep.rec (motive_1:=λv d _=>d.canLay0=true->∀{u},RelV v u->∃as,Reads s.heap u d as) (motive_2:=λvs ds _=>PyData.canLayAll0 ds=true->∀{us},Vals vs us->∃as,ReadsAll s.heap us ds as)
  (λ_ {_} r=>by cases r;exact⟨_,.none⟩) (λb _ {_} r=>by cases r;exact⟨_,.bool b⟩) (λi _ {_} r=>by obtain⟨t,rfl⟩:=r;exact⟨_,.int i t⟩) (λx _ {_} r=>by obtain⟨t,rfl⟩:=r;exact⟨_,.str x t⟩)
  (λhq _ ih=>wG I hq ih) (λhq _ ih=>wH I hq ih) (λ_ _ _ _ c=>gW c) (λ_ _ _ _ c=>gW c) (λ_ _ _ _ _ _ c=>gW c) (λ_ c=>gW c)
  (λ_ {_} r=>nI r) (λ_ _ a b=>lj a b) h
theorem Dr(I:Inv X pins Z H s){vs:List V}{ds:List D}(h:RepL X.K H vs ds):PyData.canLayAll0 ds=true->∀{us},Vals vs us->∃as,ReadsAll s.heap us ds as:=by
 induction vs generalizing ds with
 | nil=>cases h;exact λ_ _ r=>nI r
 | cons v vs ih=>cases h with
  | cons a b=>exact lj (yy I a) (ih b)
end
theorem bp{X:Cx}{pins:zzk}{Z:L2.St}{H:Hp}{s:Shared}(I:Inv X pins Z H s) :
  (∀{v d},Rep X.K H v d->d.canLay0=true->∀{u},RelV v u->∃as,Reads s.heap u d as)/\(∀{vs ds},RepL X.K H vs ds->PyData.canLayAll0 ds=true->∀{us},Vals vs us->∃as,ReadsAll s.heap us ds as) :=
 ⟨λ{v d} h c {u} r=>yy I h c r,λ{vs ds} h c {us} r=>Dr I h c r⟩
def ub:List (D×D)->Bool
 | (.none,_)::_=>true
 | (.bool _,_)::_=>true
 | _=>false
inductive OC where
 | l (ds:List D)
 | t (es:List (D×D))
 | k (es:List (D×D))
 | i (x:Str) (ns:List Str) (ds:List D)
def OC.isI:OC->Bool
 | .i _ _ _=>true
 | _=>false
inductive AV where
 | fz (d:D)
 | ol (c:OC)
 | op (c:OC)
abbrev En:=List (Option AV)
inductive RV where
 | fz (d:D)
 | fr (c:OC)
 | bor (i:Nat)
def B9:HO->Prop
 | .tup _=>False
 | .ext _=>False
 | _=>True
structure Gh where
 P:Nat->Option Addr
 O:Hp
 B:Hp
def Held(K:Fg)(F H:Hp)(a:Addr):OC->Prop
 | .l ds=>∃vs,H a=some (.lst vs)/\RepL K F vs ds
 | .t es=>∃kvs,H a=some (.dT kvs)/\es.map (·.1)=kvs.map (λp=>m9 p.1)/\RepL K F (kvs.map (·.2)) (es.map (·.2))
 | .k es=>∃kvs,H a=some (.dK kvs)/\es.map (·.1)=kvs.map (λp=>keyD p.1)/\RepL K F (kvs.map (·.2)) (es.map (·.2))
 | .i x ns ds=>∃C dx fs,H a=some (.ins C dx fs)/\PySem.W.nsIn K mainGlobals x=some (some (.ref C))/\fs.map (·.1)=ns/\RepL K F (fs.map (·.2)) ds
structure OwnAt(K:Fg)(G:Gh)(F H:Hp)(a:Addr)(c:OC):Prop where
 nf:F a=none
 no:G.O a=none
 he:Held K F H a c
def own(ρ:En)(i:Nat)(c:OC):Prop:=ρ[i]? = some (some (.ol c))\/ρ[i]? = some (some (.op c))
structure StOk(K:Fg)(G:Gh)(F:Hp)(Z:L2.St)(H:Hp)(ρ:En):Prop where
 fh:Same F H
 oh:Same G.O H
 fo:∀b o,G.O b=some o->F b=none/\B9 o
 ln:Z.length=ρ.length
 fz:∀(i:Nat) (d:D),ρ[i]? = some (some (AV.fz d))->∃v,Z[i]? = some (some v)/\Rep K F v d
 ow:∀(i:Nat) (c:OC),own ρ i c->∃a:Addr,Z[i]? = some (some (V.ref a))/\OwnAt K G F H a c
 dj:∀(i j:Nat) (c e:OC) (a:Addr),own ρ i c->own ρ j e->Z[i]? = some (some (V.ref a))->Z[j]? = some (some (V.ref a))->i=j
 pp:∀(i:Nat) (a:Addr),G.P i=some a->Z[i]? = some (some (V.ref a))/\∃c,ρ[i]? = some (some (AV.op c))
 pq:∀(i:Nat) (c:OC),ρ[i]? = some (some (AV.op c))->∃a,G.P i=some a
 fb:Same G.B F
def RVR(K:Fg)(G:Gh)(F:Hp)(Z:L2.St)(H:Hp)(ρ:En)(v:V):RV->Prop
 | .fz d=>Rep K F v d
 | .fr c=>∃a,v=.ref a/\OwnAt K G F H a c/\∀(i:Nat) (e:OC),own ρ i e->Z[i]? ≠ some (some (V.ref a))
 | .bor i=>∃c,own ρ i c/\Z[i]? = some (some v)
theorem Held.mono{K:Fg}{F F' H:Hp}{a:Addr}{c:OC}(e:Same F F')(h:Held K F H a c):Held K F' H a c:=by
 cases c with
 | l ds=>obtain⟨vs,h1,h2⟩:=h;exact⟨vs,h1,h2.mono e⟩
 | t es=>obtain⟨vs,h1,h2,h3⟩:=h;exact⟨vs,h1,h2,h3.mono e⟩
 | k es=>obtain⟨vs,h1,h2,h3⟩:=h;exact⟨vs,h1,h2,h3.mono e⟩
 | i x ns ds=>obtain⟨C,dx,fs,h1,h2,h3,h4⟩:=h;exact⟨C,dx,fs,h1,h2,h3,h4.mono e⟩
theorem Held.some{K:Fg}{F H:Hp}{a:Addr}{c:OC}(h:Held K F H a c):∃o,H a=some o:=by
 cases c with
 | l ds=>obtain⟨vs,h1,h2⟩:=h;exact⟨_,h1⟩
 | t es=>obtain⟨vs,h1,h2⟩:=h;exact⟨_,h1⟩
 | k es=>obtain⟨vs,h1,h2⟩:=h;exact⟨_,h1⟩
 | i x ns ds=>obtain⟨C,dx,fs,h1,_⟩:=h;exact⟨_,h1⟩
theorem Held.at{K:Fg}{F H H':Hp}{a:Addr}{c:OC}(h:Held K F H a c)(e:H' a=H a):Held K F H' a c:=by
 cases c with
 | l ds=>obtain⟨vs,h1,h2⟩:=h;exact⟨vs,e.trans h1,h2⟩
 | t es=>obtain⟨vs,h1,h2⟩:=h;exact⟨vs,e.trans h1,h2⟩
 | k es=>obtain⟨vs,h1,h2⟩:=h;exact⟨vs,e.trans h1,h2⟩
 | i x ns ds=>obtain⟨C,dx,fs,h1,h2⟩:=h;exact⟨C,dx,fs,e.trans h1,h2⟩
theorem cI{F:Hp}{p:Addr}{o:HO}(h:F p=none):Same F (upd F p o):=λb u e=>by
 rw[aF (aQ e h)]
 exact e
theorem gV{F H:Hp}{p:Addr}{o:HO}(s:Same F H)(h:F p=none):Same F (upd H p o):=λb u e=>by
 rw[aF (aQ e h)]
 exact s b u e
section
variable {K:Fg}{G:Gh}{F H:Hp}{Z:L2.St}{ρ:En}
theorem StOk.lay(S:StOk K G F Z H ρ){p:Addr}{o:HO}(hp:H p=none):StOk K G F Z (upd H p o) ρ:=by
 have fp:F p=none:=S.fh.free hp
 have op:G.O p=none:=S.oh.free hp
 refine⟨gV S.fh fp,gV S.oh op,S.fo,S.ln,S.fz,λi c h=>?_,S.dj,S.pp,S.pq,S.fb⟩
 obtain⟨a,e,oa⟩:=S.ow i c h
 refine⟨a,e,oa.nf,oa.no,oa.he.at ?_⟩
 obtain⟨u,hu⟩:=oa.he.some
 exact aF (aQ hu hp)
theorem StOk.fresh_ne(S:StOk K G F Z H ρ){p:Addr}(hp:H p=none):∀(i:Nat) (e:OC),own ρ i e->Z[i]? ≠ some (some (V.ref p)):=λi e h q=>by
 obtain⟨a,e1,oa⟩:=S.ow i e h
 rw[e1]at q
 injection q with q;injection q with q;injection q with q
 subst q
 obtain⟨u,hu⟩:=oa.he.some
 rw[hp]at hu;cases hu
theorem StOk.freeze(S:StOk K G F Z H ρ){a:Addr}{o:HO}(ha:H a=some o)(fa:F a=none)(oa:G.O a=none)(ne:∀(i:Nat) (e:OC),own ρ i e->Z[i]? ≠ some (some (V.ref a))):StOk K G (upd F a o) Z H ρ:=by
 have sm:Same F (upd F a o):=cI fa
 refine⟨λb u e=>?_,S.oh,λb u e=>?_,S.ln,λi d h=>?_,λi c h=>?_,S.dj,S.pp,S.pq,S.fb.trans sm⟩
 ·by_cases hb:b=a
  ·subst hb;rw[aK]at e;cases e;exact ha
  ·rw[aF hb]at e;exact S.fh b u e
 ·rw[aF (aQ e oa)];exact S.fo b u e
 ·obtain⟨v,e,r⟩:=S.fz i d h;exact⟨v,e,r.mono sm⟩
 ·obtain⟨b,e,ob⟩:=S.ow i c h
  refine⟨b,e,?_,ob.no,ob.he.mono sm⟩
  rw[aF (λz=>ne i c h (by rw[e,z]))]
  exact ob.nf
theorem StOk.newTup(S:StOk K G F Z H ρ){p:Addr}{vs:List V}{ds:List D}(hp:H p=none)(r:RepL K F vs ds) :
  Same F (upd F p (.tup vs))/\StOk K G (upd F p (.tup vs)) Z (upd H p (.tup vs)) ρ/\Rep K (upd F p (.tup vs)) (.ref p) (.tuple ds):=by
 have fp:F p=none:=S.fh.free hp
 refine⟨cI fp,(S.lay hp).freeze aK fp (S.oh.free hp) (S.fresh_ne hp),?_⟩
 exact .tup aK (r.mono (cI fp))
theorem StOk.newLst(S:StOk K G F Z H ρ){p:Addr}{vs:List V}{ds:List D}(hp:H p=none)(r:RepL K F vs ds) :
  StOk K G F Z (upd H p (.lst vs)) ρ/\RVR K G F Z (upd H p (.lst vs)) ρ (.ref p) (.fr (.l ds)) :=
 ⟨S.lay hp,p,rfl,⟨S.fh.free hp,S.oh.free hp,vs,aK,r⟩,S.fresh_ne hp⟩
theorem StOk.settle(S:StOk K G F Z H ρ){v:V}{ds:List D}(r:RVR K G F Z H ρ v (.fr (.l ds))) :
  ∃F',Same F F'/\StOk K G F' Z H ρ/\Rep K F' v (.list ds):=by
 obtain⟨a,rfl,oa,ne⟩:=r
 obtain⟨vs,h1,h2⟩:=oa.he
 exact⟨upd F a (.lst vs),cI oa.nf,S.freeze h1 oa.nf oa.no ne,.lst (.inl (.inl aK)) (h2.mono (cI oa.nf))⟩
theorem kB{α:Type}(l:List α)(i:Nat)(x y:α)(h:l[i]? = some y):(l.set i x)[i]? = some x:=by
 rw[List.getElem?_set_self (List.getElem?_eq_some_iff.mp h).1]
def OC.d:OC->D
 | .l ds=>.list ds
 | .t es=>.dict es
 | .k es=>.dict es
 | .i _ _ _=>.none
theorem vE{a:Addr}{c:OC}(hI:c.isI=false)(h:Held K F H a c):∃o,H a=some o/\∀F',Same F F'->F' a=some o->Rep K F' (.ref a) c.d:=by
 cases c with
 | l ds=>obtain⟨vs,h1,h2⟩:=h;exact⟨_,h1,λF' s e=>.lst (.inl (.inl e)) (h2.mono s)⟩
 | t es=>obtain⟨vs,h1,h2,h3⟩:=h;exact⟨_,h1,λF' s e=>.dct e h2 (h3.mono s)⟩
 | k es=>obtain⟨vs,h1,h2,h3⟩:=h;exact⟨_,h1,λF' s e=>.dck e h2 (h3.mono s)⟩
 | i x ns ds=>cases hI
theorem StOk.settleE(S:StOk K G F Z H ρ){i:Nat}{oc:OC}(hI:oc.isI=false)(hi:ρ[i]? = some (some (.ol oc))){v:V}(hv:Z[i]? = some (some v)) :
  ∃F',Same F F'/\StOk K G F' Z H (ρ.set i (some (.fz oc.d)))/\Rep K F' v oc.d/\∀b,v=.ref b->F' b=H b:=by
 obtain⟨a,e,oa⟩:=S.ow i _ (.inl hi)
 rw[hv]at e
 injection e with e;injection e with e
 subst e
 obtain⟨vo,h1,hrep⟩:=vE hI oa.he
 have sm:Same F (upd F a vo):=cI oa.nf
 have rp:Rep K (upd F a vo) (.ref a) oc.d:=hrep _ sm aK
 have ne:∀j,j≠i->(ρ.set i (some (.fz oc.d)))[j]? = ρ[j]?:=λj hj=>List.getElem?_set_ne (Ne.symm hj)
 have at_i:(ρ.set i (some (.fz oc.d)))[i]? = some (some (.fz oc.d)):=kB _ _ _ _ hi
 have ownj:∀j c,own (ρ.set i (some (.fz oc.d))) j c->j≠i/\own ρ j c:=λj c h=>by
  have hj:j≠i:=by
   rintro rfl
   rcases h with h|h<;>(rw[at_i]at h;cases h)
  refine⟨hj,?_⟩
  rcases h with h|h
  ·exact .inl (by rw[<-ne j hj];exact h)
  ·exact .inr (by rw[<-ne j hj];exact h)
 refine⟨upd F a vo,sm,⟨λb u e=>?_,S.oh,λb u e=>?_,by simpa using S.ln,λj d h=>?_,λj c h=>?_,λj k c e b h1 h2=>S.dj j k c e b (ownj j c h1).2 (ownj k e h2).2,λj b h=>?_,λj c h=>?_,S.fb.trans sm⟩,rp,λb e=>by cases e;rw[aK,h1]⟩
 ·by_cases hb:b=a
  ·subst hb;rw[aK]at e;cases e;exact h1
  ·rw[aF hb]at e;exact S.fh b u e
 ·rw[aF (aQ e oa.no)];exact S.fo b u e
 ·by_cases hj:j=i
  ·subst hj
   rw[at_i]at h
   cases h
   exact⟨_,hv,rp⟩
  ·rw[ne j hj]at h
   obtain⟨w,e,r⟩:=S.fz j d h
   exact⟨w,e,r.mono sm⟩
 ·obtain⟨hj,h'⟩:=ownj j c h
  obtain⟨b,e,ob⟩:=S.ow j c h'
  refine⟨b,e,?_,ob.no,ob.he.mono sm⟩
  rw[aF (λz=>hj (S.dj j i _ _ a h' (.inl hi) (by rw[e,z]) hv))]
  exact ob.nf
 ·obtain⟨q,c,q'⟩:=S.pp j b h
  refine⟨q,c,?_⟩
  have hj:j≠i:=by rintro rfl;rw[hi]at q';cases q'
  rw[ne j hj];exact q'
 ·have hj:j≠i:=by rintro rfl;rw[at_i]at h;cases h
  rw[ne j hj]at h
  exact S.pq j c h
theorem StOk.store(S:StOk K G F Z H ρ){j:Nat}{v:V}{av:AV}(hj:∀c,ρ[j]? ≠ some (some (.op c)))(hl:j<ρ.length)
  (h:(∃d,av=.fz d/\Rep K F v d)\/∃c,av=.ol c/\RVR K G F Z H ρ v (.fr c)):StOk K G F (Z.set j (some v)) H (ρ.set j (some av)):=by
 have hls:j<Z.length:=by rw[S.ln];exact hl
 have ne:∀i,i≠j->(ρ.set j (some av))[i]? = ρ[i]?:=λi hi=>List.getElem?_set_ne (Ne.symm hi)
 have nes:∀i,i≠j->(Z.set j (some v))[i]? = Z[i]?:=λi hi=>List.getElem?_set_ne (Ne.symm hi)
 have atj:(ρ.set j (some av))[j]? = some (some av):=List.getElem?_set_self hl
 have atjs:(Z.set j (some v))[j]? = some (some v):=List.getElem?_set_self hls
 have owni:∀i c,i≠j->own (ρ.set j (some av)) i c->own ρ i c:=λi c hi h=>by
  unfold own at h ⊢
  rw[ne i hi]at h
  exact h
 refine⟨S.fh,S.oh,S.fo,by simpa using S.ln,λi d q=>?_,λi c q=>?_,λi k c e a q1 q2 e1 e2=>?_,λi a q=>?_,λi c q=>?_,S.fb⟩
 ·by_cases hi:i=j
  ·subst hi
   rw[atj]at q
   rcases h with ⟨d',rfl,r⟩|⟨c,rfl,_⟩
   ·cases q;exact⟨v,atjs,r⟩
   ·cases q
  ·rw[ne i hi]at q
   obtain⟨w,e,r⟩:=S.fz i d q
   exact⟨w,by rw[nes i hi];exact e,r⟩
 ·by_cases hi:i=j
  ·subst hi
   rcases h with ⟨d',rfl,r⟩|⟨c',rfl,a,rfl,oa,_⟩
   ·rcases q with q|q<;>(rw[atj]at q;cases q)
   ·rcases q with q|q
    ·rw[atj]at q;cases q;exact⟨a,atjs,oa⟩
    ·rw[atj]at q;cases q
  ·obtain⟨a,e,oa⟩:=S.ow i c (owni i c hi q)
   exact⟨a,by rw[nes i hi];exact e,oa⟩
 ·by_cases hi:i=j
  ·by_cases hk:k=j
   ·rw[hi,hk]
   ·exfalso
    subst hi
    rw[nes k hk]at e2
    rw[atjs]at e1
    injection e1 with e1;injection e1 with e1
    subst e1
    rcases h with ⟨d',rfl,r⟩|⟨c',rfl,a',e,oa,nn⟩
    ·rcases q1 with q|q<;>(rw[atj]at q;cases q)
    ·injection e with e;subst e
     exact nn k _ (owni k _ hk q2) e2
  ·by_cases hk:k=j
   ·exfalso
    subst hk
    rw[nes i hi]at e1
    rw[atjs]at e2
    injection e2 with e2;injection e2 with e2
    subst e2
    rcases h with ⟨d',rfl,r⟩|⟨c',rfl,a',e,oa,nn⟩
    ·rcases q2 with q|q<;>(rw[atj]at q;cases q)
    ·injection e with e;subst e
     exact nn i _ (owni i _ hi q1) e1
   ·rw[nes i hi]at e1
    rw[nes k hk]at e2
    exact S.dj i k _ _ a (owni i _ hi q1) (owni k _ hk q2) e1 e2
 ·obtain⟨q1,c,q2⟩:=S.pp i a q
  have hi:i≠j:=by rintro rfl;exact hj c q2
  exact⟨by rw[nes i hi];exact q1,c,by rw[ne i hi];exact q2⟩
 ·have hi:i≠j:=by
   rintro rfl
   rw[atj]at q
   rcases h with ⟨d',rfl,r⟩|⟨c',rfl,_⟩<;>cases q
  rw[ne i hi]at q
  exact S.pq i c q
theorem StOk.change(S:StOk K G F Z H ρ){j:Nat}{a:Addr}{c c':OC}{o:HO}(hj:own ρ j c)(ha:Z[j]? = some (some (.ref a)))(hh:Held K F (upd H a o) a c') :
  StOk K G F Z (upd H a o) (ρ.set j ((ρ[j]?.join).map fun | .op _=>.op c'|_=>.ol c')):=by
 obtain⟨b,e,ob⟩:=S.ow j c hj
 rw[ha]at e
 injection e with e;injection e with e;injection e with e
 subst e
 have hl:j<ρ.length:=by rcases hj with h|h<;>exact(List.getElem?_eq_some_iff.mp h).1
 generalize hav:((ρ[j]?.join).map λ(x:AV)=>match x with | .op _=>AV.op c'|_=>AV.ol c')=av
 have ne:∀i,i≠j->(ρ.set j av)[i]? = ρ[i]?:=λi hi=>List.getElem?_set_ne (Ne.symm hi)
 have atj:(ρ.set j av)[j]? = some av:=List.getElem?_set_self hl
 have owni:∀i e,i≠j->own (ρ.set j av) i e->own ρ i e:=λi c hi h=>by
  unfold own at h ⊢
  rw[ne i hi]at h
  exact h
 have kind:(ρ[j]? = some (some (.ol c))/\av=some (.ol c'))\/(ρ[j]? = some (some (.op c))/\av=some (.op c')):=by
  rcases hj with h|h
  ·exact .inl ⟨h,by rw[<-hav,h];rfl⟩
  ·exact .inr ⟨h,by rw[<-hav,h];rfl⟩
 have ownj:∀e,own (ρ.set j av) j e->e=c':=λe h=>by
  unfold own at h
  rw[atj]at h
  rcases kind with ⟨_,k⟩|⟨_,k⟩<;>rw[k]at h<;>rcases h with h|h<;>cases h<;>rfl
 refine⟨gV S.fh ob.nf,gV S.oh ob.no,S.fo,by simpa using S.ln,λi d q=>?_,λi e q=>?_,λi k c1 e1 b q1 q2=>?_,λi b q=>?_,λi e q=>?_,S.fb⟩
 ·by_cases hi:i=j
  ·subst hi
   rw[atj]at q
   rcases kind with ⟨_,k⟩|⟨_,k⟩<;>rw[k]at q<;>cases q
  ·rw[ne i hi]at q;exact S.fz i d q
 ·by_cases hi:i=j
  ·subst hi
   have:=ownj e q
   subst this
   exact⟨a,ha,ob.nf,ob.no,hh⟩
  ·have q':=owni i e hi q
   obtain⟨b',e',ob'⟩:=S.ow i e q'
   refine⟨b',e',ob'.nf,ob'.no,ob'.he.at (aF λz=>hi (S.dj i j _ _ a q' hj (by rw[e',z]) ha))⟩
 ·have o1:∃e,own ρ i e:=by
   by_cases hi:i=j
   ·exact⟨c,hi▸hj⟩
   ·exact⟨_,owni i _ hi q1⟩
  have o2:∃e,own ρ k e:=by
   by_cases hk:k=j
   ·exact⟨c,hk▸hj⟩
   ·exact⟨_,owni k _ hk q2⟩
  exact S.dj i k _ _ b o1.choose_spec o2.choose_spec
 ·obtain⟨q1,e,q2⟩:=S.pp i b q
  refine⟨q1,?_⟩
  by_cases hi:i=j
  ·subst hi
   rcases kind with ⟨k1,k⟩|⟨k1,k⟩
   ·rw[k1]at q2;cases q2
   ·exact⟨c',by rw[atj,k]⟩
  ·exact⟨e,by rw[ne i hi];exact q2⟩
 ·by_cases hi:i=j
  ·subst hi
   rcases kind with ⟨k1,k⟩|⟨k1,k⟩
   ·rw[atj,k]at q;cases q
   ·exact S.pq i c k1
  ·rw[ne i hi]at q;exact S.pq i e q
end
end L3
namespace L4
open PySem PySem.Spec PyProof.Rows L2 L3
def qm(h:Heap)(e b:Addr):Prop:=∃oe vs,h.get? e=some oe/\oe.data=.fields vs/\vs[1]? = some (.ref b)
structure Ent(fs:List Addr)(h h':Heap)(e T:Addr)(oe:Obj)(ts:Array Value):Prop where
 keep:∀b o,h.get? b=some o->b∉fs->b≠e->h'.get? b=some o
 slot:∀b o,h.get? b=some o->b≠e->∃sl,h'.get? b=some { o with slots:=sl }
 new:h.objs.size<=T
 exc:h'.get? e=some (oe.mapFields (·.setIfInBounds 1 (.ref T)))
 way:∃oT,h'.get? T=some oT/\oT.data=.fields ts
section
variable {M:Model}{A:Around}{E:zzj}{s:Shared}{base:Heap}{env:Env}{outer:List Env}{L e:Addr}{oe:Obj}{vs:Array Value}
theorem mm{top:Value}{nx:Bool}{Q:Unit->Shared->Prop}(hA:A.frames=some (env::outer))(hF:s.heap.FunFrames base (env::outer))(hL:env.frame=some L)
  (he:s.heap.get? e=some oe) (hd:oe.data=.fields vs) (hz:1<vs.size)
  (k:∀h' T ts,Ent (frs (env::outer)) s.heap h' e T oe ts->3<ts.size->ts[3]? = some (rawInt L)->Q () { s with heap:=h' }) :
  wpAny M A (do let a <-frameOf env;let pl <-entryPlaceOf L nx;let b <-EntryCells.newEntry top a .none (rawInt L) .none pl;setField (.ref e) 1 b) Q E s:=by
 have ne:e∉frs (env::outer):=λz=>by
  obtain⟨_,o,q,r⟩:=hF.mem z
  rw[he]at q;cases q
  exact r vs hd
 refine zza (wpAny_frameOf_fun hA hF hL λh1 so=>zza (wpAny_entryPlaceOf λpl ip=>?_))
 simp only[EntryCells.newEntry,newFields]
 refine zza (wpAny_newObj_type ?_ (ip.sizeOk5 _ _ _ _ _))
 generalize hts:([top,.ref L,.none,rawInt L,.none]++(if pl.isEmpty then List.replicate 6 Value.none else pl)).toArray=ts
 have z3:3<ts.size:=by
  rw[<-hts,List.size_toArray,zzf]
  simp only[List.length_cons,List.length_nil]
  lia
 have g3:ts[3]? = some (rawInt L):=by rw[<-hts];simp
 generalize htb:({ cls:=.type "traceback",dict:=none,data:=.fields ts }:Obj)=tb
 have fr:tb.isFreed=false:=by rw[<-htb];rfl
 have e1:h1.get? e=some oe:=by rw[so.2.1 e ne];exact he
 have lt:e<h1.objs.size:=Heap.lt_size e1
 refine wpAny_setField (zzc tb e1) hd hz ?_
 have hd':=Obj.data_mapFields hd (·.setIfInBounds 1 (Value.ref h1.objs.size))
 have up:∀b,b≠e->((h1.push tb).update e (Obj.mapFields (·.setIfInBounds 1 (.ref h1.objs.size)))).get? b=(h1.push tb).get? b:=λb hb=>Heap.get?_update_other _ _ (Ne.symm hb)
 refine k _ h1.objs.size ts ⟨λb o q nf nb=>?_,λb o q nb=>?_,by rw[so.1];exact Nat.le_refl _,?_,⟨tb,?_,?_⟩⟩ z3 g3
 ·exact(up b nb).trans (zzc _ ((so.2.1 b nf).trans q))
 ·obtain⟨sl,q'⟩:=so.2.2 b o q
  exact⟨sl,(up b nb).trans (zzc _ q')⟩
 ·exact Heap.get?_update_self _ (zzc tb e1) (Obj.isFreed_of_fields hd')
 ·exact(up _ (Nat.ne_of_gt lt)).trans (zze h1 fr)
 ·rw[<-htb]
end
structure XS(H:Hp)(h:Heap)(lo:Nat)(e C:Addr)(dd:Option Addr):Prop where
 yg:lo<=e
 trk:H e=some (.ext (XO e C dd))
 obj:∃oe vs,h.get? e=some oe/\oe.cls=.ref C/\oe.dict=dd/\oe.data=.fields vs/\1<vs.size /\
  (vs[1]? = some .none\/∃T oT ts,vs[1]? = some (.ref T)/\T≠e/\lo<=T/\H T=none/\h.get? T=some oT/\oT.data=.fields ts/\ts[3]? = some .none)
structure Mv(fs:List Addr)(h h':Heap)(e:Addr):Prop where
 keep:∀b o,h.get? b=some o->b∉fs->b≠e->¬ qm h e b->h'.get? b=some o
 slot:∀b o,h.get? b=some o->b≠e->¬ qm h e b->∃sl,h'.get? b=some { o with slots:=sl }
 there:∀b o,h.get? b=some o->∃o',h'.get? b=some o'
theorem vL(f:Array Value->Array Value)(o:Obj):(o.mapFields f).dict=o.dict:=by
 obtain⟨c,d,dt,sl⟩:=o
 cases dt<;>rfl
theorem Gb{L:Addr}:¬ ((Value.none==rawInt L)=true):=by simp[rawInt]
section
variable {M:Model}{A:Around}{E:zzj}{s:Shared}{base:Heap}{env:Env}{outer:List Env}{L e C:Addr}{dd:Option Addr}{H:Hp}{lo:Nat}{P:Program}{w:World}
theorem lZ{oe:Obj}{vs:Array Value}{h0:Heap}{T:Addr}{ts:Array Value}{Q:Unit->Shared->Prop}(en:Ent (frs (env::outer)) h0 s.heap e T oe ts)(hd:oe.data=.fields vs)(hz:1<vs.size)(z3:3<ts.size)(hh:e<h0.objs.size)
  (k:∀h',(∀b,b≠T->h'.get? b=s.heap.get? b)->(∃oT tz,h'.get? T=some oT/\oT.data=.fields tz/\tz[3]? = some .none)->Q () { s with heap:=h' }):wpAny M A (setFlight (.ref e) none) Q E s:=by
 obtain⟨oT,q1,q2⟩:=en.way
 have d':=Obj.data_mapFields hd (·.setIfInBounds 1 (Value.ref T))
 simp only[setFlight]
 refine zza (wpAny_field en.exc d' (x:=.ref T) (by simp[hz]) ?_)
 rw[if_pos (by simp)]
 refine wpAny_setField q1 q2 z3 (k _ (λb hb=>Heap.get?_update_other _ _ (Ne.symm hb)) ⟨_,_,Heap.get?_update_self _ q1 (Obj.isFreed_of_fields (Obj.data_mapFields q2 _)),Obj.data_mapFields q2 _,by simp[z3]⟩)
theorem zf{Q:Unit->Shared->Prop}(hA:A.frames=some (env::outer))(hF:s.heap.FunFrames base (env::outer))(hL:env.frame=some L)(hk:HOk P w H s.heap)(xs:XS H s.heap lo e C dd)
  (k:∀h',Mv (frs (env::outer)) s.heap h' e->XS H h' lo e C dd->(∀b,qm h' e b->s.heap.objs.size<=b)->Q () { s with heap:=h' }) :
  wpAny M A (noteFrame (.ref e) env) (λ_ s2=>wpAny M A (setFlight (.ref e) none) Q E s2) E s:=by
 obtain⟨oe,vs,he,hc,hdd,hd,hz,tb⟩:=xs.obj
 have elt:e<s.heap.objs.size:=Heap.lt_size he
 have hlo:lo<=s.heap.objs.size:=Nat.le_trans xs.yg (Nat.le_of_lt elt)
 simp only[noteFrame,hL]
 rcases tb with tb|⟨T,oT,ts,tb,hTe,hTl,hTn,hT,hTd,t3⟩
 ·refine zza (wpAny_field he hd tb ?_)
  rw[if_neg (by decide)]
  refine mm hA hF hL he hd hz λh1 T1 t1 en z3 g3=>?_
  refine lZ (s:={ s with heap:=h1 }) en hd hz z3 elt λh2 same way=>?_
  have nT:∀b o,s.heap.get? b=some o->b≠T1:=λb o q=>Nat.ne_of_lt (Nat.lt_of_lt_of_le (Heap.lt_size q) en.new)
  have d1:=Obj.data_mapFields hd (·.setIfInBounds 1 (Value.ref T1))
  refine k h2 ⟨λb o q nf nb _=>?_,λb o q nb _=>?_,λb o q=>?_⟩ ⟨xs.yg,xs.trk,_,_,?_,?_,?_,d1,by simpa using hz,.inr ?_⟩ ?_
  ·rw[same b (nT b o q)];exact en.keep b o q nf nb
  ·obtain⟨sl,z⟩:=en.slot b o q nb
   exact⟨sl,by rw[same b (nT b o q)];exact z⟩
  ·by_cases nb:b=e
   ·subst nb;exact⟨_,by rw[same _ (nT _ o q)];exact en.exc⟩
   ·obtain⟨sl,z⟩:=en.slot b o q nb
    exact⟨_,by rw[same b (nT b o q)];exact z⟩
  ·rw[same e (nT e _ he)];exact en.exc
  ·rw[Obj.cls_mapFields];exact hc
  ·rw[vL];exact hdd
  ·obtain⟨o1,tz,w1,w2,w3⟩:=way
   exact⟨T1,o1,tz,by simp[hz],λz=>nT e _ he z.symm,Nat.le_trans hlo en.new,hk.fresh en.new,w1,w2,w3⟩
  ·intro b ⟨oe',vs',g1,g2,g3⟩
   rw[same e (nT e _ he),en.exc]at g1
   cases g1
   rw[d1]at g2
   cases g2
   have:Value.ref T1=Value.ref b:=by simpa[hz]using g3
   injection this with this
   rw[<-this]
   exact en.new
 ·refine zza (wpAny_field he hd tb ?_)
  rw[if_pos (by simp)]
  refine zza (wpAny_field hT hTd t3 ?_)
  rw[if_neg Gb]
  have z3':3<ts.size:=(Array.getElem?_eq_some_iff.mp t3).1
  refine zza (wpAny_setField hT hTd z3' ?_)
  have off:∀b,b≠T->(s.heap.update T (Obj.mapFields (·.setIfInBounds 3 Value.none))).get? b=s.heap.get? b:=λb hb=>Heap.get?_update_other _ _ (Ne.symm hb)
  have hF':(s.heap.update T (Obj.mapFields (·.setIfInBounds 3 Value.none))).FunFrames base (env::outer):=hF.of_keeps λb o q r=>⟨o,(off b λz=>by subst z;rw[hT]at q;cases q;exact r ts hTd).trans q,rfl⟩
  have he':(s.heap.update T (Obj.mapFields (·.setIfInBounds 3 Value.none))).get? e=some oe:=(off e (Ne.symm hTe)).trans he
  have zz:(s.heap.update T (Obj.mapFields (·.setIfInBounds 3 Value.none))).objs.size=s.heap.objs.size:=Heap.size_update ..
  refine mm (s:={ s with heap:=s.heap.update T (Obj.mapFields (·.setIfInBounds 3 Value.none)) }) hA hF' hL he' hd hz λh1 T1 t1 en z3 g3=>?_
  refine lZ (s:={ s with heap:=h1 }) en hd hz z3 (by rw[zz];exact elt) λh2 same way=>?_
  have nw:s.heap.objs.size<=T1:=by have:=en.new;rw[zz]at this;exact this
  have nT:∀b o,s.heap.get? b=some o->b≠T1:=λb o q=>Nat.ne_of_lt (Nat.lt_of_lt_of_le (Heap.lt_size q) nw)
  have isT:qm s.heap e T:=⟨oe,vs,he,hd,tb⟩
  have nTT:∀b,¬ qm s.heap e b->b≠T:=λb z q=>z (q▸isT)
  have d1:=Obj.data_mapFields hd (·.setIfInBounds 1 (Value.ref T1))
  have T0:(s.heap.update T (Obj.mapFields (·.setIfInBounds 3 Value.none))).get? T=some (oT.mapFields (·.setIfInBounds 3 Value.none)):=Heap.get?_update_self _ hT (Obj.isFreed_of_fields (Obj.data_mapFields hTd _))
  refine k h2 ⟨λb o q nf nb nt=>?_,λb o q nb nt=>?_,λb o q=>?_⟩ ⟨xs.yg,xs.trk,_,_,?_,?_,?_,d1,by simpa using hz,.inr ?_⟩ ?_
  ·rw[same b (nT b o q)];exact en.keep b o ((off b (nTT b nt)).trans q) nf nb
  ·obtain⟨sl,z⟩:=en.slot b o ((off b (nTT b nt)).trans q) nb
   exact⟨sl,by rw[same b (nT b o q)];exact z⟩
  ·by_cases nb:b=e
   ·subst nb;exact⟨_,by rw[same _ (nT _ o q)];exact en.exc⟩
   ·by_cases nt:b=T
    ·subst nt
     obtain⟨sl,z⟩:=en.slot b _ T0 nb
     exact⟨_,by rw[same b (nT b o q)];exact z⟩
    ·obtain⟨sl,z⟩:=en.slot b o ((off b nt).trans q) nb
     exact⟨_,by rw[same b (nT b o q)];exact z⟩
  ·rw[same e (nT e _ he)];exact en.exc
  ·rw[Obj.cls_mapFields];exact hc
  ·rw[vL];exact hdd
  ·obtain⟨o1,tz,w1,w2,w3⟩:=way
   exact⟨T1,o1,tz,by simp[hz],λz=>nT e _ he z.symm,Nat.le_trans hlo nw,hk.fresh nw,w1,w2,w3⟩
  ·intro b ⟨oe',vs',g1,g2,g3⟩
   rw[same e (nT e _ he),en.exc]at g1
   cases g1
   rw[d1]at g2
   cases g2
   have:Value.ref T1=Value.ref b:=by simpa[hz]using g3
   injection this with this
   rw[<-this]
   exact nw
theorem t7{Q:Unit->Shared->Prop}(hA:A.frames=some (env::outer))(hF:s.heap.FunFrames base (env::outer))(hL:env.frame=some L)(hk:HOk P w H s.heap)(xs:XS H s.heap lo e C dd)
  (k:∀h',Mv (frs (env::outer)) s.heap h' e->XS H h' lo e C dd->Q () { s with heap:=h' }):wpAny M A (leaving env (.ref e)) Q E s:=by
 unfold leaving
 exact zza (zf hA hF hL hk xs λh' m x _=>k h' m x)
end
section
variable {fs:List Addr}{h h':Heap}{e C:Addr}{dd:Option Addr}{H:Hp}{lo:Nat}{P:Program}{w:World}
theorem XO.ok{H':Hp}(x:XO e C dd h):ObjOk P w H' h e (.ext (XO e C dd)):=by
 obtain⟨oe,q,r⟩:=x
 exact⟨⟨oe,q,r⟩,⟨oe,q⟩,λh1 h2 ⟨o,z,r⟩ k=>⟨o,k o z,r⟩⟩
theorem XS.xo(xs:XS H h lo e C dd):XO e C dd h:=by
 obtain⟨oe,vs,q,c,d,z,_⟩:=xs.obj
 exact⟨oe,q,c,d,by unfold PySem.W.notCls;rw[z]⟩
theorem XS.tb(xs:XS H h lo e C dd){b:Addr}(t:qm h e b):H b=none/\lo<=b/\b≠e/\∃oT ts,h.get? b=some oT/\oT.data=.fields ts:=by
 obtain⟨oe,vs,q,c,d,z,_,k⟩:=xs.obj
 obtain⟨oe',vs',q',z',k'⟩:=t
 rw[q]at q';cases q'
 rw[z]at z';cases z'
 rcases k with k|⟨T,oT,ts,k,ne,l,n,g,gd,_⟩
 ·rw[k]at k';cases k'
 ·rw[k]at k'
  cases k'
  exact⟨n,l,ne,oT,ts,g,gd⟩
theorem Mv.hok(m:Mv fs h h' e)(ok:HOk P w H h)(xs:XS H h lo e C dd)(xs':XS H h' lo e C dd)(hf:∀b∈fs,H b=none):HOk P w H h':=λa o q=>by
 by_cases ae:a=e
 ·subst ae
  rw[xs.trk]at q;cases q
  exact xs'.xo.ok
 ·refine(ok a o q).stay (λb u hb z=>?_) (λ_ z=>z) λ_ _ z=>z
  have hbH:∃v,H b=some v:=by
   rcases hb with rfl|hb
   ·exact⟨o,q⟩
   ·exact⟨_,hb⟩
  obtain⟨v,hv⟩:=hbH
  refine m.keep b u z (λy=>by rw[hf b y]at hv;cases hv) (λy=>?_) λy=>by rw[(xs.tb y).1]at hv;cases hv
  subst y
  rcases hb with rfl|hb
  ·exact ae rfl
  ·rw[xs.trk]at hb;cases hb
end
def CX1(P:Program)(w:World):CXT:=λouter H s E e s'=>∃a C dd H',e=.ref a/\s'.os=s.os/\AllBare s'.gens/\Un (frs outer) [] H H' s.heap s'.heap/\HOk P w H' s'.heap/\XS H' s'.heap s.heap.objs.size a C dd/\E (.ref C) dd H'
theorem Bp{P:Program}{w:World}{K:Fg}{mg:zzl}{base:Heap}{N:List Str}{qual:Str}{scope:Scope}{f:Addr}{cd:Value}{A:Around}{outer:List Env}{s:Shared}{H:Hp}{E:XK}
  {pins:zzk} {Z:L2.St} {H':Hp} {s':Shared} {a C:Addr} {dd:Option Addr} (I:Inv (jt (CX1 P w) P w K mg base N qual scope f cd A outer s H E) pins Z H' s') (xs:XS H' s'.heap s.heap.objs.size a C dd) (hE:E (.ref C) dd H') :
  (jt (CX1 P w) P w K mg base N qual scope f cd A outer s H E).xe (.ref a) s':=by
 have hF:=I.stack
 have hS:=I.stkFree
 refine t7 (base:=base) (L:=s.heap.objs.size) (P:=P) (w:=w) (s:=s') I.ok.frames hF rfl I.hok xs λh1 m xs1=>?_
 have un:Un (frs outer) [] H H' s.heap s'.heap:=I.base
 have lt:∀b o,s.heap.get? b=some o->b<s.heap.objs.size:=λb o q=>Heap.lt_size q
 have ne:∀b o,s.heap.get? b=some o->b≠a:=λb o q=>Nat.ne_of_lt (Nat.lt_of_lt_of_le (lt b o q) xs.yg)
 have nt:∀b o,s.heap.get? b=some o->¬ qm s'.heap a b:=λb o q z=>absurd (Nat.lt_of_lt_of_le (lt b o q) (xs.tb z).2.1) (Nat.lt_irrefl _)
 refine⟨a,C,dd,H',rfl,I.os,I.bare,⟨λb o q n hb hx=>?_,λb o q n hb hx=>?_,un.free,λb o q hx=>?_,un.tups,un.frzs,un.tbls⟩,m.hok I.hok xs xs1 hS,xs1,hE⟩
 ·refine m.keep b o (un.keep b o q n hb hx) (λz=>?_) (ne b o q) (nt b o q)
  rcases List.mem_cons.mp (I.stkSub b z)with y|y
  ·exact absurd (lt b o q) (by rw[y];exact Nat.lt_irrefl _)
  ·exact hb y
 ·obtain⟨sl,z⟩:=un.slot b o q n hb hx
  obtain⟨sl',z'⟩:=m.slot b _ z (ne b o q) (nt b o q)
  exact⟨sl',z'⟩
 ·obtain⟨o',z⟩:=un.there b o q hx
  exact m.there b o' z
end L4
namespace L4
open PySem PySem.Spec PyProof.Rows L2 L3 PySem.W
section
variable {prog:Program}{w:World}{A:Around}{E:zzj}{s:Shared}{K:Frag}{x C D:Addr}{ox:Obj}{name:Str}{v:Value}{Q:Unit->Shared->Prop}
theorem yk{cd:ClassData}{bmB:List Value}(X:K.In s.heap)(hx:s.heap.get? x=some ox)(hc:ox.cls=.ref C)(hn:notCls ox=true)(hdn:ox.dict=none)(hs:findIn K (.ref C) "__setattr__" = some (some (.builtin "object.__setattr__")))
  (hcd:clsIn K C=some cd) (hm:cd.mro=.ref C::.ref D::[.type "ValueError",.type "Exception",.type "BaseException",.type "object"]) (hd:cd.hasDict=true) (hna:findIn K (.ref C) name=some none)
  (h:∀h' dx tk,s.heap.objs.size<=dx->h'.Ns1 dx (λy=>if y=name then some v else none)->h'.get? x=some { ox with dict:=some dx }->(∀b o,b≠x->s.heap.get? b=some o->h'.get? b=some o)->Q () { s with heap:=h',toks:=tk }) :
  wpAny (model prog w) A (setAttr (.ref x) name v) Q E s:=by
 obtain⟨hp,g,d,t,os⟩:=s
 obtain⟨oc,odi,oda,osl⟩:=ox
 dsimp only at hc hdn
 subst hc hdn
 have I:PySem.W.InstAt hp x ⟨.ref C,none,oda,osl⟩ C none:=⟨hx,rfl,hn,trivial⟩
 refine PySem.W.set_plain X I hs ?_
 have SF:=F.store_ValueError
 have L0:=I.type (M:=model prog w)
 have L1:=looks_findIn (M:=model prog w) X hna
 have L4:=looks_mroIn (M:=model prog w) (r:=true) X (C:=C) (base:=.type "object") (by unfold mroIn;rw[hcd,Option.bind_some,hm];rfl)
 have LC:=looks_clsIn (M:=model prog w) X hcd
 have pass:=SF.passes (.ref x)
 have ok:=SF.args (.ref x) (.str name t) v
 refine codeAny_call_builtin SF.slot.plain SF.entry ?_
 simp only[checkBuiltinCall,SF.kind,SF.split]
 refine zza ?_
 unfold isInstance
 refine zza (L0.at (L4.at ?_))
 have LM:Looks (model prog w) hp (mroOf (.ref C)) cd.mro:=(looks_clsIn X hcd).andThen .now
 rw[if_neg (by decide)]
 have run:∀A',wpAny (model prog w) A' (Builtin.«object.__setattr__» { pos:=[Value.ref x,Value.str name t,v] }) (λfin s'=>∃f,fin=.done (.ret f)/\Q () s') E ⟨hp,g,d,t+1,os⟩:=by
  intro A'
  unfold Builtin.«object.__setattr__»
  repeat (first|rw[refuse_eq]|with_reducible refine LM.at ?_|(rw[hm,refuseLoop_ref,refuseLoop_ref,pass])|with_reducible refine L0.at ?_|with_reducible refine L1.at ?_|(with_reducible refine LC.at ?_;rw[hd])|wp_step)
  have fin:wpAny (model prog w) A' (do
    let d <-alloc { cls:=Value.type "dict",data:=Data.dict #[] }
    update x λo=>{ cls:=o.cls,dict:=some d,data:=o.data,slots:=o.slots }
    dictMade (.ref C) x d)
    (λa s'=>wpAny (model prog w) A' (match a with
     | some d=>Builtin.ObjectAttr.storeInDict d (Value.str name t) name v
     | none=>Builtin.ObjectAttr.noDictFor (Value.ref x) (Value.ref C) name (none:Option Value).isSome) (λfin s'=>∃f,fin=Fin.done (Flow.ret f)/\Q () s') E s') E ⟨hp,g,d,t+1,os⟩:=by
   refine zza (wpAny_alloc' (zza (wpAny_update' (zzc _ hx) (zzb ?_))))
   have xs:x≠hp.objs.size:=Nat.ne_of_lt (Heap.lt_size hx)
   show wpAny _ _ (Builtin.ObjectAttr.storeInDict hp.objs.size (.str name t) name v) _ _ _
   have e0:((hp.push { cls:=.type "dict",data:=.dict #[] }).update x λo=>{ cls:=o.cls,dict:=some hp.objs.size,data:=o.data,slots:=o.slots }).get? hp.objs.size=some { cls:=.type "dict",data:=.dict #[] }:=by
    rw[Heap.get?_update_other _ _ xs];exact zze hp rfl
   have n0:((hp.push { cls:=.type "dict",data:=.dict #[] }).update x λo=>{ cls:=o.cls,dict:=some hp.objs.size,data:=o.data,slots:=o.slots }).Ns hp.objs.size (λ_=>none):=⟨_,#[],_,e0,rfl,λe he=>absurd he (by simp),λ_=>rfl⟩
   unfold Builtin.ObjectAttr.storeInDict Builtin.ObjectAttr.newKeyGuard
   refine zza (zzb (zza (wpAny_nsSet1 (Heap.Ns1.of_empty n0) λh' n1 sb=>?_)))
   obtain⟨oD,esD,epD,q1,q2,q3⟩:=n1.count (PySem.Within.cons name v PySem.Within.nil)
   refine zza (wpAny_lookBehind q1 (by rw[q2];exact pastItsLine_dict (Nat.le_trans q3 (show 1<=sizeLine+1 from by decide))) (zzb ⟨_,rfl,?_⟩))
   refine h h' hp.objs.size _ (Nat.le_refl _) n1 ?_ λb o nb q=>?_
   ·rw[sb.2 x xs]
    refine Heap.get?_update_self _ (zzc _ hx) ?_
    have fr:=(Heap.get?_some_iff.mp hx).2
    cases oda<;>first|rfl|exact fr
   ·rw[sb.2 b (Nat.ne_of_lt (Heap.lt_size q)),Heap.get?_update_other _ _ (Ne.symm nb)]
    exact zzc _ q
  cases oda<;>first|exact fin|cases hn
 have fin:wpAny (model prog w) A.in1 (Builtin.«object.__setattr__» { pos:=[Value.ref x,Value.str name t,v] }) (λfin s'=>match fin with
   | .done f=>(match (Except.ok f:Result)with | .ok (.ret v)=>Q () s' | .ok a=>False | .error e=>E e s')
   | .again c'=>c'.quiet=true/\codeAny (model prog w) A c' (λr s'=>match r with | .ok (.ret v)=>Q () s' | .ok a=>False | .error e=>E e s') s') E ⟨hp,g,d,t+1,os⟩ :=
  wpAny_mono (run _) (λf s' z=>by obtain⟨u,rfl,q⟩:=z;exact q) λ_ _ z=>z
 cases hsig:Manifest.signature? "object.__setattr__" with
 | none=>exact zzb fin
 | some sig =>
  simp only[argsOk,hsig]at ok
  show wpAny _ _ (Bind.checkArgs "object.__setattr__" sig ⟨[.ref x,.str name t,v],[]⟩) _ _ _
  rw[show Bind.checkArgs "object.__setattr__" sig ⟨[.ref x,.str name t,v],[]⟩=pure ()from ok]
  exact zzb fin
theorem yj{cd:ClassData}{dx:Addr}{mA:zzl}{ns:List Str}(X:K.In s.heap)(hx:s.heap.get? x=some ox)(hc:ox.cls=.ref C)(hn:notCls ox=true)(hdn:ox.dict=some dx)(hne:dx≠x)(hA:s.heap.Ns1 dx mA)(hw:PySem.Within mA ns)(hz:ns.length<=1000)(hs:findIn K (.ref C) "__setattr__" = some (some (.builtin "object.__setattr__")))
  (hcd:clsIn K C=some cd) (hm:cd.mro=.ref C::.ref D::[.type "ValueError",.type "Exception",.type "BaseException",.type "object"]) (hd:cd.hasDict=true) (hna:findIn K (.ref C) name=some none)
  (h:∀h' tk,h'.Ns1 dx (λy=>if y=name then some v else mA y)->(∀b o,b≠dx->s.heap.get? b=some o->h'.get? b=some o)->Q () { s with heap:=h',toks:=tk }) :
  wpAny (model prog w) A (setAttr (.ref x) name v) Q E s:=by
 obtain⟨hp,g,d,t,os⟩:=s
 obtain⟨oc,odi,oda,osl⟩:=ox
 dsimp only at hc hdn
 subst hc hdn
 obtain⟨od,qd⟩:∃od,hp.get? dx=some od:=by obtain⟨o,_,_,q,_⟩:=hA;exact⟨o,q⟩
 have I:PySem.W.InstAt hp x ⟨.ref C,some dx,oda,osl⟩ C (some od):=⟨hx,rfl,hn,qd⟩
 refine PySem.W.set_plain X I hs ?_
 have SF:=F.store_ValueError
 have L0:=I.type (M:=model prog w)
 have L1:=looks_findIn (M:=model prog w) X hna
 have L4:=looks_mroIn (M:=model prog w) (r:=true) X (C:=C) (base:=.type "object") (by unfold mroIn;rw[hcd,Option.bind_some,hm];rfl)
 have LC:=looks_clsIn (M:=model prog w) X hcd
 have pass:=SF.passes (.ref x)
 have ok:=SF.args (.ref x) (.str name t) v
 refine codeAny_call_builtin SF.slot.plain SF.entry ?_
 simp only[checkBuiltinCall,SF.kind,SF.split]
 refine zza ?_
 unfold isInstance
 refine zza (L0.at (L4.at ?_))
 have LM:Looks (model prog w) hp (mroOf (.ref C)) cd.mro:=(looks_clsIn X hcd).andThen .now
 rw[if_neg (by decide)]
 have run:∀A',wpAny (model prog w) A' (Builtin.«object.__setattr__» { pos:=[Value.ref x,Value.str name t,v] }) (λfin s'=>∃f,fin=.done (.ret f)/\Q () s') E ⟨hp,g,d,t+1,os⟩:=by
  intro A'
  have st:wpAny (model prog w) A' (Builtin.ObjectAttr.storeInDict dx (.str name t) name v) (λfin s'=>∃f,fin=.done (.ret f)/\Q () s') E ⟨hp,g,d,t+1,os⟩:=by
   unfold Builtin.ObjectAttr.storeInDict Builtin.ObjectAttr.newKeyGuard
   refine zza (zzb (zza (wpAny_nsSet1 hA λh' n1 sb=>?_)))
   obtain⟨oD,esD,epD,q1,q2,q3⟩:=n1.count (PySem.Within.cons name v hw)
   refine zza (wpAny_lookBehind q1 (by rw[q2];exact pastItsLine_dict (Nat.le_trans q3 (Nat.le_trans (Nat.succ_le_succ hz) (show 1001<=sizeLine+1 from by decide)))) (zzb ⟨_,rfl,?_⟩))
   exact h h' _ n1 λb o nb q=>(sb.2 b nb).trans q
  unfold Builtin.«object.__setattr__»
  repeat (first|with_reducible exact st|rw[refuse_eq]|with_reducible refine LM.at ?_|(rw[hm,refuseLoop_ref,refuseLoop_ref,pass])|with_reducible refine L0.at ?_|with_reducible refine L1.at ?_|(with_reducible refine LC.at ?_;rw[hd])|wp_step)
 have fin:wpAny (model prog w) A.in1 (Builtin.«object.__setattr__» { pos:=[Value.ref x,Value.str name t,v] }) (λfin s'=>match fin with
   | .done f=>(match (Except.ok f:Result)with | .ok (.ret v)=>Q () s' | .ok a=>False | .error e=>E e s')
   | .again c'=>c'.quiet=true/\codeAny (model prog w) A c' (λr s'=>match r with | .ok (.ret v)=>Q () s' | .ok a=>False | .error e=>E e s') s') E ⟨hp,g,d,t+1,os⟩ :=
  wpAny_mono (run _) (λf s' z=>by obtain⟨u,rfl,q⟩:=z;exact q) λ_ _ z=>z
 cases hsig:Manifest.signature? "object.__setattr__" with
 | none=>exact zzb fin
 | some sig =>
  simp only[argsOk,hsig]at ok
  show wpAny _ _ (Bind.checkArgs "object.__setattr__" sig ⟨[.ref x,.str name t,v],[]⟩) _ _ _
  rw[show Bind.checkArgs "object.__setattr__" sig ⟨[.ref x,.str name t,v],[]⟩=pure ()from ok]
  exact zzb fin
end
theorem zV{K:Frag}{C D fI:Addr}(c:XC K C D fI):∃cd,PySem.W.clsIn K C=some cd/\cd.mro=.ref C::.ref D::bmV/\cd.hasDict=true:=by
 obtain⟨nm,q,N,bs,sn,sub,ab,col,dd,k0,k1,k2,k3,k5,lk⟩:=c.obj
 refine⟨_,by unfold PySem.W.clsIn;rw[lk],rfl,rfl⟩
end L4
namespace L4
open PySem PySem.Spec PyProof.Rows L2 L3
structure Ex where
 cls:Str
 fs:List (Str×D)
inductive M(S:Type) where
 | ret (s:S)
 | exc (x:Ex)
 | bad
def M.on{S T:Type}(m:M S)(x:Ex->M T)(k:S->M T):M T:=match m with
 | .ret s=>k s
 | .exc e=>x e
 | .bad=>.bad
def bd{S T:Type}(m:M S)(k:S->M T):M T:=m.on .exc k
def oM{S:Type}(o:Option S):M S:=match o with
 | some s=>.ret s
 | none=>.bad
section
variable {S T U:Type}
@[simp] theorem DQ(s:S)(x:Ex->M T)(k:S->M T):(M.ret s).on x k=k s:=rfl
@[simp] theorem iJ(s:S)(k:S->M T):bd (.ret s) k=k s:=rfl
end
abbrev Pu(α:Type):=En->M α
def XR(K:Fg)(F:Hp)(C:Addr)(dd:Option Addr)(x:Ex):Prop:=XQ K C x.cls /\
 ∃fv,FX F dd fv/\Paired (λ(p:Str×V) (q:Str×D)=>p.1=q.1/\Rep K F p.2 q.2) fv x.fs
structure FzOk(K:Fg)(F:Hp)(Z:L2.St)(ρ:En):Prop where
 ln:Z.length=ρ.length
 fz:∀(i:Nat) (d:D),ρ[i]? = some (some (AV.fz d))->∃v,Z[i]? = some (some v)/\Rep K F v d
theorem _root_.L3.StOk.fzok{K:Fg}{G:Gh}{F F' H:Hp}{Z:L2.St}{ρ:En}(S:StOk K G F Z H ρ)(s:Same F F'):FzOk K F' Z ρ:=⟨S.ln,λi d q=>by
 obtain⟨v,e,r⟩:=S.fz i d q
 exact⟨v,e,r.mono s⟩⟩
structure GOk(G:Gh)(F H:Hp):Prop where
 fh:Same F H
 oh:Same G.O H
 fo:∀b o,G.O b=some o->F b=none/\B9 o
 fb:Same G.B F
def XW(X:Cx)(G:Gh)(F:Hp)(ρ:En)(x:Ex):Prop:=∀F' H' s' a C dd pins Z,GOk G F' H'->FzOk X.K F' Z ρ->Inv X pins Z H' s'->XS H' s'.heap X.s₀.heap.objs.size a C dd->(∀p∈X.pn++pins,¬ qm s'.heap a p.1)->XR X.K F' C dd x->X.xe (.ref a) s'
theorem XW.mono{X:Cx}{G:Gh}{F F':Hp}{ρ:En}{x:Ex}(s:Same F F')(h:XW X G F ρ x):XW X G F' ρ x:=h
def W(X:Cx)(G:Gh)(F:Hp)(Z:L2.St)(ρ:En){α:Type}(m:M α)(C:α->Hp->Hp->Prop):Prop:=match m with
 | .ret a=>∀F' H',Same F F'->StOk X.K G F' Z H' ρ->C a F' H'
 | .exc x=>XW X G F ρ x
 | .bad=>False
section
variable {X:Cx}{G:Gh}{F F' H:Hp}{Z:L2.St}{ρ:En}{α β:Type}{m:M α}{k:α->M β}{C C':α->Hp->Hp->Prop}
theorem W.up{C:β->Hp->Hp->Prop}{m:M β}(s:Same F F')(h:W X G F Z ρ m C):W X G F' Z ρ m C:=by
 cases m with
 | ret a=>exact λF2 H2 s2 S2=>h F2 H2 (s.trans s2) S2
 | exc x=>exact XW.mono (X:=X) (G:=G) (ρ:=ρ) (x:=x) s h
 | bad=>exact h
theorem W.bind{C:β->Hp->Hp->Prop}(h:W X G F Z ρ (bd m k) C):W X G F Z ρ m λa F' H'=>W X G F' Z ρ (k a) C:=by
 cases m with
 | ret a=>exact λF2 H2 s2 S2=>W.up s2 h
 | exc x=>exact h
 | bad=>exact h
theorem W.imp(h:W X G F Z ρ m C)(w:∀a F' H',Same F F'->StOk X.K G F' Z H' ρ->C a F' H'->C' a F' H'):W X G F Z ρ m C':=by
 cases m with
 | ret a=>exact λF2 H2 s2 S2=>w a F2 H2 s2 S2 (h F2 H2 s2 S2)
 | exc x=>exact h
 | bad=>exact h
theorem W.opt{o:Option α}(h:W X G F Z ρ (oM o) C):∃a,o=some a/\∀F' H',Same F F'->StOk X.K G F' Z H' ρ->C a F' H':=by
 cases o with
 | none=>exact h.elim
 | some a=>exact⟨a,rfl,h⟩
end
@[irreducible] def cW(X:Cx)(e:Expr):TE:=λZ H Q=>∀(pins:zzk) (s:Shared),Inv X pins Z H s->wpAny (model X.prog X.w) X.A (eval e X.env) (EP X pins Z Q) X.xe s
@[irreducible] def nv(X:Cx)(e:Expr):TT:=λZ H Q=>∀(pins:zzk) (s:Shared),Inv X pins Z H s->wpAny (model X.prog X.w) X.A (isTrue e X.env (eval e X.env)) (TP X pins Z Q) X.xe s
@[irreducible] def nr(X:Cx)(e:Expr):TT:=λZ H Q=>∀(whole:Sem Value) (pins:zzk) (s:Shared),Inv X pins Z H s->wpAny (model X.prog X.w) X.A (isTrue e X.env whole) (TP X pins Z Q) X.xe s
@[irreducible] def dB(X:Cx)(es:List Expr):TA:=λZ H Q=>∀(pos:Pos) (pins:zzk) (s:Shared),Inv X pins Z H s->wpAny (model X.prog X.w) X.A (spliced (backTo pos (starEach es X.env))) (AP X pins Z Q) X.xe s
section
variable {X:Cx}{e:Expr}{es:List Expr}{Z:L2.St}{H:Hp}
theorem aH:PE X e (cW X e):=λpins s Z H Q I h=>by unfold cW at h;exact h pins s I
theorem cZ:PT X e (nv X e):=λpins s Z H Q I h=>by unfold nv at h;exact h pins s I
theorem lq:PW X e (nr X e):=λwh pins s Z H Q I h=>by unfold nr at h;exact h wh pins s I
theorem bC:PA X es (dB X es):=λpos pins s Z H Q I h=>by unfold dB at h;exact h pos pins s I
theorem sem{t:TE}{Q:VK}(h:PE X e t)(q:t Z H Q):cW X e Z H Q:=by unfold cW;exact λpins s I=>h pins s Z H Q I q
theorem mR{t:TT}{Q:Bool->Hp->Prop}(h:PT X e t)(q:t Z H Q):nv X e Z H Q:=by unfold nv;exact λpins s I=>h pins s Z H Q I q
theorem wz{t:TT}{Q:Bool->Hp->Prop}(h:PW X e t)(q:t Z H Q):nr X e Z H Q:=by unfold nr;exact λwh pins s I=>h wh pins s Z H Q I q
theorem qJ{t:TA}{Q:List V->Hp->Prop}(h:PA X es t)(q:t Z H Q):dB X es Z H Q:=by unfold dB;exact λpos pins s I=>h pos pins s Z H Q I q
end
def gB(ρ:En)(i:Nat):Option (List D):=match ρ[i]? with
 | some (some (.ol (.l ds)))=>some ds
 | some (some (.op (.l ds)))=>some ds
 | _=>none
theorem iR{ρ:En}{i:Nat}{ds:List D}(h:gB ρ i=some ds):own ρ i (.l ds):=by
 unfold gB at h
 split at h
 ·rename_i q;cases h;exact .inl q
 ·rename_i q;cases h;exact .inr q
 ·cases h
def VO(K:Fg)(F:Hp)(Z:L2.St)(ρ:En)(v:V)(d:D):Prop:=Rep K F v d\/∃i c,own ρ i c/\Z[i]? = some (some v)/\d=c.d/\c.isI=false
inductive VOs(K:Fg)(F:Hp)(Z:L2.St)(ρ:En):List V->List D->Prop
 | nil:VOs K F Z ρ [] []
 | cons {v d vs ds}:VO K F Z ρ v d->VOs K F Z ρ vs ds->VOs K F Z ρ (v::vs) (d::ds)
theorem VO.mono{K:Fg}{F F':Hp}{Z:L2.St}{ρ:En}{v:V}{d:D}(s:Same F F')(h:VO K F Z ρ v d):VO K F' Z ρ v d:=h.imp (Rep.mono s) id
def OR(K:Fg)(F H:Hp)(v:V)(d:D):Prop:=Rep K F v d\/∃a c,v=.ref a/\d=c.d/\Held K F H a c/\c.isI=false
inductive ORs(K:Fg)(F H:Hp):List V->List D->Prop
 | nil:ORs K F H [] []
 | cons {v d vs ds}:OR K F H v d->ORs K F H vs ds->ORs K F H (v::vs) (d::ds)
theorem VO.or{K:Fg}{G:Gh}{F H:Hp}{Z:L2.St}{ρ:En}{v:V}{d:D}(S:StOk K G F Z H ρ)(h:VO K F Z ρ v d):OR K F H v d:=by
 rcases h with h|⟨i,c,ho,hv,rfl,hI⟩
 ·exact .inl h
 ·obtain⟨a,e1,oa⟩:=S.ow i _ ho
  rw[hv]at e1
  injection e1 with e1;injection e1 with e1
  exact .inr ⟨a,c,e1,rfl,oa.he,hI⟩
theorem VOs.ors{K:Fg}{G:Gh}{F H:Hp}{Z:L2.St}{ρ:En}(S:StOk K G F Z H ρ):∀{vs ds},VOs K F Z ρ vs ds->ORs K F H vs ds
 | _,_,.nil=>.nil
 | _,_,.cons h t=>.cons (h.or S) (t.ors S)
section
variable {K:Fg}{F H:Hp}{v:V}{ds:List D}
theorem OR.rep{d:D}(s:Same F H)(h:OR K F H v d):Rep K H v d:=by
 rcases h with h|⟨a,c,rfl,rfl,h1,hI⟩
 ·exact h.mono s
 ·obtain⟨o,e,r⟩:=vE hI h1;exact r H s e
theorem OR.list(s:Same F H)(h:OR K F H v (.list ds)):∃a vs,v=.ref a/\SqL K H a vs/\RepL K F vs ds:=by
 rcases h with h|⟨a,c,e,e2,h1,hI⟩
 ·obtain⟨a,vs,e,h1,h2⟩:=h.lst_inv
  exact⟨a,vs,e,s.seq h1,h2⟩
 ·cases c<;>cases e2
  obtain⟨vs,h1,h2⟩:=h1
  exact⟨a,vs,e,.inl (.inl h1),h2⟩
theorem OR.tuple(s:Same F H)(h:OR K F H v (.tuple ds)):∃a vs,v=.ref a/\SqT K H a vs/\RepL K F vs ds:=by
 rcases h with h|⟨a,c,e,e2,h1,hI⟩
 ·obtain⟨a,vs,e,h1,h2⟩:=h.tup_inv
  exact⟨a,vs,e,SqT.of (s _ _ h1),h2⟩
 ·cases c<;>cases e2
theorem OR.tup'(h:OR K F H v (.tuple ds)):Rep K F v (.tuple ds):=by
 rcases h with h|⟨a,c,e,e2,h1,hI⟩
 ·exact h
 ·cases c<;>cases e2
theorem OR.int{i:Int}(h:OR K F H v (.int i)):v=.int i:=by
 rcases h with h|⟨a,c,e,e2,h1,hI⟩
 ·exact h.inv
 ·cases c<;>cases e2
theorem OR.bool{i:Bool}(h:OR K F H v (.bool i)):v=.bl i:=by
 rcases h with h|⟨a,c,e,e2,h1,hI⟩
 ·exact h.inv
 ·cases c<;>cases e2
theorem OR.str{i:Str}(h:OR K F H v (.str i)):v=.str i:=by
 rcases h with h|⟨a,c,e,e2,h1,hI⟩
 ·exact h.inv
 ·cases c<;>cases e2
theorem OR.none(h:OR K F H v .none):v=.non:=by
 rcases h with h|⟨a,c,e,e2,h1,hI⟩
 ·exact h.inv
 ·cases c with
  | i _ _ _=>cases hI
  | _=>cases e2
theorem aV{vs:List V}{d:D}{ds:List D}(h:ORs K F H vs (d::ds)):∃v r,vs=v::r/\OR K F H v d/\ORs K F H r ds:=by
 cases h with|cons a b=>exact⟨_,_,rfl,a,b⟩
theorem bG{vs:List V}(h:ORs K F H vs []):vs=[]:=by cases h;rfl
end
def AP(X:Cx)(e:Expr)(p:Pu D):Prop :=
 ∀(G:Gh) (F:Hp) (Z:L2.St) (H:Hp) (ρ:En) (Q:VK),StOk X.K G F Z H ρ->W X G F Z ρ (p ρ) (λd F' H'=>∀v,Rep X.K F' v d->Q v H')->cW X e Z H Q
def AO(X:Cx)(e:Expr)(p:Pu D):Prop :=
 ∀(G:Gh) (F:Hp) (Z:L2.St) (H:Hp) (ρ:En) (Q:VK),StOk X.K G F Z H ρ->W X G F Z ρ (p ρ) (λd F' H'=>∀v,VO X.K F' Z ρ v d->Q v H')->cW X e Z H Q
def AT(X:Cx)(e:Expr)(p:Pu Bool):Prop :=
 ∀(G:Gh) (F:Hp) (Z:L2.St) (H:Hp) (ρ:En) (Q:Bool->Hp->Prop),StOk X.K G F Z H ρ->W X G F Z ρ (p ρ) (λd F' H'=>Q d H')->nv X e Z H Q
def AW(X:Cx)(e:Expr)(p:Pu Bool):Prop :=
 ∀(G:Gh) (F:Hp) (Z:L2.St) (H:Hp) (ρ:En) (Q:Bool->Hp->Prop),StOk X.K G F Z H ρ->W X G F Z ρ (p ρ) (λd F' H'=>Q d H')->nr X e Z H Q
def AB(X:Cx)(e:Expr)(p:Pu Bool):Prop :=
 ∀(G:Gh) (F:Hp) (Z:L2.St) (H:Hp) (ρ:En) (Q:VK),StOk X.K G F Z H ρ->W X G F Z ρ (p ρ) (λd F' H'=>Q (.bl d) H')->cW X e Z H Q
def AA{α:Type}(X:Cx)(es:List Expr)(m:(List D->M α)->En->M α):Prop :=
 ∀(G:Gh) (F:Hp) (Z:L2.St) (H:Hp) (ρ:En) (Q:List V->Hp->Prop) (k:List D->M α) (C:α->Hp->Hp->Prop),StOk X.K G F Z H ρ->W X G F Z ρ (m k ρ) C ->
  (∀ds vs F' H',Same F F'->StOk X.K G F' Z H' ρ->vs.length=es.length->RepL X.K F' vs ds->W X G F' Z ρ (k ds) C->Q vs H')->dB X es Z H Q
def AAo{α:Type}(X:Cx)(es:List Expr)(m:(List D->M α)->En->M α):Prop :=
 ∀(G:Gh) (F:Hp) (Z:L2.St) (H:Hp) (ρ:En) (Q:List V->Hp->Prop) (k:List D->M α) (C:α->Hp->Hp->Prop),StOk X.K G F Z H ρ->W X G F Z ρ (m k ρ) C ->
  (∀ds vs F' H',Same F F'->StOk X.K G F' Z H' ρ->VOs X.K F' Z ρ vs ds->W X G F' Z ρ (k ds) C->Q vs H')->dB X es Z H Q
def Frs(K:Fg)(G:Gh)(F:Hp)(Z:L2.St)(H:Hp)(ρ:En)(v:V)(c:OC):Prop:=∃a,v=.ref a/\OwnAt K G F H a c/\∀(i:Nat) (e:OC),own ρ i e->Z[i]? ≠ some (some (V.ref a))
def AL(X:Cx)(e:Expr)(p:Pu (List D)):Prop :=
 ∀(G:Gh) (F:Hp) (Z:L2.St) (H:Hp) (ρ:En) (Q:VK),StOk X.K G F Z H ρ->W X G F Z ρ (p ρ) (λds F' H'=>∀v,Frs X.K G F' Z H' ρ v (.l ds)->Q v H')->cW X e Z H Q
def DG(i:Nat):Pu D:=λρ=>match ρ[i]? with
 | some (some (.fz d))=>.ret d
 | _=>.bad
def Eo(c:OC):M D:=match c with
 | .i _ _ _=>.bad
 | c=>.ret c.d
def CC(i:Nat):Pu D:=λρ=>match ρ[i]? with
 | some (some (.ol c))=>Eo c
 | some (some (.op c))=>Eo c
 | _=>.bad
def wN(d:D):Pu D:=λ_=>.ret d
def FQ(f:D->D->Option D)(a b:Pu D):Pu D:=λρ=>bd (a ρ) λx=>bd (b ρ) λy=>oM (f x y)
def FP(f:D->D->Option (List D))(a b:Pu D):Pu (List D):=λρ=>bd (a ρ) λx=>bd (b ρ) λy=>oM (f x y)
def CI(f:D->D->Option Bool)(a b:Pu D):Pu Bool:=λρ=>bd (a ρ) λx=>bd (b ρ) λy=>oM (f x y)
def pUn(f:D->Option D)(a:Pu D):Pu D:=λρ=>bd (a ρ) λx=>oM (f x)
abbrev Pa(α:Type):=(List D->M α)->En->M α
def FM{α:Type}:Pa α:=λk _=>k []
def CG{α:Type}(a:Pu D)(r:Pa α):Pa α:=λk ρ=>bd (a ρ) λx=>r (λxs=>k (x::xs)) ρ
def eD{S:Type}(ds:List S):M (List S):=if ds.length<=sizeLine then .ret ds else .bad
def Ho(ps:Pa D):Pu D:=λρ=>ps (λds=>.ret (.tuple ds)) ρ
def Ht(ps:Pa (List D)):Pu (List D):=λρ=>ps (λds=>.ret ds) ρ
theorem iD{n:Nat}(h:n<=1000):n<=sizeLine:=Nat.le_trans h (by decide)
def CH(f:List D->Option D)(ps:Pa D):Pu D:=λρ=>ps (λds=>oM (f ds)) ρ
def DJ(f:List D->Option Bool)(ps:Pa Bool):Pu Bool:=λρ=>ps (λds=>oM (f ds)) ρ
def tT(f:List D->Option (List D))(ps:Pa (List D)):Pu (List D):=λρ=>ps (λds=>oM (f ds)) ρ
def pB(p:Pu Bool):Pu D:=λρ=>bd (p ρ) λb=>.ret (.bool b)
def pZ(p:Pu (List D)):Pu D:=λρ=>bd (p ρ) λds=>.ret (.list ds)
def asB(d:D):M Bool:=match d with
 | .bool b=>.ret b
 | _=>.bad
def wm:D->Option Bool
 | .none=>some false
 | .bool b=>some b
 | .int i=>some (i != 0)
 | .str x=>if x.length<=sizeLine then some ((x.length:Int) != 0)else none
 | .list ds=>some (!ds.isEmpty)
 | .tuple ds=>some (!ds.isEmpty)
 | .dict _=>none
def Hq(p:Pu D):Pu Bool:=λρ=>bd (p ρ) λd=>oM (wm d)
def Hy(a b:Pu Bool):Pu Bool:=λρ=>bd (a ρ) λt=>if t then b ρ else .ret false
def pOr(a b:Pu Bool):Pu Bool:=λρ=>bd (a ρ) λt=>if t then .ret true else b ρ
def Hr(a:Pu Bool):Pu Bool:=λρ=>bd (a ρ) λt=>.ret (!t)
def pIf{α:Type}(c:Pu Bool)(a b:Pu α):Pu α:=λρ=>bd (c ρ) λt=>if t then a ρ else b ρ
def OpD(K:Fg)(r:R2)(f:D->D->Option D):Prop :=
 ∀(G:Gh) (F:Hp) (Z:L2.St) (H:Hp) (ρ:En) (x y:V) (dx dy:D) (res:D) (Q:VK),StOk K G F Z H ρ->OR K F H x dx->OR K F H y dy->f dx dy=some res ->
  (∀v F' H',Same F F'->StOk K G F' Z H' ρ->Rep K F' v res->Q v H')->r x y H Q
def OpL(K:Fg)(r:R2)(f:D->D->Option (List D)):Prop :=
 ∀(G:Gh) (F:Hp) (Z:L2.St) (H:Hp) (ρ:En) (x y:V) (dx dy:D) (res:List D) (Q:VK),StOk K G F Z H ρ->OR K F H x dx->OR K F H y dy->f dx dy=some res ->
  (∀v F' H',Same F F'->StOk K G F' Z H' ρ->Frs K G F' Z H' ρ v (.l res)->Q v H')->r x y H Q
def OpB(K:Fg)(r:R2)(f:D->D->Option Bool):Prop :=
 ∀(G:Gh) (F:Hp) (Z:L2.St) (H:Hp) (ρ:En) (x y:V) (dx dy:D) (res:Bool) (Q:VK),StOk K G F Z H ρ->OR K F H x dx->OR K F H y dy->f dx dy=some res->Q (.bl res) H->r x y H Q
def UnD(K:Fg)(r:V->Hp->VK->Prop)(f:D->Option D):Prop :=
 ∀(G:Gh) (F:Hp) (Z:L2.St) (H:Hp) (ρ:En) (x:V) (dx:D) (res:D) (Q:VK),StOk K G F Z H ρ->OR K F H x dx->f dx=some res ->
  (∀v F' H',Same F F'->StOk K G F' Z H' ρ->Rep K F' v res->Q v H')->r x H Q
def gU(K:Fg)(r:List V->Hp->VK->Prop)(f:List D->Option D):Prop :=
 ∀(G:Gh) (F:Hp) (Z:L2.St) (H:Hp) (ρ:En) (xs:List V) (ds:List D) (res:D) (Q:VK),StOk K G F Z H ρ->ORs K F H xs ds->f ds=some res ->
  (∀v F' H',Same F F'->StOk K G F' Z H' ρ->Rep K F' v res->Q v H')->r xs H Q
def uM(K:Fg)(r:List V->Hp->VK->Prop)(f:List D->Option Bool):Prop :=
 ∀(G:Gh) (F:Hp) (Z:L2.St) (H:Hp) (ρ:En) (xs:List V) (ds:List D) (res:Bool) (Q:VK),StOk K G F Z H ρ->ORs K F H xs ds->f ds=some res->Q (.bl res) H->r xs H Q
def Aq(K:Fg)(r:List V->Hp->VK->Prop)(f:List D->Option (List D)):Prop :=
 ∀(G:Gh) (F:Hp) (Z:L2.St) (H:Hp) (ρ:En) (xs:List V) (ds:List D) (res:List D) (Q:VK),StOk K G F Z H ρ->ORs K F H xs ds->f ds=some res ->
  (∀v F' H',Same F F'->StOk K G F' Z H' ρ->Frs K G F' Z H' ρ v (.l res)->Q v H')->r xs H Q
def isStar:Expr->Bool
 | .Starred _ _=>true
 | _=>false
theorem bM{env:Env}:∀{e:Expr} {es:List Expr},isStar e=false->starEach (e::es) env=(false,eval e env)::starEach es env:=by
 intro e es h
 cases e<;>first|rfl|cases h
def Bl(o:Option NameKind):Bool:=match o with
 | some .local=>true
 | some .cell=>true
 | _=>false
theorem lo{sc:Scope}{x:Str}(h:Bl (sc.names.lookup x)=true):L2.Loc sc x:=by
 unfold L2.Loc
 generalize sc.names.lookup x=o at *
 unfold Bl at h
 split at h
 ·exact .inl rfl
 ·exact .inr rfl
 ·cases h
def EQ(o:Option NameKind):Bool:=match o with
 | some .free=>true
 | o=>Bl o
theorem vi{sc:Scope}{x:Str}(h:EQ (sc.names.lookup x)=true):L2.Vis sc x:=by
 unfold L2.Vis
 generalize sc.names.lookup x=o at *
 unfold EQ Bl at h
 split at h
 ·exact .inr (.inr rfl)
 ·split at h
  ·exact .inl rfl
  ·exact .inr (.inl rfl)
  ·cases h
section
variable {X:Cx}{e a b c:Expr}{es rest:List Expr}{p pa pb:Pu D}{ta tb tc:Pu Bool}{ps:Pa D}{pb':Pa Bool}{pl:Pa (List D)}{α:Type}{pα:Pa α}{qs:Pu (List D)}{pos:Pos}
theorem EB{i:Nat}{x:Str}(hN:X.N[i]? = some x)(hv:Vis X.env.scope x)(hd:(x==("__debug__" : Str))=false:=by decide)(hcd:(x==("__classdict__" : Str))=false:=by decide):AP X (.Name x pos) (DG i) :=
 λG F Z H ρ Q S w=>sem (bV hN hv hd hcd)<|by
  unfold DG at w
  split at w
  ·rename_i d q
   obtain⟨v,e1,r1⟩:=S.fz i d q
   exact⟨v,e1,w F H (Same.refl _) S v r1⟩
  ·exact w.elim
theorem cp{i:Nat}{x:Str}(hN:X.N[i]? = some x:=by rfl)(hv:Vis X.env.scope x:=by exact vi rfl)(hd:(x==("__debug__" : Str))=false:=by decide)(hcd:(x==("__classdict__" : Str))=false:=by decide):AO X (.Name x pos) (CC i) :=
 λG F Z H ρ Q S w=>sem (bV hN hv hd hcd)<|by
  have go:∀c:OC,own ρ i c->W X G F Z ρ (Eo c) (λd F' H'=>∀v,VO X.K F' Z ρ v d->Q v H')->wt i Z H Q:=λc ho w=>by
   obtain⟨a,e1,oa⟩:=S.ow i _ ho
   cases c with
   | i _ _ _=>exact w.elim
   | _=>exact⟨_,e1,w F H (Same.refl _) S _ (.inr ⟨i,_,ho,e1,rfl,rfl⟩)⟩
  unfold CC at w
  split at w
  ·rename_i ds q;exact go ds (.inl q) w
  ·rename_i ds q;exact go ds (.inr q) w
  ·exact w.elim
theorem ao(h:AP X e p):AO X e p:=λG F Z H ρ Q S w=>h G F Z H ρ Q S (w.imp λd F' H' _ _ q v r=>q v (.inl r))
theorem mG{v:V}{d:D}(h:PE X e (tC v))(r:∀F,Rep X.K F v d):AP X e (wN d) :=
 λG F Z H ρ Q S w=>sem h (w F H (Same.refl _) S v (r F))
theorem ax{i j}:AP X (.Constant (.int i) j pos) (wN (.int i)):=mG DD λ_=>.int _
theorem v6{i j}:AP X (.Constant (.bool i) j pos) (wN (.bool i)):=mG FK λ_=>.bl _
theorem aY{i j}:AP X (.Constant (.str i) j pos) (wN (.str i)):=mG DB λ_=>.str _
theorem qj{j}:AP X (.Constant .none j pos) (wN .none):=mG DC λ_=>.non
theorem mE{r:R2}{Q:VK}{G:Gh}{F H:Hp}{Z:L2.St}{ρ:En}{α:Type}{f:D->D->M α}{C:α->Hp->Hp->Prop}(ha:AO X a pa)(hb:AO X b pb)(S:StOk X.K G F Z H ρ)(w:W X G F Z ρ (bd (pa ρ) λx=>bd (pb ρ) λy=>f x y) C)
  (k:∀x y dx dy F' H',Same F F'->StOk X.K G F' Z H' ρ->OR X.K F' H' x dx->OR X.K F' H' y dy->W X G F' Z ρ (f dx dy) C->r x y H' Q):tOp r (cW X a) (cW X b) Z H Q :=
 ha G F Z H ρ _ S (w.bind.imp λdx F1 H1 s1 S1 w1 x hx=>hb G F1 Z H1 ρ _ S1 (w1.bind.imp λdy F2 H2 s2 S2 w2 y hy=>k x y dx dy F2 H2 (s1.trans s2) S2 ((hx.mono s2).or S2) (hy.or S2) w2))
theorem aM{op:Operator}{r:R2}{f:D->D->Option D}(ho:OpR X (binaryOp op) r)(hf:OpD X.K r f)(ha:AO X a pa)(hb:AO X b pb):AP X (.BinOp a op b pos) (FQ f pa pb) :=
 λG F Z H ρ Q S w=>sem (yT ho aH aH) (mE ha hb S w λx y dx dy F' H' s' S' hx hy w'=>by
  obtain⟨res,e,k⟩:=w'.opt
  exact hf G F' Z H' ρ x y dx dy res Q S' hx hy e λv F2 H2 s2 S2 r2=>k F2 H2 s2 S2 v r2)
theorem EC{op:Operator}{r:R2}{f:D->D->Option (List D)}(ho:OpR X (binaryOp op) r)(hf:OpL X.K r f)(ha:AO X a pa)(hb:AO X b pb):AL X (.BinOp a op b pos) (FP f pa pb) :=
 λG F Z H ρ Q S w=>sem (yT ho aH aH) (mE ha hb S w λx y dx dy F' H' s' S' hx hy w'=>by
  obtain⟨res,e,k⟩:=w'.opt
  exact hf G F' Z H' ρ x y dx dy res Q S' hx hy e λv F2 H2 s2 S2 r2=>k F2 H2 s2 S2 v r2)
theorem cE{r:R2}{f:D->D->Option D}(hr:IxR X r)(hf:OpD X.K r f)(ha:AO X a pa)(hb:AO X b pb)(hs:qp b:=by exact λ_ _=>rfl):AP X (.Subscript a b pos) (FQ f pa pb) :=
 λG F Z H ρ Q S w=>sem (CB hr aH aH hs) (mE ha hb S w λx y dx dy F' H' s' S' hx hy w'=>by
  obtain⟨res,e,k⟩:=w'.opt
  exact hf G F' Z H' ρ x y dx dy res Q S' hx hy e λv F2 H2 s2 S2 r2=>k F2 H2 s2 S2 v r2)
theorem Am{op:CmpOp}{r:R2}{f:D->D->Option Bool}(ho:OpR X (compareOp op) r)(hf:OpB X.K r f)(ha:AO X a pa)(hb:AO X b pb)(hm:behindInMarks op b=false:=by rfl):AB X (.Compare a [op] [b] pos) (CI f pa pb) :=
 λG F Z H ρ Q S w=>sem (va ho aH aH hm) (mE ha hb S w λx y dx dy F' H' s' S' hx hy w'=>by
  obtain⟨res,e,k⟩:=w'.opt
  exact hf G F' Z H' ρ x y dx dy res Q S' hx hy e (k F' H' (Same.refl _) S'))
theorem bR{op:CmpOp}{r:R2}{f:D->D->Option Bool}(ho:OpR X (compareOp op) r)(hf:OpB X.K r f)(ha:AO X a pa)(hb:AO X b pb)(hm:behindInMarks op b=false:=by rfl):AT X (.Compare a [op] [b] pos) (CI f pa pb) :=
 λG F Z H ρ Q S w=>mR (uZ ho aH aH hm) (mE (Q:=λx H'=>∃k,x=.bl k/\Q k H') ha hb S w λx y dx dy F' H' s' S' hx hy w'=>by
  obtain⟨res,e,k⟩:=w'.opt
  exact hf G F' Z H' ρ x y dx dy res _ S' hx hy e ⟨res,rfl,k F' H' (Same.refl _) S'⟩)
theorem GM(h:AB X e ta):AP X e (pB ta):=λG F Z H ρ Q S w=>h G F Z H ρ Q S (w.bind.imp λb F' H' s1 S1 w1=>w1 F' H' (Same.refl _) S1 _ (.bl b))
theorem GL{op:UnaryOp}{r:V->Hp->VK->Prop}{f:D->Option D}(ho:UnR X (unaryOp op) r)(hf:UnD X.K r f)(ha:AO X a pa):AP X (.UnaryOp op a pos) (pUn f pa) :=
 λG F Z H ρ Q S w=>sem (FH ho aH) (ha G F Z H ρ _ S (w.bind.imp λdx F1 H1 s1 S1 w1 x hx=>by
  obtain⟨res,e,k⟩:=w1.opt
  exact hf G F1 Z H1 ρ x dx res Q S1 (hx.or S1) e λv F2 H2 s2 S2 r2=>k F2 H2 s2 S2 v r2))
theorem hG(h:AL X e qs):AP X e (pZ qs):=λG F Z H ρ Q S w=>h G F Z H ρ Q S (w.bind.imp λds F' H' s1 S1 w1 v fr=>by
 obtain⟨F2,s2,S2,r2⟩:=S1.settle (v:=v) (ds:=ds) fr
 exact w1 F2 H' s2 S2 v r2)
theorem aB:AA (α:=α) X [] FM:=λG F Z H ρ Q k C S w kk=>qJ lC (kk [] [] F H (Same.refl _) S rfl .nil w)
theorem af(h:AP X e p)(hr:AA X es pα)(hs:starEach (e::es) X.env=(false,eval e X.env)::starEach es X.env:=by exact bM rfl):AA X (e::es) (CG p pα) :=
 λG F Z H ρ Q k C S w kk=>qJ (gX aH bC hs) (h G F Z H ρ _ S (w.bind.imp λd F1 H1 s1 S1 w1 v r1 =>
  hr G F1 Z H1 ρ _ _ C S1 w1 λds vs F2 H2 s2 S2 hl r2 w2=>kk (d::ds) (v::vs) F2 H2 (s1.trans s2) S2 (by simp[hl]) (.cons (r1.mono s2) r2) w2))
theorem aJ:AAo (α:=α) X [] FM:=λG F Z H ρ Q k C S w kk=>qJ lC (kk [] [] F H (Same.refl _) S .nil w)
theorem aE(h:AO X e p)(hr:AAo X es pα)(hs:starEach (e::es) X.env=(false,eval e X.env)::starEach es X.env:=by exact bM rfl):AAo X (e::es) (CG p pα) :=
 λG F Z H ρ Q k C S w kk=>qJ (gX aH bC hs) (h G F Z H ρ _ S (w.bind.imp λd F1 H1 s1 S1 w1 v r1 =>
  hr G F1 Z H1 ρ _ _ C S1 w1 λds vs F2 H2 s2 S2 r2 w2=>kk (d::ds) (v::vs) F2 H2 (s1.trans s2) S2 (.cons (r1.mono s2) r2) w2))
theorem W.fit{α:Type}{G:Gh}{F:Hp}{Z:L2.St}{ρ:En}{ds:List α}{C:List α->Hp->Hp->Prop}(h:W X G F Z ρ (eD ds) C):ds.length<=sizeLine/\∀F' H',Same F F'->StOk X.K G F' Z H' ρ->C ds F' H':=by
 unfold eD at h
 split at h
 ·exact⟨by assumption,h⟩
 ·exact h.elim
theorem aX{x1}(h:AA X es ps)(hz:es.length<=1000:=by decide +kernel):AP X (.Tuple es x1 pos) (Ho ps) :=
 λG F Z H ρ Q S w=>sem (yR bC) (h G F Z H ρ _ _ _ S w λds vs F1 H1 s1 S1 hl r1 w1=>by
  refine⟨by rw[hl];exact iD hz,λq hq=>?_⟩
  obtain⟨s2,S2,r2⟩:=S1.newTup hq r1
  exact w1 _ _ s2 S2 _ r2)
theorem eI(h:AA X es pl)(hz:es.length<=1000:=by decide +kernel):AL X (.List es pos) (Ht pl) :=
 λG F Z H ρ Q S w=>sem (yU bC) (h G F Z H ρ _ _ _ S w λds vs F1 H1 s1 S1 hl r1 w1=>by
  refine⟨by rw[hl];exact iD hz,λq hq=>?_⟩
  obtain⟨S2,r2⟩:=S1.newLst hq r1
  exact w1 _ _ (Same.refl _) S2 _ r2)
theorem qf{r:List V->Hp->VK->Prop}{Q:VK}{G:Gh}{F H:Hp}{Z:L2.St}{ρ:En}{f:List D->M α}{C:α->Hp->Hp->Prop}(ha:AAo X es pα)(S:StOk X.K G F Z H ρ)(w:W X G F Z ρ (pα f ρ) C)
  (k:∀xs ds F' H',Same F F'->StOk X.K G F' Z H' ρ->ORs X.K F' H' xs ds->W X G F' Z ρ (f ds) C->r xs H' Q):tCB r (dB X es) Z H Q :=
 ha G F Z H ρ _ _ C S w λds xs F1 H1 s1 S1 hx w1=>k xs ds F1 H1 s1 S1 (hx.ors S1) w1
theorem aP{x:Str}{p:Pos}{id:String}{r:List V->Hp->VK->Prop}{f:List D->Option D}(hc:CallR X (.builtin id) r)(hf:gU X.K r f)(hm:X.mg x=none)(hv:bootBuiltins x=some (.builtin id))(ha:AAo X (e::es) ps)(hg:Gl X x:=by rfl)
  (hn:x ≠ "__name__":=by decide) (hdb:(x==("__debug__" : Str))=false:=by decide) (he:starEach (e::es) X.env=(false,eval e X.env)::starEach es X.env:=by rfl) (hpl:(backTo pos (starEach es X.env)).any (·.1)=false:=by rfl):AP X (.Call (.Name x p) (e::es) [] pos) (CH f ps) :=
 λG F Z H ρ Q S w=>sem (iQ hc hg hm hv bC hn hdb he hpl) (qf ha S w λxs ds F' H' s' S' hx w'=>by
  obtain⟨res,e,k⟩:=w'.opt
  exact hf G F' Z H' ρ xs ds res Q S' hx e λv F2 H2 s2 S2 r2=>k F2 H2 s2 S2 v r2)
theorem An{x:Str}{p:Pos}{id:String}{r:List V->Hp->VK->Prop}{f:List D->Option Bool}(hc:CallR X (.builtin id) r)(hf:uM X.K r f)(hg:Gl X x)(hm:X.mg x=none)(hv:bootBuiltins x=some (.builtin id))(ha:AAo X (e::es) pb')
  (hn:x ≠ "__name__":=by decide) (hdb:(x==("__debug__" : Str))=false:=by decide) (he:starEach (e::es) X.env=(false,eval e X.env)::starEach es X.env:=by rfl) (hpl:(backTo pos (starEach es X.env)).any (·.1)=false:=by rfl):AB X (.Call (.Name x p) (e::es) [] pos) (DJ f pb') :=
 λG F Z H ρ Q S w=>sem (iQ hc hg hm hv bC hn hdb he hpl) (qf ha S w λxs ds F' H' s' S' hx w'=>by
  obtain⟨res,e,k⟩:=w'.opt
  exact hf G F' Z H' ρ xs ds res Q S' hx e (k F' H' (Same.refl _) S'))
theorem bL{x:Str}{p:Pos}{T:String}{r:List V->Hp->VK->Prop}{f:List D->Option D}(hc:CallR X (.type T) r)(hf:gU X.K r f)(hm:X.mg x=none)(hv:bootBuiltins x=some (.type T))(ha:AAo X (e::es) ps)(hg:Gl X x:=by rfl)
  (hn:x ≠ "__name__":=by decide) (hdb:(x==("__debug__" : Str))=false:=by decide) (he:starEach (e::es) X.env=(false,eval e X.env)::starEach es X.env:=by rfl) (hpl:(backTo pos (starEach es X.env)).any (·.1)=false:=by rfl):AP X (.Call (.Name x p) (e::es) [] pos) (CH f ps) :=
 λG F Z H ρ Q S w=>sem (jF hc hg hm hv bC hn hdb he hpl) (qf ha S w λxs ds F' H' s' S' hx w'=>by
  obtain⟨res,e,k⟩:=w'.opt
  exact hf G F' Z H' ρ xs ds res Q S' hx e λv F2 H2 s2 S2 r2=>k F2 H2 s2 S2 v r2)
theorem js{K:Fg}{F:Hp}{vs:List V}{ds:List D}(h:RepL K F vs ds):(!vs.isEmpty) = !ds.isEmpty:=by cases h<;>rfl
theorem z8(ha:AO X a pa)(he:∀whole,isTrue a X.env whole=(do let v <-whole;standAt a.pos;holding [v] (truthy v))):AT X a (Hq pa) :=
 λG F Z H ρ Q S w=>mR (lw aH he) (ha G F Z H ρ _ S (w.bind.imp λx F1 H1 s1 S1 w1 v hv=>by
  obtain⟨bb,hb,k⟩:=w1.opt
  refine⟨bb,?_,k F1 H1 (Same.refl _) S1⟩
  have o:=hv.or S1
  cases x with
  | none=>rw[o.none];cases hb;exact rfl
  | bool i=>rw[o.bool];cases hb;exact rfl
  | int i=>rw[o.int];cases hb;exact rfl
  | str i =>
   rw[o.str]
   unfold wm at hb
   dsimp only at hb
   split at hb
   ·rename_i hl;cases hb;exact⟨hl,rfl⟩
   ·cases hb
  | list ds=>obtain⟨a,vs,rfl,h1,h2⟩:=o.list S1.fh;cases hb;exact .inl ⟨vs,h1,(js h2).symm⟩
  | tuple ds=>obtain⟨a,vs,rfl,h1,h2⟩:=o.tuple S1.fh;cases hb;exact .inr (.inl ⟨vs,h1,(js h2).symm⟩)
  | dict ds=>cases hb))
theorem HV(ha:AB X a ta)(he:∀whole,isTrue a X.env whole=(do let v <-whole;standAt a.pos;holding [v] (truthy v))):AT X a ta :=
 λG F Z H ρ Q S w=>mR (lw aH he) (ha G F Z H ρ _ S (w.imp λx F1 H1 s1 S1 w1=>⟨x,rfl,w1⟩))
theorem BS(ha:AT X a ta):AW X (.BoolOp .And [a] pos) ta:=λG F Z H ρ Q S w=>wz (uW cZ) (ha G F Z H ρ Q S w)
theorem uB(ha:AT X a ta):AW X (.BoolOp .Or [a] pos) ta:=λG F Z H ρ Q S w=>wz (Dt cZ) (ha G F Z H ρ Q S w)
theorem Eu(ha:AT X a ta)(hb:AW X (.BoolOp .And (b::rest) pos) tb):AW X (.BoolOp .And (a::b::rest) pos) (Hy ta tb) :=
 λG F Z H ρ Q S w=>wz (yI cZ lq) (ha G F Z H ρ _ S (w.bind.imp λt F1 H1 s1 S1 w1=>by
  cases t with
  | true=>refine pR ?_;exact hb G F1 Z H1 ρ Q S1 w1
  | false=>refine rL ?_;exact w1 F1 H1 (Same.refl _) S1))
theorem sI(ha:AT X a ta)(hb:AW X (.BoolOp .Or (b::rest) pos) tb):AW X (.BoolOp .Or (a::b::rest) pos) (pOr ta tb) :=
 λG F Z H ρ Q S w=>wz (FD cZ lq) (ha G F Z H ρ _ S (w.bind.imp λt F1 H1 s1 S1 w1=>by
  cases t with
  | true=>refine pR ?_;exact w1 F1 H1 (Same.refl _) S1
  | false=>refine rL ?_;exact hb G F1 Z H1 ρ Q S1 w1))
theorem vX(h:AW X e ta):AT X e ta:=λG F Z H ρ Q S w=>mR (λpins s Z H Q I h=>lq _ pins s Z H Q I h) (h G F Z H ρ Q S w)
theorem uC(ha:AT X a ta):AT X (.UnaryOp .Not a pos) (Hr ta) :=
 λG F Z H ρ Q S w=>mR (yJ cZ) (ha G F Z H ρ _ S (w.bind.imp λt F1 H1 s1 S1 w1=>w1 F1 H1 (Same.refl _) S1))
theorem v5(hc:AT X c tc)(ha:AP X a pa)(hb:AP X b pb):AP X (.IfExp c a b pos) (pIf tc pa pb) :=
 λG F Z H ρ Q S w=>sem (qV cZ aH aH) (hc G F Z H ρ _ S (w.bind.imp λt F1 H1 s1 S1 w1=>by
  cases t with
  | true=>refine pR ?_;exact ha G F1 Z H1 ρ Q S1 w1
  | false=>refine rL ?_;exact hb G F1 Z H1 ρ Q S1 w1))
end
def vq(i j:Int):Bool:=(decide (-(2^64)<i)&&decide (i<2^64))||(decide (-(2^64)<j)&&decide (j<2^64))
def aT:D->D->Option D
 | .int i,.int j=>some (.int (i+j))
 | .str a,.str b=>if a.length+b.length<=sizeLine then some (.str (a++b))else none
 | .tuple a,.tuple b=>if a.length+b.length<=sizeLine then some (.tuple (a++b))else none
 | .list a,.list b=>if a.length+b.length<=sizeLine then some (.list (a++b))else none
 | _,_=>none
def o7:D->D->Option (List D)
 | .list a,.list b=>if a.length+b.length<=sizeLine then some (a++b)else none
 | _,_=>none
def iS:D->D->Option D
 | .int i,.int j=>some (.int (i - j))
 | _,_=>none
def e6:D->D->Option D
 | .int i,.int j=>if vq i j then some (.int (i*j))else none
 | _,_=>none
def q8:D->D->Option D
 | .int i,.int j=>if decide (0<j)&&decide (j<1073741824)then some (.int (i / j))else none
 | _,_=>none
def gC:D->D->Option D
 | .int i,.int j=>if 0<j then some (.int (i % j))else none
 | _,_=>none
def qY:D->D->Option D
 | .int i,.int j=>if decide (0<=j)&&decide (j<=1000000)&&decide (i.natAbs<2^64)then some (.int (i^j.toNat))else none
 | _,_=>none
def yZ:D->Option D
 | .int i=>some (.int (-i))
 | _=>none
def y1:D->D->Option Bool
 | .int i,.int j=>some (decide (i<j))
 | _,_=>none
def FT:D->D->Option Bool
 | .int i,.int j=>some (decide (i<=j))
 | _,_=>none
def y2:D->D->Option Bool
 | .int i,.int j=>some (decide (j<i))
 | _,_=>none
def wU:D->D->Option Bool
 | .int i,.int j=>some (decide (j<=i))
 | _,_=>none
def Cz(K:Fg):R2:=λx y H Q=>∃a b xs ys,x=.ref a/\y=.ref b/\SqT K H a xs/\SqT K H b ys/\xs.length+ys.length<=sizeLine /\
 (xs=[]->Q (.ref b) H)/\(xs≠[]->ys=[]->Q (.ref a) H)/\(xs≠[]->ys≠[]->∀p,H p=none->Q (.ref p) (upd H p (.tup (xs++ys))))
theorem op_cat0{X:Cx}:OpR X (binaryOp .Add) (Cz X.K):=by
 intro pins s Z H x y v u Q I rx ry h
 obtain⟨a,b,xs,ys,rfl,rfl,ha,hb,hz,q0,q1,q2⟩:=h
 by_cases hx:xs=[]
 ·cases rx
  cases ry
  obtain⟨its,r1,p1,_⟩:=I.tuple ha
  obtain⟨its2,r2,p2,_⟩:=I.tuple hb
  have hv:its=[]:=r1.nil_iff.mpr hx
  obtain⟨⟨cls,dd,data,sl⟩,ho,hc,n,hd⟩:=id p1
  obtain⟨⟨cls2,dd2,data2,sl2⟩,ho2,hc2,n2,hd2⟩:=id p2
  simp only at hc hd hc2 hd2
  subst hc hd hc2 hd2
  exact concat_meets ⟨_,ho,rfl⟩ ⟨_,ho2,rfl⟩ noFill_tuple_add seq_tuple_add PySem.F.slot_tuple_add PySem.F.entry_tuple_add (PySem.F.args_tuple_add_2 _ _)
   (tuple_addW0 a b its.toArray its2.toArray n n2 dd dd2 sl sl2 (by simp[hv])) ⟨ho,ho2,⟨.ref b,H,I,rfl,q0 hx⟩⟩
 ·exact Bc pins s Z H _ _ v u Q I rx ry ⟨a,b,xs,ys,rfl,rfl,ha,hb,hx,hz,q1 hx,q2 hx⟩
section
variable {K:Fg}{X:Cx}
theorem noS{α:Type}{a:α}{P:Prop}(e:(none:Option α)=some a):P:=nomatch e
theorem okI{C:Int->Int->Prop}{g:Int->Int->V}{f:D->D->Option D}(h:∀dx dy res,f dx dy=some res->∃i j,dx=.int i/\dy=.int j/\C i j/\∀K F,Rep K F (g i j) res):OpD K (rI C g) f:=by
 intro G F Z H ρ x y dx dy res Q S ox oy e k
 obtain⟨i,j,rfl,rfl,hc,hr⟩:=h dx dy res e
 exact⟨i,j,ox.int,oy.int,hc,k _ F H (Same.refl _) S (hr K F)⟩
theorem okB{g:Int->Int->Bool}{f:D->D->Option Bool}(h:∀dx dy res,f dx dy=some res->∃i j,dx=.int i/\dy=.int j/\res=g i j):OpB K (rI0 λi j=>.bl (g i j)) f:=by
 intro G F Z H ρ x y dx dy res Q S ox oy e k
 obtain⟨i,j,rfl,rfl,rfl⟩:=h dx dy res e
 exact⟨i,j,ox.int,oy.int,k⟩
theorem jH:OpD K (rI0 λi j=>.int (i - j)) iS:=by
 intro G F Z H ρ x y dx dy res Q S ox oy e k
 cases dx<;>first|exact noS e|(cases dy<;>first|exact noS e|cases e)
 exact⟨_,_,ox.int,oy.int,k _ F H (Same.refl _) S (.int _)⟩
theorem FV:OpB K (rI0 λi j=>.bl (decide (i<j))) y1:=okB λdx dy res e=>by
 cases dx<;>first|exact noS e|(cases dy<;>first|exact noS e|cases e)
 exact⟨_,_,rfl,rfl,rfl⟩
theorem FW:OpB K (rI0 λi j=>.bl (decide (i<=j))) FT:=okB λdx dy res e=>by
 cases dx<;>first|exact noS e|(cases dy<;>first|exact noS e|cases e)
 exact⟨_,_,rfl,rfl,rfl⟩
theorem y8:OpB K (rI0 λi j=>.bl (decide (j<i))) y2:=okB λdx dy res e=>by
 cases dx<;>first|exact noS e|(cases dy<;>first|exact noS e|cases e)
 exact⟨_,_,rfl,rfl,rfl⟩
theorem CL:OpB K (rI0 λi j=>.bl (decide (j<=i))) wU:=okB λdx dy res e=>by
 cases dx<;>first|exact noS e|(cases dy<;>first|exact noS e|cases e)
 exact⟨_,_,rfl,rfl,rfl⟩
theorem y9:OpD K (rI GY λi j=>.int (i / j)) q8:=okI λdx dy res e=>by
 cases dx<;>first|exact noS e|(cases dy<;>try (exact noS e))
 rename_i i j
 dsimp only[q8]at e
 split at e
 ·rename_i hc
  cases e
  simp only[Bool.and_eq_true,zzi]at hc
  exact⟨i,j,rfl,rfl,hc,λ_ _=>.int _⟩
 ·cases e
theorem iA:OpD K (rI (λ_ j=>0<j) λi j=>.int (i % j)) gC:=okI λdx dy res e=>by
 cases dx<;>first|exact noS e|(cases dy<;>try (exact noS e))
 rename_i i j
 dsimp only[gC]at e
 split at e
 ·rename_i hc
  cases e
  exact⟨i,j,rfl,rfl,hc,λ_ _=>.int _⟩
 ·cases e
theorem DS:OpD K (rI GX λi j=>.int (i^j.toNat)) qY:=okI λdx dy res e=>by
 cases dx<;>first|exact noS e|(cases dy<;>try (exact noS e))
 rename_i i j
 dsimp only[qY]at e
 split at e
 ·rename_i hc
  cases e
  simp only[Bool.and_eq_true,zzi]at hc
  exact⟨i,j,rfl,rfl,⟨hc.1.1,hc.1.2,hc.2⟩,λ_ _=>.int _⟩
 ·cases e
theorem DU:UnD K (rU λi=>.int (-i)) yZ:=by
 intro G F Z H ρ x dx res Q S ox e k
 cases dx<;>cases e
 exact⟨_,ox.int,k _ F H (Same.refl _) S (.int _)⟩
theorem iP{F:Hp}{vs:List V}{ds:List D}(r:RepL K F vs ds):vs=[]↔ds=[]:=by cases r<;>simp
def yG(K:Fg):R2:=λx y H Q=>∃l b xs zs,x=.ref l/\y=.ref b/\SqL K H l xs/\SqL K H b zs/\xs.length+zs.length<=sizeLine/\∀p,H p=none->Q (.ref p) (upd H p (.lst (xs++zs)))
theorem vg:OpR X (binaryOp .Add) (yG X.K):=by
 intro pins s Z H x y v u Q I rx ry h
 obtain⟨l,b,xs,zs,rfl,rfl,hH,hB,hz,q⟩:=h
 cases rx
 cases ry
 obtain⟨its,r,pl,_⟩:=I.list hH
 obtain⟨its2,r2,pl2,_⟩:=I.list hB
 obtain⟨⟨cls,dd,data,sl⟩,ho,hc,n,hd⟩:=id pl.isList
 obtain⟨⟨cls2,dd2,data2,sl2⟩,ho2,hc2,n2,hd2⟩:=id pl2.isList
 simp only at hc hd hc2 hd2
 subst hc hd hc2 hd2
 have e:its.toArray++its2.toArray=(its++its2).toArray:=by simp
 refine concat_meets ⟨_,ho,rfl⟩ ⟨_,ho2,rfl⟩ noFill_list_add seq_list_add PySem.F.slot_list_add PySem.F.entry_list_add (PySem.F.args_list_add_2 _ _) (list_addW l b its.toArray its2.toArray n n2 dd dd2 sl sl2 (by rw[List.size_toArray,List.size_toArray,<-r.length,<-r2.length];exact hz)) ⟨ho,ho2,?_⟩
 rw[e]
 exact⟨.ref _,_,I.laid (t':=s.toks) (o:=.lst (xs++zs)) (λb ob q=>zzc _ q) (Nat.le_refl _) ⟨by rw[zzf];exact hz,_,0,r.append r2,zze _ rfl⟩,rfl,q _ (I.hok.fresh (Nat.le_refl _))⟩
theorem Bg:OpL K (yG K) o7:=by
 intro G F Z H ρ x y dx dy res Q S ox oy e k
 cases dx<;>first|exact noS e|(cases dy<;>try (exact noS e))
 dsimp only[o7]at e
 split at e
 ·rename_i hz
  cases e
  obtain⟨a,vs,rfl,h1,h2⟩:=ox.list S.fh
  obtain⟨b,us,rfl,g1,g2⟩:=oy.list S.fh
  refine⟨a,b,vs,us,rfl,rfl,h1,g1,by rw[h2.length,g2.length];exact hz,λp hp=>?_⟩
  obtain⟨S2,r2⟩:=S.newLst hp (h2.append g2)
  exact k _ F _ (Same.refl _) S2 r2
 ·cases e
def Fk:R2:=λx y H Q=>∃i j,x=.str i/\y=.str j/\i.length+j.length<=sizeLine/\Q (.str (i++j)) H
def CA(K:Fg):R2:=λx y H Q=>rI0 (λi j=>.int (i+j)) x y H Q\/(Fk x y H Q\/(Cz K x y H Q\/yG K x y H Q))
theorem bc:OpR X (binaryOp .Add) (CA X.K):=op_add.or (OpR.or tU (op_cat0.or vg))
theorem bO:OpD K (CA K) aT:=by
 intro G F Z H ρ x y dx dy res Q S ox oy e k
 cases dx<;>first|exact noS e|(cases dy<;>try (exact noS e))
 ·cases e;exact .inl ⟨_,_,ox.int,oy.int,k _ F H (Same.refl _) S (.int _)⟩
 ·dsimp only[aT]at e
  split at e
  ·rename_i hz
   cases e
   exact .inr (.inl ⟨_,_,ox.str,oy.str,hz,k _ F H (Same.refl _) S (.str _)⟩)
  ·cases e
 ·dsimp only[aT]at e
  split at e
  ·rename_i hz
   cases e
   obtain⟨a,vs,rfl,h1,h2⟩:=ox.list S.fh
   obtain⟨b,us,rfl,g1,g2⟩:=oy.list S.fh
   refine .inr (.inr (.inr ⟨a,b,vs,us,rfl,rfl,h1,g1,by rw[h2.length,g2.length];exact hz,λp hp=>?_⟩))
   obtain⟨S2,r2⟩:=S.newLst hp (h2.append g2)
   obtain⟨F2,s3,S3,r3⟩:=S2.settle r2
   exact k _ F2 _ s3 S3 r3
  ·cases e
 ·dsimp only[aT]at e
  split at e
  ·rename_i hz
   cases e
   obtain⟨a,vs,rfl,h1,h2⟩:=ox.tuple S.fh
   obtain⟨b,us,rfl,g1,g2⟩:=oy.tuple S.fh
   refine .inr (.inr (.inl ⟨a,b,vs,us,rfl,rfl,h1,g1,by rw[h2.length,g2.length];exact hz,λz=>?_,λ_ z=>?_,λ_ _ p hp=>?_⟩))
   ·have z':=(iP h2).mp z
    subst z'
    exact k _ F H (Same.refl _) S oy.tup'
   ·have z':=(iP g2).mp z
    subst z'
    exact k _ F H (Same.refl _) S (by rw[List.append_nil];exact ox.tup')
   ·obtain⟨s2,S2,r2⟩:=S.newTup hp (h2.append g2)
    exact k _ _ _ s2 S2 r2
  ·cases e
theorem lI:OpD K (rI CMul λi j=>.int (i*j)) e6:=okI λdx dy res e=>by
 cases dx<;>first|exact noS e|(cases dy<;>try (exact noS e))
 rename_i i j
 dsimp only[e6]at e
 split at e
 ·rename_i hc
  cases e
  unfold vq at hc
  simp only[Bool.or_eq_true,Bool.and_eq_true,zzi]at hc
  exact⟨i,j,rfl,rfl,hc,λ_ _=>.int _⟩
 ·cases e
end
def rW(d e:D):Bool:=d.canLay0&&e.canLay0&&decide (d.depth<=1000)
def gg(d e:D):Option Bool:=if rW d e then some (PyData.eqv d e)else none
def dL(d e:D):Option Bool:=if rW d e then some (!PyData.eqv d e)else none
def gJ(d:D)(xs:List D):Bool:=PyData.canLayAll0 xs&&d.canLay0&&decide (d.depth<=1000)
def CT(i j:Str):Bool:=!(Builtin.Str.occurrences j i 0 j.length 1).isEmpty
def qZ(d c:D):Option Bool:=match c with
 | .list xs=>if gJ d xs then some (xs.any λy=>PyData.eqv y d)else none
 | .tuple xs=>if gJ d xs then some (xs.any λy=>PyData.eqv y d)else none
 | .str j=>match d with
  | .str i=>some (CT i j)
  | _=>none
 | _=>none
def fO(d c:D):Option Bool:=match c with
 | .list xs=>if gJ d xs then some (!xs.any λy=>PyData.eqv y d)else none
 | .tuple xs=>if gJ d xs then some (!xs.any λy=>PyData.eqv y d)else none
 | .str j=>match d with
  | .str i=>some (!CT i j)
  | _=>none
 | _=>none
def isNone:D->Bool
 | .none=>true
 | _=>false
def CK(d e:D):Option Bool:=match e with
 | .none=>some (isNone d)
 | _=>none
def rD2(K:Fg)(f:D->D->Option Bool):R2:=λx y H Q=>∃d e b,Rep K H x d/\Rep K H y e/\f d e=some b/\Q (.bl b) H
theorem d7{K:Fg}{f:D->D->Option Bool}:OpB K (rD2 K f) f:=by
 intro G F Z H ρ x y dx dy res Q S ox oy e k
 exact⟨dx,dy,res,ox.rep S.fh,oy.rep S.fh,e,k⟩
theorem Rep.non_iff{K:Fg}{F:Hp}{v:V}{d:D}(r:Rep K F v d):(decide (v=.non))=isNone d:=by
 cases r<;>rfl
section
variable {X:Cx}
theorem iy(hu:X.A.units+1100<cLine):OpR X (compareOp .Eq) (rD2 X.K gg):=by
 intro pins s Z H x y v u Q I rx ry ⟨d,e,b,r1,r2,ho,q⟩
 unfold gg at ho
 split at ho
 case isFalse=>cases ho
 rename_i hc
 cases ho
 simp only[rW,Bool.and_eq_true,zzi]at hc
 obtain⟨as,ra⟩:=(bp I).1 r1 hc.1.1 rx
 obtain⟨bs,rb⟩:=(bp I).1 r2 hc.1.2 ry
 exact SeqAt.compareEq_reads ra rb hc.1.1 hc.1.2 (by have:=Nat.min_le_left d.depth e.depth;lia) ⟨.bl _,H,I,rfl,q⟩
theorem lE(hu:X.A.units+1100<cLine):OpR X (compareOp .NotEq) (rD2 X.K dL):=by
 intro pins s Z H x y v u Q I rx ry ⟨d,e,b,r1,r2,ho,q⟩
 unfold dL at ho
 split at ho
 case isFalse=>cases ho
 rename_i hc
 cases ho
 simp only[rW,Bool.and_eq_true,zzi]at hc
 obtain⟨as,ra⟩:=(bp I).1 r1 hc.1.1 rx
 obtain⟨bs,rb⟩:=(bp I).1 r2 hc.1.2 ry
 exact SeqAt.compareNe_reads ra rb hc.1.1 hc.1.2 (by have:=Nat.min_le_left d.depth e.depth;lia) ⟨.bl _,H,I,rfl,q⟩
theorem DL(hu:X.A.units+1100<cLine):OpR X (compareOp .In) (rD2 X.K qZ):=by
 intro pins s Z H x y v u Q I rx ry ⟨d,e,b,r1,r2,ho,q⟩
 unfold qZ at ho
 split at ho
 ·rename_i xs
  split at ho
  case isFalse=>cases ho
  rename_i hc
  cases ho
  simp only[gJ,Bool.and_eq_true,zzi]at hc
  obtain⟨as,ra⟩:=(bp I).1 r1 hc.1.2 rx
  obtain⟨bs,rb⟩:=(bp I).1 r2 (by simpa[PyData.canLay0]using hc.1.1) ry
  exact SeqAt.in_list_reads rb ra hc.1.1 hc.1.2 (by have:=Nat.min_le_right (PyData.depthAll xs) d.depth;lia) ⟨.bl _,H,I,rfl,q⟩
 ·rename_i xs
  split at ho
  case isFalse=>cases ho
  rename_i hc
  cases ho
  simp only[gJ,Bool.and_eq_true,zzi]at hc
  obtain⟨as,ra⟩:=(bp I).1 r1 hc.1.2 rx
  obtain⟨bs,rb⟩:=(bp I).1 r2 (by simpa[PyData.canLay0]using hc.1.1) ry
  exact SeqAt.in_tuple_reads rb ra hc.1.1 hc.1.2 (by have:=Nat.min_le_right (PyData.depthAll xs) d.depth;lia) ⟨.bl _,H,I,rfl,q⟩
 ·split at ho
  ·cases ho
   obtain rfl:=r1.str_inv;obtain rfl:=r2.str_inv
   exact wR pins s Z H _ _ v u Q I rx ry ⟨_,_,rfl,rfl,q⟩
  ·cases ho
 ·cases ho
theorem wQ(hu:X.A.units+1100<cLine):OpR X (compareOp .NotIn) (rD2 X.K fO):=by
 intro pins s Z H x y v u Q I rx ry ⟨d,e,b,r1,r2,ho,q⟩
 unfold fO at ho
 split at ho
 ·rename_i xs
  split at ho
  case isFalse=>cases ho
  rename_i hc
  cases ho
  simp only[gJ,Bool.and_eq_true,zzi]at hc
  obtain⟨as,ra⟩:=(bp I).1 r1 hc.1.2 rx
  obtain⟨bs,rb⟩:=(bp I).1 r2 (by simpa[PyData.canLay0]using hc.1.1) ry
  exact SeqAt.notIn_list_reads rb ra hc.1.1 hc.1.2 (by have:=Nat.min_le_right (PyData.depthAll xs) d.depth;lia) ⟨.bl _,H,I,rfl,q⟩
 ·rename_i xs
  split at ho
  case isFalse=>cases ho
  rename_i hc
  cases ho
  simp only[gJ,Bool.and_eq_true,zzi]at hc
  obtain⟨as,ra⟩:=(bp I).1 r1 hc.1.2 rx
  obtain⟨bs,rb⟩:=(bp I).1 r2 (by simpa[PyData.canLay0]using hc.1.1) ry
  exact SeqAt.notIn_tuple_reads rb ra hc.1.1 hc.1.2 (by have:=Nat.min_le_right (PyData.depthAll xs) d.depth;lia) ⟨.bl _,H,I,rfl,q⟩
 ·split at ho
  ·cases ho
   obtain rfl:=r1.str_inv;obtain rfl:=r2.str_inv
   exact oY pins s Z H _ _ v u Q I rx ry ⟨_,_,rfl,rfl,q⟩
  ·cases ho
 ·cases ho
theorem A9:OpR X (compareOp .Is) (rD2 X.K CK):=by
 intro pins s Z H x y v u Q I rx ry ⟨d,e,b,r1,r2,ho,q⟩
 unfold CK at ho
 split at ho
 ·cases ho
  cases r2
  refine DP pins s Z H x _ v u Q I rx ry ⟨rfl,?_⟩
  rw[Rep.non_iff r1]
  exact q
 ·cases ho
end
def gf:D->D->Option D
 | .list ds,.int i=>atI ds i
 | .tuple ds,.int i=>atI ds i
 | .str z,.int i=>if z.length<=sizeLine then(atI z.cps.toList i).map λc=>.str ⟨#[c]⟩else none
 | _,_=>none
theorem vY{K:Fg}{F:Hp}{vs:List V}{ds:List D}{i:Int}{d:D}(r:RepL K F vs ds)(h:atI ds i=some d):∃v,atI vs i=some v/\Rep K F v d:=by
 unfold atI at h ⊢
 rw[r.length]
 cases q:ixN ds.length i with
 | none=>rw[q]at h;cases h
 | some j =>
  rw[q]at h
  exact r.get (i:=j) h
theorem FY{K:Fg}:OpD K (rIx K) gf:=by
 intro G F Z H ρ x y dx dy res Q S ox oy e k
 cases dx<;>first|exact noS e|(cases dy<;>try (exact noS e))
 ·dsimp only[gf]at e
  split at e
  ·rename_i hz
   obtain⟨c,hc,rfl⟩:=Option.map_eq_some_iff.mp e
   exact .inr (.inr ⟨_,_,c,ox.str,oy.int,hz,hc,k _ F H (Same.refl _) S (.str _)⟩)
  ·cases e
 ·obtain⟨a,vs,rfl,h1,h2⟩:=ox.list S.fh
  obtain⟨v,e1,e2⟩:=vY h2 e
  exact .inl ⟨a,vs,_,v,rfl,oy.int,h1,e1,k v F H (Same.refl _) S e2⟩
 ·obtain⟨a,vs,rfl,h1,h2⟩:=ox.tuple S.fh
  obtain⟨v,e1,e2⟩:=vY h2 e
  exact .inr (.inl ⟨a,vs,_,v,rfl,oy.int,h1,e1,k v F H (Same.refl _) S e2⟩)
theorem Vals.one{v:V}{us:List Value}(h:Vals [v] us):∃u,us=[u]/\RelV v u:=by
 cases h with|cons a b=>cases b;exact⟨_,rfl,a⟩
def g9:List D->Option D
 | [.list ds]=>some (.int ds.length)
 | [.tuple ds]=>some (.int ds.length)
 | [.str z]=>if z.length<=sizeLine then some (.int z.length)else none
 | _=>none
def cB:List D->Option D
 | [.list ds]=>some (.tuple ds)
 | [.tuple ds]=>some (.tuple ds)
 | _=>none
def uh:List D->Option D
 | [.int i]=>some (.int (if i<0 then -i else i))
 | _=>none
def rS:List D->Option D
 | [.int i,.int j]=>some (.int (if j<i then j else i))
 | _=>none
def Fs(K:Fg):List V->Hp->VK->Prop:=λxs H Q=>(∃p ys,xs=[.ref p]/\(SqL K H p ys\/SqT K H p ys)/\Q (.int ys.length) H)\/∃z,xs=[.str z]/\z.length<=sizeLine/\Q (.int z.length) H
theorem bJ{X:Cx}:CallR X (.builtin "len") (Fs X.K):=CallR.or qe qc
theorem d6{K:Fg}:gU K (Fs K) g9:=by
 intro G F Z H ρ xs ds res Q S o e k
 unfold g9 at e
 split at e
 ·rename_i es
  cases e
  obtain⟨v,r,rfl,ho,hr⟩:=aV o
  obtain rfl:=bG hr
  obtain⟨a,vs,rfl,h1,h2⟩:=ho.list S.fh
  exact .inl ⟨a,vs,rfl,.inl h1,k _ F H (Same.refl _) S (by rw[h2.length];exact .int _)⟩
 ·rename_i es
  cases e
  obtain⟨v,r,rfl,ho,hr⟩:=aV o
  obtain rfl:=bG hr
  obtain⟨a,vs,rfl,h1,h2⟩:=ho.tuple S.fh
  exact .inl ⟨a,vs,rfl,.inr h1,k _ F H (Same.refl _) S (by rw[h2.length];exact .int _)⟩
 ·split at e
  ·rename_i hz
   cases e
   obtain⟨v,r,rfl,ho,hr⟩:=aV o
   obtain rfl:=bG hr
   exact .inr ⟨_,by rw[ho.str],hz,k _ F H (Same.refl _) S (.int _)⟩
  ·cases e
 ·cases e
theorem cq{K:Fg}:gU K (λxs H Q=>∃p ys,xs=[.ref p]/\((SqL K H p ys/\∀l,H l=none->Q (.ref l) (upd H l (.tup ys)))\/(SqT K H p ys/\Q (.ref p) H))) cB:=by
 intro G F Z H ρ xs ds res Q S o e k
 unfold cB at e
 split at e
 ·rename_i es
  cases e
  obtain⟨v,r,rfl,ho,hr⟩:=aV o
  obtain rfl:=bG hr
  obtain⟨a,vs,rfl,h1,h2⟩:=ho.list S.fh
  refine⟨a,vs,rfl,.inl ⟨h1,λl hl=>?_⟩⟩
  obtain⟨s2,S2,r2⟩:=S.newTup hl h2
  exact k _ _ _ s2 S2 r2
 ·rename_i es
  cases e
  obtain⟨v,r,rfl,ho,hr⟩:=aV o
  obtain rfl:=bG hr
  have ho:=ho.tup'
  cases ho with
  | tup h1 h2=>exact⟨_,_,rfl,.inr ⟨SqT.of (S.fh _ _ h1),k _ F H (Same.refl _) S (show Rep K F _ _ from .tup h1 h2)⟩⟩
 ·cases e
theorem zb{K:Fg}:gU K (λxs H Q=>∃i,xs=[.int i]/\Q (.int (if i<0 then -i else i)) H) uh:=by
 intro G F Z H ρ xs ds res Q S o e k
 unfold uh at e
 split at e
 ·cases e
  obtain⟨v,r,rfl,ho,hr⟩:=aV o
  obtain rfl:=bG hr
  exact⟨_,by rw[ho.int],k _ F H (Same.refl _) S (show Rep K F _ _ from .int _)⟩
 ·cases e
theorem Bf{K:Fg}:gU K (λxs H Q=>∃i j,xs=[.int i,.int j]/\Q (.int (if j<i then j else i)) H) rS:=by
 intro G F Z H ρ xs ds res Q S o e k
 unfold rS at e
 split at e
 ·cases e
  obtain⟨v,r,rfl,ho,hr⟩:=aV o
  obtain⟨v2,r2,rfl,ho2,hr2⟩:=aV hr
  obtain rfl:=bG hr2
  exact⟨_,_,by rw[ho.int,ho2.int],k _ F H (Same.refl _) S (show Rep K F _ _ from .int _)⟩
 ·cases e
def iu(d:D):Bool:=d.showable&&d.canLay0&&decide (d.depth<=1000)&&decide (d.shown.length<=sizeLine)
def bw:List D->Option D
 | [d]=>if iu d then some (.str d.shown)else none
 | _=>none
def Cv(K:Fg):List V->Hp->VK->Prop:=λxs H Q=>∃v d,xs=[v]/\Rep K H v d/\iu d=true/\Q (.str d.shown) H
theorem eM{K:Fg}:gU K (Cv K) bw:=by
 intro G F Z H ρ xs ds res Q S o e k
 unfold bw at e
 split at e
 ·rename_i d
  split at e
  ·rename_i hc
   cases e
   obtain⟨v,r,rfl,ho,hr⟩:=aV o
   obtain rfl:=bG hr
   exact⟨v,d,rfl,ho.rep S.fh,hc,k _ F H (Same.refl _) S (.str _)⟩
  ·cases e
 ·cases e
theorem cD{X:Cx}(hu:X.A.units+1100<cLine)(hg:X.A.guards=some []):CallR X (.builtin "repr") (Cv X.K):=by
 intro pins s Z H xs us Q I r h0
 obtain⟨v,d,rfl,rp,hc,q⟩:=h0
 obtain⟨u,rfl,ru⟩:=Vals.one r
 simp only[iu,Bool.and_eq_true,zzi]at hc
 obtain⟨as,ra⟩:=(bp I).1 rp hc.1.1.2 ru
 have big:∀a,v=.ref a->wpAny (model X.prog X.w) X.A (call (.builtin "repr") [u]) (EP X pins Z Q) X.xe s:=λa e=>by
  subst e
  cases ru
  exact repr_of_reads' ra hc.1.1.1 (PyData.noDict_hsm (PyData.hasDict_of_canLay d hc.1.1.2)) hg (by lia) (λ_ _ e=>e) (λh' u tk hk=>⟨.str _,H,I.kept hk,⟨_,rfl⟩,q⟩) hc.2
 cases rp with
 | non=>cases ru;exact PySem.P.repr_of_none ⟨.str _,H,I.tok _,⟨_,rfl⟩,q⟩
 | bl b=>cases ru;exact PySem.P.repr_of_bool ⟨.str _,H,I.tok _,⟨_,rfl⟩,q⟩
 | int i=>obtain⟨t,rfl⟩:=ru;exact PySem.P.repr_of_int (by simpa[PyData.showable]using hc.1.1.1) ⟨.str _,H,I.tok _,⟨_,rfl⟩,q⟩
 | str x=>obtain⟨t,rfl⟩:=ru;exact PySem.P.repr_of_str ⟨.str _,H,I.tok _,⟨_,rfl⟩,q⟩ hc.2
 | tup h1 h2=>exact big _ rfl
 | lst h1 h2=>exact big _ rfl
 | dct h1 h2 h3=>exact big _ rfl
 | dck h1 h2 h3=>exact big _ rfl
 | exc _ _ _ _ _=>exact big _ rfl
 | fn _=>exact big _ rfl
def intsOf:List D->Option (List Int)
 | []=>some []
 | .int i::r=>match intsOf r with
  | some l=>some (i::l)
  | none=>none
 | _=>none
theorem dS:∀{ds:List D} {ns:List Int},intsOf ds=some ns->ds=ns.map PyData.int
 | [],ns,h=>by cases h;rfl
 | .int i::r,ns,h=>by
  dsimp only[intsOf]at h
  split at h
  ·rename_i l e;cases h;rw[dS e];rfl
  ·cases h
 | .none::_,_,h=>by cases h
 | .bool _::_,_,h=>by cases h
 | .str _::_,_,h=>by cases h
 | .list _::_,_,h=>by cases h
 | .tuple _::_,_,h=>by cases h
 | .dict _::_,_,h=>by cases h
theorem iE(ns:List Int):intsOf (ns.map PyData.int)=some ns:=by
 induction ns with
 | nil=>rfl
 | cons n r ih=>simp[intsOf,ih]
theorem fk{K:Fg}{F:Hp}:∀{vs:List V} {ns:List Int},RepL K F vs (ns.map PyData.int)->vs=ns.map V.int
 | _,[],h=>by cases h;rfl
 | _,n::r,h=>by
  cases h with
  | cons a b=>cases a;rw[fk b];rfl
section
variable {K:Fg}{G:Gh}{F H:Hp}{Z:L2.St}{ρ ρ':En}
theorem _root_.L3.StOk.weak(S:StOk K G F Z H ρ)(hl:ρ'.length=ρ.length)(h:∀(i:Nat) (av:AV),ρ'[i]? = some (some av)->ρ[i]? = some (some av))(hp:∀(i:Nat) (c:OC),ρ[i]? = some (some (AV.op c))->ρ'[i]? = some (some (AV.op c))):StOk K G F Z H ρ':=by
 have ow':∀j c,own ρ' j c->own ρ j c:=λj c q=>q.imp (h _ _) (h _ _)
 refine⟨S.fh,S.oh,S.fo,S.ln.trans hl.symm,λj d q=>S.fz j d (h _ _ q),λj c q=>S.ow j c (ow' j c q),λj k c e a h1 h2=>S.dj j k c e a (ow' j c h1) (ow' k e h2),λj a q=>?_,λj c q=>S.pq j c (h _ _ q),S.fb⟩
 obtain⟨q1,c,q2⟩:=S.pp j a q
 exact⟨q1,c,hp _ _ q2⟩
theorem fy{k:Nat}{i:Nat}{av:AV}(h:(ρ++List.replicate k none)[i]? = some (some av)):ρ[i]? = some (some av):=by
 by_cases hi:i<ρ.length
 ·rw[List.getElem?_append_left hi]at h;exact h
 ·rw[List.getElem?_append_right (Nat.not_lt.mp hi),List.getElem?_replicate]at h
  split at h<;>cases h
theorem _root_.L3.StOk.grow(S:StOk K G F Z H ρ)(k:Nat):StOk K G F (Z++List.replicate k none) H (ρ++List.replicate k none):=by
 have ap:∀{i:Nat} {v:V},Z[i]? = some (some v)->(Z++List.replicate k none)[i]? = some (some v):=λ{i v} e=>by
  rw[List.getElem?_append_left (List.getElem?_eq_some_iff.mp e).1];exact e
 have apr:∀{i:Nat} {v:AV},ρ[i]? = some (some v)->(ρ++List.replicate k none)[i]? = some (some v):=λ{i v} e=>by
  rw[List.getElem?_append_left (List.getElem?_eq_some_iff.mp e).1];exact e
 have ow':∀i c,own (ρ++List.replicate k none) i c->own ρ i c:=λi c h=>by
  rcases h with h|h
  ·exact .inl (fy h)
  ·exact .inr (fy h)
 refine⟨S.fh,S.oh,S.fo,by simp[S.ln],λi d h=>?_,λi c h=>?_,λi j c e a h1 h2 e1 e2=>?_,λi a h=>?_,λi c h=>S.pq i c (fy h),S.fb⟩
 ·obtain⟨v,e,r⟩:=S.fz i d (fy h);exact⟨v,ap e,r⟩
 ·obtain⟨a,e,oa⟩:=S.ow i c (ow' i c h);exact⟨a,ap e,oa⟩
 ·have o1:=ow' i c h1
  have o2:=ow' j e h2
  obtain⟨a1,q1,_⟩:=S.ow i c o1
  obtain⟨a2,q2,_⟩:=S.ow j e o2
  rw[ap q1]at e1;rw[ap q2]at e2
  injection e1 with e1;injection e2 with e2
  exact S.dj i j c e a o1 o2 (by rw[q1,e1]) (by rw[q2,e2])
 ·obtain⟨e,c,q⟩:=S.pp i a h;exact⟨ap e,c,apr q⟩
theorem _root_.L3.StOk.shrink(S:StOk K G F Z H ρ){n:Nat}(hn:n<=ρ.length)(hp:∀i a,G.P i=some a->i<n):StOk K G F (Z.take n) H (ρ.take n):=by
 have tk:∀{i:Nat} {v:AV},(ρ.take n)[i]? = some (some v)->i<n/\ρ[i]? = some (some v):=λ{i v} e=>by
  have hi:i<n:=by
   have:=(List.getElem?_eq_some_iff.mp e).1
   rw[List.length_take]at this;lia
  rw[List.getElem?_take_of_lt hi]at e
  exact⟨hi,e⟩
 have ow':∀i c,own (ρ.take n) i c->i<n/\own ρ i c:=λi c h=>by
  rcases h with h|h
  ·exact⟨(tk h).1,.inl (tk h).2⟩
  ·exact⟨(tk h).1,.inr (tk h).2⟩
 refine⟨S.fh,S.oh,S.fo,by simp[S.ln],λi d h=>?_,λi c h=>?_,λi j c e a h1 h2 e1 e2=>?_,λi a h=>?_,λi c h=>S.pq i c (tk h).2,S.fb⟩
 ·obtain⟨v,e,r⟩:=S.fz i d (tk h).2;exact⟨v,by rw[List.getElem?_take_of_lt (tk h).1];exact e,r⟩
 ·obtain⟨a,e,oa⟩:=S.ow i c (ow' i c h).2;exact⟨a,by rw[List.getElem?_take_of_lt (ow' i c h).1];exact e,oa⟩
 ·rw[List.getElem?_take_of_lt (ow' i c h1).1]at e1
  rw[List.getElem?_take_of_lt (ow' j e h2).1]at e2
  exact S.dj i j c e a (ow' i c h1).2 (ow' j e h2).2 e1 e2
 ·obtain⟨e,c,q⟩:=S.pp i a h
  exact⟨by rw[List.getElem?_take_of_lt (hp i a h)];exact e,c,by rw[List.getElem?_take_of_lt (hp i a h)];exact q⟩
end
theorem kR{α:Type}{l l':List α}{n:Nat}(h:∀j,j<n->l'[j]? = l[j]?)(hl:l.length=n):l'.take n=l:=by
 apply List.ext_getElem?
 intro i
 by_cases hi:i<n
 ·rw[List.getElem?_take_of_lt hi,h i hi]
 ·rw[List.getElem?_eq_none_iff.mpr (by rw[List.length_take];lia),List.getElem?_eq_none_iff.mpr (by lia)]
inductive Kd where
 | dead|f|o|p|t|k
 | i (x:Str) (ns:List Str)|j (x:Str) (ns:List Str)
@[reducible] def SOf:List Kd->Type
 | []=>Unit
 | .dead::r=>SOf r
 | .f::r=>D×SOf r
 | .o::r=>List D×SOf r
 | .p::r=>List D×SOf r
 | .t::r=>List (D×D)×SOf r
 | .k::r=>List (D×D)×SOf r
 | .i _ _::r=>List D×SOf r
 | .j _ _::r=>List D×SOf r
def rd:(sh:List Kd)->En->Option (SOf sh)
 | [],[]=>some ()
 | .dead::r,x::ρ=>match x with
  | some (.op _)=>none
  | _=>rd r ρ
 | .f::r,x::ρ=>match x with
  | some (.fz d)=>match rd r ρ with
   | some s=>some (d,s)
   | none=>none
  | _=>none
 | .o::r,x::ρ=>match x with
  | some (.ol (.l ds))=>match rd r ρ with
   | some s=>some (ds,s)
   | none=>none
  | _=>none
 | .p::r,x::ρ=>match x with
  | some (.op (.l ds))=>match rd r ρ with
   | some s=>some (ds,s)
   | none=>none
  | _=>none
 | .t::r,x::ρ=>match x with
  | some (.ol (.t ds))=>match rd r ρ with
   | some s=>some (ds,s)
   | none=>none
  | _=>none
 | .k::r,x::ρ=>match x with
  | some (.ol (.k ds))=>match rd r ρ with
   | some s=>some (ds,s)
   | none=>none
  | _=>none
 | .i y ns::r,x::ρ=>match x with
  | some (.ol (.i z ms ds))=>if z=y/\ms=ns then(match rd r ρ with
   | some s=>some (ds,s)
   | none=>none)else none
  | _=>none
 | .j y ns::r,x::ρ=>match x with
  | some (.op (.i z ms ds))=>if z=y/\ms=ns then(match rd r ρ with
   | some s=>some (ds,s)
   | none=>none)else none
  | _=>none
 | _,_=>none
def wr:(sh:List Kd)->SOf sh->En
 | [],_=>[]
 | .dead::r,s=>none::wr r s
 | .f::r,s=>some (.fz s.1)::wr r s.2
 | .o::r,s=>some (.ol (.l s.1))::wr r s.2
 | .p::r,s=>some (.op (.l s.1))::wr r s.2
 | .t::r,s=>some (.ol (.t s.1))::wr r s.2
 | .k::r,s=>some (.ol (.k s.1))::wr r s.2
 | .i y ns::r,s=>some (.ol (.i y ns s.1))::wr r s.2
 | .j y ns::r,s=>some (.op (.i y ns s.1))::wr r s.2
def Wk(w ρ:En):Prop:=w.length=ρ.length/\(∀(i:Nat) (av:AV),w[i]? = some (some av)->ρ[i]? = some (some av))/\(∀(i:Nat) (c:OC),ρ[i]? = some (some (AV.op c))->w[i]? = some (some (AV.op c)))
theorem fB{w ρ:En}{x:Option AV}(h:Wk w ρ):Wk (x::w) (x::ρ):=by
 refine⟨congrArg (· + 1) h.1,λi av q=>?_,λi c q=>?_⟩
 ·cases i with
  | zero=>exact q
  | succ i=>exact h.2.1 i av q
 ·cases i with
  | zero=>exact q
  | succ i=>exact h.2.2 i c q
theorem As{w ρ:En}{x:Option AV}(hx:∀c,x≠some (AV.op c))(h:Wk w ρ):Wk (none::w) (x::ρ):=by
 refine⟨congrArg (· + 1) h.1,λi av q=>?_,λi c q=>?_⟩
 ·cases i with
  | zero=>cases q
  | succ i=>exact h.2.1 i av q
 ·cases i with
  | zero=>exact absurd (Option.some.inj q) (hx c)
  | succ i=>exact h.2.2 i c q
theorem hJ:∀(sh:List Kd) (ρ:En) (s:SOf sh),rd sh ρ=some s->Wk (wr sh s) ρ
 | [],[],s,h=>⟨rfl,λi av q=>q,λi c q=>q⟩
 | [],_::_,s,h=>by cases h
 | a::r,[],s,h=>by cases a<;>cases h
 | .dead::r,x::ρ,s,h=>by
  dsimp only[rd]at h
  split at h
  ·cases h
  ·rename_i hx
   exact As hx (hJ r ρ s h)
 | .f::r,x::ρ,s,h=>by
  dsimp only[rd]at h
  split at h
  ·split at h
   ·rename_i s' e
    cases h
    exact fB (hJ r ρ s' e)
   ·cases h
  ·cases h
 | .o::r,x::ρ,s,h=>by
  dsimp only[rd]at h
  split at h
  ·split at h
   ·rename_i s' e
    cases h
    exact fB (hJ r ρ s' e)
   ·cases h
  ·cases h
 | .p::r,x::ρ,s,h=>by
  dsimp only[rd]at h
  split at h
  ·split at h
   ·rename_i s' e
    cases h
    exact fB (hJ r ρ s' e)
   ·cases h
  ·cases h
 | .t::r,x::ρ,s,h=>by
  dsimp only[rd]at h
  split at h
  ·split at h
   ·rename_i s' e
    cases h
    exact fB (hJ r ρ s' e)
   ·cases h
  ·cases h
 | .k::r,x::ρ,s,h=>by
  dsimp only[rd]at h
  split at h
  ·split at h
   ·rename_i s' e
    cases h
    exact fB (hJ r ρ s' e)
   ·cases h
  ·cases h
 | .i y ns::r,x::ρ,s,h=>by
  dsimp only[rd]at h
  split at h
  ·split at h
   ·rename_i hc
    split at h
    ·rename_i s' e
     cases h
     obtain⟨rfl,rfl⟩:=hc
     exact fB (hJ r ρ s' e)
    ·cases h
   ·cases h
  ·cases h
 | .j y ns::r,x::ρ,s,h=>by
  dsimp only[rd]at h
  split at h
  ·split at h
   ·rename_i hc
    split at h
    ·rename_i s' e
     cases h
     obtain⟨rfl,rfl⟩:=hc
     exact fB (hJ r ρ s' e)
    ·cases h
   ·cases h
  ·cases h
theorem _root_.L3.StOk.rd{K:Fg}{G:Gh}{F H:Hp}{Z:L2.St}{ρ:En}{sh:List Kd}{s:SOf sh}(S:StOk K G F Z H ρ)(h:L4.rd sh ρ=some s):StOk K G F Z H (wr sh s):=by
 obtain⟨h1,h2,h3⟩:=hJ sh ρ s h
 exact S.weak h1 h2 h3
def rdk{S:Type}(sh:List Kd)(k:SOf sh->M S)(ρ:En):M S:=match rd sh ρ with
 | some s=>k s
 | none=>.bad
abbrev Ev(S α:Type):=(Ex->En->M S)->(α->En->M S)->En->M S
structure KS(S:Type) where
 nx:En->M S
 rt:D->En->M S
 rl:OC->En->M S
 bk:En->M S
 ct:En->M S
 x:Ex->En->M S
def KOk{S:Type}(OK:M S->Prop):Prop:=¬ OK .bad
def XL{S:Type}(X:Cx)(OK:M S->Prop)(x:Ex->En->M S)(G:Gh):Prop:=∀F ρ e,OK (x e ρ)->XW X G F ρ e
def AE{S:Type}(X:Cx)(e:Expr)(m:Ev S D):Prop :=
 ∀(OK:M S->Prop) (x:Ex->En->M S) (k:D->En->M S) (G:Gh) (F:Hp) (Z:L2.St) (H:Hp) (ρ:En) (Q:VK),KOk OK->XL X OK x G->StOk X.K G F Z H ρ->OK (m x k ρ) ->
  (∀d v F' H' ρ',Same F F'->StOk X.K G F' Z H' ρ'->Rep X.K F' v d->OK (k d ρ')->Q v H')->cW X e Z H Q
def AEt{S:Type}(X:Cx)(e:Expr)(m:Ev S Bool):Prop :=
 ∀(OK:M S->Prop) (x:Ex->En->M S) (k:Bool->En->M S) (G:Gh) (F:Hp) (Z:L2.St) (H:Hp) (ρ:En) (Q:Bool->Hp->Prop),KOk OK->XL X OK x G->StOk X.K G F Z H ρ->OK (m x k ρ) ->
  (∀d F' H' ρ',Same F F'->StOk X.K G F' Z H' ρ'->OK (k d ρ')->Q d H')->nv X e Z H Q
def AEw{S:Type}(X:Cx)(e:Expr)(m:Ev S Bool):Prop :=
 ∀(OK:M S->Prop) (x:Ex->En->M S) (k:Bool->En->M S) (G:Gh) (F:Hp) (Z:L2.St) (H:Hp) (ρ:En) (Q:Bool->Hp->Prop),KOk OK->XL X OK x G->StOk X.K G F Z H ρ->OK (m x k ρ) ->
  (∀d F' H' ρ',Same F F'->StOk X.K G F' Z H' ρ'->OK (k d ρ')->Q d H')->nr X e Z H Q
def AEb{S:Type}(X:Cx)(e:Expr)(m:Ev S Bool):Prop :=
 ∀(OK:M S->Prop) (x:Ex->En->M S) (k:Bool->En->M S) (G:Gh) (F:Hp) (Z:L2.St) (H:Hp) (ρ:En) (Q:VK),KOk OK->XL X OK x G->StOk X.K G F Z H ρ->OK (m x k ρ) ->
  (∀d F' H' ρ',Same F F'->StOk X.K G F' Z H' ρ'->OK (k d ρ')->Q (.bl d) H')->cW X e Z H Q
def AEa{S:Type}(X:Cx)(es:List Expr)(m:Ev S (List D)):Prop :=
 ∀(OK:M S->Prop) (x:Ex->En->M S) (k:List D->En->M S) (G:Gh) (F:Hp) (Z:L2.St) (H:Hp) (ρ:En) (Q:List V->Hp->Prop),KOk OK->XL X OK x G->StOk X.K G F Z H ρ->OK (m x k ρ) ->
  (∀ds vs F' H' ρ',Same F F'->StOk X.K G F' Z H' ρ'->vs.length=es.length->RepL X.K F' vs ds->OK (k ds ρ')->Q vs H')->dB X es Z H Q
def AEl{S:Type}(X:Cx)(e:Expr)(m:Ev S (List D)):Prop :=
 ∀(OK:M S->Prop) (x:Ex->En->M S) (k:List D->En->M S) (G:Gh) (F:Hp) (Z:L2.St) (H:Hp) (ρ:En) (Q:VK),KOk OK->XL X OK x G->StOk X.K G F Z H ρ->OK (m x k ρ) ->
  (∀ds v F' H' ρ',Same F F'->StOk X.K G F' Z H' ρ'->Frs X.K G F' Z H' ρ' v (.l ds)->OK (k ds ρ')->Q v H')->cW X e Z H Q
def ePu{S α:Type}(p:Pu α):Ev S α:=λx k ρ=>(p ρ).on (λe=>x e ρ) (λa=>k a ρ)
section
variable {S α:Type}{X:Cx}{OK:M S->Prop}{x:Ex->En->M S}{k:α->En->M S}{G:Gh}{F:Hp}{Z:L2.St}{ρ:En}{p:Pu α}{C:α->Hp->Hp->Prop}
theorem W.of(hO:KOk OK)(hX:XL X OK x G)(h:OK (ePu p x k ρ))(w:∀a F' H',Same F F'->StOk X.K G F' Z H' ρ->OK (k a ρ)->C a F' H'):W X G F Z ρ (p ρ) C:=by
 unfold ePu at h
 cases hp:p ρ with
 | ret a=>rw[hp]at h;exact λF' H' s S'=>w a F' H' s S' h
 | exc e=>rw[hp]at h;exact hX F ρ e h
 | bad=>rw[hp]at h;exact hO h
end
section
variable {S:Type}{X:Cx}{e a b c:Expr}{es rest:List Expr}{p:Pu D}{pt:Pu Bool}{ps:Pu (List D)}{pos:Pos}
theorem aq(h:AP X e p):AE (S:=S) X e (ePu p):=λOK x k G F Z H ρ Q hO hX St ok kk=>h G F Z H ρ Q St (W.of hO hX ok λd F' H' s S' o v r=>kk d v F' H' ρ s S' r o)
theorem dk(h:AT X e pt):AEt (S:=S) X e (ePu pt):=λOK x k G F Z H ρ Q hO hX St ok kk=>h G F Z H ρ Q St (W.of hO hX ok λd F' H' s S' o=>kk d F' H' ρ s S' o)
theorem fT(h:AL X e ps):AEl (S:=S) X e (ePu ps):=λOK x k G F Z H ρ Q hO hX St ok kk=>h G F Z H ρ Q St (W.of hO hX ok λd F' H' s S' o v r=>kk d v F' H' ρ s S' r o)
def eB(m:Ev S Bool):Ev S D:=λx k ρ=>m x (λb ρ1=>k (.bool b) ρ1) ρ
def eZ(m:Ev S (List D)):Ev S D:=λx k ρ=>m x (λds ρ1=>k (.list ds) ρ1) ρ
def HP(m:Ev S D):Ev S Bool:=λx k ρ=>m x (λd ρ1=>(asB d).on (λe=>x e ρ1) (λb=>k b ρ1)) ρ
def GH(f:D->D->Option D)(a b:Ev S D):Ev S D:=λx k ρ=>a x (λd ρ1=>b x (λd2 ρ2=>(oM (f d d2)).on (λe=>x e ρ2) (λr=>k r ρ2)) ρ1) ρ
def CZ(f:D->D->Option Bool)(a b:Ev S D):Ev S Bool:=λx k ρ=>a x (λd ρ1=>b x (λd2 ρ2=>(oM (f d d2)).on (λe=>x e ρ2) (λr=>k r ρ2)) ρ1) ρ
def HK:Ev S (List D):=λ_ k ρ=>k [] ρ
def GF(m:Ev S D)(ms:Ev S (List D)):Ev S (List D):=λx k ρ=>m x (λd ρ1=>ms x (λds ρ2=>k (d::ds) ρ2) ρ1) ρ
def HI(ms:Ev S (List D)):Ev S D:=λx k ρ=>ms x (λds ρ1=>k (.tuple ds) ρ1) ρ
def HL(ms:Ev S (List D)):Ev S (List D):=λx k ρ=>ms x (λds ρ1=>k ds ρ1) ρ
def GG(f:List D->Option D)(ms:Ev S (List D)):Ev S D:=λx k ρ=>ms x (λds ρ1=>(oM (f ds)).on (λe=>x e ρ1) (λr=>k r ρ1)) ρ
def HQ(a b:Ev S Bool):Ev S Bool:=λx k ρ=>a x (λt ρ1=>if t then b x k ρ1 else k false ρ1) ρ
def HJ(a:Ev S Bool):Ev S Bool:=λx k ρ=>a x (λt ρ1=>k (!t) ρ1) ρ
def eIf{α:Type}(c:Ev S Bool)(a b:Ev S α):Ev S α:=λx k ρ=>c x (λt ρ1=>if t then a x k ρ1 else b x k ρ1) ρ
theorem eY{α:Type}{OK:M S->Prop}(hO:KOk OK){o:Option α}{x:Ex->M S}{k:α->M S}(h:OK ((oM o).on x k)):∃a,o=some a/\OK (k a):=by
 cases o with
 | none=>exact(hO h).elim
 | some a=>exact⟨a,rfl,h⟩
theorem Ek{α:Type}{OK:M S->Prop}(hO:KOk OK){ds:List α}{x:Ex->M S}{k:List α->M S}(h:OK ((eD ds).on x k)):ds.length<=sizeLine/\OK (k ds):=by
 unfold eD at h
 split at h
 ·exact⟨by assumption,h⟩
 ·exact(hO h).elim
variable {ma mb m:Ev S D}{ta tb tc:Ev S Bool}{ms:Ev S (List D)}
theorem ED(h:AEb X e ta):AE X e (eB ta):=λOK x k G F Z H ρ Q hO hX St ok kk=>h OK x _ G F Z H ρ Q hO hX St ok λb F' H' ρ' s S' o=>kk _ _ F' H' ρ' s S' (.bl b) o
theorem uI(h:AEl X e ms):AE X e (eZ ms):=λOK x k G F Z H ρ Q hO hX St ok kk=>h OK x _ G F Z H ρ Q hO hX St ok λds v F' H' ρ' s S' fr o=>by
 obtain⟨F2,s2,S2,r2⟩:=S'.settle (v:=v) (ds:=ds) fr
 exact kk _ v F2 H' ρ' (s.trans s2) S2 r2 o
theorem uH(h:AE X e m):AEb X e (HP m):=λOK x k G F Z H ρ Q hO hX St ok kk=>h OK x _ G F Z H ρ Q hO hX St ok λd v F' H' ρ' s S' r o=>by
 cases r with
 | bl b=>exact kk b F' H' ρ' s S' o
 | non=>exact(hO o).elim
 | int i=>exact(hO o).elim
 | str i=>exact(hO o).elim
 | tup _ _=>exact(hO o).elim
 | lst _ _=>exact(hO o).elim
 | dct _ _ _=>exact(hO o).elim
 | dck _ _ _=>exact(hO o).elim
 | exc _ _ _ _ _=>exact(hO o).elim
 | fn _=>exact(hO o).elim
theorem kL{r:R2}{Q:VK}{OK:M S->Prop}{x:Ex->En->M S}{G:Gh}{F H:Hp}{Z:L2.St}{ρ:En}{f:D->D->En->M S}(ha:AE X a ma)(hb:AE X b mb)(hO:KOk OK)(hX:XL X OK x G)(St:StOk X.K G F Z H ρ)
  (ok:OK (ma x (λd ρ1=>mb x (λd2 ρ2=>f d d2 ρ2) ρ1) ρ)) (k:∀u v dx dy F' H' ρ',Same F F'->StOk X.K G F' Z H' ρ'->Rep X.K F' u dx->Rep X.K F' v dy->OK (f dx dy ρ')->r u v H' Q):tOp r (cW X a) (cW X b) Z H Q :=
 ha OK x _ G F Z H ρ _ hO hX St ok λd v F1 H1 ρ1 s1 S1 r1 o1=>hb OK x _ G F1 Z H1 ρ1 _ hO hX S1 o1 λd2 u F2 H2 ρ2 s2 S2 r2 o2=>k v u d d2 F2 H2 ρ2 (s1.trans s2) S2 (r1.mono s2) r2 o2
theorem uJ{op:Operator}{r:R2}{f:D->D->Option D}(ho:OpR X (binaryOp op) r)(hf:OpD X.K r f)(ha:AE X a ma)(hb:AE X b mb):AE X (.BinOp a op b pos) (GH f ma mb) :=
 λOK x k G F Z H ρ Q hO hX St ok kk=>sem (yT ho aH aH) (kL ha hb hO hX St ok λu v dx dy F' H' ρ' s S' r1 r2 o=>by
  obtain⟨res,e,o'⟩:=eY hO o
  exact hf G F' Z H' ρ' u v dx dy res Q S' (.inl r1) (.inl r2) e λw F2 H2 s2 S2 r3=>kk res w F2 H2 ρ' (s.trans s2) S2 r3 o')
theorem GN{r:R2}{f:D->D->Option D}(hr:IxR X r)(hf:OpD X.K r f)(ha:AE X a ma)(hb:AE X b mb)(hs:qp b:=by exact λ_ _=>rfl):AE X (.Subscript a b pos) (GH f ma mb) :=
 λOK x k G F Z H ρ Q hO hX St ok kk=>sem (CB hr aH aH hs) (kL ha hb hO hX St ok λu v dx dy F' H' ρ' s S' r1 r2 o=>by
  obtain⟨res,e,o'⟩:=eY hO o
  exact hf G F' Z H' ρ' u v dx dy res Q S' (.inl r1) (.inl r2) e λw F2 H2 s2 S2 r3=>kk res w F2 H2 ρ' (s.trans s2) S2 r3 o')
theorem ql{op:CmpOp}{r:R2}{f:D->D->Option Bool}(ho:OpR X (compareOp op) r)(hf:OpB X.K r f)(ha:AE X a ma)(hb:AE X b mb)(hm:behindInMarks op b=false:=by rfl):AEb X (.Compare a [op] [b] pos) (CZ f ma mb) :=
 λOK x k G F Z H ρ Q hO hX St ok kk=>sem (va ho aH aH hm) (kL ha hb hO hX St ok λu v dx dy F' H' ρ' s S' r1 r2 o=>by
  obtain⟨res,e,o'⟩:=eY hO o
  exact hf G F' Z H' ρ' u v dx dy res Q S' (.inl r1) (.inl r2) e (kk res F' H' ρ' s S' o'))
theorem v8{op:CmpOp}{r:R2}{f:D->D->Option Bool}(ho:OpR X (compareOp op) r)(hf:OpB X.K r f)(ha:AE X a ma)(hb:AE X b mb)(hm:behindInMarks op b=false:=by rfl):AEt X (.Compare a [op] [b] pos) (CZ f ma mb) :=
 λOK x k G F Z H ρ Q hO hX St ok kk=>mR (uZ ho aH aH hm) (kL (Q:=λx H'=>∃k,x=.bl k/\Q k H') ha hb hO hX St ok λu v dx dy F' H' ρ' s S' r1 r2 o=>by
  obtain⟨res,e,o'⟩:=eY hO o
  exact hf G F' Z H' ρ' u v dx dy res _ S' (.inl r1) (.inl r2) e ⟨res,rfl,kk res F' H' ρ' s S' o'⟩)
theorem aA:AEa (S:=S) X [] HK:=λOK x k G F Z H ρ Q hO hX St ok kk=>qJ lC (kk [] [] F H ρ (Same.refl _) St rfl .nil ok)
theorem aa(h:AE X e m)(hr:AEa X es ms)(hs:starEach (e::es) X.env=(false,eval e X.env)::starEach es X.env:=by exact bM rfl):AEa X (e::es) (GF m ms) :=
 λOK x k G F Z H ρ Q hO hX St ok kk=>qJ (gX aH bC hs) (h OK x _ G F Z H ρ _ hO hX St ok λd v F1 H1 ρ1 s1 S1 r1 o1 =>
  hr OK x _ G F1 Z H1 ρ1 _ hO hX S1 o1 λds vs F2 H2 ρ2 s2 S2 hl r2 o2=>kk (d::ds) (v::vs) F2 H2 ρ2 (s1.trans s2) S2 (by simp[hl]) (.cons (r1.mono s2) r2) o2)
theorem Ak{x1}(h:AEa X es ms)(hz:es.length<=1000:=by decide +kernel):AE X (.Tuple es x1 pos) (HI ms) :=
 λOK x k G F Z H ρ Q hO hX St ok kk=>sem (yR bC) (h OK x _ G F Z H ρ _ hO hX St ok λds vs F1 H1 ρ1 s1 S1 hl r1 o1=>by
  refine⟨by rw[hl];exact iD hz,λq hq=>?_⟩
  obtain⟨s2,S2,r2⟩:=S1.newTup hq r1
  exact kk _ _ _ _ ρ1 (s1.trans s2) S2 r2 o1)
theorem qk(h:AEa X es ms)(hz:es.length<=1000:=by decide +kernel):AEl X (.List es pos) (HL ms) :=
 λOK x k G F Z H ρ Q hO hX St ok kk=>sem (yU bC) (h OK x _ G F Z H ρ _ hO hX St ok λds vs F1 H1 ρ1 s1 S1 hl r1 o1=>by
  refine⟨by rw[hl];exact iD hz,λq hq=>?_⟩
  obtain⟨S2,r2⟩:=S1.newLst hq r1
  exact kk _ _ _ _ ρ1 s1 S2 r2 o1)
theorem sQ(ha:AEt X a ta):AEw X (.BoolOp .And [a] pos) ta:=λOK x k G F Z H ρ Q hO hX St ok kk=>wz (uW cZ) (ha OK x k G F Z H ρ Q hO hX St ok kk)
theorem v7(ha:AEt X a ta)(hb:AEw X (.BoolOp .And (b::rest) pos) tb):AEw X (.BoolOp .And (a::b::rest) pos) (HQ ta tb) :=
 λOK x k G F Z H ρ Q hO hX St ok kk=>wz (yI cZ lq) (ha OK x _ G F Z H ρ _ hO hX St ok λt F1 H1 ρ1 s1 S1 o1=>by
  cases t with
  | true=>refine pR ?_;exact hb OK x k G F1 Z H1 ρ1 Q hO hX S1 o1 λd F2 H2 ρ2 s2 S2 o2=>kk d F2 H2 ρ2 (s1.trans s2) S2 o2
  | false=>refine rL ?_;exact kk false F1 H1 ρ1 s1 S1 o1)
theorem Aj(h:AEw X e ta):AEt X e ta:=λOK x k G F Z H ρ Q hO hX St ok kk=>mR (λpins s Z H Q I h=>lq _ pins s Z H Q I h) (h OK x k G F Z H ρ Q hO hX St ok kk)
theorem B6(ha:AEt X a ta):AEt X (.UnaryOp .Not a pos) (HJ ta) :=
 λOK x k G F Z H ρ Q hO hX St ok kk=>mR (yJ cZ) (ha OK x _ G F Z H ρ _ hO hX St ok λt F1 H1 ρ1 s1 S1 o1=>kk (!t) F1 H1 ρ1 s1 S1 o1)
theorem Ai(ha:AEb X a ta)(he:∀whole,isTrue a X.env whole=(do let v <-whole;standAt a.pos;holding [v] (truthy v))):AEt X a ta :=
 λOK x k G F Z H ρ Q hO hX St ok kk=>mR (lw aH he) (ha OK x _ G F Z H ρ _ hO hX St ok λt F1 H1 ρ1 s1 S1 o1=>⟨t,rfl,kk t F1 H1 ρ1 s1 S1 o1⟩)
theorem GO(hc:AEt X c tc)(ha:AE X a ma)(hb:AE X b mb):AE X (.IfExp c a b pos) (eIf tc ma mb) :=
 λOK x k G F Z H ρ Q hO hX St ok kk=>sem (qV cZ aH aH) (hc OK x _ G F Z H ρ _ hO hX St ok λt F1 H1 ρ1 s1 S1 o1=>by
  cases t with
  | true=>refine pR ?_;exact ha OK x k G F1 Z H1 ρ1 Q hO hX S1 o1 λd v F2 H2 ρ2 s2 S2 r2 o2=>kk d v F2 H2 ρ2 (s1.trans s2) S2 r2 o2
  | false=>refine rL ?_;exact hb OK x k G F1 Z H1 ρ1 Q hO hX S1 o1 λd v F2 H2 ρ2 s2 S2 r2 o2=>kk d v F2 H2 ρ2 (s1.trans s2) S2 r2 o2)
theorem RepL.ors{K:Fg}{F H:Hp}{vs:List V}{ds:List D}(h:RepL K F vs ds):ORs K F H vs ds:=by
 induction vs generalizing ds with
 | nil=>cases h;exact .nil
 | cons v vs ih=>cases h with
  | cons a b=>exact .cons (.inl a) (ih b)
theorem fA{x:Str}{p:Pos}{T:String}{r:List V->Hp->VK->Prop}{f:List D->Option D}(hc:CallR X (.type T) r)(hf:gU X.K r f)(hm:X.mg x=none)(hv:bootBuiltins x=some (.type T))(ha:AEa X (e::es) ms)(hg:Gl X x:=by rfl)
  (hn:x ≠ "__name__":=by decide) (hdb:(x==("__debug__" : Str))=false:=by decide) (he:starEach (e::es) X.env=(false,eval e X.env)::starEach es X.env:=by rfl) (hpl:(backTo pos (starEach es X.env)).any (·.1)=false:=by rfl):AE X (.Call (.Name x p) (e::es) [] pos) (GG f ms) :=
 λOK y k G F Z H ρ Q hO hX St ok kk=>sem (jF hc hg hm hv bC hn hdb he hpl) (ha OK y _ G F Z H ρ _ hO hX St ok λds vs F1 H1 ρ1 s1 S1 _ r1 o1=>by
  obtain⟨res,e,o'⟩:=eY hO o1
  exact hf G F1 Z H1 ρ1 vs ds res Q S1 (RepL.ors r1) e λw F2 H2 s2 S2 r3=>kk res w F2 H2 ρ1 (s1.trans s2) S2 r3 o')
end
structure Walk(K:Fg)(J:It)(ds:List D)(F:Hp):Prop where
 go:∀(i:Nat) (G:Gh) (F2:Hp) (Z:L2.St) (H2:Hp) (ρ:En),Same F F2->StOk K G F2 Z H2 ρ->i<ds.length->J.go i H2
 yld:∀(i:Nat) (G:Gh) (F2:Hp) (Z:L2.St) (H2:Hp) (ρ:En) (x:V) (H3:Hp) (d:D),Same F F2->StOk K G F2 Z H2 ρ->ds[i]? = some d->J.yld i H2 x H3->∃F3,Same F2 F3/\StOk K G F3 Z H3 ρ/\Rep K F3 x d
 stop:∀(G:Gh) (F2:Hp) (Z:L2.St) (H2:Hp) (ρ:En),Same F F2->StOk K G F2 Z H2 ρ->J.stop ds.length H2
theorem wb{K:Fg}{F:Hp}{a:Addr}{vs:List V}{ds:List D}(h:SqL K F a vs)(r:RepL K F vs ds):Walk K (Itl K a) ds F where
 go:=λi G F2 Z H2 ρ s S hi=>by
  have hi':i<vs.length:=by rw[r.length];exact hi
  exact⟨vs,vs[i],S.fh.seq (s.seq h),by simp[hi']⟩
 yld:=λi G F2 Z H2 ρ x H3 d s S hd ⟨e,q⟩=>by
  subst e
  obtain⟨v,e1,e2⟩:=r.get hd
  have:=q vs (S.fh.seq (s.seq h))
  rw[e1]at this
  cases this
  exact⟨F2,Same.refl _,S,e2.mono s⟩
 stop:=λG F2 Z H2 ρ s S=>⟨vs,S.fh.seq (s.seq h),by rw[r.length];exact Nat.le_refl _⟩
theorem xT{K:Fg}{F:Hp}{a:Addr}{vs:List V}{ds:List D}(h:SqT K F a vs)(r:RepL K F vs ds):Walk K (Itt K a) ds F where
 go:=λi G F2 Z H2 ρ s S hi=>by
  have hi':i<vs.length:=by rw[r.length];exact hi
  exact⟨vs,vs[i],e9 S.fh (e9 s h),by simp[hi']⟩
 yld:=λi G F2 Z H2 ρ x H3 d s S hd ⟨e,q⟩=>by
  subst e
  obtain⟨v,e1,e2⟩:=r.get hd
  have:=q vs (e9 S.fh (e9 s h))
  rw[e1]at this
  cases this
  exact⟨F2,Same.refl _,S,e2.mono s⟩
 stop:=λG F2 Z H2 ρ s S=>⟨vs,e9 S.fh (e9 s h),by rw[r.length];exact Nat.le_refl _⟩
def fN(lo:Int)(n:Nat):List D:=(List.range n).map λ(i:Nat)=>PyData.int (lo+(i:Int))
theorem eX(lo:Int)(n:Nat):(fN lo n).length=n:=by simp[fN]
theorem kP{K:Fg}{F:Hp}(lo:Int)(n:Nat):Walk K (Itr lo n) (fN lo n) F where
 go:=λi G F2 Z H2 ρ s S hi=>by rw[eX]at hi;exact hi
 yld:=λi G F2 Z H2 ρ x H3 d s S hd ⟨e,q⟩=>by
  subst e q
  have e':(fN lo n)[i]? = some d:=hd
  unfold fN at e'
  rw[List.getElem?_map]at e'
  have hi:i<n:=by
   have:=(List.getElem?_eq_some_iff.mp hd).1
   rw[eX]at this;exact this
  rw[List.getElem?_range hi]at e'
  cases e'
  exact⟨F2,Same.refl _,S,.int _⟩
 stop:=λG F2 Z H2 ρ s S=>by rw[eX];exact Nat.le_refl _
@[irreducible] def fV(X:Cx)(tg iter:Expr):TI:=λZ H R=>∀(pins:zzk) (s:Shared),Inv X pins Z H s->wpAny (model X.prog X.w) X.A (eval iter X.env) (λv s1=>wpAny (model X.prog X.w) X.A (pyIter v) (PIE X pins Z tg R) X.xe s1) X.xe s
theorem lA{X:Cx}{tg e:Expr}:PI X tg e (fV X tg e):=λpins s Z H R I h=>by unfold fV at h;exact h pins s I
theorem AH{X:Cx}{tg e:Expr}{Z:L2.St}{H:Hp}{R:It->Hp->Prop}{t:TI}(h:PI X tg e t)(q:t Z H R):fV X tg e Z H R:=by unfold fV;exact λpins s I=>h pins s Z H R I q
def AI(X:Cx)(tg e:Expr)(p:Pu (List D)):Prop :=
 ∀(G:Gh) (F:Hp) (Z:L2.St) (H:Hp) (ρ:En) (R:It->Hp->Prop),StOk X.K G F Z H ρ->W X G F Z ρ (p ρ) (λds F' H'=>∀J,Walk X.K J ds F'->R J H')->fV X tg e Z H R
def AEi{S:Type}(X:Cx)(tg e:Expr)(m:Ev S (List D)):Prop :=
 ∀(OK:M S->Prop) (x:Ex->En->M S) (k:List D->En->M S) (G:Gh) (F:Hp) (Z:L2.St) (H:Hp) (ρ:En) (R:It->Hp->Prop),KOk OK->XL X OK x G->StOk X.K G F Z H ρ->OK (m x k ρ) ->
  (∀ds J F' H' ρ',Same F F'->StOk X.K G F' Z H' ρ'->Walk X.K J ds F'->OK (k ds ρ')->R J H')->fV X tg e Z H R
theorem e8{S:Type}{X:Cx}{tg e:Expr}{ps:Pu (List D)}(h:AI X tg e ps):AEi (S:=S) X tg e (ePu ps):=λOK x k G F Z H ρ Q hO hX St ok kk=>h G F Z H ρ Q St (W.of hO hX ok λd F' H' s S' o v r=>kk d v F' H' ρ s S' r o)
def wy:D->Option (List D)
 | .list ds=>some ds
 | .tuple ds=>some ds
 | _=>none
def fD(i:Int):Bool:=decide (-(2^62)<=i)&&decide (i<2^62)
theorem cX{i:Int}(h:fD i=true) : -(2^62)<=i/\i<2^62:=by
 unfold fD at h
 simp only[Bool.and_eq_true,zzi]at h
 exact h
def bT:List D->Option (List D)
 | [.int j]=>if fD j then some (fN 0 j.toNat)else none
 | _=>none
def eN:List D->Option (List D)
 | [.int i,.int j]=>if fD i&&fD j then some (fN i (j - i).toNat)else none
 | _=>none
def zP{S:Type}(f:List D->Option (List D))(ms:Ev S (List D)):Ev S (List D):=λx k ρ=>ms x (λds ρ1=>(oM (f ds)).on (λe=>x e ρ1) (λr=>k r ρ1)) ρ
section
variable {S:Type}{X:Cx}{tg e a b:Expr}{pp:Pu D}{ps:Pa (List D)}{m:Ev S D}{ms:Ev S (List D)}{p pos:Pos}
theorem yl{F H:Hp}{v:V}{d:D}{ds:List D}{R:It->Hp->Prop}(s:Same F H)(r:Rep X.K F v d)(hd:wy d=some ds)(k:∀J,Walk X.K J ds F->R J H) :
  (∃a,v=.ref a/\(∃xs,SqL X.K H a xs)/\R (Itl X.K a) H)\/∃a,v=.ref a/\(∃xs,SqT X.K H a xs)/\R (Itt X.K a) H:=by
 cases d with
 | list xs =>
  cases hd
  obtain⟨a,vs,rfl,h1,h2⟩:=r.lst_inv
  exact .inl ⟨_,rfl,⟨_,s.seq h1⟩,k _ (wb h1 h2)⟩
 | tuple xs =>
  cases hd
  obtain⟨a,vs,rfl,h1,h2⟩:=r.tup_inv
  exact .inr ⟨_,rfl,⟨_,SqT.of (s _ _ h1)⟩,k _ (xT (SqT.of h1) h2)⟩
 | _=>exact noS hd
theorem nJ{F H:Hp}{vs:List V}{ds out:List D}{R:It->Hp->Prop}(r:RepL X.K F vs ds)(h:bT ds=some out)(k:∀J,Walk X.K J out F->R J H):∃j,vs=[.int j] /\ -(2^62)<=j/\j<2^62/\R (Itr 0 j.toNat) H:=by
 unfold bT at h
 split at h
 ·rename_i j
  split at h
  ·rename_i hs
   cases h
   obtain⟨v,rfl,r1⟩:=r.one_inv
   obtain rfl:=r1.int_inv
   exact⟨j,rfl,(cX hs).1,(cX hs).2,k _ (kP 0 j.toNat)⟩
  ·cases h
 ·cases h
theorem wI{F H:Hp}{vs:List V}{ds out:List D}{R:It->Hp->Prop}(r:RepL X.K F vs ds)(h:eN ds=some out)(k:∀J,Walk X.K J out F->R J H) :
  ∃i j,vs=[.int i,.int j]/\(-(2^62)<=i/\i<2^62 /\ -(2^62)<=j/\j<2^62)/\R (Itr i (j - i).toNat) H:=by
 unfold eN at h
 split at h
 ·rename_i i j
  split at h
  ·rename_i hs
   cases h
   rw[Bool.and_eq_true]at hs
   obtain⟨v,u,rfl,r1,r3⟩:=r.two_inv
   obtain rfl:=r1.int_inv
   obtain rfl:=r3.int_inv
   exact⟨i,j,rfl,⟨(cX hs.1).1,(cX hs.1).2,(cX hs.2).1,(cX hs.2).2⟩,k _ (kP i (j - i).toNat)⟩
  ·cases h
 ·cases h
theorem dh(hg:Gl X "range")(hm:X.mg "range" = none)(ha:AA X [a] ps)(hs:starEach [a] X.env=[(false,eval a X.env)]):AI X tg (.Call (.Name "range" p) [a] [] pos) (tT bT ps) :=
 λG F Z H ρ R S w=>AH (nK hg hm bC hs) (ha G F Z H ρ _ _ _ S w λds vs F1 H1 s1 S1 _ r1 w1=>by
  obtain⟨out,hd,k⟩:=w1.opt
  exact nJ r1 hd (k F1 H1 (Same.refl _) S1))
theorem oB(hg:Gl X "range")(hm:X.mg "range" = none)(ha:AA X [a,b] ps)(hs:starEach [a,b] X.env=[(false,eval a X.env),(false,eval b X.env)])(hs2:starEach [b] X.env=[(false,eval b X.env)]):AI X tg (.Call (.Name "range" p) [a,b] [] pos) (tT eN ps) :=
 λG F Z H ρ R S w=>AH (wM hg hm bC hs hs2) (ha G F Z H ρ _ _ _ S w λds vs F1 H1 s1 S1 _ r1 w1=>by
  obtain⟨out,hd,k⟩:=w1.opt
  exact wI r1 hd (k F1 H1 (Same.refl _) S1))
theorem uG(hg:Gl X "range")(hm:X.mg "range" = none)(ha:AEa X [a] ms)(hs:starEach [a] X.env=[(false,eval a X.env)]):AEi X tg (.Call (.Name "range" p) [a] [] pos) (zP bT ms) :=
 λOK x k G F Z H ρ R hO hX St ok kk=>AH (nK hg hm bC hs) (ha OK x _ G F Z H ρ _ hO hX St ok λds vs F1 H1 ρ1 s1 S1 _ r1 o1=>by
  obtain⟨out,hd,o⟩:=eY hO o1
  exact nJ r1 hd λJ wk=>kk out J F1 H1 ρ1 s1 S1 wk o)
end
abbrev Tg(S:Type):=D->(En->M S)->En->M S
def fW(ρ:En)(i:Nat):Bool:=decide (i<ρ.length)&&(match ρ[i]? with
 | some (some (.op _))=>false
 | _=>true)
theorem cK{ρ:En}{i:Nat}(h:fW ρ i=true):i<ρ.length/\∀c,ρ[i]? ≠ some (some (.op c)):=by
 unfold fW at h
 rw[Bool.and_eq_true]at h
 refine⟨by simpa using h.1,λc e=>?_⟩
 rw[e]at h
 exact absurd h.2 (by simp)
@[irreducible] def nz(X:Cx)(tg:Expr):TG:=λv Z H Q=>∀(pins:zzk) (s:Shared) (u:Value),Inv X pins Z H s->RelV v u->wpAny (model X.prog X.w) X.A (assign tg X.env u) (λ_ s'=>∃σ' H',Inv X pins σ' H' s'/\Q σ' H') X.xe s
@[irreducible] def kS(X:Cx)(tgs:List Expr):TGs:=λvs Z H Q=>∀(pins:zzk) (s:Shared) (us:List Value),Inv X pins Z H s->Vals vs us->wpAny (model X.prog X.w) X.A (assignInOrder ((assignEach tgs X.env).map (·.2)) us) (λ_ s'=>∃σ' H',Inv X pins σ' H' s'/\Q σ' H') X.xe s
theorem jE{X:Cx}{tg:Expr}:PG X tg (nz X tg):=λpins s Z H v u Q I r h=>by unfold nz at h;exact h pins s u I r
theorem u6{X:Cx}{tgs:List Expr}:PGs X tgs (kS X tgs):=λpins s Z H vs us Q I r h=>by unfold kS at h;exact h pins s us I r
theorem E4{X:Cx}{tg:Expr}{t:TG}{v:V}{Z:L2.St}{H:Hp}{Q:L2.St->Hp->Prop}(h:PG X tg t)(q:t v Z H Q):nz X tg v Z H Q:=by unfold nz;exact λpins s u I r=>h pins s Z H v u Q I r q
theorem Ck{X:Cx}{tgs:List Expr}{t:TGs}{vs:List V}{Z:L2.St}{H:Hp}{Q:L2.St->Hp->Prop}(h:PGs X tgs t)(q:t vs Z H Q):kS X tgs vs Z H Q:=by unfold kS;exact λpins s us I r=>h pins s Z H vs us Q I r q
def AG{S:Type}(X:Cx)(n:Nat)(tg:Expr)(st:Tg S):Prop :=
 ∀(OK:M S->Prop) (k:En->M S) (G:Gh) (F:Hp) (Z:L2.St) (H:Hp) (ρ:En) (v:V) (d:D) (Q:L2.St->Hp->Prop),KOk OK->StOk X.K G F Z H ρ->Rep X.K F v d->OK (st d k ρ) ->
  (∀σ' ρ',StOk X.K G F σ' H ρ'->(∀j,j<n->σ'[j]? = Z[j]? /\ ρ'[j]? = ρ[j]?)->σ'.length=Z.length->ρ'.length=ρ.length->OK (k ρ')->Q σ' H)->nz X tg v Z H Q
def AGs{S:Type}(X:Cx)(n:Nat)(tgs:List Expr)(st:List D->(En->M S)->En->M S):Prop :=
 ∀(OK:M S->Prop) (k:En->M S) (G:Gh) (F:Hp) (Z:L2.St) (H:Hp) (ρ:En) (vs:List V) (ds:List D) (Q:L2.St->Hp->Prop),KOk OK->StOk X.K G F Z H ρ->RepL X.K F vs ds->OK (st ds k ρ) ->
  (∀σ' ρ',StOk X.K G F σ' H ρ'->(∀j,j<n->σ'[j]? = Z[j]? /\ ρ'[j]? = ρ[j]?)->σ'.length=Z.length->ρ'.length=ρ.length->OK (k ρ')->Q σ' H)->kS X tgs vs Z H Q
def GB{S:Type}(i:Nat):Tg S:=λd k ρ=>match fW ρ i with
 | true=>k (ρ.set i (some (.fz d)))
 | false=>.bad
def GA{S:Type}:List D->(En->M S)->En->M S
 | [],k,ρ=>k ρ
 | _,_,_=>.bad
def Ei{S:Type}(t:Tg S)(ts:List D->(En->M S)->En->M S):List D->(En->M S)->En->M S
 | d::ds,k,ρ=>t d (λρ1=>ts ds k ρ1) ρ
 | [],_,_=>.bad
def un2{S:Type}(d:D)(k:D->D->M S):M S:=match d with
 | .tuple [a,b]=>k a b
 | _=>.bad
def CV{S:Type}(ts:List D->(En->M S)->En->M S):Tg S:=λd k ρ=>un2 d λa b=>ts [a,b] k ρ
section
variable {S:Type}{X:Cx}{pos:Pos}{n:Nat}
theorem aU{i:Nat}{x:Str}(hn:n<=i)(hN:X.N.Nodup)(hi:X.N[i]? = some x:=by rfl)(hx:Loc X.env.scope x:=by exact lo rfl)(hf:X.fn x=true\/X.env.scope.names.lookup x=some .local:=by first|exact .inl rfl|exact .inr rfl):AG (S:=S) X n (.Name x pos) (GB i):=by
 intro OK k G F Z H ρ v d Q hO S r ok kk
 unfold GB at ok
 split at ok
 ·rename_i ho
  obtain⟨hl,hop⟩:=cK ho
  refine E4 (A6 hN hi hx hf) ?_
  exact kk _ _ (S.store hop hl (.inl ⟨d,rfl,r⟩)) (λj hj=>⟨List.getElem?_set_ne (by lia),List.getElem?_set_ne (by lia)⟩) (by simp) (by simp) ok
 ·exact(hO ok).elim
theorem B3:AGs (S:=S) X n [] GA:=by
 intro OK k G F Z H ρ vs ds Q hO S r ok kk
 cases ds with
 | nil =>
  cases r
  exact Ck A5 ⟨rfl,kk Z ρ S (λ_ _=>⟨rfl,rfl⟩) rfl rfl ok⟩
 | cons d ds=>exact(hO ok).elim
theorem sP{e:Expr}{es:List Expr}{st:Tg S}{sts:List D->(En->M S)->En->M S}(h1:AG X n e st)(h2:AGs X n es sts)
  (hs:(assignEach (e::es) X.env).map (·.2)=assign e X.env::(assignEach es X.env).map (·.2)):AGs X n (e::es) (Ei st sts):=by
 intro OK k G F Z H ρ vs ds Q hO S r ok kk
 cases ds with
 | nil=>exact(hO ok).elim
 | cons d ds =>
  cases r with
  | cons rv rr =>
   refine Ck (yP jE u6 hs) ⟨_,_,rfl,?_⟩
   refine h1 OK _ G F Z H ρ _ d _ hO S rv ok λσ1 ρ1 S1 kp1 l1 m1 o1=>?_
   exact h2 OK k G F σ1 H ρ1 _ ds _ hO S1 rr o1 λσ2 ρ2 S2 kp2 l2 m2 o2=>kk σ2 ρ2 S2 (λj hj=>⟨(kp2 j hj).1.trans (kp1 j hj).1,(kp2 j hj).2.trans (kp1 j hj).2⟩) (l2.trans l1) (m2.trans m1) o2
theorem B4{es:List Expr}{kk l:Nat}{sts:List D->(En->M S)->En->M S}{st:Tg S}(hc:X.calm=true)(h:AGs X n es sts)(hn:(assignEach es X.env).length=l)(hst:(assignEach es X.env).findIdx? (·.1)=none)
  (hw:∀(OK:M S->Prop) d k ρ,KOk OK->OK (st d k ρ)->∃ds,d=.tuple ds/\ds.length=l/\OK (sts ds k ρ)):AG X n (.Tuple es kk pos) st:=by
 intro OK k G F Z H ρ v d Q hO S r ok k2
 obtain⟨ds,rfl,hl,ok⟩:=hw OK d k ρ hO ok
 cases r with
 | tup h1 h2 =>
  refine E4 (Dz hc u6 hn hst) ⟨_,_,rfl,SqT.of (S.fh _ _ h1),by rw[h2.length];exact hl,?_⟩
  exact h OK k G F Z H ρ _ ds _ hO S h2 ok k2
theorem B5{es:List Expr}{kk:Nat}{sts:List D->(En->M S)->En->M S}(hc:X.calm=true)(h:AGs X n es sts)(hn:(assignEach es X.env).length=2)(hst:(assignEach es X.env).findIdx? (·.1)=none):AG X n (.Tuple es kk pos) (CV sts) :=
 B4 hc h hn hst λOK d k ρ hO o=>by
  unfold CV un2 at o
  split at o
  ·exact⟨_,rfl,rfl,o⟩
  ·exact(hO o).elim
end
abbrev SM(S:Type):=KS S->En->M S
structure EOk{S:Type}(X:Cx)(OK:M S->Prop)(K:KS S)(G:Gh)(F:Hp)(E:Ends):Prop where
 nx:∀F' σ' H' ρ',Same F F'->StOk X.K G F' σ' H' ρ'->OK (K.nx ρ')->E.nx σ' H'
 rt:∀F' σ' H' ρ' d v,Same F F'->StOk X.K G F' σ' H' ρ'->Rep X.K F' v d->OK (K.rt d ρ')->E.rt v H'
 rl:∀F' σ' H' ρ' c v,Same F F'->StOk X.K G F' σ' H' ρ'->Frs X.K G F' σ' H' ρ' v c->OK (K.rl c ρ')->E.rt v H'
 bk:∀F' σ' H' ρ',Same F F'->StOk X.K G F' σ' H' ρ'->OK (K.bk ρ')->E.bk σ' H'
 ct:∀F' σ' H' ρ',Same F F'->StOk X.K G F' σ' H' ρ'->OK (K.ct ρ')->E.ct σ' H'
theorem EOk.up{S:Type}{X:Cx}{OK:M S->Prop}{K:KS S}{G:Gh}{F F':Hp}{E:Ends}(h:EOk X OK K G F E)(s:Same F F'):EOk X OK K G F' E :=
 ⟨λF2 σ' H' ρ' s2=>h.nx F2 σ' H' ρ' (s.trans s2),λF2 σ' H' ρ' d v s2=>h.rt F2 σ' H' ρ' d v (s.trans s2),λF2 σ' H' ρ' d v s2=>h.rl F2 σ' H' ρ' d v (s.trans s2),λF2 σ' H' ρ' s2=>h.bk F2 σ' H' ρ' (s.trans s2),λF2 σ' H' ρ' s2=>h.ct F2 σ' H' ρ' (s.trans s2)⟩
@[irreducible] def j7(X:Cx)(st:Stmt):TS:=λE Z H=>∀(pins:zzk) (s:Shared),Inv X pins Z H s->wpAny (model X.prog X.w) X.A (exec st X.env) (SP X pins E) X.xe s
@[irreducible] def qD(X:Cx)(sts:List Stmt):TS:=λE Z H=>∀(pins:zzk) (s:Shared),Inv X pins Z H s->wpAny (model X.prog X.w) X.A (execs sts X.env) (SP X pins E) X.xe s
section
variable {X:Cx}{st:Stmt}{sts:List Stmt}{Z:L2.St}{H:Hp}{E:Ends}{t:TS}
theorem yM:PS X st (j7 X st):=λpins s Z H E I h=>by unfold j7 at h;exact h pins s I
theorem dm:PSs X sts (qD X sts):=λpins s Z H E I h=>by unfold qD at h;exact h pins s I
theorem gc(h:PS X st t)(q:t E Z H):j7 X st E Z H:=by unfold j7;exact λpins s I=>h pins s Z H E I q
theorem Di(h:PSs X sts t)(q:t E Z H):qD X sts E Z H:=by unfold qD;exact λpins s I=>h pins s Z H E I q
end
def AS{S:Type}(X:Cx)(st:Stmt)(m:SM S):Prop :=
 ∀(OK:M S->Prop) (K:KS S) (G:Gh) (F:Hp) (Z:L2.St) (H:Hp) (ρ:En) (E:Ends),KOk OK->XL X OK K.x G->StOk X.K G F Z H ρ->OK (m K ρ)->EOk X OK K G F E->j7 X st E Z H
def ASs{S:Type}(X:Cx)(st:List Stmt)(m:SM S):Prop :=
 ∀(OK:M S->Prop) (K:KS S) (G:Gh) (F:Hp) (Z:L2.St) (H:Hp) (ρ:En) (E:Ends),KOk OK->XL X OK K.x G->StOk X.K G F Z H ρ->OK (m K ρ)->EOk X OK K G F E->qD X st E Z H
section
variable {S:Type}
def Cp:SM S:=λK ρ=>K.nx ρ
def Hd(m n:SM S):SM S:=λK ρ=>m { K with nx:=λρ1=>n K ρ1 } ρ
def sIf(c:Ev S Bool)(m n:SM S):SM S:=λK ρ=>c K.x (λb ρ1=>if b then m K ρ1 else n K ρ1) ρ
def sTo(sh:List Kd)(m:SM S):SM S:=λK ρ=>m { K with nx:=λρ1=>rdk sh (λs=>K.nx (wr sh s)) ρ1 } ρ
def Dl(i:Nat)(m:Ev S D):SM S:=λK ρ=>m K.x (λd ρ1=>match fW ρ1 i with
 | true=>K.nx (ρ1.set i (some (.fz d)))
 | false=>.bad) ρ
def E6(i:Nat)(m:Ev S (List D)):SM S:=λK ρ=>m K.x (λds ρ1=>match fW ρ1 i with
 | true=>K.nx (ρ1.set i (some (.ol (.l ds))))
 | false=>.bad) ρ
def He(m:Ev S D):SM S:=λK ρ=>m K.x K.rt ρ
def E8(m:Ev S (List D)):SM S:=λK ρ=>m K.x (λds=>K.rl (.l ds)) ρ
def Co(i:Nat):SM S:=λK ρ=>match ρ[i]? with
 | some (some (.ol c))=>K.rl c (ρ.set i none)
 | _=>.bad
def Fc(m:Ev S D):SM S:=λK ρ=>m K.x (λ_ ρ1=>K.nx ρ1) ρ
def oI(ρ:En)(i:Nat)(ds:List D):En:=match ρ[i]? with
 | some (some (.op _))=>ρ.set i (some (.op (.l ds)))
 | _=>ρ.set i (some (.ol (.l ds)))
def AJ(i:Nat)(f:List D->List D->Option (List D))(ms:Ev S (List D)):SM S:=λK ρ=>match gB ρ i with
 | some _=>ms K.x (λas ρ1=>match gB ρ1 i with
  | some ds=>(oM (f ds as)).on (λe=>K.x e ρ1) (λds'=>K.nx (oI ρ1 i ds'))
  | none=>.bad) ρ
 | none=>.bad
def gh{T:Type}(step:T->D->(T->M S)->M S):List D->T->(T->M S)->M S
 | [],s,k=>k s
 | d::r,s,k=>step s d (λs'=>gh step r s' k)
@[reducible] def h7(sh:List Kd)(K:KS S)(kn:SOf sh->M S):KS S:={ K with
  nx:=λρ3=>rdk sh kn ρ3
  ct:=λρ3=>rdk sh kn ρ3
  bk:=λρ3=>rdk sh (λs'=>K.nx (wr sh s')) ρ3 }
def Do(sh:List Kd)(it:Ev S (List D))(t:Tg S)(mb:SM S):SM S:=λK ρ=>it K.x (λds ρ1=>rdk sh (λs=>gh (λs d kn=>t d (λρ2=>mb (h7 sh K kn) ρ2) (wr sh s)) ds s (λs'=>K.nx (wr sh s'))) ρ1) ρ
def bU{T:Type}(step:T->(T->M S)->M S):Nat->T->M S
 | 0,_=>.bad
 | n+1,s=>step s (λs'=>bU step n s')
def tL(sh:List Kd)(fuel:Nat)(c:Ev S Bool)(mb:SM S):SM S:=λK ρ=>rdk sh (λs=>bU (λs kn=>c K.x (λb ρ2=>if b then mb (h7 sh K kn) ρ2 else rdk sh (λs'=>K.nx (wr sh s')) ρ2) (wr sh s)) fuel s) ρ
end
theorem j8(ρ:En)(i:Nat)(ds ds0:List D)(h:gB ρ i=some ds0):oI ρ i ds=ρ.set i ((ρ[i]?.join).map fun | .op _=>.op (.l ds)|_=>.ol (.l ds)):=by
 unfold gB at h
 unfold oI
 split at h
 ·rename_i q;rw[q];rfl
 ·rename_i q;rw[q];rfl
 ·cases h
theorem d4{S:Type}{OK:M S->Prop}(hO:KOk OK){sh:List Kd}{k:SOf sh->M S}{ρ:En}(h:OK (rdk sh k ρ)):∃s,rd sh ρ=some s/\OK (k s):=by
 unfold rdk at h
 split at h
 ·rename_i s e;exact⟨s,e,h⟩
 ·exact(hO h).elim
section
variable {S:Type}{X:Cx}{st:Stmt}{sts rest:List Stmt}{m n:SM S}{e c a b:Expr}{me:Ev S D}{mt:Ev S Bool}{ml:Ev S (List D)}{pos pos' tpos:Pos}
theorem cn:ASs (S:=S) X [] Cp:=λOK K G F Z H ρ E hO hX St ok eo=>Di u4 (eo.nx F Z H ρ (Same.refl _) St ok)
theorem aj(h1:AS X st m)(h2:ASs X rest n):ASs X (st::rest) (Hd m n):=λOK K G F Z H ρ E hO hX St ok eo =>
 Di (lx yM dm) (h1 OK { K with nx:=λρ1=>n K ρ1 } G F Z H ρ _ hO hX St ok ⟨λF' σ' H' ρ' s S' o=>h2 OK K G F' σ' H' ρ' E hO hX S' o (eo.up s),eo.rt,eo.rl,eo.bk,eo.ct⟩)
theorem aD(h1:AS X st m):ASs X [st] m:=λOK K G F Z H ρ E hO hX St ok eo=>Di (A0 yM) (h1 OK K G F Z H ρ E hO hX St ok eo)
theorem BY:AS (S:=S) X (.Pass pos) Cp:=λOK K G F Z H ρ E hO hX St ok eo=>gc A1 (eo.nx F Z H ρ (Same.refl _) St ok)
theorem fx{A B:List Stmt}(hc:AEt X c mt)(ha:ASs X A m)(hb:ASs X B n):AS X (.If c A B pos) (sIf mt m n):=λOK K G F Z H ρ E hO hX St ok eo =>
 gc (FG cZ dm dm) (hc OK K.x _ G F Z H ρ _ hO hX St ok λt F1 H1 ρ1 s1 S1 o1=>by
  cases t with
  | true=>exact ha OK K G F1 Z H1 ρ1 E hO hX S1 o1 (eo.up s1)
  | false=>exact hb OK K G F1 Z H1 ρ1 E hO hX S1 o1 (eo.up s1))
theorem aI{sh:List Kd}(h:AS X st m):AS X st (sTo sh m):=λOK K G F Z H ρ E hO hX St ok eo =>
 h OK { K with nx:=λρ1=>rdk sh (λs=>K.nx (wr sh s)) ρ1 } G F Z H ρ E hO hX St ok ⟨λF' σ' H' ρ' s S' o=>by
  obtain⟨s',e',o'⟩:=d4 hO o
  exact eo.nx F' σ' H' _ s (S'.rd e') o',eo.rt,eo.rl,eo.bk,eo.ct⟩
theorem bh(he:AE X e me):AS X (.Return (some e) pos) (He me):=λOK K G F Z H ρ E hO hX St ok eo =>
 gc (tQ aH) (he OK K.x K.rt G F Z H ρ _ hO hX St ok λd v F1 H1 ρ1 s1 S1 r1 o1=>eo.rt F1 Z H1 ρ1 d v s1 S1 r1 o1)
theorem v3(he:AEl X e ml):AS X (.Return (some e) pos) (E8 ml):=λOK K G F Z H ρ E hO hX St ok eo =>
 gc (tQ aH) (he OK K.x (λds=>K.rl (.l ds)) G F Z H ρ _ hO hX St ok λd v F1 H1 ρ1 s1 S1 r1 o1=>eo.rl F1 Z H1 ρ1 (.l d) v s1 S1 r1 o1)
theorem _root_.L3.StOk.drop{K:Fg}{G:Gh}{F H:Hp}{Z:L2.St}{ρ:En}(S:StOk K G F Z H ρ){i:Nat}(hi:∀c,ρ[i]? ≠ some (some (.op c))):StOk K G F Z H (ρ.set i none):=by
 refine S.weak (by simp) (λj av e=>?_) (λj c e=>?_)
 ·by_cases hj:j=i
  ·subst hj
   exfalso
   by_cases hl:j<ρ.length
   ·rw[List.getElem?_set_self hl]at e;cases e
   ·rw[List.getElem?_eq_none_iff.mpr (by simp;lia)]at e;cases e
  ·rw[List.getElem?_set_ne (Ne.symm hj)]at e;exact e
 ·have hj:j≠i:=by rintro rfl;exact hi c e
  rw[List.getElem?_set_ne (Ne.symm hj)];exact e
theorem BX{i:Nat}{x:Str}(hN:X.N[i]? = some x)(hv:Vis X.env.scope x)(hd:(x==("__debug__" : Str))=false:=by decide)(hcd:(x==("__classdict__" : Str))=false:=by decide):AS (S:=S) X (.Return (some (.Name x pos')) pos) (Co i):=λOK K G F Z H ρ E hO hX St ok eo =>
 gc (tQ (bV hN hv hd hcd)) (by
  unfold Co at ok
  split at ok
  ·rename_i ds q
   obtain⟨a,ea,oa⟩:=St.ow i _ (.inl q)
   refine⟨_,ea,eo.rl F Z H _ ds (.ref a) (Same.refl _) (St.drop λc e=>by rw[q]at e;cases e) ⟨a,rfl,oa,λj f ho e2=>?_⟩ ok⟩
   have hl:i<ρ.length:=(List.getElem?_eq_some_iff.mp q).1
   by_cases hj:j=i
   ·subst hj
    rcases ho with ho|ho<;>(rw[List.getElem?_set_self hl]at ho;cases ho)
   ·have ho':own ρ j f:=by
     unfold own at ho ⊢
     rw[List.getElem?_set_ne (Ne.symm hj)]at ho
     exact ho
    exact hj (St.dj j i _ _ a ho' (.inl q) e2 ea)
  ·exact(hO ok).elim)
theorem aS{i:Nat}{x:Str}(hN:X.N.Nodup)(he:AE X e me)(hi:X.N[i]? = some x:=by rfl)(hx:Loc X.env.scope x:=by exact lo rfl)(hs:swapsWith e (some (.Name x pos')) pos.line X.env=pure false:=by rfl)(hf:X.fn x=true\/X.env.scope.names.lookup x=some .local:=by exact .inl rfl) :
  AS X (.Assign [.Name x pos'] e pos) (Dl i me):=λOK K G F Z H ρ E hO hX St ok eo =>
 gc (oS hN hi hx aH hs hf) (he OK K.x _ G F Z H ρ _ hO hX St ok λd v F1 H1 ρ1 s1 S1 r1 o1=>by
  split at o1
  ·rename_i ho
   obtain⟨hl,hop⟩:=cK ho
   exact eo.nx F1 _ H1 _ s1 (S1.store hop hl (.inl ⟨d,rfl,r1⟩)) o1
  ·exact(hO o1).elim)
theorem eS{i:Nat}{x:Str}(hN:X.N.Nodup)(he:AEl X e ml)(hi:X.N[i]? = some x:=by rfl)(hx:Loc X.env.scope x:=by exact lo rfl)(hs:swapsWith e (some (.Name x pos')) pos.line X.env=pure false:=by rfl)(hf:X.fn x=true\/X.env.scope.names.lookup x=some .local:=by exact .inl rfl) :
  AS X (.Assign [.Name x pos'] e pos) (E6 i ml):=λOK K G F Z H ρ E hO hX St ok eo =>
 gc (oS hN hi hx aH hs hf) (he OK K.x _ G F Z H ρ _ hO hX St ok λd v F1 H1 ρ1 s1 S1 r1 o1=>by
  split at o1
  ·rename_i ho
   obtain⟨hl,hop⟩:=cK ho
   exact eo.nx F1 _ H1 _ s1 (S1.store hop hl (.inr ⟨.l d,rfl,r1⟩)) o1
  ·exact(hO o1).elim)
theorem dw(he:AE X e me)(hs:swapsWith e none pos.line X.env=pure false):AS X (.Expr e pos) (Fc me):=λOK K G F Z H ρ E hO hX St ok eo =>
 gc (oU aH hs) (he OK K.x _ G F Z H ρ _ hO hX St ok λd v F1 H1 ρ1 s1 S1 r1 o1=>eo.nx F1 Z H1 ρ1 s1 S1 o1)
end
section
variable {S:Type}{X:Cx}{m n mb:SM S}{e c a b o:Expr}{me mi:Ev S D}{mt:Ev S Bool}{ml ms:Ev S (List D)}{pos pos' tpos apos cpos:Pos}
theorem Ew{tg iter:Expr}{body:List Stmt}{sh:List Kd}{t:Tg S}(hp:PassesOwn (model X.prog X.w) X.A X.env X.xe)(hc:X.calm=true)(hi:AEi X tg iter ml)(hg:AG X 0 tg t)(hb:ASs X body mb)
  (hs:∀x,foldedSetIterable iter X.env x=pure x):AS X (.For tg iter body [] pos) (Do sh ml t mb):=λOK K G F Z H ρ E hO hX St ok eo =>
 gc (Dv hp hc lA jE dm hs) (hi OK K.x _ G F Z H ρ _ hO hX St ok λds J F1 H1 ρ1 s1 S1 wk o1=>by
  obtain⟨s0,e0,o0⟩:=d4 hO o1
  have S0:=S1.rd e0
  clear o1
  generalize hstep:(λ(s:SOf sh) d (kn:SOf sh->M S)=>t d (λρ2=>mb (h7 sh K kn) ρ2) (wr sh s))=step at o0
  refine⟨λi m σ' H'=>∃F' s,m=ds.length - i/\i<=ds.length/\Same F1 F'/\StOk X.K G F' σ' H' (wr sh s)/\OK (gh step (ds.drop i) s (λs'=>K.nx (wr sh s'))),⟨ds.length,F1,s0,rfl,Nat.zero_le _,Same.refl _,S0,o0⟩,?_⟩
  rintro i m σ' H' ⟨F',s,rfl,hi,s2,S2,go⟩
  by_cases hlt:i<ds.length
  ·have ed:ds.drop i=ds[i]::ds.drop (i+1):=List.drop_eq_getElem_cons hlt
   rw[ed]at go
   dsimp only[gh]at go
   rw[<-hstep]at go
   have again:∀F5 σ5 H5 ρ5,Same F' F5->StOk X.K G F5 σ5 H5 ρ5->OK (rdk sh (λs'=>gh step (ds.drop (i+1)) s' λs'=>K.nx (wr sh s')) ρ5) ->
     ∃m',m'<ds.length - i/\∃F' s,m'=ds.length - (i+1)/\i+1<=ds.length/\Same F1 F'/\StOk X.K G F' σ5 H5 (wr sh s)/\OK (gh step (ds.drop (i+1)) s (λs'=>K.nx (wr sh s'))):=λF5 σ5 H5 ρ5 s5 S5 o5=>by
    obtain⟨s',e',o'⟩:=d4 hO o5
    exact⟨ds.length - (i+1),by omega,F5,s',rfl,hlt,s2.trans s5,S5.rd e',o'⟩
   refine .inr ⟨wk.go i G F' σ' H' _ s2 S2 hlt,λσ4 H4=>∃m',m'<ds.length - i/\∃F' s,m'=ds.length - (i+1)/\i+1<=ds.length/\Same F1 F'/\StOk X.K G F' σ4 H4 (wr sh s)/\OK (gh step (ds.drop (i+1)) s (λs'=>K.nx (wr sh s'))),λσ4 H4 h4=>h4,λx H2 y=>?_⟩
   obtain⟨F3,s3,S3,r3⟩:=wk.yld i G F' σ' H' _ x H2 ds[i] s2 S2 (by simp[hlt]) y
   refine hg OK _ G F3 σ' H2 (wr sh s) x ds[i] _ hO S3 r3 go λσ3 ρ3 S4 _ _ _ o4=>?_
   rw[hstep]at o4
   refine hb OK (h7 sh K λs'=>gh step (ds.drop (i+1)) s' λs'=>K.nx (wr sh s')) G F3 σ3 H2 ρ3 _ hO hX S4 o4 ⟨λF5 σ5 H5 ρ5 s5 S5 o5=>?_,λF5 σ5 H5 ρ5 d v s5=>eo.rt F5 σ5 H5 ρ5 d v ((s1.trans (s2.trans s3)).trans s5),λF5 σ5 H5 ρ5 d v s5=>eo.rl F5 σ5 H5 ρ5 d v ((s1.trans (s2.trans s3)).trans s5),λF5 σ5 H5 ρ5 s5 S5 o5=>?_,λF5 σ5 H5 ρ5 s5 S5 o5=>?_⟩
   ·exact again F5 σ5 H5 ρ5 (s3.trans s5) S5 o5
   ·obtain⟨s',e',o'⟩:=d4 hO o5
    exact eo.nx F5 σ5 H5 _ ((s1.trans (s2.trans s3)).trans s5) (S5.rd e') o'
   ·exact again F5 σ5 H5 ρ5 (s3.trans s5) S5 o5
  ·have ei:i=ds.length:=by omega
   subst ei
   rw[List.drop_length]at go
   exact .inl ⟨wk.stop G F' σ' H' _ s2 S2,eo.nx F' σ' H' _ (s1.trans s2) S2 go⟩)
theorem Ad{body:List Stmt}{sh:List Kd}{fuel:Nat}(hp:PassesOwn (model X.prog X.w) X.A X.env X.xe)(hc:AEt X c mt)(hb:ASs X body mb):AS X (.While c body [] pos) (tL sh fuel mt mb):=λOK K G F Z H ρ E hO hX St ok eo =>
 gc (yL hp cZ dm) (by
  obtain⟨s0,e0,o0⟩:=d4 hO ok
  have S0:=St.rd e0
  clear ok
  generalize hstep:(λ(s:SOf sh) (kn:SOf sh->M S)=>mt K.x (λb ρ2=>if b then mb (h7 sh K kn) ρ2 else rdk sh (λs'=>K.nx (wr sh s')) ρ2) (wr sh s))=step at o0
  refine⟨λm σ' H'=>∃F' s,Same F F'/\StOk X.K G F' σ' H' (wr sh s)/\OK (bU step m s),⟨fuel,F,s0,Same.refl _,S0,o0⟩,?_⟩
  rintro m σ' H' ⟨F',s,s2,S2,go⟩
  cases m with
  | zero=>exact(hO go).elim
  | succ m =>
   dsimp only[bU]at go
   rw[<-hstep]at go
   refine hc OK K.x _ G F' σ' H' (wr sh s) _ hO hX S2 go λt F1 H1 ρ1 s1 S1 o1=>?_
   cases t with
   | false =>
    obtain⟨s',e',o'⟩:=d4 hO (show OK (rdk sh (λs'=>K.nx (wr sh s')) ρ1)from o1)
    exact eo.nx F1 σ' H1 _ (s2.trans s1) (S1.rd e') o'
   | true =>
    have o1':OK (mb (h7 sh K λs'=>bU (λ(s:SOf sh) (kn:SOf sh->M S)=>mt K.x (λb ρ2=>if b then mb (h7 sh K kn) ρ2 else rdk sh (λs'=>K.nx (wr sh s')) ρ2) (wr sh s)) m s') ρ1):=o1
    rw[hstep]at o1'
    have again:∀F5 σ5 H5 ρ5,Same F1 F5->StOk X.K G F5 σ5 H5 ρ5->OK (rdk sh (λs'=>bU step m s') ρ5)->∃m',m'<m+1/\∃F' s,Same F F'/\StOk X.K G F' σ5 H5 (wr sh s)/\OK (bU step m' s):=λF5 σ5 H5 ρ5 s5 S5 o5=>by
     obtain⟨s',e',o'⟩:=d4 hO o5
     exact⟨m,Nat.lt_succ_self _,F5,s',(s2.trans s1).trans s5,S5.rd e',o'⟩
    refine pR ⟨λσ4 H4=>∃m',m'<m+1/\∃F' s,Same F F'/\StOk X.K G F' σ4 H4 (wr sh s)/\OK (bU step m' s),λσ4 H4 h4=>h4,?_⟩
    refine hb OK (h7 sh K λs'=>bU step m s') G F1 σ' H1 ρ1 _ hO hX S1 o1' ⟨λF5 σ5 H5 ρ5 s5 S5 o5=>again F5 σ5 H5 ρ5 s5 S5 o5,λF5 σ5 H5 ρ5 d v s5=>eo.rt F5 σ5 H5 ρ5 d v ((s2.trans s1).trans s5),λF5 σ5 H5 ρ5 d v s5=>eo.rl F5 σ5 H5 ρ5 d v ((s2.trans s1).trans s5),λF5 σ5 H5 ρ5 s5 S5 o5=>?_,λF5 σ5 H5 ρ5 s5 S5 o5=>again F5 σ5 H5 ρ5 s5 S5 o5⟩
    obtain⟨s',e',o'⟩:=d4 hO o5
    exact eo.nx F5 σ5 H5 _ ((s2.trans s1).trans s5) (S5.rd e') o')
theorem gY{K:Fg}{G:Gh}{F H:Hp}{Z:L2.St}{ρ:En}{i:Nat}{ds:List D}(St:StOk K G F Z H ρ)(h:gB ρ i=some ds):∃a vs,Z[i]? = some (some (.ref a))/\H a=some (.lst vs)/\RepL K F vs ds:=by
 obtain⟨a,ea,oa⟩:=St.ow i _ (iR h)
 obtain⟨vs,h1,h2⟩:=oa.he
 exact⟨a,vs,ea,h1,h2⟩
theorem oV{K:Fg}{G:Gh}{F H:Hp}{Z:L2.St}{ρ:En}{i:Nat}{a:Addr}{ds ds':List D}{vs':List V}(St:StOk K G F Z H ρ)(h:gB ρ i=some ds)(ha:Z[i]? = some (some (.ref a)))(r:RepL K F vs' ds') :
  StOk K G F Z (upd H a (.lst vs')) (oI ρ i ds'):=by
 rw[j8 ρ i ds' ds h]
 exact St.change (iR h) ha (c':=.l ds') ⟨_,aK,r⟩
def m7(ds as:List D):Option (List D):=match as with
 | [d]=>if ds.length<sizeLine then some (ds++[d])else none
 | _=>none
theorem j3{i:Nat}{x:Str}(hN:X.N[i]? = some x)(hv:Vis X.env.scope x)(he:AEa X [e] ms)
  (hbase:attributeBase (.Name x pos') "append" X.env (eval (.Name x pos') X.env)=eval (.Name x pos') X.env)
  (hfew:((backTo cpos (starEach [e] X.env)).all (λx=>!x.1)&&(backToKw cpos (keywordEach [] X.env)).all (λx=>x.1.isSome)
   && decide ([e].length+([]:List Keyword).length+(if([]:List Keyword).isEmpty then 0 else 1)<30))=true)
  (hline:(apos.endLine==cpos.line)=true) (hs:starEach [e] X.env=(false,eval e X.env)::starEach [] X.env) (hplain:(backTo cpos (starEach [] X.env)).any (·.1)=false)
  (hsw:swapsWith (.Call (.Attribute (.Name x pos') "append" apos) [e] [] cpos) none pos.line X.env=pure false) (hd:(x==("__debug__" : Str))=false:=by decide) (hcd:(x==("__classdict__" : Str))=false:=by decide) :
  AS X (.Expr (.Call (.Attribute (.Name x pos') "append" apos) [e] [] cpos) pos) (AJ i m7 ms):=λOK K G F Z H ρ E hO hX St ok eo =>
 gc (oU (FJ PySem.F.plainAttrs_list PySem.F.slot_list_append PySem.F.type_list_append wW (bV hN hv hd hcd) bC hbase hfew hline hs hplain) hsw) (by
  unfold AJ at ok
  split at ok
  case h_2=>exact(hO ok).elim
  ·rename_i ds0 h0
   obtain⟨a,vs0,ea,hh,_⟩:=gY St h0
   refine⟨_,ea,.inl ⟨rfl,vs0,.inl (.inl hh)⟩,he OK K.x _ G F Z H ρ _ hO hX St ok λas ws F1 H1 ρ1 s1 S1 _ r1 o1=>?_⟩
   split at o1
   ·rename_i ds hds
    obtain⟨ds',hf,o2⟩:=eY hO o1
    obtain⟨a',vs,ea',hh',rv⟩:=gY S1 hds
    rw[ea]at ea'
    injection ea' with ea';injection ea' with ea';injection ea' with ea'
    subst ea'
    unfold m7 at hf
    split at hf
    ·split at hf
     ·rename_i hz
      cases hf
      cases r1 with
      | cons ra rb =>
       cases rb
       refine⟨a,vs,_,rfl,rfl,hh',by rw[rv.length];exact hz,?_⟩
       exact eo.nx F1 Z _ _ s1 (oV S1 hds ea (rv.append (.cons ra .nil))) o2
     ·cases hf
    ·cases hf
   ·exact(hO o1).elim)
end
theorem map_some_get{α:Type}{l:List α}{i:Nat}{x:α}:(l.map some)[i]? = some (some x)↔l[i]? = some x:=by
 rw[List.getElem?_map]
 cases l[i]? <;> simp
open Classical in
noncomputable def aO(G:Gh)(Z:L2.St)(ρ:En)(H:Hp)(ex:Option Addr):Hp:=λb=>if(∃(i:Nat) (c:OC),own ρ i c/\Z[i]? = some (some (V.ref b)))/\some b≠ex then H b else G.O b
def setC(ρ:En)(j:Nat)(c:OC):En:=ρ.set j ((ρ[j]?.join).map fun | .op _=>.op c|_=>.ol c)
section
variable {K:Fg}{G:Gh}{F F' H H':Hp}{Z:L2.St}{ρ:En}{vs:List V}{ds:List D}
theorem bX{ex:Option Addr}(S:StOk K G F Z H ρ){b:Addr}{o:HO}(h:G.O b=some o):aO G Z ρ H ex b=some o:=by
 unfold aO
 rw[if_neg]
 ·exact h
 ·rintro⟨⟨i,c,ho,e⟩,_⟩
  obtain⟨a,e',oa⟩:=S.ow i c ho
  rw[e]at e'
  injection e' with e';injection e' with e';injection e' with e'
  subst e'
  rw[oa.no]at h;cases h
theorem eO{ex:Option Addr}{b:Addr}{i:Nat}{c:OC}(ho:own ρ i c)(e:Z[i]? = some (some (V.ref b)))(hx:some b≠ex):aO G Z ρ H ex b=H b:=by
 unfold aO
 rw[if_pos ⟨⟨i,c,ho,e⟩,hx⟩]
theorem nX{ex:Option Addr}(S:StOk K G F Z H ρ):Same (aO G Z ρ H ex) H:=λb o h=>by
 unfold aO at h
 split at h
 ·exact h
 ·exact S.oh b o h
theorem _root_.L3.Held.notup{K:Fg}{F H:Hp}{a:Addr}{c:OC}{o:HO}(h:Held K F H a c)(e:H a=some o):B9 o:=by
 cases c with
 | l ds=>obtain⟨vs,h1,_⟩:=h;rw[h1]at e;cases e;exact True.intro
 | t es=>obtain⟨vs,h1,_⟩:=h;rw[h1]at e;cases e;exact True.intro
 | k es=>obtain⟨vs,h1,_⟩:=h;rw[h1]at e;cases e;exact True.intro
 | i x ns ds=>obtain⟨C,dx,fs,h1,_⟩:=h;rw[h1]at e;cases e;exact True.intro
theorem nY{ex:Option Addr}(S:StOk K G F Z H ρ):∀b o,aO G Z ρ H ex b=some o->F b=none/\B9 o:=λb o h=>by
 unfold aO at h
 split at h
 ·rename_i hc
  obtain⟨⟨i,c,ho,e⟩,_⟩:=hc
  obtain⟨a,e',oa⟩:=S.ow i c ho
  rw[e]at e'
  injection e' with e';injection e' with e';injection e' with e'
  subst e'
  exact⟨oa.nf,oa.he.notup h⟩
 ·exact S.fo b o h
theorem iF{i:Nat}{av:AV}(h:((ds.map AV.fz).map some)[i]? = some (some av)):∃d,av=.fz d/\ds[i]? = some d:=by
 rw[map_some_get,List.getElem?_map]at h
 cases q:ds[i]? with
 | none=>rw[q]at h;cases h
 | some d=>rw[q]at h;cases h;exact⟨d,rfl,rfl⟩
theorem e7{i:Nat}{c:OC}(h:own ((ds.map AV.fz).map some) i c):False:=by
 rcases h with h|h<;>(obtain⟨d,z,_⟩:=iF h;cases z)
theorem cf(S:StOk K G F Z H ρ)(r:RepL K F vs ds):StOk K ⟨λ_=>none,aO G Z ρ H none,F⟩ F (vs.map some) H ((ds.map AV.fz).map some):=by
 refine⟨S.fh,nX S,nY S,by simp[r.length],λi d h=>?_,λi c h=>(e7 h).elim,λi j c e a h=>(e7 h).elim,λi a h=>(nomatch h),λi c h=>?_,Same.refl _⟩
 ·obtain⟨d',z,e⟩:=iF h
  cases z
  obtain⟨v,e1,e2⟩:=r.get e
  exact⟨v,map_some_get.mpr e1,e2⟩
 ·obtain⟨d',z,e⟩:=iF h;cases z
theorem eF{avs':List AV}(S:StOk K G F Z H ρ)(s1:Same F F')(S1:StOk K ⟨λ_=>none,aO G Z ρ H none,F⟩ F' (vs.map some) H' (avs'.map some)) :
  StOk K G F' Z H' ρ/\∀v c,Frs K ⟨λ_=>none,aO G Z ρ H none,F⟩ F' (vs.map some) H' (avs'.map some) v c->Frs K G F' Z H' ρ v c:=by
 have oo:∀b,aO G Z ρ H none b=none->G.O b=none:=λb h=>by
  cases q:G.O b with
  | none=>rfl
  | some o=>rw[bX S q]at h;cases h
 refine⟨⟨S1.fh,λb o h=>S1.oh b o (bX S h),λb o h=>S1.fo b o (bX S h),S.ln,λi d h=>?_,λi c h=>?_,S.dj,S.pp,S.pq,S.fb.trans s1⟩,λv cc h=>?_⟩
 ·obtain⟨v,e,r⟩:=S.fz i d h;exact⟨v,e,r.mono s1⟩
 ·obtain⟨a,e,oa⟩:=S.ow i c h
  obtain⟨o,ho⟩:=oa.he.some
  have q:aO G Z ρ H none a=some o:=by rw[eO h e (by simp)];exact ho
  exact⟨a,e,(S1.fo a o q).1,oa.no,(oa.he.mono s1).at (by rw[S1.oh a o q,ho])⟩
 ·obtain⟨a,rfl,oa,_⟩:=h
  refine⟨a,rfl,⟨oa.nf,oo a oa.no,oa.he⟩,λi e ho q=>?_⟩
  obtain⟨a',e',oa'⟩:=S.ow i e ho
  rw[q]at e'
  injection e' with e';injection e' with e';injection e' with e'
  subst e'
  obtain⟨o,hh⟩:=oa'.he.some
  have:=oa.no
  rw[show(⟨λ_=>none,aO G Z ρ H none,F⟩:Gh).O a=aO G Z ρ H none a from rfl,eO ho q (by simp),hh]at this
  cases this
def P1(a:Addr):Nat->Option Addr
 | 0=>some a
 | _=>none
theorem g7{j:Nat}{c:OC}{a:Addr}(S:StOk K G F Z H ρ)(hj:own ρ j c)(ha:Z[j]? = some (some (V.ref a)))(r:RepL K F vs ds) :
  StOk K ⟨P1 a,aO G Z ρ H (some a),F⟩ F ((V.ref a::vs).map some) H ((AV.op c::ds.map AV.fz).map some):=by
 obtain⟨a',e',oa⟩:=S.ow j c hj
 rw[ha]at e'
 injection e' with e';injection e' with e';injection e' with e'
 subst e'
 have at0:∀i d,own ((AV.op c::ds.map AV.fz).map some) i d->i=0/\d=c:=λi d h=>by
  cases i with
  | zero=>rcases h with h|h<;>(simp at h);exact⟨rfl,h.symm⟩
  | succ i=>exact(e7 (ds:=ds) (i:=i) (c:=d) (by unfold own at h ⊢;simpa using h)).elim
 refine⟨S.fh,nX S,nY S,by simp[r.length],λi d h=>?_,λi d h=>?_,λi k d e b h1 h2 _ _=>?_,λi b h=>?_,λi d h=>?_,Same.refl _⟩
 ·cases i with
  | zero=>simp at h
  | succ i =>
   obtain⟨d',z,e⟩:=iF (ds:=ds) (i:=i) (av:=.fz d) (by simpa using h)
   cases z
   obtain⟨v,e1,e2⟩:=r.get e
   exact⟨v,by simpa using e1,e2⟩
 ·obtain⟨rfl,rfl⟩:=at0 i d h
  refine⟨a,rfl,oa.nf,?_,oa.he⟩
  show aO G Z ρ H (some a) a=none
  unfold aO
  rw[if_neg (by simp)]
  exact oa.no
 ·rw[(at0 i d h1).1,(at0 k e h2).1]
 ·cases i with
  | zero=>cases h;exact⟨rfl,c,rfl⟩
  | succ i=>cases h
 ·cases i with
  | zero=>exact⟨a,rfl⟩
  | succ i =>
   obtain⟨d',z,e⟩:=iF (ds:=ds) (i:=i) (av:=.op d) (by simpa using h)
   cases z
theorem iI{j:Nat}{c c':OC}{a:Addr}{l:List AV}(S:StOk K G F Z H ρ)(hj:own ρ j c)(ha:Z[j]? = some (some (V.ref a)))(s1:Same F F')
  (S1:StOk K ⟨P1 a,aO G Z ρ H (some a),F⟩ F' ((V.ref a::vs).map some) H' ((AV.op c'::l).map some)) :
  StOk K G F' Z H' (setC ρ j c')/\∀v cc,Frs K ⟨P1 a,aO G Z ρ H (some a),F⟩ F' ((V.ref a::vs).map some) H' ((AV.op c'::l).map some) v cc->Frs K G F' Z H' (setC ρ j c') v cc:=by
 have oo:∀b,aO G Z ρ H (some a) b=none->G.O b=none:=λb h=>by
  cases q:G.O b with
  | none=>rfl
  | some o=>rw[bX S q]at h;cases h
 obtain⟨a',e',oa⟩:=S.ow j c hj
 rw[ha]at e'
 injection e' with e';injection e' with e';injection e' with e'
 subst e'
 have hl:j<ρ.length:=by rcases hj with h|h<;>exact(List.getElem?_eq_some_iff.mp h).1
 generalize hav:((ρ[j]?.join).map λ(x:AV)=>match x with | .op _=>AV.op c'|_=>AV.ol c')=av
 have hset:setC ρ j c'=ρ.set j av:=by rw[<-hav];rfl
 rw[hset]
 have ne:∀i,i≠j->(ρ.set j av)[i]? = ρ[i]?:=λi hi=>List.getElem?_set_ne (Ne.symm hi)
 have atj:(ρ.set j av)[j]? = some av:=List.getElem?_set_self hl
 have kind:(ρ[j]? = some (some (.ol c))/\av=some (.ol c'))\/(ρ[j]? = some (some (.op c))/\av=some (.op c')):=by
  rcases hj with h|h
  ·exact .inl ⟨h,by rw[<-hav,h];rfl⟩
  ·exact .inr ⟨h,by rw[<-hav,h];rfl⟩
 have owni:∀i e,own (ρ.set j av) i e->(i=j/\e=c')\/(i≠j/\own ρ i e):=λi e h=>by
  by_cases hi:i=j
  ·subst hi
   unfold own at h
   rw[atj]at h
   rcases kind with ⟨_,k⟩|⟨_,k⟩<;>rw[k]at h<;>rcases h with h|h<;>cases h<;>exact .inl ⟨rfl,rfl⟩
  ·unfold own at h ⊢
   rw[ne i hi]at h
   exact .inr ⟨hi,h⟩
 have nea:∀i e b,i≠j->own ρ i e->Z[i]? = some (some (V.ref b))->b≠a:=λi e b hi ho q z=>by
  subst z
  exact hi (S.dj i j e c b ho hj q ha)
 have own1:OwnAt K ⟨P1 a,aO G Z ρ H (some a),F⟩ F' H' a c':=by
  obtain⟨b,e1,ob⟩:=S1.ow 0 c' (.inr rfl)
  have:V.ref a=V.ref b:=by simpa using e1
  injection this with this
  subst this
  exact ob
 refine⟨⟨S1.fh,λb o h=>S1.oh b o (bX S h),λb o h=>S1.fo b o (bX S h),by simpa using S.ln,λi d h=>?_,λi e h=>?_,λi k d e b h1 h2=>?_,λi b h=>?_,λi d h=>?_,S.fb.trans s1⟩,λv cc h=>?_⟩
 ·by_cases hi:i=j
  ·subst hi
   rw[atj]at h
   rcases kind with ⟨_,k⟩|⟨_,k⟩<;>rw[k]at h<;>cases h
  ·rw[ne i hi]at h
   obtain⟨v,e,r⟩:=S.fz i d h;exact⟨v,e,r.mono s1⟩
 ·rcases owni i e h with ⟨rfl,rfl⟩|⟨hi,ho⟩
  ·exact⟨a,ha,own1.nf,oa.no,own1.he⟩
  ·obtain⟨b,eb,ob⟩:=S.ow i e ho
   obtain⟨o,hh⟩:=ob.he.some
   have q:aO G Z ρ H (some a) b=some o:=by rw[eO ho eb (λz=>nea i e b hi ho eb (Option.some.inj z))];exact hh
   exact⟨b,eb,(S1.fo b o q).1,ob.no,(ob.he.mono s1).at (by rw[S1.oh b o q,hh])⟩
 ·have f:∀i e,own (ρ.set j av) i e->∃d,own ρ i d:=λi e h=>by
   rcases owni i e h with ⟨rfl,_⟩|⟨_,ho⟩
   ·exact⟨c,hj⟩
   ·exact⟨e,ho⟩
  exact S.dj i k _ _ b (f i d h1).choose_spec (f k e h2).choose_spec
 ·obtain⟨q1,e,q2⟩:=S.pp i b h
  refine⟨q1,?_⟩
  by_cases hi:i=j
  ·subst hi
   rcases kind with ⟨k1,k⟩|⟨k1,k⟩
   ·rw[k1]at q2;cases q2
   ·exact⟨c',by rw[atj,k]⟩
  ·exact⟨e,by rw[ne i hi];exact q2⟩
 ·by_cases hi:i=j
  ·subst hi
   rcases kind with ⟨k1,k⟩|⟨k1,k⟩
   ·rw[atj,k]at h;cases h
   ·exact S.pq i c k1
  ·rw[ne i hi]at h;exact S.pq i d h
 ·obtain⟨b,rfl,ob,nn⟩:=h
  refine⟨b,rfl,⟨ob.nf,oo b ob.no,ob.he⟩,λi e ho q=>?_⟩
  rcases owni i e ho with ⟨rfl,_⟩|⟨hi,ho'⟩
  ·rw[ha]at q
   injection q with q;injection q with q;injection q with q
   subst q
   exact nn 0 c' (.inr rfl) rfl
  ·obtain⟨b',eb,ob'⟩:=S.ow i e ho'
   rw[q]at eb
   injection eb with eb;injection eb with eb;injection eb with eb
   subst eb
   obtain⟨o,hh⟩:=ob'.he.some
   have:=ob.no
   rw[show(⟨P1 a,aO G Z ρ H (some a),F⟩:Gh).O b=aO G Z ρ H (some a) b from rfl,eO ho' q (λz=>nea i e b hi ho' q (Option.some.inj z)),hh]at this
   cases this
end
abbrev fzs(ds:List D):En:=(ds.map AV.fz).map some
def KD:KS D:=⟨λ_=>.ret .none,λd _=>.ret d,λ_ _=>.bad,λ_=>.bad,λ_=>.bad,λe _=>.exc e⟩
def asL{S:Type}(c:OC)(k:List D->M S):M S:=match c with
 | .l ds=>k ds
 | _=>.bad
def KL:KS (List D):=⟨λ_=>.bad,λ_ _=>.bad,λc _=>asL c .ret,λ_=>.bad,λ_=>.bad,λe _=>.exc e⟩
def at0{S:Type}(ρ:En)(k:List D->M S):M S:=match (ρ[0]? : Option (Option AV))with
 | some (some (AV.op (OC.l f)))=>k f
 | _=>.bad
def K1:KS (D×List D):=⟨λρ=>at0 ρ λf=>.ret (.none,f),λd ρ=>at0 ρ λf=>.ret (d,f),λ_ _=>.bad,λ_=>.bad,λ_=>.bad,λe _=>.exc e⟩
def fU(K:Fg)(G:Gh)(E:XK){α:Type}(m:M α)(C:α->Prop):Prop:=match m with
 | .ret a=>C a
 | .exc x=>∀F' H' Cl dd,GOk G F' H'->XR K F' Cl dd x->E (.ref Cl) dd H'
 | .bad=>False
def spD(K:Fg)(n:Nat)(mf:List D->M D):Sp:=λvs H Q E=>∃G F ds,vs.length=n/\StOk K G F (vs.map some) H (fzs ds)/\fU K G E (mf ds) λd=>∀v F' H',Same F F'->StOk K G F' (vs.map some) H' (fzs ds)->Rep K F' v d->Q v H'
def spL(K:Fg)(n:Nat)(mf:List D->M (List D)):Sp:=λvs H Q E=>∃G F ds,vs.length=n/\StOk K G F (vs.map some) H (fzs ds)/\fU K G E (mf ds) λd=>∀v F' H',Same F F'->StOk K G F' (vs.map some) H' (fzs ds)->Frs K G F' (vs.map some) H' (fzs ds) v (.l d)->Q v H'
def sp1(K:Fg)(n:Nat)(mf:List D->List D->M (D×List D)):Sp:=λvs H Q E=>∃G F f ds,vs.length=n/\StOk K G F (vs.map some) H (some (.op (.l f))::fzs ds)/\fU K G E (mf f ds) λr =>
 ∀v F' H',Same F F'->StOk K G F' (vs.map some) H' (some (.op (.l r.2))::fzs ds)->Rep K F' v r.1->Q v H'
section
variable {K:Fg}{G:Gh}{F F' H H':Hp}{vs:List V}{Z:L2.St}{ρ:En}{ds:List D}
theorem qg(S:StOk K G F (vs.map some) H (fzs ds))(s1:Same F F')(S1:StOk K G F' Z H' ρ):StOk K G F' (vs.map some) H' (fzs ds):=by
 refine⟨S1.fh,S1.oh,S1.fo,S.ln,λi d q=>?_,λi c q=>(e7 q).elim,λi j c e a q=>(e7 q).elim,S.pp,S.pq,S1.fb⟩
 obtain⟨v,e,r⟩:=S.fz i d q
 exact⟨v,e,r.mono s1⟩
theorem vU{v:V}{c:OC}(S1:StOk K G F' Z H' ρ)(h:Frs K G F' Z H' ρ v c):Frs K G F' (vs.map some) H' (fzs ds) v c:=by
 obtain⟨a,rfl,oa,_⟩:=h
 exact⟨a,rfl,oa,λi e q=>(e7 q).elim⟩
theorem own1{f:List D}{i:Nat}{c:OC}(h:own (some (.op (.l f))::fzs ds) i c):i=0/\c=.l f:=by
 cases i with
 | zero=>rcases h with h|h<;>simp at h;exact⟨rfl,h.symm⟩
 | succ i=>exact(e7 (ds:=ds) (i:=i) (c:=c) (by unfold own at h ⊢;simpa using h)).elim
theorem z6{f f':List D}(S:StOk K G F (vs.map some) H (some (.op (.l f))::fzs ds))(s1:Same F F')(S1:StOk K G F' Z H' ρ)(h0:ρ[0]? = some (some (.op (.l f')))) :
  StOk K G F' (vs.map some) H' (some (.op (.l f'))::fzs ds)/\∀v c,Frs K G F' Z H' ρ v c->Frs K G F' (vs.map some) H' (some (.op (.l f'))::fzs ds) v c:=by
 obtain⟨a,ha⟩:=S1.pq 0 _ h0
 obtain⟨e1,_⟩:=S1.pp 0 a ha
 obtain⟨e2,_⟩:=S.pp 0 a ha
 obtain⟨b,eb,ob⟩:=S1.ow 0 _ (.inr h0)
 rw[e1]at eb
 injection eb with eb;injection eb with eb;injection eb with eb
 subst eb
 have only:∀i b,G.P i=some b->i=0:=λi b h=>by
  obtain⟨_,c,q⟩:=S.pp i b h
  exact(own1 (.inr q)).1
 refine⟨⟨S1.fh,S1.oh,S1.fo,S.ln,λi d q=>?_,λi c q=>?_,λi j c e b q1 q2 _ _=>?_,λi b q=>?_,λi c q=>?_,S1.fb⟩,λv c h=>?_⟩
 ·cases i with
  | zero=>simp at q
  | succ i =>
   obtain⟨v,e,r⟩:=S.fz (i+1) d (by simpa using q)
   exact⟨v,e,r.mono s1⟩
 ·obtain⟨rfl,rfl⟩:=own1 q
  exact⟨a,e2,ob⟩
 ·rw[(own1 q1).1,(own1 q2).1]
 ·have:=only i b q
  subst this
  exact⟨(S.pp 0 b q).1,_,rfl⟩
 ·obtain⟨rfl,_⟩:=own1 (.inr q)
  exact⟨a,ha⟩
 ·obtain⟨b,rfl,ob2,nn⟩:=h
  refine⟨b,rfl,ob2,λi e q z=>?_⟩
  obtain⟨rfl,rfl⟩:=own1 q
  rw[e2]at z
  injection z with z;injection z with z;injection z with z
  subst z
  exact nn 0 _ (.inr h0) e1
end
section
variable {P:Program}{w:World}{K:Fg}{mg:zzl}{base:Heap}{x qual:Str}{st:Stmt}{f:Addr}{fd:FuncData}{N ps:List Str}{k:Nat}
theorem kX{vs:List V}{ds:List D}{G:Gh}{F H:Hp}(hl:vs.length=ps.length)(S0:StOk K G F (vs.map some) H (fzs ds)):StOk K G F (L2.start N vs) H (fzs ds++List.replicate (N.length - ps.length) none):=by
 have e0:L2.start N vs=vs.map some++List.replicate (N.length - ps.length) none:=by unfold L2.start;rw[hl]
 rw[e0]
 exact S0.grow _
theorem xC{sp:Sp}(Fn:Fun K x qual st f fd)(S:FnScope N ps (au st))(len:∀vs H Q E,sp vs H Q E->vs.length=ps.length)
  (hbody:∀(cdv:Value) (A:Around) (outer:List Env) (s:Shared) (H:Hp) (vs:List V) (Q:VK) (E:XK),Room k (A.deeper (envOfC qual (au st) s.heap.objs.size f cdv))->sp vs H Q E ->
   ∃t,PSs (jt (CX1 P w) P w K mg base N qual (au st) f cdv A outer s H E) (bf st) t/\t { nx:=λ_ H'=>Q .non H',rt:=Q } (start N vs) H):FnOk P w K mg base (CX1 P w) (k+1) f fd ps sp:=by
 obtain⟨oc,od,kV,doc,pm,an,cdv,ct,osl,rfl,lk,hcd⟩:=Fn.ex
 exact GD lk hcd S len λA outer s H vs Q E hr hsp=>hbody cdv A outer s H vs Q E hr hsp
theorem rY{α:Type}{C:α->Prop}{N:List Str}{qual:Str}{scope:Scope}{f:Addr}{cdv:Value}{A:Around}{outer:List Env}{s:Shared}{H F:Hp}{E:XK}{G:Gh}{ρ:En}{e:Ex}(h:fU K G E (M.exc e:M α) C):XW (jt (CX1 P w) P w K mg base N qual scope f cdv A outer s H E) G F ρ e :=
 λF' H' s' a Cl dd pins Z g _ I xs _ xr=>Bp I xs (h F' H' Cl dd g xr)
theorem eC{mb:SM D}{mf:List D->M D}(Fn:Fun K x qual st f fd)(Sc:FnScope N ps (au st))
  (hb:∀(cdv:Value) (A:Around) (outer:List Env) (s:Shared) (H:Hp) (E:XK),Room k (A.deeper (envOfC qual (au st) s.heap.objs.size f cdv)) ->
   ASs (jt (CX1 P w) P w K mg base N qual (au st) f cdv A outer s H E) (bf st) mb)
  (hm:∀ds,ds.length=ps.length->mf ds=mb KD (fzs ds++List.replicate (N.length - ps.length) none)):FnOk P w K mg base (CX1 P w) (k+1) f fd ps (spD K ps.length mf):=by
 refine xC Fn Sc (λvs H Q E h=>?_) (λcdv A outer s H vs Q E hr h=>?_)
 ·obtain⟨_,_,_,h1,_⟩:=h;exact h1
 ·obtain⟨G,F0,ds,h1,S0,e⟩:=h
  have hl:ds.length=ps.length:=by have:=S0.ln;simp at this;lia
  rw[hm ds hl]at e
  refine⟨_,dm,hb cdv A outer s H E hr (λm=>fU K G E m _) KD G F0 _ H _ _ (λz=>z) (λF ρ e z=>rY z) (kX h1 S0) e ?_⟩
  exact⟨λF' σ' H' ρ' s S' o=>(by exact o .non F' H' s (qg S0 s S') .non),λF' σ' H' ρ' d' v s S' r o=>(by exact o v F' H' s (qg S0 s S') r),λF' σ' H' ρ' d' v s S' r o=>(o:False).elim,λF' σ' H' ρ' s S' o=>(o:False).elim,λF' σ' H' ρ' s S' o=>(o:False).elim⟩
theorem Ez{S:Type}{c:OC}{k:List D->M S}{K:Fg}{G:Gh}{E:XK}{C:S->Prop}(h:fU K G E (asL c k) C):∃ds,c=.l ds/\fU K G E (k ds) C:=by
 cases c with
 | l ds=>exact⟨ds,rfl,h⟩
 | _=>exact(h:False).elim
theorem zL{mb:SM (List D)}{mf:List D->M (List D)}(Fn:Fun K x qual st f fd)(Sc:FnScope N ps (au st))
  (hb:∀(cdv:Value) (A:Around) (outer:List Env) (s:Shared) (H:Hp) (E:XK),Room k (A.deeper (envOfC qual (au st) s.heap.objs.size f cdv)) ->
   ASs (jt (CX1 P w) P w K mg base N qual (au st) f cdv A outer s H E) (bf st) mb)
  (hm:∀ds,ds.length=ps.length->mf ds=mb KL (fzs ds++List.replicate (N.length - ps.length) none)):FnOk P w K mg base (CX1 P w) (k+1) f fd ps (spL K ps.length mf):=by
 refine xC Fn Sc (λvs H Q E h=>?_) (λcdv A outer s H vs Q E hr h=>?_)
 ·obtain⟨_,_,_,h1,_⟩:=h;exact h1
 ·obtain⟨G,F0,ds,h1,S0,e⟩:=h
  have hl:ds.length=ps.length:=by have:=S0.ln;simp at this;lia
  rw[hm ds hl]at e
  refine⟨_,dm,hb cdv A outer s H E hr (λm=>fU K G E m _) KL G F0 _ H _ _ (λz=>z) (λF ρ e z=>rY z) (kX h1 S0) e ?_⟩
  exact⟨λF' σ' H' ρ' s S' o=>(o:False).elim,λF' σ' H' ρ' d' v s S' r o=>(o:False).elim,λF' σ' H' ρ' d' v s S' r o=>(by obtain⟨ds',rfl,o⟩:=Ez o;exact o v F' H' s (qg S0 s S') (vU S' r)),λF' σ' H' ρ' s S' o=>(o:False).elim,λF' σ' H' ρ' s S' o=>(o:False).elim⟩
theorem Ab{S:Type}{ρ:En}{k:List D->M S}{K:Fg}{G:Gh}{E:XK}{C:S->Prop}(h:fU K G E (at0 ρ k) C):∃f,ρ[0]? = some (some (AV.op (OC.l f)))/\fU K G E (k f) C:=by
 unfold at0 at h
 split at h
 ·rename_i f q;exact⟨f,q,h⟩
 ·exact h.elim
theorem Aw{vs:List V}{ds g:List D}{G:Gh}{F H:Hp}(hl:vs.length=ps.length)(S0:StOk K G F (vs.map some) H (some (.op (.l g))::fzs ds)):StOk K G F (L2.start N vs) H (some (.op (.l g))::fzs ds++List.replicate (N.length - ps.length) none):=by
 have e0:L2.start N vs=vs.map some++List.replicate (N.length - ps.length) none:=by unfold L2.start;rw[hl]
 rw[e0]
 exact S0.grow _
theorem pW{mb:SM (D×List D)}{mf:List D->List D->M (D×List D)}(Fn:Fun K x qual st f fd)(Sc:FnScope N ps (au st))
  (hb:∀(cdv:Value) (A:Around) (outer:List Env) (s:Shared) (H:Hp) (E:XK),Room k (A.deeper (envOfC qual (au st) s.heap.objs.size f cdv)) ->
   ASs (jt (CX1 P w) P w K mg base N qual (au st) f cdv A outer s H E) (bf st) mb)
  (hm:∀g ds,ds.length+1=ps.length->mf g ds=mb K1 (some (.op (.l g))::fzs ds++List.replicate (N.length - ps.length) none)):FnOk P w K mg base (CX1 P w) (k+1) f fd ps (sp1 K ps.length mf):=by
 refine xC Fn Sc (λvs H Q E h=>?_) (λcdv A outer s H vs Q E hr h=>?_)
 ·obtain⟨_,_,_,_,h1,_⟩:=h;exact h1
 ·obtain⟨G,F0,g,ds,h1,S0,e⟩:=h
  have hl:ds.length+1=ps.length:=by have:=S0.ln;simp at this;lia
  rw[hm g ds hl]at e
  refine⟨_,dm,hb cdv A outer s H E hr (λm=>fU K G E m _) K1 G F0 _ H _ _ (λz=>z) (λF ρ e z=>rY z) (Aw h1 S0) e ?_⟩
  refine⟨λF' σ' H' ρ' s S' o=>?_,λF' σ' H' ρ' d' v s S' rv o=>?_,λF' σ' H' ρ' d' v s S' r o=>(o:False).elim,λF' σ' H' ρ' s S' o=>(o:False).elim,λF' σ' H' ρ' s S' o=>(o:False).elim⟩
  ·obtain⟨f',q,e'⟩:=Ab o
   exact e' .non F' H' s (z6 S0 s S' q).1 .non
  ·obtain⟨f',q,e'⟩:=Ab o
   exact e' v F' H' s (z6 S0 s S' q).1 rv
end
structure CF(P:Program)(w:World)(K:Fg)(mg:zzl)(base:Heap)(x:Str)(k:Nat)(sp:Sp):Prop where
 ex:∃(f:Addr) (fd:FuncData) (ps:List Str),FnOk P w K mg base (CX1 P w) k f fd ps sp/\mg x=some (.ref f)/\PySem.W.keepIn K (.ref f)=true/\L2.Binds K fd ps []
def Hx(mf:List D->M D)(ps:Pa D):Pu D:=λρ=>ps (λds=>mf ds) ρ
def Hw(mf:List D->M (List D))(ps:Pa (List D)):Pu (List D):=λρ=>ps (λds=>mf ds) ρ
section
variable {S:Type}
def HM(mf:List D->M D)(ms:Ev S (List D)):Ev S D:=λx k ρ=>ms x (λds ρ1=>(mf ds).on (λe=>x e ρ1) (λd=>k d ρ1)) ρ
def HN(mf:List D->List D->M (D×List D))(i:Nat)(ms:Ev S (List D)):Ev S D:=λx k ρ=>ms x (λds ρ1=>match gB ρ1 i with
 | some f=>(mf f ds).on (λe=>x e ρ1) (λr=>k r.1 (oI ρ1 i r.2))
 | none=>.bad) ρ
end
def EX(X:Cx)(G:Gh)(Z:L2.St):XK:=λc dd H'=>∃x ρ F1 F' C,c=.ref C/\XW X G F1 ρ x/\GOk G F' H'/\FzOk X.K F' Z ρ/\XR X.K F' C dd x
theorem XS.older{H:Hp}{h:Heap}{lo lo':Nat}{e C:Addr}{dd:Option Addr}(xs:XS H h lo e C dd)(hl:lo'<=lo):XS H h lo' e C dd:=by
 obtain⟨oe,vs,q,c,d,z,z1,k⟩:=xs.obj
 refine⟨Nat.le_trans hl xs.yg,xs.trk,oe,vs,q,c,d,z,z1,k.imp id ?_⟩
 rintro⟨T,oT,ts,k,ne,l,r⟩
 exact⟨T,oT,ts,k,ne,Nat.le_trans hl l,r⟩
def mH(X:Cx)(Z:L2.St)(E:XK):Prop:=∀(pins:zzk) (H:Hp) (s:Shared) (e:Value) (s':Shared),Inv X pins Z H s->CX1 X.prog X.w X.stack H s E e s'->X.xe e s'
theorem j9{X:Cx}{G:Gh}{Z:L2.St}:mH X Z (EX X G Z):=λpins H s e s' I h=>by
 obtain⟨a,C,dd,H',rfl,ho,hb,un,hk,xs,x,ρ,F1,F',C',ec,xw,g,fz,xr⟩:=h
 cases ec
 refine xw F' H' s' a C dd pins Z g fz (I.call' ho un hk hb λb z=>absurd z (by simp)) (xs.older I.sz) (λp hp z=>?_) xr
 exact absurd (Nat.lt_of_lt_of_le (Heap.lt_size (I.pin p hp).1) (xs.tb z).2.1) (Nat.lt_irrefl _)
theorem EX.of{X:Cx}{G:Gh}{F F' H' H:Hp}{Z:L2.St}{ρ:En}{x:Ex}{C:Addr}{dd:Option Addr}{ex:Option Addr}{p:Nat->Option Addr}(S:StOk X.K G F Z H ρ)(xw:XW X G F ρ x)(g:GOk ⟨p,aO G Z ρ H ex,F⟩ F' H')(xr:XR X.K F' C dd x):EX X G Z (.ref C) dd H' :=
 ⟨x,ρ,F,F',C,rfl,xw,⟨g.fh,λb o h=>g.oh b o (bX S h),λb o h=>g.fo b o (bX S h),S.fb.trans g.fb⟩,S.fzok g.fb,xr⟩
section
variable {X:Cx}{k:Nat}{f:Addr}{fd:FuncData}{ps:List Str}{sp:Sp}{E:XK}{x:Str}{p pos:Pos}{e:Expr}{es:List Expr}{Z:L2.St}{H:Hp}{Q:VK}
theorem tM{pins:zzk}{s:Shared}{us:List Value}{vs:List V}(F:FnOk X.prog X.w X.K X.mg X.base (CX1 X.prog X.w) k f fd ps sp)(hr:Room k X.A)(hb:L2.Binds X.K fd ps [])(hx:mH X Z E)
  (I:Inv X pins Z H s) (r:Vals vs us) (h:sp vs H Q E):wpAny (model X.prog X.w) X.A (call (.ref f) us) (EP X pins Z Q) X.xe s:=by
 have hl:(us++[]).length=ps.length:=by rw[List.append_nil,<-r.length];exact F.len _ _ _ _ h
 have bb:=hb s us I.kIn hl
 rw[List.append_nil]at bb
 refine wpAny_call (codeAny_mono (F.run X.A X.stack s H ⟨us,[]⟩ us vs Q E hr I.env0 bb r h) λr s' hq=>?_)
 cases r with
 | error e=>exact hx pins H s e s' I hq
 | ok fl =>
  cases fl with
  | ret u=>exact I.after hq
  | next=>exact False.elim hq
  | brk=>exact False.elim hq
  | cont=>exact False.elim hq
theorem fj(F:FnOk X.prog X.w X.K X.mg X.base (CX1 X.prog X.w) k f fd ps sp)(hr:Room k X.A)(hg:Gl X x)(hm:X.mg x=some (.ref f))(hk:PySem.W.keepIn X.K (.ref f)=true)(hb:L2.Binds X.K fd ps [])(hx:mH X Z E)
  (hdb:(x==("__debug__" : Str))=false) (he:starEach (e::es) X.env=(false,eval e X.env)::starEach es X.env) (hpl:(backTo pos (starEach es X.env)).any (·.1)=false)
  (h:dB X (e::es) Z H λvs H1=>sp vs H1 Q E):cW X (.Call (.Name x p) (e::es) [] pos) Z H Q:=by
 unfold cW
 intro pins s I
 unfold dB at h
 refine wpAny_Call_Name_kw (kH I hg hm ?_ hdb)
 refine PySem.W.callWith_K (h₀:=X.base) I.ok.mod.kin hk (thn (h pos pins s I) λus s1 ⟨vs,H1,I1,r,q⟩=>⟨I1.kIn,?_⟩) he hpl
 exact tM F hr hb hx I1 r q
end
section
variable {S:Type}{X:Cx}{k n:Nat}{mf:List D->M D}{ml:List D->M (List D)}{m1:List D->List D->M (D×List D)}{m1L:List D->List D->M (List D×List D)}{x:Str}{p pos pn:Pos}{e:Expr}{es:List Expr}{ps:Pa D}{pl:Pa (List D)}{ms:Ev S (List D)}
theorem gb(C:CF X.prog X.w X.K X.mg X.base x k (spD X.K n mf))(hr:Room k X.A)(ha:AA X (e::es) ps)(hg:Gl X x:=by rfl)(hn:(e::es).length=n:=by rfl)
  (hdb:(x==("__debug__" : Str))=false:=by decide) (he:starEach (e::es) X.env=(false,eval e X.env)::starEach es X.env:=by rfl) (hpl:(backTo pos (starEach es X.env)).any (·.1)=false:=by rfl):AP X (.Call (.Name x p) (e::es) [] pos) (Hx mf ps):=by
 obtain⟨f,fd,pl,Fn,h1,h2,h3⟩:=C.ex
 intro G F Z H ρ Q St w
 refine fj Fn hr hg h1 h2 h3 (j9 (G:=G)) hdb he hpl ?_
 refine ha G F Z H ρ _ _ _ St w λds vs F1 H1 s1 S1 hl r1 w1=>?_
 show spD X.K n mf vs H1 Q (EX X G Z)
 cases hd:mf ds with
 | bad=>rw[hd]at w1;exact w1.elim
 | exc e =>
  rw[hd]at w1
  exact⟨_,F1,ds,hl.trans hn,cf S1 r1,by rw[hd];exact λF' H' Cl dd g xr=>EX.of S1 w1 g xr⟩
 | ret d =>
  rw[hd]at w1
  refine⟨_,F1,ds,hl.trans hn,cf S1 r1,?_⟩
  rw[hd]
  intro v F2 H2 s2 S2 r2
  obtain⟨S3,t3⟩:=eF (avs':=ds.map AV.fz) S1 s2 S2
  exact w1 F2 H2 s2 S3 v r2
theorem Ah(C:CF X.prog X.w X.K X.mg X.base x k (spL X.K n ml))(hr:Room k X.A)(ha:AA X (e::es) pl)(hg:Gl X x:=by rfl)(hn:(e::es).length=n:=by rfl)
  (hdb:(x==("__debug__" : Str))=false:=by decide) (he:starEach (e::es) X.env=(false,eval e X.env)::starEach es X.env:=by rfl) (hpl:(backTo pos (starEach es X.env)).any (·.1)=false:=by rfl):AL X (.Call (.Name x p) (e::es) [] pos) (Hw ml pl):=by
 obtain⟨f,fd,pz,Fn,h1,h2,h3⟩:=C.ex
 intro G F Z H ρ Q St w
 refine fj Fn hr hg h1 h2 h3 (j9 (G:=G)) hdb he hpl ?_
 refine ha G F Z H ρ _ _ _ St w λds vs F1 H1 s1 S1 hl r1 w1=>?_
 show spL X.K n ml vs H1 Q (EX X G Z)
 cases hd:ml ds with
 | bad=>rw[hd]at w1;exact w1.elim
 | exc e =>
  rw[hd]at w1
  exact⟨_,F1,ds,hl.trans hn,cf S1 r1,by rw[hd];exact λF' H' Cl dd g xr=>EX.of S1 w1 g xr⟩
 | ret d =>
  rw[hd]at w1
  refine⟨_,F1,ds,hl.trans hn,cf S1 r1,?_⟩
  rw[hd]
  intro v F2 H2 s2 S2 r2
  obtain⟨S3,t3⟩:=eF (avs':=ds.map AV.fz) S1 s2 S2
  exact w1 F2 H2 s2 S3 v (t3 v _ r2)
theorem wv{ρ:En}{i:Nat}{f g:List D}(h:gB ρ i=some g):oI ρ i f=setC ρ i (.l f):=j8 ρ i f g h
theorem GP(C:CF X.prog X.w X.K X.mg X.base x k (spD X.K n mf))(hr:Room k X.A)(ha:AEa X (e::es) ms)(hg:Gl X x:=by rfl)(hn:(e::es).length=n:=by rfl)
  (hdb:(x==("__debug__" : Str))=false:=by decide) (he:starEach (e::es) X.env=(false,eval e X.env)::starEach es X.env:=by rfl) (hpl:(backTo pos (starEach es X.env)).any (·.1)=false:=by rfl):AE X (.Call (.Name x p) (e::es) [] pos) (HM mf ms):=by
 obtain⟨f,fd,pl,Fn,h1,h2,h3⟩:=C.ex
 intro OK y kk G F Z H ρ Q hO hX St ok k2
 refine fj Fn hr hg h1 h2 h3 (j9 (G:=G)) hdb he hpl ?_
 refine ha OK y _ G F Z H ρ _ hO hX St ok λds vs F1 H1 ρ1 s1 S1 hl r1 o1=>?_
 show spD X.K n mf vs H1 Q (EX X G Z)
 cases hd:mf ds with
 | bad=>rw[hd]at o1;exact(hO o1).elim
 | exc e =>
  rw[hd]at o1
  exact⟨_,F1,ds,hl.trans hn,cf S1 r1,by rw[hd];exact λF' H' Cl dd g xr=>EX.of S1 (hX F1 ρ1 e o1) g xr⟩
 | ret d =>
  rw[hd]at o1
  refine⟨_,F1,ds,hl.trans hn,cf S1 r1,?_⟩
  rw[hd]
  intro v F2 H2 s2 S2 r2
  obtain⟨S3,t3⟩:=eF (avs':=ds.map AV.fz) S1 s2 S2
  exact k2 d v F2 H2 ρ1 (s1.trans s2) S3 r2 o1
theorem uw{i:Nat}{y:Str}{OK:M S->Prop}{z:Ex->En->M S}{kk:List D->En->M S}{G:Gh}{F H:Hp}{Z:L2.St}{ρ:En}{Q:List V->Hp->Prop}(hN:X.N[i]? = some y)(hv:Vis X.env.scope y)(hd:(y==("__debug__" : Str))=false)(hcd:(y==("__classdict__" : Str))=false)
  (ha:AEa X es ms) (he:starEach (.Name y pn::es) X.env=(false,eval (.Name y pn) X.env)::starEach es X.env) (hO:KOk OK) (hX:XL X OK z G) (St:StOk X.K G F Z H ρ) (ok:OK (ms z (λds ρ1=>match gB ρ1 i with|some f=>kk (.list f::ds) ρ1|none=>.bad) ρ))
  (h0:(gB ρ i).isSome=true)
  (k2:∀a f ds vs F' H' ρ',Same F F'->StOk X.K G F' Z H' ρ'->gB ρ' i=some f->Z[i]? = some (some (V.ref a))->vs.length=es.length->RepL X.K F' vs ds->OK (kk (.list f::ds) ρ')->Q (.ref a::vs) H'):dB X (.Name y pn::es) Z H Q:=by
 obtain⟨f0,hf0⟩:=Option.isSome_iff_exists.mp h0
 obtain⟨a,_,ea,_,_⟩:=gY St hf0
 refine qJ (gX (bV hN hv hd hcd) bC he) ⟨_,ea,?_⟩
 refine ha OK z _ G F Z H ρ _ hO hX St ok λds vs F1 H1 ρ1 s1 S1 hl r1 o1=>?_
 split at o1
 ·rename_i f hf
  exact k2 a f ds vs F1 H1 ρ1 s1 S1 hf ea hl r1 o1
 ·exact(hO o1).elim
def ck{S α:Type}(i:Nat)(m:Ev S α):Ev S α:=λx k ρ=>match (gB ρ i).isSome with
 | true=>m x k ρ
 | false=>.bad
theorem mz{K:Fg}{G:Gh}{F H:Hp}{Z:L2.St}{ρ:En}{vs:List V}{ds f:List D}{j:Nat}{a:Addr}(S:StOk K G F Z H ρ)(hj:gB ρ j=some f)(ha:Z[j]? = some (some (V.ref a)))(r:RepL K F vs ds) :
  StOk K ⟨P1 a,aO G Z ρ H (some a),F⟩ F ((V.ref a::vs).map some) H (some (.op (.l f))::fzs ds):=g7 S (iR hj) ha r
theorem bF{i:Nat}{y:Str}(C:CF X.prog X.w X.K X.mg X.base x k (sp1 X.K n m1))(hr:Room k X.A)(ha:AEa X es ms)(hg:Gl X x:=by rfl)(hN:X.N[i]? = some y:=by rfl)(hv:Vis X.env.scope y:=by exact vi rfl)(hn:es.length+1=n:=by rfl)
  (hdb:(x==("__debug__" : Str))=false:=by decide) (he:starEach (.Name y pn::es) X.env=(false,eval (.Name y pn) X.env)::starEach es X.env:=by rfl) (hpl:(backTo pos (starEach es X.env)).any (·.1)=false:=by rfl)
  (hd:(y==("__debug__" : Str))=false:=by decide) (hcd:(y==("__classdict__" : Str))=false:=by decide):AE X (.Call (.Name x p) (.Name y pn::es) [] pos) (ck i (HN m1 i ms)):=by
 obtain⟨f,fd,pl,Fn,h1,h2,h3⟩:=C.ex
 intro OK z kk G F Z H ρ Q hO hX St ok k2
 unfold ck at ok
 split at ok
 case h_2=>exact(hO ok).elim
 rename_i h0
 refine fj Fn hr hg h1 h2 h3 (j9 (G:=G)) hdb he hpl ?_
 refine uw (OK:=OK) (z:=z) (kk:=λl ρ1=>match l with | .list f::ds=>(m1 f ds).on (λe=>z e ρ1) (λr=>kk r.1 (oI ρ1 i r.2))|_=>.bad) hN hv hd hcd ha he hO hX St ok h0 λa f ds vs F1 H1 ρ1 s1 S1 hf ea hl r1 o1=>?_
 have o1':OK ((m1 f ds).on (λe=>z e ρ1) (λr=>kk r.1 (oI ρ1 i r.2))):=o1
 show sp1 X.K n m1 (V.ref a::vs) H1 Q (EX X G Z)
 cases hd:m1 f ds with
 | bad=>rw[hd]at o1';exact(hO o1').elim
 | exc e =>
  rw[hd]at o1'
  exact⟨_,F1,f,ds,by simp[hl];exact hn,mz S1 hf ea r1,by rw[hd];exact λF' H' Cl dd g xr=>EX.of S1 (hX F1 ρ1 e o1') g xr⟩
 | ret r =>
  rw[hd]at o1'
  refine⟨_,F1,f,ds,by simp[hl];exact hn,mz S1 hf ea r1,?_⟩
  rw[hd]
  intro v F2 H2 s2 S2 r2
  obtain⟨S3,t3⟩:=iI (c':=.l r.2) (l:=ds.map AV.fz) S1 (iR hf) ea s2 S2
  rw[<-wv hf]at S3
  exact k2 r.1 v F2 H2 _ (s1.trans s2) S3 r2 o1'
end
theorem _root_.L2.Room.m{j k:Nat}{A:Around}(r:Room k A)(h:j<=k:=by decide):Room j A:=r.mono h
theorem aG{k:Nat}{A:Around}(r:Room k A):A.units+1100<cLine:=by have:=r.un;lia
def noX{S:Type}(m:M S):M S:=match m with
 | .ret s=>.ret s
 | _=>.bad
theorem gZ{S:Type}(s:S):noX (M.ret s)=.ret s:=rfl
def bq(step:D->M (Option D)):List D->M (List D)
 | []=>.ret []
 | d::r=>bd (noX (step d)) λo=>bd (bq step r) λxs=>.ret (o.toList++xs)
theorem sB{step:D->M (Option D)}:∀{ds:List D} {e:Ex},bq step ds≠.exc e
 | [],e,h=>by cases h
 | d::r,e,h=>by
  unfold bq at h
  cases hs:step d with
  | ret o =>
   rw[hs,gZ,iJ]at h
   cases hr:bq step r with
   | ret xs=>rw[hr]at h;cases h
   | exc e'=>exact sB hr
   | bad=>rw[hr]at h;cases h
  | exc e'=>rw[hs]at h;cases h
  | bad=>rw[hs]at h;cases h
def vc(k:Nat)(it:Pu (List D))(t:Tg (Option D))(pt:Pu Bool)(pe:Pu D):Pu (List D):=λρ=>bd (it ρ) λds =>
 bd (bq (λd=>t d (λρ1=>bd (pt ρ1) λb=>if b then bd (pe ρ1) λv=>.ret (some v)else .ret none) (ρ++List.replicate k none)) ds) eD
def cN{T:Type}(step:T->D->M (Option D×T)):List D->T->M (List D×T)
 | [],s=>.ret ([],s)
 | d::r,s=>bd (noX (step s d)) λp=>bd (cN step r p.2) λq=>.ret (p.1.toList++q.1,q.2)
theorem sA{T:Type}{step:T->D->M (Option D×T)}:∀{ds:List D} {s:T} {e:Ex},cN step ds s≠.exc e
 | [],s,e,h=>by cases h
 | d::r,s,e,h=>by
  unfold cN at h
  cases hs:step s d with
  | ret o =>
   rw[hs,gZ,iJ]at h
   cases hr:cN step r o.2 with
   | ret xs=>rw[hr]at h;cases h
   | exc e'=>exact sA hr
   | bad=>rw[hr]at h;cases h
  | exc e'=>rw[hs]at h;cases h
  | bad=>rw[hs]at h;cases h
def zO{S:Type}(sh:List Kd)(k:Nat)(it:Ev S (List D))(t:Tg (Option D×SOf sh))(et:Ev (Option D×SOf sh) Bool)(ee:Ev (Option D×SOf sh) D):Ev S (List D):=λx kk ρ=>it x (λds ρ1=>rdk sh (λs =>
 (cN (λs d=>t d (λρ2=>et (λe _=>.exc e) (λb ρ3=>if b then ee (λe _=>.exc e) (λv ρ4=>rdk sh (λs'=>.ret (some v,s')) (ρ4.take sh.length)) ρ3 else rdk sh (λs'=>.ret (none,s')) (ρ3.take sh.length)) ρ2) (wr sh s++List.replicate k none)) ds s).on
  (λe=>x e ρ1) (λq=>(eD q.1).on (λe=>x e ρ1) (λout=>kk out (wr sh q.2)))) ρ1) ρ
def FL:Pu Bool:=λ_=>.ret true
def ATs(X:Cx)(ifs:List Expr)(p:Pu Bool):Prop :=
 ∀(G:Gh) (F:Hp) (Z:L2.St) (H:Hp) (ρ:En) (Q:Bool->Hp->Prop),StOk X.K G F Z H ρ->W X G F Z ρ (p ρ) (λd F' H'=>Q d H')->∀(pins:zzk) (s:Shared),Inv X pins Z H s ->
  wpAny (model X.prog X.w) X.A (forIn ifs true λc r=>if r=true then do let ok <-isTrue c X.env (eval c X.env);pure (ForInStep.yield ok)else pure (ForInStep.yield r)) (TP X pins Z Q) X.xe s
theorem cj{X:Cx}:ATs X [] FL:=λG F Z H ρ Q S w pins s I=>AZ pins s Z H Q I (w F H (Same.refl _) S)
theorem BV{X:Cx}{c:Expr}{p:Pu Bool}(h:AT X c p):ATs X [c] p:=λG F Z H ρ Q S w pins s I=>AY cZ pins s Z H Q I (h G F Z H ρ Q S w)
def Cb{S:Type}(X:Cx)(ifs:List Expr)(m:Ev S Bool):Prop :=
 ∀(OK:M S->Prop) (x:Ex->En->M S) (k:Bool->En->M S) (G:Gh) (F:Hp) (Z:L2.St) (H:Hp) (ρ:En) (Q:Bool->Hp->Prop),KOk OK->XL X OK x G->StOk X.K G F Z H ρ->OK (m x k ρ) ->
  (∀d F' H' ρ',Same F F'->StOk X.K G F' Z H' ρ'->OK (k d ρ')->Q d H')->∀(pins:zzk) (s:Shared),Inv X pins Z H s ->
  wpAny (model X.prog X.w) X.A (forIn ifs true λc r=>if r=true then do let ok <-isTrue c X.env (eval c X.env);pure (ForInStep.yield ok)else pure (ForInStep.yield r)) (TP X pins Z Q) X.xe s
theorem jw{S:Type}{X:Cx}{ifs:List Expr}{p:Pu Bool}(h:ATs X ifs p):Cb (S:=S) X ifs (ePu p):=λOK x k G F Z H ρ Q hO hX St ok kk=>h G F Z H ρ Q St (W.of hO hX ok λd F' H' s S' o=>kk d F' H' ρ s S' o)
theorem W.rets{X:Cx}{G:Gh}{F:Hp}{Z:L2.St}{ρ:En}{α:Type}{m:M α}{a:α}{C:α->Hp->Hp->Prop}(e:m=.ret a)(h:∀F' H',Same F F'->StOk X.K G F' Z H' ρ->C a F' H'):W X G F Z ρ m C:=by subst e;exact h
theorem xS:∀(sh:List Kd) (s:SOf sh),(wr sh s).length=sh.length:=by
 intro sh
 induction sh with
 | nil=>intro s;rfl
 | cons a r ih=>intro s;cases a<;>simp[wr,ih]
inductive CIv{τ:Type}(K:Fg)(G:Gh)(Z:L2.St)(k:Nat)(ds:List D)(F1:Hp)(en:τ->En)(go:Nat->τ->List D->Prop)(out:List D):Nat->Nat->List V->L2.St->Hp->Prop
 | mk {i:Nat} {vs:List V} {σ':L2.St} {H':Hp} (F':Hp) (acc rest:List D) (s:τ) (hi:i<=ds.length) (s2:Same F1 F') (S2:StOk K G F' σ' H' (en s)) (kp:∀j,j<Z.length->σ'[j]? = Z[j]?) (hl:σ'.length=Z.length+k) (rp:RepL K F' vs acc) (g:go i s rest) (eo:out=acc++rest):CIv K G Z k ds F1 en go out i (ds.length - i) vs σ' H'
theorem CIv.on{τ:Type}{K:Fg}{G:Gh}{Z:L2.St}{k:Nat}{ds:List D}{F1:Hp}{en:τ->En}{go:Nat->τ->List D->Prop}{out:List D}{i:Nat}{vs:List V}{σ':L2.St}{H':Hp}(F':Hp)(acc rest:List D)(s:τ)(hi:i<ds.length)(s2:Same F1 F')(S2:StOk K G F' σ' H' (en s))(kp:∀j,j<Z.length->σ'[j]? = Z[j]?)(hl:σ'.length=Z.length+k)(rp:RepL K F' vs acc)(g:go (i+1) s rest)(eo:out=acc++rest):∃m',m'<ds.length - i/\CIv K G Z k ds F1 en go out (i+1) m' vs σ' H' :=
 ⟨ds.length - (i+1),by lia,⟨F',acc,rest,s,hi,s2,S2,kp,hl,rp,g,eo⟩⟩
theorem uq{step:D->M (Option D)}{d:D}{r rest:List D}(h:bq step (d::r)=.ret rest):∃o rest',step d=.ret o/\bq step r=.ret rest'/\rest=o.toList++rest':=by
 unfold bq at h
 cases hs:step d with
 | bad=>rw[hs]at h;cases h
 | exc e=>rw[hs]at h;cases h
 | ret o =>
  rw[hs,gZ,iJ]at h
  cases hr:bq step r with
  | bad=>rw[hr]at h;cases h
  | exc e=>rw[hr]at h;cases h
  | ret rest'=>rw[hr,iJ]at h;cases h;exact⟨o,rest',rfl,rfl,rfl⟩
theorem uo{T:Type}{step:T->D->M (Option D×T)}{d:D}{r rest:List D}{s sf:T}(h:cN step (d::r) s=.ret (rest,sf)):∃o sn rest',step s d=.ret (o,sn)/\cN step r sn=.ret (rest',sf)/\rest=o.toList++rest':=by
 unfold cN at h
 cases hs:step s d with
 | bad=>rw[hs]at h;cases h
 | exc e=>rw[hs]at h;cases h
 | ret o =>
  obtain⟨o,sn⟩:=o
  rw[hs,gZ,iJ]at h
  cases hr:cN step r sn with
  | bad=>rw[hr]at h;cases h
  | exc e=>rw[hr]at h;cases h
  | ret q'=>obtain⟨rest',sf'⟩:=q';rw[hr,iJ]at h;cases h;exact⟨o,sn,rest',rfl,hr,rfl⟩
theorem n9{A B:Type}{m:M A}{f:A->M B}{b:B}(h:bd m f=.ret b):∃a,m=.ret a/\f a=.ret b:=by
 cases m with
 | bad=>cases h
 | exc e=>cases h
 | ret a=>exact⟨a,rfl,h⟩
section
variable {X:Cx}
def nB(X:Cx)(N':List Str)(scope:Scope)(tg:Expr):TG:=λv Z H Q=>∀cl s H0 fp C,nz (aL X N' scope cl s H0 fp C) tg v Z H Q
def nA(X:Cx)(N':List Str)(scope:Scope)(ifs:List Expr):TT:=λZ H Q=>∀cl s0 H0 fp C,∀(pins:zzk) (s:Shared),Inv (aL X N' scope cl s0 H0 fp C) pins Z H s ->
  wpAny (model X.prog X.w) (aL X N' scope cl s0 H0 fp C).A (forIn ifs true λc r=>if r=true then do let ok <-isTrue c (aL X N' scope cl s0 H0 fp C).env (eval c (aL X N' scope cl s0 H0 fp C).env);pure (ForInStep.yield ok)else pure (ForInStep.yield r)) (TP (aL X N' scope cl s0 H0 fp C) pins Z Q) (aL X N' scope cl s0 H0 fp C).xe s
def nC(X:Cx)(N':List Str)(scope:Scope)(e:Expr):TE:=λZ H Q=>∀cl s H0 fp C,cW (aL X N' scope cl s H0 fp C) e Z H Q
variable {elt tg iter:Expr}{ifs:List Expr}{scope:Scope}{pos:Pos}{N':List Str}{k:Nat}
theorem vQ{it:Pu (List D)}{t:Tg (Option D)}{pt:Pu Bool}{pe:Pu D}{G:Gh}{F:Hp}{Z:L2.St}{H:Hp}{ρ:En}{Q:VK}(hi:AI X tg iter it)
  (hg:∀cl s H fp C,AG (aL X N' scope cl s H fp C) X.N.length tg t) (ht:∀cl s H fp C,ATs (aL X N' scope cl s H fp C) ifs pt) (he:∀cl s H fp C,AP (aL X N' scope cl s H fp C) elt pe)
  (hσ:Z.length=X.N.length) (St:StOk X.K G F Z H ρ) (w:W X G F Z ρ (vc k it t pt pe ρ) λds F' H'=>∀v,Frs X.K G F' Z H' ρ v (.l ds)->Q v H') :
  uP (fV X tg iter) k (nB X N' scope tg) (nA X N' scope ifs) (nC X N' scope elt) Z H Q:=by
 refine hi G F Z H ρ _ St (w.bind.imp λds F1 H1 s1 S1 w1 J wk=>?_)
 have hP:∀i a,G.P i=some a->i<Z.length:=λi a h=>(List.getElem?_eq_some_iff.mp (S1.pp i a h).1).1
 have hln:Z.length=ρ.length:=S1.ln
 have wc:=w1.bind
 revert wc
 generalize hstep:(λd=>t d (λρ1=>bd (pt ρ1) λb=>if b then bd (pe ρ1) λv=>.ret (some v)else .ret none) (ρ++List.replicate k none))=step
 intro wc
 cases hcc:bq step ds with
 | bad=>rw[hcc]at wc;exact wc.elim
 | exc e=>exact(sB hcc).elim
 | ret out =>
  rw[hcc]at wc
  have wf:∀F' H',Same F1 F'->StOk X.K G F' Z H' ρ->W X G F' Z ρ (eD out) λds F' H'=>∀v,Frs X.K G F' Z H' ρ v (.l ds)->Q v H':=wc
  have hfit:out.length<=sizeLine:=(wf F1 H1 (Same.refl _) S1).fit.1
  have fin:∀F' H',Same F1 F'->StOk X.K G F' Z H' ρ->∀v,Frs X.K G F' Z H' ρ v (.l out)->Q v H':=λF' H' s' S'=>(wf F' H' s' S').fit.2 F' H' (Same.refl _) S'
  have grown:∀{F' H' σ' ρ'},StOk X.K G F' σ' H' ρ'->(∀j,j<Z.length->σ'[j]? = Z[j]? /\ ρ'[j]? = ρ[j]?)->σ'.length=Z.length+k->StOk X.K G F' σ' H' (ρ++List.replicate k none):=λ{F' H' σ' ρ'} S' kp hl=>by
   refine S'.weak (by have:=S'.ln;simp;lia) (λi av q=>?_) (λi c q=>?_)
   ·have q':=fy q
    have hi:i<Z.length:=by rw[hln];exact(List.getElem?_eq_some_iff.mp q').1
    rw[(kp i hi).2];exact q'
   ·obtain⟨a,ha⟩:=S'.pq i c q
    have hi:=hP i a ha
    rw[List.getElem?_append_left (by lia),<-(kp i hi).2]
    exact q
  refine⟨CIv X.K G Z k ds F1 (λ_:Unit=>ρ++List.replicate k none) (λi _ rest=>bq step (ds.drop i)=.ret rest) out,
   ⟨_,⟨F1,[],out,(),Nat.zero_le _,Same.refl _,S1.grow k,λj hj=>by rw[List.getElem?_append_left hj],by simp,.nil,hcc,rfl⟩⟩,?_⟩
  rintro i m vs σ' H' ⟨F',acc,rest,_,hi,s2,S2,kp,hlen,rp,go,eo⟩
  refine⟨by rw[rp.length];rw[eo,zzf]at hfit;lia,?_⟩
  by_cases hlt:i<ds.length
  ·refine .inr ⟨wk.go i G F' σ' H' _ s2 S2 hlt,λx H2 y cl s0 H0 fp C=>?_⟩
   obtain⟨F3,s3,S3,r3⟩:=wk.yld i G F' σ' H' _ x H2 ds[i] s2 S2 (List.getElem?_eq_getElem hlt) y
   rw[List.drop_eq_getElem_cons hlt]at go
   obtain⟨o,rest',hst,hr,er⟩:=uq go
   subst er
   clear go
   rw[<-hstep]at hst
   refine hg cl s0 H0 fp C (λm=>m=.ret o) _ G F3 σ' H2 _ x ds[i] _ (λz=>nomatch z) S3 r3 hst λσ3 ρ3 S4 kp3 hl3 ml3 o4=>?_
   have kp':∀j,j<Z.length->σ3[j]? = Z[j]? /\ ρ3[j]? = ρ[j]?:=λj hj=>⟨((kp3 j (by lia)).1).trans (kp j hj),by rw[(kp3 j (by lia)).2,List.getElem?_append_left (by lia)]⟩
   obtain⟨b,hpt,o4⟩:=n9 o4
   intro cl s0 H0 fp C
   refine ht cl s0 H0 fp C G F3 σ3 H2 ρ3 _ S4 (W.rets hpt λF5 H5 s5 S5=>?_)
   cases b with
   | true =>
    refine pR ?_
    obtain⟨v,hpe,o5⟩:=n9 (m:=pe ρ3) o4
    cases o5
    intro cl s0 H0 fp C
    refine he cl s0 H0 fp C G F5 σ3 H5 ρ3 _ S5 (W.rets hpe λF6 H6 s6 S6 u ru=>?_)
    exact CIv.on F6 (acc++[v]) rest' () hlt (((s2.trans s3).trans s5).trans s6) (grown S6 kp' (by lia)) (λj hj=>(kp' j hj).1) (by lia) ((rp.mono ((s3.trans s5).trans s6)).append (.cons ru .nil)) hr (by rw[eo];simp)
   | false =>
    refine rL ?_
    have o4':(M.ret none:M (Option D))=M.ret o:=o4
    cases o4'
    exact CIv.on F5 acc rest' () hlt ((s2.trans s3).trans s5) (grown S5 kp' (by lia)) (λj hj=>(kp' j hj).1) (by lia) (rp.mono (s3.trans s5)) hr (by rw[eo];simp)
  ·have ei:i=ds.length:=by lia
   subst ei
   rw[List.drop_length]at go
   cases go
   rw[List.append_nil]at eo
   subst eo
   refine .inl ⟨wk.stop G F' σ' H' _ s2 S2,λp hp=>?_⟩
   have Ssh:=S2.shrink (n:=Z.length) (by simp;lia) hP
   have e1:σ'.take Z.length=Z:=kR kp rfl
   have e2:(ρ++List.replicate k none).take Z.length=ρ:=by rw[hln,List.take_left]
   rw[e1,e2]at Ssh
   obtain⟨S5,r5⟩:=Ssh.newLst hp rp
   exact fin F' _ s2 S5 _ r5
theorem eT{it:Pu (List D)}{t:Tg (Option D)}{pt:Pu Bool}{pe:Pu D}(hc:X.calm=true)(Sc:CompOk X N' k scope)(hi:AI X tg iter it)
  (hg:∀cl s H fp C,AG (aL X N' scope cl s H fp C) X.N.length tg t) (ht:∀cl s H fp C,ATs (aL X N' scope cl s H fp C) ifs pt) (he:∀cl s H fp C,AP (aL X N' scope cl s H fp C) elt pe)
  (hs:∀x,foldedSetIterable iter X.env x=pure x:=by exact λ_=>rfl):AL X (.ListComp elt [⟨tg,iter,ifs,0⟩] scope pos) (vc k it t pt pe):=by
 intro G F Z H ρ Q St w;unfold cW;intro pins s I
 refine u9 (wi:=fV X tg iter) (g:=nB X N' scope tg) (tc:=nA X N' scope ifs) (te:=nC X N' scope elt) hc Sc (λx hx hf=>I.ok.has x.1 (Sc.free x hx hf)) lA
  (λcl s H fp C pins s' Z H v u Q I r h=>jE pins s' Z H v u Q I r (h cl _ _ fp C)) (λcl s H fp C pins s' Z H Q I h=>h cl _ _ fp C pins s' I) (λcl s H fp C pins s' Z H Q I h=>aH pins s' Z H Q I (h cl _ _ fp C)) hs pins s Z H Q I (vQ hi hg ht he I.len St w)
theorem rZ{S:Type}{sh:List Kd}{it:Ev S (List D)}{t:Tg (Option D×SOf sh)}{et:Ev (Option D×SOf sh) Bool}{ee:Ev (Option D×SOf sh) D}{OK:M S->Prop}{x:Ex->En->M S}{kk:List D->En->M S}{G:Gh}{F:Hp}{Z:L2.St}{H:Hp}{ρ:En}{Q:VK}(hi:AEi X tg iter it)
  (hg:∀cl s H fp C,AG (aL X N' scope cl s H fp C) X.N.length tg t) (ht:∀cl s H fp C,Cb (aL X N' scope cl s H fp C) ifs et) (he:∀cl s H fp C,AE (aL X N' scope cl s H fp C) elt ee)
  (hσ:Z.length=X.N.length) (hO:KOk OK) (hX:XL X OK x G) (St:StOk X.K G F Z H ρ) (ok:OK (zO sh k it t et ee x kk ρ)) (k2:∀ds v F' H' ρ',Same F F'->StOk X.K G F' Z H' ρ'->Frs X.K G F' Z H' ρ' v (.l ds)->OK (kk ds ρ')->Q v H') :
  uP (fV X tg iter) k (nB X N' scope tg) (nA X N' scope ifs) (nC X N' scope elt) Z H Q:=by
 refine hi OK x _ G F Z H ρ _ hO hX St ok λds J F1 H1 ρ1 s1 S1 wk o1=>?_
 obtain⟨s0,e0,o0⟩:=d4 hO o1
 clear o1
 have S0:=S1.rd e0
 have hshl:sh.length=Z.length:=(xS sh s0).symm.trans S0.ln.symm
 have hlen0:∀s:SOf sh,(wr sh s).length=Z.length:=λs=>(xS sh s).trans hshl
 have hP:∀i a,G.P i=some a->i<Z.length:=λi a h=>(List.getElem?_eq_some_iff.mp (S1.pp i a h).1).1
 revert o0
 generalize hstep:(λ(s:SOf sh) d=>t d (λρ2=>et (λe _=>.exc e) (λb ρ3=>if b then ee (λe _=>.exc e) (λv ρ4=>rdk sh (λs'=>.ret (some v,s')) (ρ4.take sh.length)) ρ3 else rdk sh (λs'=>.ret (none,s')) (ρ3.take sh.length)) ρ2) (wr sh s++List.replicate k none))=step
 intro o0
 cases hcc:cN step ds s0 with
 | bad=>rw[hcc]at o0;exact(hO o0).elim
 | exc e=>exact(sA hcc).elim
 | ret q =>
  obtain⟨out,sf⟩:=q
  rw[hcc,DQ]at o0
  obtain⟨hfit,o0⟩:=Ek hO o0
  have again:∀{F' H' σ' ρ'} {s':SOf sh},StOk X.K G F' σ' H' ρ'->(∀j,j<Z.length->σ'[j]? = Z[j]?)->σ'.length=Z.length+k->rd sh (ρ'.take sh.length)=some s'->StOk X.K G F' σ' H' (wr sh s'++List.replicate k none):=λ{F' H' σ' ρ' s'} S' kp hl e'=>by
   obtain⟨h1,h2,h3⟩:=hJ sh _ s' e'
   have hρ':ρ'.length=Z.length+k:=by rw[<-S'.ln];exact hl
   refine S'.weak (by simp[hlen0];lia) (λi av q=>?_) (λi c q=>?_)
   ·have q':=fy q
    have:=h2 i av q'
    have hi:i<sh.length:=by
     have:=(List.getElem?_eq_some_iff.mp this).1
     rw[List.length_take]at this;lia
    rw[List.getElem?_take_of_lt hi]at this
    exact this
   ·obtain⟨a,ha⟩:=S'.pq i c q
    have hi:=hP i a ha
    rw[List.getElem?_append_left (by rw[hlen0];exact hi)]
    exact h3 i c (by rw[List.getElem?_take_of_lt (by lia)];exact q)
  refine⟨CIv X.K G Z k ds F1 (λs=>wr sh s++List.replicate k none) (λi s rest=>cN step (ds.drop i) s=.ret (rest,sf)) out,
   ⟨_,⟨F1,[],out,s0,Nat.zero_le _,Same.refl _,S0.grow k,λj hj=>by rw[List.getElem?_append_left hj],by simp,.nil,hcc,rfl⟩⟩,?_⟩
  rintro i m vs σ' H' ⟨F',acc,rest,sc,hi,s2,S2,kp,hlen,rp,go,eo⟩
  refine⟨by rw[rp.length];rw[eo,zzf]at hfit;lia,?_⟩
  by_cases hlt:i<ds.length
  ·refine .inr ⟨wk.go i G F' σ' H' _ s2 S2 hlt,λx H2 y cl sx H0 fp C=>?_⟩
   obtain⟨F3,s3,S3,r3⟩:=wk.yld i G F' σ' H' _ x H2 ds[i] s2 S2 (List.getElem?_eq_getElem hlt) y
   rw[List.drop_eq_getElem_cons hlt]at go
   obtain⟨o,sn,rest',hst,hr,er⟩:=uo go
   subst er
   clear go
   rw[<-hstep]at hst
   refine hg cl sx H0 fp C (λm=>m=.ret (o,sn)) _ G F3 σ' H2 _ x ds[i] _ (λz=>nomatch z) S3 r3 hst λσ3 ρ3 S4 kp3 hl3 ml3 o4=>?_
   have kp':∀j,j<Z.length->σ3[j]? = Z[j]?:=λj hj=>((kp3 j (by lia)).1).trans (kp j hj)
   intro cl sx H0 fp C
   refine ht cl sx H0 fp C (λm=>m=.ret (o,sn)) (λe _=>.exc e) _ G F3 σ3 H2 ρ3 _ (λz=>nomatch z) (λF ρ e z=>nomatch z) S4 o4 λb F5 H5 ρ5 s5 S5 o5=>?_
   cases b with
   | true =>
    refine pR ?_
    intro cl sx H0 fp C
    refine he cl sx H0 fp C (λm=>m=.ret (o,sn)) (λe _=>.exc e) _ G F5 σ3 H5 ρ5 _ (λz=>nomatch z) (λF ρ e z=>nomatch z) S5 o5 λv u F6 H6 ρ6 s6 S6 ru o6=>?_
    obtain⟨s',e',o'⟩:=d4 (OK:=λm=>m=.ret (o,sn)) (λz=>nomatch z) o6
    cases o'
    exact CIv.on F6 (acc++[v]) rest' sn hlt (((s2.trans s3).trans s5).trans s6) (again S6 kp' (by lia) e') kp' (by lia) ((rp.mono ((s3.trans s5).trans s6)).append (.cons ru .nil)) hr (by rw[eo];simp)
   | false =>
    refine rL ?_
    obtain⟨s',e',o'⟩:=d4 (OK:=λm=>m=.ret (o,sn)) (λz=>nomatch z) o5
    cases o'
    exact CIv.on F5 acc rest' sn hlt ((s2.trans s3).trans s5) (again S5 kp' (by lia) e') kp' (by lia) (rp.mono (s3.trans s5)) hr (by rw[eo];simp)
  ·have ei:i=ds.length:=by lia
   subst ei
   rw[List.drop_length]at go
   cases go
   rw[List.append_nil]at eo
   subst eo
   refine .inl ⟨wk.stop G F' σ' H' _ s2 S2,λp hp=>?_⟩
   have Ssh:=S2.shrink (n:=Z.length) (by simp[hlen0]) hP
   have e1:σ'.take Z.length=Z:=kR kp rfl
   have e2:(wr sh sf++List.replicate k none).take Z.length=wr sh sf:=by rw[<-hlen0 sf,List.take_left]
   rw[e1,e2]at Ssh
   obtain⟨S5,r5⟩:=Ssh.newLst hp rp
   exact k2 _ _ F' _ _ (s1.trans s2) S5 r5 o0
theorem jx{S:Type}{sh:List Kd}{it:Ev S (List D)}{t:Tg (Option D×SOf sh)}{et:Ev (Option D×SOf sh) Bool}{ee:Ev (Option D×SOf sh) D}(hc:X.calm=true)(Sc:CompOk X N' k scope)(hi:AEi X tg iter it)
  (hg:∀cl s H fp C,AG (aL X N' scope cl s H fp C) X.N.length tg t) (ht:∀cl s H fp C,Cb (aL X N' scope cl s H fp C) ifs et) (he:∀cl s H fp C,AE (aL X N' scope cl s H fp C) elt ee)
  (hs:∀x,foldedSetIterable iter X.env x=pure x:=by exact λ_=>rfl):AEl X (.ListComp elt [⟨tg,iter,ifs,0⟩] scope pos) (zO sh k it t et ee):=by
 intro OK x kk G F Z H ρ Q hO hX St ok k2;unfold cW;intro pins s I
 refine u9 (wi:=fV X tg iter) (g:=nB X N' scope tg) (tc:=nA X N' scope ifs) (te:=nC X N' scope elt) hc Sc (λx hx hf=>I.ok.has x.1 (Sc.free x hx hf)) lA
  (λcl s H fp C pins s' Z H v u Q I r h=>jE pins s' Z H v u Q I r (h cl _ _ fp C)) (λcl s H fp C pins s' Z H Q I h=>h cl _ _ fp C pins s' I) (λcl s H fp C pins s' Z H Q I h=>aH pins s' Z H Q I (h cl _ _ fp C)) hs pins s Z H Q I (rZ hi hg ht he I.len hO hX St ok k2)
theorem uE{S:Type}{pos' spos:Pos}{i:Nat}{y:Str}{it:Pu (List D)}{t:Tg (Option D)}{pt:Pu Bool}{pe:Pu D}
  (hN:X.N.Nodup) (hy:X.N[i]? = some y) (hly:Loc X.env.scope y) (hfn:X.fn y=true\/X.env.scope.names.lookup y=some .local) (hc:X.calm=true) (Sc:CompOk X N' k scope) (hi:AI X tg iter it)
  (hg:∀cl s H fp C,AG (aL X N' scope cl s H fp C) X.N.length tg t) (ht:∀cl s H fp C,ATs (aL X N' scope cl s H fp C) ifs pt) (he:∀cl s H fp C,AP (aL X N' scope cl s H fp C) elt pe)
  (hsw:swapsWith (.ListComp elt [⟨tg,iter,ifs,0⟩] scope pos) (some (.Name y pos')) spos.line X.env=pure true) (hs:∀x,foldedSetIterable iter X.env x=pure x) :
  AS (S:=S) X (.Assign [.Name y pos'] (.ListComp elt [⟨tg,iter,ifs,0⟩] scope pos) spos) (Dl i (ePu (pZ (vc k it t pt pe)))):=by
 intro OK K G F Z H ρ E hO hX St ok eo;unfold j7;intro pins s I
 refine ly (wi:=fV X tg iter) (g:=nB X N' scope tg) (tc:=nA X N' scope ifs) (te:=nC X N' scope elt) hN hy hly hfn hc Sc (λx hx hf=>I.ok.has x.1 (Sc.free x hx hf)) lA
  (λcl s H fp C pins s' Z H v u Q I r h=>jE pins s' Z H v u Q I r (h cl _ _ fp C)) (λcl s H fp C pins s' Z H Q I h=>h cl _ _ fp C pins s' I) (λcl s H fp C pins s' Z H Q I h=>aH pins s' Z H Q I (h cl _ _ fp C)) hsw hs pins s Z H E I ?_
 refine vQ hi hg ht he I.len St ?_
 have w:W X G F Z ρ (pZ (vc k it t pt pe) ρ) (λd F' H'=>∀v,Rep X.K F' v d->rN i v Z H' E.nx):=W.of hO hX ok λd F' H' s S' o v r=>by
  have o':OK (match fW ρ i with|true=>K.nx (ρ.set i (some (.fz d)))|false=>.bad):=o
  split at o'
  ·rename_i ho
   obtain⟨hl,hop⟩:=cK ho
   exact eo.nx F' _ H' _ s (S'.store hop hl (.inl ⟨d,rfl,r⟩)) o'
  ·exact(hO o').elim
 refine w.bind.imp λds F' H' s1 S1 w1 v fr=>?_
 obtain⟨F2,s2,S2,r2⟩:=S1.settle (v:=v) (ds:=ds) fr
 exact w1 F2 H' s2 S2 v r2
theorem sL{S:Type}{pos' spos:Pos}{i:Nat}{y:Str}{sh:List Kd}{it:Ev S (List D)}{t:Tg (Option D×SOf sh)}{et:Ev (Option D×SOf sh) Bool}{ee:Ev (Option D×SOf sh) D}
  (hN:X.N.Nodup) (hy:X.N[i]? = some y) (hly:Loc X.env.scope y) (hfn:X.fn y=true\/X.env.scope.names.lookup y=some .local) (hc:X.calm=true) (Sc:CompOk X N' k scope) (hi:AEi X tg iter it)
  (hg:∀cl s H fp C,AG (aL X N' scope cl s H fp C) X.N.length tg t) (ht:∀cl s H fp C,Cb (aL X N' scope cl s H fp C) ifs et) (he:∀cl s H fp C,AE (aL X N' scope cl s H fp C) elt ee)
  (hsw:swapsWith (.ListComp elt [⟨tg,iter,ifs,0⟩] scope pos) (some (.Name y pos')) spos.line X.env=pure true) (hs:∀x,foldedSetIterable iter X.env x=pure x) :
  AS X (.Assign [.Name y pos'] (.ListComp elt [⟨tg,iter,ifs,0⟩] scope pos) spos) (Dl i (eZ (zO sh k it t et ee))):=by
 intro OK K G F Z H ρ E hO hX St ok eo;unfold j7;intro pins s I
 refine ly (wi:=fV X tg iter) (g:=nB X N' scope tg) (tc:=nA X N' scope ifs) (te:=nC X N' scope elt) hN hy hly hfn hc Sc (λx hx hf=>I.ok.has x.1 (Sc.free x hx hf)) lA
  (λcl s H fp C pins s' Z H v u Q I r h=>jE pins s' Z H v u Q I r (h cl _ _ fp C)) (λcl s H fp C pins s' Z H Q I h=>h cl _ _ fp C pins s' I) (λcl s H fp C pins s' Z H Q I h=>aH pins s' Z H Q I (h cl _ _ fp C)) hsw hs pins s Z H E I ?_
 refine rZ hi hg ht he I.len hO hX St ok λds v F' H' ρ' s S' r o=>?_
 have o':OK (match fW ρ' i with|true=>K.nx (ρ'.set i (some (.fz (.list ds))))|false=>.bad):=o
 split at o'
 ·rename_i ho
  obtain⟨hl,hop⟩:=cK ho
  obtain⟨F2,s2,S2,r2⟩:=S'.settle (v:=v) (ds:=ds) r
  exact eo.nx F2 _ H' _ (s.trans s2) (S2.store hop hl (.inl ⟨_,rfl,r2⟩)) o'
 ·exact(hO o').elim
end
end L4
namespace HT
open PySem PySem.Spec PyProof.Rows
section
variable {prog:Program}{w:World}{A:Around}{E:zzj}{s:Shared}
theorem getItem_tuple_all{t sl:Addr}{items:Array Value}{vl vu:Value}{lo hi:Option Int}{Q:zzj}(ht:IsTup s.heap t items)(hs:s.heap.IsSliceOf sl vl vu .none)(pl:IsPart vl lo)(pu:IsPart vu hi)
  (hw:sIx items.size 0 lo=0/\sIx items.size items.size hi=items.size) (h:Q (.ref t) s):wpAny (model prog w) A (getItem (.ref t) (.ref sl)) Q E s:=by
 obtain⟨os,hos,hcs,hds⟩:=id hs
 have hTs:s.TypeIs (.ref sl) "slice":=⟨os,hos,hcs⟩
 unfold getItem
 try with_reducible refine wpAny_holding ?_
 first|refine zza (zzb ?_)|skip
 refine zza (wpAny_sequenceKey ht.typeIs (by decide) ?_)
 refine zza (wpAny_callSpecial?_slot (name:=Str.ofString "__getitem__") ht.typeIs PyProof.Rows.slot_tuple_getitem
  (wpAny_call_entry PyProof.Rows.slot_tuple_getitem ht.typeIs entry_tuple_getitem ?_ (args_tuple_getitem _ _)))
 show wpAny _ _ (Builtin.Tuple.tupleItemsOf (.ref t) >>= _) _ _ s
 refine zza (tupleItemsOf_ ht ?_)
 refine zza (wpAny_typeOf hTs ?_)
 rw[if_pos (by decide)]
 refine zza (fg hs pl pu ?_)
 have hyes:((((sIx items.size 0 lo:Nat):Int)==0&&(1:Int)==1&&(sIx items.size items.size hi - sIx items.size 0 lo)==items.size)=true):=by
  rw[hw.1,hw.2]
  simp
 show wpAny _ _ (if(((sIx items.size 0 lo:Nat):Int)==0&&(1:Int)==1&&(sIx items.size items.size hi - sIx items.size 0 lo)==items.size)=true then _ else _) _ _ s
 rw[if_pos hyes]
 obtain⟨o,ho,hc,n,hd⟩:=id ht
 have hex:∀{Q':Bool->Shared->Prop},Q' true s->wpAny (model prog w) A.in1 (Builtin.Tuple.tupleIsExact (.ref t)) Q' E s:=λ{Q'} q=>by
  unfold Builtin.Tuple.tupleIsExact
  refine zza (wpAny_typeOf ht.typeIs (zzb ?_))
  exact q
 first
  | exact zza (hex (zza (wpAny_rule (zzb ⟨_,rfl,zzb h⟩))))
  | exact zza (zza (hex (zza (wpAny_rule (zzb (zzb ⟨_,rfl,zzb h⟩))))))
end
end HT
namespace L4
open PySem PySem.Spec PyProof.Rows L2 L3
def cutD(ds:List D)(lo hi:Option Int):List D:=(ds.drop (HT.sIx ds.length 0 lo)).take (HT.sIx ds.length ds.length hi - HT.sIx ds.length 0 lo)
theorem vP{K:Fg}{F:Hp}{vs:List V}{ds:List D}(r:RepL K F vs ds)(lo hi:Option Int):RepL K F (sv vs lo hi) (cutD ds lo hi):=by
 unfold sv cutD
 rw[r.length]
 exact(r.drop _).take _
def Hl(K:Fg):V->Option Int->Option Int->Hp->VK->Prop:=λx lo hi H Q=>∃a xs,x=.ref a/\SqT K H a xs/\(HT.sIx xs.length 0 lo=0/\HT.sIx xs.length xs.length hi=xs.length)/\Q x H
theorem sl_tupA{X:Cx}:SlR X (Hl X.K):=by
 intro pins s Z H x v vl vu lo hi sl Q I rx hs pl pu h
 obtain⟨a,xs,rfl,hx,hw,q⟩:=h
 cases rx
 obtain⟨its,r,ht,hz⟩:=I.tuple hx
 have hlen:its.toArray.size=xs.length:=by rw[List.size_toArray];exact r.length.symm
 refine⟨"tuple",_,PyProof.Rows.slot_tuple_getitem.lookup,ht.typeIs,?_⟩
 exact HT.getItem_tuple_all ht hs pl pu (by rw[hlen];exact hw) ⟨.ref a,H,I,rfl,q⟩
def Hs:Pu (Option Int):=λ_=>.ret none
def asI(d:D):M (Option Int):=match d with
 | .int i=>.ret (some i)
 | _=>.bad
def Hv(p:Pu D):Pu (Option Int):=λρ=>bd (p ρ) asI
def HH(d:D)(lo hi:Option Int):Option D:=match d with
 | .tuple ds=>some (.tuple (cutD ds lo hi))
 | .list ds=>some (.list (cutD ds lo hi))
 | _=>none
def APo(X:Cx)(e:Option Expr)(p:Pu (Option Int)):Prop :=
 ∀(G:Gh) (F:Hp) (Z:L2.St) (H:Hp) (ρ:En) (Q:Option Int->Hp->Prop),StOk X.K G F Z H ρ->W X G F Z ρ (p ρ) (λd F' H'=>Q d H')->∀(pins:zzk) (s:Shared),Inv X pins Z H s ->
  wpAny (model X.prog X.w) X.A (evalPart e X.env) (λu s'=>∃o H',Inv X pins Z H' s'/\IsPart u o/\Q o H') X.xe s
def EV(X:Cx)(e:Option Expr):TO:=λZ H Q=>∀(pins:zzk) (s:Shared),Inv X pins Z H s->wpAny (model X.prog X.w) X.A (evalPart e X.env) (λu s'=>∃o H',Inv X pins Z H' s'/\IsPart u o/\Q o H') X.xe s
theorem yN{X:Cx}{e:Option Expr}:PO X e (EV X e):=λpins s Z H Q I h=>h pins s I
section
variable {X:Cx}{e:Expr}{lo hi:Option Expr}{p:Pu D}{pl ph:Pu (Option Int)}{pos p2:Pos}
theorem sO:APo X none Hs:=λG F Z H ρ Q S w pins s I=>A3 pins s Z H Q I (w F H (Same.refl _) S)
theorem sN(h:AP X e p):APo X (some e) (Hv p):=λG F Z H ρ Q S w pins s I=>A2 aH pins s Z H Q I (h G F Z H ρ _ S (w.bind.imp λd F1 H1 s1 S1 w1 v r=>by
 cases r with
 | int i=>exact⟨i,rfl,w1 F1 H1 (Same.refl _) S1⟩
 | bl b=>exact w1.elim
 | non=>exact w1.elim
 | str i=>exact w1.elim
 | tup _ _=>exact w1.elim
 | lst _ _=>exact w1.elim
 | dct _ _ _=>exact w1.elim
 | dck _ _ _=>exact w1.elim
 | exc _ _ _ _ _=>exact w1.elim
 | fn _=>exact w1.elim))
end
def yV(f g:D->D->Option Bool)(a b c:Pu D):Pu Bool:=λρ=>bd (a ρ) λx=>bd (b ρ) λy=>bd (oM (f x y)) λt=>if t then bd (c ρ) λz=>oM (g y z)else .ret false
section
variable {X:Cx}{a b c:Expr}{pa pb pc:Pu D}{op op':CmpOp}{r r':R2}{f g:D->D->Option Bool}{pos:Pos}
theorem zW{G:Gh}{F H:Hp}{Z:L2.St}{ρ:En}{Q:VK}(hf:OpB X.K r f)(hg:OpB X.K r' g)(ha:AO X a pa)(hb:AO X b pb)(hc:AO X c pc)(S:StOk X.K G F Z H ρ)(w:W X G F Z ρ (yV f g pa pb pc ρ) λt F' H'=>Q (.bl t) H') :
  xX r r' (cW X a) (cW X b) (cW X c) Z H Q :=
 ha G F Z H ρ _ S (w.bind.imp λdx F1 H1 s1 S1 w1 x hx=>hb G F1 Z H1 ρ _ S1 (w1.bind.imp λdy F2 H2 s2 S2 w2 y hy=>by
  have w3:=w2.bind
  obtain⟨t,e,k⟩:=w3.opt
  refine hf G F2 Z H2 ρ x y dx dy t _ S2 ((hx.mono s2).or S2) (hy.or S2) e ⟨t,rfl,?_⟩
  have w4:=k F2 H2 (Same.refl _) S2
  cases t with
  | true =>
   refine pR ?_
   exact hc G F2 Z H2 ρ _ S2 ((show W X G F2 Z ρ (bd (pc ρ) λz=>oM (g dy z)) _ from w4).bind.imp λdz F3 H3 s3 S3 w5 z hz=>by
    obtain⟨t',e',k'⟩:=w5.opt
    exact hg G F3 Z H3 ρ y z dy dz t' _ S3 ((hy.mono s3).or S3) (hz.or S3) e' (k' F3 H3 (Same.refl _) S3))
  | false =>
   refine rL ?_
   exact(show W X G F2 Z ρ (.ret false) _ from w4) F2 H2 (Same.refl _) S2))
theorem sK(ho:OpR X (compareOp op) r)(ho':OpR X (compareOp op') r')(hf:OpB X.K r f)(hg:OpB X.K r' g)(ha:AO X a pa)(hb:AO X b pb)(hc:AO X c pc)(hm:lastMarks [op,op'] [b,c]=false):AT X (.Compare a [op,op'] [b,c] pos) (yV f g pa pb pc) :=
 λG F Z H ρ Q S w=>mR (yK ho ho' aH aH aH hm) (zW (Q:=λx H'=>∃k,x=.bl k/\Q k H') hf hg ha hb hc S (w.imp λt F' H' _ _ q=>⟨t,rfl,q⟩))
end
def vh(d e:D):Option Bool:=match d,e with
 | .bool a,.bool b=>some (a==b)
 | _,.none=>some (isNone d)
 | _,_=>none
section
variable {X:Cx}
theorem Bb:OpR X (compareOp .Is) (rD2 X.K vh):=by
 intro pins s Z H x y v u Q I rx ry ⟨d,e,b,r1,r2,ho,q⟩
 unfold vh at ho
 split at ho
 ·cases ho
  obtain rfl:=r1.bool_inv
  obtain rfl:=r2.bool_inv
  cases rx
  cases ry
  exact PyProof.Rows.is_bool ⟨.bl _,H,I,rfl,q⟩
 ·exact A9 pins s Z H x y v u Q I rx ry ⟨d,.none,b,r1,r2,by rw[<-ho];rfl,q⟩
 ·cases ho
end
def boolsOf:List D->Option (List Bool)
 | []=>some []
 | .bool b::r=>match boolsOf r with
  | some l=>some (b::l)
  | none=>none
 | _=>none
theorem mC:∀{ds:List D} {bs:List Bool},boolsOf ds=some bs->ds=bs.map PyData.bool
 | [],_,h=>by cases h;rfl
 | .bool i::r,ns,h=>by
  dsimp only[boolsOf]at h
  split at h
  ·rename_i l e;cases h;rw[mC e];rfl
  ·cases h
 | .none::_,_,h=>by cases h
 | .int _::_,_,h=>by cases h
 | .str _::_,_,h=>by cases h
 | .list _::_,_,h=>by cases h
 | .tuple _::_,_,h=>by cases h
 | .dict _::_,_,h=>by cases h
theorem lh{K:Fg}{F:Hp}:∀{vs:List V} {bs:List Bool},RepL K F vs (bs.map PyData.bool)->vs=bs.map V.bl
 | _,[],h=>by cases h;rfl
 | _,n::r,h=>by
  cases h with
  | cons a b=>cases a;rw[lh b];rfl
theorem kQ:∀{bs:List Bool} {us:List Value},Vals (bs.map V.bl) us->us=bs.map Value.bool
 | [],_,h=>by cases h;rfl
 | n::r,_,h=>by
  cases h with
  | cons a b=>cases a;rw[kQ b];rfl
def El:List D->Option Bool
 | [.list ds]=>(boolsOf ds).map λbs=>bs.all id
 | _=>none
def tP(K:Fg)(f:List Bool->Bool):List V->Hp->VK->Prop:=λxs H Q=>∃a bs,xs=[.ref a]/\SqL K H a (bs.map V.bl)/\Q (.bl (f bs)) H
theorem za{K:Fg}{f:List Bool->Bool}{g:List D->Option Bool}(hg:∀l b,g l=some b->∃bs,l=[.list (bs.map PyData.bool)]/\b=f bs):uM K (tP K f) g:=by
 intro G F Z H ρ xs ds res Q S o e k
 obtain⟨bs,rfl,rfl⟩:=hg _ _ e
 obtain⟨v,r,rfl,ho,hr⟩:=aV o
 obtain rfl:=bG hr
 obtain⟨a,vs,rfl,h1,h2⟩:=ho.list S.fh
 rw[lh h2]at h1
 exact⟨a,bs,rfl,h1,k⟩
theorem DW{K:Fg}:uM K (tP K λbs=>bs.all id) El:=za λl b h=>by
 unfold El at h
 split at h
 ·obtain⟨bs,e,rfl⟩:=Option.map_eq_some_iff.mp h
  exact⟨bs,by rw[mC e],rfl⟩
 ·cases h
theorem xu{prog:Program}{w:World}{A:Around}{E:zzj}{s:Shared}{l:Addr}{its:Array Value}{Q:zzj}(hl:s.heap.IsList l its)
  (h:∀s₂:Shared,s₂={ s with heap:=s.heap.push { cls:=.type "list_iterator",data:=.fields #[.ref l,.int 0 0] } } ->
   (s₂.heap.IsListIter s.heap.objs.size l 0/\s₂.heap.IsList l its)->l≠s.heap.objs.size->Q (.ref s.heap.objs.size) s₂) :
  wpAny (model prog w) A (pyIter (.ref l)) Q E s:=by
 have hlt:l<s.heap.objs.size:=by obtain⟨_,e,_⟩:=hl;exact Heap.lt_size e
 exact wpAny_pyIter_list hl (h _ rfl ⟨⟨_,zze _ rfl,rfl,rfl⟩,hl.push _⟩ (Nat.ne_of_lt hlt))
theorem qC{prog:Program}{w:World}{A:Around}(bs:List Bool):TruthOf prog w A (λi v=>(bs.map Value.bool).toArray[i]? = some v) (λi=>bs.getD i false):=λi v s Q E hP hQ=>by
 dsimp only at hP hQ
 rw[List.getElem?_toArray,List.getElem?_map]at hP
 obtain⟨b,e,rfl⟩:=Option.map_eq_some_iff.mp hP
 rw[List.getD_eq_getElem?_getD,e]at hQ
 exact wpAny_truthy_bool hQ
theorem all_range(bs:List Bool):(List.range bs.length).all (λi=>bs.getD i false)=bs.all id:=by
 induction bs with
 | nil=>rfl
 | cons b r ih =>
  rw[List.length_cons,List.range_succ_eq_map,List.all_cons,List.all_map,List.all_cons]
  simp only[List.getD_cons_zero,id_eq]
  congr 1
theorem zY{X:Cx}(hc:X.calm=true):CallR X (.builtin "all") (tP X.K λbs=>bs.all id):=by
 intro pins s Z H xs us Q I r h
 obtain⟨a,bs,rfl,hq,q⟩:=h
 obtain⟨u,rfl,ru⟩:=Vals.one r
 cases ru
 obtain⟨its,rv,pl,hz⟩:=I.list hq
 rw[kQ rv]at pl
 refine call_all_walk (xu pl.isList λs₂ e st hlI=>?_)
 subst e
 refine⟨_,_,_,_,_,_,_,rfl,Walks.list (A:=X.A.in1) (I.ok.hd hc) _ a hlI (bs.map Value.bool).toArray,st,qC bs,λh' tk hk=>?_⟩
 refine⟨.bl (bs.all id),H,I.kept (old_kept hk),?_,q⟩
 show _=_
 rw[<-all_range bs]
 simp
def BG:List D->Option D
 | [.int i]=>some (.int i)
 | [.bool b]=>some (.int (if b then 1 else 0))
 | _=>none
theorem DV{K:Fg}:gU K (λxs H Q=>(∃i,xs=[.int i]/\Q (.int i) H)\/∃k,xs=[.bl k]/\Q (.int (if k then 1 else 0)) H) BG:=by
 intro G F Z H ρ xs ds res Q S o e k
 unfold BG at e
 split at e
 ·cases e
  obtain⟨v,r,rfl,ho,hr⟩:=aV o
  obtain rfl:=bG hr
  exact .inl ⟨_,by rw[ho.int],k _ F H (Same.refl _) S (.int _)⟩
 ·cases e
  obtain⟨v,r,rfl,ho,hr⟩:=aV o
  obtain rfl:=bG hr
  exact .inr ⟨_,by rw[ho.bool],k _ F H (Same.refl _) S (.int _)⟩
 ·cases e
def pX:List D->Option D
 | [.int i]=>if i.natAbs.log2<1920 then some (.str (toString i))else none
 | _=>none
theorem o8{K:Fg}:gU K (λxs H Q=>∃i,xs=[.int i]/\i.natAbs.log2<1920/\Q (.str (toString i)) H) pX:=by
 intro G F Z H ρ xs ds res Q S o e k
 unfold pX at e
 split at e
 ·split at e
  ·rename_i hz
   cases e
   obtain⟨v,r,rfl,ho,hr⟩:=aV o
   obtain rfl:=bG hr
   exact⟨_,by rw[ho.int],hz,k _ F H (Same.refl _) S (.str _)⟩
  ·cases e
 ·cases e
theorem kO{X:Cx}{x:Str}{v:V}{u:Value}{d:D}{pos:Pos}(hg:Gl X x)(hm:X.mg x=some u)(r:RelV v u)(rp:∀F,Rep X.K F v d)(hd:(x==("__debug__" : Str))=false):AP X (.Name x pos) (wN d) :=
 mG (A7 hg hm r hd) rp
section
variable {S:Type}
def putD(ds:List D)(j d:D):Option (List D):=match j with
 | .int k=>(ixN ds.length k).map λq=>ds.set q d
 | _=>none
def Hf(i:Nat)(mi me:Ev S D):SM S:=λK ρ=>me K.x (λd ρ1=>match gB ρ1 i with
 | some _=>mi K.x (λj ρ2=>match gB ρ2 i with
  | some ds=>(oM (putD ds j d)).on (λe=>K.x e ρ2) (λds'=>K.nx (oI ρ2 i ds'))
  | none=>.bad) ρ1
 | none=>.bad) ρ
variable {X:Cx}{a b e:Expr}{mi me:Ev S D}{pos pos' tpos apos cpos:Pos}{ml:Ev S (List D)}
theorem Ae{i:Nat}{x:Str}(hN:X.N[i]? = some x)(hv:Vis X.env.scope x)(hi:AE X b mi)(he:AE X e me)(ha:∀v,assign (.Subscript (.Name x pos') b tpos) X.env v=(do
   let ov <-holding [v] (eval (.Name x pos') X.env)
   let iv <-holding [v,ov] (eval b X.env)
   standAt tpos
   holding [v,ov,iv] (setItem ov iv v)
   release [v,ov,iv] []))
  (hs:swapsWithSole [.Subscript (.Name x pos') b tpos] e pos.line X.env=pure false) (hw:swappedStores [.Subscript (.Name x pos') b tpos] e X.env=pure none)
  (h1:(assignEach [.Subscript (.Name x pos') b tpos] X.env).map (·.2)=[assign (.Subscript (.Name x pos') b tpos) X.env])
  (hd:(x==("__debug__" : Str))=false:=by decide) (hcd:(x==("__classdict__" : Str))=false:=by decide):AS X (.Assign [.Subscript (.Name x pos') b tpos] e pos) (Hf i mi me):=λOK K G F Z H ρ E hO hX St ok eo =>
 gc (Dx aH (DA (bV hN hv hd hcd) aH set_list ha) hs hw h1) (he OK K.x _ G F Z H ρ _ hO hX St ok λd v F1 H1 ρ1 s1 S1 r1 o1=>by
  split at o1
  case h_2=>exact(hO o1).elim
  rename_i ds0 hd0
  obtain⟨a,vs0,ea,_,_⟩:=gY S1 hd0
  refine⟨_,ea,hi OK K.x _ G F1 Z H1 ρ1 _ hO hX S1 o1 λj u F2 H2 ρ2 s2 S2 r2 o2=>?_⟩
  split at o2
  case h_2=>exact(hO o2).elim
  rename_i ds hds
  obtain⟨ds',hp,o3⟩:=eY hO o2
  obtain⟨a',vs,ea',hh,rv⟩:=gY S2 hds
  rw[ea]at ea'
  injection ea' with ea';injection ea' with ea';injection ea' with ea'
  subst ea'
  unfold putD at hp
  split at hp
  ·rename_i k
   obtain⟨q,hq,rfl⟩:=Option.map_eq_some_iff.mp hp
   obtain rfl:=r2.int_inv
   refine⟨a,vs,k,q,rfl,rfl,hh,by rw[rv.length];exact hq,?_⟩
   exact eo.nx F2 Z _ _ (s1.trans s2) (oV S2 hds ea (RepL.set (r1.mono s2) q rv)) o3
  ·cases hp)
end
def kindB(k:NameKind):Option NameKind->Bool
 | some k'=>k==k'
 | none=>false
def qa(N N':List Str)(k:Nat)(scope sc:Scope):Bool :=
 (scope.kind==.function)&&(N'.length==N.length+k)&&scope.names.all (λy=>y.2 != .cell)&&scope.names.all (λy=>y.2 != .local||kindB .local (scope.names.lookup y.1))
  && ((List.range N.length).all λi=>match N'[i]? with
   | some x=>!(kindB .free (scope.names.lookup x)||kindB .local (scope.names.lookup x)||kindB .cell (scope.names.lookup x))||(N[i]? == some x&&kindB .free (scope.names.lookup x))
   | none=>true)
  && scope.names.all (λy=>y.2 != .free||kindB .cell (sc.names.lookup y.1)||kindB .free (sc.names.lookup y.1))
theorem jp{k:NameKind}{o:Option NameKind}(h:kindB k o=true):o=some k:=by
 cases o with
 | none=>cases h
 | some k'=>simp[kindB]at h;rw[h]
theorem zw{k:NameKind}{o:Option NameKind}(h:o=some k):kindB k o=true:=by subst h;simp[kindB]
theorem aZ{X:Cx}{N N':List Str}{k:Nat}{scope sc:Scope}(h:qa N N' k scope sc=true)(hN:X.N=N)(hs:X.env.scope=sc):CompOk X N' k scope:=by
 subst hN hs
 simp only[qa,Bool.and_eq_true,List.all_eq_true,beq_iff_eq,Bool.or_eq_true,bne_iff_ne,ne_eq]at h
 obtain⟨⟨⟨⟨⟨h1,h2⟩,h3⟩,h4⟩,h5⟩,h6⟩:=h
 refine⟨h1,h2,λy hy=>h3 y hy,λy hy hl=>?_,λi x hi hx _ hk=>?_,λy hy hf=>?_⟩
 ·rcases h4 y hy with z|z
  ·exact absurd hl z
  ·exact jp z
 ·have:=h5 i (List.mem_range.mpr hi)
  rw[hx]at this
  simp only[Bool.or_eq_true,Bool.not_eq_true',Bool.and_eq_true,beq_iff_eq]at this
  rcases this with z|⟨z1,z2⟩
  ·exfalso
   rcases hk with hk|hk|hk<;>simp[zw hk]at z
  ·exact⟨z1,jp z2⟩
 ·rcases h6 y hy with (z|z)|z
  ·exact absurd hf z
  ·exact .inl (jp z)
  ·exact .inr (jp z)
section
variable {S:Type}{X:Cx}{a b e:Expr}{ms:Ev S (List D)}{pos:Pos}
def Hg(i j:Nat)(ms:Ev S (List D)):SM S:=λK ρ=>ms K.x (λds ρ1=>match ds with
 | [u,v]=>(match fW ρ1 i&&fW (ρ1.set i (some (.fz u))) j with
  | true=>K.nx ((ρ1.set i (some (.fz u))).set j (some (.fz v)))
  | false=>.bad)
 | _=>.bad) ρ
theorem Af{i j:Nat}{x y:Str}{px py pt:Pos}{kt k2 pt2}(hc:X.calm=true)(hN:X.N.Nodup)(hi:X.N[i]? = some x)(hj:X.N[j]? = some y)(hij:i≠j)
  (hx:X.env.scope.names.lookup x=some .local) (hy:X.env.scope.names.lookup y=some .local) (ha:AEa X [a,b] ms)
  (hw:swappedStores [.Tuple [.Name x px,.Name y py] kt pt] (.Tuple [a,b] k2 pt2) X.env=pure (some [x,y]))
  (hs:swapsWithSole [.Tuple [.Name x px,.Name y py] kt pt] (.Tuple [a,b] k2 pt2) pos.line X.env=pure false) :
  AS X (.Assign [.Tuple [.Name x px,.Name y py] kt pt] (.Tuple [a,b] k2 pt2) pos) (Hg i j ms):=λOK K G F Z H ρ E hO hX St ok eo =>
 gc (Du hc hN hi hj hij hx hy bC hw hs) (ha OK K.x _ G F Z H ρ _ hO hX St ok λds vs F1 H1 ρ1 s1 S1 hl r1 o1=>by
  split at o1
  ·split at o1
   ·rename_i _ u v _ hok
    rw[Bool.and_eq_true]at hok
    obtain⟨h1,h2⟩:=cK hok.1
    obtain⟨h3,h4⟩:=cK hok.2
    cases r1 with
    | cons ra rb =>
     cases rb with
     | cons rb rc =>
      cases rc
      refine⟨_,_,rfl,eo.nx F1 _ H1 _ s1 ?_ o1⟩
      exact(S1.store h2 h1 (.inl ⟨u,rfl,ra⟩)).store h4 h3 (.inl ⟨v,rfl,rb⟩)
   ·exact(hO o1).elim
  ·exact(hO o1).elim)
end
theorem wZ{K:Fg}{H:Hp}{a:Addr}{ns:List Int}{mf:List D->M D}(hS:SqL K H a (ns.map V.int))(h:mf [.list (ns.map PyData.int)]=.ret (.bool true)):spD K 1 mf [.ref a] H (λv _=>v=.bl true) λ_ _ _=>False:=by
 refine⟨⟨λ_=>none,λ_=>none,H⟩,H,[.list (ns.map PyData.int)],rfl,⟨Same.refl _,λb o z=>(nomatch z),λb o z=>(nomatch z),rfl,λi d z=>?_,λi c z=>(e7 (ds:=[.list (ns.map PyData.int)]) z).elim,λi j c e a z=>(e7 (ds:=[.list (ns.map PyData.int)]) z).elim,λi a z=>(nomatch z),λi c z=>?_,Same.refl _⟩,?_⟩
 ·obtain⟨d',e,q⟩:=iF (ds:=[.list (ns.map PyData.int)]) z
  cases e
  cases i with
  | zero=>simp at q;subst q;exact⟨_,rfl,.lst hS (RepL.ints ns)⟩
  | succ i=>simp at q
 ·obtain⟨d',e,q⟩:=iF (ds:=[.list (ns.map PyData.int)]) z
  cases e
 ·rw[h]
  intro v F' H' s S' r
  cases r
  rfl
end L4
namespace HT
end HT
namespace L4
open PySem PySem.Spec PyProof.Rows L2 L3
noncomputable def lW{S T:Type}:(T->D->(T->M S)->M S)->List D->T->(T->M S)->M S:=Classical.choose (⟨@gh S T,rfl⟩:∃f,f = @gh S T)
theorem kI{S T:Type} : @lW S T = @gh S T:=Classical.choose_spec (⟨@gh S T,rfl⟩:∃f,f = @gh S T)
noncomputable def oE{S T:Type}:(T->(T->M S)->M S)->Nat->T->M S:=Classical.choose (⟨@bU S T,rfl⟩:∃f,f = @bU S T)
theorem nk{S T:Type} : @oE S T = @bU S T:=Classical.choose_spec (⟨@bU S T,rfl⟩:∃f,f = @bU S T)
section
variable {S:Type}
noncomputable def yt(sh:List Kd)(it:Ev S (List D))(t:Tg S)(mb:SM S):SM S:=λK ρ=>it K.x (λds ρ1=>rdk sh (λs=>lW (λs d kn=>t d (λρ2=>mb (h7 sh K kn) ρ2) (wr sh s)) ds s (λs'=>K.nx (wr sh s'))) ρ1) ρ
noncomputable def oO(sh:List Kd)(fuel:Nat)(c:Ev S Bool)(mb:SM S):SM S:=λK ρ=>rdk sh (λs=>oE (λs kn=>c K.x (λb ρ2=>if b then mb (h7 sh K kn) ρ2 else rdk sh (λs'=>K.nx (wr sh s')) ρ2) (wr sh s)) fuel s) ρ
theorem yr(sh:List Kd)(it:Ev S (List D))(t:Tg S)(mb:SM S):yt sh it t mb=Do sh it t mb:=by
 unfold yt Do
 rw[kI]
theorem tK(sh:List Kd)(fuel:Nat)(c:Ev S Bool)(mb:SM S):oO sh fuel c mb=tL sh fuel c mb:=by
 unfold oO tL
 rw[nk]
variable {X:Cx}{mb:SM S}{c:Expr}{mt:Ev S Bool}{ml:Ev S (List D)}{pos:Pos}
theorem g8{tg iter:Expr}{body:List Stmt}{sh:List Kd}{t:Tg S}(hp:PassesOwn (model X.prog X.w) X.A X.env X.xe)(hc:X.calm=true)(hi:AEi X tg iter ml)(hg:AG X 0 tg t)(hb:ASs X body mb)
  (hs:∀x,foldedSetIterable iter X.env x=pure x:=by exact λ_=>rfl):AS X (.For tg iter body [] pos) (yt sh ml t mb):=by
 rw[yr]
 exact Ew hp hc hi hg hb hs
theorem oq{body:List Stmt}{sh:List Kd}{fuel:Nat}(hp:PassesOwn (model X.prog X.w) X.A X.env X.xe)(hc:AEt X c mt)(hb:ASs X body mb):AS X (.While c body [] pos) (oO sh fuel mt mb):=by
 rw[tK]
 exact Ad hp hc hb
end
end L4
namespace HT
end HT
namespace PySem
end PySem
namespace L4
open PySem PySem.Spec PyProof.Rows L2 L3
theorem fM{env:Env}:∀{names:List (Str×NameKind)} {x:Str},names.lookup x=some .free ->
  (names.map λ(n,k)=>if(k==NameKind.free&&env.scope.kind==.function&&env.kindOf n==some .cell)then(n,NameKind.cell)else(n,k)).lookup x=some .cell
  \/ (names.map λ(n,k)=>if(k==NameKind.free&&env.scope.kind==.function&&env.kindOf n==some .cell)then(n,NameKind.cell)else(n,k)).lookup x=some .free
 | [],_,h=>by simp at h
 | (n,k)::r,x,h=>by
  rw[List.map_cons]
  dsimp only
  by_cases hc:(k==NameKind.free&&env.scope.kind==.function&&env.kindOf n==some .cell)=true
  ·rw[if_pos hc]
   by_cases hx:(x==n)=true
   ·left;simp[List.lookup_cons,hx]
   ·simp only[List.lookup_cons,Bool.not_eq_true]at h hx ⊢
    rw[hx]at h ⊢
    exact fM h
  ·rw[if_neg hc]
   by_cases hx:(x==n)=true
   ·right;simp only[List.lookup_cons,hx]at h ⊢;exact h
   ·simp only[List.lookup_cons,Bool.not_eq_true]at h hx ⊢
    rw[hx]at h ⊢
    exact fM h
theorem xH{X:Cx}{N N':List Str}{k:Nat}{scope sc:Scope}{cl:List (Str×Addr)}{s2:Shared}{H2:Hp}{fp:List Addr}{C:Addr}(h:qa N N' k scope sc=true)(hc:sc.names.all (λy=>y.2 != .cell)=true) :
  CompOk (aL X N sc cl s2 H2 fp C) N' k scope:=by
 have q:CompOk { X with N:=N,env:={ X.env with scope:=sc } } N' k scope:=aZ h rfl rfl
 refine⟨q.kind,q.len,q.nocell,q.names,q.outer,λy hy hf=>?_⟩
 rcases q.free y hy hf with z|z
 ·exfalso
  have z':sc.names.lookup y.1=some .cell:=z
  rw[List.all_eq_true]at hc
  have:∀(l:List (Str×NameKind)) (x:Str),(∀y∈l,y.2≠.cell)->l.lookup x≠some .cell:=λl x=>by
   induction l with
   | nil=>intro _ e;cases e
   | cons a l ih =>
    intro hl e
    rw[List.lookup_cons]at e
    split at e
    ·exact hl a (by simp) (by simpa using e)
    ·exact ih (λy hy=>hl y (by simp[hy])) e
  exact this _ _ (λy hy=>by simpa using hc y hy) z'
 ·exact fM (env:=X.env) (names:=sc.names) z
def eA:D->Bool
 | .int _=>true
 | .str _=>true
 | _=>false
def fQ:D->Bool
 | .tuple ds=>ds.all eA
 | _=>false
def rG:D->D->Bool
 | .int i,.int j=>decide (i=j)
 | .str i,.str j=>decide (i=j)
 | _,_=>false
def lQ:List D->List D->Bool
 | [],[]=>true
 | a::r,b::t=>rG a b&&lQ r t
 | _,_=>false
def zx:D->D->Bool
 | .tuple a,.tuple b=>lQ a b
 | a,b=>rG a b
def keyOk(es:List (D×D))(k:D):Bool:=(fQ k&&es.all λp=>fQ p.1)||(eA k&&es.all λp=>eA p.1)
theorem pP{es:List (D×D)}{k:D}(h:keyOk es k=true):ub es=false:=by
 unfold ub
 split
 ·simp[keyOk,fQ,eA]at h
 ·simp[keyOk,fQ,eA]at h
 ·rfl
def rM(es:List (D×D))(k:D):Option D:=(es.find? λp=>zx p.1 k).map (·.2)
theorem rF(a b:Key):rG (keyD a) (keyD b)=decide (a=b):=by
 cases a<;>cases b<;>simp[rG,keyD]
theorem rE:∀(a b:List Key),lQ (a.map keyD) (b.map keyD)=decide (a=b)
 | [],[]=>by simp[lQ]
 | [],_::_=>by simp[lQ]
 | _::_,[]=>by simp[lQ]
 | x::xs,y::ys=>by
  simp only[List.map_cons,lQ,rF,rE xs ys]
  by_cases h:x=y<;>by_cases g:xs=ys<;>simp[h,g]
theorem Ea(a b:List Key):zx (m9 a) (m9 b)=decide (a=b):=rE a b
theorem Eb(a b:Key):zx (keyD a) (keyD b)=decide (a=b):=by
 have h:zx (keyD a) (keyD b)=rG (keyD a) (keyD b):=by cases a<;>cases b<;>rfl
 rw[h];exact rF a b
theorem jU{d:D}(h:eA d=true):∃k,d=keyD k:=by
 cases d<;>first|exact⟨.inl _,rfl⟩|exact⟨.inr _,rfl⟩|cases h
theorem lS:∀{ds:List D},ds.all eA=true->∃k:List Key,ds=k.map keyD
 | [],_=>⟨[],rfl⟩
 | d::ds,h=>by
  rw[List.all_cons,Bool.and_eq_true]at h
  obtain⟨k,rfl⟩:=jU h.1
  obtain⟨ks,rfl⟩:=lS h.2
  exact⟨k::ks,rfl⟩
theorem nQ{d:D}(h:fQ d=true):∃k,d=m9 k:=by
 cases d<;>first|cases h|skip
 obtain⟨k,rfl⟩:=lS h
 exact⟨k,rfl⟩
theorem zD(k:Key):fQ (keyD k)=false:=by cases k<;>rfl
theorem zE(k:List Key):eA (m9 k)=false:=rfl
section
variable {K:Fg}{F H:Hp}{v:V}
theorem lg{k:Key}(r:Rep K F v (keyD k)):v=kV k:=by
 cases k with
 | inl i=>cases (show Rep K F v (.int i)from r);rfl
 | inr i=>cases (show Rep K F v (.str i)from r);rfl
theorem nH:∀{vs:List V} {k:List Key},RepL K F vs (k.map keyD)->vs=k.map kV
 | _,[],r=>by rw[List.map_nil]at r;cases r;rfl
 | _,k::ks,r=>by
  rw[List.map_cons]at r
  cases r with
  | cons a b=>rw[lg a,nH b];rfl
theorem qN{k:List Key}(r:Rep K F v (m9 k)):∃b,v=.ref b/\F b=some (.tup (k.map kV)):=by
 unfold m9 at r
 cases r with
 | tup h1 h2=>rw[nH h2]at h1;exact⟨_,rfl,h1⟩
def DT(K:Fg)(F H:Hp)(a:Addr)(es:List (D×D)):Prop:=∃kvs,H a=some (.dT kvs)/\es.map (·.1)=kvs.map (λp=>m9 p.1)/\RepL K F (kvs.map (·.2)) (es.map (·.2))
def DK(K:Fg)(F H:Hp)(a:Addr)(es:List (D×D)):Prop:=∃kvs,H a=some (.dK kvs)/\es.map (·.1)=kvs.map (λp=>keyD p.1)/\RepL K F (kvs.map (·.2)) (es.map (·.2))
theorem OR.dict{es:List (D×D)}(s:Same F H)(h:OR K F H v (.dict es))(hx:ub es=false):∃a,v=.ref a/\(DT K F H a es\/DK K F H a es):=by
 rcases h with h|⟨a,c,e,e2,h1,hI⟩
 ·cases h with
  | dct h1 h2 h3=>exact⟨_,rfl,.inl ⟨_,s _ _ h1,h2,h3⟩⟩
  | dck h1 h2 h3=>exact⟨_,rfl,.inr ⟨_,s _ _ h1,h2,h3⟩⟩
  | exc _ _ _ _ _=>cases hx
  | fn _=>cases hx
 ·cases c<;>cases e2
  ·exact⟨a,e,.inl h1⟩
  ·exact⟨a,e,.inr h1⟩
theorem pU{κ:Type}[DecidableEq κ]{kd:κ->D}(inj:∀a b,zx (kd a) (kd b)=decide (a=b))(k:κ):∀{kvs:List (κ×V)} {es:List (D×D)},es.map (·.1)=kvs.map (λp=>kd p.1)->RepL K F (kvs.map (·.2)) (es.map (·.2)) ->
  (∃d v,rM es (kd k)=some d/\iK kvs k=some v/\Rep K F v d)\/(rM es (kd k)=none/\iK kvs k=none)
 | [],[],_,_=>.inr ⟨rfl,rfl⟩
 | [],_::_,e,_=>by simp at e
 | _::_,[],e,_=>by simp at e
 | p::kvs,q::es,e,r=>by
  simp only[List.map_cons,List.cons.injEq]at e
  cases r with
  | cons r1 r2 =>
   unfold rM iK
   rw[List.find?_cons,List.find?_cons,e.1,inj]
   by_cases h:p.1=k
   ·simp only[h,decide_true]
    exact .inl ⟨_,_,rfl,rfl,r1⟩
   ·simp only[h,decide_false]
    exact pU inj k e.2 r2
end
def qx(H:Hp)(a:Addr):Prop:=H a=some (.dT [])\/H a=some (.dK [])
theorem mq{X:Cx}{pins:zzk}{Z:L2.St}{H:Hp}{s:Shared}{a:Addr}(I:Inv X pins Z H s)(h:qx H a) :
  s.heap.DictOfH (tupleKind (bv X.prog X.w)) a []/\s.heap.DictOf (bv X.prog X.w) a []/\(a==sysModules)=false:=by
 rcases h with h|h
 ·obtain⟨z,y,xs,kt,o,es,ep,h1,h2,h3,h4,h5,h6⟩:=C1 I.hok h
  cases kt
  have e0:es = #[]:=by
   have:es.toList=[]:=h4
   exact Array.toList_inj.mp this
  subst e0
  exact⟨⟨o,_,ep,h1,h2,h3,rfl,(λx hx=>by simp at hx),List.nodup_nil⟩,⟨o,_,ep,h1,h2,h3,λe he=>by simp at he,.nil,List.nodup_nil⟩,y⟩
 ·obtain⟨z,y,vs,kv,o,es,ep,h1,h2,h3,h4,h5,h6⟩:=C2 I.hok h
  cases kv
  have e0:es = #[]:=by
   have:es.toList=[]:=by
    generalize es.toList=l at h5
    cases h5
    rfl
   exact Array.toList_inj.mp this
  subst e0
  exact⟨⟨o,_,ep,h1,h2,h3,rfl,(λx hx=>by simp at hx),List.nodup_nil⟩,⟨o,_,ep,h1,h2,h3,λe he=>by simp at he,.nil,List.nodup_nil⟩,y⟩
theorem DT.empty{K:Fg}{F H:Hp}{a:Addr}(h:DT K F H a []):qx H a:=by
 obtain⟨kvs,h1,h2,_⟩:=h
 cases kvs with
 | nil=>exact .inl h1
 | cons _ _=>simp at h2
theorem DK.empty{K:Fg}{F H:Hp}{a:Addr}(h:DK K F H a []):qx H a:=by
 obtain⟨kvs,h1,h2,_⟩:=h
 cases kvs with
 | nil=>exact .inr h1
 | cons _ _=>simp at h2
def EK(H:Hp)(y:V):Prop:=(∃k,y=kV k)\/∃(b:Addr) (ks:List Key),y=.ref b/\H b=some (.tup (ks.map kV))
def Ap(H:Hp)(a:Addr)(y:V)(o:Option V):Prop:=DGet H a y o\/(qx H a/\EK H y/\o=none)
theorem uD{K:Fg}{F H:Hp}{a:Addr}{y:V}{es:List (D×D)}{k:D}(s:Same F H)(h:DT K F H a es\/DK K F H a es)(r:Rep K F y k)(hk:keyOk es k=true) :
  (∃d v,rM es k=some d/\Ap H a y (some v)/\Rep K F v d)\/(rM es k=none/\Ap H a y none):=by
 unfold keyOk at hk
 rw[Bool.or_eq_true,Bool.and_eq_true,Bool.and_eq_true]at hk
 have kT:fQ k=true->EK H y:=λh=>by
  obtain⟨ks,rfl⟩:=nQ h
  obtain⟨b,rfl,hb⟩:=qN r
  exact .inr ⟨b,ks,rfl,s _ _ hb⟩
 have kK:eA k=true->EK H y:=λh=>by
  obtain⟨ks,rfl⟩:=jU h
  exact .inl ⟨ks,lg r⟩
 cases es with
 | nil =>
  refine .inr ⟨rfl,.inr ⟨?_,?_,rfl⟩⟩
  ·rcases h with h|h
   ·exact h.empty
   ·exact h.empty
  ·rcases hk with hk|hk
   ·exact kT hk.1
   ·exact kK hk.1
 | cons p es =>
  rcases h with ⟨kvs,h1,h2,h3⟩|⟨kvs,h1,h2,h3⟩
  ·rcases hk with ⟨hk,_⟩|⟨_,hk⟩
   ·obtain⟨ks,rfl⟩:=nQ hk
    obtain⟨b,rfl,hb⟩:=qN r
    rcases pU Ea ks h2 h3 with ⟨d,v,e1,e2,e3⟩|⟨e1,e2⟩
    ·exact .inl ⟨d,v,e1,.inl (e2▸DGet.t h1 (s _ _ hb)),e3⟩
    ·exact .inr ⟨e1,.inl (e2▸DGet.t h1 (s _ _ hb))⟩
   ·exfalso
    cases kvs with
    | nil=>simp at h2
    | cons q kvs =>
     simp only[List.map_cons,List.cons.injEq]at h2
     rw[List.all_cons,h2.1,zE,Bool.false_and]at hk
     cases hk
  ·rcases hk with ⟨_,hk⟩|⟨hk,_⟩
   ·exfalso
    cases kvs with
    | nil=>simp at h2
    | cons q kvs =>
     simp only[List.map_cons,List.cons.injEq]at h2
     rw[List.all_cons,h2.1,zD,Bool.false_and]at hk
     cases hk
   ·obtain⟨ks,rfl⟩:=jU hk
    obtain rfl:=lg r
    rcases pU Eb ks h2 h3 with ⟨d,v,e1,e2,e3⟩|⟨e1,e2⟩
    ·exact .inl ⟨d,v,e1,.inl (e2▸DGet.k h1),e3⟩
    ·exact .inr ⟨e1,.inl (e2▸DGet.k h1)⟩
section
variable {X:Cx}{pins:zzk}{Z:L2.St}{H:Hp}{s:Shared}{a:Addr}{y d:V}{u r:Value}{o:Option V}{A:Around}{E:zzj}
theorem HY{Q:zzj}(hu:A.units+1<cLine)(I:Inv X pins Z H s)(g:Ap H a y o)(ry:RelV y u)(h:∀s',Inv X pins Z H s'->Q (.bool o.isSome) s') :
  wpAny (model X.prog X.w) A (compareOp .In u (.ref a)) Q E s:=by
 rcases g with g|⟨e,k,rfl⟩
 ·exact HR hu I g ry h
 ·obtain⟨h1,h2,hd⟩:=mq I e
  rcases k with ⟨k,rfl⟩|⟨b,ks,rfl,hb⟩
  ·exact wpAny_in_of (nO ry) hd h2.mapOf (h _ (I.tok _))
  ·cases (show u=Value.ref b from ry)
   exact wpAny_in_heap (tupleKind_room_in1 hu) (jS I.hok hb) hd h1 (h _ (I.tok _))
theorem B7{Q:zzj}(hu:A.units+1<cLine)(I:Inv X pins Z H s)(g:Ap H a y o)(ry:RelV y u)(h:∀s',Inv X pins Z H s'->Q (.bool (!o.isSome)) s') :
  wpAny (model X.prog X.w) A (compareOp .NotIn u (.ref a)) Q E s:=by
 rcases g with g|⟨e,k,rfl⟩
 ·exact BJ hu I g ry h
 ·obtain⟨h1,h2,hd⟩:=mq I e
  rcases k with ⟨k,rfl⟩|⟨b,ks,rfl,hb⟩
  ·exact wpAny_notIn_of (nO ry) hd h2.mapOf (h _ (I.tok _))
  ·cases (show u=Value.ref b from ry)
   exact wpAny_notIn_heap (tupleKind_room_in1 hu) (jS I.hok hb) hd h1 (h _ (I.tok _))
end
def fq(d c:D):Option Bool:=match c with
 | .dict es=>if keyOk es d then some (rM es d).isSome else none
 | _=>qZ d c
def dC(d c:D):Option Bool:=match c with
 | .dict es=>if keyOk es d then some (!(rM es d).isSome)else none
 | _=>fO d c
def bI(x y:D):Option D:=match x with
 | .dict es=>if keyOk es y then rM es y else none
 | _=>gf x y
def FA(neg:Bool):R2:=λx y H Q=>∃a o,y=.ref a/\Ap H a x o/\Q (.bl (if neg then !o.isSome else o.isSome)) H
def Fz(K:Fg):R2:=λx y H Q=>rD2 K qZ x y H Q\/FA false x y H Q
def uV(K:Fg):R2:=λx y H Q=>rD2 K fO x y H Q\/FA true x y H Q
def FB:R2:=λx y H Q=>∃a v,x=.ref a/\DGet H a y (some v)/\Q v H
def Fy(K:Fg):R2:=λx y H Q=>rIx K x y H Q\/FB x y H Q
section
variable {X:Cx}
theorem oX(hu:X.A.units+1100<cLine):OpR X (compareOp .In) (Fz X.K):=OpR.or (DL hu) (by
 intro pins s Z H x y v u Q I rx ry ⟨a,o,e,g,q⟩
 subst e
 obtain rfl:u=Value.ref a:=ry
 exact HY (by lia) I g rx λs' I'=>⟨.bl _,H,I',rfl,q⟩)
theorem ix(hu:X.A.units+1100<cLine):OpR X (compareOp .NotIn) (uV X.K):=OpR.or (wQ hu) (by
 intro pins s Z H x y v u Q I rx ry ⟨a,o,e,g,q⟩
 subst e
 obtain rfl:u=Value.ref a:=ry
 exact B7 (by lia) I g rx λs' I'=>⟨.bl _,H,I',rfl,q⟩)
theorem Bv(hu:X.A.units+1100<cLine):IxR X FB:=by
 intro value slice pins s Z H x y v u Q I rx ry ⟨a,w,e,g,q⟩ hs
 subst e
 obtain rfl:v=Value.ref a:=rx
 have hT:s.TypeIs (.ref a) "dict":=su I g
 unfold subscriptTail
 refine zza ?_
 rw[getitemInPython_of_ne hT.not_modules]
 refine zza (wpAny_specialOf hT PySem.F.slot_dict_getitem.lookup ?_)
 have h₂:wpAny (model X.prog X.w) X.A (getItem (.ref a) u) (EP X pins Z Q) X.xe s:=xF (by lia) I g ry λw' s3 I3 rw'=>⟨w,H,I3,rw',q⟩
 have fin:wpAny (model X.prog X.w) X.A (subscripted slice false (.ref a) u) (λr s₃=>wpAny (model X.prog X.w) X.A (letTemporaryGo value (.ref a) r >>= λ_=>pure r) (EP X pins Z Q) X.xe s₃) X.xe s:=by
  rw[hs]
  exact wpAny_operating (wpAny_mono h₂ (λr s₃ h₃=>zza (wpAny_letTemporaryGo (zzb h₃))) λ_ _ x=>x)
 first
  | exact zzb (zza fin)
  | exact zza (zzb (zza fin))
  | exact zza fin
theorem bE(hu:X.A.units+1100<cLine):IxR X (Fy X.K):=IxR.or Ed (Bv hu)
theorem jT{K:Fg}{F H:Hp}{y:V}{es:List (D×D)}{k:D}(h:OR K F H y k)(hk:keyOk es k=true):Rep K F y k:=by
 rcases h with h|⟨a,c,e,e2,h1,hI⟩
 ·exact h
 ·exfalso
  subst e2
  unfold keyOk at hk
  cases c<;>simp[OC.d,fQ,eA]at hk
theorem tV{K:Fg}:OpB K (Fz K) fq:=by
 intro G F Z H ρ x y dx dy res Q S ox oy e k
 unfold fq at e
 split at e
 ·rename_i es
  split at e
  case isFalse=>cases e
  rename_i hk
  cases e
  obtain⟨a,rfl,hh⟩:=oy.dict S.fh (pP hk)
  rcases uD S.fh hh (jT ox hk) hk with ⟨d,v,e1,g,r⟩|⟨e1,g⟩
  ·exact .inr ⟨a,_,rfl,g,by rw[e1]at k;exact k⟩
  ·exact .inr ⟨a,_,rfl,g,by rw[e1]at k;exact k⟩
 ·exact .inl (d7 G F Z H ρ x y dx dy res Q S ox oy e k)
theorem jI{K:Fg}:OpB K (uV K) dC:=by
 intro G F Z H ρ x y dx dy res Q S ox oy e k
 unfold dC at e
 split at e
 ·rename_i es
  split at e
  case isFalse=>cases e
  rename_i hk
  cases e
  obtain⟨a,rfl,hh⟩:=oy.dict S.fh (pP hk)
  rcases uD S.fh hh (jT ox hk) hk with ⟨d,v,e1,g,r⟩|⟨e1,g⟩
  ·exact .inr ⟨a,_,rfl,g,by rw[e1]at k;exact k⟩
  ·exact .inr ⟨a,_,rfl,g,by rw[e1]at k;exact k⟩
 ·exact .inl (d7 G F Z H ρ x y dx dy res Q S ox oy e k)
theorem bD{K:Fg}:OpD K (Fy K) bI:=by
 intro G F Z H ρ x y dx dy res Q S ox oy e k
 unfold bI at e
 split at e
 ·rename_i es
  split at e
  case isFalse=>cases e
  rename_i hk
  obtain⟨a,rfl,hh⟩:=ox.dict S.fh (pP hk)
  rcases uD S.fh hh (jT oy hk) hk with ⟨d,v,e1,g,r⟩|⟨e1,g⟩
  ·rw[e1]at e
   cases e
   rcases g with g|⟨_,_,z⟩
   ·exact .inr ⟨a,v,rfl,g,k v F H (Same.refl _) S r⟩
   ·cases z
  ·rw[e1]at e;cases e
 ·exact .inl (FY G F Z H ρ x y dx dy res Q S ox oy e k)
end
end L4
namespace HT
open PySem PyProof.Rows
def lexLe:List Int->List Int->Bool
 | [],[]=>true
 | [],_::_=>true
 | _::_,[]=>false
 | x::xs,y::ys=>if x=y then lexLe xs ys else decide (x<=y)
theorem t6(x y:Int)(xs ys:List Int):lexLe (x::xs) (y::ys)=if x=y then lexLe xs ys else decide (x<=y):=rfl
theorem m8:lexLe [] []=true:=rfl
theorem lO(y:Int)(ys:List Int):lexLe [] (y::ys)=true:=rfl
theorem lP(x:Int)(xs:List Int):lexLe (x::xs) []=false:=rfl
theorem yB(A:Around)(s:Shared)(a:Int)(t:Tok)(c:Int)(u:Tok)(prog:Program)(w:World)(E:zzj)(Q:zzj)(h:Q (.bool (decide (a<=c))) s) :
  wpAny (model prog w) A (richCompare .LtE (.int a t) (.int c u)) Q E s :=
 (PyProof.Rows.le_int h:wpAny (model prog w) A (compareOp .LtE (.int a t) (.int c u)) Q E s)
section
open PySem.SeqAt
open PySem.AutoSeq1 (wpAny_loadPart')
open PySem.MeetsSeq PySem.MeetsSeq2 PySem.MeetsSeq3
theorem mO(l b:Addr)(items items2:Array Value)(n n2:Nat)(dd dd2:Option Addr)(sl sl2:Array (Option Value))(ns ms:List Int)(hi:IntsAre items.toList ns)(hj:IntsAre items2.toList ms) :
  Meets (Builtin.«tuple.__le__» ⟨[.ref l,.ref b],[]⟩)
   (λ_ R s=>s.heap.get? l=some { cls:=.type "tuple",dict:=dd,data:=.seq items n,slots:=sl }/\s.heap.get? b=some { cls:=.type "tuple",dict:=dd2,data:=.seq items2 n2,slots:=sl2 } /\
    R (.ok (.ret (.bool (lexLe ns ms)))) s) :=
 .of_wp λprog w A R s h=>by
  obtain⟨hp,g,d,tk,os⟩:=s;obtain⟨hl,hb,h⟩:=h
  have f2:=AutoSeq1.sub_tuple_tuple
  have z1:items.size=ns.length:=by rw[<-hi.length];simp
  have z2:items2.size=ms.length:=by rw[<-hj.length];simp
  wp_walk using wpAny_loadPart' hl,wpAny_loadPart' hb,wpAny_forIn_list _ (λrest b s'=>b.1=none/\s'=⟨hp,g,d,tk,os⟩/\∃(vs ws:List Value) (ns' ms':List Int),rest=vs.zip ws /\
   IntsAre vs ns'/\IntsAre ws ms'/\ns'.length+items2.size=ms'.length+items.size/\R (.ok (.ret (.bool (lexLe ns' ms')))) ⟨hp,g,d,tk,os⟩) _
  case turn =>
   rintro⟨y,x⟩ rest b s' ⟨hb',rfl,vs,ws,ns',ms',hz,hvi,hwi,hlen,hR⟩
   cases hvi with
   | nil=>rw[List.zip_nil_left]at hz;cases hz
   | cons a t hvi' =>
    cases hwi with
    | nil=>rw[List.zip_nil_right]at hz;cases hz
    | cons c u hwi' =>
     rw[List.zip_cons_cons]at hz
     injection hz with hyx hrest
     injection hyx with hy hx
     subst hy hx
     rw[t6]at hR
     simp only[List.length_cons]at hlen
     obtain⟨e,he,hiff⟩:=rX A.in1 ⟨hp,g,d,tk,os⟩ a t c u
     refine zza (he prog w _ _ ?_)
     cases e with
     | true =>
      rw[if_pos (hiff.mp rfl)]at hR
      wp_walk
      exact⟨rfl,rfl,_,_,_,_,hrest,hvi',hwi',by lia,hR⟩
     | false =>
      rw[if_neg (λq=>absurd (hiff.mpr q) Bool.false_ne_true)]at hR
      have hri:=yB A.in1 ⟨hp,g,d,tk,os⟩ a t c u prog w
      wp_walk using hri
      exact⟨_,rfl,by simpa using hR⟩
  case fin =>
   rintro⟨b1,b2⟩ s' ⟨hb',rfl,vs,ws,ns',ms',hz,hvi,hwi,hlen,hR⟩
   simp only at hb'
   subst hb'
   have hv:lexLe ns' ms'=decide (items.size<=items2.size):=by
    cases hvi with
    | nil =>
     cases hwi with
     | nil =>
      simp only[List.length_nil]at hlen
      rw[m8]
      exact(decide_eq_true (by lia)).symm
     | cons c u hw =>
      simp only[List.length_nil,List.length_cons]at hlen
      rw[lO]
      exact(decide_eq_true (by lia)).symm
    | cons a t hv =>
     cases hwi with
     | nil =>
      simp only[List.length_nil,List.length_cons]at hlen
      rw[lP]
      exact(decide_eq_false (by lia)).symm
     | cons c u hw =>
      rw[List.zip_cons_cons]at hz
      cases hz
   rw[hv]at hR
   wp_walk
   exact⟨_,rfl,by simpa[Builtin.Tuple.tupleCompareSizes]using hR⟩
  case h =>
   exact⟨rfl,rfl,items.toList,items2.toList,ns,ms,rfl,hi,hj,by lia,h⟩
end
section
variable {prog:Program}{w:World}{A:Around}{E:zzj}{s:Shared}
theorem le_tupInts{l b:Addr}{items items2:Array Value}{ns ms:List Int}{Q:zzj}(hl:IsTup s.heap l items)(hb:IsTup s.heap b items2)(hi:IntsAre items.toList ns)(hj:IntsAre items2.toList ms)
  (hu:A.units<cLine) (h:Q (.bool (lexLe ns ms)) s):wpAny (model prog w) A (compareOp .LtE (.ref l) (.ref b)) Q E s:=by
 obtain⟨⟨cls,dd,data,sl⟩,ho,hc,n,hd⟩:=id hl
 obtain⟨⟨cls2,dd2,data2,sl2⟩,ho2,hc2,n2,hd2⟩:=id hb
 simp only at hc hd hc2 hd2
 subst hc hd hc2 hd2
 exact richCompare_meets_room (op:=.LtE) ⟨_,ho,rfl⟩ ⟨_,ho2,rfl⟩ PySem.F.slot_tuple_le PySem.F.entry_tuple_le (PySem.F.args_tuple_le_2 _ _) (mO l b items items2 n n2 dd dd2 sl sl2 ns ms hi hj)
  ⟨ho,ho2,show Value.bool (lexLe ns ms)≠Value.notImplemented/\Q (.bool (lexLe ns ms)) s from⟨(λx=>nomatch x),h⟩⟩ hu
end
end HT
namespace L4
open PySem PySem.Spec PyProof.Rows L2 L3
def Ft(K:PySem.W.Frag):R2:=λx y H Q=>∃a b ns ms,x=.ref a/\y=.ref b/\SqT K H a (ns.map V.int)/\SqT K H b (ms.map V.int)/\Q (.bl (HT.lexLe ns ms)) H
theorem DO{X:Cx}(hu:X.A.units<cLine):OpR X (compareOp .LtE) (Ft X.K):=by
 intro pins s Z H x y v u Q I rx ry h
 obtain⟨a,b,ns,ms,rfl,rfl,ha,hb,q⟩:=h
 cases rx
 cases ry
 obtain⟨its,r1,p1,_⟩:=I.tuple ha
 obtain⟨its2,r2,p2,_⟩:=I.tuple hb
 have i1:IntsAre its.toArray.toList ns:=intsAre_of r1
 have i2:IntsAre its2.toArray.toList ms:=intsAre_of r2
 exact HT.le_tupInts p1 p2 i1 i2 hu ⟨.bl (HT.lexLe ns ms),H,I,rfl,q⟩
def lG(x y:D):Option Bool:=match x,y with
 | .tuple a,.tuple b=>match intsOf a,intsOf b with
  | some m,some n=>some (HT.lexLe m n)
  | _,_=>none
 | x,y=>FT x y
def nL(x y:D):Option Bool:=match x,y with
 | .tuple a,.tuple b=>match intsOf a,intsOf b with
  | some m,some n=>some (HT.lexLt m n)
  | _,_=>none
 | x,y=>y1 x y
def Fu(K:Fg):R2:=λx y H Q=>rI0 (λi j=>.bl (decide (i<=j))) x y H Q\/Ft K x y H Q
def Fq(K:Fg):R2:=λx y H Q=>rI0 (λi j=>.bl (decide (i<j))) x y H Q\/Fp K x y H Q
theorem oZ{X:Cx}(hu:X.A.units+1100<cLine):OpR X (compareOp .LtE) (Fu X.K):=OpR.or FS (DO (by lia))
theorem yX{X:Cx}(hu:X.A.units+1100<cLine):OpR X (compareOp .Lt) (Fq X.K):=OpR.or FR (DN (by lia))
theorem pv{K:Fg}:OpB K (Fu K) lG:=by
 intro G F Z H ρ x y dx dy res Q S ox oy e k
 unfold lG at e
 split at e
 ·rename_i a b
  split at e
  ·rename_i m n hm hn
   cases e
   obtain⟨p,vs,rfl,h1,h2⟩:=ox.tuple S.fh
   obtain⟨q,us,rfl,g1,g2⟩:=oy.tuple S.fh
   rw[dS hm]at h2
   rw[dS hn]at g2
   rw[fk h2]at h1
   rw[fk g2]at g1
   exact .inr ⟨p,q,m,n,rfl,rfl,h1,g1,k⟩
  ·cases e
 ·exact .inl (FW G F Z H ρ x y dx dy res Q S ox oy e k)
theorem y7{K:Fg}:OpB K (Fq K) nL:=by
 intro G F Z H ρ x y dx dy res Q S ox oy e k
 unfold nL at e
 split at e
 ·rename_i a b
  split at e
  ·rename_i m n hm hn
   cases e
   obtain⟨p,vs,rfl,h1,h2⟩:=ox.tuple S.fh
   obtain⟨q,us,rfl,g1,g2⟩:=oy.tuple S.fh
   rw[dS hm]at h2
   rw[dS hn]at g2
   rw[fk h2]at h1
   rw[fk g2]at g1
   exact .inr ⟨p,q,m,n,rfl,rfl,h1,g1,k⟩
  ·cases e
 ·exact .inl (FV G F Z H ρ x y dx dy res Q S ox oy e k)
end L4
namespace PySem
end PySem
namespace HT
end HT
namespace L4
open PySem PySem.Spec PyProof.Rows L2 L3 PySem.W
section
variable {prog:Program}{w:World}{A:Around}{E:zzj}{K:Frag}{C D fI:Addr}{h:Heap}{g:Array GenState}{d:Drawn}{t:Nat}{os:OsState}{rest:List Value}
abbrev tW(h:Heap)(C:Addr)(rest:List Value):Heap:=(h.push { cls:=.type "tuple",data:=.seq rest.toArray }).push { cls:=.ref C,data:=.fields #[.ref h.objs.size,.none,.none,.none,.bool false,.none] }
theorem nM{b:Addr}{o:Obj}(q:h.get? b=some o):(tW h C rest).get? b=some o:=zzc _ (zzc _ q)
theorem vn:(tW h C rest).get? (h.objs.size+1)=some { cls:=.ref C,data:=.fields #[.ref h.objs.size,.none,.none,.none,.bool false,.none] }:=by
 have z:=zze (h.push { cls:=.type "tuple",data:=.seq rest.toArray }) (o:={ cls:=.ref C,data:=.fields #[.ref h.objs.size,.none,.none,.none,.bool false,.none] }) rfl
 rwa [Heap.size_push]at z
theorem pL(X:K.In h)(c:XC K C D fI){Q:Fin->Shared->Prop}(hz:rest.length<=sizeLine)
  (hq:wpAny (model prog w) A (call (.ref fI) (.ref (h.objs.size+1)::rest)) (λr s'=>r=.none/\Q (.done (.ret (.ref (h.objs.size+1)))) s') E ⟨tW h C rest,g,d,t,os⟩) :
  wpAny (model prog w) A (Builtin.«type.__call__» ⟨.ref C::rest,[]⟩) Q E ⟨h,g,d,t,os⟩:=by
 obtain⟨nm,q,N,bs,sn,sub,ab,col,dd,k0,k1,k2,k3,k5,lk⟩:=c.obj
 have hC:=X _ _ lk
 have T:OwnTail h bmV (.ref D::bmV):=tail_of_in X c.tl
 have B:=F.excBase_ValueError
 repeat (first|with_reducible refine wpAny_loadPart_at hC ?_|with_reducible refine wpAny_madeBy_exc hC ?_|wp_step)
 refine codeAny_call_builtin_code (Code.quiet_builtin _ B.quiet) (wpAny_check_new_subT B T hC (codeAny_exc_new_subT B T hC ?_ hz))
 show wpAny _ _ _ _ _ _
 have X1:K.In (tW h C rest):=X.keeps λb o z=>nM z
 have LI:=looks_findIn (M:=model prog w) X1 c.ini
 have LB:=bind_fn (M:=model prog w) X1 (.ref (h.objs.size+1)) c.fn
 have hC1:=nM (rest:=rest) (C:=C) hC
 have yes:(Value.ref C::.ref D::bmV).contains (.ref C)=true:=by simp
 unfold isInstance
 repeat (first|with_reducible refine wpAny_loadPart_at vn ?_|(with_reducible refine wpAny_isSubtype_exc hC1 ?_;rw[yes])|wp_step)
 show wpAny _ _ (typeLookup (.ref C) _) _ _ _
 refine LI.at ?_
 refine wpAny_holding (zza (LB.at ?_))
 refine zza (wpAny_mono hq (λr s' z=>?_) λ_ _ z=>z)
 obtain⟨rfl,z⟩:=z
 wp_walk
 exact z
theorem call_exc(X:K.In h)(c:XC K C D fI){Q:zzj}(hz:rest.length<=sizeLine)
  (hq:wpAny (model prog w) (A.under (.builtin "type.__call__" ⟨.ref C::rest,[]⟩)) (call (.ref fI) (.ref (h.objs.size+1)::rest)) (λr s'=>r=.none/\Q (.ref (h.objs.size+1)) s') E ⟨tW h C rest,g,d,t,os⟩) :
  wpAny (model prog w) A (call (.ref C) rest) Q E ⟨h,g,d,t,os⟩:=by
 obtain⟨nm,q,N,bs,sn,sub,ab,col,dd,k0,k1,k2,k3,k5,lk⟩:=c.obj
 have hC:=X _ _ lk
 have f1:=tc_lookup
 have f2:=tc_bind (.ref C)
 have ty:(⟨h,g,d,t,os⟩:Shared).TypeIs (.ref C) "type":=⟨_,hC,rfl⟩
 refine wpAny_call (codeAny_of_tree ?_)
 show wpAny _ _ (callAny (.ref C) _) _ _ _
 repeat (any_goals (first|assumption|with_reducible refine wpAny_loadPart_at hC ?_|wp_step))
 refine⟨rfl,codeAny_call_builtin_at (Code.quiet_builtin _ (by decide +kernel)) entry_typeCall (wpAny_check_type_call_sub hC (pL X c hz ?_))⟩
 exact hq
end
end L4
namespace L4
open PySem PySem.Spec PyProof.Rows L2 L3
def XN(e C:Addr)(dd:Option Addr):Heap->Prop:=λh=>∃oe vs,h.get? e=some oe/\oe.cls=.ref C/\oe.dict=dd/\oe.data=.fields vs/\1<vs.size/\vs[1]? = some .none
section
variable {P:Program}{w:World}{h h':Heap}{e C dx:Addr}{dd:Option Addr}{H:Hp}{fs:List (Str×V)}
theorem XN.ok{H':Hp}(x:XN e C dd h):ObjOk P w H' h e (.ext (XN e C dd)):=by
 obtain⟨oe,vs,q,r⟩:=x
 exact⟨⟨oe,vs,q,r⟩,⟨oe,q⟩,λh1 h2 ⟨o,vs,z,r⟩ k=>⟨o,vs,k o z,r⟩⟩
theorem XD.ok{H':Hp}(x:XD dx fs h):ObjOk P w H' h dx (.ext (XD dx fs)):=by
 obtain⟨mA,n,r⟩:=x
 obtain⟨o,es,ep,q,z⟩:=id n
 exact⟨⟨mA,n,r⟩,⟨o,q⟩,λh1 h2 ⟨m,n,r⟩ k=>⟨m,n.at λo q=>k o q,r⟩⟩
theorem ER{fr:List Addr}{o1 o2:HO}(ea:∃φ,H e=some (.ext φ))(hd:h.objs.size<=dx)(hn:H dx=none)(heo:∃o,h'.get? e=some o)(k:∀b o,b≠e->h.get? b=some o->h'.get? b=some o):Un fr [] H (upd (upd H dx o1) e o2) h h':=by
 obtain⟨φ,ea⟩:=ea
 have nd:∀b o,h.get? b=some o->b≠dx:=λb o q=>Nat.ne_of_lt (Nat.lt_of_lt_of_le (Heap.lt_size q) hd)
 have ne:∀b,H b=none->b≠e:=λb n z=>by subst z;rw[ea]at n;cases n
 have kp:∀b u,H b=some u->(∀φ,u≠.ext φ)->(upd (upd H dx o1) e o2) b=some u:=λb u q nu=>by
  rw[aF (λz=>by subst z;rw[ea]at q;cases q;exact nu _ rfl),aF (λz=>by subst z;rw[hn]at q;cases q)]
  exact q
 refine⟨λb o q n _ _=>k b o (ne b n) q,λb o q n _ _=>⟨o.slots,k b o (ne b n) q⟩,λb o q n _=>?_,λb o q _=>?_,λb xs q=>kp b _ q (λ_ z=>by cases z),λb o u q=>kp b _ q (λ_ z=>by cases z),λb ps q=>⟨#[],?_⟩⟩
 ·rw[aF (ne b n),aF (nd b o q)];exact n
 ·by_cases z:b=e
  ·subst z;exact heo
  ·exact⟨o,k b o z q⟩
 ·rw[kp b _ q (λ_ z=>by cases z)];simp
theorem Eh{o1 o2:HO}(ok:HOk P w H h)(ea:∃φ,H e=some (.ext φ))(hn:H dx=none)(k:∀b o,b≠e->h.get? b=some o->h'.get? b=some o)
  (h1:ObjOk P w (upd (upd H dx o1) e o2) h' dx o1) (h2:ObjOk P w (upd (upd H dx o1) e o2) h' e o2):HOk P w (upd (upd H dx o1) e o2) h':=λa o q=>by
 obtain⟨φ,ea⟩:=ea
 have kp:∀b u,H b=some u->(∀φ,u≠.ext φ)->(upd (upd H dx o1) e o2) b=some u:=λb u r nu=>by
  rw[aF (λz=>by subst z;rw[ea]at r;cases r;exact nu _ rfl),aF (λz=>by subst z;rw[hn]at r;cases r)]
  exact r
 by_cases z:a=e
 ·subst z;rw[aK]at q;cases q;exact h2
 ·rw[aF z]at q
  by_cases y:a=dx
  ·subst y;rw[aK]at q;cases q;exact h1
  ·rw[aF y]at q
   refine(ok a o q).stay (λb u hb r=>k b u (λx=>?_) r) (λb r=>kp b _ r (λ_ z=>by cases z)) λb xs r=>kp b _ r (λ_ z=>by cases z)
   subst x
   rcases hb with rfl|hb
   ·exact z rfl
   ·rw[ea]at hb;cases hb
end
section
variable {X:Cx}{pins:zzk}{Z:L2.St}{H:Hp}{s:Shared}{e C D fI dx:Addr}{f:Str}{y:V}{u:Value}{A:Around}{E:zzj}{fs:List (Str×V)}{Q:Unit->Shared->Prop}
theorem E3(I:Inv X pins Z H s)(ea:H e=some (.ext (XN e C none)))(c:XC X.K C D fI)(n:NoAttr X.K C f)(ry:RelV y u)
  (h:∀s' dx,H dx=none->dx≠e->Inv X pins Z (upd (upd H dx (.ext (XD dx [(f,y)]))) e (.ext (XN e C (some dx)))) s'->Q () s'):wpAny (model X.prog X.w) A (setAttr (.ref e) f u) Q E s:=by
 obtain⟨⟨oe,vs,q,q1,q2,q3,q4,q5⟩,_⟩:=I.hok e _ ea
 obtain⟨cd,k1,k2,k3⟩:=zV c
 refine yk (bmB:=bmV) I.kIn q q1 (by unfold PySem.W.notCls;rw[q3]) q2 c.sa k1 k2 k3 n λh' dx tk hd ns he kp=>?_
 have hn:H dx=none:=I.hok.fresh hd
 have nx:dx≠e:=λz=>by subst z;rw[ea]at hn;cases hn
 have xn:XN e C (some dx) h':=⟨_,vs,he,q1,rfl,q3,q4,q5⟩
 have xd:XD dx [(f,y)] h':=by
  refine⟨_,ns,λg hg=>?_,λg=>?_⟩
  ·by_cases z:g=f
   ·subst z;exact List.mem_singleton.mpr rfl
   ·exact absurd (show(if g=f then some u else none)=none from if_neg z) hg
  ·by_cases z:g=f
   ·subst z
    rw[show List.lookup g [(g,y)]=some y by simp[List.lookup],show(if g=g then some u else none)=some u from if_pos rfl]
    exact ry
   ·rw[show List.lookup g [(f,y)]=none by simp[List.lookup,beq_eq_false_iff_ne.mpr z],show(if g=f then some u else none)=none from if_neg z]
    exact True.intro
 exact h _ dx hn nx (I.un (ER ⟨_,ea⟩ hd hn ⟨_,he⟩ kp) (Eh I.hok ⟨_,ea⟩ hn kp xd.ok xn.ok))
theorem E2(I:Inv X pins Z H s)(ea:H e=some (.ext (XN e C (some dx))))(hd:H dx=some (.ext (XD dx fs)))(c:XC X.K C D fI)(n:NoAttr X.K C f)(hl:fs.length<=900)(ry:RelV y u)
  (h:∀s',Inv X pins Z (upd H dx (.ext (XD dx (cU f y fs)))) s'->Q () s'):wpAny (model X.prog X.w) A (setAttr (.ref e) f u) Q E s:=by
 obtain⟨⟨oe,vs,q,q1,q2,q3,q4,q5⟩,_⟩:=I.hok e _ ea
 obtain⟨⟨mA,na,wi,r⟩,_⟩:=I.hok dx _ hd
 obtain⟨cd,k1,k2,k3⟩:=zV c
 have ne:dx≠e:=λz=>by
  subst z
  obtain⟨o,es,ep,z1,z2,_⟩:=na
  rw[q]at z1;cases z1
  rw[q3]at z2;cases z2
 refine yj (D:=D) I.kIn q q1 (by unfold PySem.W.notCls;rw[q3]) q2 ne na wi (by rw[zzd];omega) c.sa k1 k2 k3 n λh' tk ns kp=>?_
 have xd:XD dx (cU f y fs) h':=by
  refine⟨_,ns,λg hg=>?_,λg=>?_⟩
  ·by_cases z:g=f
   ·rw[z];exact(fw f y fs).1
   ·refine(fw f y fs).2 g (wi g λz'=>hg ?_)
    show(if g=f then some u else mA g)=none
    rw[if_neg z];exact z'
  ·show RelO ((cU f y fs).lookup g) (if g=f then some u else mA g)
   rw[gG]
   by_cases z:g=f
   ·rw[if_pos z,if_pos z];exact ry
   ·rw[if_neg z,if_neg z];exact r g
 obtain⟨o',es',ep',z',_⟩:=id ns
 exact h _ (I.write (x:=dx) (e:=dx) (by rw[hd];exact True.intro) (.inl rfl) (λb o nb z=>kp b o nb z) ⟨o',z'⟩ xd.ok)
end
def sX1(C:Addr)(f:Str)(i:Nat):TS:=λD Z H=>∃e y,Z[0]? = some (some (.ref e))/\Z[i]? = some (some y)/\H e=some (.ext (XN e C none))/\∀dx,H dx=none->dx≠e->D.nx Z (upd (upd H dx (.ext (XD dx [(f,y)]))) e (.ext (XN e C (some dx))))
def sX2(C:Addr)(f:Str)(i:Nat):TS:=λD Z H=>∃e y dx fs,Z[0]? = some (some (.ref e))/\Z[i]? = some (some y)/\H e=some (.ext (XN e C (some dx)))/\H dx=some (.ext (XD dx fs))/\fs.length<=900/\D.nx Z (upd H dx (.ext (XD dx (cU f y fs))))
section
variable {X:Cx}{C D fI:Addr}{f:Str}{o value:Expr}{i:Nat}{pos pos':Pos}
theorem FF(c:XC X.K C D fI)(n:NoAttr X.K C f)(ha:PE X o (wt 0))(hv:PE X value (wt i))(hs:swapsWith value (some (.Attribute o f pos')) pos.line X.env=pure false):PS X (.Assign [.Attribute o f pos'] value pos) (sX1 C f i):=by
 intro pins s Z H Dd I h
 obtain⟨e,y,h0,hi,he,k⟩:=h
 refine plainObj_wpAny_Assign_Attribute (thn (hv pins s Z H (λv H'=>v=y/\H'=H) I ⟨y,hi,rfl,rfl⟩) λu s1 ⟨y',H1,I1,ry,e1,e2⟩=>thn (ha pins s1 Z H1 (λv H'=>v=.ref e/\H'=H) (by rw[e2]at I1 ⊢;exact I1) ⟨_,h0,rfl,e2⟩) λov s2 ⟨x,H2,I2,rx,e3,e4⟩=>?_) hs
 subst e1 e2 e3 e4
 obtain rfl:ov=Value.ref e:=rx
 exact E3 I2 he c n ry λs3 dx hn ne I3=>⟨Z,_,I3,k dx hn ne⟩
theorem FE(c:XC X.K C D fI)(n:NoAttr X.K C f)(ha:PE X o (wt 0))(hv:PE X value (wt i))(hs:swapsWith value (some (.Attribute o f pos')) pos.line X.env=pure false):PS X (.Assign [.Attribute o f pos'] value pos) (sX2 C f i):=by
 intro pins s Z H Dd I h
 obtain⟨e,y,dx,fs,h0,hi,he,hd,hl,k⟩:=h
 refine plainObj_wpAny_Assign_Attribute (thn (hv pins s Z H (λv H'=>v=y/\H'=H) I ⟨y,hi,rfl,rfl⟩) λu s1 ⟨y',H1,I1,ry,e1,e2⟩=>thn (ha pins s1 Z H1 (λv H'=>v=.ref e/\H'=H) (by rw[e2]at I1 ⊢;exact I1) ⟨_,h0,rfl,e2⟩) λov s2 ⟨x,H2,I2,rx,e3,e4⟩=>?_) hs
 subst e1 e2 e3 e4
 obtain rfl:ov=Value.ref e:=rx
 exact E2 I2 he hd c n hl ry λs3 I3=>⟨Z,_,I3,k⟩
end
def spI(C:Addr)(fl:List Str):Sp:=λvs H Q _=>∃e args,vs=.ref e::args/\args.length=fl.length/\H e=some (.ext (XN e C none)) /\
 ((fl=[]/\Q .non H)\/(fl≠[]/\∀dx,H dx=none->dx≠e->Q .non (upd (upd H dx (.ext (XD dx (fl.zip args)))) e (.ext (XN e C (some dx))))))
section
variable {P:Program}{w:World}{K:Fg}{mg:zzl}{base:Heap}{qual:Str}{st:Stmt}{f:Addr}{fd:FuncData}{k:Nat}{C D:Addr}{f1 f2 q1 q2 self:Str}{a1 a2 a3 a4 b1 b2 b3 b4:Pos}
theorem Gv(Fn:Fun K "__init__" qual st f fd)(Sc:FnScope [self,q1,q2] [self,q1,q2] (au st))(hb:bf st=[.Assign [.Attribute (.Name self a1) f1 a2] (.Name q1 a3) a4,.Assign [.Attribute (.Name self b1) f2 b2] (.Name q2 b3) b4])(c:XC K C D f)(n:NoAttr K C f1)(n2:NoAttr K C f2)(ne12:f1≠f2)
  (v0:Vis (au st) self:=by first|exact Or.inl rfl|exact Or.inr (Or.inl rfl)|exact Or.inr (Or.inr rfl)) (v1:Vis (au st) q1:=by first|exact Or.inl rfl|exact Or.inr (Or.inl rfl)|exact Or.inr (Or.inr rfl)) (v2:Vis (au st) q2:=by first|exact Or.inl rfl|exact Or.inr (Or.inl rfl)|exact Or.inr (Or.inr rfl))
  (d0:(self==("__debug__" : Str))=false:=by decide) (d1:(q1==("__debug__" : Str))=false:=by decide) (d2:(q2==("__debug__" : Str))=false:=by decide) (c0:(self==("__classdict__" : Str))=false:=by decide) (c1:(q1==("__classdict__" : Str))=false:=by decide) (c2:(q2==("__classdict__" : Str))=false:=by decide):FnOk P w K mg base (CX1 P w) (k+1) f fd [self,q1,q2] (spI C [f1,f2]):=by
 refine xC Fn Sc (λvs H Q E h=>?_) (λcdv A outer s H vs Q E hr h=>?_)
 ·obtain⟨e,args,rfl,hl,_⟩:=h;simp at hl ⊢;exact hl
 ·obtain⟨e,args,rfl,hl,he,h⟩:=h
  match args,hl with
  | [y,z],_ =>
   rw[hb]
   refine⟨_,lx (FF (i:=1) c n (bV rfl v0 d0 c0) (bV rfl v1 d1 c1) rfl) (lx (FE (i:=2) c n2 (bV rfl v0 d0 c0) (bV rfl v2 d2 c2) rfl) u4),e,y,rfl,rfl,he,λdx hn ne=>?_⟩
   rcases h with ⟨h,_⟩|⟨_,h⟩
   ·cases h
   ·refine⟨e,z,dx,[(f1,y)],rfl,rfl,aK,by rw[aF ne,aK],by simp,?_⟩
    have e1:cU f2 z [(f1,y)]=[(f1,y),(f2,z)]:=by
     show(if f1=f2 then(f1,z)::[]else(f1,y)::cU f2 z [])=_
     rw[if_neg ne12];rfl
    have e2:∀(a b:HO),upd (upd (upd H dx a) e b) dx (.ext (XD dx [(f1,y),(f2,z)]))=upd (upd H dx (.ext (XD dx [(f1,y),(f2,z)]))) e b:=λa b=>by
     funext q
     unfold upd
     by_cases q1:q=dx
     ·rw[if_pos q1]
      rw[if_neg (λz=>ne (q1▸z)),if_pos q1]
     ·rw[if_neg q1]
      by_cases q2:q=e
      ·rw[if_pos q2,if_pos q2]
      ·rw[if_neg q2,if_neg q2,if_neg q1,if_neg q1]
    rw[e1]
    show Q .non _
    rw[e2]
    exact h dx hn ne
end
section
variable {M:Model}{A:Around}{E:zzj}{s:Shared}{env:Env}{K:Fg}{C D fI:Addr}
theorem qR{x:Sem Value}{Q:Flow->Shared->Prop}(c:XC K C D fI)(hh:A.handled=none)
  (h:wpAny M A x (λv s1=>∃e oe vs,v=.ref e/\K.In s1.heap/\s1.heap.get? e=some oe/\oe.cls=.ref C/\oe.data=.fields vs/\vs[1]? = some .none/\E (.ref e) s1) E s) :
  wpAny M A (raiseStmt env (some x) none) Q E s:=by
 obtain⟨nm,q,N,bs,sn,sub,ab,col,dd,k0,k1,k2,k3,k5,lk⟩:=c.obj
 have isB:(Value.ref C::.ref D::bmV).contains (.type "BaseException")=true:=by rfl
 unfold raiseStmt
 refine zza (wpAny_mono h (λv s1 z=>?_) λ_ _ z=>z)
 obtain⟨e,oe,vs,rfl,X,he,hc,hd,h1,hE⟩:=z
 obtain⟨hp,g,d,t,os⟩:=s1
 have hC:=X _ _ lk
 repeat (first|(with_reducible refine wpAny_loadPart_at he ?_;rw[hc])|with_reducible refine wpAny_loadPart_at hC ?_|(with_reducible refine wpAny_isSubtype_exc hC ?_;rw[isB])|with_reducible refine wpAny_field he hd h1 ?_|wp_step)
 exact wpAny_raiseNew_none hh hE
end
def MadeX(H H':Hp)(e C:Addr)(fl:List Str)(vs:List V)(dd:Option Addr):Prop :=
 (fl=[]/\dd=none/\H'=upd H e (.ext (XN e C none)))\/(fl≠[]/\∃dx,dd=some dx/\H dx=none/\dx≠e/\H'=upd (upd (upd H e (.ext (XN e C none))) dx (.ext (XD dx (fl.zip vs)))) e (.ext (XN e C (some dx))))
section
variable {X:Cx}{pins:zzk}{Z:L2.St}{H:Hp}{s:Shared}{C D fI:Addr}{fd:FuncData}{ps fl:List Str}{k:Nat}{us:List Value}{vs:List V}{Q:zzj}{E:zzj}
theorem zF(I:Inv X pins Z H s):Inv X pins Z (upd H (s.heap.objs.size+1) (.ext (XN (s.heap.objs.size+1) C none))) { s with heap:=tW s.heap C us }:=by
 have I1:=I.kept (h':=s.heap.push { cls:=.type "tuple",data:=.seq us.toArray }) (t':=s.toks) λb u q=>zzc _ q
 refine I1.laid (a:=s.heap.objs.size+1) (t':=s.toks) (h':=tW s.heap C us) (λb u q=>zzc _ q) (Nat.le_of_eq (Heap.size_push _ _)) ?_
 exact XN.ok ⟨_,_,vn,rfl,rfl,rfl,(show 1<6 from by decide),rfl⟩
theorem wC(c:XC X.K C D fI)(Fn:FnOk X.prog X.w X.K X.mg X.base (CX1 X.prog X.w) k fI fd ps (spI C fl))(hr:Room (k+1) X.A)(hb:L2.Binds X.K fd ps [])(I:Inv X pins Z H s)(r:Vals vs us)(hl:vs.length=fl.length)(hz:us.length<=sizeLine)
  (h:∀e dd H' s',s.heap.objs.size<=e->Inv X pins Z H' s'->MadeX H H' e C fl vs dd->H' e=some (.ext (XN e C dd))->Q (.ref e) s'):wpAny (model X.prog X.w) X.A (call (.ref C) us) Q E s:=by
 have I2:=zF (C:=C) (us:=us) I
 have hn:H (s.heap.objs.size+1)=none:=I.hok.fresh (Nat.le_succ _)
 obtain⟨hp,g,d,t,os⟩:=s
 have sp:∀E',spI C fl (V.ref (hp.objs.size+1)::vs) (upd H (hp.objs.size+1) (.ext (XN (hp.objs.size+1) C none))) (λv H'=>v=.non/\∃dd,MadeX H H' (hp.objs.size+1) C fl vs dd/\H' (hp.objs.size+1)=some (.ext (XN (hp.objs.size+1) C dd))) E':=by
  intro E'
  refine⟨_,vs,rfl,hl,aK,?_⟩
  by_cases z:fl=[]
  ·exact .inl ⟨z,rfl,none,.inl ⟨z,rfl,rfl⟩,aK⟩
  ·exact .inr ⟨z,λdx q ne=>⟨rfl,some dx,.inr ⟨z,dx,rfl,by rw[aF ne]at q;exact q,ne,rfl⟩,aK⟩⟩
 have r2:Vals (V.ref (hp.objs.size+1)::vs) (Value.ref (hp.objs.size+1)::us):=.cons rfl r
 have hl2:((Value.ref (hp.objs.size+1)::us)++[]).length=ps.length:=by
  have e:=r2.length
  rw[Fn.len _ _ _ _ (sp λ_ _ _=>False)]at e
  rw[List.append_nil]
  exact e.symm
 refine call_exc I.kIn c hz (wpAny_call (codeAny_mono (Fn.run _ X.stack _ _ ⟨Value.ref (hp.objs.size+1)::us,[]⟩ (Value.ref (hp.objs.size+1)::us) _ _ (λ_ _ _=>False) (hr.make C us []) (I2.env0.make C us []) (by
  have:=hb _ (Value.ref (hp.objs.size+1)::us) I2.kIn hl2
  rw[List.append_nil]at this
  exact this) r2 (sp _)) λr s' q=>?_))
 cases r with
 | error e=>obtain⟨_,_,_,_,_,_,_,_,_,_,z⟩:=q;exact z.elim
 | ok fl' =>
  cases fl' with
  | ret u =>
   obtain⟨v,H',I3,rv,ev,dd,mk,he⟩:=I2.after q
   subst ev
   exact⟨rv,h _ dd H' s' (Nat.le_succ _) I3 mk he⟩
  | next=>exact False.elim q
  | brk=>exact False.elim q
  | cont=>exact False.elim q
end
structure CCl(P:Program)(w:World)(K:Fg)(mg:zzl)(base:Heap)(x:Str)(k:Nat)(fl:List Str):Prop where
 ex:∃C D fI fd ps,XC K C D fI/\FnOk P w K mg base (CX1 P w) k fI fd ps (spI C fl)/\L2.Binds K fd ps []/\mg x=some (.ref C)/\XQ K C x/\PySem.W.keepIn K (.ref C)=true/\(∀f∈fl,NoAttr K C f)/\PySem.W.exmOne K (.ref C) (.ref C)=some true
def Dm{S:Type}(x:Str)(fl:List Str)(ms:Ev S (List D)):SM S:=λK ρ=>ms K.x (λds ρ1=>K.x ⟨x,fl.zip ds⟩ ρ1) ρ
theorem Ar{K:Fg}{F:Hp}:∀{fl:List Str} {vs:List V} {ds:List D},RepL K F vs ds->fl.length=vs.length->Paired (λ(p:Str×V) (q:Str×D)=>p.1=q.1/\Rep K F p.2 q.2) (fl.zip vs) (fl.zip ds)
:=by
 intro fl vs ds r h
 induction vs generalizing fl ds with
 | nil=>cases r;rw[List.zip_nil_right,List.zip_nil_right];exact .nil
 | cons v vs ih=>cases r with
  | cons a b=>cases fl with
   | nil=>cases h
   | cons f fl=>exact .cons ⟨rfl,a⟩ (ih b (Nat.succ.inj h))
section
variable {X:Cx}{pins:zzk}{Z:L2.St}{H H':Hp}{s:Shared}{e C:Addr}{dd:Option Addr}{fl:List Str}{vs:List V}{ds:List D}{G:Gh}{F:Hp}{ρ:En}{x:Str}
theorem yC(I:Inv X pins Z H' s)(hs:X.s₀.heap.objs.size<=e)(hn:H e=none)(mk:MadeX H H' e C fl vs dd)(he:H' e=some (.ext (XN e C dd)))(St:StOk X.K G F Z H ρ)(r:RepL X.K F vs ds)(hl:fl.length=vs.length)
  (hc:XQ X.K C x) (xw:XW X G F ρ ⟨x,fl.zip ds⟩):X.xe (.ref e) s:=by
 obtain⟨⟨oe,ws,q1,q2,q3,q4,q5,q6⟩,_⟩:=I.hok e _ he
 have I2:Inv X pins Z (upd H' e (.ext (XO e C dd))) s:=by
  have:=I.write (x:=e) (e:=e) (o:=.ext (XO e C dd)) (h':=s.heap) (t':=s.toks) (by rw[he];exact True.intro) (.inl rfl) (λb u _ z=>z) ⟨_,q1⟩ (XO.ok ⟨oe,q1,q2,q3,by unfold PySem.W.notCls;rw[q4]⟩)
  exact this
 have low:∀b u,b≠e->H b=some u->upd H' e (.ext (XO e C dd)) b=some u:=λb u ne z=>by
  rw[aF ne]
  rcases mk with ⟨_,_,rfl⟩|⟨_,dx,_,hd,_,rfl⟩
  ·rw[aF ne];exact z
  ·rw[aF ne,aF (λy=>by subst y;rw[hd]at z;cases z),aF ne];exact z
 have ne:∀b u,H b=some u->b≠e:=λb u z y=>by subst y;rw[hn]at z;cases z
 have xs:XS (upd H' e (.ext (XO e C dd))) s.heap X.s₀.heap.objs.size e C dd:=⟨hs,aK,oe,ws,q1,q2,q3,q4,q5,.inl q6⟩
 have nt:∀b,¬ qm s.heap e b:=λb ⟨oe',vs',z1,z2,z3⟩=>by
  rw[q1]at z1;cases z1
  rw[q4]at z2;cases z2
  rw[q6]at z3;cases z3
 have fh0:Same F (upd H' e (.ext (XO e C dd))):=λb u z=>low b u (ne b u (St.fh b u z)) (St.fh b u z)
 have oh0:Same G.O (upd H' e (.ext (XO e C dd))):=λb u z=>low b u (ne b u (St.oh b u z)) (St.oh b u z)
 rcases mk with ⟨z,rfl,_⟩|⟨z,dx,rfl,hd,nx,rfl⟩
 ·subst z
  refine xw F _ s e C none pins Z ⟨fh0,oh0,St.fo,St.fb⟩ (St.fzok (Same.refl _)) I2 xs (λp _=>nt p.1) ⟨hc,[],.inl ⟨rfl,rfl⟩,.nil⟩
 ·have fd:F dx=none:=St.fh.free hd
  have od:G.O dx=none:=St.oh.free hd
  have sm:Same F (upd F dx (.ext (XD dx (fl.zip vs)))):=cI fd
  refine xw (upd F dx (.ext (XD dx (fl.zip vs)))) _ s e C (some dx) pins Z ⟨λb u z=>?_,oh0,λb u z=>?_,St.fb.trans sm⟩ (St.fzok sm) I2 xs (λp _=>nt p.1) ⟨hc,_,.inr ⟨dx,rfl,aK⟩,Ar (r.mono sm) hl⟩
  ·by_cases y:b=dx
   ·subst y
    rw[aK]at z
    cases z
    rw[aF nx,aF nx,aK]
   ·rw[aF y]at z
    exact fh0 b u z
  ·rw[aF (aQ z od)]
   exact St.fo b u z
end
section
variable {S:Type}{X:Cx}{k:Nat}{x:Str}{fl:List Str}{p cpos pos:Pos}{e:Expr}{es:List Expr}{ms:Ev S (List D)}
theorem sM(C:CCl X.prog X.w X.K X.mg X.base x k fl)(hr:Room (k+1) X.A)(hg:Gl X x)(ha:AEa X (e::es) ms)(hn:(e::es).length=fl.length)(hz:fl.length<=1000)
  (hdb:(x==("__debug__" : Str))=false) (he:starEach (e::es) X.env=(false,eval e X.env)::starEach es X.env) (hpl:(backTo cpos (starEach es X.env)).any (·.1)=false) :
  AS X (.Raise (some (.Call (.Name x p) (e::es) [] cpos)) none pos) (Dm x fl ms):=by
 obtain⟨Cl,D,fI,fd,ps,c,Fn,hb,hm,hc,kp,_⟩:=C.ex
 intro OK K G F Z H ρ E hO hX St ok eo
 unfold j7
 intro pins s I
 rw[arm_exec_Raise]
 refine zza (wpAny_standAt (qR c hr.hd ?_))
 refine zza (wpAny_mono (wpAny_Call_Name_kw (kH I hg hm (PySem.W.callWith_K (h₀:=X.base) I.ok.mod.kin kp (Q:=λv s1=>∃e oe vs,v=.ref e/\X.K.In s1.heap/\s1.heap.get? e=some oe/\oe.cls=.ref Cl/\oe.data=.fields vs/\vs[1]? = some .none/\X.xe (.ref e) s1) ?_ he hpl) hdb)) (λv s3 z=>zza (wpAny_standAt (zzb z))) λ_ _ z=>z)
 have ar:dB X (e::es) Z H λvs H1=>∃F1 ρ1 ds,StOk X.K G F1 Z H1 ρ1/\vs.length=(e::es).length/\RepL X.K F1 vs ds/\OK (K.x ⟨x,fl.zip ds⟩ ρ1) :=
  ha OK K.x _ G F Z H ρ _ hO hX St ok λds vs F1 H1 ρ1 s1 S1 hl r1 o1=>⟨F1,ρ1,ds,S1,hl,r1,o1⟩
 unfold dB at ar
 refine thn (ar cpos pins s I) λus s1 ⟨vs,H1,I1,rv,F1,ρ1,ds,S1,hl,r1,o1⟩=>⟨I1.kIn,?_⟩
 have hlv:vs.length=fl.length:=hl.trans hn
 refine wC (vs:=vs) c Fn hr hb I1 rv hlv (by rw[List.nil_append,<-rv.length,hlv];exact iD hz) λa dd H2 s2 hs I2 mk hh=>?_
 obtain⟨⟨oe,ws,q1,q2,q3,q4,q5,q6⟩,_⟩:=I2.hok a _ hh
 exact⟨a,oe,ws,rfl,I2.kIn,q1,q2,q4,q6,yC I2 (Nat.le_trans I1.sz hs) (I1.hok.fresh hs) mk hh S1 r1 hlv.symm hc (hX F1 ρ1 _ o1)⟩
end
theorem av{X:Cx}(i:Nat){x:Str}{pos:Pos}(hN:X.N[i]? = some x:=by rfl)(hv:Vis X.env.scope x:=by exact vi rfl)
  (hd:(x==("__debug__" : Str))=false:=by decide) (hcd:(x==("__classdict__" : Str))=false:=by decide):AP X (.Name x pos) (DG i):=EB hN hv hd hcd
inductive Ty where
 | tup|lst|str
def Ty.s:Ty->String
 | .tup => "tuple"
 | .lst => "list"
 | .str => "str"
def onT{S:Type}(t:Ty)(d:D)(m:M S):M S:=match t,d with
 | .tup,.tuple _=>m
 | .lst,.list _=>m
 | .str,.str _=>m
 | _,_=>.bad
def tyW(K:Fg)(T:String)(x:V)(H:Hp):Prop:=tyV K T x H\/(T = "tuple" /\ ∃p xs,x=.ref p/\H p=some (.tup xs))
theorem C7{X:Cx}{pins:zzk}{Z:L2.St}{H:Hp}{s:Shared}{T:String}{x:V}{v:Value}(I:Inv X pins Z H s)(r:RelV x v)(ty:tyW X.K T x H) :
  s.TypeIs v T/\∀a,v=.ref a->∃ob,s.heap.get? a=some ob/\ob.dict=none:=by
 rcases ty with ty|⟨rfl,p,xs,rfl,h⟩
 ·exact tD I r ty
 ·cases r
  obtain⟨_,its,_,⟨o,e,c,_⟩,ob,e2,d⟩:=I.hok p _ h
  refine⟨⟨o,e,c⟩,λa q=>?_⟩
  cases q
  exact⟨ob,e2,d⟩
def Cw(K:Fg)(f:D->List D->Option D):V->List V->Hp->VK->Prop:=λx xs H Q=>∃G F Z ρ d ds res,StOk K G F Z H ρ/\OR K F H x d/\RepL K F xs ds/\f d ds=some res /\
 ∀y F' H',Same F F'->StOk K G F' Z H' ρ->Rep K F' y res->Q y H'
def yF(K:Fg)(f:D->List D->Option (List D)):V->List V->Hp->VK->Prop:=λx xs H Q=>∃G F Z ρ d ds res,StOk K G F Z H ρ/\OR K F H x d/\RepL K F xs ds/\f d ds=some res /\
 ∀y F' H',Same F F'->StOk K G F' Z H' ρ->Frs K G F' Z H' ρ y (.l res)->Q y H'
def tMt(K:Fg)(T:String)(r:V->List V->Hp->VK->Prop)(to:TE)(t:TA):TE:=λZ H Q=>to Z H λx H1=>tyW K T x H1/\t Z H1 λxs H2=>r x xs H2 Q
section
variable {X:Cx}{o e:Expr}{es:List Expr}{to:TE}{t:TA}{name:Str}{apos cpos:Pos}{T id:String}{r:V->List V->Hp->VK->Prop}
theorem u7(pa:PlainAttrs T)(slot:Slot T name id)(hty:typeOf (.builtin id)=pure (.type "method_descriptor"))(hm:MtR X id r)(ho:PE X o to)(ha:PA X (e::es) t)
  (hbase:attributeBase o name X.env (eval o X.env)=eval o X.env)
  (hfew:((backTo cpos (starEach (e::es) X.env)).all (λx=>!x.1)&&(backToKw cpos (keywordEach [] X.env)).all (λx=>x.1.isSome)
   && decide ((e::es).length+([]:List Keyword).length+(if([]:List Keyword).isEmpty then 0 else 1)<30))=true)
  (hline:(apos.endLine==cpos.line)=true) (hs:starEach (e::es) X.env=(false,eval e X.env)::starEach es X.env) (hplain:(backTo cpos (starEach es X.env)).any (·.1)=false) :
  PE X (.Call (.Attribute o name apos) (e::es) [] cpos) (tMt X.K T r to t):=by
 intro pins s Z H Q I h
 refine wpAny_Call_method_late hbase hfew hline rfl (thn (ho pins s Z H _ I h) λv s1 ⟨x,H1,I1,r1,ty,q1⟩=>?_)
 obtain⟨h1,h2⟩:=C7 I1 r1 ty
 refine⟨T,id,pa,slot,hty,h1,h2,?_⟩
 have hA:=ha cpos pins s1 Z H1 _ I1 q1
 rw[hs]at hA ⊢
 refine Calls.callWith_builtin (by show(false||(backTo cpos (starEach es X.env)).any (·.1))=false;rw[hplain]<;>rfl) (Calls.evalArgs_plain ?_)
 exact thn hA λus s2 ⟨vs,H2,I2,r2,q2⟩=>hm pins s2 Z H2 x vs v us Q I2 r1 r2 q2
end
def FN(t:Ty)(f:D->List D->Option D)(po:Pu D)(ps:Pa D):Pu D:=λρ=>bd (po ρ) λd=>onT t d (ps (λds=>oM (f d ds)) ρ)
def DH(t:Ty)(f:D->List D->Option (List D))(po:Pu D)(ps:Pa (List D)):Pu (List D):=λρ=>bd (po ρ) λd=>onT t d (ps (λds=>oM (f d ds)) ρ)
theorem y4{α:Type}{X:Cx}{G:Gh}{F H:Hp}{Z:L2.St}{ρ:En}{t:Ty}{d:D}{m:M α}{C:α->Hp->Hp->Prop}{v:V}(S:StOk X.K G F Z H ρ)(hv:VO X.K F Z ρ v d)(w:W X G F Z ρ (onT t d m) C) :
  tyW X.K t.s v H/\W X G F Z ρ m C:=by
 have o:=hv.or S
 cases t with
 | tup =>
  cases d with
  | tuple ds =>
   have r:=o.tup'
   cases r with
   | tup h1 h2=>exact⟨.inr ⟨rfl,_,_,rfl,S.fh _ _ h1⟩,w⟩
  | _=>exact False.elim w
 | lst =>
  cases d with
  | list ds =>
   obtain⟨a,vs,rfl,h1,h2⟩:=o.list S.fh
   exact⟨.inl (.inl ⟨rfl,_,h1⟩),w⟩
  | _=>exact False.elim w
 | str =>
  cases d with
  | str ds =>
   rw[o.str]
   exact⟨.inl rfl,w⟩
  | _=>exact False.elim w
section
variable {X:Cx}{o e:Expr}{es:List Expr}{name:Str}{apos cpos:Pos}{id:String}{po:Pu D}{ps:Pa D}{pl:Pa (List D)}{ty:Ty}
theorem jv{f:D->List D->Option D}(pa:PlainAttrs ty.s)(slot:Slot ty.s name id)(hty:typeOf (.builtin id)=pure (.type "method_descriptor"))(hm:MtR X id (Cw X.K f))(ho:AO X o po)(ha:AA X (e::es) ps)
  (hbase:attributeBase o name X.env (eval o X.env)=eval o X.env)
  (hfew:((backTo cpos (starEach (e::es) X.env)).all (λx=>!x.1)&&(backToKw cpos (keywordEach [] X.env)).all (λx=>x.1.isSome)
   && decide ((e::es).length+([]:List Keyword).length+(if([]:List Keyword).isEmpty then 0 else 1)<30))=true)
  (hline:(apos.endLine==cpos.line)=true) (hs:starEach (e::es) X.env=(false,eval e X.env)::starEach es X.env) (hplain:(backTo cpos (starEach es X.env)).any (·.1)=false) :
  AP X (.Call (.Attribute o name apos) (e::es) [] cpos) (FN ty f po ps) :=
 λG F Z H ρ Q S w=>sem (u7 pa slot hty hm aH bC hbase hfew hline hs hplain) (ho G F Z H ρ _ S (w.bind.imp λd F1 H1 s1 S1 w1 v hv=>by
  obtain⟨ht,w2⟩:=y4 S1 hv w1
  refine⟨ht,ha G F1 Z H1 ρ _ _ _ S1 w2 λds vs F2 H2 s2 S2 _ r2 w3=>?_⟩
  obtain⟨res,e,k⟩:=w3.opt
  exact⟨G,F2,Z,ρ,d,ds,res,S2,(hv.mono s2).or S2,r2,e,λy F3 H3 s3 S3 r3=>k F3 H3 s3 S3 y r3⟩))
theorem B2{f:D->List D->Option (List D)}(pa:PlainAttrs ty.s)(slot:Slot ty.s name id)(hty:typeOf (.builtin id)=pure (.type "method_descriptor"))(hm:MtR X id (yF X.K f))(ho:AO X o po)(ha:AA X (e::es) pl)
  (hbase:attributeBase o name X.env (eval o X.env)=eval o X.env)
  (hfew:((backTo cpos (starEach (e::es) X.env)).all (λx=>!x.1)&&(backToKw cpos (keywordEach [] X.env)).all (λx=>x.1.isSome)
   && decide ((e::es).length+([]:List Keyword).length+(if([]:List Keyword).isEmpty then 0 else 1)<30))=true)
  (hline:(apos.endLine==cpos.line)=true) (hs:starEach (e::es) X.env=(false,eval e X.env)::starEach es X.env) (hplain:(backTo cpos (starEach es X.env)).any (·.1)=false) :
  AL X (.Call (.Attribute o name apos) (e::es) [] cpos) (DH ty f po pl) :=
 λG F Z H ρ Q S w=>sem (u7 pa slot hty hm aH bC hbase hfew hline hs hplain) (ho G F Z H ρ _ S (w.bind.imp λd F1 H1 s1 S1 w1 v hv=>by
  obtain⟨ht,w2⟩:=y4 S1 hv w1
  refine⟨ht,ha G F1 Z H1 ρ _ _ _ S1 w2 λds vs F2 H2 s2 S2 _ r2 w3=>?_⟩
  obtain⟨res,e,k⟩:=w3.opt
  exact⟨G,F2,Z,ρ,d,ds,res,S2,(hv.mono s2).or S2,r2,e,λy F3 H3 s3 S3 r3=>k F3 H3 s3 S3 y r3⟩))
end
def Itc(x:Str):It:=⟨λi _=>i<x.cps.size,λi H v H'=>H'=H/\∃c,x.cps[i]? = some c/\v=.str ⟨#[c]⟩,λi _=>x.cps.size<=i⟩
theorem xV{P:Program}{w:World}{K:Fg}{tg:Expr}(it:Addr)(ty:String)(hty:ty = "str_ascii_iterator" \/ ty = "str_iterator")(x:Str)(t:Tok):Turn P w K tg (Itc x) [it] it (λi h=>h.IsStrIter it ty x t i) where
 mem:=by simp
 obj:=λi h st b hb=>by
  have e:b=it:=by simpa using hb
  subst e
  obtain⟨o,e,c,d⟩:=st
  exact⟨o,e,λv z=>by rw[d]at z;cases z⟩
 keep:=λi h h' st k=>by
  obtain⟨o,e,r⟩:=st
  exact⟨o,k it (by simp) o e,r⟩
 item:=by
  intro X hP hw hK hc i pins s Z H E I hf st hg
  subst hP hw hK
  obtain⟨f0,f1,f2,f3,f4,f5⟩:=hf it (by simp)
  have go:∀(W:Walks X.prog X.w X.A it [it] [it] x.cps.size (SignAt x) (λi h=>h.IsStrIter it ty x t i)),(∀o:Obj,o.cls=.type ty->True)->wpAny (model X.prog X.w) X.A (pyNext (.ref it)) (λr s1=>∃u,r=some u /\
   wpAny (model X.prog X.w) X.A (letOwnedTupleGo tg (.ref it) u) (λ_ s2=>∃y H',Inv X pins Z H' s2/\RelV y u/\(Itc x).yld i H y H'/\s2.heap.IsStrIter it ty x t (i+1)/\∀b∈[it],H' b=none) E s1) E s:=λW _=>by
   refine W.item i s _ _ hg st λv h' tk hv st' kk=>?_
   obtain⟨c,u,hc',rfl⟩:=hv
   have I1:Inv X pins Z H { s with heap:=h',toks:=tk }:=I.turned (λb o hb e=>kk b o (by simpa using hb) e) f0 f1 f3 f4 f5
   obtain⟨o,e,cl,d⟩:=id st'
   refine⟨_,rfl,vG (s:={ s with heap:=h',toks:=tk }) (n:=ty) e cl d ?_ ⟨.str ⟨#[c]⟩,H,I1,⟨u,rfl⟩,⟨rfl,c,hc',rfl⟩,st',λb hb=>(hf b hb).1⟩⟩
   rcases hty with rfl|rfl<;>decide
  rcases hty with rfl|rfl
  ·exact go (Walks.strAscii (I.ok.hd hc) it x t) λ_ _=>trivial
  ·exact go (Walks.strWide (I.ok.hd hc) it x t) λ_ _=>trivial
 done:=by
  intro X hP hw hK hc i pins s Z H E I hf st hg
  subst hP hw hK
  obtain⟨f0,f1,f2,f3,f4,f5⟩:=hf it (by simp)
  have hx:x.cps[i]? = none:=by
   have:x.cps.size<=i:=hg
   simp;omega
  rcases hty with rfl|rfl
  ·exact wpAny_pyNext_ascii_end (I.ok.hd hc) st hx λh' eb=>⟨rfl,I.turned (t':=s.toks) (λb o hb e=>eb b o hb e) f0 f1 f3 f4 f5⟩
  ·exact wpAny_pyNext_wide_end (I.ok.hd hc) st hx λh' eb=>⟨rfl,I.turned (t':=s.toks) (λb o hb e=>eb b o hb e) f0 f1 f3 f4 f5⟩
 self:=λ_ _ _ _ _ st h=>by
  rcases hty with rfl|rfl
  ·exact wpAny_pyIter_striter_ascii st h
  ·exact wpAny_pyIter_striter_wide st h
def mw(x:Str):List D:=x.cps.toList.map λc=>.str ⟨#[c]⟩
theorem xU{K:Fg}{F:Hp}(x:Str):Walk K (Itc x) (mw x) F where
 go:=λi G F2 Z H2 ρ s S hi=>by
  unfold mw at hi
  rw[zzd,Array.length_toList]at hi
  exact hi
 yld:=λi G F2 Z H2 ρ y H3 d s S hd ⟨e,c,hc,q⟩=>by
  subst e q
  unfold mw at hd
  rw[List.getElem?_map,Array.getElem?_toList,hc]at hd
  cases hd
  exact⟨F2,Same.refl _,S,.str _⟩
 stop:=λG F2 Z H2 ρ s S=>by
  unfold mw
  rw[zzd,Array.length_toList]
  exact Nat.le_refl _
def eK:D->Option (List D)
 | .str x=>some (mw x)
 | d=>wy d
def Hu(p:Pu D):Pu (List D):=λρ=>bd (p ρ) λd=>oM (eK d)
def Gx(K:Fg)(tl:TE):TI:=λZ H R=>tl Z H λx H1=>((∃a,x=.ref a/\(∃xs,SqL K H1 a xs)/\R (Itl K a) H1)\/∃a,x=.ref a/\(∃xs,SqT K H1 a xs)/\R (Itt K a) H1)\/∃y,x=.str y/\R (Itc y) H1
theorem A4{X:Cx}{tg l:Expr}{tl:TE}(hl:PE X l tl):PI X tg l (Gx X.K tl):=by
 intro pins s Z H R I h
 refine thn (hl pins s Z H _ I h) λv s1 ⟨x,H1,I1,r1,q1⟩=>?_
 rcases q1 with (⟨a,e,⟨xs,hq⟩,q⟩|⟨a,e,⟨xs,hq⟩,q⟩)|⟨x,e,q⟩
 ·subst e
  cases r1
  obtain⟨its,rv,p,hz⟩:=I1.list hq
  refine wpAny_pyIter_list p.isList ?_
  refine⟨s1.heap.objs.size,[s1.heap.objs.size],_,_,H1,rfl,I1.kept (t':=s1.toks) λb o e=>zzc _ e,wj a _,⟨_,zze _ rfl,rfl,rfl⟩,λb hb=>?_,q⟩
  have e:b=s1.heap.objs.size:=by simpa using hb
  subst e
  exact I1.fpOk (Nat.le_refl _) (I1.hok.fresh (Nat.le_refl _))
 ·subst e
  cases r1
  obtain⟨its,rv,p,hz⟩:=I1.tuple hq
  refine wpAny_pyIter_tuple (show s1.heap.IsTuple a its.toArray from p) ?_
  refine⟨s1.heap.objs.size,[s1.heap.objs.size],_,_,H1,rfl,I1.kept (t':=s1.toks) λb o e=>zzc _ e,tF a _,⟨_,zze _ rfl,rfl,rfl⟩,λb hb=>?_,q⟩
  have e:b=s1.heap.objs.size:=by simpa using hb
  subst e
  exact I1.fpOk (Nat.le_refl _) (I1.hok.fresh (Nat.le_refl _))
 ·subst e
  obtain⟨t,rfl⟩:=r1
  have fin:∀(ty:String) (hty:ty = "str_ascii_iterator" \/ ty = "str_iterator") (o:Obj),o.isFreed=false->o.cls=.type ty->o.data=.fields #[.str x t,.int 0 0]->PIE X pins Z tg R (.ref s1.heap.objs.size) { s1 with heap:=s1.heap.push o }:=λty hty o hfr c d=>by
   refine⟨s1.heap.objs.size,[s1.heap.objs.size],_,_,H1,rfl,I1.kept (t':=s1.toks) λb o e=>zzc _ e,xV _ ty hty x t,⟨_,zze _ hfr,c,d⟩,λb hb=>?_,q⟩
   have e:b=s1.heap.objs.size:=by simpa using hb
   subst e
   exact I1.fpOk (Nat.le_refl _) (I1.hok.fresh (Nat.le_refl _))
  cases ha:x.cps.all (· < 128)
  ·exact wpAny_pyIter_wide ha (fin _ (.inr rfl) _ rfl rfl rfl)
  ·exact wpAny_pyIter_ascii ha (fin _ (.inl rfl) _ rfl rfl rfl)
theorem wx{X:Cx}{F H:Hp}{v:V}{d:D}{ds:List D}{R:It->Hp->Prop}(s:Same F H)(r:Rep X.K F v d)(hd:eK d=some ds)(k:∀J,Walk X.K J ds F->R J H) :
  ((∃a,v=.ref a/\(∃xs,SqL X.K H a xs)/\R (Itl X.K a) H)\/∃a,v=.ref a/\(∃xs,SqT X.K H a xs)/\R (Itt X.K a) H)\/∃y,v=.str y/\R (Itc y) H:=by
 cases d with
 | str x =>
  cases hd
  cases r
  exact .inr ⟨x,rfl,k _ (xU x)⟩
 | _=>exact .inl (yl s r hd k)
theorem dA{X:Cx}{tg e:Expr}{pp:Pu D}(h:AP X e pp):AI X tg e (Hu pp):=λG F Z H ρ R S w=>AH (A4 aH) (h G F Z H ρ _ S (w.bind.imp λd F1 H1 s1 S1 w1 v r1=>by
 obtain⟨ds,hd,k⟩:=w1.opt
 exact wx S1.fh r1 hd (k F1 H1 (Same.refl _) S1)))
def rT:List D->Option D
 | [.str x]=>if decide (x.length<=640)then(PySem.intText? x).map PyData.int else none
 | l=>BG l
def Cy:List V->Hp->VK->Prop:=λxs H Q=>((∃i,xs=[.int i]/\Q (.int i) H)\/∃k,xs=[.bl k]/\Q (.int (if k then 1 else 0)) H)\/∃x n,xs=[.str x]/\x.length<=640/\PySem.intText? x=some n/\Q (.int n) H
theorem nZ{X:Cx}:CallR X (.type "int") Cy:=by
 intro pins s Z H xs us Q I r h0
 rcases h0 with h0|⟨x,n,rfl,hl,hn,q⟩
 ·exact xN pins s Z H xs us Q I r h0
 ·obtain⟨u,rfl,ru⟩:=L2.Vals.one r
  obtain⟨t,rfl⟩:=ru
  exact PySem.W.KIN.call_text hn hl ⟨.int n,H,I.tok _,⟨_,rfl⟩,q⟩
theorem vj{K:Fg}:gU K Cy rT:=by
 intro G F Z H ρ xs ds res Q S o e k
 by_cases hd:∃x,ds=[.str x]
 ·obtain⟨x,rfl⟩:=hd
  have e':(if decide (x.length<=640)=true then(PySem.intText? x).map PyData.int else none)=some res:=e
  split at e'
  ·rename_i hl
   rw[zzi]at hl
   cases hn:PySem.intText? x with
   | none=>rw[hn]at e';cases e'
   | some n =>
    rw[hn]at e'
    cases e'
    obtain⟨v,r,rfl,ho,hr⟩:=aV o
    obtain rfl:=bG hr
    exact .inr ⟨x,n,by rw[ho.str],hl,hn,k _ F H (Same.refl _) S (.int _)⟩
  ·cases e'
 ·have e':BG ds=some res:=by
   rw[<-e]
   unfold rT
   split
   ·rename_i x;exact absurd ⟨x,rfl⟩ hd
   ·rfl
  exact .inl (DV G F Z H ρ xs ds res Q S o e' k)
theorem np:∀l:List (Str×Tok),Vals ((l.map (·.1)).map V.str) (strValues l)
 | []=>.nil
 | (x,t)::l=>.cons ⟨t,rfl⟩ (np l)
theorem qM{K:Fg}{F:Hp}:∀l:List Str,RepL K F (l.map V.str) (l.map PyData.str)
 | []=>.nil
 | x::l=>.cons (.str x) (qM l)
section
open Builtin Builtin.Str
theorem yb{prog:Program}{w:World}{A:Around}{E:zzj}{s:Shared}{x y:Str}{t u:Tok}{Q:zzj}(hy:(y.length==0)=false)
  (hq:∀(l:List (Str×Tok)) (k:Nat),l.map (·.1)=Txt.split x y->Q (.ref s.heap.objs.size) { s with toks:=k,heap:=s.heap.push { cls:=.type "list",data:=.seq (strValues l).toArray } })
  (hsz:x.length<=sizeLine) (hsz2:(partsBetween x (occurrences x y 0 x.length (x.length+1)) y.length).length<=sizeLine) :
  wpAny (model prog w) A (call (.builtin "str.split") [.str x t,.str y u]) Q E s:=by
 cases h1:(decide (x.length<y.length)||decide (strKind x<strKind y))
 ·cases hf:(occurrences x y 0 x.length (x.length+1)).isEmpty
  ·refine call_meets F.slot_str_split (typeIs_str _ _ _) F.entry_str_split (F.args_str_split_2 _ _) (meets_str_split_sep x y t u h1 hy hf hsz hsz2) ?_
   show wants Q E _ { s with toks:=_,heap:=s.heap.push { cls:=.type "list",data:=.seq (strsFrom s.toks (partsBetween x (occurrences x y 0 x.length (x.length+1)) y.length)).toArray } }
   rw[strsFrom_eq]
   exact hq (numbered s.toks _) _ ((numbered_texts _ _).trans ((if_neg (ne_true_of_eq_false h1)).trans (if_neg (ne_true_of_eq_false hf))).symm)
  ·exact call_meets F.slot_str_split (typeIs_str _ _ _) F.entry_str_split (F.args_str_split_2 _ _) (meets_str_split_not_found x y t u h1 hy hf)
    (hq [(x,t)] s.toks ((if_neg (ne_true_of_eq_false h1)).trans (if_pos hf)).symm)
 ·exact call_meets F.slot_str_split (typeIs_str _ _ _) F.entry_str_split (F.args_str_split_2 _ _) (meets_str_split_cannot_occur x y t u h1)
   (hq [(x,t)] s.toks (if_pos h1).symm)
def kF(x y:Str):Bool:=!(y.length==0)&&decide (x.length<=sizeLine)&&decide ((partsBetween x (occurrences x y 0 x.length (x.length+1)) y.length).length<=sizeLine)&&decide ((Txt.split x y).length<=sizeLine)
end
def pY:D->List D->Option (List D)
 | .str x,[.str y]=>if kF x y then some ((Txt.split x y).map PyData.str)else none
 | _,_=>none
theorem zj{X:Cx}:MtR X "str.split" (yF X.K pY):=by
 intro pins s Z H x xs v us Q I rx rxs ⟨G,F,σ',ρ,d,ds,res,S,ho,hr,e,k⟩
 unfold pY at e
 split at e
 case h_2=>cases e
 rename_i z y
 split at e
 case isFalse=>cases e
 rename_i hc
 cases e
 unfold kF at hc
 rw[Bool.and_eq_true,Bool.and_eq_true,Bool.and_eq_true,zzi,zzi,zzi,Bool.not_eq_true']at hc
 obtain⟨⟨⟨h1,h2⟩,h3⟩,h4⟩:=hc
 rw[ho.str]at rx
 obtain⟨t,rfl⟩:=rx
 cases hr with
 | cons hy hn =>
  cases hn
  cases hy
  obtain⟨u,rfl,ru⟩:=vals1 rxs
  obtain⟨t2,rfl⟩:=ru
  refine yb h1 (λl tk hl=>?_) h2 h3
  have hv:=np l
  rw[hl]at hv
  refine⟨.ref s.heap.objs.size,upd H s.heap.objs.size (.lst ((Txt.split z y).map V.str)),I.laid (t':=tk) (λb o q=>zzc _ q) (Nat.le_refl _) ⟨by rw[zzd];exact h4,strValues l,0,hv,zze _ rfl⟩,rfl,?_⟩
  obtain⟨S2,r2⟩:=S.newLst (I.hok.fresh (Nat.le_refl _)) (qM (Txt.split z y))
  exact k _ F _ (Same.refl _) S2 r2
def strsOf:List D->Option (List Str)
 | []=>some []
 | .str x::r=>(strsOf r).map (x :: ·)
 | _::_=>none
theorem nE:∀{ds:List D} {xs:List Str},strsOf ds=some xs->ds=xs.map PyData.str
 | [],_,h=>by cases h;rfl
 | d::r,xs,h=>by
  cases d<;>first|(cases h;done)|skip
  rename_i x
  have h:(strsOf r).map (x :: ·)=some xs:=h
  cases e:strsOf r with
  | none=>rw[e]at h;cases h
  | some ys=>rw[e]at h;cases h;rw[nE e];rfl
theorem kU{K:Fg}{F:Hp}:∀{xs:List Str} {vs:List V} {its:List Value},RepL K F vs (xs.map PyData.str)->Vals vs its->∃l:List (Str×Tok),its=strValues l/\l.map (·.1)=xs
 | [],_,_,r,v=>by cases r;cases v;exact⟨[],rfl,rfl⟩
 | x::xs,_,_,r,v=>by
  cases r with
  | cons r1 r2 =>
   cases r1
   cases v with
   | cons v1 v2 =>
    obtain⟨t,rfl⟩:=v1
    obtain⟨l,e1,e2⟩:=kU r2 v2
    exact⟨(x,t)::l,by rw[e1];rfl,by rw[List.map_cons,e2]⟩
def h8:D->List D->Option D
 | .str x,[.list ds]=>match strsOf ds with
  | some xs=>if JoinOk x xs then some (.str (Txt.join x xs))else none
  | none=>none
 | _,_=>none
theorem jb{X:Cx}:MtR X "str.join" (Cw X.K h8):=by
 intro pins s Z H x xs v us Q I rx rxs ⟨G,F,σ',ρ,d,ds,res,S,ho,hr,e,k⟩
 unfold h8 at e
 split at e
 case h_2=>cases e
 rename_i z es
 split at e
 case h_2=>cases e
 rename_i ts hts
 split at e
 case isFalse=>cases e
 rename_i hc
 cases e
 rw[ho.str]at rx
 obtain⟨t,rfl⟩:=rx
 cases hr with
 | cons hy hn =>
  cases hn
  obtain⟨u,rfl,ru⟩:=vals1 rxs
  cases hy with
  | lst h1 h2 =>
   cases ru
   obtain⟨its,rv,p,hz⟩:=I.list (S.fh.seq h1)
   rw[nE hts]at h2
   obtain⟨l,e1,e2⟩:=kU h2 rv
   subst e1
   exact SC.join p.isList e2 hc λt' tk=>⟨.str _,H,I.tok tk,⟨t',rfl⟩,k _ F H (Same.refl _) S (.str _)⟩
def uk(x:Str)(lo hi:Option Int):Str:=if((Builtin.Str.strSliceIndices lo hi 1 x.length).length==x.length)=true then x else⟨((Builtin.Str.strSliceIndices lo hi 1 x.length).filterMap (x.cps[·]?)).toArray⟩
def Hj:V->Option Int->Option Int->Hp->VK->Prop:=λv lo hi H Q=>∃x,v=.str x/\(uk x lo hi).length<=sizeLine/\Q (.str (uk x lo hi)) H
theorem vb{v:Value}{o:Option Int}(h:IsPart v o):∃p:Option (Int×Tok),v=partValue p/\p.map (·.1)=o:=by
 cases h with
 | none=>exact⟨none,rfl,rfl⟩
 | int i t=>exact⟨some (i,t),rfl,rfl⟩
theorem sl_str{X:Cx}:SlR X Hj:=by
 intro pins s Z H x v vl vu lo hi sl Q I rx hs pl pu h
 obtain⟨z,rfl,hz,q⟩:=h
 obtain⟨t,rfl⟩:=rx
 obtain⟨l,rfl,el⟩:=vb pl
 obtain⟨u,rfl,eu⟩:=vb pu
 refine⟨"str",_,PySem.F.slot_str_getitem.lookup,typeIs_str _ _ _,?_⟩
 refine wpAny_getItem_str_slice (l:=l) (u:=u) (st:=none) hs rfl ?_
 have ep:slicePicked z l u none=Builtin.Str.strSliceIndices lo hi 1 z.length:=by
  unfold slicePicked
  rw[el,eu]
  rfl
 unfold sliceMade
 rw[ep]
 unfold uk at q hz
 split
 ·rename_i c
  have c':((Builtin.Str.strSliceIndices lo hi 1 z.length).length==z.length)=true:=by
   rw[Bool.and_eq_true]at c;exact c.2
  rw[if_pos c']at q
  exact⟨.str z,H,I,⟨t,rfl⟩,q⟩
 ·rename_i c
  have c':¬ ((Builtin.Str.strSliceIndices lo hi 1 z.length).length==z.length)=true:=λh=>c (by rw[Bool.and_eq_true];exact⟨rfl,h⟩)
  rw[if_neg c']at q hz
  exact⟨hz,.str _,H,I.tok _,⟨_,rfl⟩,q⟩
def rV(d:D)(lo hi:Option Int):Option D:=match d with
 | .str x=>if decide ((uk x lo hi).length<=sizeLine)then some (.str (uk x lo hi))else none
 | _=>HH d lo hi
def A8(p:Pu D)(l h:Pu (Option Int)):Pu D:=λρ=>bd (p ρ) λd=>bd (l ρ) λlo=>bd (h ρ) λhi=>oM (rV d lo hi)
section
variable {X:Cx}{e:Expr}{lo hi:Option Expr}{p:Pu D}{pl ph:Pu (Option Int)}{pos p2:Pos}
theorem oA(he:AO X e p)(hl:APo X lo pl)(hh:APo X hi ph):AP X (.Subscript e (.Slice lo hi none p2) pos) (A8 p pl ph) :=
 λG F Z H ρ Q S w=>sem (yS (sl_str.or (sl_tup.or (sl_tupA.or AD))) aH yN yN) (he G F Z H ρ _ S (w.bind.imp λd F1 H1 s1 S1 w1 x hx =>
  hl G F1 Z H1 ρ _ S1 (w1.bind.imp λlo F2 H2 s2 S2 w2=>hh G F2 Z H2 ρ _ S2 (w2.bind.imp λhi F3 H3 s3 S3 w3=>by
   obtain⟨res,hr,k⟩:=w3.opt
   have ox:=(hx.mono (s2.trans s3)).or S3
   cases d<;>try (cases hr;done)
   ·rename_i z
    have hr':(if decide ((uk z lo hi).length<=sizeLine)=true then some (PyData.str (uk z lo hi))else none)=some res:=hr
    split at hr'
    case isFalse=>cases hr'
    rename_i hz
    rw[zzi]at hz
    cases hr'
    exact .inl ⟨z,ox.str,hz,k F3 H3 (Same.refl _) S3 _ (.str _)⟩
   ·cases hr
    obtain⟨a,vs,rfl,h1,h2⟩:=ox.list S3.fh
    refine .inr (.inr (.inr ⟨a,vs,rfl,h1,λq hq=>?_⟩))
    obtain⟨S4,r4⟩:=S3.newLst hq (vP h2 lo hi)
    obtain⟨F5,s5,S5,r5⟩:=S4.settle r4
    exact k F5 _ s5 S5 _ r5
   ·rename_i ds
    cases hr
    obtain⟨a,vs,rfl,h1,h2⟩:=ox.tuple S3.fh
    by_cases hw:HT.sIx vs.length 0 lo=0/\HT.sIx vs.length vs.length hi=vs.length
    ·refine .inr (.inr (.inl ⟨a,vs,rfl,h1,hw,k F3 H3 (Same.refl _) S3 _ ?_⟩))
     have:cutD ds lo hi=ds:=by
      unfold cutD
      rw[<-h2.length,hw.1,hw.2]
      simp[h2.length]
     rw[this]
     exact ox.tup'
    ·refine .inr (.inl ⟨a,vs,rfl,h1,hw,λq hq=>?_⟩)
     obtain⟨s4,S4,r4⟩:=S3.newTup hq (vP h2 lo hi)
     exact k _ _ s4 S4 _ r4))))
end
end L4
namespace TS
open PySem PyProof.Rows
def kr(rk:Value->Int)(xs:Array Keyed)(i:Nat):Int:=(xs[i]?.map λp=>rk p.1).getD 0
def Asc(rk:Value->Int)(xs:Array Keyed)(lo hi:Nat):Prop:=∀i j:Nat,lo<=i->i<=j->j<hi->kr rk xs i<=kr rk xs j
def Dsc(rk:Value->Int)(xs:Array Keyed)(lo hi:Nat):Prop:=∀i j:Nat,lo<=i->i<=j->j<hi->kr rk xs j<=kr rk xs i
def kD(prog:Program)(w:World)(A:Around)(s:Shared)(κ:SortKind)(rk:Value->Int)(a₀:Array Keyed):Prop :=
 ∀x y,x∈a₀.toList->y∈a₀.toList->∀(E:zzj) (Q:Bool->Shared->Prop),Q (decide (rk x.1<rk y.1)) s->wpAny (model prog w) A (keyLt' κ x.1 y.1) Q E s
abbrev Runs:=Array (Nat×Nat×Nat)
structure SB(κ:SortKind)(a₀:Array Keyed)(lo:Nat)(old:Array Keyed)(P:Runs)(st:SortSt):Prop where
 pm:(arrOf st).Perm a₀
 kd:kindOf st=κ
 fl:failedOf st=none
 kp:∀i,i<lo->(arrOf st)[i]? = old[i]?
 pe:pendingOf st=P
section
variable {prog:Program}{w:World}{A:Around}{E:zzj}{s:Shared}{κ:SortKind}{rk:Value->Int}{a₀ old:Array Keyed}{lo:Nat}{P:Runs}
theorem SB.sz{st:SortSt}(h:SB κ a₀ lo old P st):(arrOf st).size=a₀.size:=h.pm.size_eq
theorem SB.to{st:SortSt}(h:SB κ a₀ lo old P st){xs:Array Keyed}(hp:xs.Perm (arrOf st))(hk:∀i,i<lo->xs[i]? = (arrOf st)[i]?):SB κ a₀ lo old P (setArr st xs) :=
 ⟨hp.trans h.pm,h.kd,h.fl,λi hi=>(hk i hi).trans (h.kp i hi),h.pe⟩
theorem SB.mem{st:SortSt}(h:SB κ a₀ lo old P st){i:Nat}{p:Keyed}(e:(arrOf st)[i]? = some p):p∈a₀.toList :=
 (Array.perm_iff_toList_perm.mp h.pm).mem_iff.mp (by
  obtain⟨hl,e⟩:=Array.getElem?_eq_some_iff.mp e
  rw[<-e];simp)
theorem vx{xs:Array Keyed}{i:Nat}{p:Keyed}(e:xs[i]? = some p):kr rk xs i=rk p.1:=by unfold kr;rw[e];rfl
theorem rC{xs ys:Array Keyed}{i j:Nat}(e:xs[i]? = ys[j]?):kr rk xs i=kr rk ys j:=by unfold kr;rw[e]
theorem CY{xs:Array Keyed}{i:Nat}{p:Keyed}{st:SortSt}{Q:Keyed->SortSt->Prop}(e:xs[i]? = some p)(q:Q p st):wpS (model prog w) A E s (elem' xs i) Q st:=by
 rw[elem'_eq,e];exact wpS_pure q
theorem Ge{x y:Keyed}{st:SortSt}{Q:Option Bool->SortSt->Prop}(hC:kD prog w A s κ rk a₀)(hk:kindOf st=κ)(hx:x∈a₀.toList)(hy:y∈a₀.toList)(q:Q (some (decide (rk x.1<rk y.1))) st) :
  wpS (model prog w) A E s (lt' x y) Q st:=by
 rw[lt'_eq]
 refine wpS_bind (wpS_get ?_)
 rw[hk]
 refine wpS_bind (wpS_lift (wpAny_attempt (hC x y hx hy _ _ ⟨rfl,?_⟩)))
 exact wpS_pure q
theorem sJ{i j:Nat}{st:SortSt}{Q:Option Bool->SortSt->Prop}(hC:kD prog w A s κ rk a₀)(h:SB κ a₀ lo old P st)(hi:i<a₀.size)(hj:j<a₀.size)(q:Q (some (decide (kr rk (arrOf st) i<kr rk (arrOf st) j))) st) :
  wpS (model prog w) A E s (ltAt' i j) Q st:=by
 have e1:(arrOf st)[i]? = some ((arrOf st)[i]'(by rw[h.sz];exact hi)):=Array.getElem?_eq_getElem _
 have e2:(arrOf st)[j]? = some ((arrOf st)[j]'(by rw[h.sz];exact hj)):=Array.getElem?_eq_getElem _
 rw[ltAt'_eq]
 refine wpS_bind (wpS_get ?_)
 refine wpS_bind (CY e1 (wpS_bind (CY e2 ?_)))
 refine Ge hC h.kd (h.mem e1) (h.mem e2) ?_
 rw[vx e1,vx e2]at q
 exact q
theorem oP{st:SortSt}{i j:Nat}{Q:Unit->SortSt->Prop}(q:Q () (setArr st (mirror (arrOf st) i j ((j - i) / 2)))):wpS (model prog w) A E s (reverseSlice' i j) Q st:=by
 rw[reverseSlice'_eq]
 exact wpS_modify q
theorem t9{xs:Array Keyed}{i j:Nat}(hj:j<=xs.size)(k:Nat):kr rk (mirror xs i j ((j - i) / 2)) k=if i<=k/\k<j then kr rk xs (i+j - 1 - k)else kr rk xs k:=by
 have e:=getElem?_mirror_all (i:=i) hj k
 split
 ·rename_i c;rw[if_pos c]at e;exact rC e
 ·rename_i c;rw[if_neg c]at e;exact rC e
theorem jc{xs:Array Keyed}{i j lo:Nat}(hj:j<=xs.size)(hl:lo<=i):∀k,k<lo->(mirror xs i j ((j - i) / 2))[k]? = xs[k]?:=λk hk=>by
 rw[getElem?_mirror_all hj k,if_neg (by lia)]
theorem lJ{xs:Array Keyed}{i j:Nat}(hj:j<=xs.size)(e:∀k,i<=k->k<j->kr rk xs k=kr rk xs (j - 1))(k:Nat):kr rk (mirror xs i j ((j - i) / 2)) k=kr rk xs k:=by
 rw[t9 hj]
 split
 ·rename_i c;rw[e k c.1 c.2,e _ (by lia) (by lia)]
 ·rfl
abbrev Asl:=Option (Option Nat)×Nat
abbrev Dsl:=Option (Option Nat)×Nat×Nat
def upW(lo a z:Nat):StateT SortSt Sem Asl:=forIn [a:z] ((none,a):Asl) λ_ c=>do
 match <-ltAt' (lo+c.snd) (lo+c.snd - 1)with
 | some b=>if b=true then pure (ForInStep.done (none,c.snd))else pure (ForInStep.yield (none,c.snd+1))
 | _=>pure (ForInStep.done (some none,c.snd))
def zN(lo n z:Nat):StateT SortSt Sem (Option Nat):=do
 reverseSlice' lo (lo+n)
 let c <-upW lo n z
 match c.fst with
 | some r=>pure r
 | none=>pure (some c.snd)
def dnW(lo n z:Nat):StateT SortSt Sem Dsl:=forIn [n:z] ((none,n,0):Dsl) λ_ c=>do
 match <-ltAt' (lo+c.snd.fst) (lo+c.snd.fst - 1)with
 | some b =>
  if b=true then
   if c.snd.snd>0 then do
    reverseSlice' (lo+c.snd.fst - (c.snd.snd+1)) (lo+c.snd.fst)
    pure (ForInStep.yield (none,c.snd.fst+1,0))
   else pure (ForInStep.yield (none,c.snd.fst+1,0))
  else do
   match <-ltAt' (lo+c.snd.fst - 1) (lo+c.snd.fst)with
   | some g=>if g=true then pure (ForInStep.done (none,c.snd.fst,c.snd.snd))else pure (ForInStep.yield (none,c.snd.fst+1,c.snd.snd+1))
   | _=>pure (ForInStep.done (some none,c.snd.fst,c.snd.snd))
 | _=>pure (ForInStep.done (some none,c.snd.fst,c.snd.snd))
def rR(lo n z:Nat):StateT SortSt Sem (Option Nat):=do
 liftM (rule "list.sort.descending-run")
 let c <-dnW lo (n+1) z
 match c.fst with
 | some r=>pure r
 | none =>
  if c.snd.snd>0 then do
   reverseSlice' (lo+c.snd.fst - (c.snd.snd+1)) (lo+c.snd.fst)
   zN lo c.snd.fst z
  else zN lo c.snd.fst z
theorem Dq(lo z:Nat):countRun' lo z=(do
  let c <-upW lo 1 z
  match c.fst with
  | some r=>pure r
  | none =>
   if(c.snd==z)=true then pure (some c.snd)
   else if c.snd>1 then do
    match <-ltAt' lo (lo+c.snd - 1)with
    | some b=>if b=true then pure (some c.snd)else do
      reverseSlice' lo (lo+c.snd)
      rR lo c.snd z
    | _=>pure none
   else rR lo c.snd z):=by
 rw[countRun'_eq]
 unfold rR zN dnW upW
 dsimp only
 have tl:∀(x:StateT SortSt Sem Asl),(x >>= λc3=>match c3.fst with|some r=>pure r|none=>pure (some c3.snd):StateT SortSt Sem (Option Nat))=(x >>= λc3=>match c3.fst with|none=>pure (some c3.snd)|some r=>pure r):=λx=>by
  congr 1;funext c3;rcases c3 with ⟨_|r3,n3⟩<;>rfl
 congr 1
 funext c
 rcases c with ⟨_|r,n⟩
 ·dsimp only
  split
  ·rfl
  ·split
   ·congr 1
    funext x
    cases x with
    | none=>rfl
    | some b =>
     dsimp only
     split
     ·rfl
     ·congr 1;funext _;congr 1;funext _;congr 1;funext c2
      rcases c2 with ⟨_|r2,n2,q2⟩
      ·dsimp only
       split
       ·congr 1;funext _;congr 1;funext _;congr 1;funext c3;rcases c3 with ⟨_|r3,n3⟩<;>rfl
       ·congr 1;funext _;congr 1;funext c3;rcases c3 with ⟨_|r3,n3⟩<;>rfl
      ·rfl
   ·congr 1;funext _;congr 1;funext c2
    rcases c2 with ⟨_|r2,n2,q2⟩
    ·dsimp only
     split
     ·congr 1;funext _;congr 1;funext _;congr 1;funext c3;rcases c3 with ⟨_|r3,n3⟩<;>rfl
     ·congr 1;funext _;congr 1;funext c3;rcases c3 with ⟨_|r3,n3⟩<;>rfl
    ·rfl
 ·rfl
end
section
variable {prog:Program}{w:World}{A:Around}{E:zzj}{s:Shared}{κ:SortKind}{rk:Value->Int}{a₀ old:Array Keyed}{lo:Nat}{P:Runs}
theorem Asc.snoc{xs:Array Keyed}{lo m:Nat}(h:Asc rk xs lo (lo+m))(h1:1<=m)(q:¬ kr rk xs (lo+m)<kr rk xs (lo+m - 1)):Asc rk xs lo (lo+(m+1)):=λi j hi hij hj=>by
 by_cases c:j<lo+m
 ·exact h i j hi hij c
 ·by_cases c2:i=j
  ·subst c2;exact Int.le_refl _
  ·have e:j=lo+m:=by lia
   subst e
   have:=h i (lo+m - 1) hi (by lia) (by lia)
   lia
theorem qA{st:SortSt}{a z:Nat}{Q:Asl->SortSt->Prop}(hC:kD prog w A s κ rk a₀)(hz:lo+z<=a₀.size)(h1:1<=a)(ha:a<=z)(h:SB κ a₀ lo old P st)(ho:Asc rk (arrOf st) lo (lo+a))
  (q:∀n,a<=n->n<=z->Asc rk (arrOf st) lo (lo+n)->(n=z\/kr rk (arrOf st) (lo+n)<kr rk (arrOf st) (lo+n - 1))->Q (none,n) st):wpS (model prog w) A E s (upW lo a z) Q st:=by
 refine wpS_forRange (I:=λx c st'=>st'=st/\c=(none,x)/\Asc rk (arrOf st) lo (lo+x)) (λx c st' hx hxz I=>?_) (λc st' I=>?_) ⟨rfl,rfl,ho⟩
 ·obtain⟨rfl,rfl,o⟩:=I
  refine wpS_bind (sJ hC h (by dsimp only;lia) (by dsimp only;lia) ?_)
  dsimp only
  by_cases c:kr rk (arrOf st') (lo+x)<kr rk (arrOf st') (lo+x - 1)
  ·rw[decide_eq_true c]
   exact wpS_pure (q x hx (by lia) o (.inr c))
  ·rw[decide_eq_false c]
   exact wpS_pure ⟨rfl,rfl,o.snoc (by lia) c⟩
 ·obtain⟨rfl,rfl,o⟩:=I
  have e:max a z=z:=by lia
  rw[e]at o ⊢
  exact q z ha (Nat.le_refl _) o (.inl rfl)
def Run(κ:SortKind)(rk:Value->Int)(a₀ old:Array Keyed)(lo z:Nat)(P:Runs)(m:Nat)(st:SortSt):Prop:=SB κ a₀ lo old P st/\1<=m/\m<=z/\Asc rk (arrOf st) lo (lo+m)
theorem zM{st:SortSt}{n z:Nat}{Q:Option Nat->SortSt->Prop}(hC:kD prog w A s κ rk a₀)(hz:lo+z<=a₀.size)(h1:1<=n)(hn:n<=z)(h:SB κ a₀ lo old P st)(ho:Dsc rk (arrOf st) lo (lo+n))
  (q:∀m st',Run κ rk a₀ old lo z P m st'->Q (some m) st'):wpS (model prog w) A E s (zN lo n z) Q st:=by
 have hl:lo+n<=(arrOf st).size:=by rw[h.sz];lia
 have h':=h.to (mirror_perm (arrOf st) lo (lo+n) ((lo+n - lo) / 2)) (jc hl (Nat.le_refl _))
 unfold zN
 refine wpS_bind (oP (wpS_bind (qA hC hz h1 hn h' (λi j hi hij hj=>?_) λm m1 m2 o _=>wpS_pure (q m _ ⟨h',by lia,m2,o⟩))))
 show kr rk (mirror (arrOf st) lo (lo+n) _) i<=kr rk (mirror (arrOf st) lo (lo+n) _) j
 rw[t9 hl,t9 hl,if_pos ⟨hi,by lia⟩,if_pos ⟨by lia,hj⟩]
 exact ho _ _ (by lia) (by lia) (by lia)
theorem Dsc.snoc{xs ys:Array Keyed}{lo m:Nat}(h:Dsc rk xs lo (lo+m))(h1:1<=m)(e:∀k,kr rk ys k=kr rk xs k)(q:kr rk xs (lo+m)<=kr rk xs (lo+m - 1)):Dsc rk ys lo (lo+(m+1)):=λi j hi hij hj=>by
 rw[e,e]
 by_cases c:j<lo+m
 ·exact h i j hi hij c
 ·by_cases c2:i=j
  ·subst c2;exact Int.le_refl _
  ·have e:j=lo+m:=by lia
   subst e
   have:=h i (lo+m - 1) hi (by lia) (by lia)
   lia
def Flat(rk:Value->Int)(xs:Array Keyed)(lo m q:Nat):Prop:=q+1<=m/\∀k,lo+m - (q+1)<=k->k<lo+m->kr rk xs k=kr rk xs (lo+m - 1)
theorem GI{st:SortSt}{n z:Nat}{Q:Dsl->SortSt->Prop}(hC:kD prog w A s κ rk a₀)(hz:lo+z<=a₀.size)(h1:1<=n)(hn:n<=z)(h:SB κ a₀ lo old P st)(ho:Dsc rk (arrOf st) lo (lo+n))
  (q:∀m r st',SB κ a₀ lo old P st'->n<=m->m<=z->Dsc rk (arrOf st') lo (lo+m)->Flat rk (arrOf st') lo m r->Q (none,m,r) st'):wpS (model prog w) A E s (dnW lo n z) Q st:=by
 refine wpS_forRange (I:=λx c st'=>∃r,c=(none,x,r)/\SB κ a₀ lo old P st'/\Dsc rk (arrOf st') lo (lo+x)/\Flat rk (arrOf st') lo x r) (λx c st' hx hxz I=>?_) (λc st' I=>?_) ⟨0,rfl,h,ho,by lia,λk k1 k2=>by congr 1;lia⟩
 ·obtain⟨r,rfl,h',o,fl⟩:=I
  have hl:lo+x<=(arrOf st').size:=by rw[h'.sz];lia
  refine wpS_bind (sJ hC h' (by dsimp only;lia) (by dsimp only;lia) ?_)
  dsimp only
  by_cases c:kr rk (arrOf st') (lo+x)<kr rk (arrOf st') (lo+x - 1)
  ·rw[decide_eq_true c]
   rw[if_pos rfl]
   split
   ·rename_i hr
    have hr':0<r:=hr
    have hfl:∀k,lo+x - (r+1)<=k->k<lo+x->kr rk (arrOf st') k=kr rk (arrOf st') (lo+x - 1):=fl.2
    have kp:=lJ (rk:=rk) hl hfl
    have fl1:=fl.1
    refine wpS_bind (oP (wpS_pure ⟨0,rfl,h'.to (mirror_perm _ _ _ _) (jc hl (by lia)),o.snoc (by lia) kp (by lia),by lia,λk k1 k2=>by congr 1;lia⟩))
   ·exact wpS_pure ⟨0,rfl,h',o.snoc (by lia) (λ_=>rfl) (by lia),by lia,λk k1 k2=>by congr 1;lia⟩
  ·rw[decide_eq_false c]
   rw[if_neg (by decide)]
   refine wpS_bind (sJ hC h' (by lia) (by lia) ?_)
   by_cases c2:kr rk (arrOf st') (lo+x - 1)<kr rk (arrOf st') (lo+x)
   ·rw[decide_eq_true c2]
    exact wpS_pure (q x r st' h' hx (by lia) o fl)
   ·rw[decide_eq_false c2]
    refine wpS_pure ⟨r+1,rfl,h',o.snoc (by lia) (λ_=>rfl) (by lia),by have:=fl.1;lia,λk k1 k2=>?_⟩
    have e:kr rk (arrOf st') (lo+x)=kr rk (arrOf st') (lo+x - 1):=by lia
    rw[show lo+(x+1) - 1=lo+x by lia,e]
    by_cases c3:k=lo+x
    ·rw[c3];exact e
    ·exact fl.2 k (by lia) (by lia)
 ·obtain⟨r,rfl,h',o,fl⟩:=I
  have e:max n z=z:=by lia
  rw[e]at o fl ⊢
  exact q z r st' h' hn (Nat.le_refl _) o fl
theorem vJ{st:SortSt}{n z:Nat}{Q:Option Nat->SortSt->Prop}(hC:kD prog w A s κ rk a₀)(hz:lo+z<=a₀.size)(hn:n+1<=z)(h:SB κ a₀ lo old P st)(ho:Dsc rk (arrOf st) lo (lo+(n+1)))
  (q:∀m st',Run κ rk a₀ old lo z P m st'->Q (some m) st'):wpS (model prog w) A E s (rR lo n z) Q st:=by
 unfold rR
 refine wpS_bind (wpS_lift (wpAny_rule ⟨rfl,wpS_bind (GI hC hz (by lia) hn h ho λm r st' h' m1 m2 o fl=>?_)⟩))
 dsimp only
 have hl:lo+m<=(arrOf st').size:=by rw[h'.sz];lia
 have fl1:=fl.1
 split
 ·have kp:=lJ (rk:=rk) hl fl.2
  refine wpS_bind (oP (zM hC hz (by lia) m2 (h'.to (mirror_perm _ _ _ _) (jc hl (by lia))) (λi j hi hij hj=>?_) q))
  show kr rk (mirror (arrOf st') _ _ _) j<=kr rk (mirror (arrOf st') _ _ _) i
  rw[kp,kp]
  exact o i j hi hij hj
 ·exact zM hC hz (by lia) m2 h' o q
theorem Dp{st:SortSt}{z:Nat}{Q:Option Nat->SortSt->Prop}(hC:kD prog w A s κ rk a₀)(hz:lo+z<=a₀.size)(h1:1<=z)(h:SB κ a₀ lo old P st)
  (q:∀m st',Run κ rk a₀ old lo z P m st'->Q (some m) st'):wpS (model prog w) A E s (countRun' lo z) Q st:=by
 rw[Dq]
 refine wpS_bind (qA hC hz (Nat.le_refl 1) h1 h (λi j hi hij hj=>by rw[show i=j by lia];exact Int.le_refl _) λn n1 n2 o e=>?_)
 dsimp only
 by_cases c:n=z
 ·rw[if_pos (by simpa using c)]
  exact wpS_pure (q n st ⟨h,n1,n2,o⟩)
 ·rw[if_neg (by simpa using c)]
  have lt:=e.resolve_left c
  split
  ·refine wpS_bind (sJ hC h (by lia) (by lia) ?_)
   by_cases c2:kr rk (arrOf st) lo<kr rk (arrOf st) (lo+n - 1)
   ·rw[decide_eq_true c2]
    exact wpS_pure (q n st ⟨h,n1,n2,o⟩)
   ·rw[decide_eq_false c2]
    dsimp only
    rw[if_neg (by decide)]
    have hl:lo+n<=(arrOf st).size:=by rw[h.sz];lia
    have fl:∀k,lo<=k->k<lo+n->kr rk (arrOf st) k=kr rk (arrOf st) (lo+n - 1):=λk k1 k2=>by
     have a1:=o lo k (Nat.le_refl _) k1 k2
     have a2:=o k (lo+n - 1) k1 (by lia) (by lia)
     lia
    have kp:=lJ (rk:=rk) hl fl
    have dd:Dsc rk (arrOf st) lo (lo+n):=λi j hi hij hj=>by rw[fl i hi (by lia),fl j (by lia) hj];exact Int.le_refl _
    exact wpS_bind (oP (vJ hC hz (by lia) (h.to (mirror_perm _ _ _ _) (jc hl (Nat.le_refl _))) (dd.snoc n1 kp (by lia)) q))
  ·have e1:n=1:=by lia
   subst e1
   have dd:Dsc rk (arrOf st) lo (lo+1):=λi j hi hij hj=>by rw[show i=j by lia];exact Int.le_refl _
   exact vJ hC hz (by lia) h (dd.snoc (Nat.le_refl _) (λ_=>rfl) (by lia)) q
theorem zv{xs:Array Keyed}{src d:Nat}(hs:src<xs.size)(hd:d<=src)(k:Nat):kr rk (bubble xs src d) k=if k=src - d then kr rk xs src else if src - d<k/\k<=src then kr rk xs (k - 1)else kr rk xs k:=by
 have e:=getElem?_bubble hs d hd k
 split
 ·rename_i c;rw[if_pos c]at e;exact rC e
 ·rename_i c
  rw[if_neg c]at e
  split
  ·rename_i c2;rw[if_pos c2]at e;exact rC e
  ·rename_i c2;rw[if_neg c2]at e;exact rC e
theorem Es{st:SortSt}{n ok:Nat}{Q:Bool->SortSt->Prop}(hC:kD prog w A s κ rk a₀)(hn:lo+n<=a₀.size)(hk:ok<=n)(h:SB κ a₀ lo old P st)(ho:Asc rk (arrOf st) lo (lo+ok))
  (q:∀st',SB κ a₀ lo old P st'->Asc rk (arrOf st') lo (lo+n)->Q true st'):wpS (model prog w) A E s (binarySort' lo n ok) Q st:=by
 rw[binarySort'_eq]
 refine wpS_bind (wpS_mono (wpS_forRange (I:=λk c st'=>c=(none,())/\SB κ a₀ lo old P st'/\Asc rk (arrOf st') lo (lo+min k n))
  (Q:=λc st'=>c=(none,())/\SB κ a₀ lo old P st'/\Asc rk (arrOf st') lo (lo+n)) (λk c st' hk1 hkn I=>?_) (λc st' I=>?_) ⟨rfl,h,λi j hi hij hj=>?_⟩) λc st' I=>?_)
 ·obtain⟨rfl,h',o⟩:=I
  rw[show min k n=k by lia]at o
  have hsz:lo+k<(arrOf st').size:=by rw[h'.sz];lia
  refine wpS_bind (wpS_mono (wpS_forRange (I:=λx c st2=>st2=st'/\∃l r,c=(none,l,r)/\l<=r/\r<=k/\r - l<=k - x /\
    (∀i,i<l->kr rk (arrOf st') (lo+i)<=kr rk (arrOf st') (lo+k))/\(∀i,r<=i->i<k->kr rk (arrOf st') (lo+k)<kr rk (arrOf st') (lo+i)))
   (Q:=λc st2=>st2=st'/\∃l r,c=(none,l,r)/\l<=k/\(∀i,i<l->kr rk (arrOf st') (lo+i)<=kr rk (arrOf st') (lo+k))/\(∀i,l<=i->i<k->kr rk (arrOf st') (lo+k)<kr rk (arrOf st') (lo+i)))
   (λx c st2 _ hx J=>?_) (λc st2 J=>?_) ⟨rfl,0,k,rfl,by lia,by lia,by lia,λi hi=>by lia,λi i1 i2=>by lia⟩) λc st2 J=>?_)
  ·obtain⟨rfl,l,r,rfl,lr,rk',sz,b1,b2⟩:=J
   dsimp only
   by_cases c:l>=r
   ·rw[if_pos c]
    exact wpS_pure ⟨rfl,l,r,rfl,by lia,b1,λi i1 i2=>b2 i (by lia) i2⟩
   ·rw[if_neg c]
    refine wpS_bind (sJ hC h' (by lia) (by lia) ?_)
    by_cases c2:kr rk (arrOf st2) (lo+k)<kr rk (arrOf st2) (lo+(l+r) / 2)
    ·rw[decide_eq_true c2]
     refine wpS_pure ⟨rfl,l,(l+r) / 2,rfl,by lia,by lia,by lia,b1,λi i1 i2=>?_⟩
     have:=o (lo+(l+r) / 2) (lo+i) (by lia) (by lia) (by lia)
     lia
    ·rw[decide_eq_false c2]
     refine wpS_pure ⟨rfl,(l+r) / 2+1,r,rfl,by lia,by lia,by lia,λi i1=>?_,b2⟩
     have:=o (lo+i) (lo+(l+r) / 2) (by lia) (by lia) (by lia)
     lia
  ·obtain⟨rfl,l,r,rfl,lr,rk',sz,b1,b2⟩:=J
   exact⟨rfl,l,r,rfl,by lia,b1,λi i1 i2=>b2 i (by lia) i2⟩
  ·obtain⟨rfl,l,r,rfl,lk,b1,b2⟩:=J
   show wpS _ _ _ _ (moveDown' (lo+k) (lo+l) >>= λ_=>pure (ForInStep.yield (none,()))) _ _
   rw[moveDown'_eq]
   have ed:lo+k - (lo+k - (lo+l))=lo+l:=by lia
   refine wpS_bind (wpS_modify (wpS_pure ⟨rfl,h'.to (bubble_perm _ _ _) (λi hi=>?_),λi j hi hij hj=>?_⟩))
   ·rw[getElem?_bubble hsz _ (by lia),if_neg (by lia),if_neg (by lia)]
   ·rw[show min (k+1) n=k+1 by lia]at hj
    show kr rk (bubble (arrOf st2) (lo+k) (lo+k - (lo+l))) i<=kr rk (bubble (arrOf st2) (lo+k) (lo+k - (lo+l))) j
    rw[zv hsz (by lia),zv hsz (by lia),ed]
    have t1:∀i,lo<=i->i<lo+l->kr rk (arrOf st2) i<=kr rk (arrOf st2) (lo+k):=λi i1 i2=>by
     have:=b1 (i - lo) (by lia)
     rwa [show lo+(i - lo)=i by lia]at this
    have t2:∀i,lo+l<=i->i<lo+k->kr rk (arrOf st2) (lo+k)<kr rk (arrOf st2) i:=λi i1 i2=>by
     have:=b2 (i - lo) (by lia) (by lia)
     rwa [show lo+(i - lo)=i by lia]at this
    split
    ·split
     ·exact Int.le_refl _
     ·split
      ·exact Int.le_of_lt (t2 _ (by lia) (by lia))
      ·lia
    ·split
     ·split
      ·lia
      ·split
       ·exact o _ _ (by lia) (by lia) (by lia)
       ·lia
     ·split
      ·exact t1 _ hi (by lia)
      ·split
       ·exact o _ _ (by lia) (by lia) (by lia)
       ·exact o _ _ (by lia) (by lia) (by lia)
 ·obtain⟨rfl,h',o⟩:=I
  rw[show min (max (max ok 1) n) n=n by lia]at o
  exact⟨rfl,h',o⟩
 ·by_cases c:ok=0
  ·rw[show i=j by lia];exact Int.le_refl _
  ·exact ho i j hi hij (by lia)
 ·obtain⟨rfl,h',o⟩:=I
  exact wpS_pure (q st' h' o)
end
abbrev SM':=StateT SortSt Sem
end TS
namespace TS
end TS
namespace TS
open PySem PyProof.Rows
section
variable {rk:Value->Int}
abbrev Le(rk:Value->Int)(x y:Keyed):Prop:=rk x.1<=rk y.1
theorem Ac{a:Array Keyed}(h:Asc rk a 0 a.size):a.toList.Pairwise (Le rk):=by
 rw[List.pairwise_iff_getElem]
 intro i j hi hj hij
 have hi':i<a.size:=by simpa using hi
 have hj':j<a.size:=by simpa using hj
 have:=h i j (Nat.zero_le _) (Nat.le_of_lt hij) hj'
 rw[vx (Array.getElem?_eq_getElem hi'),vx (Array.getElem?_eq_getElem hj')]at this
 simpa using this
end
end TS
namespace TS
end TS
namespace TS
end TS
namespace TS
open PySem PyProof.Rows
section
variable {rk:Value->Int}
def Cov:List (Nat×Nat×Nat)->Nat->Nat->Prop
 | [],lo,hi=>lo=hi
 | (s,n,_)::r,lo,hi=>s=lo/\1<=n/\Cov r (lo+n) hi
structure Rn(κ:SortKind)(rk:Value->Int)(a₀:Array Keyed)(hi:Nat)(st:SortSt):Prop where
 pm:(arrOf st).Perm a₀
 kd:kindOf st=κ
 fl:failedOf st=none
 cv:Cov (pendingOf st).toList 0 hi
 so:∀x∈(pendingOf st).toList,Asc rk (arrOf st) x.1 (x.1+x.2.1)
 le:hi<=a₀.size
variable {prog:Program}{w:World}{A:Around}{E:zzj}{s:Shared}{κ:SortKind}{a₀:Array Keyed}
end
end TS
namespace TS
end TS
namespace TS
open PySem PyProof.Rows
abbrev Cu:=Option Unit×Unit
def HS(pw:Nat):SM' (ForInStep Cu):=do
 let st <-get
 match (if(pendingOf st).size>1 then(pendingOf st)[(pendingOf st).size - 2]? else none)with
 | some (_,_,o) =>
  if o<=pw then pure (.done (none,()))
  else do
   let b <-mergeAt' ((pendingOf st).size - 2)
   if(!b)=true then pure (.done (some (),()))else pure (.yield (none,()))
 | _=>pure (.done (none,()))
def addW(lo n:Nat):SM' (ForInStep (Option Unit×Nat)):=do
 modify λc=>setPending c ((pendingOf c).push (lo,n,0))
 pure (.yield (none,lo+n))
def uY(z lo n:Nat):SM' (ForInStep (Option Unit×Nat)):=do
 let st <-get
 match (pendingOf st).back? with
 | some (s1,n1,_)=>do
  let c <-forIn [0:z] ((none,()):Cu) λ_ _=>HS (power' z (2*s1+n1) (2*s1+n1+n1+n) z)
  match c.1 with
  | some r=>pure (.done (some r,lo))
  | none=>do
   modify λc=>setPending c ((pendingOf c).modify ((pendingOf c).size - 1) λx=>(x.1,x.2.1,power' z (2*s1+n1) (2*s1+n1+n1+n) z))
   addW lo n
 | _=>addW lo n
def D5(P:Runs):Nat:=if((if P.size - 2>0 then P[P.size - 2 - 1]?.map (·.2.1)else none).any (· < (P[P.size - 2+1]?.elim 0 (·.2.1))))=true then P.size - 2 - 1 else P.size - 2
def CO:SM' (ForInStep Cu):=do
 let st <-get
 if(pendingOf st).size<=1 then pure (.done (none,()))
 else do
  let b <-mergeAt' (D5 (pendingOf st))
  if(!b)=true then pure (.done (some (),()))else pure (.yield (none,()))
theorem Az:sortRuns'=(do
  let st <-get
  let c <-forIn [0:(arrOf st).size] ((none,0):Option Unit×Nat) λ_ c =>
   if c.2>=(arrOf st).size then pure (.done (none,c.2))
   else do
    match <-countRun' c.2 ((arrOf st).size - c.2)with
    | some f =>
     if f<minRun' (arrOf st).size (arrOf st).size 0 then do
      liftM (rule "list.sort.binary-insertion")
      let b <-binarySort' c.2 (min ((arrOf st).size - c.2) (minRun' (arrOf st).size (arrOf st).size 0)) f
      if(!b)=true then pure (.done (some (),c.2))
      else uY (arrOf st).size c.2 (min ((arrOf st).size - c.2) (minRun' (arrOf st).size (arrOf st).size 0))
     else uY (arrOf st).size c.2 f
    | _=>pure (.done (some (),c.2))
  match c.1 with
  | some r=>pure r
  | none=>do
   let c <-forIn [0:(arrOf st).size] ((none,()):Cu) λ_ _=>CO
   match c.1 with
   | some r=>pure r
   | none=>pure ()):=by
 kernel_rfl
section
variable {z:Nat}{rk:Value->Int}{prog:Program}{w:World}{A:Around}{E:zzj}{s:Shared}{κ:SortKind}{a₀:Array Keyed}
def Rp(κ:SortKind)(rk:Value->Int)(a₀:Array Keyed)(lo n:Nat)(st:SortSt):Prop:=Rn κ rk a₀ lo st/\1<=n/\lo+n<=a₀.size/\Asc rk (arrOf st) lo (lo+n)
theorem wX:∀n,n<64->minRun' n n 0=n:=by decide +kernel
theorem v9{st:SortSt}{n:Nat}{Q:ForInStep (Option Unit×Nat)->SortSt->Prop}(h:Rp κ rk a₀ 0 n st)(hp:pendingOf st = #[])(q:∀st',Rn κ rk a₀ n st'->(pendingOf st').size<=1->Q (.yield (none,n)) st'):wpS (model prog w) A E s (uY z 0 n) Q st:=by
 obtain⟨r,n1,le,o⟩:=h
 unfold uY
 refine wpS_bind (wpS_get ?_)
 rw[hp]
 show wpS (model prog w) A E s (addW 0 n) Q st
 unfold addW
 have e:0+n=n:=Nat.zero_add n
 rw[e]
 refine wpS_bind (wpS_modify (wpS_pure (q _ ⟨r.pm,r.kd,r.fl,?_,λx hx=>?_,by omega⟩ ?_)))
 ·show Cov ((pendingOf st).push (0,n,0)).toList 0 n
  rw[hp]
  exact⟨rfl,n1,by show 0+n=n;exact e⟩
 ·have hx':x∈((pendingOf st).push (0,n,0)).toList:=hx
  rw[hp]at hx'
  rw[List.mem_singleton.mp hx'];exact o
 ·show((pendingOf st).push (0,n,0)).size<=1
  rw[hp];exact Nat.le_refl _
theorem Ay{st:SortSt}{Q:Unit->SortSt->Prop}(hC:kD prog w A s κ rk a₀)(h2:1<=a₀.size)(h64:a₀.size<64)(h:Rn κ rk a₀ 0 st)(q:∀st',(arrOf st').Perm a₀->failedOf st'=none->Asc rk (arrOf st') 0 a₀.size->Q () st')(hp0:pendingOf st = #[]):wpS (model prog w) A E s sortRuns' Q st:=by
 rw[Az]
 refine wpS_bind (wpS_get ?_)
 have hsz:(arrOf st).size=a₀.size:=h.pm.size_eq
 rw[hsz,wX _ h64]
 refine wpS_bind (wpS_mono (wpS_forRange (I:=λx c st'=>∃lo,c=(none,lo)/\Rn κ rk a₀ lo st'/\(x=0/\lo=0/\pendingOf st' = #[]\/lo=a₀.size/\(pendingOf st').size<=1)) (Q:=λc st'=>c=(none,a₀.size)/\Rn κ rk a₀ a₀.size st'/\(pendingOf st').size<=1) (λx c st' _ hx I=>?_) (λc st' I=>?_) ⟨0,rfl,h,.inl ⟨rfl,rfl,hp0⟩⟩) λc st' I=>?_)
 ·obtain⟨lo,rfl,r,hl⟩:=I
  have rle:=r.le
  dsimp only
  split
  ·rcases hl with ⟨_,rfl,_⟩|⟨rfl,hp⟩
   ·omega
   ·exact wpS_pure ⟨rfl,r,hp⟩
  ·rename_i c
   rcases hl with ⟨hx0,rfl,hp⟩|⟨rfl,hp⟩
   ·have sb:SB κ a₀ 0 (arrOf st') (pendingOf st') st':=⟨r.pm,r.kd,r.fl,λ_ _=>rfl,rfl⟩
    have back:∀st2 n,SB κ a₀ 0 (arrOf st') (pendingOf st') st2->1<=n->0+n<=a₀.size->Asc rk (arrOf st2) 0 (0+n)->Rp κ rk a₀ 0 n st2:=λst2 n b n1 n2 o=>by
     refine⟨⟨b.pm,b.kd,b.fl,by rw[b.pe,hp];rfl,λx hx=>?_,r.le⟩,n1,n2,o⟩
     rw[b.pe,hp]at hx
     cases hx
    refine wpS_bind (Dp hC (by omega) (by omega) sb λm st2 ⟨b2,m1,m2,o2⟩=>?_)
    dsimp only
    split
    ·refine wpS_bind (wpS_lift (wpAny_rule ⟨rfl,wpS_bind (Es hC (by omega) (by omega) b2 o2 λst3 b3 o3=>?_)⟩))
     rw[if_neg (by decide)]
     have em:min (a₀.size - 0) a₀.size=a₀.size:=by omega
     rw[em]at o3 ⊢
     exact v9 (back st3 _ b3 (by omega) (by omega) o3) (by rw[b3.pe,hp]) λst4 r4 p4=>⟨_,rfl,r4,.inr ⟨rfl,p4⟩⟩
    ·have em:m=a₀.size:=by omega
     subst em
     exact v9 (back st2 _ b2 m1 (by omega) o2) (by rw[b2.pe,hp]) λst4 r4 p4=>⟨_,rfl,r4,.inr ⟨rfl,p4⟩⟩
   ·omega
 ·obtain⟨lo,rfl,r,hl⟩:=I
  rcases hl with ⟨h0,_⟩|⟨rfl,hp⟩
  ·omega
  ·exact⟨rfl,r,hp⟩
 ·obtain⟨rfl,r,hp⟩:=I
  dsimp only
  refine wpS_bind (wpS_mono (wpS_forRange (I:=λx c st2=>c=(none,())/\Rn κ rk a₀ a₀.size st2/\(pendingOf st2).size<=1) (Q:=λc st2=>c=(none,())/\Rn κ rk a₀ a₀.size st2/\(pendingOf st2).size<=1) (λx c st2 _ hx I=>?_) (λc st2 I=>I) ⟨rfl,r,hp⟩) λc st2 I=>?_)
  ·obtain⟨rfl,r2,sz⟩:=I
   unfold CO
   refine wpS_bind (wpS_get ?_)
   rw[if_pos sz]
   exact wpS_pure ⟨rfl,r2,sz⟩
  ·obtain⟨rfl,r2,sz⟩:=I
   dsimp only
   refine wpS_pure (q st2 r2.pm r2.fl ?_)
   have cv:=r2.cv
   have so:=r2.so
   have hl:(pendingOf st2).toList.length<=1:=by rw[Array.length_toList];exact sz
   match hP:(pendingOf st2).toList,hl,cv,so with
   | [],_,cv,_=>have:0=a₀.size:=cv;omega
   | [(a,n,p)],_,cv,so =>
    obtain⟨rfl,_,e⟩:=cv
    have e':0+n=a₀.size:=e
    have:=so (0,n,p) List.mem_cons_self
    dsimp only at this
    rw[e']at this
    exact this
   | _::_::_,hl,_,_=>simp at hl
end
def mid(s:Shared)(a:Addr)(vs:List Value):Shared:={ s with heap:=((s.heap.update a (Obj.mapSeq λ_=>#[])).push (seqObj "tuple" vs.toArray 0)).push (seqObj "list" #[] 0) }
section
variable {prog:Program}{w:World}{A:Around}{E:zzj}{s:Shared}{κ:SortKind}{rk:Value->Int}
theorem zp{a:Addr}{vs:List Value}{n:Nat}{P:Fin->Shared->Prop}(ho:s.heap.get? a=some (seqObj "list" vs.toArray n))(h64:vs.length<64)
  (hk:2<=vs.length->∀Q:SortKind->Shared->Prop,Q κ (mid s a vs)->wpAny (model prog w) A (keyKind' vs.toArray) Q E (mid s a vs)) (hC:2<=vs.length->kD prog w A (mid s a vs) κ rk (pairsOf vs))
  (h:∀out:Array Value,out.toList.Perm vs->out.toList.Pairwise (λx y=>rk x<=rk y)->P (.done (.ret .none)) { s with heap:=sortedHeap s.heap a vs out }):wpAny (model prog w) A (Builtin.«list.sort» ⟨[.ref a],[]⟩) P E s:=by
 have hz:vs.length<=sizeLine:=Nat.le_trans (Nat.le_of_lt h64) (by decide)
 have hlt:=Heap.lt_size ho
 obtain⟨ep,ho1⟩:∃ep,(s.heap.update a (Obj.mapSeq λ_=>#[])).get? a=some (seqObj "list" #[] ep):=⟨_,get?_update_seq ho λ_=>#[]⟩
 have ho2:(mid s a vs).heap.get? a=some (seqObj "list" #[] ep):=by
  unfold mid
  dsimp only
  rw[Heap.get?_push_ne,Heap.get?_push_ne]
  ·exact ho1
  ·rw[Heap.size_update];exact Nat.ne_of_lt hlt
  ·rw[size_push',Heap.size_update];exact Nat.ne_of_lt (Nat.lt_succ_of_lt hlt)
 rw[list_sort_plain]
 refine zza (listItems_at ho rfl (zza (listUpdate_at ho rfl (zza (seqEpoch_at ho1 rfl (zza (wpAny_newTuple (zza (wpAny_newList (wpAny_holding ?_)))))))  (by simpa using hz) (Nat.zero_le _))))
 have mem:∀p∈(pairsOf vs).toList,p.1=p.2/\p.1∈vs:=λp hp=>by
  rw[pairsOf_toList]at hp
  exact mem_zip_self hp
 have fin:∀c:SortSt,(arrOf c).Perm (pairsOf vs)->Asc rk (arrOf c) 0 (arrOf c).size->P (.done (.ret .none)) { s with heap:=sortedHeap s.heap a vs ((arrOf c).map (·.2)) }:=λc hp ha=>by
  have hp':=Array.perm_iff_toList_perm.mp hp
  have e:((arrOf c).map (·.2)).toList=(arrOf c).toList.map (·.1):=by
   rw[Array.toList_map]
   exact List.map_congr_left λp q=>(mem p (hp'.mem_iff.mp q)).1.symm
  refine h _ ?_ ?_
  ·rw[e]
   have:=hp'.map (·.1)
   rwa [pairsOf_toList,List.map_fst_zip (Nat.le_refl _)]at this
  ·rw[e,List.pairwise_map]
   exact Ac ha
 have size2:∀c:SortSt,(arrOf c).Perm (pairsOf vs)->((arrOf c).map (·.2)).size<=sizeLine+1:=λc hp=>by
  rw[Array.size_map,hp.size_eq,pairsOf_size];omega
 have vz:vs.toArray.size=vs.length:=List.size_toArray ..
 show wpAny (model prog w) A _ P E (mid s a vs)
 by_cases c:vs.length<2
 ·rw[if_pos (by rw[vz];exact c),if_pos (by rw[vz];exact c)]
  refine zza (zzb ?_)
  dsimp only
  rw[StateT.run_pure]
  refine zza (zzb (zza (seqEpoch_at ho2 rfl (zza (listUpdate_at ho2 rfl ?_ (Nat.zero_le _) (size2 (SortSt.mk' general' (vs.toArray.zip vs.toArray) #[] 7 none) (Array.Perm.refl _)))))))
  rw[if_neg (by simp)]
  refine zzb (fin (SortSt.mk' general' (vs.toArray.zip vs.toArray) #[] 7 none) (Array.Perm.refl _) λi j _ ij hj=>?_)
  have hj':j<(pairsOf vs).size:=hj
  rw[pairsOf_size]at hj'
  rw[show i=j by omega]
  exact Int.le_refl _
 ·rw[if_neg (by rw[vz];exact c),if_neg (by rw[vz];exact c)]
  refine zza (hk (by omega) _ ?_)
  have so:=Ay (E:=E) (hC (by omega)) (by rw[pairsOf_size];omega) (by rw[pairsOf_size];exact h64) (hp0:=rfl) (st:=SortSt.mk' κ (vs.toArray.zip vs.toArray) #[] 7 none) (Q:=λ_ c=>(arrOf c).Perm (pairsOf vs)/\failedOf c=none/\Asc rk (arrOf c) 0 (pairsOf vs).size)
   ⟨Array.Perm.refl _,rfl,rfl,rfl,(λx hx=>by cases hx),Nat.zero_le _⟩ (λc a1 a2 a3=>⟨a1,a2,a3⟩)
  refine zza (wpAny_mono so (λr s' ⟨e,a1,a2,a3⟩=>?_) λ_ _ e=>e)
  subst e
  obtain⟨⟨⟩,c⟩:=r
  dsimp only at a1 a2 a3 ⊢
  refine zza (seqEpoch_at ho2 rfl (zza (listUpdate_at ho2 rfl ?_ (Nat.zero_le _) (size2 c a1))))
  rw[a2]
  dsimp only
  rw[if_neg (by simp)]
  exact zzb (fin c a1 (by rw[a1.size_eq];exact a3))
theorem BK{l:Addr}{o:Obj}{n:Nat}{vs:List Value}{Q:List Value->Shared->Prop}(ho:s.heap.get? l=some o)(hc:o.cls=.type "list" \/ o.cls=.type "tuple")(hd:o.data=.seq vs.toArray n)(hz:vs.length<=sizeLine)
  (h:Q vs { s with heap:=(s.heap.push (seqObj "list" #[] 0)).update s.heap.objs.size (Obj.mapSeq (· ++ vs.toArray)) }):wpAny (model prog w) A (collect (.ref l)) Q E s:=by
 have ho':(s.heap.push (seqObj "list" #[] 0)).get? l=some o:=zzc _ ho
 have e0:(s.heap.push (seqObj "list" #[] 0)).get? s.heap.objs.size=some (seqObj "list" #[] 0):=zze _ rfl
 unfold collect
 refine zza (wpAny_runValue (codeAny_builtin entry_proto_collect' ?_))
 show wpAny (model prog w) _ (newList [] >>= λx=>again (.builtin "list.__iadd__" ⟨[x,.ref l],[]⟩)) _ _ s
 refine zza (wpAny_newList (zzb ⟨Code.quiet_builtin _ (by decide +kernel),codeAny_builtin entry_list_iadd' ?_⟩))
 show wpAny (model prog w) _ (Builtin.List.listExtendWith (.ref s.heap.objs.size) (.ref l) (.ref s.heap.objs.size)) _ _ { s with heap:=s.heap.push (seqObj "list" #[] 0) }
 unfold Builtin.List.listExtendWith
 have sz:(((· ++ vs.toArray):Array Value->Array Value) #[]).size<=sizeLine+1:=by
  show(#[]++vs.toArray).size<=_
  rw[Array.size_append,List.size_toArray]
  simp only[List.size_toArray,List.length_nil]
  omega
 have tail:wpAny (model prog w) A (do
   let o <-load s.heap.objs.size
   match o.data with
   | .seq xs _=>pure xs.toList
   | _=>unsupported "internal:collect") Q E { s with heap:=(s.heap.push (seqObj "list" #[] 0)).update s.heap.objs.size (Obj.mapSeq (· ++ vs.toArray)) }:=by
  refine zza (wpAny_load (get?_update_seq e0 _) ?_)
  show wpAny (model prog w) A (pure ((#[]:Array Value)++vs.toArray).toList) Q E _
  rw[show((#[]:Array Value)++vs.toArray).toList=vs by simp]
  exact zzb h
 rcases hc with hc|hc
 ·refine zza (wpAny_typeOf (T := "list") ⟨o,ho',hc⟩ ?_)
  rw[if_pos (by rw[show(Value.type "list" == Value.type "list")=true from rfl];simp)]
  refine zza (listItems_at ho' hd (zza (listItems_at (xs:=#[]) (n:=0) e0 rfl ?_)))
  rw[if_neg (by simp)]
  exact zza (listUpdate_at (xs:=#[]) (n:=0) e0 rfl (zzb tail) (Nat.zero_le _) sz)
 ·refine zza (wpAny_typeOf (T := "tuple") ⟨o,ho',hc⟩ ?_)
  rw[if_pos (by rw[show(Value.type "tuple" == Value.type "tuple")=true from rfl];simp)]
  refine zza (listItems_at ho' hd (zza (listItems_at (xs:=#[]) (n:=0) e0 rfl ?_)))
  rw[if_neg (by simp)]
  exact zza (listUpdate_at (xs:=#[]) (n:=0) e0 rfl (zzb tail) (Nat.zero_le _) sz)
def dJ(s:Shared)(vs:List Value):Shared:={ s with heap:=s.heap.push (seqObj "list" vs.toArray 0) }
theorem il{x:Value}{Q:zzj}(col:∀(E':zzj) (Q':List Value->Shared->Prop),(∀vs s2,(vs.length<64/\∃(κ:SortKind) (rk:Value->Int),
   (2<=vs.length->∀(E':zzj) (Q:SortKind->Shared->Prop),Q κ (mid (dJ s2 vs) s2.heap.objs.size vs)->wpAny (model prog w) A.in1.in1 (keyKind' vs.toArray) Q E' (mid (dJ s2 vs) s2.heap.objs.size vs)) /\
   (2<=vs.length->kD prog w A.in1.in1 (mid (dJ s2 vs) s2.heap.objs.size vs) κ rk (pairsOf vs)) /\
   ∀out:Array Value,out.toList.Perm vs->out.toList.Pairwise (λx y=>rk x<=rk y)->Q (.ref s2.heap.objs.size) { s2 with heap:=sortedHeap (dJ s2 vs).heap s2.heap.objs.size vs out })->Q' vs s2)->wpAny (model prog w) A.in1 (collect x) Q' E' s) :
  wpAny (model prog w) A (call (.builtin "sorted") [x]) Q E s:=by
 refine Calls.call_function_entry kind_sorted plain_sorted entry_sorted (args_sorted1 _) ?_
 unfold Builtin.«sorted»
 refine zza (m:=checkCount "sorted" 1 1 _) (zzb (zza (col _ _ λvs s2 ⟨hz,κ,rk,hk,hC,h⟩=>zza (wpAny_newList ?_))))
 have hg:(dJ s2 vs).heap.get? s2.heap.objs.size=some (seqObj "list" vs.toArray 0):=zze _ rfl
 show wpAny _ _ _ _ _ (dJ s2 vs)
 exact zza (wpAny_holding (wpAny_call_entry slot_list_sort ⟨_,hg,rfl⟩ entry_list_sort (zp hg hz (λc=>hk c _) hC λout a1 a2=>⟨_,rfl,zzb ⟨_,rfl,h out a1 a2⟩⟩) (args_list_sort _)))
theorem oG{h:Heap}{a:Addr}{vs:List Value}{out:Array Value}{b:Addr}{o:Obj}(hab:b≠a)(e:h.get? b=some o):(sortedHeap h a vs out).get? b=some o:=by
 have hlt:b<h.objs.size:=Heap.lt_size e
 unfold sortedHeap
 rw[Heap.get?_update_ne _ _ _ _ hab,Heap.get?_push_ne _ _ _ (by rw[size_push',Heap.size_update];exact Nat.ne_of_lt (Nat.lt_succ_of_lt hlt)),Heap.get?_push_ne _ _ _ (by rw[Heap.size_update];exact Nat.ne_of_lt hlt),Heap.get?_update_ne _ _ _ _ hab]
 exact e
theorem tI{h:Heap}{a:Addr}{vs:List Value}{out:Array Value}{n:Nat}(ho:h.get? a=some (seqObj "list" vs.toArray n)):∃e,(sortedHeap h a vs out).get? a=some (seqObj "list" out e):=by
 have hlt:a<h.objs.size:=Heap.lt_size ho
 obtain⟨ep,e1⟩:∃ep,(h.update a (Obj.mapSeq λ_=>#[])).get? a=some (seqObj "list" #[] ep):=⟨_,get?_update_seq ho λ_=>#[]⟩
 unfold sortedHeap
 refine⟨_,get?_update_seq (n:=ep) (xs:=#[]) ?_ λ_=>out⟩
 rw[Heap.get?_push_ne _ _ _ (by rw[size_push',Heap.size_update];exact Nat.ne_of_lt (Nat.lt_succ_of_lt hlt)),Heap.get?_push_ne _ _ _ (by rw[Heap.size_update];exact Nat.ne_of_lt hlt)]
 exact e1
theorem Bj{vs:List Value}{b:Addr}{o:Obj}(e:s.heap.get? b=some o):(mid (dJ s vs) s.heap.objs.size vs).heap.get? b=some o:=by
 have hlt:b<s.heap.objs.size:=Heap.lt_size e
 unfold mid dJ
 dsimp only
 rw[Heap.get?_push_ne _ _ _ (by rw[size_push',Heap.size_update,size_push'];exact Nat.ne_of_lt (Nat.lt_succ_of_lt (Nat.lt_succ_of_lt hlt))),Heap.get?_push_ne _ _ _ (by rw[Heap.size_update,size_push'];exact Nat.ne_of_lt (Nat.lt_succ_of_lt hlt)),Heap.get?_update_ne _ _ _ _ (Nat.ne_of_lt hlt)]
 exact zzc _ e
end
end TS
namespace L4
open PySem PySem.Spec PyProof.Rows L2 L3
section
open HT
theorem t5:∀a:List Int,lexLt a a=false
 | []=>rfl
 | x::a=>by rw[lexLt_cons,if_pos rfl];exact t5 a
theorem vt:∀{a b c:List Int},lexLt a b=true->lexLt b c=true->lexLt a c=true
 | [],[],_,h,_=>by cases h
 | [],_::_,[],_,h=>by cases h
 | [],_::_,_::_,_,_=>rfl
 | _::_,[],_,h,_=>by cases h
 | _::_,_::_,[],_,h=>by cases h
 | x::a,y::b,z::c,h1,h2=>by
  rw[lexLt_cons]at h1 h2 ⊢
  by_cases e1:x=y
  ·by_cases e2:y=z
   ·rw[if_pos e1]at h1;rw[if_pos e2]at h2;rw[if_pos (e1.trans e2)]
    exact vt h1 h2
   ·rw[if_neg e2,zzi]at h2
    rw[if_neg (by omega),zzi];omega
  ·rw[if_neg e1,zzi]at h1
   by_cases e2:y=z
   ·rw[if_neg (by omega),zzi];omega
   ·rw[if_neg e2,zzi]at h2
    rw[if_neg (by omega),zzi];omega
theorem lK:∀{a b:List Int},lexLt a b=false->lexLt b a=false->a=b
 | [],[],_,_=>rfl
 | [],_::_,h,_=>by cases h
 | _::_,[],_,h=>by cases h
 | x::a,y::b,h1,h2=>by
  rw[lexLt_cons]at h1 h2
  by_cases e:x=y
  ·rw[if_pos e]at h1;rw[if_pos e.symm]at h2
   rw[e,lK h1 h2]
  ·rw[if_neg e,decide_eq_false_iff_not]at h1
   rw[if_neg (λz=>e z.symm),decide_eq_false_iff_not]at h2
   omega
theorem Gd{a b:List Int}(h:lexLt a b=true):lexLt b a=false:=by
 cases q:lexLt b a with
 | false=>rfl
 | true=>have:=vt h q;rw[t5]at this;cases this
end
theorem xG{α:Type}{p q:α->Bool}{l:List α}{x:α}(h:∀y∈l,p y=true->q y=true)(hx:x∈l)(h1:p x=false)(h2:q x=true):l.countP p<l.countP q:=by
 induction l with
 | nil=>cases hx
 | cons y l ih =>
  have hm:∀z∈l,p z=true->q z=true:=λz hz=>h z (zzg _ hz)
  have le:l.countP p<=l.countP q:=List.countP_mono_left hm
  rw[List.countP_cons,List.countP_cons]
  rcases List.mem_cons.mp hx with rfl|hx
  ·rw[h1,h2];simp;omega
  ·have:=ih hm hx
   have hy:=h y List.mem_cons_self
   cases e:p y with
   | false=>simp;omega
   | true=>rw[hy e];simp;omega
def rankOf{α:Type}(l:List α)(k:α->List Int)(x:α):Int:=(l.countP λu=>HT.lexLt (k u) (k x):Nat)
theorem oR{α:Type}{l:List α}{k:α->List Int}{x y:α}(hx:x∈l)(hy:y∈l):decide (rankOf l k x<rankOf l k y)=HT.lexLt (k x) (k y):=by
 have up:∀x y,x∈l->HT.lexLt (k x) (k y)=true->rankOf l k x<rankOf l k y:=λx y hx h=>by
  have:=xG (p:=λu=>HT.lexLt (k u) (k x)) (q:=λu=>HT.lexLt (k u) (k y)) (l:=l) (λz _ hz=>vt hz h) hx (t5 _) h
  unfold rankOf;omega
 cases e:HT.lexLt (k x) (k y)with
 | true=>exact decide_eq_true (up x y hx e)
 | false =>
  rw[decide_eq_false_iff_not]
  intro z
  cases e2:HT.lexLt (k y) (k x)with
  | true=>have:=up y x hy e2;omega
  | false =>
   have ek:=lK e e2
   unfold rankOf at z
   rw[ek]at z
   omega
def gH:D->Bool
 | .tuple ds=>match intsOf ds with
  | some (_::_)=>true
  | _=>false
 | _=>false
def uc:D->Bool
 | .int _=>true
 | _=>false
def cF(ds:List D):Bool:=decide (ds.length<64)&&(ds.all uc||ds.all gH)
def keyD:D->List Int
 | .int i=>[i]
 | .tuple ds=>(intsOf ds).getD []
 | _=>[]
def leK(x y:D):Bool:=!HT.lexLt (keyD y) (keyD x)
def cH(ds:List D):List D:=ds.mergeSort leK
theorem bN(ds:List D):(cH ds).Perm ds:=List.mergeSort_perm ds leK
theorem D2(x y z:D)(h1:leK x y=true)(h2:leK y z=true):leK x z=true:=by
 unfold leK at *
 rw[Bool.not_eq_true']at *
 cases e:HT.lexLt (keyD z) (keyD x)with
 | false=>rfl
 | true =>
  exfalso
  cases e2:HT.lexLt (keyD x) (keyD y)with
  | true=>have:=vt e e2;rw[h2]at this;cases this
  | false=>rw[lK e2 h1,h2]at e;cases e
theorem Bq(x y:D):(leK x y||leK y x)=true:=by
 unfold leK
 cases e:HT.lexLt (keyD y) (keyD x)with
 | false=>rfl
 | true=>rw[Gd e];rfl
theorem cG(ds:List D):(cH ds).Pairwise λx y=>leK x y=true:=List.pairwise_mergeSort D2 Bq ds
theorem fc{R:D->D->Prop}:∀{a b:List D},(∀x∈b,∀y∈b,R x y->R y x->x=y)->a.Perm b->a.Pairwise R->b.Pairwise R->a=b
 | [],b,_,hp,_,_=>by simpa using hp.symm.eq_nil
 | x::r,b,hR,hp,ha,hb=>by
  cases b with
  | nil=>exact absurd hp.length_eq (by simp)
  | cons y t =>
   rw[List.pairwise_cons]at ha hb
   have hx:x∈y::t:=hp.mem_iff.mp List.mem_cons_self
   have hy:y∈x::r:=hp.mem_iff.mpr List.mem_cons_self
   have e:x=y:=by
    rcases List.mem_cons.mp hx with e|hx'
    ·exact e
    ·rcases List.mem_cons.mp hy with e|hy'
     ·exact e.symm
     ·exact hR x hx y List.mem_cons_self (ha.1 y hy') (hb.1 x hx')
   subst e
   rw[fc (λx hx y hy=>hR x (zzg _ hx) y (zzg _ hy)) (List.Perm.cons_inv hp) ha.2 hb.2]
theorem df{d:D}(h:gH d=true):∃n r,d=.tuple ((n::r).map PyData.int):=by
 unfold gH at h
 split at h
 ·rename_i ds
  split at h
  ·rename_i n r e;exact⟨n,r,by rw[dS e]⟩
  ·cases h
 ·cases h
theorem g6{d:D}(h:uc d=true):∃n,d=.int n:=by
 cases d<;>first|exact⟨_,rfl⟩|cases h
theorem Bt{ds:List D}(h:cF ds=true):∀x∈ds,∀y∈ds,keyD x=keyD y->x=y:=λx hx y hy e=>by
 unfold cF at h
 rw[Bool.and_eq_true]at h
 replace h:=h.2
 rw[Bool.or_eq_true,List.all_eq_true,List.all_eq_true]at h
 rcases h with h|h
 ·obtain⟨n,rfl⟩:=g6 (h x hx)
  obtain⟨m,rfl⟩:=g6 (h y hy)
  have e':[n]=[m]:=e
  injection e' with e'
  rw[e']
 ·obtain⟨n,r,rfl⟩:=df (h x hx)
  obtain⟨m,t,rfl⟩:=df (h y hy)
  have kt:∀l:List Int,keyD (.tuple (l.map PyData.int))=l:=λl=>by
   show(intsOf (l.map PyData.int)).getD []=l
   rw[iE];rfl
  rw[kt,kt]at e
  rw[e]
theorem yc{ds r:List D}(h:cF ds=true)(hp:r.Perm ds)(hs:r.Pairwise λx y=>leK x y=true):r=cH ds :=
 fc (λx hx y hy h1 h2=>Bt h x ((bN ds).mem_iff.mp hx) y ((bN ds).mem_iff.mp hy) (by
  unfold leK at h1 h2
  rw[Bool.not_eq_true']at h1 h2
  exact lK h2 h1)) (hp.trans (bN ds).symm) hs (cG ds)
theorem yQ{α β:Type}{f:α->β}:∀{out:List β} {l:List α},out.Perm (l.map f)->∃l':List α,l'.Perm l/\l'.map f=out:=by
 intro out l h
 generalize e:l.map f=m at h
 induction h generalizing l with
 | nil =>
  cases l with
  | nil=>exact⟨[],.refl _,rfl⟩
  | cons y l=>cases e
 | @cons x a b hp ih =>
  cases l with
  | nil=>cases e
  | cons y l =>
   rw[List.map_cons]at e
   injection e with e1 e2
   obtain⟨l',h1,h2⟩:=ih e2
   exact⟨y::l',h1.cons y,by rw[List.map_cons,h2,e1]⟩
 | @swap x y a =>
  match l,e with
  | u::v::l,e =>
   rw[List.map_cons,List.map_cons]at e
   injection e with e1 e2
   injection e2 with e2 e3
   exact⟨v::u::l,.swap _ _ _,by rw[List.map_cons,List.map_cons,e1,e2,e3]⟩
 | @trans a b c h1 h2 ih1 ih2 =>
  obtain⟨l1,p1,q1⟩:=ih2 e
  obtain⟨l2,p2,q2⟩:=ih1 q1
  exact⟨l2,p2.trans p1,q2⟩
end L4
namespace L4
open PySem PySem.Spec PyProof.Rows L2 L3 TS
theorem kb{prog:Program}{w:World}{A:Around}{s:Shared}{b fin:Bool}{Q:Bool->Shared->Prop}:∀{vs us:List Value} {ns ms:List Int} (i:Nat),IntsAre vs ns->IntsAre us ms->fin=decide (vs.length<us.length)->Q (HT.lexLt ns ms) s ->
  PySem.W.KatLex prog w A b fin Q (vs.zip us) i s
 | _,_,_,_,i,.nil,.nil,e,q=>by
  subst e
  exact q
 | _,_,_,_,i,.nil,.cons _ _ _,e,q=>by
  subst e
  exact q
 | _,_,_,_,i,.cons _ _ _,.nil,e,q=>by
  subst e
  exact q
 | _,_,_,_,i,.cons x t h1,.cons y u h2,e,q=>by
  rw[List.zip_cons_cons]
  refine PySem.W.kat_cons (wpAny_eqBool_int ?_)
  rw[HT.lexLt_cons]at q
  by_cases c:x=y
  ·rw[if_pos c]at q
   rw[show(x==y)=true by simpa using c]
   exact PySem.W.kat_yes (kb (i+1) h1 h2 (by rw[e];simp) q)
  ·rw[if_neg c]at q
   rw[show(x==y)=false by simpa using c]
   refine PySem.W.kat_no ?_
   cases hb:(b&&i==0)with
   | true=>exact oneLt_int q
   | false=>exact PySem.W.kat_one _ _ (lt_int q)
theorem triples{K:Fg}{F:Hp}:∀{vs:List V} {ds:List D} {its:List Value},RepL K F vs ds->Vals vs its->∃L:List (V×D×Value),L.map (·.1)=vs/\L.map (·.2.1)=ds/\L.map (·.2.2)=its/\∀t∈L,Rep K F t.1 t.2.1/\RelV t.1 t.2.2
 | _,_,_,.nil,r=>by cases r;exact⟨[],rfl,rfl,rfl,λ_ h=>by cases h⟩
 | _,_,_,.cons h t,r=>by
  cases r with
  | cons r rr =>
   obtain⟨L,e1,e2,e3,e4⟩:=triples t rr
   refine⟨(_,_,_)::L,by rw[List.map_cons,e1],by rw[List.map_cons,e2],by rw[List.map_cons,e3],λx hx=>?_⟩
   rcases List.mem_cons.mp hx with rfl|hx
   ·exact⟨h,r⟩
   ·exact e4 x hx
theorem qB{K:Fg}{F:Hp}:∀{L:List (V×D×Value)},(∀t∈L,Rep K F t.1 t.2.1/\RelV t.1 t.2.2)->RepL K F (L.map (·.1)) (L.map (·.2.1))/\Vals (L.map (·.1)) (L.map (·.2.2))
 | [],_=>⟨.nil,.nil⟩
 | x::L,h=>by
  obtain⟨h1,h2⟩:=h x List.mem_cons_self
  obtain⟨h3,h4⟩:=qB (L:=L) λt ht=>h t (zzg _ ht)
  exact⟨.cons h1 h3,.cons h2 h4⟩
def yE(K:Fg):List V->Hp->VK->Prop:=λxs H Q=>∃(G:Gh) (F:Hp) (Z:L2.St) (ρ:En) (x:V) (d:D) (ds:List D),xs=[x]/\StOk K G F Z H ρ/\OR K F H x d/\wy d=some ds/\cF ds=true /\
 ∀l vs,H l=none->RepL K F vs (cH ds)->Q (.ref l) (upd H l (.lst vs))
def vK:List D->Option (List D)
 | [d]=>match wy d with
  | some ds=>if cF ds then some (cH ds)else none
  | none=>none
 | _=>none
theorem zr{ds:List D}(h:cF ds=true):PyData.canLayAll0 ds=true:=by
 have all:∀l:List D,(∀d∈l,d.canLay0=true)->PyData.canLayAll0 l=true:=by
  intro l
  induction l with
  | nil=>intro _;simp[PyData.canLayAll0]
  | cons a l ih =>
   intro h
   simp only[PyData.canLayAll0,Bool.and_eq_true]
   exact⟨h a List.mem_cons_self,ih λd hd=>h d (zzg _ hd)⟩
 refine all ds λd hd=>?_
 unfold cF at h
 rw[Bool.and_eq_true]at h
 replace h:=h.2
 rw[Bool.or_eq_true,List.all_eq_true,List.all_eq_true]at h
 rcases h with h|h
 ·obtain⟨n,rfl⟩:=g6 (h d hd)
  simp[PyData.canLay0]
 ·obtain⟨n,r,rfl⟩:=df (h d hd)
  simp only[PyData.canLay0]
  refine all _ λd hd=>?_
  obtain⟨m,_,rfl⟩:=List.mem_map.mp hd
  simp[PyData.canLay0]
theorem jV{h:Heap}:∀{vs:List Value} {ns:List Int} {as:List Addr},ReadsAll h vs (ns.map PyData.int) as->IntsAre vs ns
 | _,[],_,r=>by rw[List.map_nil]at r;cases r;exact .nil
 | _,n::ns,_,r=>by
  rw[List.map_cons]at r
  cases r with
  | cons a b =>
   cases a with
   | int i t=>exact .cons n t (jV b)
theorem all_ints:∀{ds:List D},ds.all uc=true->∃ns:List Int,ds=ns.map PyData.int
 | [],_=>⟨[],rfl⟩
 | d::ds,h=>by
  rw[List.all_cons,Bool.and_eq_true]at h
  obtain⟨n,rfl⟩:=g6 h.1
  obtain⟨ns,rfl⟩:=all_ints h.2
  exact⟨n::ns,rfl⟩
theorem jA{X:Cx}{pins:zzk}{Z σ':L2.St}{H F:Hp}{s:Shared}{G:Gh}{ρ:En}{vs:List V}{ds:List D}{its:List Value}{Q:VK}(I:Inv X pins Z H s)(S:StOk X.K G F σ' H ρ)(rl:RepL X.K F vs ds)(rv:Vals vs its)(hz:vs.length<=sizeLine)(hok:cF ds=true)
  (k:∀l vs,H l=none->RepL X.K F vs (cH ds)->Q (.ref l) (upd H l (.lst vs))):its.length<64/\∃(κ:SortKind) (rk:Value->Int),
   (2<=its.length->∀(E':zzj) (Q:SortKind->Shared->Prop),Q κ (mid (dJ s its) s.heap.objs.size its)->wpAny (model X.prog X.w) X.A.in1.in1 (keyKind' its.toArray) Q E' (mid (dJ s its) s.heap.objs.size its)) /\
   (2<=its.length->kD X.prog X.w X.A.in1.in1 (mid (dJ s its) s.heap.objs.size its) κ rk (pairsOf its)) /\
   ∀out:Array Value,out.toList.Perm its->out.toList.Pairwise (λx y=>rk x<=rk y)->EP X pins Z Q (.ref s.heap.objs.size) { s with heap:=sortedHeap (dJ s its).heap s.heap.objs.size its out }:=by
 have lay:=zr hok
 have I1:Inv X pins Z H (mid (dJ s its) s.heap.objs.size its):=I.kept (t':=s.toks) λb o e=>Bj e
 obtain⟨as,ra⟩:=(bp I1).2 (rl.mono S.fh) lay rv
 generalize hs1:mid (dJ s its) s.heap.objs.size its=s1 at I1 ra
 have emap:its.map (SeqAt.readOf s1.heap)=ds:=SeqAt.readsAll_map ds _ _ lay ra
 let kf:Value->List Int:=λv=>keyD (SeqAt.readOf s1.heap v)
 have hmem:∀x,x∈(pairsOf its).toList->x.1∈its:=λx hx=>by
  rw[pairsOf_toList]at hx
  exact(mem_zip_self hx).2
 have hzl:its.length<=sizeLine:=by rw[<-rv.length];exact hz
 have fin:∀out:Array Value,out.toList.Perm its->out.toList.Pairwise (λx y=>rankOf its kf x<=rankOf its kf y)->EP X pins Z Q (.ref s.heap.objs.size) { s with heap:=sortedHeap (dJ s its).heap s.heap.objs.size its out }:=λout o1 o2=>by
  obtain⟨L,e1,e2,e3,e4⟩:=triples rl rv
  rw[<-e3]at o1
  obtain⟨L',p1,p2⟩:=yQ o1
  have e4':∀t∈L',Rep X.K F t.1 t.2.1/\RelV t.1 t.2.2:=λt ht=>e4 t (p1.mem_iff.mp ht)
  have rd:∀t∈L',SeqAt.readOf s1.heap t.2.2=t.2.1:=λt ht=>by
   obtain⟨a1,a2⟩:=e4' t ht
   have:t.2.1∈ds:=by rw[<-e2];exact List.mem_map.mpr ⟨t,p1.mem_iff.mp ht,rfl⟩
   have al:∀l:List D,PyData.canLayAll0 l=true->∀d∈l,d.canLay0=true:=by
    intro l
    induction l with
    | nil=>intro _ d hd;cases hd
    | cons a l ih =>
     intro h d hd
     simp only[PyData.canLayAll0,Bool.and_eq_true]at h
     rcases List.mem_cons.mp hd with rfl|hd
     ·exact h.1
     ·exact ih h.2 d hd
   have hcl:=al ds lay _ this
   obtain⟨bs,rb⟩:=(bp I1).1 (a1.mono S.fh) hcl a2
   exact SeqAt.readOf_eq hcl rb
  obtain⟨u1,u2⟩:=qB e4'
  have es:L'.map (·.2.1)=cH ds:=by
   refine yc hok (by rw[<-e2];exact p1.map _) ?_
   rw[<-p2,List.pairwise_map]at o2
   rw[List.pairwise_map]
   refine List.Pairwise.imp_of_mem (λ{x y} hx hy h=>?_) o2
   have mx:x.2.2∈its:=by rw[<-e3];exact List.mem_map.mpr ⟨x,p1.mem_iff.mp hx,rfl⟩
   have my:y.2.2∈its:=by rw[<-e3];exact List.mem_map.mpr ⟨y,p1.mem_iff.mp hy,rfl⟩
   have q:=oR (k:=kf) my mx
   rw[decide_eq_false (by omega)]at q
   show(!HT.lexLt (keyD y.2.1) (keyD x.2.1))=true
   rw[<-rd x hx,<-rd y hy]
   show(!HT.lexLt (kf y.2.2) (kf x.2.2))=true
   rw[<-q];rfl
  rw[es]at u1
  rw[p2]at u2
  obtain⟨ep,he⟩:=tI (out:=out) (show(dJ s its).heap.get? s.heap.objs.size=some (seqObj "list" its.toArray 0)from zze _ rfl)
  refine⟨.ref s.heap.objs.size,upd H s.heap.objs.size (.lst (L'.map (·.1))),I.laid (t':=s.toks) (λb o q=>oG (Nat.ne_of_lt (Heap.lt_size q)) (zzc _ q)) (Nat.le_refl _) ⟨?_,out.toList,ep,u2,?_⟩,rfl,k _ _ (I.hok.fresh (Nat.le_refl _)) u1⟩
  ·rw[u2.length,<-p2,zzd,p1.length_eq,<-zzd (f:=λt:V×D×Value=>t.2.2),e3];exact hzl
  ·exact he
 have h64:its.length<64:=by
  have h:=hok
  unfold cF at h
  rw[Bool.and_eq_true,zzi]at h
  rw[<-rv.length,rl.length];exact h.1
 have hok':=hok
 unfold cF at hok'
 rw[Bool.and_eq_true]at hok'
 replace hok':=hok'.2
 rw[Bool.or_eq_true]at hok'
 rcases hok' with hI|hT
 ·obtain⟨ns,rfl⟩:=all_ints hI
  have ia:IntsAre its ns:=jV ra
  have kfi:∀{m:Int} {t:Tok},kf (.int m t)=[m]:=λ{m t}=>by
   show keyD (SeqAt.readOf s1.heap (.int m t))=[m]
   rw[SeqAt.readOf_eq (d:=.int m) (by simp[PyData.canLay0]) (.int m t)]
   rfl
  refine⟨h64,oneType',rankOf its kf,λh2 E' Q' q=>?_,λh2 x y hx hy E' Q' q=>?_,fin⟩
  ·match its,ia,h2,q with
   | v1::v2::rest,ia,_,q =>
    rw[keyKind_ints ia]
    exact zzb q
  ·have hx':=hmem x hx
   have hy':=hmem y hy
   rw[oR hx' hy']at q
   obtain⟨m1,t1,e1⟩:=ia.all _ hx'
   obtain⟨m2,t2,e2⟩:=ia.all _ hy'
   rw[e1,e2]at q ⊢
   rw[kfi,kfi]at q
   rw[keyLt'_oneType]
   refine oneLt_int ?_
   have:HT.lexLt [m1] [m2]=decide (m1<m2):=by
    rw[HT.lexLt_cons]
    split
    ·rename_i e;rw[e];simp[HT.lexLt_nil_nil]
    ·rfl
   rw[this]at q
   exact q
 ·rw[List.all_eq_true]at hT
  have each:∀v∈its,∃(a:Addr) (o:Obj) (xs:List Value) (n:Nat) (m:Int) (ms:List Int),v=.ref a/\s1.heap.get? a=some o/\o.cls=.type "tuple" /\ o.data=.seq xs.toArray n/\IntsAre xs (m::ms)/\kf v=m::ms:=λv hv=>by
   obtain⟨dv,bs,rd,hl,_⟩:=SeqAt.readsAll_mem ds its _ lay ra v hv
   have er:=SeqAt.readOf_eq hl rd
   have hin:dv∈ds:=by rw[<-emap,<-er];exact List.mem_map.mpr ⟨v,hv,rfl⟩
   obtain⟨m,ms,rfl⟩:=df (hT dv hin)
   cases rd with
   | tuple g1 g2 g3 g4 =>
    rename_i a o vs' n
    refine⟨a,o,vs'.toList,n,m,ms,rfl,g1,g2,by rw[g3],jV g4,?_⟩
    show keyD (SeqAt.readOf s1.heap (.ref a))=_
    rw[er]
    show(intsOf ((m::ms).map PyData.int)).getD []=_
    rw[iE];rfl
  refine⟨h64,tuples' true,rankOf its kf,λh2 E' Q' q=>?_,λh2 x y hx hy E' Q' q=>?_,fin⟩
  ·have fs:∀l:List Value,(∀v∈l,v∈its)->∃fs:List Value,PySem.W.KatTups s1.heap l fs/\fs.length=l.length/\∀v∈fs,∃i t,v=.int i t:=by
    intro l
    induction l with
    | nil=>intro _;exact⟨[],trivial,rfl,λ_ h=>by cases h⟩
    | cons v l ih =>
     intro hl
     obtain⟨fs,f1,f2,f3⟩:=ih λv hv=>hl v (zzg _ hv)
     obtain⟨a,o,xs,n,m,ms,rfl,g1,g2,g3,g4,_⟩:=each v (hl v List.mem_cons_self)
     cases g4 with
     | cons _ t g5 =>
      refine⟨.int m t::fs,PySem.W.KatTups.cons g1 g2 g3 (by simp) f1,by simp[f2],λv hv=>?_⟩
      rcases List.mem_cons.mp hv with rfl|hv
      ·exact⟨_,_,rfl⟩
      ·exact f3 v hv
   obtain⟨fs,f1,f2,f3⟩:=fs its λ_ h=>h
   refine PySem.W.kat_kind f1 (by omega) (T:=.type "int") (λv hv=>?_) rfl q
   obtain⟨i,t,rfl⟩:=f3 v hv
   exact PySem.W.Looks.now
  ·have hx':=hmem x hx
   have hy':=hmem y hy
   rw[oR hx' hy']at q
   obtain⟨a1,o1,xs1,n1,m1,ms1,e1,g1,g2,g3,g4,g5⟩:=each _ hx'
   obtain⟨a2,o2,xs2,n2,m2,ms2,e2,k1,k2,k3,k4,k5⟩:=each _ hy'
   rw[g5,k5]at q
   rw[e1,e2]
   refine PySem.W.kat_lt g1 g3 k1 k3 ?_
   have:=kb (prog:=X.prog) (w:=X.w) (A:=X.A.in1.in1) (b:=true) (Q:=Q') 0 g4 k4 rfl q
   simpa using this
theorem xK{X:Cx}:CallR X (.builtin "sorted") (yE X.K):=by
 intro pins s Z H xs us Q I r h0
 obtain⟨G,F,σ',ρ,x,d,ds,rfl,S,ho,hd,hok,k⟩:=h0
 obtain⟨u,rfl,ru⟩:=L2.Vals.one r
 have hseq:∃(p:Addr) (o:Obj) (n:Nat) (vs:List V) (its:List Value),u=.ref p/\s.heap.get? p=some o/\(o.cls=.type "list" \/ o.cls=.type "tuple")/\o.data=.seq its.toArray n/\Vals vs its/\vs.length<=sizeLine/\RepL X.K F vs ds:=by
  cases d with
  | list es =>
   cases hd
   obtain⟨a,vs,rfl,h1,h2⟩:=ho.list S.fh
   cases ru
   obtain⟨its,rv,pl,hz⟩:=I.list h1
   obtain⟨o,e1,e2,n,e3⟩:=pl.isList
   exact⟨a,o,n,vs,its,rfl,e1,.inl e2,e3,rv,hz,h2⟩
  | tuple es =>
   cases hd
   obtain⟨a,vs,rfl,h1,h2⟩:=ho.tuple S.fh
   cases ru
   obtain⟨its,rv,⟨o,e1,e2,n,e3⟩,hz⟩:=I.tuple h1
   exact⟨a,o,n,vs,its,rfl,e1,.inr e2,e3,rv,hz,h2⟩
  | _=>cases hd
 obtain⟨p,o,n,vs,its,rfl,hp,hcl,hdat,rv,hz,rl⟩:=hseq
 have I2:Inv X pins Z H { s with heap:=(s.heap.push (seqObj "list" #[] 0)).update s.heap.objs.size (Obj.mapSeq (· ++ its.toArray)) }:=I.kept (t':=s.toks) λb o e=>by
  have hlt:b<s.heap.objs.size:=Heap.lt_size e
  rw[Heap.get?_update_ne _ _ _ _ (Nat.ne_of_lt hlt)]
  exact zzc _ e
 exact il λE' Q' q=>BK hp hcl hdat (by rw[<-rv.length];exact hz) (q _ _ (jA I2 S rl rv hz hok k))
theorem Be{K:Fg}:Aq K (yE K) vK:=by
 intro G F Z H ρ xs ds res Q S o e k
 unfold vK at e
 split at e
 ·rename_i d
  split at e
  ·rename_i es hes
   split at e
   ·rename_i hok
    cases e
    obtain⟨v,r,rfl,ho,hr⟩:=aV o
    obtain rfl:=bG hr
    refine⟨G,F,Z,ρ,v,d,es,rfl,S,ho,hes,hok,λl vs hl rp=>?_⟩
    obtain⟨S2,r2⟩:=S.newLst hl rp
    exact k _ F _ (Same.refl _) S2 r2
   ·cases e
  ·cases e
 ·cases e
end L4
namespace TS
open PySem PyProof.Rows
def DR(h:Heap)(d:Addr)(es:Array DictEntry)(ep:Nat):Prop:=∃o,h.get? d=some o/\o.ExactDict/\o.data=.dict es ep
theorem DR.ty{s:Shared}{d:Addr}{es:Array DictEntry}{ep:Nat}(x:DR s.heap d es ep):s.TypeIs (.ref d) "dict":=let ⟨o,e,c,_⟩:=x;⟨o,e,c.1⟩
theorem DR.kp{h h':Heap}{d:Addr}{es:Array DictEntry}{ep:Nat}(x:DR h d es ep)(k:∀o,h.get? d=some o->h'.get? d=some o):DR h' d es ep:=let ⟨o,e,r⟩:=x;⟨o,k o e,r⟩
section
variable {prog:Program}{w:World}{A:Around}{E:zzj}{s:Shared}{d it:Addr}{es:Array DictEntry}{ep i:Nat}
theorem By{Q:zzj}(lo:(d==sysModules)=false)(x:DR s.heap d es ep)(q:Q (.ref s.heap.objs.size) { s with heap:=s.heap.push { cls:=.type "dict_keyiterator",data:=.fields #[.ref d,.int 0 0,.int es.size 0,.int ep 0] } }) :
  wpAny (model prog w) A (pyIter (.ref d)) Q E s:=by
 obtain⟨o,e1,e2,e3⟩:=id x
 refine wpAny_pyIter_slot x.ty F.slot_dict_iter (wpAny_call_entry F.slot_dict_iter x.ty F.entry_dict_iter ?_ (F.args_dict_iter_1 _))
 unfold Builtin.«dict.__iter__»
 refine zza ?_
 unfold Builtin.Dict.dictSlotNone
 refine zza (wpAny_notOrdered_dict x.ty (show wpAny (model prog w) _ (pure (Value.ref d)) _ _ s from zzb ?_))
 refine(show wpAny (model prog w) _ (Builtin.Dict.showsAll d >>= _) _ _ s from ?_)
 unfold Builtin.Dict.showsAll
 rw[if_neg (by rw[lo];decide)]
 refine zza (zzb (zza (wpAny_dictEntries e1 e3 (zza (wpAny_dictEpoch e1 e3 (zza (wpAny_newObj_type (zzb ⟨_,rfl, "dict_keyiterator",_,⟨_,zze _ rfl,rfl⟩,F.slot_dict_keyiterator_next.lookup,?_⟩))))))))
 simpa[rawInt]using q
theorem vk{n:Nat}{Q:Option Value->Shared->Prop}(hit:s.heap.IsKeyIter it d i es.size ep)(x:DR s.heap d es ep)
  (q1:∀(hi:i<es.size) (h':Heap),h'.IsKeyIter it d (i+1) es.size ep->Heap.SameBut it s.heap h'->Q (some es[i].key) { s with heap:=h' })
  (q2:es.size<=i->A.handled=none/\∀h',Heap.ExtBut it s.heap h'->Q none { s with heap:=h' }):wpAny (model prog w) A (pyNext (.ref it)) Q E s:=by
 obtain⟨o,ho,hc,hd⟩:=id hit
 obtain⟨od,f1,f2,f3⟩:=id x
 have T:=hit.typeIs
 have no:Builtin.Dict_items.ownsTuple "dict_keyiterator" = false:=by decide
 have pos:¬ ((i:Int)<0):=by omega
 unfold pyNext
 refine zza (wpAny_attempt (wpAny_callSpecial?_slot (name:=Str.ofString "__next__") T F.slot_dict_keyiterator_next (wpAny_call_entry F.slot_dict_keyiterator_next T F.entry_dict_keyiterator_next ?_ (F.args_dict_keyiterator_next_1 _))))
 refine zza (zzb (zza (zza (zza (wpAny_typeNameOfWhole_keyiter T (zzb (zza (wpAny_fieldsOf ho hd ?_))))))))
 simp only[no,Bool.false_eq_true,if_false]
 refine(show wpAny (model prog w) _ (if(Value.ref d==Value.none)=true then _ else _) _ _ s from ?_)
 rw[if_neg (show ¬ ((Value.ref d==Value.none)=true)from λz=>Bool.noConfusion z)]
 refine zza (zzb (zza (wpAny_dictEntries f1 f3 ?_)))
 rw[if_neg (by simp)]
 refine zza (zzb (zza (wpAny_dictEpoch f1 f3 ?_)))
 rw[if_neg (by simp)]
 refine zzb ?_
 by_cases hi:i<es.size
 ·simp only[pos,if_false,Int.toNat_natCast,Array.getElem?_eq_getElem hi]
  refine zza (zza (wpAny_typeNameOfWhole_keyiter T (zzb (zza (wpAny_isOneOf_keyiter T ?_)))))
  refine(show wpAny (model prog w) _ (setField (.ref it) 1 (rawInt ((i:Int)+1)) >>= _) _ _ s from zza (wpAny_setField ho hd (by simp) ?_))
  have hit':(s.heap.update it (Obj.mapFields (·.setIfInBounds 1 (rawInt ((i:Int)+1))))).IsKeyIter it d (i+1) es.size ep :=
   ⟨_,Heap.get?_update_self _ ho (Obj.isFreed_of_fields (Obj.data_mapFields hd _)),(Obj.cls_mapFields ..).trans hc,by rw[Obj.data_mapFields hd];simp[rawInt]⟩
  refine zza (wpAny_holding (zza (wpAny_isOneOf_keyiter (s:={ s with heap:=s.heap.update it (Obj.mapFields (·.setIfInBounds 1 (rawInt ((i:Int)+1)))) }) hit'.typeIs ?_)))
  refine(show wpAny (model prog w) _ (pure es[i].key) _ _ _ from zzb (zzb ⟨_,rfl,zzb (q1 hi _ hit' (Heap.SameBut.update ..))⟩))
 ·obtain⟨hh,q⟩:=q2 (by omega)
  simp only[pos,if_false,Int.toNat_natCast,Array.getElem?_eq_none (show es.size<=i by omega)]
  refine zza (zza (wpAny_typeNameOfWhole_keyiter T (zzb ?_)))
  refine(show wpAny (model prog w) _ (setField (.ref it) 0 .none >>= _) _ _ s from zza (wpAny_setField ho hd (by simp) ?_))
  refine(show wpAny (model prog w) _ (newExc (.type "StopIteration") [] >>= _) _ _ _ from zza ?_)
  simp only[newExc,newTuple]
  refine zza (wpAny_newObj_type ?_ (by size_fits))
  refine zza (m:=firstArgMember _ _) (wpAny_of_eq (a:=Value.none) (by first|rfl|(simp only[firstArgMember];rfl)) ?_)
  refine wpAny_newObj_type ?_ (by size_fits)
  simp only[raiseNew]
  refine zza (wpAny_handled ?_)
  rw[show A.in1.handled=none from hh]
  refine zza (zzb (wpAny_throw ?_))
  refine zza (wpAny_isInstance (T := "StopIteration") (b:=true) (by exact⟨_,zze _ rfl,rfl⟩) isSubtype_stop ?_)
  exact zzb (q _ (((Heap.SameBut.update ..).extBut.push _).push _))
theorem xZ(lo:(d==sysModules)=false):PySem.W.KdlSrc prog w "dict" d d es.size (λi v=>∃e,es[i]? = some e/\v=e.key) (λh=>DR h d es ep) where
 type:=λ_ x=>x.ty
 there:=λh x=>let ⟨_,e,_⟩:=x;⟨Heap.lt_size e,Heap.lt_size e⟩
 keep:=λ_ _ x k=>x.kp λo e=>k d (.inl rfl) o e
 notList:=by decide
 notTuple:=by decide
 hint:=λ_ _ _ _ x q=>PySem.W.kdl_hint_dict x.ty q
 iter:=λA s hh x=>by
  have hne:d≠s.heap.objs.size:=by obtain⟨_,e,_⟩:=x;exact Nat.ne_of_lt (Heap.lt_size e)
  refine⟨_,λi h=>h.IsKeyIter s.heap.objs.size d i es.size ep/\DR h d es ep,λE Q q=>By lo x q,⟨?_,?_,?_,?_,?_⟩,⟨_,zze _ rfl,rfl,rfl⟩,x.kp λo e=>zzc _ e⟩
  ·intro b hb
   rw[List.mem_singleton.mp hb]
   exact List.mem_cons_self
  ·intro i h h' st k
   exact⟨st.1.at λo e=>k _ List.mem_cons_self o e,st.2.kp λo e=>k d (by simp) o e⟩
  ·intro i s1 Q E hi st q
   refine vk (n:=0) st.1 st.2 (λhi h' a1 a2=>q _ h' s1.toks ⟨_,Array.getElem?_eq_getElem hi,rfl⟩ ⟨a1,st.2.kp λo e=>a2.extBut d o hne e⟩ λb o hb e=>a2.extBut b o (λz=>hb (by simp[z])) e) λz=>absurd hi (by omega)
  ·intro s1 Q E st q
   exact vk (n:=0) st.1 st.2 (λhi=>absurd hi (Nat.lt_irrefl _)) λ_=>⟨hh,λh' a=>q h' s1.toks λb o hb e=>a b o (λz=>hb (by simp[z])) e⟩
  ·intro i s1 Q E st q
   exact wpAny_pyIter_keyiter st.1 q
end
end TS
namespace L4
open PySem PySem.Spec PyProof.Rows L2 L3 TS
theorem _root_.L3.StOk.seeT{K:Fg}{G:Gh}{F H:Hp}{Z:L2.St}{ρ:En}(S:StOk K G F Z H ρ){b:Addr}{vs:List V}{ds:List D}(hb:H b=some (.tup vs))(r:RepL K F vs ds):∃F',Same F F'/\StOk K G F' Z H ρ/\Rep K F' (.ref b) (.tuple ds):=by
 cases e:F b with
 | some o =>
  have:=S.fh b o e
  rw[hb]at this
  cases this
  exact⟨F,Same.refl _,S,.tup e r⟩
 | none =>
  have og:G.O b=none:=by
   cases q:G.O b with
   | none=>rfl
   | some o =>
    have:=S.oh b o q
    rw[hb]at this
    cases this
    exact((S.fo b _ q).2:False).elim
  refine⟨upd F b (.tup vs),cI e,S.freeze hb e og (λi c ho z=>?_),.tup aK (r.mono (cI e))⟩
  obtain⟨a,e1,oa⟩:=S.ow i c ho
  rw[z]at e1
  injection e1 with e1;injection e1 with e1;injection e1 with e1
  subst e1
  exact(oa.he.notup hb:False)
theorem AR{K:Fg}{F:Hp}:∀k:Key,Rep K F (kV k) (L3.keyD k)
 | .inl i=>.int i
 | .inr x=>.str x
theorem lc{K:Fg}{F:Hp}:∀ks:List Key,RepL K F (ks.map kV) (ks.map L3.keyD)
 | []=>.nil
 | k::ks=>.cons (AR k) (lc ks)
theorem ym{K:Fg}{G:Gh}{H:Hp}{Z:L2.St}{ρ:En}:∀{kvs:List (List Key×V)} {xs:List (List Key×Addr×Value)} {F:Hp},KT H kvs xs->StOk K G F Z H ρ ->
  ∃F',Same F F'/\StOk K G F' Z H ρ/\RepL K F' (xs.map λq=>V.ref q.2.1) (kvs.map λp=>m9 p.1)/\Vals (xs.map λq=>V.ref q.2.1) (xs.map λq=>Value.ref q.2.1):=by
 intro kvs xs F r S
 induction r generalizing F with
 | nil=>exact⟨F,Same.refl _,S,.nil,.nil⟩
 | @cons p q ps qs h t ih =>
  obtain⟨h1,h2,h3⟩:=h
  obtain⟨F1,s1,S1,r1⟩:=S.seeT h2 (lc p.1)
  obtain⟨F2,s2,S2,r2,v2⟩:=ih S1
  exact⟨F2,s1.trans s2,S2,.cons (r1.mono s2) r2,.cons rfl v2⟩
theorem yx{P:Program}{w:World}{k:Key}{u:Value}(r:(bv P w).is k u=true):RelV (kV k) u:=by
 rcases bm (k:=k) (v:=u) r with ⟨i,t,rfl,rfl⟩|⟨i,t,rfl,rfl⟩
 ·exact⟨t,rfl⟩
 ·exact⟨t,rfl⟩
theorem tB{P:Program}{w:World}:∀{es:List DictEntry} {vs:List (Key×Value)},Pairs (bv P w) es vs->Vals (vs.map λp=>kV p.1) (es.map (·.key)):=by
 intro es vs r
 induction r with
 | nil=>exact .nil
 | cons a b _ ih=>exact .cons (yx a) ih
theorem Bs{κ:Type}{kvs:List (κ×V)}{vs:List (κ×Value)}(r:KV kvs vs):Vals (kvs.map (·.2)) (vs.map (·.2))/\kvs.map (·.1)=vs.map (·.1):=by
 unfold KV at r
 induction r with
 | nil=>exact⟨.nil,rfl⟩
 | cons h t ih=>exact⟨.cons h.2 ih.1,by rw[List.map_cons,List.map_cons,h.1,ih.2]⟩
theorem xE{X:Cx}{pins:zzk}{Z σ':L2.St}{H F:Hp}{s:Shared}{G:Gh}{ρ:En}{x:V}{es:List (D×D)}(I:Inv X pins Z H s)(S:StOk X.K G F σ' H ρ)(ho:OR X.K F H x (.dict es))(hnx:ub es=false) :
  ∃a F' vs ds ep,x=.ref a/\Same F F'/\StOk X.K G F' σ' H ρ/\(a==sysModules)=false/\DR s.heap a ds ep/\ds.size<=sizeLine/\vs.length=ds.size/\Vals vs (ds.toList.map (·.key))/\RepL X.K F' vs (es.map (·.1)):=by
 obtain⟨a,rfl,⟨kvs,h1,h2,h3⟩|⟨kvs,h1,h2,h3⟩⟩:=ho.dict S.fh hnx
 ·obtain⟨z,y,xs,kt,o,ds,ep,e1,e2,e3,e4,_⟩:=C1 I.hok h1
  obtain⟨F',s1,S1,r1,v1⟩:=ym kt S
  have el:ds.size=kvs.length:=by
   rw[<-Array.length_toList,e4,zzd]
   have:=r1.length
   rw[zzd,zzd]at this
   exact this
  refine⟨a,F',_,ds,ep,rfl,s1,S1,y,⟨o,e1,e2,e3⟩,by omega,?_,?_,by rw[h2];exact r1⟩
  ·rw[zzd,el]
   have:=r1.length
   rw[zzd,zzd]at this
   exact this
  ·rw[e4,List.map_map]
   exact v1
 ·obtain⟨z,y,vs,kv,o,ds,ep,e1,e2,e3,e4,e5,_⟩:=C2 I.hok h1
  obtain⟨_,ek⟩:=Bs kv
  have vp:=tB e5
  have el:ds.size=kvs.length:=by
   have:=vp.length
   simp only[zzd,Array.length_toList]at this
   have e:=congrArg List.length ek
   rw[zzd,zzd]at e
   omega
  refine⟨a,F,kvs.map λp=>kV p.1,ds,ep,rfl,Same.refl _,S,y,⟨o,e1,e2,e3⟩,by omega,by rw[zzd];omega,?_,?_⟩
  ·have e:=congrArg (List.map kV) ek
   rw[List.map_map,List.map_map]at e
   have e':kvs.map (λp=>kV p.1)=vs.map (λp=>kV p.1):=e
   rw[e']
   exact vp
  ·rw[h2]
   have e:kvs.map (λp=>kV p.1)=(kvs.map (·.1)).map kV:=by rw[List.map_map];rfl
   have e':kvs.map (λp=>L3.keyD p.1)=(kvs.map (·.1)).map L3.keyD:=by rw[List.map_map];rfl
   rw[e,e']
   exact lc _
theorem ua{ds:Array DictEntry}{acc:Array Value}(h:ItemsOf (λi v=>∃e,ds[i]? = some e/\v=e.key) acc ds.size):acc.toList=ds.toList.map (·.key):=by
 apply List.ext_getElem?
 intro j
 rw[Array.getElem?_toList,List.getElem?_map,Array.getElem?_toList]
 cases q:acc[j]? with
 | some v =>
  obtain⟨e,e1,rfl⟩:=h.2 j v q
  rw[e1];rfl
 | none =>
  have:ds.size<=j:=by rw[<-h.1];exact Array.getElem?_eq_none_iff.mp q
  rw[Array.getElem?_eq_none this];rfl
theorem sD{prog:Program}{w:World}{A:Around}{E:zzj}{s:Shared}{T:String}{r d:Addr}{n:Nat}{P:Nat->Value->Prop}{OK:Heap->Prop}{Q:List Value->Shared->Prop}(K:PySem.W.KdlSrc prog w T r d n P OK)(hh:A.handled=none)(hok:OK s.heap)(hn:n<=sizeLine)
  (q:∀h' tk acc,(∀b o,s.heap.get? b=some o->h'.get? b=some o)->ItemsOf P acc n->Q acc.toList { s with heap:=h',toks:=tk }):wpAny (model prog w) A (collect (.ref r)) Q E s:=by
 have hlt:=K.there _ hok
 have e0:(s.heap.push (seqObj "list" #[] 0)).get? s.heap.objs.size=some (seqObj "list" #[] 0):=zze _ rfl
 have key:∀R:Result->Shared->Prop,(∀h' tk acc c,(∀b o,s.heap.get? b=some o->h'.get? b=some o)->h'.get? s.heap.objs.size=some { cls:=.type "list",dict:=none,data:=.seq acc c,slots:=#[] }->ItemsOf P acc n->R (.ok (.ret (.ref s.heap.objs.size))) { s with heap:=h',toks:=tk }) ->
   codeAny (model prog w) A (.builtin "proto.collect" ⟨[.ref r],[]⟩) R s:=λR hR=>by
  refine codeAny_builtin entry_proto_collect' ?_
  rw[Around.under_plainId PySem.F.plain_proto_collect _]
  show wpAny (model prog w) A.in1 (newList [] >>= λx=>again (.builtin "list.__iadd__" ⟨[x,.ref r],[]⟩)) _ _ s
  refine zza (wpAny_newList (zzb ⟨Code.quiet_builtin _ (by decide +kernel),codeAny_builtin entry_list_iadd' ?_⟩))
  rw[Around.under_plainId PySem.F.plain_list_iadd _]
  show wpAny (model prog w) A.in1 (Builtin.List.listExtendWith (.ref s.heap.objs.size) (.ref r) (.ref s.heap.objs.size)) _ _ { s with heap:=s.heap.push (seqObj "list" #[] 0) }
  exact PySem.W.kdl_extend (s:={ s with heap:=s.heap.push (seqObj "list" #[] 0) }) K hh (K.keep _ _ hok λb _ o e=>zzc _ e) _ (Nat.ne_of_gt hlt.1) (Nat.ne_of_gt hlt.2) _ 0 e0 (λh' tk acc c kp e it=>hR h' tk acc c (λb o z=>kp b o (Nat.ne_of_lt (Heap.lt_size z)) (zzc _ z)) e it) hn
 unfold collect
 refine zza (wpAny_runValue (key _ λh' tk acc c kp e it=>?_))
 show wpAny (model prog w) A (load s.heap.objs.size >>= _) _ _ _
 exact zza (wpAny_load e (zzb (q h' tk acc kp it)))
def yD(K:Fg):List V->Hp->VK->Prop:=λxs H Q=>yE K xs H Q\/∃(G:Gh) (F:Hp) (Z:L2.St) (ρ:En) (x:V) (es:List (D×D)),xs=[x]/\StOk K G F Z H ρ/\OR K F H x (.dict es)/\ub es=false/\cF (es.map (·.1))=true /\
 ∀l vs F',H l=none->Same F F'->StOk K G F' Z H ρ->RepL K F' vs (cH (es.map (·.1)))->Q (.ref l) (upd H l (.lst vs))
theorem uv{X:Cx}(hc:X.calm=true):CallR X (.builtin "sorted") (yD X.K):=by
 intro pins s Z H xs us Q I r h0
 rcases h0 with h0|⟨G,F,σ',ρ,x,es,rfl,S,ho,hnx,hok,k⟩
 ·exact xK pins s Z H xs us Q I r h0
 obtain⟨u,rfl,ru⟩:=L2.Vals.one r
 obtain⟨a,F',vs,ds,ep,rfl,s1,S1,lo,dr,hz,hl,rv,rl⟩:=xE I S ho hnx
 cases ru
 refine il λE' Q' q=>sD (xZ lo) (I.ok.hd hc) dr hz λh' tk acc kp it=>q _ _ ?_
 have I2:Inv X pins Z H { s with heap:=h',toks:=tk }:=I.kept (t':=tk) kp
 refine jA I2 S1 rl (by rw[ua it];exact rv) (by rw[hl];exact hz) hok λl vs hl rp=>k l vs F' hl s1 S1 rp
def iG:List D->Option (List D)
 | [.dict es]=>if ub es then none else if cF (es.map (·.1))then some (cH (es.map (·.1)))else none
 | l=>vK l
theorem y6{K:Fg}:Aq K (yD K) iG:=by
 intro G F Z H ρ xs ds res Q S o e k
 by_cases hd:∃es,ds=[.dict es]
 ·obtain⟨es,rfl⟩:=hd
  cases hnx:ub es with
  | true=>simp[iG,hnx]at e
  | false =>
  have e':(if cF (es.map (·.1))then some (cH (es.map (·.1)))else none)=some res:=by simpa[iG,hnx]using e
  split at e'
  ·rename_i hok
   cases e'
   obtain⟨v,r,rfl,ho,hr⟩:=aV o
   obtain rfl:=bG hr
   refine .inr ⟨G,F,Z,ρ,v,es,rfl,S,ho,hnx,hok,λl vs F' hl s1 S1 rp=>?_⟩
   obtain⟨S2,r2⟩:=S1.newLst hl rp
   exact k _ F' _ s1 S2 r2
  ·cases e'
 ·have e':vK ds=some res:=by
   rw[<-e]
   unfold iG
   split
   ·rename_i es;exact absurd ⟨es,rfl⟩ hd
   ·rfl
  exact .inl (Be G F Z H ρ xs ds res Q S o e' k)
end L4
namespace L4
open PySem PySem.Spec PyProof.Rows L2 L3
theorem Bo{α:Type}{us:List α}{n:Nat}(h:us.length=n+1):∃a r,us=a::r/\r.length=n:=by
 cases us with
 | nil=>exact absurd h (Nat.succ_ne_zero n).symm
 | cons a r=>exact⟨a,r,rfl,Nat.succ.inj h⟩
theorem Gk{α:Type}{us:List α}(h:us.length=1):∃a0,us=[a0]:=by
 obtain⟨a0,r,rfl,h0⟩:=Bo h
 obtain rfl:=List.eq_nil_of_length_eq_zero h0
 exact⟨a0,rfl⟩
theorem Gj{α:Type}{us:List α}(h:us.length=2):∃a0 a1,us=[a0,a1]:=by
 obtain⟨a0,r,rfl,h0⟩:=Bo h
 obtain⟨a1,rfl⟩:=Gk h0
 exact⟨a0,a1,rfl⟩
theorem Gi{α:Type}{us:List α}(h:us.length=3):∃a0 a1 a2,us=[a0,a1,a2]:=by
 obtain⟨a0,r,rfl,h0⟩:=Bo h
 obtain⟨a1,a2,rfl⟩:=Gj h0
 exact⟨a0,a1,a2,rfl⟩
theorem Hz{α:Type}{us:List α}(h:us.length=4):∃a0 a1 a2 a3,us=[a0,a1,a2,a3]:=by
 obtain⟨a0,r,rfl,h0⟩:=Bo h
 obtain⟨a1,a2,a3,rfl⟩:=Gi h0
 exact⟨a0,a1,a2,a3,rfl⟩
theorem nh{K:Fg}{x qual:Str}{st:Stmt}{f:Addr}{fd:FuncData}{p0:Str}(F:Fun K x qual st f fd)
  (h:∀(kV doc pm:Value) (an:Option Addr) (cdv ct:Value) (u0:Value),bindArgs (PySem.W.fnOf x qual (cz st) (bf st) (au st) .none kV doc pm an cdv ct) ⟨[u0],[]⟩=pure (List.zip [p0] [u0])):Binds K fd [p0] [] :=
 F.binds λa b c d e g us hl=>by obtain⟨u0,rfl⟩:=Gk hl;exact h a b c d e g u0
theorem sH{K:Fg}{x qual:Str}{st:Stmt}{f:Addr}{fd:FuncData}{p0 p1:Str}(F:Fun K x qual st f fd)
  (h:∀(kV doc pm:Value) (an:Option Addr) (cdv ct:Value) (u0 u1:Value),bindArgs (PySem.W.fnOf x qual (cz st) (bf st) (au st) .none kV doc pm an cdv ct) ⟨[u0,u1],[]⟩=pure (List.zip [p0,p1] [u0,u1])):Binds K fd [p0,p1] [] :=
 F.binds λa b c d e g us hl=>by obtain⟨u0,u1,rfl⟩:=Gj hl;exact h a b c d e g u0 u1
theorem z5{K:Fg}{x qual:Str}{st:Stmt}{f:Addr}{fd:FuncData}{p0 p1 p2:Str}(F:Fun K x qual st f fd)
  (h:∀(kV doc pm:Value) (an:Option Addr) (cdv ct:Value) (u0 u1 u2:Value),bindArgs (PySem.W.fnOf x qual (cz st) (bf st) (au st) .none kV doc pm an cdv ct) ⟨[u0,u1,u2],[]⟩=pure (List.zip [p0,p1,p2] [u0,u1,u2])):Binds K fd [p0,p1,p2] [] :=
 F.binds λa b c d e g us hl=>by obtain⟨u0,u1,u2,rfl⟩:=Gi hl;exact h a b c d e g u0 u1 u2
theorem Ep{K:Fg}{x qual:Str}{st:Stmt}{f:Addr}{fd:FuncData}{p0 p1 p2 p3:Str}(F:Fun K x qual st f fd)
  (h:∀(kV doc pm:Value) (an:Option Addr) (cdv ct:Value) (u0 u1 u2 u3:Value),bindArgs (PySem.W.fnOf x qual (cz st) (bf st) (au st) .none kV doc pm an cdv ct) ⟨[u0,u1,u2,u3],[]⟩=pure (List.zip [p0,p1,p2,p3] [u0,u1,u2,u3])):Binds K fd [p0,p1,p2,p3] [] :=
 F.binds λa b c d e g us hl=>by obtain⟨u0,u1,u2,u3,rfl⟩:=Hz hl;exact h a b c d e g u0 u1 u2 u3
section
variable {S:Type}
@[reducible] def CW:Ev S (List D):=λ_ k=>k []
end
theorem EN{K:Fg}{C:Addr}(h:(["bool", "int", "str", "list", "tuple", "dict"].all λT=>PySem.W.kitOne K (.ref C) (.type T)==some false)=true):∀T,C8 T=true->PySem.W.kitOne K (.ref C) (.type T)=some false:=λT hT=>by
 have h':∀T∈["bool", "int", "str", "list", "tuple", "dict"],PySem.W.kitOne K (.ref C) (.type T)=some false:=λT q=>by
  have:=List.all_eq_true.mp h T q
  simpa using this
 apply h'
 simp only[C8,Bool.or_eq_true,beq_iff_eq]at hT
 rcases hT with ((((rfl|rfl)|rfl)|rfl)|rfl)|rfl<;>simp
def zn(ds as:List D):Option (List D):=match as with
 | []=>some []
 | _=>none
section
variable {S:Type}{X:Cx}{pos pos' apos cpos ypos:Pos}
theorem Ag{i:Nat}{x:Str}(hN:X.N[i]? = some x)(hv:Vis X.env.scope x)
  (hbase:attributeBase (.Name x pos') "clear" X.env (eval (.Name x pos') X.env)=eval (.Name x pos') X.env) (hline:(apos.endLine==cpos.line)=true)
  (hsw:swapsWith (.Call (.Attribute (.Name x pos') "clear" apos) [] [] cpos) none pos.line X.env=pure false) (hd:(x==("__debug__" : Str))=false:=by decide) (hcd:(x==("__classdict__" : Str))=false:=by decide) :
  AS X (.Expr (.Call (.Attribute (.Name x pos') "clear" apos) [] [] cpos) pos) (AJ (S:=S) i zn CW):=λOK K G F Z H ρ E hO hX St ok eo =>
 gc (oU (DF PySem.F.plainAttrs_list PySem.F.slot_list_clear PySem.F.type_list_clear zk (bV hN hv hd hcd) hbase hline) hsw) (by
  unfold AJ at ok
  split at ok
  case h_2=>exact(hO ok).elim
  ·rename_i ds0 h0
   obtain⟨a,vs0,ea,hh,rv⟩:=gY St h0
   unfold CW at ok
   dsimp only at ok
   split at ok
   ·rename_i ds hds
    rw[h0]at hds
    cases hds
    obtain⟨ds',hf,o2⟩:=eY hO ok
    cases hf
    refine⟨_,ea,.inl ⟨rfl,vs0,.inl (.inl hh)⟩,a,vs0,rfl,rfl,hh,?_⟩
    exact eo.nx F Z _ _ (Same.refl _) (oV St h0 ea .nil) o2
   ·exact(hO ok).elim)
end
section
variable {S:Type}{X:Cx}{e:Expr}{es:List Expr}{ms:Ev S (List D)}{pos:Pos}
theorem xQ{x:Str}{p:Pos}{id:String}{r:List V->Hp->VK->Prop}{f:List D->Option (List D)}(hc:CallR X (.builtin id) r)(hf:Aq X.K r f)(hm:X.mg x=none)(hv:bootBuiltins x=some (.builtin id))(ha:AEa X (e::es) ms)(hg:Gl X x:=by rfl)
  (hn:x ≠ "__name__":=by decide) (hdb:(x==("__debug__" : Str))=false:=by decide) (he:starEach (e::es) X.env=(false,eval e X.env)::starEach es X.env:=by rfl) (hpl:(backTo pos (starEach es X.env)).any (·.1)=false:=by rfl):AEl X (.Call (.Name x p) (e::es) [] pos) (zP f ms) :=
 λOK y k G F Z H ρ Q hO hX St ok kk=>sem (iQ hc hg hm hv bC hn hdb he hpl) (ha OK y _ G F Z H ρ _ hO hX St ok λds vs F1 H1 ρ1 s1 S1 _ r1 o1=>by
  obtain⟨res,e,o'⟩:=eY hO o1
  exact hf G F1 Z H1 ρ1 vs ds res Q S1 (RepL.ors r1) e λw F2 H2 s2 S2 r3=>kk res w F2 H2 ρ1 (s1.trans s2) S2 r3 o')
end
section
variable {α:Type}{l:List α}
theorem ln0(h:l.length=0):l=[]:=List.eq_nil_of_length_eq_zero h
theorem lnS{n:Nat}(h:l.length=n+1):∃a t,l=a::t/\t.length=n :=
 List.recOn (motive:=λl=>l.length=n+1->∃a t,l=a::t/\t.length=n) l (λh=>(Nat.succ_ne_zero n h.symm).elim) (λa t _ h=>⟨a,t,rfl,Nat.succ.inj h⟩) h
theorem ln1(h:l.length=1):∃a,l=[a]:=by obtain⟨a,t,e,q⟩:=lnS h;exact⟨a,by rw[e,ln0 q]⟩
theorem ln2(h:l.length=2):∃a b,l=[a,b]:=by obtain⟨a,t,rfl,q⟩:=lnS h;obtain⟨b,rfl⟩:=ln1 q;exact⟨a,b,rfl⟩
theorem ln3(h:l.length=3):∃a b c,l=[a,b,c]:=by obtain⟨a,t,rfl,q⟩:=lnS h;obtain⟨b,c,rfl⟩:=ln2 q;exact⟨a,b,c,rfl⟩
theorem ln4(h:l.length=4):∃a b c d,l=[a,b,c,d]:=by obtain⟨a,t,rfl,q⟩:=lnS h;obtain⟨b,c,d,rfl⟩:=ln3 q;exact⟨a,b,c,d,rfl⟩
end
section
variable {K:Fg}{h:Heap}{mg:zzl}{x qual:Str}{st:Stmt}{f T:Addr}{oc:Value}{od an:Option Addr}{osl:Array (Option Value)}{kV doc pm cdv ct:Value}
def Fa(K:Fg)(x:Str)(st:Stmt):Prop:=∃f fd,PySem.W.nsIn K mainGlobals x=some (some (.ref f))/\Fun K x x st f fd
theorem cV(a:PySem.W.nsIn K mainGlobals x=some (some (.ref f)))(l:K.lookup f=some ⟨oc,od,.func (PySem.W.fnOf x x (cz st) (bf st) (au st) .none kV doc pm an cdv ct),osl⟩)
  (c:PySem.W.codeIn K cdv x=true) (k:PySem.W.keepIn K (.ref f)=true):Fa K x st:=⟨f,_,a,pV l c k⟩
def Xa(K:Fg)(x qual:Str)(st:Stmt)(fl:List Str):Prop:=∃C D f fd,PySem.W.nsIn K mainGlobals x=some (some (.ref C))/\Fun K "__init__" qual st f fd/\XC K C D f/\XQ K C x/\PySem.W.keepIn K (.ref C)=true/\(∀f∈fl,NoAttr K C f)/\PySem.W.exmOne K (.ref C) (.ref C)=some true
theorem EO{C D N:Addr}{nm qn:Str}{bs sb:List Value}{sn:List Str}{ab:Bool}{co:Option Bool}{dd:Option Addr}{k0 k1 k2 k3 k5:Option Value}{fl:List Str}
  (xa:PySem.W.nsIn K mainGlobals x=some (some (.ref C))) (xb:K.lookup C=some (excClassObj nm qn C N bs (.ref D::bmV) true sn sb ab co dd k0 k1 k2 k3 k5 "ValueError.__new__")) (xc:PySem.W.findIn K (.ref C) "__init__" = some (some (.ref f)))
  (xd:K.lookup f=some ⟨oc,od,.func (PySem.W.fnOf "__init__" qual (cz st) (bf st) (au st) .none kV doc pm an cdv ct),osl⟩) (xe:PySem.W.codeIn K cdv qual=true) (xf:PySem.W.keepIn K (.ref f)=true) (xg:PySem.W.keepIn K (.ref C)=true)
  (xh:PySem.W.tailIn K bmV (.ref D::bmV)=true) (xi:PySem.W.typeIn K (.ref f)=some (.type "function")) (xj:PySem.W.findIn K (.ref C) "__setattr__" = some (some (.builtin "object.__setattr__"))) (xk:PySem.W.findIn K (.ref C) "__getattribute__" = some (some (.builtin "BaseException.__getattribute__")))
  (xl:PySem.W.findIn K (.ref C) "__getattr__" = some none) (xm:PySem.W.exmOne K (.ref C) (.ref C)=some true) (xp:PySem.W.findIn K (.ref C) "__class__" = some (some (.builtin "object.__class__"))) (xq:PySem.W.specialIn K (.builtin "object.__class__") "__get__" = some (some (.builtin "getset_descriptor.__get__")))
  (xr:PySem.W.takesIn K (.builtin "object.__class__")=some true) (xo:(["bool", "int", "str", "list", "tuple", "dict"].all λT=>PySem.W.kitOne K (.ref C) (.type T)==some false)=true) (xn:∀f∈fl,NoAttr K C f):Xa K x qual st fl :=
 ⟨C,D,f,_,xa,pV xd xe xf,⟨⟨nm,qn,N,bs,sn,sb,ab,co,dd,k0,k1,k2,k3,k5,xb⟩,xh,xc,xi,xj,xk,xl⟩,⟨xa,⟨_,_,⟨nm,qn,N,bs,sn,sb,ab,co,dd,k0,k1,k2,k3,k5,xb⟩,xh,xc,xi,xj,xk,xl⟩,⟨xp,xq,xr⟩,EN xo⟩,xg,xn,xm⟩
theorem na0{C:Addr}:∀f∈([]:List Str),NoAttr K C f:=λ_ h=>(nomatch h)
theorem naC{C:Addr}{f:Str}{l:List Str}(h:PySem.W.findIn K (.ref C) f=some none)(t:∀f∈l,NoAttr K C f):∀g∈f::l,NoAttr K C g:=λg hg=>by
 rcases List.mem_cons.mp hg with rfl|hg
 ·exact h
 ·exact t g hg
def Gs:Option (Option Value)->Bool
 | some none=>true
 | _=>false
theorem GK{l:List Str}(X:K.In h)(G:h.Ns mainGlobals mg)(z:(l.all λx=>Gs (PySem.W.nsIn K mainGlobals x))=true):∀x∈l,mg x=none:=λx hx=>by
 have q:=List.all_eq_true.mp z x hx
 generalize e:PySem.W.nsIn K mainGlobals x=o at q
 match o,q with
 | some none,_=>exact PySem.W.mg_none_of X G e
end
def dI:List Str->List D->Str->Option D
 | n::ns,d::ds,f=>if n=f then some d else dI ns ds f
 | _,_,_=>none
def AX:List Str->Str->List Str
 | n::ns,f=>if n=f then n::ns else n::AX ns f
 | [],f=>[f]
def lv:List Str->List D->Str->D->List D
 | n::ns,d::ds,f,e=>if n=f then e::ds else d::lv ns ds f e
 | [],_,_,e=>[e]
 | _::_,[],_,_=>[]
theorem vv{K:Fg}{F:Hp}{f:Str}{d:D}:∀{fs:List (Str×V)} {ns:List Str} {ds:List D},fs.map (·.1)=ns->RepL K F (fs.map (·.2)) ds->dI ns ds f=some d->∃v,fs.lookup f=some v/\Rep K F v d:=by
 intro fs
 induction fs with
 | nil=>intro ns ds h r e;subst h;cases ds<;>cases e
 | cons p fs ih =>
  obtain⟨n,v⟩:=p
  intro ns ds h r e
  subst h
  obtain⟨d0,r',rfl,rv,rr⟩:∃d0 r',ds=d0::r'/\Rep K F v d0/\RepL K F (fs.map (·.2)) r':=by
   cases r with|cons a b=>exact⟨_,_,rfl,a,b⟩
  rw[List.map_cons,dI]at e
  rw[List.lookup_cons]
  by_cases h:n=f
  ·rw[if_pos h]at e
   cases e
   subst h
   simp only[beq_self_eq_true]
   exact⟨v,rfl,rv⟩
  ·rw[if_neg h]at e
   obtain⟨u,h1,h2⟩:=ih rfl rr e
   have hb:(f==n)=false:=beq_eq_false_iff_ne.mpr λz=>h z.symm
   simp only[hb]
   exact⟨u,h1,h2⟩
theorem vw{f:Str}:∀{fs:List (Str×V)},f∉fs.map (·.1)->fs.lookup f=none:=by
 intro fs
 induction fs with
 | nil=>intro _;rfl
 | cons p fs ih =>
  intro h
  rw[List.map_cons,List.mem_cons,not_or]at h
  rw[List.lookup_cons]
  have hb:(f==p.1)=false:=beq_eq_false_iff_ne.mpr h.1
  simp only[hb]
  exact ih h.2
theorem uX{K:Fg}{F:Hp}{f:Str}{v:V}{d:D}(rv:Rep K F v d):∀{fs:List (Str×V)} {ns:List Str} {ds:List D},fs.map (·.1)=ns->RepL K F (fs.map (·.2)) ds->(cU f v fs).map (·.1)=AX ns f/\RepL K F ((cU f v fs).map (·.2)) (lv ns ds f d):=by
 intro fs
 induction fs with
 | nil=>intro ns ds h r;subst h;cases r;exact⟨rfl,.cons rv .nil⟩
 | cons p fs ih =>
  obtain⟨n,u⟩:=p
  intro ns ds h r
  subst h
  obtain⟨d0,r',rfl,ru,rr⟩:∃d0 r',ds=d0::r'/\Rep K F u d0/\RepL K F (fs.map (·.2)) r':=by
   cases r with|cons a b=>exact⟨_,_,rfl,a,b⟩
  obtain⟨h1,h2⟩:=ih rfl rr
  rw[List.map_cons,AX,lv,cU]
  by_cases h:n=f
  ·rw[if_pos h,if_pos h,if_pos h];exact⟨rfl,.cons rv rr⟩
  ·rw[if_neg h,if_neg h,if_neg h,List.map_cons,List.map_cons,h1]
   exact⟨rfl,.cons ru h2⟩
structure IC(K:Fg)(x:Str)(C:Addr):Prop where
 ns:PySem.W.nsIn K mainGlobals x=some (some (.ref C))
 cl:Cls K C
def gI(x:Str)(o:Option (Option AV)):Option (List Str×List D):=match o with
 | some (some (.ol (.i y ns ds)))=>if y=x then some (ns,ds)else none
 | some (some (.op (.i y ns ds)))=>if y=x then some (ns,ds)else none
 | _=>none
theorem jX{x:Str}{ρ:En}{i:Nat}{p:List Str×List D}(h:gI x ρ[i]? = some p):own ρ i (.i x p.1 p.2):=by
 unfold gI at h
 split at h
 ·rename_i q
  split at h
  ·rename_i e;cases h;subst e;exact .inl q
  ·cases h
 ·rename_i q
  split at h
  ·rename_i e;cases h;subst e;exact .inr q
  ·cases h
 ·cases h
theorem jW{K:Fg}{G:Gh}{F H:Hp}{Z:L2.St}{ρ:En}{x:Str}{C:Addr}{i:Nat}{p:List Str×List D}(S:StOk K G F Z H ρ)(c:IC K x C)(h:gI x ρ[i]? = some p) :
  ∃a dx fs,Z[i]? = some (some (V.ref a))/\H a=some (.ins C dx fs)/\fs.map (·.1)=p.1/\RepL K F (fs.map (·.2)) p.2:=by
 obtain⟨a,e,oa⟩:=S.ow i _ (jX h)
 obtain⟨C',dx,fs,h1,h2,h3,h4⟩:=oa.he
 have:=c.ns.symm.trans h2
 injection this with this;injection this with this;injection this with this
 subst this
 exact⟨a,dx,fs,e,h1,h3,h4⟩
def FO(x:Str)(i:Nat)(f:Str):Pu D:=λρ=>match gI x ρ[i]? with
 | some p=>oM (dI p.1 p.2 f)
 | none=>.bad
theorem j5{X:Cx}{x nm f:Str}{C:Addr}{i:Nat}{pos p:Pos}(c:IC X.K x C)(n:NoAttr X.K C f)(hN:X.N[i]? = some nm)(hv:Vis X.env.scope nm)(hb:attributeBase (.Name nm p) f X.env (eval (.Name nm p) X.env)=eval (.Name nm p) X.env)
  (hd:(nm==("__debug__" : Str))=false:=by decide) (hcd:(nm==("__classdict__" : Str))=false:=by decide):AP X (.Attribute (.Name nm p) f pos) (FO x i f) :=
 λG F Z H ρ Q S w=>sem (DE (bV hN hv hd hcd) hb)<|by
  unfold FO at w
  split at w
  ·rename_i q hq
   obtain⟨a,dx,fs,e1,e2,e3,e4⟩:=jW S c hq
   obtain⟨d,hd,k⟩:=w.opt
   obtain⟨v,h1,h2⟩:=vv e3 e4 hd
   exact⟨_,e1,a,C,dx,fs,v,rfl,e2,c.cl,n,h1,k F H (Same.refl _) S v h2⟩
  ·exact w.elim
section
variable {S:Type}
def Dh(x:Str)(ρ:En)(i:Nat)(p:List Str×List D)(f:Str)(d:D):En:=setC ρ i (.i x (AX p.1 f) (lv p.1 p.2 f d))
def E7(x:Str)(i:Nat)(f:Str)(me:Ev S D):SM S:=λK ρ=>me K.x (λd ρ1=>match gI x ρ1[i]? with
 | some p=>if p.1.length<900 then K.nx (Dh x ρ1 i p f d)else .bad
 | none=>.bad) ρ
theorem vD{K:Fg}{G:Gh}{F H:Hp}{Z:L2.St}{ρ:En}{x:Str}{C a dx:Addr}{fs:List (Str×V)}{i:Nat}{p:List Str×List D}{f:Str}{v:V}{d:D}(S:StOk K G F Z H ρ)(c:IC K x C)(h:gI x ρ[i]? = some p)(ea:Z[i]? = some (some (V.ref a)))
  (e3:fs.map (·.1)=p.1) (e4:RepL K F (fs.map (·.2)) p.2) (rv:Rep K F v d):StOk K G F Z (upd H a (.ins C dx (cU f v fs))) (Dh x ρ i p f d) :=
 S.change (jX h) ea ⟨C,dx,cU f v fs,aK,c.ns,(uX rv e3 e4).1,(uX rv e3 e4).2⟩
theorem kM{X:Cx}{x nm f:Str}{C:Addr}{i:Nat}{value:Expr}{me:Ev S D}{pos pos' p:Pos}(c:IC X.K x C)(n:NoAttr X.K C f)(hN:X.N[i]? = some nm)(hv:Vis X.env.scope nm)(he:AE X value me)
  (hs:swapsWith value (some (.Attribute (.Name nm p) f pos')) pos.line X.env=pure false) (hd:(nm==("__debug__" : Str))=false:=by decide) (hcd:(nm==("__classdict__" : Str))=false:=by decide) :
  AS X (.Assign [.Attribute (.Name nm p) f pos'] value pos) (E7 x i f me):=λOK K G F Z H ρ E hO hX St ok eo =>
 gc (Dw (bV hN hv hd hcd) aH hs) (he OK K.x _ G F Z H ρ _ hO hX St ok λd v F1 H1 ρ1 s1 S1 r1 o1=>by
  split at o1
  ·rename_i q hq
   split at o1
   ·rename_i hl
    obtain⟨a,dx,fs,e1,e2,e3,e4⟩:=jW S1 c hq
    exact⟨_,e1,a,C,dx,fs,rfl,e2,c.cl,n,by rw[<-zzd (f:=(·.1)),e3];lia,eo.nx F1 Z _ _ s1 (vD S1 c hq e1 e3 e4 r1) o1⟩
   ·exact(hO o1).elim
  ·exact(hO o1).elim)
def z7(o:Option D)(k:Int->M S):M S:=match o with
 | some (.int a)=>k a
 | _=>.bad
def onI(d:D)(k:Int->M S):M S:=match d with
 | .int b=>k b
 | _=>.bad
def Cq(x:Str)(i:Nat)(f:Str)(me:Ev S D):SM S:=λK ρ=>match gI x ρ[i]? with
 | some p=>z7 (dI p.1 p.2 f) λa=>me K.x (λd ρ1=>onI d λb=>match gI x ρ1[i]? with
  | some q=>if q.1.length<900 then K.nx (Dh x ρ1 i q f (.int (a+b)))else .bad
  | none=>.bad) ρ
 | none=>.bad
theorem v4{X:Cx}{x nm f:Str}{C:Addr}{i:Nat}{value:Expr}{me:Ev S D}{pos tpos p:Pos}(c:IC X.K x C)(n:NoAttr X.K C f)(hN:X.N[i]? = some nm)(hv:Vis X.env.scope nm)(he:AE X value me)
  (hd:(nm==("__debug__" : Str))=false:=by decide) (hcd:(nm==("__classdict__" : Str))=false:=by decide) :
  AS X (.AugAssign (.Attribute (.Name nm p) f tpos) .Add value pos) (Cq x i f me):=λOK K G F Z H ρ E hO hX St ok eo =>
 gc (wJ (bV hN hv hd hcd) aH Eg) (by
  unfold Cq at ok
  split at ok
  case h_2=>exact(hO ok).elim
  rename_i q hq
  unfold z7 at ok
  split at ok
  case h_2=>exact(hO ok).elim
  rename_i a0 ha
  obtain⟨a,dx,fs,e1,e2,e3,e4⟩:=jW St c hq
  obtain⟨v,h1,h2⟩:=vv e3 e4 ha
  refine⟨_,e1,a,C,dx,fs,v,rfl,e2,c.cl,n,h1,he OK K.x _ G F Z H ρ _ hO hX St ok λd u F1 H1 ρ1 s1 S1 r1 o1=>?_⟩
  unfold onI at o1
  split at o1
  case h_2=>exact(hO o1).elim
  rename_i b
  split at o1
  case h_2=>exact(hO o1).elim
  rename_i q' hq'
  split at o1
  case isFalse=>exact(hO o1).elim
  rename_i hl
  obtain⟨a',dx',fs',e1',e2',e3',e4'⟩:=jW S1 c hq'
  rw[e1]at e1'
  injection e1' with e1';injection e1' with e1';injection e1' with e1'
  subst e1'
  have hv0:=h2.int_inv
  have hu0:=r1.int_inv
  subst hv0 hu0
  exact⟨a0,b,rfl,rfl,dx',fs',e2',by rw[<-zzd (f:=(·.1)),e3'];lia,eo.nx F1 Z _ _ s1 (vD S1 c hq' e1 e3' e4' (.int _)) o1⟩)
end
def b9(K:Fg)(x:Str)(ns ms:List Str)(n:Nat)(mf:List D->List D->M (D×List D)):Sp:=λvs H Q E=>∃G F f ds,vs.length=n/\StOk K G F (vs.map some) H (some (.op (.i x ns f))::fzs ds)/\fU K G E (mf f ds) λr =>
 ∀v F' H',Same F F'->StOk K G F' (vs.map some) H' (some (.op (.i x ms r.2))::fzs ds)->Rep K F' v r.1->Q v H'
def BW{S:Type}(x:Str)(ms:List Str)(ρ:En)(k:List D->M S):M S:=match (ρ[0]? : Option (Option AV))with
 | some (some (AV.op (OC.i y ns f)))=>if y=x/\ns=ms then k f else .bad
 | _=>.bad
def KI1(x:Str)(ms:List Str):KS (D×List D):=⟨λρ=>BW x ms ρ λf=>.ret (.none,f),λd ρ=>BW x ms ρ λf=>.ret (d,f),λ_ _=>.bad,λ_=>.bad,λ_=>.bad,λe _=>.exc e⟩
section
variable {K:Fg}{G:Gh}{F F' H H':Hp}{vs:List V}{Z:L2.St}{ρ:En}{ds:List D}
theorem qX{c0 c:OC}{i:Nat}(h:own (some (.op c0)::fzs ds) i c):i=0/\c=c0:=by
 cases i with
 | zero=>rcases h with h|h<;>simp at h;exact⟨rfl,h.symm⟩
 | succ i=>exact(e7 (ds:=ds) (i:=i) (c:=c) (by unfold own at h ⊢;simpa using h)).elim
theorem vV{c0 c':OC}(S:StOk K G F (vs.map some) H (some (.op c0)::fzs ds))(s1:Same F F')(S1:StOk K G F' Z H' ρ)(h0:ρ[0]? = some (some (.op c'))) :
  StOk K G F' (vs.map some) H' (some (.op c')::fzs ds):=by
 obtain⟨a,ha⟩:=S1.pq 0 _ h0
 obtain⟨e1,_⟩:=S1.pp 0 a ha
 obtain⟨e2,_⟩:=S.pp 0 a ha
 obtain⟨b,eb,ob⟩:=S1.ow 0 _ (.inr h0)
 rw[e1]at eb
 injection eb with eb;injection eb with eb;injection eb with eb
 subst eb
 have only:∀i b,G.P i=some b->i=0:=λi b h=>by
  obtain⟨_,c,q⟩:=S.pp i b h
  exact(qX (.inr q)).1
 refine⟨S1.fh,S1.oh,S1.fo,S.ln,λi d q=>?_,λi c q=>?_,λi j c e b q1 q2 _ _=>?_,λi b q=>?_,λi c q=>?_,S1.fb⟩
 ·cases i with
  | zero=>simp at q
  | succ i =>
   obtain⟨v,e,r⟩:=S.fz (i+1) d (by simpa using q)
   exact⟨v,e,r.mono s1⟩
 ·obtain⟨rfl,rfl⟩:=qX q
  exact⟨a,e2,ob⟩
 ·rw[(qX q1).1,(qX q2).1]
 ·have:=only i b q
  subst this
  exact⟨(S.pp 0 b q).1,_,rfl⟩
 ·obtain⟨rfl,_⟩:=qX (.inr q)
  exact⟨a,ha⟩
end
theorem vZ{S:Type}{x:Str}{ms:List Str}{ρ:En}{k:List D->M S}{K:Fg}{G:Gh}{E:XK}{C:S->Prop}(h:fU K G E (BW x ms ρ k) C):∃f,ρ[0]? = some (some (AV.op (OC.i x ms f)))/\fU K G E (k f) C:=by
 unfold BW at h
 split at h
 ·rename_i y ns f q
  split at h
  ·rename_i e;obtain⟨rfl,rfl⟩:=e;exact⟨f,q,h⟩
  ·exact h.elim
 ·exact h.elim
section
variable {P:Program}{w:World}{K:Fg}{mg:zzl}{base:Heap}{x qual:Str}{st:Stmt}{f:Addr}{fd:FuncData}{N ps:List Str}{k:Nat}{y:Str}{ns ms:List Str}
theorem gK{mb:SM (D×List D)}{mf:List D->List D->M (D×List D)}(Fn:Fun K x qual st f fd)(Sc:FnScope N ps (au st))
  (hb:∀(cdv:Value) (A:Around) (outer:List Env) (s:Shared) (H:Hp) (E:XK),Room k (A.deeper (envOfC qual (au st) s.heap.objs.size f cdv)) ->
   ASs (jt (CX1 P w) P w K mg base N qual (au st) f cdv A outer s H E) (bf st) mb)
  (hm:∀g ds,ds.length+1=ps.length->mf g ds=mb (KI1 y ms) (some (.op (.i y ns g))::fzs ds++List.replicate (N.length - ps.length) none)):FnOk P w K mg base (CX1 P w) (k+1) f fd ps (b9 K y ns ms ps.length mf):=by
 refine xC Fn Sc (λvs H Q E h=>?_) (λcdv A outer s H vs Q E hr h=>?_)
 ·obtain⟨_,_,_,_,h1,_⟩:=h;exact h1
 ·obtain⟨G,F0,g,ds,h1,S0,e⟩:=h
  have hl:ds.length+1=ps.length:=by have:=S0.ln;simp at this;lia
  have e0:L2.start N vs=vs.map some++List.replicate (N.length - ps.length) none:=by unfold L2.start;rw[h1]
  have S1:StOk K G F0 (L2.start N vs) H (some (.op (.i y ns g))::fzs ds++List.replicate (N.length - ps.length) none):=by rw[e0];exact S0.grow _
  rw[hm g ds hl]at e
  refine⟨_,dm,hb cdv A outer s H E hr (λm=>fU K G E m _) (KI1 y ms) G F0 _ H _ _ (λz=>z) (λF ρ e z=>rY z) S1 e ?_⟩
  refine⟨λF' σ' H' ρ' s S' o=>?_,λF' σ' H' ρ' d' v s S' rv o=>?_,λF' σ' H' ρ' d' v s S' r o=>(o:False).elim,λF' σ' H' ρ' s S' o=>(o:False).elim,λF' σ' H' ρ' s S' o=>(o:False).elim⟩
  ·obtain⟨f',q,e'⟩:=vZ o
   exact e' .non F' H' s (vV S0 s S' q) .non
  ·obtain⟨f',q,e'⟩:=vZ o
   exact e' v F' H' s (vV S0 s S' q) rv
end
section
variable {S:Type}
def BH(x:Str)(ns ms:List Str)(mf:List D->List D->M (D×List D))(i:Nat)(me:Ev S (List D)):Ev S D:=λz k ρ=>match gI x ρ[i]? with
 | some q=>if q.1=ns then me z (λds ρ1=>match gI x ρ1[i]? with
  | some p=>if p.1=ns then(mf p.2 ds).on (λe=>z e ρ1) (λr=>k r.1 (setC ρ1 i (.i x ms r.2)))else .bad
  | none=>.bad) ρ else .bad
 | none=>.bad
variable {X:Cx}{k n:Nat}{mf:List D->List D->M (D×List D)}{x nm m:Str}{ns ms:List Str}{C:Addr}{p pos pn apos:Pos}{e:Expr}{es:List Expr}{me:Ev S (List D)}{i:Nat}
theorem sG{OK:M S->Prop}{z:Ex->En->M S}{kk:D->En->M S}{G:Gh}{F F1 H1:Hp}{Z:L2.St}{ρ1:En}{Q:VK}{a:Addr}{vs:List V}{ds:List D}(hO:KOk OK)(hX:XL X OK z G)(s1:Same F F1)(S1:StOk X.K G F1 Z H1 ρ1)(hn:vs.length+1=n)(r1:RepL X.K F1 vs ds)(ea:Z[i]? = some (some (V.ref a)))
  (o1:OK (match gI x ρ1[i]? with|some p=>if p.1=ns then(mf p.2 ds).on (λe=>z e ρ1) (λr=>kk r.1 (setC ρ1 i (.i x ms r.2)))else .bad|none=>.bad))
  (k2:∀d v F' H' ρ',Same F F'->StOk X.K G F' Z H' ρ'->Rep X.K F' v d->OK (kk d ρ')->Q v H'):b9 X.K x ns ms n mf (V.ref a::vs) H1 Q (EX X G Z):=by
 split at o1
 case h_2=>exact(hO o1).elim
 rename_i q hq
 split at o1
 case isFalse=>exact(hO o1).elim
 rename_i hns
 have ho:=jX hq
 rw[hns]at ho
 cases hd:mf q.2 ds with
 | bad=>rw[hd]at o1;exact(hO o1).elim
 | exc e =>
  rw[hd]at o1
  exact⟨_,F1,q.2,ds,by simpa using hn,g7 S1 ho ea r1,by rw[hd];exact λF' H' Cl dd g xr=>EX.of S1 (hX F1 ρ1 e o1) g xr⟩
 | ret r =>
  rw[hd]at o1
  refine⟨_,F1,q.2,ds,by simpa using hn,g7 S1 ho ea r1,?_⟩
  rw[hd]
  intro v F2 H2 s2 S2 r2
  obtain⟨S3,t3⟩:=iI (c':=.i x ms r.2) (l:=ds.map AV.fz) S1 ho ea s2 S2
  exact k2 r.1 v F2 H2 _ (s1.trans s2) S3 r2 o1
structure CM(P:Program)(w:World)(K:Fg)(mg:zzl)(base:Heap)(C:Addr)(m:Str)(k:Nat)(sp:Sp):Prop where
 ex:∃(f:Addr) (fd:FuncData) (ps:List Str),FnOk P w K mg base (CX1 P w) k f fd ps sp/\Meth K C m f/\L2.Binds K fd ps []
theorem cS{pl:Sem Bool}(c:IC X.K x C)(Cm:CM X.prog X.w X.K X.mg X.base C m k (b9 X.K x ns ms n mf))(hm:m∉ns)(hr:Room k X.A)(hN:X.N[i]? = some nm)(hv:Vis X.env.scope nm)(ha:AEa X (e::es) me)(hn:(e::es).length+1=n)
  (hst:starEach (e::es) X.env=(false,eval e X.env)::starEach es X.env) (hpl:(backTo pos (starEach es X.env)).any (·.1)=false)
  (ht:eval (.Call (.Attribute (.Name nm pn) m apos) (e::es) [] pos) X.env=(do
   let ov <-eval (.Name nm pn) X.env
   standAt apos.atName
   let (f,first) <-holding [ov] (getMethod ov m pl)
   callWith pos f first (backTo pos (starEach (e::es) X.env)) (backToKw pos (keywordEach [] X.env))))
  (hd:(nm==("__debug__" : Str))=false:=by decide) (hcd:(nm==("__classdict__" : Str))=false:=by decide):AE X (.Call (.Attribute (.Name nm pn) m apos) (e::es) [] pos) (BH x ns ms mf i me):=by
 obtain⟨f,fd,pl,Fn,h1,h3⟩:=Cm.ex
 intro OK z kk G F Z H ρ Q hO hX St ok k2
 unfold BH at ok
 split at ok
 case h_2=>exact(hO ok).elim
 rename_i q0 hq0
 split at ok
 case isFalse=>exact(hO ok).elim
 rename_i hns
 obtain⟨a,dx,fs,ea,eh,e3,e4⟩:=jW St c hq0
 have ar:dB X (e::es) Z H λvs H1=>b9 X.K x ns ms n mf (V.ref a::vs) H1 Q (EX X G Z) :=
  ha OK z _ G F Z H ρ _ hO hX St ok λds vs F1 H1 ρ1 s1 S1 hl r1 o1=>sG hO hX s1 S1 (by rw[hl];exact hn) r1 ea o1 k2
 unfold dB at ar
 unfold cW
 intro pins s I
 refine PySem.W.methodCall_KW (thn (bV hN hv hd hcd pins s Z H (λy H'=>y=.ref a/\H'=H) I ⟨_,ea,rfl,rfl⟩) λu s1 hh=>?_) ht
 obtain⟨y,H1,I1,rx,rfl,rfl⟩:=hh
 obtain rfl:u=Value.ref a:=rx
 refine lU I1 eh c.cl h1 (vw (by rw[e3,hns];exact hm)) ?_
 refine PySem.W.callWith_K (first:=[.ref a]) (h₀:=X.base) I.ok.mod.kin h1.kp (thn (ar pos pins s1 I1) λus s2 hh=>?_) hst hpl
 obtain⟨vs,H2,I2,r,q2⟩:=hh
 exact⟨I2.kIn,tM (us:=.ref a::us) (vs:=.ref a::vs) Fn hr h3 (j9 (G:=G)) I2 (.cons rfl r) q2⟩
theorem bn{pl:Sem Bool}(c:IC X.K x C)(Cm:CM X.prog X.w X.K X.mg X.base C m k (b9 X.K x ns ms 1 mf))(hm:m∉ns)(hr:Room k X.A)(hN:X.N[i]? = some nm)(hv:Vis X.env.scope nm)
  (ht:eval (.Call (.Attribute (.Name nm pn) m apos) [] [] pos) X.env=(do
   let ov <-eval (.Name nm pn) X.env
   standAt apos.atName
   let (f,first) <-holding [ov] (getMethod ov m pl)
   callWith pos f first (backTo pos (starEach [] X.env)) (backToKw pos (keywordEach [] X.env))))
  (hd:(nm==("__debug__" : Str))=false:=by decide) (hcd:(nm==("__classdict__" : Str))=false:=by decide):AE X (.Call (.Attribute (.Name nm pn) m apos) [] [] pos) (BH (S:=S) x ns ms mf i (λz k ρ=>k [] ρ)):=by
 obtain⟨f,fd,pl,Fn,h1,h3⟩:=Cm.ex
 intro OK z kk G F Z H ρ Q hO hX St ok k2
 unfold BH at ok
 split at ok
 case h_2=>exact(hO ok).elim
 rename_i q0 hq0
 split at ok
 case isFalse=>exact(hO ok).elim
 rename_i hns
 obtain⟨a,dx,fs,ea,eh,e3,e4⟩:=jW St c hq0
 have sp:=sG (Q:=Q) (vs:=[]) (ds:=[]) hO hX (Same.refl _) St (n:=1) rfl .nil ea ok k2
 unfold cW
 intro pins s I
 refine PySem.W.methodCall_KW (thn (bV hN hv hd hcd pins s Z H (λy H'=>y=.ref a/\H'=H) I ⟨_,ea,rfl,rfl⟩) λu s1 hh=>?_) ht
 obtain⟨y,H1,I1,rx,rfl,rfl⟩:=hh
 obtain rfl:u=Value.ref a:=rx
 refine lU I1 eh c.cl h1 (vw (by rw[e3,hns];exact hm)) ?_
 exact PySem.W.callWith_K0 (first:=[.ref a]) I1.kIn h1.kp (tM (us:=[.ref a]) (vs:=[.ref a]) Fn hr h3 (j9 (G:=G)) I1 (.cons rfl .nil) sp)
end
section
variable {K:Fg}{G:Gh}{F F' H H':Hp}{Z:L2.St}{ρ:En}
theorem bW{α:Type}{l:List α}{a b:α}{i:Nat}(h:l[i]? = some a):(l++[b])[i]? = some a:=by
 rw[List.getElem?_append_left (List.getElem?_eq_some_iff.mp h).1]
 exact h
theorem StOk.more(S:StOk K G F Z H ρ){a:Addr}{c:OC}(oa:OwnAt K G F H a c)(ne:∀(i:Nat) (e:OC),own ρ i e->Z[i]? ≠ some (some (V.ref a))):StOk K G F (Z++[some (.ref a)]) H (ρ++[some (.ol c)]):=by
 have cut:∀i (av:AV),(ρ++[some (.ol c)])[i]? = some (some av)->ρ[i]? = some (some av)\/(i=ρ.length/\av=.ol c):=λi av h=>by
  rw[List.getElem?_append]at h
  split at h
  ·exact .inl h
  ·rename_i hi
   right
   have:i - ρ.length=0:=by
    have:=(List.getElem?_eq_some_iff.mp h).1
    simp at this
    lia
   rw[this]at h
   simp at h
   exact⟨by lia,h.symm⟩
 have cutO:∀i e,own (ρ++[some (.ol c)]) i e->own ρ i e\/(i=ρ.length/\e=c):=λi e h=>by
  rcases h with h|h
  ·rcases cut i _ h with q|⟨q,z⟩
   ·exact .inl (.inl q)
   ·injection z with z;exact .inr ⟨q,z⟩
  ·rcases cut i _ h with q|⟨q,z⟩
   ·exact .inl (.inr q)
   ·cases z
 have at':(Z++[some (V.ref a)])[ρ.length]? = some (some (V.ref a)):=by rw[<-S.ln];simp
 refine⟨S.fh,S.oh,S.fo,by simp[S.ln],λi d h=>?_,λi e h=>?_,λi j d e b h1 h2 q1 q2=>?_,λi b h=>?_,λi e h=>?_,S.fb⟩
 ·rcases cut i _ h with q|⟨_,z⟩
  ·obtain⟨v,e,r⟩:=S.fz i d q;exact⟨v,bW e,r⟩
  ·cases z
 ·rcases cutO i e h with q|⟨rfl,rfl⟩
  ·obtain⟨b,e1,ob⟩:=S.ow i e q;exact⟨b,bW e1,ob⟩
  ·exact⟨a,at',oa⟩
 ·have back:∀i e,own ρ i e->(Z++[some (V.ref a)])[i]? = some (some (V.ref b))->Z[i]? = some (some (V.ref b)):=λi e h q=>by
   obtain⟨b',e1,_⟩:=S.ow i e h
   rw[bW e1]at q
   rw[e1];exact q
  have no:∀i e,own ρ i e->(Z++[some (V.ref a)])[i]? = some (some (V.ref b))->(Z++[some (V.ref a)])[ρ.length]? = some (some (V.ref b))->False:=λi e h q1 q2=>by
   rw[at']at q2
   injection q2 with q2;injection q2 with q2
   rw[<-q2]at q1
   have:=back i e h (q2▸q1)
   exact ne i e h (q2▸this)
  rcases cutO i d h1 with z1|⟨z1,_⟩<;>rcases cutO j e h2 with z2|⟨z2,_⟩
  ·exact S.dj i j d e b z1 z2 (back i d z1 q1) (back j e z2 q2)
  ·subst z2;exact(no i d z1 q1 q2).elim
  ·subst z1;exact(no j e z2 q2 q1).elim
  ·rw[z1,z2]
 ·obtain⟨q1,e,q2⟩:=S.pp i b h;exact⟨bW q1,e,bW q2⟩
 ·rcases cut i _ h with q|⟨_,z⟩
  ·exact S.pq i e q
  ·cases z
theorem StOk.less{u:Option V}{av:AV}{a:Addr}{c:OC}(S:StOk K G F Z H ρ)(S':StOk K G F' (Z++[some (.ref a)]) H' (ρ++[some (.ol c)])):StOk K G F' Z H' ρ/\RVR K G F' Z H' ρ (.ref a) (.fr c):=by
 have at':(ρ++[some (AV.ol c)])[ρ.length]? = some (some (.ol c)):=by simp
 have ats:(Z++[some (V.ref a)])[ρ.length]? = some (some (V.ref a)):=by rw[<-S.ln];simp
 have up:∀i e,own ρ i e->own (ρ++[some (.ol c)]) i e:=λi e h=>h.imp (λq=>bW q) (λq=>bW q)
 have dn:∀i (v:V),i<ρ.length->(Z++[some (V.ref a)])[i]? = some (some v)->Z[i]? = some (some v):=λi v hi h=>by
  rw[List.getElem?_append_left (by rw[S.ln];exact hi)]at h
  exact h
 have lt:∀i (av:AV),ρ[i]? = some (some av)->i<ρ.length:=λi av h=>(List.getElem?_eq_some_iff.mp h).1
 have lo:∀i e,own ρ i e->i<ρ.length:=λi e h=>by rcases h with h|h<;>exact lt _ _ h
 refine⟨⟨S'.fh,S'.oh,S'.fo,S.ln,λi d h=>?_,λi e h=>?_,λi j d e b h1 h2 q1 q2=>S'.dj i j d e b (up i d h1) (up j e h2) (bW q1) (bW q2),S.pp,S.pq,S'.fb⟩,a,rfl,?_,λi e h q=>?_⟩
 ·obtain⟨v,e,r⟩:=S'.fz i d (bW h);exact⟨v,dn i v (lt _ _ h) e,r⟩
 ·obtain⟨b,e1,ob⟩:=S'.ow i e (up i e h);exact⟨b,dn i _ (lo _ _ h) e1,ob⟩
 ·obtain⟨b,e1,ob⟩:=S'.ow ρ.length c (.inl at')
  rw[ats]at e1
  injection e1 with e1;injection e1 with e1;injection e1 with e1
  subst e1
  exact ob
 ·have:=S'.dj i ρ.length e c a (up i e h) (.inl at') (bW q) ats
  have:=lo i e h
  lia
theorem ww(c c':OC):setC (ρ++[some (.ol c)]) ρ.length c'=ρ++[some (.ol c')]:=by
 unfold setC
 simp
end
section
variable {X:Cx}{k:Nat}{f C:Addr}{fd:FuncData}{ps:List Str}{sp:Sp}
theorem wD{pins:zzk}{Z:L2.St}{H:Hp}{s:Shared}{Q:VK}{us:List Value}{vs:List V}(M:Mk X.K C f)(F:FnOk X.prog X.w X.K X.mg X.base (CX1 X.prog X.w) k f fd ps sp)(hr:Room (k+1) X.A)(hb:L2.Binds X.K fd ps [])
  (I:Inv X pins Z H s) (r:Vals vs us)
  (h:∀x dx,H x=none->H dx=none->dx≠x->sp (.ref x::vs) (upd (upd H dx (.own x)) x (.ins C dx [])) (λv H2=>v=.non/\Q (.ref x) H2) (λ_ _ _=>False)) :
  wpAny (model X.prog X.w) X.A (call (.ref C) us) (EP X pins Z Q) X.xe s:=by
 refine L2.run_make (dvs:=[]) (ds:=[]) M F hr hb .nil (E:=λ_ _ _=>False) (λpins Z H s e s' I h=>?_) I r λx dx h1 h2 h3=>by rw[List.append_nil];exact h x dx h1 h2 h3
 obtain⟨_,_,_,_,_,_,_,_,_,_,z⟩:=h
 exact z.elim
end
section
variable {S:Type}
def DX(m:M (D×List D))(k:List D->M S):M S:=match m with
 | .ret (.none,f)=>k f
 | _=>.bad
def E9(j:Nat)(x:Str)(ms:List Str)(mf:List D->List D->M (D×List D))(me:Ev S (List D)):SM S:=λK ρ=>me K.x (λds ρ1=>DX (mf [] ds) λf=>match fW ρ1 j with
 | true=>K.nx (ρ1.set j (some (.ol (.i x ms f))))
 | false=>.bad) ρ
structure CN(P:Program)(w:World)(K:Fg)(mg:zzl)(base:Heap)(C:Addr)(x:Str)(k:Nat)(sp:Sp):Prop where
 ex:∃(f:Addr) (fd:FuncData) (ps:List Str),FnOk P w K mg base (CX1 P w) k f fd ps sp/\Mk K C f/\L2.Binds K fd ps []/\mg x=some (.ref C)
variable {X:Cx}{k n j:Nat}{f C:Addr}{fd:FuncData}{ps:List Str}{mf:List D->List D->M (D×List D)}{x y:Str}{ms:List Str}{p pos pos' pos2:Pos}{e:Expr}{es:List Expr}{me:Ev S (List D)}
theorem BZ(c:IC X.K x C)(Cn:CN X.prog X.w X.K X.mg X.base C x k (b9 X.K x [] ms n mf))(hr:Room (k+1) X.A)(hg:Gl X x)
  (ha:AEa X (e::es) me) (hn:(e::es).length+1=n) (hdb:(x==("__debug__" : Str))=false) (he:starEach (e::es) X.env=(false,eval e X.env)::starEach es X.env) (hpl:(backTo pos2 (starEach es X.env)).any (·.1)=false)
  (hN:X.N.Nodup) (hi:X.N[j]? = some y) (hy:Loc X.env.scope y) (hs:swapsWith (.Call (.Name x p) (e::es) [] pos2) (some (.Name y pos')) pos.line X.env=pure false) (hf:X.fn y=true\/X.env.scope.names.lookup y=some .local) :
  AS X (.Assign [.Name y pos'] (.Call (.Name x p) (e::es) [] pos2) pos) (E9 j x ms mf me):=λOK K G F Z H ρ E hO hX St ok eo=>by
 obtain⟨f,fd,ps,Fn,Mf,hb,hm⟩:=Cn.ex
 refine gc (oS hN hi hy aH hs hf) ?_
 show cW X (.Call (.Name x p) (e::es) [] pos2) Z H _
 unfold cW
 intro pins s I
 have ar:dB X (e::es) Z H λvs H1=>∀a dx,H1 a=none->H1 dx=none->dx≠a->b9 X.K x [] ms n mf (.ref a::vs) (upd (upd H1 dx (.own a)) a (.ins C dx [])) (λv H2=>v=.non/\E.nx (Z.set j (some (.ref a))) H2) (λ_ _ _=>False) :=
  ha OK K.x _ G F Z H ρ _ hO hX St ok λds vs F1 H1 ρ1 s1 S1 hl r1 o1=>by
   intro a dx h1 h2 h3
   unfold DX at o1
   split at o1
   case h_2=>exact(hO o1).elim
   rename_i g hd
   split at o1
   case h_2=>exact(hO o1).elim
   rename_i hok
   obtain⟨hlj,hop⟩:=cK hok
   have hx:(upd H1 dx (.own a)) a=none:=by rw[aF (Ne.symm h3)];exact h1
   have S2:StOk X.K G F1 Z (upd (upd H1 dx (.own a)) a (.ins C dx [])) ρ1:=(S1.lay h2).lay hx
   have oa:OwnAt X.K G F1 (upd (upd H1 dx (.own a)) a (.ins C dx [])) a (.i x [] []):=⟨S1.fh.free h1,S1.oh.free h1,C,dx,[],aK,c.ns,rfl,.nil⟩
   have ne:∀(i:Nat) (e:OC),own ρ1 i e->Z[i]? ≠ some (some (V.ref a)):=S1.fresh_ne h1
   have S3:=StOk.more S2 oa ne
   have ho:own (ρ1++[some (.ol (.i x [] []))]) ρ1.length (.i x [] []):=.inl (by simp)
   have hs':(Z++[some (V.ref a)])[ρ1.length]? = some (some (V.ref a)):=by rw[<-S1.ln];simp
   refine⟨_,F1,[],ds,by rw[List.length_cons,hl];exact hn,g7 S3 ho hs' r1,?_⟩
   rw[hd]
   intro v F2 H2 s2 S4 r2
   obtain⟨S5,_⟩:=iI (c':=.i x ms g) (l:=ds.map AV.fz) S3 ho hs' s2 S4
   rw[ww]at S5
   obtain⟨S6,r6⟩:=StOk.less (u:=none) (av:=.fz .none) S2 S5
   refine⟨r2.inv,eo.nx F2 _ H2 _ (s1.trans s2) (S6.store hop hlj (.inr ⟨.i x ms g,rfl,r6⟩)) o1⟩
 unfold dB at ar
 refine wpAny_Call_Name_kw (kH I hg hm ?_ hdb)
 refine PySem.W.callWith_K (h₀:=X.base) I.ok.mod.kin Mf.kp (thn (ar pos2 pins s I) λus s1 hh=>?_) he hpl
 obtain⟨vs,H1,I1,r,q⟩:=hh
 exact⟨I1.kIn,wD Mf Fn hr hb I1 r q⟩
end
section
variable {K:Fg}{x m qual:Str}{st:Stmt}{C f:Addr}{oc:Value}{od an:Option Addr}{osl:Array (Option Value)}{kV doc pm cdv ct:Value}
def Fm(K:Fg)(C:Addr)(m qual:Str)(st:Stmt):Prop:=∃f fd,Meth K C m f/\Fun K m qual st f fd
theorem lY(a:PySem.W.findIn K (.ref C) m=some (some (.ref f)))(l:K.lookup f=some ⟨oc,od,.func (PySem.W.fnOf m qual (cz st) (bf st) (au st) .none kV doc pm an cdv ct),osl⟩)
  (c:PySem.W.codeIn K cdv qual=true) (k:PySem.W.keepIn K (.ref f)=true) (i:PySem.W.isFn K (.ref f)=true):Fm K C m qual st:=⟨f,_,⟨a,i,k⟩,pV l c k⟩
def Fi(K:Fg)(C:Addr)(qual:Str)(st:Stmt):Prop:=∃f fd,Mk K C f/\Fun K "__init__" qual st f fd
theorem GE(a:PySem.W.findIn K (.ref C) "__init__" = some (some (.ref f)))(l:K.lookup f=some ⟨oc,od,.func (PySem.W.fnOf "__init__" qual (cz st) (bf st) (au st) .none kV doc pm an cdv ct),osl⟩)
  (c:PySem.W.codeIn K cdv qual=true) (k:PySem.W.keepIn K (.ref f)=true) (i:PySem.W.isFn K (.ref f)=true) (mk:PySem.W.makesIn K C=true) (kp:PySem.W.keepIn K (.ref C)=true):Fi K C qual st:=⟨f,_,⟨mk,a,i,kp⟩,pV l c k⟩
def Ci(K:Fg)(x:Str)(C:Addr)(ns:List Str):Prop:=IC K x C/\∀f∈ns,NoAttr K C f
theorem GJ{ns:List Str}(a:PySem.W.nsIn K mainGlobals x=some (some (.ref C)))(pg:PySem.W.plainGet K C Str.empty=true)(hd:PySem.W.hasDictIn K C=true)(po:PySem.W.plainOver K C=true)
  (sa:PySem.W.findIn K (.ref C) "__setattr__" = some (some (.builtin "object.__setattr__"))) (n:∀f∈ns,NoAttr K C f):Ci K x C ns:=⟨⟨a,⟨pg,hd,po,sa⟩⟩,n⟩
def Kc(K:Fg)(x:Str)(v:V):Prop:=∃u,PySem.W.nsIn K mainGlobals x=some (some u)/\RelV v u
theorem vy{u:Value}{v:V}(a:PySem.W.nsIn K mainGlobals x=some (some u))(r:RelV v u):Kc K x v:=⟨u,a,r⟩
theorem vA{h:Heap}{mg:zzl}{v:V}(X:K.In h)(G:h.Ns mainGlobals mg)(c:Kc K x v):∃u,mg x=some u/\RelV v u:=let ⟨u,a,r⟩:=c;⟨u,PySem.W.mg_of X G a,r⟩
end
def qG(K:Fg)(x:Str)(ms:List Str)(n:Nat)(mf:List D->M (List D)):Sp:=λvs H Q E=>∃G F ds,vs.length=n/\StOk K G F (vs.map some) H (fzs ds)/\fU K G E (mf ds) λd =>
 ∀v F' H',Same F F'->StOk K G F' (vs.map some) H' (fzs ds)->Frs K G F' (vs.map some) H' (fzs ds) v (.i x ms d)->Q v H'
def EA{S:Type}(x:Str)(ms:List Str)(c:OC)(k:List D->M S):M S:=match c with
 | .i y ns f=>if y=x/\ns=ms then k f else .bad
 | _=>.bad
theorem B0{S:Type}{x:Str}{ms:List Str}{c:OC}{k:List D->M S}{K:Fg}{G:Gh}{E:XK}{C:S->Prop}(h:fU K G E (EA x ms c k) C):∃f,c=.i x ms f/\fU K G E (k f) C:=by
 unfold EA at h
 split at h
 ·split at h
  ·rename_i e;obtain⟨rfl,rfl⟩:=e;exact⟨_,rfl,h⟩
  ·exact(h:False).elim
 ·exact(h:False).elim
def KIR(x:Str)(ms:List Str):KS (List D):=⟨λ_=>.bad,λ_ _=>.bad,λc _=>EA x ms c .ret,λ_=>.bad,λ_=>.bad,λe _=>.exc e⟩
section
variable {P:Program}{w:World}{K:Fg}{mg:zzl}{base:Heap}{x qual:Str}{st:Stmt}{f:Addr}{fd:FuncData}{N ps:List Str}{k:Nat}{y:Str}{ms:List Str}
theorem BD{mb:SM (List D)}{mf:List D->M (List D)}(Fn:Fun K x qual st f fd)(Sc:FnScope N ps (au st))
  (hb:∀(cdv:Value) (A:Around) (outer:List Env) (s:Shared) (H:Hp) (E:XK),Room k (A.deeper (envOfC qual (au st) s.heap.objs.size f cdv)) ->
   ASs (jt (CX1 P w) P w K mg base N qual (au st) f cdv A outer s H E) (bf st) mb)
  (hm:∀ds,ds.length=ps.length->mf ds=mb (KIR y ms) (fzs ds++List.replicate (N.length - ps.length) none)):FnOk P w K mg base (CX1 P w) (k+1) f fd ps (qG K y ms ps.length mf):=by
 refine xC Fn Sc (λvs H Q E h=>?_) (λcdv A outer s H vs Q E hr h=>?_)
 ·obtain⟨_,_,_,h1,_⟩:=h;exact h1
 ·obtain⟨G,F0,ds,h1,S0,e⟩:=h
  have hl:ds.length=ps.length:=by have:=S0.ln;simp at this;lia
  rw[hm ds hl]at e
  refine⟨_,dm,hb cdv A outer s H E hr (λm=>fU K G E m _) (KIR y ms) G F0 _ H _ _ (λz=>z) (λF ρ e z=>rY z) (kX h1 S0) e ?_⟩
  exact⟨λF' σ' H' ρ' s S' o=>(o:False).elim,λF' σ' H' ρ' d' v s S' r o=>(o:False).elim,λF' σ' H' ρ' d' v s S' r o=>(by obtain⟨ds',rfl,o2⟩:=B0 o;exact o2 v F' H' s (qg S0 s S') (vU S' r)),λF' σ' H' ρ' s S' o=>(o:False).elim,λF' σ' H' ρ' s S' o=>(o:False).elim⟩
end
section
variable {S:Type}
def Fb(j:Nat)(x:Str)(ms:List Str)(mf:List D->M (List D))(me:Ev S (List D)):SM S:=λK ρ=>me K.x (λds ρ1=>(mf ds).on (λe=>K.x e ρ1) (λf=>match fW ρ1 j with
 | true=>K.nx (ρ1.set j (some (.ol (.i x ms f))))
 | false=>.bad)) ρ
variable {X:Cx}{k n:Nat}{mf:List D->M (List D)}{x y g:Str}{ms:List Str}{p pos pos' pos2:Pos}{e:Expr}{es:List Expr}{me:Ev S (List D)}
theorem kN{j:Nat}(C:CF X.prog X.w X.K X.mg X.base g k (qG X.K x ms n mf))(hr:Room k X.A)(hN:X.N.Nodup)(ha:AEa X (e::es) me)(hg:Gl X g:=by rfl)(hi:X.N[j]? = some y:=by rfl)(hy:Loc X.env.scope y:=by exact lo rfl)(hn:(e::es).length=n:=by rfl)
  (hdb:(g==("__debug__" : Str))=false:=by decide) (he:starEach (e::es) X.env=(false,eval e X.env)::starEach es X.env:=by rfl) (hpl:(backTo pos2 (starEach es X.env)).any (·.1)=false:=by rfl)
  (hs:swapsWith (.Call (.Name g p) (e::es) [] pos2) (some (.Name y pos')) pos.line X.env=pure false:=by rfl) (hf:X.fn y=true\/X.env.scope.names.lookup y=some .local:=by exact .inl rfl) :
  AS X (.Assign [.Name y pos'] (.Call (.Name g p) (e::es) [] pos2) pos) (Fb j x ms mf me):=λOK K G F Z H ρ E hO hX St ok eo=>by
 obtain⟨f,fd,pl,Fn,h1,h2,h3⟩:=C.ex
 refine gc (oS hN hi hy aH hs hf) ?_
 refine fj Fn hr hg h1 h2 h3 (j9 (G:=G)) hdb he hpl ?_
 refine ha OK K.x _ G F Z H ρ _ hO hX St ok λds vs F1 H1 ρ1 s1 S1 hl r1 o1=>?_
 show qG X.K x ms n mf vs H1 _ (EX X G Z)
 cases hd:mf ds with
 | bad=>rw[hd]at o1;exact(hO o1).elim
 | exc e =>
  rw[hd]at o1
  exact⟨_,F1,ds,hl.trans hn,cf S1 r1,by rw[hd];exact λF' H' Cl dd g xr=>EX.of S1 (hX F1 ρ1 e o1) g xr⟩
 | ret d =>
  rw[hd]at o1
  refine⟨_,F1,ds,hl.trans hn,cf S1 r1,?_⟩
  rw[hd]
  intro v F2 H2 s2 S2 r2
  obtain⟨S3,t3⟩:=eF (avs':=ds.map AV.fz) S1 s2 S2
  have o1:OK (match fW ρ1 j with|true=>K.nx (ρ1.set j (some (.ol (.i x ms d))))|false=>.bad):=o1
  split at o1
  case h_2=>exact(hO o1).elim
  rename_i hok
  obtain⟨hlj,hop⟩:=cK hok
  exact eo.nx F2 _ H2 _ (s1.trans s2) (S3.store hop hlj (.inr ⟨.i x ms d,rfl,t3 v _ r2⟩)) o1
end
mutual
def noL:D->Bool
 | .list _=>false
 | .dict _=>false
 | .tuple ds=>pH ds
 | _=>true
def pH:List D->Bool
 | []=>true
 | d::ds=>noL d&&pH ds
end
def cut(F:Hp)(a:Addr):Hp:=λb=>if b=a then none else F b
theorem uS{K:Fg}{F:Hp}{a:Addr}{xs:List V}(ha:F a=some (.lst xs)){v:V}{d:D}(h:Rep K F v d):noL d=true->Rep K (cut F a) v d :=
 Rep.rec (motive_1:=λv d _=>noL d=true->Rep K (cut F a) v d) (motive_2:=λvs ds _=>pH ds=true->RepL K (cut F a) vs ds) (λ_=>.non) (λb _=>.bl b) (λi _=>.int i) (λx _=>.str x)
  (λ{b vs ds} e _ ih q=>.tup (by
   unfold cut
   rw[if_neg (by rintro rfl;rw[ha]at e;cases e)]
   exact e) (ih q))
  (λ_ _ _ q=>by cases q) (λ_ _ _ _ q=>by cases q) (λ_ _ _ _ q=>by cases q) (λ_ _ _ _ _ _ q=>by cases q) (λ_ q=>by cases q)
  (λ_=>.nil) (λ_ _ i1 i2 q=>by
   rw[pH,Bool.and_eq_true]at q
   exact .cons (i1 q.1) (i2 q.2)) h
theorem qL{K:Fg}{F:Hp}{a:Addr}{xs:List V}(ha:F a=some (.lst xs)):∀{vs:List V} {ds:List D},RepL K F vs ds->pH ds=true->RepL K (cut F a) vs ds
 | _,_,.nil,_=>.nil
 | _,_,.cons h t,q=>by
  rw[pH,Bool.and_eq_true]at q
  exact .cons (uS ha h q.1) (qL ha t q.2)
def ocL:OC->Bool
 | .l ds=>pH ds
 | _=>false
def slL:Option AV->Bool
 | some (.ol c)=>ocL c
 | some (.op c)=>ocL c
 | _=>true
def wO:Nat->En->Bool
 | _,[]=>true
 | 0,_::r=>r.all slL
 | i+1,s::r=>slL s&&wO i r
theorem oW:∀{i:Nat} {ρ:En} {j:Nat} {s:Option AV},wO i ρ=true->j≠i->ρ[j]? = some s->slL s=true
 | _,[],_,_,_,_,h=>by simp at h
 | 0,_::r,0,_,_,h,_=>absurd rfl h
 | 0,_::r,j+1,s,q,_,h=>List.all_eq_true.mp q s (List.mem_of_getElem? (by simpa using h))
 | i+1,s::r,0,_,q,_,h=>by
  rw[wO,Bool.and_eq_true]at q
  cases h
  exact q.1
 | i+1,s::r,j+1,_,q,hj,h=>by
  rw[wO,Bool.and_eq_true]at q
  exact oW (j:=j) q.2 (by lia) (by simpa using h)
def lend(b:Bool)(m:M D):M D:=match m with
 | .ret d=>if noL d&&b then .ret d else .bad
 | _=>.bad
def CD(mf:List D->M D)(i:Nat):Pu D:=λρ=>match ρ[i]? with
 | some (some (.ol (.l ds)))=>lend (wO i ρ) (mf [.list ds])
 | _=>.bad
theorem B1{X:Cx}{k:Nat}{mf:List D->M D}{x nm:Str}{i:Nat}{p pn pos:Pos}(C:CF X.prog X.w X.K X.mg X.base x k (spD X.K 1 mf))(hr:Room k X.A)(hg:Gl X x:=by rfl)(hN:X.N[i]? = some nm:=by rfl)(hv:Vis X.env.scope nm:=by exact vi rfl)
  (hdb:(x==("__debug__" : Str))=false:=by decide) (he:starEach [.Name nm pn] X.env=(false,eval (.Name nm pn) X.env)::starEach [] X.env:=by rfl) (hpl:(backTo pos (starEach [] X.env)).any (·.1)=false:=by rfl)
  (hd:(nm==("__debug__" : Str))=false:=by decide) (hcd:(nm==("__classdict__" : Str))=false:=by decide):AP X (.Call (.Name x p) [.Name nm pn] [] pos) (CD mf i):=by
 obtain⟨f,fd,pl,Fn,h1,h2,h3⟩:=C.ex
 intro G F Z H ρ Q St w
 unfold CD at w
 split at w
 case h_2=>exact w.elim
 rename_i ds q
 obtain⟨a,ea,oa⟩:=St.ow i _ (.inl q)
 obtain⟨F1,s1,S1,r1,hF⟩:=St.settleE (oc:=.l ds) rfl q ea
 refine fj Fn hr hg h1 h2 h3 (j9 (G:=G)) hdb he hpl ?_
 refine qJ (gX (bV hN hv hd hcd) lC he) ⟨_,ea,?_⟩
 show spD X.K 1 mf [.ref a] H Q (EX X G Z)
 cases hq:mf [.list ds]with
 | bad=>rw[hq]at w;exact w.elim
 | exc e=>rw[hq]at w;exact w.elim
 | ret d =>
  rw[hq]at w
  have w:W X G F Z ρ (if noL d&&wO i ρ then M.ret d else .bad) _:=w
  split at w
  case isFalse=>exact w.elim
  rename_i hb
  rw[Bool.and_eq_true]at hb
  refine⟨_,F1,[.list ds],rfl,cf S1 (.cons r1 .nil),?_⟩
  rw[hq]
  intro v F2 H2 s2 S2 r2
  obtain⟨S3,_⟩:=eF (avs':=[PyData.list ds].map AV.fz) S1 s2 S2
  obtain⟨vs,ha,hrep⟩:=(show Held X.K F H a (.l ds)from oa.he)
  have hF1:F2 a=some (.lst vs):=s2 _ _ ((hF a rfl).trans ha)
  have same:Same F (cut F2 a):=λb o e=>by
   unfold cut
   rw[if_neg (by rintro rfl;rw[oa.nf]at e;cases e)]
   exact s2 _ _ (s1 _ _ e)
  have dn:∀b o,cut F2 a b=some o->F2 b=some o:=λb o e=>by
   unfold cut at e
   split at e
   ·cases e
   ·exact e
  have up:∀b,F2 b=none->cut F2 a b=none:=λb e=>by
   unfold cut
   split
   ·rfl
   ·exact e
  refine w (cut F2 a) H2 same ⟨λb o e=>S3.fh _ _ (dn b o e),S3.oh,λb o e=>⟨up b (S3.fo b o e).1,(S3.fo b o e).2⟩,St.ln,λj d e=>?_,λj c h=>?_,St.dj,St.pp,St.pq,λb o e=>same _ _ (St.fb _ _ e)⟩ v (uS hF1 r2 hb.1)
  ·obtain⟨u,e1,r⟩:=St.fz j d e
   exact⟨u,e1,r.mono same⟩
  ·by_cases hj:j=i
   ·subst hj
    have hc:c=.l ds:=by
     rcases h with h|h<;>rw[q]at h<;>cases h
     rfl
    subst hc
    exact⟨a,ea,by unfold cut;rw[if_pos rfl],oa.no,vs,S3.fh _ _ hF1,hrep.mono same⟩
   ·have h':own (ρ.set i (some (.fz (.list ds)))) j c:=by
     unfold own at h ⊢
     rw[List.getElem?_set_ne (Ne.symm hj)]
     exact h
    obtain⟨b,e1,ob⟩:=S3.ow j c h'
    have sl:ocL c=true:=by
     rcases h with h|h
     ·exact oW hb.2 hj h
     ·exact oW hb.2 hj h
    cases c with
    | l ds' =>
     obtain⟨vs',h3,h4⟩:=(show Held X.K F2 H2 b (.l ds')from ob.he)
     exact⟨b,e1,up b ob.nf,ob.no,vs',h3,qL hF1 h4 sl⟩
    | _=>cases sl
end L4
namespace WS
open PySem PySem.SetTable
def run(m i:Nat):List Nat:=List.range' i (runEnd m i+1 - i)
def lp(m:Nat)(q:Nat×Nat):Nat×Nat:=leap m q.1 q.2
def rdL(m:Nat):Nat->Nat×Nat->List Nat
 | 0,_=>[]
 | n+1,q=>run m q.1++rdL m n (lp m q)
def Rd(m:Nat)(h:Int):List Nat:=rdL m (turns m) (bits h % (m+1),bits h)
def Mk(m:Nat):Prop:=m=7\/m=31\/m=127
def itr(m:Nat):Nat->Nat×Nat->Nat×Nat
 | 0,q=>q
 | n+1,q=>itr m n (lp m q)
theorem jD(m i:Nat):i<=runEnd m i:=by unfold runEnd;split<;>omega
theorem tN(m i:Nat):runEnd m i<=i+9:=by unfold runEnd;split<;>omega
theorem yu{m i:Nat}(h:i<=m):runEnd m i<=m:=by unfold runEnd;split<;>omega
theorem jr(m:Nat):∀(a b:Nat) (q:Nat×Nat),itr m (a+b) q=itr m b (itr m a q)
 | 0,b,q=>by rw[Nat.zero_add];rfl
 | a+1,b,q=>by rw[Nat.add_right_comm];exact jr m a b (lp m q)
theorem vC(m:Nat):∀(n N:Nat) (q:Nat×Nat),n<N->(itr m n q).1∈rdL m N q
 | _,0,_,h=>by omega
 | 0,N+1,q,_=>by
  refine List.mem_append.mpr (.inl ?_)
  have:=jD m q.1
  exact List.mem_range'_1.mpr ⟨Nat.le_refl _,by show q.1<q.1+(runEnd m q.1+1 - q.1);omega⟩
 | n+1,N+1,q,h=>List.mem_append.mpr (.inr (vC m n N (lp m q) (by omega)))
theorem CQ(m:Nat):∀(n:Nat) (q:Nat×Nat),(itr m n q).2=q.2 / 32^n
 | 0,q=>by show q.2=q.2 / 1;rw[Nat.div_one]
 | n+1,q=>by
  show(itr m n (lp m q)).2=_
  rw[CQ m n,Nat.pow_succ,Nat.mul_comm,<-Nat.div_div_eq_div_mul]
  rfl
theorem Gf(m:Nat)(q:Nat×Nat):(lp m q).1<=m:=Nat.le_of_lt_succ (Nat.mod_lt _ (Nat.succ_pos _))
theorem CS{m:Nat}:∀(n:Nat) (q:Nat×Nat),q.1<=m->(itr m n q).1<=m
 | 0,q,h=>h
 | n+1,q,_=>CS n (lp m q) (Gf m q)
theorem BP(h:Int):bits h<2^64:=by unfold bits;omega
def yW(m:Nat):Nat->Nat->List Nat
 | 0,_=>[]
 | n+1,i=>i::yW m n ((i*5+1) % (m+1))
theorem Gg(m i:Nat):lp m (i,0)=((i*5+1) % (m+1),0):=by
 show((i*5+1+0 / 32) % (m+1),0 / 32)=_
 simp
theorem lD(m:Nat):∀(n i j:Nat),j∈yW m n i->∃a,a<n/\itr m a (i,0)=(j,0)
 | 0,_,_,h=>by cases h
 | n+1,i,j,h=>by
  rcases List.mem_cons.mp h with rfl|h
  ·exact⟨0,by omega,rfl⟩
  ·obtain⟨a,ha,e⟩:=lD m n _ j h
   exact⟨a+1,by omega,by show itr m a (lp m (i,0))=_;rw[Gg];exact e⟩
def full(m:Nat):Bool:=(List.range (m+1)).all (λj=>(yW m (m+1) 0).contains j)&&(yW m (m+2) 0)[m+1]? == some 0
theorem vd(m:Nat):∀(n i k j:Nat),(yW m n i)[k]? = some j->itr m k (i,0)=(j,0)
 | 0,_,_,_,h=>by cases h
 | n+1,i,0,j,h=>by cases h;rfl
 | n+1,i,k+1,j,h=>by show itr m k (lp m (i,0))=_;rw[Gg];exact vd m n _ k j h
theorem BB{m:Nat}(h:Mk m):full m=true:=by
 rcases h with rfl|rfl|rfl<;>decide +kernel
theorem cyc{m:Nat}(h:Mk m){i j:Nat}(hi:i<=m)(hj:j<=m):∃n,n<=m/\itr m n (i,0)=(j,0):=by
 have f:=BB h
 unfold full at f
 rw[Bool.and_eq_true,List.all_eq_true,beq_iff_eq]at f
 obtain⟨f1,f2⟩:=f
 obtain⟨a,ha,ea⟩:=lD m _ _ _ (List.contains_iff_mem.mp (f1 i (List.mem_range.mpr (by omega))))
 obtain⟨b,hb,eb⟩:=lD m _ _ _ (List.contains_iff_mem.mp (f1 j (List.mem_range.mpr (by omega))))
 have ez:=vd m _ _ _ _ f2
 by_cases hab:a<=b
 ·refine⟨b - a,by omega,?_⟩
  rw[<-ea,<-jr,Nat.add_sub_cancel' hab,eb]
 ·refine⟨m+1+b - a,by omega,?_⟩
  rw[<-ea,<-jr,show a+(m+1+b - a)=(m+1)+b by omega,jr,ez,eb]
theorem cov{m:Nat}(hm:Mk m)(h:Int){j:Nat}(hj:j<=m):j∈Rd m h:=by
 have h2:(itr m 13 (bits h % (m+1),bits h)).2=0:=by
  rw[CQ]
  have:=BP h
  exact Nat.div_eq_of_lt (Nat.lt_of_lt_of_le this (by decide))
 have h1:(itr m 13 (bits h % (m+1),bits h)).1<=m:=CS 13 _ (Nat.le_of_lt_succ (Nat.mod_lt _ (Nat.succ_pos _)))
 obtain⟨n,hn,e⟩:=cyc hm h1 hj
 have:=vC m (13+n) (turns m) (bits h % (m+1),bits h) (by unfold turns;omega)
 rw[jr,show itr m 13 (bits h % (m+1),bits h)=((itr m 13 (bits h % (m+1),bits h)).1,0)from Prod.ext rfl h2,e]at this
 exact this
theorem yz{m:Nat}:∀(n:Nat) (q:Nat×Nat),q.1<=m->∀j∈rdL m n q,j<=m
 | 0,_,_,_,h=>by cases h
 | n+1,q,hq,j,h=>by
  rcases List.mem_append.mp h with h|h
  ·have h':j∈List.range' q.1 (runEnd m q.1+1 - q.1):=h
   have:=(List.mem_range'_1.mp h').2
   have:=yu hq
   omega
  ·exact yz n _ (Gf m q) j h
theorem Ao{m:Nat}{h:Int}{j:Nat}(x:j∈Rd m h):j<=m:=yz _ _ (Nat.le_of_lt_succ (Nat.mod_lt _ (Nat.succ_pos _))) j x
theorem uT{m:Nat}:∀(n:Nat) (q:Nat×Nat),(rdL m n q).length<=10*n
 | 0,_=>Nat.le_refl _
 | n+1,q=>by
  show(run m q.1++rdL m n (lp m q)).length<=_
  rw[zzf]
  have:=uT (m:=m) n (lp m q)
  have:(run m q.1).length<=10:=by
   show(List.range' _ _).length<=10
   rw[List.length_range']
   have:=tN m q.1
   omega
  omega
def Up(xs:Array Nat):Prop:=xs.toList.Pairwise (· < ·)
theorem Up.lt{xs:Array Nat}(U:Up xs){a b u v:Nat}(h:a<b)(ha:xs[a]? = some u)(hb:xs[b]? = some v):u<v:=by
 rw[<-Array.getElem?_toList]at ha hb
 obtain⟨h1,e1⟩:=List.getElem?_eq_some_iff.mp ha
 obtain⟨h2,e2⟩:=List.getElem?_eq_some_iff.mp hb
 have:=List.pairwise_iff_getElem.mp U a b h1 h2 h
 rw[e1,e2]at this
 exact this
theorem mF{xs:Array Nat}(U:Up xs)(j:Nat):∀(fuel lo hi:Nat),hi - lo<=fuel->lo<=hi->hi<=xs.size->(∀i u,i<lo->xs[i]? = some u->u<j)->(∀i u,hi<=i->xs[i]? = some u->j<=u) ->
  (∀i u,i<below.go xs j fuel lo hi->xs[i]? = some u->u<j)/\(∀i u,below.go xs j fuel lo hi<=i->xs[i]? = some u->j<=u)/\below.go xs j fuel lo hi<=xs.size
 | 0,lo,hi,h1,h2,h3,a,b=>by
  have:lo=hi:=by omega
  subst this
  exact⟨a,b,h3⟩
 | fuel+1,lo,hi,h1,h2,h3,a,b=>by
  unfold below.go
  by_cases hl:lo<hi
  ·rw[if_pos hl]
   have hm:(lo+hi) / 2<xs.size:=by omega
   have em:xs[(lo+hi) / 2]? = some (xs.getD ((lo+hi) / 2) j):=by rw[Array.getD_eq_getD_getElem?,Array.getElem?_eq_getElem hm];rfl
   dsimp only
   by_cases hv:xs.getD ((lo+hi) / 2) j<j
   ·rw[if_pos hv]
    refine mF U j fuel _ hi (by omega) (by omega) h3 (λi u hi' e=>?_) b
    by_cases q:i=(lo+hi) / 2
    ·subst q;rw[em]at e;cases e;exact hv
    ·exact Nat.lt_trans (U.lt (show i<(lo+hi) / 2 by omega) e em) hv
   ·rw[if_neg hv]
    refine mF U j fuel lo _ (by omega) (by omega) (by omega) a (λi u hi' e=>?_)
    by_cases q:i=(lo+hi) / 2
    ·subst q;rw[em]at e;cases e;omega
    ·have:=U.lt (show(lo+hi) / 2<i by omega) em e;omega
  ·rw[if_neg hl]
   have:lo=hi:=by omega
   subst this
   exact⟨a,b,h3⟩
theorem fS{xs:Array Nat}(U:Up xs)(j:Nat):(∀i u,i<below xs j->xs[i]? = some u->u<j)/\(∀i u,below xs j<=i->xs[i]? = some u->j<=u)/\below xs j<=xs.size :=
 mF U j xs.size 0 xs.size (by omega) (by omega) (Nat.le_refl _) (λi u h=>by omega) (λi u h e=>by rw[Array.getElem?_eq_none h]at e;cases e)
theorem below_at{xs:Array Nat}(U:Up xs){i j:Nat}(e:xs[i]? = some j):below xs j=i:=by
 obtain⟨a,b,c⟩:=fS U j
 have hi:i<xs.size:=(Array.getElem?_eq_some_iff.mp e).1
 rcases Nat.lt_trichotomy (below xs j) i with h|h|h
 ·have g:=Array.getElem?_eq_getElem (show below xs j<xs.size by omega)
  have:=b _ _ (Nat.le_refl _) g
  have:=U.lt h g e
  omega
 ·exact h
 ·have:=a _ _ h e;omega
theorem uA{xs:Array Nat}(U:Up xs){i j:Nat}(e:xs[i]? = some j):below xs (j+1)=i+1:=by
 obtain⟨a,b,c⟩:=fS U (j+1)
 rcases Nat.lt_trichotomy (below xs (j+1)) (i+1)with h|h|h
 ·have:=b i _ (by omega) e;omega
 ·exact h
 ·have g:=Array.getElem?_eq_getElem (show i+1<xs.size by omega)
  have:=a _ _ h g
  have:=U.lt (Nat.lt_succ_self i) e g
  omega
theorem BR{xs:Array Nat}(U:Up xs):below xs 0=0:=by
 obtain⟨a,b,c⟩:=fS U 0
 rcases Nat.eq_zero_or_pos (below xs 0)with h|h
 ·exact h
 ·have g:=Array.getElem?_eq_getElem (show 0<xs.size by omega)
  have:=a _ _ h g;omega
theorem wg{xs:Array Nat}(U:Up xs){j:Nat}(hj:j∉xs.toList):Up (insertAt xs (below xs j) j):=by
 obtain⟨a,b,c⟩:=fS U j
 unfold Up
 rw[SetTable.toList_insertAt]
 have ha:∀u∈xs.toList.take (below xs j),u<j:=λu hu=>by
  obtain⟨i,hi,e⟩:=List.mem_take_iff_getElem.mp hu
  exact a i u (by omega) (by rw[<-Array.getElem?_toList];exact List.getElem?_eq_some_iff.mpr ⟨by omega,e⟩)
 have hb:∀u∈xs.toList.drop (below xs j),j<u:=λu hu=>by
  have hm:=List.mem_of_mem_drop hu
  obtain⟨i,hi,e⟩:=List.mem_drop_iff_getElem.mp hu
  have:=b (below xs j+i) u (by omega) (by rw[<-Array.getElem?_toList];exact List.getElem?_eq_some_iff.mpr ⟨by omega,e⟩)
  have:u≠j:=λz=>hj (z▸hm)
  omega
 rw[List.pairwise_append,List.pairwise_cons]
 refine⟨List.Pairwise.sublist (List.take_sublist _ _) U,⟨hb,List.Pairwise.sublist (List.drop_sublist _ _) U⟩,λu hu v hv=>?_⟩
 rcases List.mem_cons.mp hv with rfl|hv
 ·exact ha u hu
 ·exact Nat.lt_trans (ha u hu) (hb v hv)
def On(m:Nat)(h:Int)(P:List Nat)(j:Nat):Prop:=∃k:Nat,(Rd m h)[k]? = some j/\∀k',k'<k->∀x,(Rd m h)[k']? = some x->x∈P
theorem On.mono{m:Nat}{h:Int}{P P':List Nat}{j:Nat}(x:On m h P j)(s:∀y∈P,y∈P'):On m h P' j:=let ⟨k,a,b⟩:=x;⟨k,a,λk' hk y e=>s y (b k' hk y e)⟩
structure Tb(t:SetTable)(es:Array (Int×Value)):Prop where
 km:Mk t.mask
 du:t.dummies = #[]
 sz:t.place.size=es.size
 up:Up t.place
 le:∀j∈t.place.toList,j<=t.mask
 pl:t.plain=true
 fu:t.place.size<=t.mask
 rd:∀e j,(e,j)∈es.toList.zip t.place.toList->On t.mask e.1 t.place.toList j
section
variable {t:SetTable}{es:Array (Int×Value)}
theorem Tb.fill(T:Tb t es):t.fill=t.place.size:=by unfold SetTable.fill;rw[T.du];rfl
theorem Tb.fits(T:Tb t es):t.fits es.size=true:=by
 have:=T.fu
 simp only[SetTable.fits,T.fill,T.sz,Bool.and_eq_true,beq_iff_eq,zzi,true_and]
 rw[<-T.sz];exact this
theorem Tb.odd(T:Tb t es):t.gaveWay=false:=by
 unfold SetTable.gaveWay
 rcases T.km with h|h|h<;>rw[h]<;>rfl
theorem vF(j:Nat):has #[] j=false:=rfl
theorem Tb.slot_in(T:Tb t es){i j:Nat}(e:t.place[i]? = some j):t.slot j=.live i:=by
 unfold SetTable.slot
 dsimp only
 rw[below_at T.up e,if_pos (by rw[e];exact beq_self_eq_true _)]
theorem Tb.slot_out(T:Tb t es){j:Nat}(h:j∉t.place.toList):t.slot j=.empty:=by
 unfold SetTable.slot
 dsimp only
 rw[if_neg,T.du,vF,if_neg (by decide)]
 intro z
 have z':=eq_of_beq z
 rw[<-Array.getElem?_toList]at z'
 exact h (List.mem_of_getElem? z')
def At(m:Nat)(p:Probe)(l:List Nat):Prop:=p.dummy=none/\∃n,l=List.range' p.j (p.more+1)++rdL m n (lp m (p.i,p.perturb))
theorem z9(t:SetTable)(h:Int):At t.mask (t.probeStart h) (Rd t.mask h):=by
 refine⟨rfl,t.mask+14,?_⟩
 show run t.mask (bits h % (t.mask+1))++rdL t.mask (t.mask+14) (lp t.mask _)=_
 unfold run probeStart
 dsimp only
 have:=jD t.mask (bits h % (t.mask+1))
 rw[show runEnd t.mask (bits h % (t.mask+1)) - bits h % (t.mask+1)+1=runEnd t.mask (bits h % (t.mask+1))+1 - bits h % (t.mask+1) by omega]
theorem vW{p:Probe}{x:Nat}{l:List Nat}(a:At t.mask p (x::l)):x=p.j/\(l≠[]->At t.mask (t.advance p) l):=by
 obtain⟨hd,n,e⟩:=a
 rw[List.range'_succ,List.cons_append]at e
 injection e with e1 e2
 refine⟨e1,λhl=>?_⟩
 unfold SetTable.advance
 by_cases hm:p.more>0
 ·rw[if_pos hm]
  refine⟨hd,n,?_⟩
  dsimp only
  rw[show p.more - 1+1=p.more by omega]
  exact e2
 ·rw[if_neg hm]
  have h0:p.more=0:=by omega
  rw[h0]at e2
  cases n with
  | zero=>exact absurd e2 hl
  | succ n =>
   refine⟨hd,n,?_⟩
   have:=jD t.mask (lp t.mask (p.i,p.perturb)).1
   show l=List.range' (lp t.mask (p.i,p.perturb)).1 (runEnd t.mask (lp t.mask (p.i,p.perturb)).1 - (lp t.mask (p.i,p.perturb)).1+1)++rdL t.mask n (lp t.mask (lp t.mask (p.i,p.perturb)))
   rw[show runEnd t.mask (lp t.mask (p.i,p.perturb)).1 - (lp t.mask (p.i,p.perturb)).1+1=runEnd t.mask (lp t.mask (p.i,p.perturb)).1+1 - (lp t.mask (p.i,p.perturb)).1 by omega]
   exact e2
theorem CU(T:Tb t es){f:Nat->Int}{h:Int}:∀(q fuel:Nat) (p:Probe) (l:List Nat) (j0:Nat),At t.mask p l->l[q]? = some j0->j0∉t.place.toList->(∀k,k<q->∀x,l[k]? = some x->x∈t.place.toList)->q<fuel ->
  (probe.go t f h fuel p=some (.empty j0 none)/\∀k,k<q->∀i j,l[k]? = some j->t.place[i]? = some j->f i≠h) \/
  ∃(k i j:Nat) (nx:Probe),k<q/\l[k]? = some j/\t.place[i]? = some j/\f i=h/\probe.go t f h fuel p=some (.candidate j i nx)/\At t.mask nx (l.drop (k+1))/\∀k',k'<k->∀i j,l[k']? = some j->t.place[i]? = some j->f i≠h
 | q,fuel+1,p,[],j0,a,e0,hj,hu,hf=>by cases e0
 | 0,fuel+1,p,x::l,j0,a,e0,hj,hu,hf=>by
  cases e0
  obtain⟨rfl,_⟩:=vW a
  refine .inl ⟨?_,λk hk=>absurd hk (by omega)⟩
  unfold probe.go
  rw[T.slot_out hj,a.1]
 | q+1,fuel+1,p,x::l,j0,a,e0,hj,hu,hf=>by
  have e0':l[q]? = some j0:=e0
  have hl:l≠[]:=λz=>by rw[z]at e0';cases e0'
  obtain⟨rfl,hn⟩:=vW a
  have hx:=hu 0 (by omega) _ rfl
  obtain⟨i,hi,ei⟩:=List.getElem_of_mem hx
  have ei':t.place[i]? = some p.j:=by rw[<-Array.getElem?_toList];exact List.getElem?_eq_some_iff.mpr ⟨hi,ei⟩
  have one:∀i',t.place[i']? = some p.j->i'=i:=λi' e=>by
   rcases Nat.lt_trichotomy i' i with z|z|z
   ·have:=T.up.lt z e ei';omega
   ·exact z
   ·have:=T.up.lt z ei' e;omega
  unfold probe.go
  rw[T.slot_in ei']
  dsimp only
  by_cases hh:(f i==h)=true
  ·rw[if_pos hh]
   exact .inr ⟨0,i,_,_,by omega,rfl,ei',eq_of_beq hh,rfl,hn hl,λk' hk=>absurd hk (by omega)⟩
  ·rw[if_neg hh]
   have h0:∀i' j,(p.j::l)[0]? = some j->t.place[i']? = some j->f i'≠h:=λi' j e1 e2=>by
    cases e1
    rw[one i' e2]
    exact λz=>hh (by rw[z];exact beq_self_eq_true _)
   rcases CU T q fuel _ l j0 (hn hl) e0' hj (λk hk x e=>hu (k+1) (by omega) x e) (by omega)with ⟨r,c⟩|⟨k,i2,j2,nx,r1,r2,r3,r4,r5,r6,r7⟩
   ·refine .inl ⟨r,λk hk=>?_⟩
    cases k with
    | zero=>exact h0
    | succ k=>exact c k (by omega)
   ·refine .inr ⟨k+1,i2,j2,nx,by omega,r2,r3,r4,r5,r6,λk' hk=>?_⟩
    cases k' with
    | zero=>exact h0
    | succ k'=>exact r7 k' (by omega)
theorem Tb.room(T:Tb t es):∃j,j<=t.mask/\j∉t.place.toList:=by
 by_cases h:∃j,j<=t.mask/\j∉t.place.toList
 ·exact h
 ·exfalso
  have sub:List.range (t.mask+1) ⊆ t.place.toList:=λj hj=>by
   by_cases hm:j∈t.place.toList
   ·exact hm
   ·exact absurd ⟨j,by have:=List.mem_range.mp hj;omega,hm⟩ h
  have:=List.nodup_range.length_le_of_subset sub
  rw[List.length_range,Array.length_toList]at this
  have:=T.fu
  omega
theorem nU{P:List Nat}:∀(l:List Nat) (j:Nat),j∈l->j∉P->∃(k j0:Nat),l[k]? = some j0/\j0∉P/\∀k',k'<k->∀x,l[k']? = some x->x∈P
 | [],_,h,_=>by cases h
 | x::l,j,h,hj=>by
  by_cases hx:x∈P
  ·rcases List.mem_cons.mp h with rfl|h
   ·exact absurd hx hj
   ·obtain⟨k,j0,a,b,c⟩:=nU l j h hj
    refine⟨k+1,j0,a,b,λk' hk y e=>?_⟩
    cases k' with
    | zero=>cases e;exact hx
    | succ k'=>exact c k' (by omega) y e
  ·exact⟨0,x,rfl,hx,λk' hk=>absurd hk (by omega)⟩
theorem Tb.free(T:Tb t es)(h:Int):∃(k j0:Nat),(Rd t.mask h)[k]? = some j0/\k<10*turns t.mask/\j0∉t.place.toList/\∀k',k'<k->∀x,(Rd t.mask h)[k']? = some x->x∈t.place.toList:=by
 obtain⟨j,h1,h2⟩:=T.room
 obtain⟨k,j0,a,b,c⟩:=nU _ j (cov T.km h h1) h2
 refine⟨k,j0,a,?_,b,c⟩
 have h3:=(List.getElem?_eq_some_iff.mp a).1
 have h4:(Rd t.mask h).length<=10*turns t.mask:=uT _ _
 omega
theorem Tb.met(T:Tb t es){h:Int}{k j0 i:Nat}{e:Int×Value}(a:(Rd t.mask h)[k]? = some j0)(b:j0∉t.place.toList)(he:es[i]? = some e)(hh:e.1=h) :
  ∃(k' j:Nat),k'<k/\(Rd t.mask h)[k']? = some j/\t.place[i]? = some j:=by
 have hi:i<es.size:=(Array.getElem?_eq_some_iff.mp he).1
 have hp:=Array.getElem?_eq_getElem (show i<t.place.size by rw[T.sz];exact hi)
 have hz:(e,t.place[i]'(by rw[T.sz];exact hi))∈es.toList.zip t.place.toList:=by
  refine List.mem_of_getElem? (i:=i) ?_
  rw[List.getElem?_zip_eq_some]
  exact⟨by rw[Array.getElem?_toList];exact he,by rw[Array.getElem?_toList];exact hp⟩
 obtain⟨k',c1,c2⟩:=T.rd _ _ hz
 rw[hh]at c1 c2
 rcases Nat.lt_trichotomy k' k with z|z|z
 ·exact⟨k',_,z,c1,hp⟩
 ·subst z
  rw[a]at c1
  cases c1
  exact absurd (List.mem_of_getElem? (by rw[Array.getElem?_toList];exact hp)) b
 ·exact absurd (c2 k z j0 a) b
theorem mem_insertAt{α:Type}{xs:Array α}{p:Nat}{x y:α}:y∈(insertAt xs p x).toList↔y=x\/y∈xs.toList:=by
 rw[(SetTable.insertAt_perm xs p x).mem_iff,Array.toList_push]
 simp[or_comm]
theorem bS{α:Type}{xs:Array α}{p:Nat}{x:α}:(insertAt xs p x).size=xs.size+1:=by
 have:=(SetTable.insertAt_perm xs p x).length_eq
 rwa [Array.length_toList,Array.length_toList,Array.size_push]at this
theorem tw{α β:Type}{xs:List α}{ys:List β}(h:xs.length=ys.length)(p:Nat)(x:α)(y:β)(z:α×β)(hz:z∈(xs.take p++x::xs.drop p).zip (ys.take p++y::ys.drop p)):z=(x,y)\/z∈xs.zip ys:=by
 rw[List.zip_append (by simp[h])]at hz
 have e:xs.zip ys=(xs.take p).zip (ys.take p)++(xs.drop p).zip (ys.drop p):=by
  rw[<-List.zip_append (by simp[h]),List.take_append_drop,List.take_append_drop]
 rw[e]
 simp only[List.zip_cons_cons,List.mem_append,List.mem_cons]at hz ⊢
 rcases hz with h|h|h
 ·exact .inr (.inl h)
 ·exact .inl h
 ·exact .inr (.inr h)
theorem Tb.put(T:Tb t es){h:Int}{x:Value}{k j0:Nat}(a:(Rd t.mask h)[k]? = some j0)(b:j0∉t.place.toList)(c:∀k',k'<k->∀x,(Rd t.mask h)[k']? = some x->x∈t.place.toList)(hf:t.place.size+1<=t.mask) :
  Tb (t.put j0).1 (insertAt es (t.put j0).2 (h,x))/\(t.put j0).1.mask=t.mask/\(t.put j0).1.led=t.led/\(t.put j0).1.place.size=t.place.size+1:=by
 have e:(t.put j0).1={ t with place:=insertAt t.place (below t.place j0) j0,dummies:=#[] }:=by
  show SetTable.mk _ _ _ _ _ _ _=_
  rw[T.du,vF]
  rfl
 have sub:∀y∈t.place.toList,y∈(insertAt t.place (below t.place j0) j0).toList:=λy hy=>mem_insertAt.mpr (.inr hy)
 rw[e]
 refine⟨⟨T.km,rfl,by show(insertAt _ _ _).size=(insertAt _ _ _).size;rw[bS,bS,T.sz],wg T.up b,λj hj=>?_,T.pl,by show(insertAt _ _ _).size<=_;rw[bS];exact hf,λz j hz=>?_⟩,rfl,rfl,bS⟩
 ·rcases mem_insertAt.mp hj with rfl|hj
  ·exact Ao (List.mem_of_getElem? a)
  ·exact T.le j hj
 ·have hz':(z,j)∈(es.toList.take (below t.place j0)++(h,x)::es.toList.drop (below t.place j0)).zip (t.place.toList.take (below t.place j0)++j0::t.place.toList.drop (below t.place j0)):=by
   have:=hz
   rwa [show(SetTable.put t j0).2=below t.place j0 from rfl,SetTable.toList_insertAt,SetTable.toList_insertAt]at this
  rcases tw (by rw[Array.length_toList,Array.length_toList,T.sz]) _ _ _ _ hz' with z'|z'
  ·injection z' with z1 z2
   subst z1 z2
   exact⟨k,a,λk' hk y e=>sub y (c k' hk y e)⟩
  ·exact(T.rd z j z').mono sub
end
section
variable {m:Nat}{ow:Array (Option Nat)}
theorem nS:∀(fuel i p j:Nat),layClean.free m ow fuel i p=some j->∃k:Nat,(rdL m fuel (i,p))[k]? = some j/\ow.getD j (some 0)=none/\∀k',k'<k->∀x,(rdL m fuel (i,p))[k']? = some x->∃q,ow.getD x (some 0)=some q
 | 0,_,_,_,h=>by cases h
 | fuel+1,i,p,j,h=>by
  unfold layClean.free at h
  have rl:(run m i).length=runEnd m i+1 - i:=List.length_range'
  cases q:(List.range (runEnd m i+1 - i)).find? (λk=>(ow.getD (i+k) (some 0)).isNone)with
  | some k =>
   rw[q]at h
   cases h
   have h1:=List.find?_some q
   have h2:=List.mem_range.mp (List.mem_of_find?_eq_some q)
   have gk:∀k',k'<runEnd m i+1 - i->(rdL m (fuel+1) (i,p))[k']? = some (i+k'):=λk' hk=>by
    show(run m i++rdL m fuel (lp m (i,p)))[k']? = _
    rw[List.getElem?_append_left (by rw[rl];exact hk)]
    show(List.range' _ _)[k']? = _
    rw[List.getElem?_range' hk,Nat.one_mul]
   refine⟨k,gk k h2,Option.isNone_iff_eq_none.mp h1,λk' hk x e=>?_⟩
   rw[gk k' (by omega)]at e
   cases e
   obtain⟨a,as,bs,e1,e2⟩:=List.find?_eq_some_iff_append.mp q
   have hm:k'∈as:=by
    have ek:as.length=k:=by
     have:=congrArg (λl=>l[as.length]?) e1
     simp only[List.getElem?_append_right (Nat.le_refl _),Nat.sub_self,List.getElem?_cons_zero]at this
     have hl:as.length<runEnd m i+1 - i:=by
      have:=congrArg List.length e1
      rw[List.length_range,zzf,List.length_cons]at this
      omega
     rw[List.getElem?_range hl]at this
     exact Option.some.inj this
    have:=congrArg (λl=>l[k']?) e1
    rw[List.getElem?_range (by omega),List.getElem?_append_left (by omega)]at this
    exact List.mem_of_getElem? this.symm
   have:=e2 k' hm
   cases z:ow.getD (i+k') (some 0)with
   | none=>rw[z]at this;cases this
   | some q=>exact⟨q,rfl⟩
  | none =>
   rw[q]at h
   obtain⟨k,a,b,c⟩:=nS fuel _ _ j h
   refine⟨(run m i).length+k,?_,b,λk' hk x e=>?_⟩
   ·show(run m i++rdL m fuel (lp m (i,p)))[_]? = _
    rw[List.getElem?_append_right (by omega),Nat.add_sub_cancel_left]
    exact a
   ·have e':(run m i++rdL m fuel (lp m (i,p)))[k']? = some x:=e
    by_cases hk':k'<(run m i).length
    ·rw[List.getElem?_append_left hk']at e'
     rw[rl]at hk'
     have e2:(List.range' i (runEnd m i+1 - i))[k']? = some x:=e'
     rw[List.getElem?_range' hk',Nat.one_mul]at e2
     cases e2
     have:=List.find?_eq_none.mp q k' (List.mem_range.mpr hk')
     cases z:ow.getD (i+k') (some 0)with
     | none=>rw[z]at this;exact absurd rfl this
     | some q=>exact⟨q,rfl⟩
    ·rw[List.getElem?_append_right (by omega)]at e'
     exact c (k' - (run m i).length) (by omega) x e'
theorem rO:∀(fuel i p x:Nat),x∈rdL m fuel (i,p)->ow.getD x (some 0)=none->∃j,layClean.free m ow fuel i p=some j
 | 0,_,_,_,h,_=>by cases h
 | fuel+1,i,p,x,h,hx=>by
  unfold layClean.free
  cases q:(List.range (runEnd m i+1 - i)).find? (λk=>(ow.getD (i+k) (some 0)).isNone)with
  | some k=>exact⟨_,rfl⟩
  | none =>
   rcases List.mem_append.mp h with h|h
   ·have h':x∈List.range' i (runEnd m i+1 - i):=h
    obtain⟨h1,h2⟩:=List.mem_range'_1.mp h'
    have:=List.find?_eq_none.mp q (x - i) (List.mem_range.mpr (by omega))
    rw[show i+(x - i)=x by omega,hx]at this
    exact absurd rfl this
   ·exact rO fuel _ _ x h hx
theorem fmc{α β:Type}{f g:α->Option β}:∀{l:List α},(∀x∈l,f x=g x)->l.filterMap f=l.filterMap g
 | [],_=>rfl
 | x::l,h=>by rw[List.filterMap_cons,List.filterMap_cons,h x List.mem_cons_self,fmc λy hy=>h y (zzg _ hy)]
def Lv(m:Nat)(ow:Array (Option Nat)):List (Nat×Nat):=(List.range (m+1)).filterMap λj=>(ow.getD j none).map (j,·)
theorem mem_Lv{j q:Nat}:(j,q)∈Lv m ow↔j<=m/\ow.getD j none=some q:=by
 unfold Lv
 rw[List.mem_filterMap]
 constructor
 ·rintro⟨a,ha,e⟩
  cases z:ow.getD a none with
  | none=>rw[z]at e;cases e
  | some b =>
   rw[z]at e
   cases e
   exact⟨by have:=List.mem_range.mp ha;omega,z⟩
 ·rintro⟨a,e⟩
  exact⟨j,List.mem_range.mpr (by omega),by rw[e];rfl⟩
theorem EJ:(Lv m ow).map (·.1)=(List.range (m+1)).filter λj=>(ow.getD j none).isSome:=by
 unfold Lv
 rw[List.map_filterMap]
 induction List.range (m+1)with
 | nil=>rfl
 | cons a l ih =>
  rw[List.filterMap_cons,List.filter_cons]
  cases z:ow.getD a none with
  | none=>simpa using ih
  | some q=>simpa using ih
theorem GV:((Lv m ow).map (·.1)).Pairwise (· < ·):=by rw[EJ];exact List.Pairwise.filter _ List.pairwise_lt_range
theorem EI{j k:Nat}(hs:ow.size=m+1)(hj:j<=m)(h:ow.getD j none=none):(Lv m (ow.setIfInBounds j (some k))).Perm ((j,k)::Lv m ow):=by
 obtain⟨as,bs,e⟩:=List.append_of_mem (List.mem_range.mpr (show j<m+1 by omega))
 have nd:(as++j::bs).Nodup:=e▸List.nodup_range
 rw[List.nodup_append]at nd
 obtain⟨n1,n2,n3⟩:=nd
 have ne:∀x,x≠j->(ow.setIfInBounds j (some k)).getD x none=ow.getD x none:=λx hx=>by
  rw[Array.getD_eq_getD_getElem?,Array.getD_eq_getD_getElem?,Array.getElem?_setIfInBounds_ne (λz=>hx z.symm)]
 have eq:(ow.setIfInBounds j (some k)).getD j none=some k:=by
  rw[Array.getD_eq_getD_getElem?,Array.getElem?_setIfInBounds_self_of_lt (by omega)];rfl
 unfold Lv
 rw[e,List.filterMap_append,List.filterMap_append,List.filterMap_cons,List.filterMap_cons,eq,h]
 have ea:as.filterMap (λx=>((ow.setIfInBounds j (some k)).getD x none).map (x,·))=as.filterMap (λx=>(ow.getD x none).map (x,·)):=fmc λx hx=>by rw[ne x (λz=>n3 x hx j List.mem_cons_self z)]
 have eb:bs.filterMap (λx=>((ow.setIfInBounds j (some k)).getD x none).map (x,·))=bs.filterMap (λx=>(ow.getD x none).map (x,·)):=fmc λx hx=>by rw[ne x (λz=>(List.nodup_cons.mp n2).1 (z▸hx))]
 rw[ea,eb]
 exact List.perm_middle
structure Ly(m:Nat)(hs:List Int)(ow:Array (Option Nat)):Prop where
 sz:ow.size=m+1
 pm:((Lv m ow).map (·.2)).Perm (List.range hs.length)
 rd:∀j q,(j,q)∈Lv m ow->∃h,hs[q]? = some h/\On m h ((Lv m ow).map (·.1)) j
theorem Ly.start:Ly m [] (Array.replicate (m+1) none):=by
 have e:Lv m (Array.replicate (m+1) none)=[]:=by
  apply List.eq_nil_iff_forall_not_mem.mpr
  rintro⟨j,q⟩ h
  have:=(mem_Lv.mp h).2
  rw[Array.getD_eq_getD_getElem?,Array.getElem?_replicate]at this
  split at this<;>cases this
 exact⟨Array.size_replicate,by rw[e];exact .refl _,λj q h=>by rw[e]at h;cases h⟩
theorem Ly.step{hs:List Int}(L:Ly m hs ow)(hm:Mk m)(hl:hs.length<=m)(h:Int):∃j,layClean.free m ow (turns m) (bits h % (m+1)) (bits h)=some j/\Ly m (hs++[h]) (ow.setIfInBounds j (some hs.length)):=by
 have gd:∀x,x<=m->ow.getD x (some 0)=ow.getD x none:=λx hx=>by
  rw[Array.getD_eq_getD_getElem?,Array.getD_eq_getD_getElem?,Array.getElem?_eq_getElem (show x<ow.size by rw[L.sz];omega)];rfl
 have room:∃j,j<=m/\ow.getD j none=none:=by
  by_cases z:∃j,j<=m/\ow.getD j none=none
  ·exact z
  ·exfalso
   have sub:List.range (m+1) ⊆ (Lv m ow).map (·.1):=λj hj=>by
    have hj':j<=m:=by have:=List.mem_range.mp hj;omega
    cases q:ow.getD j none with
    | none=>exact absurd ⟨j,hj',q⟩ z
    | some q'=>exact List.mem_map.mpr ⟨(j,q'),mem_Lv.mpr ⟨hj',q⟩,rfl⟩
   have h1:=List.nodup_range.length_le_of_subset sub
   have h2:=L.pm.length_eq
   rw[List.length_range,zzd]at h1
   rw[List.length_range,zzd]at h2
   omega
 obtain⟨j1,hj1,ej1⟩:=room
 obtain⟨j,ej⟩:=rO (m:=m) (ow:=ow) (turns m) (bits h % (m+1)) (bits h) j1 (cov hm h hj1) (by rw[gd j1 hj1];exact ej1)
 obtain⟨k,a,b,c⟩:=nS _ _ _ _ ej
 have hj:j<=m:=Ao (h:=h) (List.mem_of_getElem? a)
 have pm:=EI (k:=hs.length) L.sz hj (by rw[<-gd j hj];exact b)
 have sub:∀y∈(Lv m ow).map (·.1),y∈(Lv m (ow.setIfInBounds j (some hs.length))).map (·.1):=λy hy=>(pm.map (·.1)).mem_iff.mpr (zzg _ hy)
 refine⟨j,ej,by rw[Array.size_setIfInBounds];exact L.sz,?_,λj' q' hq=>?_⟩
 ·rw[zzf,List.length_singleton,List.range_succ]
  exact(pm.map λp:Nat×Nat=>p.2).trans ((List.Perm.cons _ L.pm).trans (List.perm_append_singleton _ _).symm)
 ·rcases List.mem_cons.mp (pm.mem_iff.mp hq)with z|z
  ·cases z
   refine⟨h,by rw[List.getElem?_append_right (Nat.le_refl _),Nat.sub_self];rfl,k,a,λk' hk x e=>sub x ?_⟩
   obtain⟨q,eq⟩:=c k' hk x e
   have hx:x<=m:=Ao (h:=h) (List.mem_of_getElem? e)
   exact List.mem_map.mpr ⟨(x,q),mem_Lv.mpr ⟨hx,by rw[<-gd x hx];exact eq⟩,rfl⟩
  ·obtain⟨h',e1,e2⟩:=L.rd j' q' z
   exact⟨h',by rw[List.getElem?_append_left (List.getElem?_eq_some_iff.mp e1).1];exact e1,e2.mono sub⟩
theorem zo(hm:Mk m):∀(rest hs:List Int) (ow:Array (Option Nat)),Ly m hs ow->hs.length+rest.length<=m+1 ->
  ∃ow',rest.foldl (init:=some (ow,hs.length)) (λ(acc:Option (Array (Option Nat)×Nat)) h=>do
   let (owner,k) <-acc
   let j <-layClean.free m owner (turns m) (bits h % (m+1)) (bits h)
   pure (owner.setIfInBounds j (some k),k+1))=some (ow',(hs++rest).length)/\Ly m (hs++rest) ow'
 | [],hs,ow,L,_=>⟨ow,by rw[List.append_nil];rfl,by rw[List.append_nil];exact L⟩
 | h::rest,hs,ow,L,hl=>by
  rw[List.length_cons]at hl
  obtain⟨j,ej,L'⟩:=L.step hm (by omega) h
  obtain⟨ow',e,L2⟩:=zo hm rest (hs++[h]) _ L' (by rw[zzf,List.length_singleton];omega)
  refine⟨ow',?_,by rw[List.append_assoc]at L2;exact L2⟩
  rw[List.foldl_cons]
  have:(do
   let (owner,k) <-some (ow,hs.length)
   let j <-layClean.free m owner (turns m) (bits h % (m+1)) (bits h)
   pure (owner.setIfInBounds j (some k),k+1))=some (ow.setIfInBounds j (some hs.length),(hs++[h]).length):=by
   show(layClean.free m ow (turns m) (bits h % (m+1)) (bits h)).bind _=_
   rw[ej,zzf]
   rfl
  rw[this,e,List.append_assoc]
  rfl
theorem D3(hm:Mk m){hs:Array Int}(hl:hs.size<=m+1):∃ow,layClean m hs=some ow/\Ly m hs.toList ow:=by
 obtain⟨ow,e,L⟩:=zo hm hs.toList [] _ Ly.start (by rw[List.length_nil,Array.length_toList];omega)
 refine⟨ow,?_,L⟩
 unfold layClean
 rw[<-Array.foldl_toList]
 rw[show(hs.toList.foldl _ (some (Array.replicate (m+1) none,0)))=some (ow,([]++hs.toList).length)from e]
 rfl
theorem xR{α:Type}{es:Array α}{e:α}{j:Nat}:∀(L:List (Nat×Nat)),(∀p∈L,∃x,es[p.2]? = some x)->(e,j)∈((L.map (·.2)).filterMap (es[·]?)).zip (L.map (·.1))->∃q,(j,q)∈L/\es[q]? = some e
 | [],_,h=>by cases h
 | p::L,hp,h=>by
  obtain⟨x,ex⟩:=hp p List.mem_cons_self
  rw[List.map_cons,List.map_cons,List.filterMap_cons,ex]at h
  rcases List.mem_cons.mp h with z|z
  ·cases z
   exact⟨p.2,List.mem_cons_self,ex⟩
  ·obtain⟨q,a,b⟩:=xR L (λp hp'=>hp p (zzg _ hp')) z
   exact⟨q,zzg _ a,b⟩
theorem Br(hm:Mk m){es:Array (Int×Value)}{finger moves:Nat}{led:Bool}(hl:es.size<=m):∃t' order,laid m finger moves led true (es.map (·.1))=some (t',order)/\Tb t' (order.filterMap (es[·]?))/\(order.filterMap (es[·]?)).toList.Perm es.toList/\t'.mask=m/\t'.led=led:=by
 obtain⟨ow,e,L⟩:=D3 hm (hs:=es.map (·.1)) (by rw[Array.size_map];omega)
 have hlen:(es.map (·.1)).toList.length=es.size:=by rw[Array.length_toList,Array.size_map]
 have pm:=L.pm
 rw[hlen]at pm
 have el:(((Lv m ow).map (·.2)).toArray.filterMap (es[·]?)).toList=((Lv m ow).map (·.2)).filterMap (es[·]?):=by rw[Array.toList_filterMap]
 have pe:(((Lv m ow).map (·.2)).toArray.filterMap (es[·]?)).toList.Perm es.toList:=by
  rw[el,<-filterMap_getElem?_range es]
  exact pm.filterMap _
 have hn:(Lv m ow).length=es.size:=by have:=pm.length_eq;rwa [zzd,List.length_range]at this
 have hsz:(((Lv m ow).map (·.2)).toArray.filterMap (es[·]?)).size=es.size:=by have:=pe.length_eq;rwa [Array.length_toList,Array.length_toList]at this
 refine⟨{ mask:=m,place:=((Lv m ow).map (·.1)).toArray,dummies:=#[],finger,led,moves,plain:=true },((Lv m ow).map (·.2)).toArray,?_,⟨hm,rfl,?_,GV,λj hj=>?_,rfl,?_,λz j hz=>?_⟩,pe,rfl,rfl⟩
 ·unfold laid
  rw[e]
  rfl
 ·show((Lv m ow).map (·.1)).toArray.size=_
  rw[hsz,List.size_toArray,zzd,hn]
 ·obtain⟨⟨j',q⟩,h1,h2⟩:=List.mem_map.mp (show j∈(Lv m ow).map (·.1)from hj)
  cases h2
  exact(mem_Lv.mp h1).1
 ·show((Lv m ow).map (·.1)).toArray.size<=m
  rw[List.size_toArray,zzd,hn];exact hl
 ·rw[el]at hz
  obtain⟨q,a,b⟩:=xR (Lv m ow) (λp hp=>by
   have:p.2∈List.range es.size:=pm.mem_iff.mp (List.mem_map.mpr ⟨p,hp,rfl⟩)
   exact⟨_,Array.getElem?_eq_getElem (List.mem_range.mp this)⟩) hz
  obtain⟨h,e1,e2⟩:=L.rd j q a
  rw[Array.getElem?_toList,Array.getElem?_map,b]at e1
  cases e1
  exact e2
end
end WS
namespace WS
open PySem PySem.SetTable PyProof.Rows
section
variable {prog:Program}{w:World}{A:Around}{E:zzj}{s:Shared}
abbrev TI(prog:Program)(w:World)(h:Heap)(x:List Int)(a:Addr):Prop:=IsTupleKey (intKind prog w) h x a
abbrev hs(prog:Program)(w:World)(x:List Int):Int:=tupleKeyHash (intKind prog w) x
theorem tq{x:List Int}{vs:List Value}(h:ItemsAre (intKind prog w) x vs):∀v∈vs,∃i t,v=.int i t:=by
 induction h with
 | nil=>intro v hv;cases hv
 | cons h1 _ ih =>
  intro v hv
  rcases List.mem_cons.mp hv with rfl|hv
  ·obtain⟨t,rfl⟩:=Value.isInt_shape h1;exact⟨_,t,rfl⟩
  ·exact ih v hv
theorem hbv{x:List Int}{a:Addr}{Q:Bool->Shared->Prop}(hk:TI prog w s.heap x a)(h:Q true s):wpAny (model prog w) A (hashByValue 8 (.ref a)) Q E s:=by
 have hT:=hk.typeIs
 obtain⟨o,items,n,ho,_,hd,hi⟩:=hk
 have hall:=tq hi
 unfold hashByValue
 refine zza (wpAny_specialOf hT F.slot_tuple_hash.lookup ?_)
 show wpAny _ _ (seqItems? (.ref a) >>= _) _ _ s
 refine zza (wpAny_seqItems ho hd ?_)
 refine zza ?_
 show wpAny _ _ (forIn items _ _) _ _ s
 rw[<-Array.forIn_toList]
 refine wpAny_forIn_list _ (λrest r s'=>r.1=none/\s'=s/\∀v∈rest,∃i t,v=Value.int i t) _ ?_ ?_ _ _ ⟨rfl,rfl,hall⟩
 ·rintro v rest r s' ⟨hr,rfl,hall⟩
  obtain⟨i,t,rfl⟩:=hall v List.mem_cons_self
  refine zza (m:=hashByValue 7 (.int i t)) (wpAny_of_eq (a:=true) (by rw[hashByValue]) ?_)
  simp only[Bool.not_true,Bool.false_eq_true,if_false]
  exact zzb ⟨rfl,rfl,λu hu'=>hall u (zzg _ hu')⟩
 ·rintro⟨r1,r2⟩ s' ⟨hr,rfl,_⟩
  simp only at hr
  subst hr
  exact zzb h
theorem FZ{x:List Int}{a:Addr}{Q:Bool->Shared->Prop}(hk:TI prog w s.heap x a)(h:Q false s):wpAny (model prog w) A (ofAClassStatement 8 (.ref a)) Q E s:=by
 have hT:=hk.typeIs
 obtain⟨o,items,n,ho,_,hd,hi⟩:=hk
 have hall:=tq hi
 unfold ofAClassStatement
 refine zza (wpAny_typeOf hT ?_)
 dsimp only
 rw[if_pos (show(("tuple" : String) == "tuple")=true by decide)]
 refine zza (zzb ?_)
 simp only[Bool.not_true,Bool.false_eq_true,if_false]
 refine zza (wpAny_seqItems ho hd ?_)
 dsimp only
 refine zza ?_
 show wpAny _ _ (forIn items _ _) _ _ s
 rw[<-Array.forIn_toList]
 refine wpAny_forIn_list _ (λrest r s'=>r.1=none/\s'=s/\∀v∈rest,∃i t,v=Value.int i t) _ ?_ ?_ _ _ ⟨rfl,rfl,hall⟩
 ·rintro v rest r s' ⟨hr,rfl,hall⟩
  obtain⟨i,t,rfl⟩:=hall v List.mem_cons_self
  refine zza (m:=ofAClassStatement 7 (.int i t)) (wpAny_of_eq (a:=false) (by rw[ofAClassStatement];intro _ z;cases z) ?_)
  simp only[Bool.not_true,Bool.false_eq_true,if_false]
  exact zzb ⟨rfl,rfl,λu hu'=>hall u (zzg _ hu')⟩
 ·rintro⟨r1,r2⟩ s' ⟨hr,rfl,_⟩
  simp only at hr
  subst hr
  exact zzb h
theorem C5{x:List Int}{a:Addr}{l:List Value}{Q:Bool->Shared->Prop}(hk:TI prog w s.heap x a)(hl:∀v∈l,∃y b,v=.ref b/\TI prog w s.heap y b)(h:Q false s):wpAny (model prog w) A (searchCouldBeSeen (.ref a) l) Q E s:=by
 unfold searchCouldBeSeen
 refine zza ?_
 refine wpAny_forIn_list _ (λrest r s'=>r.1=none/\s'=s/\∀v∈rest,∃y b,v=Value.ref b/\TI prog w s.heap y b) _ ?_ ?_ _ _ ⟨rfl,rfl,hl⟩
 ·rintro v rest r s' ⟨hr,rfl,hall⟩
  obtain⟨y,b,rfl,hb⟩:=hall v List.mem_cons_self
  have fin:∀u∈rest,∃y b,u=Value.ref b/\TI prog w s'.heap y b:=λu hu'=>hall u (zzg _ hu')
  dsimp only
  split
  ·exact zzb ⟨rfl,rfl,fin⟩
  ·refine zza (wpAny_eqIsQuiet_tuple hk ?_)
   simp only[Bool.not_true,Bool.false_eq_true,if_false]
   refine zza (wpAny_eqIsQuiet_tuple hb ?_)
   simp only[Bool.not_true,Bool.false_eq_true,if_false]
   refine zza (FZ hk ?_)
   simp only[Bool.not_true,Bool.false_eq_true,if_false]
   refine zza (FZ hb ?_)
   simp only[Bool.not_true,Bool.false_eq_true,if_false]
   exact zzb ⟨rfl,rfl,fin⟩
 ·rintro⟨r1,r2⟩ s' ⟨hr,rfl,_⟩
  simp only at hr
  subst hr
  exact zzb h
end
section
variable {prog:Program}{w:World}{A:Around}{E:zzj}{s:Shared}
def f0(es:Array (Int×Value))(i:Nat):Int:=(es[i]?.map (·.1)).getD 0
def Els(prog:Program)(w:World)(h:Heap)(l:List (Int×Value)):Prop:=∀e∈l,∃y b,e=(hs prog w y,Value.ref b)/\TI prog w h y b
theorem wA{l a:Addr}{o:Obj}{es:Array (Int×Value)}{ep:Nat}{t:SetTable}{x:List Int}{Q:SetFound->Shared->Prop}(hu:A.units<cLine)(ho:s.heap.get? l=some o)(hd:o.data=.set es ep t)(T:Tb t es)(hx:TI prog w s.heap x a)(hE:Els prog w s.heap es.toList){j0:Nat}
  (ht:(∃b,(hs prog w x,Value.ref b)∈es.toList/\TI prog w s.heap x b)->Q (.there none) s) :
  ∀(q fuel:Nat) (stand:Option Probe) (L:List Nat),q<fuel->At t.mask (stand.getD (t.probeStart (hs prog w x))) L->L[q]? = some j0->q<10*turns t.mask->j0∉t.place.toList->(∀k,k<q->∀y,L[k]? = some y->y∈t.place.toList) ->
   ((∀k,k<q->∀(i j:Nat) (b:Addr),L[k]? = some j->t.place[i]? = some j->es[i]? = some (hs prog w x,Value.ref b)->¬ TI prog w s.heap x b)->Q (.free j0 false) s) ->
   wpAny (model prog w) A (setSearchFrom l (.ref a) (hs prog w x) true fuel stand) Q E s:=by
 intro q
 induction q using Nat.strongRecOn with
 | ind q ih =>
  intro fuel stand L hf ha e0 hq hj hu' hfree
  cases fuel with
  | zero=>omega
  | succ fuel =>
   unfold setSearchFrom
   refine zza (wpAny_setState_of ho hd T.fits ?_)
   dsimp only
   rw[T.odd,if_neg (by decide)]
   have g:=CU (f:=f0 es) T q (10*turns t.mask) _ L j0 ha e0 hj hu' hq (h:=hs prog w x)
   split
   ·rename_i met hm
    have hm':probe.go t (f0 es) (hs prog w x) (10*turns t.mask) (stand.getD (t.probeStart (hs prog w x)))=some met:=hm
    rcases g with ⟨r,c⟩|⟨k,i,j,nx,r1,r2,r3,r4,r5,r6,r7⟩
    ·rw[show met=Met.empty j0 none from Option.some.inj (hm'.symm.trans r)]
     dsimp only
     refine zzb (hfree λk hk i j b e1 e2 e3 _=>c k hk i j e1 e2 ?_)
     unfold f0
     rw[e3];rfl
    ·rw[show met=Met.candidate j i nx from Option.some.inj (hm'.symm.trans r5)]
     dsimp only
     have hi:i<es.size:=by rw[<-T.sz];exact(Array.getElem?_eq_some_iff.mp r3).1
     have ei:=Array.getElem?_eq_getElem hi
     obtain⟨y,b,eb,hb⟩:=hE es[i] (Array.getElem_mem_toList hi)
     rw[eb]at ei
     have hy:hs prog w y=hs prog w x:=by have:=r4;unfold f0 at this;rw[ei]at this;exact this
     have rest:wpAny (model prog w) A (do
       let some (_,y):=es[i]? | unsupported "internal:set-entry"
       let equal <-holding [y] (eqBool y (.ref a))
       let (es',_,t') <-setState l
       if true&&equal then return .there none
       let some same:=t'.sameMemory t.moves t.mask|unsupported "set.changed-during-lookup:is-the-new-block-at-the-old-address"
       let still <-match (if same then t'.slot j else .empty)with
        | .live i'=>match es'[i']? with
         | some (_,y')=>do pure (if <-isSame y' y then some i' else none)
         | none=>pure none
        | _=>pure none
       match still with
       | none=>rule "set.search.anew";setSearchFrom l (.ref a) (hs prog w x) true fuel none
       | some i'=>if equal then return .there (some i')else setSearchFrom l (.ref a) (hs prog w x) true fuel (some nx)) Q E s:=by
      rw[ei]
      dsimp only
      refine zza (wpAny_holding (wpAny_eqBool_tuple hu hb hx ?_))
      refine zza (wpAny_setState_of ho hd T.fits ?_)
      dsimp only
      by_cases exy:y=x
      ·subst exy
       rw[if_pos (by simp)]
       exact zzb (ht ⟨b,eb▸Array.getElem_mem_toList hi,hb⟩)
      ·rw[if_neg (by simp[exy])]
       unfold SetTable.sameMemory
       rw[if_pos (by simp)]
       dsimp only
       rw[if_pos rfl,T.slot_in r3]
       dsimp only
       rw[ei]
       dsimp only
       refine zza (wpAny_isSame_ref_self (zza (zzb ?_)))
       rw[if_pos rfl]
       dsimp only
       rw[if_neg (by simp[exy])]
       refine ih (q - (k+1)) (by omega) fuel (some nx) (L.drop (k+1)) (by omega) r6 (by rw[List.getElem?_drop,show k+1+(q - (k+1))=q by omega];exact e0) (by omega) hj (λk' hk y e=>hu' (k+1+k') (by omega) y (by rw[List.getElem?_drop]at e;exact e)) λc=>hfree λk' hk i' j' b' e1 e2 e3 ti=>?_
       rcases Nat.lt_trichotomy k' k with z|z|z
       ·refine r7 k' z i' j' e1 e2 ?_
        unfold f0;rw[e3];rfl
       ·subst z
        rw[r2]at e1
        cases e1
        have:i'=i:=by
         have h1:=T.slot_in e2
         rw[T.slot_in r3]at h1
         injection h1 with h1
         exact h1.symm
        subst this
        have e4:Value.ref b=Value.ref b':=congrArg Prod.snd (Option.some.inj (ei.symm.trans e3))
        injection e4 with e4
        subst e4
        exact exy (hb.inj ti)
       ·exact c (k' - (k+1)) (by omega) i' j' b' (by rw[List.getElem?_drop,show k+1+(k' - (k+1))=k' by omega];exact e1) e2 e3 ti
     split
     ·refine zza (C5 hx (λv hv=>?_) ?_)
      ·obtain⟨e,he,rfl⟩:=List.mem_map.mp hv
       have:e∈es.toList:=by
        have:=Array.mem_toList_iff.mp he
        exact Array.mem_toList_iff.mpr (Array.mem_filter.mp this).1
       obtain⟨y,b,rfl,hb⟩:=hE e this
       exact⟨y,b,rfl,hb⟩
      ·rw[if_neg (by decide)]
       exact rest
     ·exact rest
   ·rename_i hm
    exfalso
    rcases g with ⟨r,c⟩|⟨k,i,j,nx,r1,r2,r3,r4,r5,r6,r7⟩
    ·exact hm _ r
    ·exact hm _ r5
end
section
variable {prog:Program}{w:World}{A:Around}{E:zzj}{s:Shared}
abbrev ent(prog:Program)(w:World)(p:List Int×Addr):Int×Value:=(hs prog w p.1,Value.ref p.2)
def Sx(prog:Program)(w:World)(h:Heap)(l:Addr)(xs:List (List Int×Addr)):Prop :=
 ∃o es ep t,h.get? l=some o/\o.ExactSet/\o.data=.set es ep t/\Tb t es/\t.place.size*5<t.mask*3/\es.toList.Perm (xs.map (ent prog w))/\t.led = !w.params.followText "set-order"
def Tis(prog:Program)(w:World)(h:Heap)(xs:List (List Int×Addr)):Prop:=∀p∈xs,TI prog w h p.1 p.2
def eJ(xs:List (List Int×Addr))(p:List Int×Addr):List (List Int×Addr):=if p.1∈xs.map (·.1)then xs else xs++[p]
theorem nR{h:Heap}{l:Addr}{o:Obj}{es es':Array (Int×Value)}{ep:Nat}{t t':SetTable}(ho:h.get? l=some o)(hd:o.data=.set es ep t):(h.update l (Obj.putSet es' t')).get? l=some { o with data:=.set es' (ep+1) t' }:=by
 have:=Heap.get?_update_self (Obj.putSet es' t') ho (by rw[putSet_of es' t' hd];rfl)
 rw[putSet_of es' t' hd]at this
 exact this
theorem grow{m n:Nat}(hm:Mk m)(h1:n*5<m*3)(h2:(n+1)*5>=m*3)(h3:n<76):∃M,sizeAbove (grown (n+1))=M+1/\Mk M/\(n+1)*5<M*3/\M+1<=128:=by
 rcases hm with rfl|rfl|rfl
 ·obtain rfl:n=4:=by omega
  exact⟨31,by decide,.inr (.inl rfl),by omega,by omega⟩
 ·obtain rfl:n=18:=by omega
  exact⟨127,by decide,.inr (.inr rfl),by omega,by omega⟩
 ·omega
theorem EE{l a:Addr}{xs:List (List Int×Addr)}{x:List Int}{Q:Bool->Shared->Prop}(hu:A.units<cLine)(hS:Sx prog w s.heap l xs)(hX:Tis prog w s.heap xs)(hx:TI prog w s.heap x a)(hn:xs.length<76)
  (h:∀r h',Heap.SameBut l s.heap h'->Sx prog w h' l (eJ xs (x,a))->Q r { s with heap:=h' }):wpAny (model prog w) A (setAddHashed l (.ref a) (hs prog w x)) Q E s:=by
 obtain⟨o,es,ep,t,ho,hex,hd,T,hfu,hp,hled⟩:=hS
 have hlen:es.size=xs.length:=by have:=hp.length_eq;rwa [Array.length_toList,zzd]at this
 have hE:Els prog w s.heap es.toList:=λe he=>by
  obtain⟨p,hp1,rfl⟩:=List.mem_map.mp (hp.mem_iff.mp he)
  exact⟨p.1,p.2,rfl,hX p hp1⟩
 unfold setAddHashed
 refine wpAny_holding ?_
 show wpAny _ _ (setAddHashedIn l (.ref a) (hs prog w x) (99999+1)) _ _ _
 unfold setAddHashedIn
 refine zza (wpAny_setState_of ho hd T.fits ?_)
 dsimp only
 rw[show byScan (.ref a) es=false from rfl,if_neg (by decide)]
 obtain⟨k,j0,r1,r2,r3,r4⟩:=T.free (hs prog w x)
 refine zza ?_
 unfold setSearch
 refine wA hu ho hd T hx hE (j0:=j0) ?A k 100000 none (Rd t.mask (hs prog w x)) (by
  have:=T.km
  unfold turns at r2
  rcases this with z|z|z<;>rw[z]at r2<;>omega) (z9 t _) r1 r2 r3 r4 ?B
 case A =>
  rintro⟨b,hb,tb⟩
  dsimp only
  have hin:x∈xs.map (·.1):=by
   obtain⟨p,hp1,hp2⟩:=List.mem_map.mp (hp.mem_iff.mp hb)
   have e4:Value.ref p.2=Value.ref b:=congrArg Prod.snd hp2
   injection e4 with e4
   have:=hX p hp1
   rw[e4]at this
   exact List.mem_map.mpr ⟨p,hp1,this.inj tb⟩
  have e:s={ s with heap:=s.heap }:=by cases s;rfl
  rw[e]
  exact zzb (h _ _ (Heap.SameBut.refl l s.heap) ⟨o,es,ep,t,ho,hex,hd,T,hfu,by unfold eJ;rw[if_pos hin];exact hp,hled⟩)
 case B =>
  intro hfree
  dsimp only
  have hout:x∉xs.map (·.1):=λhin=>by
   obtain⟨p,hp1,hp2⟩:=List.mem_map.mp hin
   have hm:ent prog w p∈es.toList:=hp.mem_iff.mpr (List.mem_map.mpr ⟨p,hp1,rfl⟩)
   obtain⟨i,hi,ei⟩:=List.getElem_of_mem hm
   have ei':es[i]? = some (hs prog w x,Value.ref p.2):=by
    rw[<-Array.getElem?_toList,List.getElem?_eq_some_iff]
    exact⟨hi,by rw[ei,<-hp2]⟩
   obtain⟨k',j,m1,m2,m3⟩:=T.met r1 r3 ei' rfl
   have:=hX p hp1
   rw[hp2]at this
   exact hfree k' m1 i j p.2 m2 m3 ei' this
  have hns:t.place.size=xs.length:=by rw[T.sz,hlen]
  have hmm:t.place.size+1<=t.mask:=by
   have:=T.km
   rcases this with z|z|z<;>rw[z]at hfu ⊢ <;> omega
  obtain⟨T1,q1,q2,q3⟩:=T.put (x:=.ref a) r1 r3 r4 hmm
  have hp1:(insertAt es (t.put j0).2 (hs prog w x,Value.ref a)).toList.Perm ((xs++[(x,a)]).map (ent prog w)):=by
   refine(SetTable.insertAt_perm es _ _).trans ?_
   rw[Array.toList_push,List.map_append]
   exact hp.append (.refl _)
  refine zza (wpAny_setState_of ho hd T.fits ?_)
  dsimp only
  rw[T1.pl,if_pos rfl]
  refine zza (hbv hx ?_)
  rw[if_pos rfl]
  have hsl:(insertAt es (t.put j0).2 (hs prog w x,Value.ref a)).size<=sizeLine:=by
   rw[bS,hlen]
   exact Nat.le_trans (show xs.length+1<=1000 by omega) (by decide)
  refine zza (wpAny_storeSet_of ho hd ?_ hsl)
  have ho1:=nR (es':=insertAt es (t.put j0).2 (hs prog w x,Value.ref a)) (t':=(t.put j0).1) ho hd
  have sb:=Heap.SameBut.update s.heap l (Obj.putSet (insertAt es (t.put j0).2 (hs prog w x,Value.ref a)) (t.put j0).1)
  have hfl:(t.put j0).1.tooFull=decide ((xs.length+1)*5>=t.mask*3):=by
   unfold SetTable.tooFull
   rw[T1.fill,q3,q1,hns]
  have hax:eJ xs (x,a)=xs++[(x,a)]:=by unfold eJ;rw[if_neg hout]
  by_cases hfull:(xs.length+1)*5>=t.mask*3
  ·rw[hfl,decide_eq_true hfull,if_pos (by decide)]
   obtain⟨M,g1,g2,g3,g4⟩:=grow T.km (by rw[<-hns];exact hfu) hfull hn
   have hsz1:(insertAt es (t.put j0).2 (hs prog w x,Value.ref a)).size=xs.length+1:=by rw[bS,hlen]
   obtain⟨t',order,l1,l2,l3,l4,l5⟩:=Br g2 (es:=insertAt es (t.put j0).2 (hs prog w x,Value.ref a)) (finger:=(t.put j0).1.finger) (moves:=(t.put j0).1.movedTo M) (led:=(t.put j0).1.led) (by rw[hsz1];omega)
   have hsz2:(order.filterMap ((insertAt es (t.put j0).2 (hs prog w x,Value.ref a))[·]?)).size=(insertAt es (t.put j0).2 (hs prog w x,Value.ref a)).size:=by have:=l3.length_eq;rwa [Array.length_toList,Array.length_toList]at this
   refine zza ?_
   unfold setRelay
   refine zza (wpAny_setState_of ho1 rfl T1.fits ?_)
   dsimp only
   rw[hlen,g1,if_neg (by have:(128:Nat)<=sizeLine:=(by decide);omega)]
   refine zza ?_
   unfold SetTable.relaid
   rw[g1,Nat.add_sub_cancel,T1.pl,l1]
   refine wpAny_of_eq (a:=(order.filterMap ((insertAt es (t.put j0).2 (hs prog w x,Value.ref a))[·]?),t')) ?_ ?_
   ·show(do
     if(order.filterMap ((insertAt es (t.put j0).2 (hs prog w x,Value.ref a))[·]?)).size != (insertAt es (t.put j0).2 (hs prog w x,Value.ref a)).size then unsupported "internal:set-table-lost-an-element"
     pure (order.filterMap ((insertAt es (t.put j0).2 (hs prog w x,Value.ref a))[·]?),t'))=_
    rw[if_neg (by rw[hsz2];simp)]
   ·dsimp only
    refine wpAny_storeSet_of ho1 rfl ?_ (by rw[hsz2];exact hsl)
    have ho2:=nR (es':=order.filterMap ((insertAt es (t.put j0).2 (hs prog w x,Value.ref a))[·]?)) (t':=t') ho1 rfl
    refine zzb (h _ _ (sb.trans (Heap.SameBut.update _ l _)) ⟨_,_,_,_,ho2,hex,rfl,l2,?_,?_,?_⟩)
    ·rw[l2.sz,hsz2,hsz1,l4];exact g3
    ·rw[hax];exact l3.trans hp1
    ·rw[l5,q2];exact hled
  ·rw[hfl,decide_eq_false hfull,if_neg (by decide)]
   refine zzb (h _ _ sb ⟨_,_,_,_,ho1,hex,rfl,T1,?_,?_,?_⟩)
   ·rw[q3,q1,hns];omega
   ·rw[hax];exact hp1
   ·rw[q2];exact hled
end
section
variable {prog:Program}{w:World}{A:Around}{E:zzj}{s:Shared}
theorem xW{h h':Heap}{x:List Int}{a:Addr}(t:TI prog w h x a)(k:∀o,h.get? a=some o->h'.get? a=some o):TI prog w h' x a:=let ⟨o,i,n,e,r⟩:=t;⟨o,i,n,k o e,r⟩
theorem Ce{h:Heap}{x:List Int}{a b:Addr}{o:Obj}(t:TI prog w h x a)(e:h.get? b=some o)(d:∀i n,o.data≠.seq i n):a≠b:=by
 rintro rfl
 obtain⟨o',i,n,e',_,ed,_⟩:=t
 cases e.symm.trans e'
 exact d i n ed
theorem Sx.ne{h:Heap}{l a:Addr}{xs:List (List Int×Addr)}{x:List Int}(S:Sx prog w h l xs)(t:TI prog w h x a):a≠l:=by
 obtain⟨o,es,ep,tb,e,_,d,_⟩:=S
 exact Ce t e λi n z=>by rw[d]at z;cases z
theorem Sx.kp{h h':Heap}{l:Addr}{xs:List (List Int×Addr)}(S:Sx prog w h l xs)(k:∀o,h.get? l=some o->h'.get? l=some o):Sx prog w h' l xs:=let ⟨o,es,ep,tb,e,r⟩:=S;⟨o,es,ep,tb,k o e,r⟩
theorem Gr{h:Heap}{x:List Int}{a it p:Addr}{i:Nat}(t:TI prog w h x a)(hit:h.IsListIter it p i):a≠it:=by
 obtain⟨o,e,_,d⟩:=hit
 exact Ce t e λi n z=>by rw[d]at z;cases z
theorem sT(xs:List (List Int×Addr))(p:List Int×Addr):(eJ xs p).length<=xs.length+1:=by
 unfold eJ;split
 ·omega
 ·rw[zzf];exact Nat.le_refl _
theorem sR{xs:List (List Int×Addr)}{p q:List Int×Addr}(h:q∈eJ xs p):q=p\/q∈xs:=by
 unfold eJ at h
 split at h
 ·exact .inr h
 ·rcases List.mem_append.mp h with h|h
  ·exact .inr h
  ·exact .inl (List.mem_singleton.mp h)
theorem mn:entryFor table "set.update.loop" = some Builtin.«set.update.loop»:=entryFor_of_tree (by kernel_rfl)
theorem iw:plainId "set.update.loop" = true:=by decide +kernel
theorem Bk{R:Result->Shared->Prop}(hh:A.handled=none)(hu:A.units+1<cLine){l it p:Addr}{items:Array Value}(n1:l≠it)(n2:l≠p)(n3:it≠p):∀(rest:List (List Int×Addr)) (i:Nat) (s:Shared) (xs:List (List Int×Addr)),
  s.heap.IsListIter it p i->s.heap.IsList p items->items.toList.drop i=rest.map (λq=>Value.ref q.2)->Tis prog w s.heap rest->Sx prog w s.heap l xs->Tis prog w s.heap xs->xs.length+rest.length<=76 ->
  (∀h' tk,(∀b o,b≠l->b≠it->s.heap.get? b=some o->h'.get? b=some o)->Sx prog w h' l (rest.foldl eJ xs)->R (.ok (.ret .none)) { s with heap:=h',toks:=tk }) ->
  codeAny (model prog w) A (.builtin "set.update.loop" ⟨[.ref l,.ref it],[]⟩) R s:=by
 intro rest
 induction rest with
 | nil =>
  intro i s xs hit hl hd _ hS _ _ hR
  refine codeAny_builtin mn ?_
  rw[Around.under_plainId iw _]
  show wpAny _ A.in1 (pyNext (.ref it) >>= _) _ _ s
  have hx:items[i]? = none:=by
   rw[Array.getElem?_eq_none_iff,<-Array.length_toList]
   have:=congrArg List.length hd
   rw[List.length_drop,List.map_nil,List.length_nil]at this
   omega
  refine zza (wpAny_pyNext_list_end (show A.in1.handled=none from hh) hit hl hx λh' e=>?_)
  exact zzb (hR h' s.toks (λb o _ hb z=>e b o hb z) (hS.kp λo z=>e l o n1 z))
 | cons q rest ih =>
  intro i s xs hit hl hd hT hS hX hn hR
  rw[List.length_cons]at hn
  refine codeAny_builtin mn ?_
  rw[Around.under_plainId iw _]
  show wpAny _ A.in1 (pyNext (.ref it) >>= _) _ _ s
  have hx:items[i]? = some (.ref q.2):=by
   have:=congrArg (λl=>l[0]?) hd
   simp only[List.getElem?_drop,Nat.add_zero,List.map_cons,List.getElem?_cons_zero,Array.getElem?_toList]at this
   exact this
  refine zza (wpAny_pyNext_list_item hit hl hx λh1 it1 sb1=>?_)
  dsimp only
  have hq:=hT q List.mem_cons_self
  have tk1:∀{x a},TI prog w s.heap x a->TI prog w h1 x a:=λ{x a} t=>xW t λo e=>(sb1.2 a (Gr t hit)).trans e
  have S1:Sx prog w h1 l xs:=hS.kp λo e=>(sb1.2 l n1).trans e
  have X1:Tis prog w h1 xs:=λy hy=>tk1 (hX y hy)
  have T1:Tis prog w h1 (q::rest):=λy hy=>tk1 (hT y hy)
  have l1:h1.IsList p items:=by obtain⟨o,e,r⟩:=hl;exact⟨o,(sb1.2 p (λz=>n3 z.symm)).trans e,r⟩
  refine zza (wpAny_holding ?_)
  unfold setAdd
  refine wpAny_holding (zza (wpAny_pyHash_tuple (s:={ s with heap:=h1 }) hu (tk1 hq) ?_))
  refine EE (s:={ s with heap:=h1,toks:=_ }) hu S1 X1 (tk1 hq) (by omega) λr h2 sb2 S2=>?_
  refine zzb ⟨plainId_quiet iw _,?_⟩
  have tk2:∀{x a},TI prog w h1 x a->TI prog w h2 x a:=λ{x a} t=>xW t λo e=>(sb2.2 a (S1.ne t)).trans e
  refine ih (i+1) _ (eJ xs q) (it1.at λo e=>(sb2.2 it (λz=>n1 z.symm)).trans e) (by obtain⟨o,e,r⟩:=l1;exact⟨o,(sb2.2 p (λz=>n2 z.symm)).trans e,r⟩) (by rw[<-List.drop_drop,hd];rfl) (λy hy=>tk2 (T1 y (zzg _ hy))) S2 (λy hy=>?_) (by have:=sT xs q;omega) λh' tk kp S'=>?_
  ·rcases sR hy with rfl|hy
   ·exact tk2 (tk1 hq)
   ·exact tk2 (X1 y hy)
  ·exact hR h' tk (λb o b1 b2 e=>kp b o b1 b2 ((sb2.2 b b1).trans ((sb1.2 b b2).trans e))) S'
end
end WS
set_option maxHeartbeats 3200000
namespace WS
open PySem PySem.SetTable
abbrev pJ(w:World):Obj:={ cls:=.type "set",dict:=none,data:=.set #[] 0 (.fresh 0 0 (!w.params.followText "set-order")) }
section
variable {prog:Program}{w:World}{A:Around}{E:zzj}{s:Shared}
theorem xI{v:Value}{Q₁:zzj}(h:Q₁ (.ref s.heap.objs.size) { s with heap:=s.heap.push (pJ w) }) :
  codeAny (model prog w) A (.call (.builtin "set.__new__") ⟨[.type "set",v],[]⟩) (wants Q₁ E) s:=by
 refine codeAny_of_tree ?_
 show wpAny _ A.in1 (do checkBuiltinCall "set.__new__" ⟨[.type "set",v],[]⟩;again (.builtin "set.__new__" ⟨[.type "set",v],[]⟩)) _ _ s
 refine zza (wpAny_of_eq (F.newCall_set_1 v) (zzb ⟨plainId_quiet F.plain_set_new _,codeAny_builtin F.entry_set_new ?_⟩))
 rw[Around.under_plainId F.plain_set_new _]
 unfold Builtin.«set.__new__» Builtin.Frozenset.newClass
 have hsub:=sub_set_self
 obtain⟨hp,g,d,tk,os⟩:=s
 dsimp only
 wp_walk
 refine wpAny_askSetting (zzb ?_)
 dsimp only
 simp only[newObj]
 refine zza (wpAny_alloc (zzb ?_))
 exact zzb h
theorem tb0(led:Bool):Tb (.fresh 0 0 led) #[] where
 km:=.inl rfl
 du:=rfl
 sz:=rfl
 up:=.nil
 le:=λj h=>absurd h (by simp[SetTable.fresh])
 pl:=rfl
 fu:=Nat.zero_le _
 rd:=λe j h=>absurd h (by simp)
theorem sx0{h:Heap}{l:Addr}(e:h.get? l=some (pJ w)):Sx prog w h l []:=⟨_,#[],0,_,e,⟨rfl,rfl,rfl⟩,rfl,tb0 _,by show 0*5<7*3;decide,.nil,rfl⟩
theorem xL{p:Addr}{items:Array Value}{xs:List (List Int×Addr)}{Q:zzj}(hh:A.handled=none)(hu:A.units+10<cLine)(hl:s.heap.IsList p items)(hi:items.toList=xs.map (λq=>Value.ref q.2))(hx:Tis prog w s.heap xs)(hn:xs.length<=76)
  (h:∀h' tk,(∀b o,s.heap.get? b=some o->h'.get? b=some o)->Sx prog w h' s.heap.objs.size (xs.foldl eJ [])->Q (.ref s.heap.objs.size) { s with heap:=h',toks:=tk }) :
  wpAny (model prog w) A (call (.type "set") [.ref p]) Q E s:=by
 obtain⟨c,tl,hmro⟩:=F.called_set.mro
 have hmade:=F.called_set.made
 have hsub:=F.called_set.sub
 refine wpAny_call (codeAny_of_tree ?_)
 show wpAny _ _ (callAny (.type "set") _) _ _ _
 refine zzb ⟨Code.quiet_builtin _ (by decide +kernel),codeAny_builtin F.entry_type_call ?_⟩
 rw[Around.under_plain (weight_type_call_type "set" [.ref p] []) rfl]
 have h1:=F.called_set.notType
 have h2:=F.called_set.canCreate
 have hct:=F.typeCall_set_1 (.ref p)
 repeat (any_goals (first|assumption|wp_step))
 refine codeAny_mono (xI (v:=.ref p) (E:=E) (Q₁:=λobj s₁=>obj=.ref s.heap.objs.size/\s₁={ s with heap:=s.heap.push (pJ w) }) ⟨rfl,rfl⟩) λr s₁ hr=>?_
 cases r with
 | error e=>exact hr
 | ok fl =>
  cases fl with
  | ret obj =>
   obtain⟨rfl,rfl⟩:=hr
   have hS:(s.heap.push (pJ w)).get? s.heap.objs.size=some (pJ w):=zze _ rfl
   have hT:Shared.TypeIs { s with heap:=s.heap.push (pJ w) } (.ref s.heap.objs.size) "set":=⟨_,hS,rfl⟩
   have hli:=F.called_set.init.lookup
   have hbi:=F.called_set.init.bind (.ref s.heap.objs.size)
   repeat (any_goals (first|assumption|wp_step))
   refine codeAny_mono (codeAny_call_builtin (R:=wants (λr s₂=>r=.none/\∃h' tk,s₂={ s with heap:=h',toks:=tk } /\
     Sx prog w h' s.heap.objs.size (xs.foldl eJ [])/\(∀b o,s.heap.get? b=some o->h'.get? b=some o)) E) F.called_set.init.plain F.entry_set_init (check_set_init_1 hT ?_)) λr₂ s₂ hr₂=>?_
   ·obtain⟨ol,hol,hcl,nl,hdl⟩:=hl
    obtain⟨ocls,odict,odata,oslots⟩:=ol
    simp only at hcl hdl
    subst hcl;subst hdl
    have hol':(s.heap.push (pJ w)).get? p=some { cls:=.type "list",dict:=odict,data:=.seq items nl,slots:=oslots }:=zzc _ hol
    have hsls:=F.sub_list_set
    have hslf:=F.sub_list_frozenset
    have hne:(Value.type "list" == Value.type "dict")=false:=by decide
    have hl1:(s.heap.push (pJ w)).IsList p items:=⟨_,hol',rfl,nl,rfl⟩
    unfold Builtin.«set.__init__» noKeywords Builtin.Frozenset.updateFrom
    generalize hPI:pyIter=PI
    wp_walk
    subst hPI
    refine wpAny_pyIter_list hl1 ?_
    refine zza (wpAny_runValue ?_)
    have hlS:p<s.heap.objs.size:=Heap.lt_size hol
    have hh3:A.in1.in1.handled=none:=by simp[hh]
    refine Bk hh3 (by simp;omega) (it:=(s.heap.push (pJ w)).objs.size) (p:=p) (items:=items) (by rw[Heap.size_push];exact Nat.ne_of_lt (Nat.lt_succ_self _)) (Nat.ne_of_gt hlS) (by rw[Heap.size_push];exact Nat.ne_of_gt (Nat.lt_succ_of_lt hlS)) xs 0 _ [] ⟨_,zze _ rfl,rfl,rfl⟩ (hl1.push _) (by rw[List.drop_zero];exact hi)
     (λy hy=>xW (hx y hy) λo e=>zzc _ (zzc _ e)) (sx0 (zzc _ hS)) (λy hy=>by cases hy) (by rw[List.length_nil];omega) λh' tk kp S'=>?_
    show wpAny _ _ _ _ _ _
    refine zzb ?_
    show wpAny _ _ (ret Value.none) _ _ _
    refine zzb ⟨rfl,h',tk,rfl,S',λb o e=>?_⟩
    have hb:=Heap.lt_size e
    exact kp b o (Nat.ne_of_lt hb) (by rw[Heap.size_push];exact Nat.ne_of_lt (Nat.lt_succ_of_lt hb)) (zzc _ (zzc _ e))
   ·cases r₂ with
    | error e=>exact hr₂
    | ok fl₂ =>
     cases fl₂ with
     | ret r =>
      obtain⟨rfl,h',tk,rfl,hS',hk'⟩:=hr₂
      repeat (any_goals (first|assumption|wp_step))
      exact h _ _ hk' hS'
     | _=>exact hr₂.elim
  | _=>exact hr.elim
end
end WS
namespace WS
open PySem PySem.SetTable PyProof.Rows
theorem md{α:Type}:∀(l:List α) (i:Nat) (h:i<l.length),(l[i]::l.eraseIdx i).Perm l
 | a::l,0,_=>.refl _
 | a::l,i+1,h=>by
  have:=md l i (by simpa using h)
  exact(List.Perm.swap _ _ _).trans (this.cons a)
theorem u5{α:Type}(next:Nat->Nat):∀(fuel k:Nat) (left:List α) (out:Array α),left.length<=fuel->(pickOrder.go next fuel k left out).toList.Perm (out.toList++left)
 | 0,k,left,out,h=>by
  have:left=[]:=List.length_eq_zero_iff.mp (by omega)
  subst this
  unfold pickOrder.go
  rw[List.append_nil]
 | fuel+1,k,left,out,h=>by
  unfold pickOrder.go
  cases left with
  | nil =>
   rw[List.getElem?_nil,List.append_nil]
  | cons a r =>
   have hi:next k % (a::r).length<(a::r).length:=Nat.mod_lt _ (by simp)
   rw[List.getElem?_eq_getElem hi]
   dsimp only
   refine(u5 next fuel (k+1) _ _ (by rw[List.length_eraseIdx,if_pos hi];omega)).trans ?_
   rw[Array.toList_push,List.append_assoc]
   exact List.Perm.append_left _ (md _ _ hi)
theorem wL{α:Type}(next:Nat->Nat)(xs:Array α):(pickOrder next xs).toList.Perm xs.toList:=by
 have:=u5 next xs.size 0 xs.toList #[] (by rw[Array.length_toList];exact Nat.le_refl _)
 simpa[pickOrder]using this
theorem qW:Manifest.owners.lookup (String.ofList ['r', 'o', 't', 'a', 'r', 'e', 't', 'i', '_', 't', 'e', 's'].reverse)=some Manifest.sig_set_iterator:=by kernel_rfl
theorem slot_next:Slot "set_iterator" "__next__" "set_iterator.__next__" :=
 .of (owner := "set_iterator") (n := "__next__") (by rw[typeLookup_type,builtinLookup_eq_fast];kernel_rfl) (by decide +kernel) (by decide +kernel) (by decide +kernel)
  (by first|exact .inl (by decide +kernel)|exact .inr (by decide +kernel)) (by rw[isSubtype_type];kernel_rfl)
theorem entry_next:entryFor table "set_iterator.__next__" = some Builtin.«set_iterator.__next__»:=entryFor_of_tree (by kernel_rfl)
theorem args_next(a:Value):argsOk "set_iterator.__next__" ⟨[a],[]⟩:=by
 unfold argsOk;rw[signature?_of (id := "set_iterator.__next__") (n:=['_', '_', 't', 'x', 'e', 'n', '_', '_']) (o:=['r', 'o', 't', 'a', 'r', 'e', 't', 'i', '_', 't', 'e', 's']) (by kernel_rfl) qW];kernel_rfl
theorem nG:Slot "set_iterator" "__iter__" "set_iterator.__iter__" :=
 .of (owner := "set_iterator") (n := "__iter__") (by rw[typeLookup_type,builtinLookup_eq_fast];kernel_rfl) (by decide +kernel) (by decide +kernel) (by decide +kernel)
  (by first|exact .inl (by decide +kernel)|exact .inr (by decide +kernel)) (by rw[isSubtype_type];kernel_rfl)
theorem ui:entryFor table "set_iterator.__iter__" = some Builtin.«dict_keyiterator.__iter__» :=
 entryFor_alias (id' := "dict_keyiterator.__iter__") (by kernel_rfl) rfl (by decide +kernel) (by kernel_rfl)
theorem xP(a:Value):argsOk "set_iterator.__iter__" ⟨[a],[]⟩:=by
 unfold argsOk;rw[signature?_of (id := "set_iterator.__iter__") (n:=['_', '_', 'r', 'e', 't', 'i', '_', '_']) (o:=['r', 'o', 't', 'a', 'r', 'e', 't', 'i', '_', 't', 'e', 's']) (by kernel_rfl) qW];kernel_rfl
theorem mj:entryFor table "set.__iter__" = some Builtin.«frozenset.__iter__» :=
 entryFor_alias (id' := "frozenset.__iter__") (by kernel_rfl) rfl (by decide +kernel) (by kernel_rfl)
section
variable {prog:Program}{w:World}{A:Around}{E:zzj}{s:Shared}{l it:Addr}{o:Obj}{es:Array (Int×Value)}{ep:Nat}{t:SetTable}
def byT(w:World):Bool:=w.params.followText "set-order"
def wl(w:World)(l:Addr)(ep:Nat)(es:Array (Int×Value)):Array (Int×Value):=if byT w then pickOrder (w.params.setOrder l ep) es else es
theorem wl_perm:(wl w l ep es).toList.Perm es.toList:=by
 unfold wl
 split
 ·exact wL _ _
 ·exact .refl _
theorem oC:(wl w l ep es).size=es.size:=by have:=(wl_perm (w:=w) (l:=l) (ep:=ep) (es:=es)).length_eq;rwa [Array.length_toList,Array.length_toList]at this
def sl(w:World)(t:SetTable):Nat->Nat
 | 0=>0
 | i+1=>if byT w then 0 else t.place.getD i 0+1
theorem yf(T:Tb t es)(hb:byT w=false){i:Nat}(hi:i<=es.size):below t.place (sl w t i)=i:=by
 cases i with
 | zero=>exact BR T.up
 | succ i =>
  unfold sl
  rw[hb]
  have h:i<t.place.size:=by rw[T.sz];omega
  refine uA T.up ?_
  rw[Array.getD_eq_getD_getElem?,Array.getElem?_eq_getElem h];rfl
theorem tJ{Q:Bool->Shared->Prop}(h:Q (byT w) s):wpAny (model prog w) A setsByText Q E s:=zza (wpAny_askSetting (zzb h))
theorem Em{Q:Bool->Shared->Prop}(ho:s.heap.get? l=some o)(hd:o.data=.set es ep t)(T:Tb t es)(h:Q false s):wpAny (model prog w) A (setDrawn l) Q E s:=by
 unfold setDrawn
 refine zza (wpAny_setState_of ho hd T.fits (zza (tJ (zzb ?_))))
 show Q (!byT w&&(!t.plain&&decide (es.size>1))) s
 rw[T.pl,Bool.not_true,Bool.false_and,Bool.and_false]
 exact h
theorem Gc{i:Nat}{Q:Option (Value×Nat)->Shared->Prop}(ho:s.heap.get? l=some o)(hd:o.data=.set es ep t)(T:Tb t es)(hled:t.led = !byT w)(hi:i<=es.size)
  (h:Q ((wl w l ep es)[i]?.map λe=>(e.2,sl w t (i+1))) s):wpAny (model prog w) A (setNext l (sl w t i) i ep) Q E s:=by
 unfold setNext
 refine zza (wpAny_setState_of ho hd T.fits (zza (tJ ?_)))
 cases hb:byT w with
 | true =>
  rw[if_pos rfl]
  dsimp only
  rw[if_neg (by simp)]
  unfold setWalk
  refine zza (zza (wpAny_setState_of ho hd T.fits (zza (tJ ?_))))
  rw[hb,if_pos rfl]
  refine zza (wpAny_askSetting (zzb (zzb ?_)))
  have e0:∀k,sl w t k=0:=λk=>by
   cases k with
   | zero=>rfl
   | succ k =>
    show(if byT w then 0 else t.place.getD k 0+1)=0
    rw[hb];rfl
  have e1:sl w t i=sl w t (i+1):=(e0 _).trans (e0 _).symm
  unfold wl at h
  rw[hb,if_pos rfl]at h
  rw[e1]
  exact h
 | false =>
  rw[if_neg (by decide)]
  dsimp only
  refine(show wpAny _ _ (if(!t.plain&&decide (es.size>1))=true then _ else _) _ _ _ from ?_)
  rw[if_neg (show ¬ ((!t.plain&&decide (es.size>1))=true) by rw[T.pl];simp)]
  refine zza ?_
  show wpAny _ _ (if(!t.led && !es.isEmpty)=true then unsupported "set:maker-not-led" else pure ()) _ _ s
  rw[if_neg (by rw[hled,hb];simp)]
  refine zzb ?_
  rw[yf T hb hi]
  refine zzb ?_
  unfold wl at h
  rw[hb,if_neg (by decide)]at h
  by_cases hs:i<es.size
  ·have h2:i<t.place.size:=by rw[T.sz];exact hs
   rw[Array.getElem?_eq_getElem hs,Array.getElem?_eq_getElem h2]
   rw[Array.getElem?_eq_getElem hs]at h
   have:sl w t (i+1)=t.place[i]+1:=by
    show(if byT w then 0 else t.place.getD i 0+1)=_
    rw[hb,if_neg (by decide),Array.getD_eq_getD_getElem?,Array.getElem?_eq_getElem h2];rfl
   rw[Option.map_some,this]at h
   exact h
  ·rw[Array.getElem?_eq_none (by omega),Array.getElem?_eq_none (by rw[T.sz];omega)]
   rw[Array.getElem?_eq_none (by omega)]at h
   exact h
end
section
variable {prog:Program}{w:World}{A:Around}{E:zzj}{s:Shared}{l it:Addr}{o:Obj}{es:Array (Int×Value)}{ep:Nat}{t:SetTable}
def itO(w:World)(l:Addr)(t:SetTable)(n ep i:Nat):Obj:={ cls:=.type "set_iterator",data:=.fields #[.int (sl w t i) 0,.int i 0,.ref l,.int n 0,.int ep 0] }
def IsSI(w:World)(h:Heap)(it l:Addr)(t:SetTable)(n ep i:Nat):Prop:=∃o,h.get? it=some o/\o.cls=.type "set_iterator" /\ o.data=.fields #[.int (sl w t i) 0,.int i 0,.ref l,.int n 0,.int ep 0]
theorem IsSI.ty{n i:Nat}(x:IsSI w s.heap it l t n ep i):s.TypeIs (.ref it) "set_iterator":=let ⟨o,e,c,_⟩:=x;⟨o,e,c⟩
theorem IsSI.kp{h h':Heap}{n i:Nat}(x:IsSI w h it l t n ep i)(k:∀o,h.get? it=some o->h'.get? it=some o):IsSI w h' it l t n ep i:=let ⟨o,e,r⟩:=x;⟨o,k o e,r⟩
theorem Ef{Q:zzj}(ho:s.heap.get? l=some o)(hex:o.ExactSet)(hd:o.data=.set es ep t)(T:Tb t es)(q:Q (.ref s.heap.objs.size) { s with heap:=s.heap.push (itO w l t es.size ep 0) }) :
  wpAny (model prog w) A (pyIter (.ref l)) Q E s:=by
 have hT:s.TypeIs (.ref l) "set":=⟨o,ho,hex.1⟩
 refine wpAny_pyIter_slot hT F.slot_set_iter (wpAny_call_entry F.slot_set_iter hT mj ?_ (F.args_set_iter_1 _))
 unfold Builtin.«frozenset.__iter__»
 refine(show wpAny (model prog w) _ (Builtin.Frozenset.sizeOf l >>= _) _ _ s from ?_)
 unfold Builtin.Frozenset.sizeOf
 refine zza (zza (wpAny_setEntries_of ho hd T.fits (zzb (zza (Em ho hd T ?_)))))
 rw[if_neg (by decide)]
 refine zza (zzb (zza (wpAny_setEpoch_of ho hd T.fits (zza (wpAny_newObj_type (zzb ⟨_,rfl, "set_iterator",_,⟨_,zze _ rfl,rfl⟩,slot_next.lookup,?_⟩))))))
 simpa[rawInt,itO,sl]using q
theorem zd{i:Nat}{Q:Option Value->Shared->Prop}(hit:IsSI w s.heap it l t es.size ep i)(ho:s.heap.get? l=some o)(hd:o.data=.set es ep t)(T:Tb t es)(hled:t.led = !byT w)(hi:i<=es.size)
  (q1:∀(h:i<(wl w l ep es).size) (h':Heap),IsSI w h' it l t es.size ep (i+1)->Heap.SameBut it s.heap h'->Q (some (wl w l ep es)[i].2) { s with heap:=h' })
  (q2:es.size<=i->A.handled=none/\∀h',Heap.ExtBut it s.heap h'->Q none { s with heap:=h' }):wpAny (model prog w) A (pyNext (.ref it)) Q E s:=by
 obtain⟨oi,hoi,hc,hdi⟩:=id hit
 have hTi:=hit.ty
 unfold pyNext
 refine zza (wpAny_attempt (wpAny_callSpecial?_slot (name:=Str.ofString "__next__") hTi slot_next (wpAny_call_entry slot_next hTi entry_next ?_ (args_next _))))
 unfold Builtin.«set_iterator.__next__»
 refine(show wpAny (model prog w) _ (fieldsOf (.ref it) >>= _) _ _ s from zza (wpAny_fieldsOf hoi hdi ?_))
 dsimp only
 refine zza (wpAny_setEntries_of ho hd T.fits ?_)
 rw[if_neg (by simp)]
 rw[Int.toNat_natCast,Int.toNat_natCast,Int.toNat_natCast]
 refine zza (Gc ho hd T hled hi ?_)
 by_cases hw:i<(wl w l ep es).size
 ·rw[Array.getElem?_eq_getElem hw]
  dsimp only[Option.map_some]
  refine zza (wpAny_setField hoi hdi (by simp) ?_)
  have h1:=Heap.get?_update_self (h:=s.heap) (Obj.mapFields (·.setIfInBounds 0 (rawInt (sl w t (i+1))))) hoi (Obj.isFreed_of_fields (Obj.data_mapFields hdi _))
  have d1:(Obj.mapFields (·.setIfInBounds 0 (rawInt (sl w t (i+1)))) oi).data=.fields #[.int (sl w t (i+1)) 0,.int i 0,.ref l,.int es.size 0,.int ep 0]:=by rw[Obj.data_mapFields hdi];simp[rawInt]
  refine zza (wpAny_setField h1 d1 (by simp) ?_)
  refine zzb ⟨_,rfl,zzb (q1 hw _ ⟨_,Heap.get?_update_self _ h1 (Obj.isFreed_of_fields (Obj.data_mapFields d1 _)),(Obj.cls_mapFields ..).trans ((Obj.cls_mapFields ..).trans hc),by rw[Obj.data_mapFields d1];simp[rawInt]⟩ ((Heap.SameBut.update ..).trans (Heap.SameBut.update ..)))⟩
 ·rw[Array.getElem?_eq_none (by omega)]
  obtain⟨hh,q⟩:=q2 (by rw[oC]at hw;omega)
  dsimp only[Option.map_none]
  refine zza (wpAny_setField hoi hdi (by simp) ?_)
  refine(show wpAny (model prog w) _ (newExc (.type "StopIteration") [] >>= _) _ _ _ from zza ?_)
  simp only[newExc,newTuple]
  refine zza (wpAny_newObj_type ?_ (by size_fits))
  refine zza (m:=firstArgMember _ _) (wpAny_of_eq (a:=Value.none) (by first|rfl|(simp only[firstArgMember];rfl)) ?_)
  refine wpAny_newObj_type ?_ (by size_fits)
  simp only[raiseNew]
  refine zza (wpAny_handled ?_)
  rw[show A.in1.handled=none from hh]
  refine zza (zzb (wpAny_throw ?_))
  refine zza (wpAny_isInstance (T := "StopIteration") (b:=true) (by exact⟨_,zze _ rfl,rfl⟩) isSubtype_stop ?_)
  exact zzb (q _ (((Heap.SameBut.update ..).extBut.push _).push _))
theorem zG{Q:Bool->Shared->Prop}(hT:s.TypeIs (.ref l) "set")(h:Q false s):wpAny (model prog w) A (Builtin.List.listLengthHint (.ref l)) Q E s:=by
 unfold Builtin.List.listLengthHint
 refine zza (wpAny_specialOf hT PySem.F.slot_set_len.lookup ?_)
 generalize hid:("set.__len__" : String)=id0
 wp_delta
 rw[show splitId id0=some ("set", "__len__")from by subst hid;decide +kernel]
 subst hid
 refine zza (wpAny_isInstance (T := "set") (b:=true) hT (by rw[isSubtype_type];kernel_rfl) ?_)
 refine wpAny_ite_split (λhab=>absurd hab (by decide)) (λ_=>?_)
 refine wpAny_ite_split (λ_=>?_) (λhab=>absurd (by decide +kernel) hab)
 refine zza (wpAny_typeOf hT ?_)
 exact zzb h
theorem Ax(hex:o.ExactSet)(hd:o.data=.set es ep t)(T:Tb t es)(hled:t.led = !byT w):PySem.W.KdlSrc prog w "set" l l es.size (λi v=>∃e,(wl w l ep es)[i]? = some e/\v=e.2) (λh=>h.get? l=some o) where
 type:=λ_ x=>⟨o,x,hex.1⟩
 there:=λh x=>⟨Heap.lt_size x,Heap.lt_size x⟩
 keep:=λ_ _ x k=>k l (.inl rfl) o x
 notList:=by decide
 notTuple:=by decide
 hint:=λ_ _ _ _ x q=>zG ⟨o,x,hex.1⟩ q
 iter:=λA s hh x=>by
  have hne:l≠s.heap.objs.size:=Nat.ne_of_lt (Heap.lt_size x)
  refine⟨_,λi h=>IsSI w h s.heap.objs.size l t es.size ep i/\h.get? l=some o,λE Q q=>Ef x hex hd T q,⟨?_,?_,?_,?_,?_⟩,⟨_,zze _ rfl,rfl,rfl⟩,zzc _ x⟩
  ·intro b hb
   rw[List.mem_singleton.mp hb]
   exact List.mem_cons_self
  ·intro i h h' st k
   exact⟨st.1.kp λo e=>k _ List.mem_cons_self o e,k l (by simp) o st.2⟩
  ·intro i s1 Q E hi st q
   refine zd st.1 st.2 hd T hled (by omega) (λhi h' a1 a2=>q _ h' s1.toks ⟨_,Array.getElem?_eq_getElem hi,rfl⟩ ⟨a1,a2.extBut l o hne st.2⟩ λb o hb e=>a2.extBut b o (λz=>hb (by simp[z])) e) λz=>absurd hi (by lia)
  ·intro s1 Q E st q
   exact zd st.1 st.2 hd T hled (Nat.le_refl _) (λhi=>absurd hi (by rw[oC];exact Nat.lt_irrefl _)) λ_=>⟨hh,λh' a=>q h' s1.toks λb o hb e=>a b o (λz=>hb (by simp[z])) e⟩
  ·intro i s1 Q E st q
   refine wpAny_pyIter_slot st.1.ty nG (wpAny_call_entry nG st.1.ty ui ?_ (xP _))
   show wpAny _ _ (ret (.ref _)) _ _ s1
   exact zzb ⟨_,rfl, "set_iterator",_,st.1.ty,slot_next.lookup,q⟩
end
end WS
namespace L4
open PySem PySem.Spec PyProof.Rows L2 L3 TS WS
def ie(k:List Int):D:=.tuple (k.map .int)
def SW(X:Cx)(l:Addr)(zs:List (List Int×Addr)):HO:=.ext λh=>Sx X.prog X.w h l zs
def RT(K:Fg)(F:Hp)(zs:List (List Int×Addr)):Prop:=∀p∈zs,Rep K F (.ref p.2) (ie p.1)
def setOk(ds:List D):Bool:=decide (ds.length<64)&&ds.all gH
def uj(acc:List D)(d:D):List D:=if keyD d∈acc.map keyD then acc else acc++[d]
def BI(ds:List D):List D:=ds.foldl uj []
def BF:List D->Option (List D)
 | [.list ds]=>if setOk ds then some (cH (BI ds))else none
 | _=>none
def Hm(X:Cx):List V->Hp->VK->Prop:=λxs H Q=>∃(G:Gh) (F:Hp) (Z:L2.St) (ρ:En) (x:V) (ds:List D),xs=[x]/\StOk X.K G F Z H ρ/\OR X.K F H x (.list ds)/\setOk ds=true /\
 ∀l zs,H l=none->RT X.K F zs->zs.map (λp=>ie p.1)=ds->Q (.ref l) (upd H l (SW X l (zs.foldl eJ [])))
theorem gl(k:List Int):keyD (ie k)=k:=by
 show(intsOf (k.map PyData.int)).getD []=k
 rw[iE];rfl
theorem kg{K:Fg}{F:Hp}{prog:Program}{w:World}:∀{vs:List V} {k:List Int} {us:List Value},RepL K F vs (k.map .int)->Vals vs us->ItemsAre (intKind prog w) k us
 | [],k,us,r,v=>by
  cases k with
  | nil=>cases v;exact .nil
  | cons _ _=>cases r
 | x::vs,k,us,r,v=>by
  cases k with
  | nil=>cases r
  | cons i k =>
   cases r with
   | cons a b =>
    have e:=a.int_inv
    subst e
    cases v with
    | cons c d =>
     obtain⟨t,rfl⟩:=c
     exact .cons (intKind_is _ _ _ _) (kg b d)
theorem Cc{X:Cx}{pins:zzk}{Z σ':L2.St}{H F:Hp}{s:Shared}{G:Gh}{ρ:En}(I:Inv X pins Z H s)(S:StOk X.K G F σ' H ρ):∀{vs:List V} {ds:List D} {us:List Value},RepL X.K F vs ds->Vals vs us->ds.all gH=true ->
  ∃zs:List (List Int×Addr),RT X.K F zs/\zs.map (λp=>ie p.1)=ds/\us=zs.map (λp=>Value.ref p.2)/\Tis X.prog X.w s.heap zs
 | [],ds,us,r,v,_=>by
  cases r;cases v
  exact⟨[],(λp h=>nomatch h),rfl,rfl,λp h=>nomatch h⟩
 | x::vs,ds,us,r,v,h=>by
  cases r with
  | @cons _ d _ ds a b =>
   cases v with
   | cons c e =>
    rw[List.all_cons,Bool.and_eq_true]at h
    obtain⟨n,q,rfl⟩:=df h.1
    obtain⟨ad,ws,rfl,f1,f2⟩:=a.tup_inv
    obtain⟨zs,z1,z2,z3,z4⟩:=Cc I S b e h.2
    cases c
    obtain⟨its,rv,⟨o,e1,e2,m,e3⟩,_⟩:=I.tuple (.inl (.inl (S.fh _ _ f1)))
    refine⟨(n::q,ad)::zs,λp hp=>?_,?_,?_,λp hp=>?_⟩
    ·rcases List.mem_cons.mp hp with rfl|hp
     ·exact a
     ·exact z1 p hp
    ·rw[List.map_cons,z2];rfl
    ·rw[List.map_cons,<-z3]
    ·rcases List.mem_cons.mp hp with rfl|hp
     ·exact⟨o,its.toArray,m,e1,e2,e3,kg f2 rv⟩
     ·exact z4 p hp
theorem zX{X:Cx}(hc:X.calm=true)(hu:X.A.units+1100<cLine):CallR X (.type "set") (Hm X):=by
 intro pins s Z H xs us Q I r h0
 obtain⟨G,F,σ',ρ,x,ds,rfl,S,ho,hok,k⟩:=h0
 obtain⟨u,rfl,ru⟩:=L2.Vals.one r
 unfold setOk at hok
 rw[Bool.and_eq_true,zzi]at hok
 obtain⟨a,vs,rfl,h1,h2⟩:=ho.list S.fh
 cases ru
 obtain⟨its,rv,pl,hz⟩:=I.list h1
 obtain⟨o,e1,e2,n,e3⟩:=pl.isList
 obtain⟨zs,z1,z2,z3,z4⟩:=Cc I S h2 rv hok.2
 have hl:zs.length=ds.length:=by rw[<-z2,zzd]
 refine xL (p:=a) (items:=its.toArray) (xs:=zs) (I.ok.hd hc) (by omega) ⟨o,e1,e2,n,e3⟩ z3 z4 (by omega) λh' tk kp S'=>?_
 refine⟨.ref s.heap.objs.size,upd H s.heap.objs.size (SW X s.heap.objs.size (zs.foldl eJ [])),I.laid (t':=tk) kp (Nat.le_refl _) ⟨S',?_,λh1 h2 p q=>p.kp q⟩,rfl,k _ zs (I.hok.fresh (Nat.le_refl _)) z1 z2⟩
 obtain⟨o',_,_,_,e,_⟩:=S'
 exact⟨o',e⟩
theorem lB{α β:Type}{f:α->β}:∀{l:List β} {zs:List α},l.Perm (zs.map f)->∃zs':List α,zs'.Perm zs/\l=zs'.map f
 | [],zs,h=>by
  have:zs=[]:=by have:=h.length_eq;rw[zzd]at this;exact List.length_eq_zero_iff.mp this.symm
  subst this
  exact⟨[],.refl _,rfl⟩
 | x::l,zs,h=>by
  obtain⟨z,hz,rfl⟩:=List.mem_map.mp (h.mem_iff.mp List.mem_cons_self)
  obtain⟨as,bs,rfl⟩:=List.append_of_mem hz
  have h2:(f z::l).Perm (f z::(as++bs).map f):=h.trans (by rw[List.map_append,List.map_cons,List.map_append];exact List.perm_middle)
  obtain⟨zs',p1,p2⟩:=lB h2.cons_inv
  exact⟨z::zs',(p1.cons z).trans List.perm_middle.symm,by rw[List.map_cons,p2]⟩
theorem qH{a b:List D}(p:a.Perm b)(h:∀d∈b,gH d=true):cH a=cH b:=by
 have pm:(cH a).Perm (cH b):=((bN a).trans p).trans (bN b).symm
 refine fc (R:=λx y=>leK x y=true) (λx hx y hy h1 h2=>?_) pm (cG a) (cG b)
 obtain⟨n,r,rfl⟩:=df (h x ((bN b).mem_iff.mp hx))
 obtain⟨n',r',rfl⟩:=df (h y ((bN b).mem_iff.mp hy))
 unfold leK at h1 h2
 rw[Bool.not_eq_true']at h1 h2
 have:=lK h2 h1
 rw[show keyD (.tuple ((n::r).map PyData.int))=n::r from gl _,show keyD (.tuple ((n'::r').map PyData.int))=n'::r' from gl _]at this
 rw[this]
def Fl(X:Cx):List V->Hp->VK->Prop:=λxs H Q=>∃(G:Gh) (F:Hp) (Z:L2.St) (ρ:En) (l:Addr) (zs:List (List Int×Addr)),xs=[.ref l]/\StOk X.K G F Z H ρ/\H l=some (SW X l zs)/\RT X.K F zs/\setOk (zs.map λp=>ie p.1)=true /\
 ∀l vs,H l=none->RepL X.K F vs (cH (zs.map λp=>ie p.1))->Q (.ref l) (upd H l (.lst vs))
theorem zC{es:Array (Int×Value)}{acc:Array Value}(h:ItemsOf (λi v=>∃e,es[i]? = some e/\v=e.2) acc es.size):acc.toList=es.toList.map (·.2):=by
 apply List.ext_getElem?
 intro j
 rw[Array.getElem?_toList,List.getElem?_map,Array.getElem?_toList]
 cases q:acc[j]? with
 | some v =>
  obtain⟨e,e1,rfl⟩:=h.2 j v q
  rw[e1];rfl
 | none =>
  have:es.size<=j:=by rw[<-h.1];exact Array.getElem?_eq_none_iff.mp q
  rw[Array.getElem?_eq_none this];rfl
theorem uR{K:Fg}{F:Hp}:∀{zs:List (List Int×Addr)},RT K F zs->RepL K F (zs.map λp=>V.ref p.2) (zs.map λp=>ie p.1)
 | [],_=>.nil
 | p::zs,h=>.cons (h p List.mem_cons_self) (uR λq hq=>h q (zzg _ hq))
theorem uQ:∀(zs:List (List Int×Addr)),Vals (zs.map λp=>V.ref p.2) (zs.map λp=>Value.ref p.2)
 | []=>.nil
 | p::zs=>.cons rfl (uQ zs)
theorem uu{X:Cx}(hc:X.calm=true):CallR X (.builtin "sorted") (Fl X):=by
 intro pins s Z H xs us Q I r h0
 obtain⟨G,F,σ',ρ,l,zs,rfl,S,hl,rt,hok,k⟩:=h0
 obtain⟨u,rfl,ru⟩:=L2.Vals.one r
 cases ru
 obtain⟨⟨o,es,ep,t,ho,hex,hd,T,_,hp,hled⟩,_,_⟩:=I.hok l _ hl
 unfold setOk at hok
 rw[Bool.and_eq_true,zzi]at hok
 have hlen:es.size=zs.length:=by have:=hp.length_eq;rwa [Array.length_toList,zzd]at this
 have hz:es.size<=sizeLine:=by
  rw[zzd]at hok
  exact Nat.le_trans (show es.size<=1000 by omega) (by decide)
 refine il λE' Q' q=>sD (Ax hex hd T hled) (I.ok.hd hc) ho hz λh' tk acc kp it=>q _ _ ?_
 have I2:Inv X pins Z H { s with heap:=h',toks:=tk }:=I.kept (t':=tk) kp
 have it':ItemsOf (λi v=>∃e,(wl X.w l ep es)[i]? = some e/\v=e.2) acc (wl X.w l ep es).size:=by rw[oC];exact it
 obtain⟨zs',p1,p2⟩:=lB (wl_perm.trans hp)
 have ea:acc.toList=zs'.map λp=>Value.ref p.2:=by
  rw[zC it',p2,List.map_map];rfl
 have rt':RT X.K F zs':=λp hp=>rt p (p1.mem_iff.mp hp)
 have pd:(zs'.map λp=>ie p.1).Perm (zs.map λp=>ie p.1):=p1.map _
 refine jA I2 S (uR rt') (by rw[ea];exact uQ zs') (by rw[zzd,p1.length_eq,<-hlen];exact hz) ?_ λl vs hl rp=>k l vs hl ?_
 ·unfold cF
  have:(zs'.map λp=>ie p.1).all gH=true:=by
   rw[List.all_eq_true]
   intro d hd'
   exact List.all_eq_true.mp hok.2 d (pd.mem_iff.mp hd')
  rw[this,Bool.or_true,Bool.and_true,zzi,pd.length_eq]
  exact hok.1
 ·rw[<-qH pd (λd hd'=>List.all_eq_true.mp hok.2 d hd')]
  exact rp
theorem sU:∀(zs acc:List (List Int×Addr)),(zs.foldl eJ acc).map (λp=>ie p.1)=(zs.map λp=>ie p.1).foldl uj (acc.map λp=>ie p.1)
 | [],acc=>rfl
 | z::zs,acc=>by
  rw[List.foldl_cons,List.map_cons,List.foldl_cons,sU zs]
  congr 1
  unfold eJ uj
  have e:(acc.map λp=>ie p.1).map keyD=acc.map (·.1):=by
   rw[List.map_map]
   exact List.map_congr_left λp _=>gl p.1
  rw[e,gl]
  split
  ·rfl
  ·rw[List.map_append];rfl
theorem lX:∀(zs acc:List (List Int×Addr)) (p:List Int×Addr),p∈zs.foldl eJ acc->p∈acc\/p∈zs
 | [],acc,p,h=>.inl h
 | z::zs,acc,p,h=>by
  rcases lX zs (eJ acc z) p h with h|h
  ·rcases sR h with rfl|h
   ·exact .inr List.mem_cons_self
   ·exact .inl h
  ·exact .inr (zzg _ h)
theorem rQ:∀(zs acc:List (List Int×Addr)),(zs.foldl eJ acc).length<=acc.length+zs.length
 | [],acc=>Nat.le_refl _
 | z::zs,acc=>by
  have h1:=rQ zs (eJ acc z)
  have h2:=sT acc z
  rw[List.foldl_cons,List.length_cons]
  omega
theorem uF{X:Cx}{e:Expr}{ps:Pa (List D)}{p p2 pos pos2:Pos}(hc:X.calm=true)(hu:X.A.units+1100<cLine)(hg:Gl X "sorted")(hm:X.mg "sorted" = none)(hg2:Gl X "set")(hm2:X.mg "set" = none)(ha:AAo X [e] ps)
  (he:starEach [.Call (.Name "set" p2) [e] [] pos2] X.env=[(false,eval (.Call (.Name "set" p2) [e] [] pos2) X.env)]) (he2:starEach [e] X.env=[(false,eval e X.env)]):AL X (.Call (.Name "sorted" p) [.Call (.Name "set" p2) [e] [] pos2] [] pos) (tT BF ps) :=
 λG F Z H ρ Q S w=>sem (iQ (uu hc) hg hm (by decide +kernel) (gX (jF (zX hc hu) hg2 hm2 (by decide +kernel) bC (by decide) (by decide) he2 rfl) lC he) (by decide) (by decide) he rfl) (ha G F Z H ρ _ _ _ S w λds xs F1 H1 s1 S1 hx w1=>by
  obtain⟨res,er,k⟩:=w1.opt
  have hx':=hx.ors S1
  unfold BF at er
  split at er
  ·rename_i es
   split at er
   ·rename_i hok
    cases er
    obtain⟨v,r,rfl,ho,hr⟩:=aV hx'
    obtain rfl:=bG hr
    refine⟨G,F1,Z,ρ,v,es,rfl,S1,ho,hok,λl zs hl rt ez=>?_⟩
    have S2:StOk X.K G F1 Z (upd H1 l (SW X l (zs.foldl eJ []))) ρ:=S1.lay hl
    have ed:(zs.foldl eJ []).map (λp=>ie p.1)=BI es:=by rw[sU,ez];rfl
    unfold setOk at hok
    rw[Bool.and_eq_true,zzi]at hok
    refine⟨G,F1,Z,ρ,l,zs.foldl eJ [],rfl,S2,aK,λp hp=>?_,?_,λl2 vs hl2 rp=>?_⟩
    ·rcases lX zs [] p hp with h|h
     ·cases h
     ·exact rt p h
    ·unfold setOk
     rw[Bool.and_eq_true,zzi,zzd,List.all_eq_true]
     refine⟨?_,λd hd=>?_⟩
     ·have:=rQ zs []
      rw[<-ez,zzd]at hok
      rw[List.length_nil]at this
      omega
     ·obtain⟨q,hq,rfl⟩:=List.mem_map.mp hd
      rcases lX zs [] q hq with h|h
      ·cases h
      ·exact List.all_eq_true.mp hok.2 _ (by rw[<-ez];exact List.mem_map.mpr ⟨q,h,rfl⟩)
    ·rw[ed]at rp
     obtain⟨S3,r3⟩:=S2.newLst hl2 rp
     exact k F1 _ (Same.refl _) S3 _ r3
   ·cases er
  ·cases er)
end L4
set_option maxHeartbeats 8000000
namespace K10
open PySem PySem.Spec PyProof.Rows L2 L3 L4
noncomputable section
def top(i:Nat):Stmt:=PySem.Challenge.pw_passersby_k10_rules_as_rows.main.body.getD i (.Pass ⟨0,0,0,0⟩)
abbrev BL:List Str:=["range", "len", "tuple", "min", "abs", "repr", "all", "int", "str", "sorted", "set"]
def BN(mg:zzl):Prop:=∀x∈BL,mg x=none
theorem BN.range{mg:zzl}(B:BN mg):mg "range" = none:=B _ (by decide)
theorem BN.len{mg:zzl}(B:BN mg):mg "len" = none:=B _ (by decide)
theorem BN.tuple{mg:zzl}(B:BN mg):mg "tuple" = none:=B _ (by decide)
theorem BN.min{mg:zzl}(B:BN mg):mg "min" = none:=B _ (by decide)
theorem BN.abs{mg:zzl}(B:BN mg):mg "abs" = none:=B _ (by decide)
theorem BN.repr{mg:zzl}(B:BN mg):mg "repr" = none:=B _ (by decide)
theorem BN.all{mg:zzl}(B:BN mg):mg "all" = none:=B _ (by decide)
theorem BN.int{mg:zzl}(B:BN mg):mg "int" = none:=B _ (by decide)
theorem BN.str{mg:zzl}(B:BN mg):mg "str" = none:=B _ (by decide)
theorem BN.sorted{mg:zzl}(B:BN mg):mg "sorted" = none:=B _ (by decide)
theorem BN.set{mg:zzl}(B:BN mg):mg "set" = none:=B _ (by decide)
structure KN(mg:zzl):Prop where
 MOST_ROOMS:∃u,mg "MOST_ROOMS" = some u/\RelV (.int 40) u
 MOST_SORTS:∃u,mg "MOST_SORTS" = some u/\RelV (.int 4) u
 FIGURES:∃u,mg "FIGURES" = some u/\RelV (.str "0123456789") u
 MOST_FIGURES:∃u,mg "MOST_FIGURES" = some u/\RelV (.int 9) u
section
variable {P:Program}{w:World}{K:Fg}{mg:zzl}{base:Heap}
abbrev ag:List Str:=["number", "words", "place", "asked"]
variable {CA_Row:Addr}
def dM(s:Stmt):List Stmt:=match s with
 | .ClassDef _ _ _ b _ _ _ _ _ _ _=>b
 | _=>[]
abbrev eW:Stmt:=(dM (top 6)).getD 0 (.Pass ⟨0,0,0,0⟩)
theorem lb:FnScope ["self", "row", "word"] ["self", "row", "word"] (au eW):=⟨rfl,rfl,rfl,by decide +kernel,rfl,by decide +kernel,by decide +kernel⟩
theorem xJ{Cl D f:Addr}{fd:FuncData}(Fn:Fun K "__init__" "NoText.__init__" eW f fd)(c:XC K Cl D f)(hm:mg "NoText" = some (.ref Cl))(hc:XQ K Cl "NoText")(kp:PySem.W.keepIn K (.ref Cl)=true)(na:∀f∈(["row", "word"]:List Str),NoAttr K Cl f)(ex:PySem.W.exmOne K (.ref Cl) (.ref Cl)=some true):CCl P w K mg base "NoText" 1 ["row", "word"] :=
 ⟨Cl,D,f,fd,["self", "row", "word"],c,Gv (k:=0) Fn lb rfl c (na _ (by simp)) (na _ (by simp)) (by decide),(z5 Fn λ_ _ _ _ _ _ _ _ _=>rfl),hm,hc,kp,na,ex⟩
abbrev oN:Stmt:=top 0
abbrev Ca:List Str:=["k"]
theorem yo:FnScope Ca ["k"] (au oN):=⟨rfl,rfl,rfl,by decide +kernel,rfl,by decide +kernel,by decide +kernel⟩
def uz:M D :=
 .ret .none
def ux(kn1:Unit->M D):M D :=
 bd (oM (wm (.bool true))) λb2=>if b2 then
  kn1 (())
  else uz
def vT(p_k:D):M D :=
 oE (λs3 kn=>ux  kn) 10000 (())
def rq:List D->M D:=λl=>match l with
 | [p_k]=>vT p_k
 | _=>.bad
theorem zc{f:Addr}{fd:FuncData}(Fn:Fun K "_wall" "_wall" oN f fd)(hmg:mg "_wall" = some (.ref f))(B:BN mg)(Kn:KN mg):CF P w K mg base "_wall" 1 (spD K 1 rq) :=
 ⟨f,fd,["k"],eC (k:=0) Fn yo (λcdv A outer s H E hr =>
  (aD (oq (sh:=[.dead]) (fuel:=10000) PassesOwn.leaving (dk (z8 (ao v6) (λ_=>rfl)))
  (aD BY))))
 (λds hl=>(by obtain⟨p_k,rfl⟩:=ln1 hl;kernel_rfl)),hmg,Fn.kp,(nh Fn λ_ _ _ _ _ _ _=>rfl)⟩
abbrev gp:Stmt:=top 2
abbrev sV:List Str:=["word", "numbers"]
theorem oJ:FnScope sV ["word", "numbers"] (au gp):=⟨rfl,rfl,rfl,by decide +kernel,rfl,by decide +kernel,by decide +kernel⟩
abbrev N_shown_row_0:List Str:=["word", "numbers", "number"]
theorem jK:N_shown_row_0.Nodup:=by decide +kernel
def bx(gaw:D)(gaT:D):M D :=
 bd (onT .str (.str " ") (bd (bd (bd (bd (oM (eK gaT)) λl3=>bd (bq (λd1=>bd (oM (pX [d1])) λx2=>.ret (some x2)) l3) eD) λl4=>.ret (PyData.list l4)) λx5=>oM (aT (PyData.list [gaw]) x5)) λx6=>oM (h8 (.str " ") [x6]))) λx7=>.ret x7
def jd:List D->M D:=λl=>match l with
 | [gaw,gaT]=>bx gaw gaT
 | _=>.bad
theorem o9{f:Addr}{fd:FuncData}(Fn:Fun K "shown_row" "shown_row" gp f fd)(hmg:mg "shown_row" = some (.ref f))(B:BN mg)(Kn:KN mg):CF P w K mg base "shown_row" 1 (spD K 2 jd) :=
 ⟨f,fd,["word", "numbers"],eC (k:=0) Fn oJ (λcdv A outer s H E hr =>
  (aD (bh (aq (jv (ty:=.str) PySem.F.plainAttrs_str PySem.F.slot_str_join PySem.F.type_str_join jb (ao aY) (af (aM bc bO (ao (hG (eI (af (av 0) aB)))) (ao (hG (eT (N':=N_shown_row_0) (k:=1) rfl (aZ (by kernel_rfl) rfl rfl) (dA (av 1)) (λ_ _ _ _ _=>(aU (i:=2) (show 2<=2 by decide) jK)) (λ_ _ _ _ _=>cj) (λ_ _ _ _ _=>(bL dN o8 B.str (by decide +kernel) (aE (ao (av 2)) aJ))))))) aB) rfl rfl rfl rfl rfl)))))
 (λds hl=>(by obtain⟨gaw,gaT,rfl⟩:=ln2 hl;kernel_rfl)),hmg,Fn.kp,(sH Fn λ_ _ _ _ _ _ _ _=>rfl)⟩
abbrev fG:Stmt:=top 3
abbrev qr:List Str:=["rule", "truths", "rows"]
theorem sc_shown_rule:FnScope qr ["rule"] (au fG):=⟨rfl,rfl,rfl,by decide +kernel,rfl,by decide +kernel,by decide +kernel⟩
abbrev N_shown_rule_0:List Str:=["rule", "truths", "rows", "truth"]
theorem iX:N_shown_rule_0.Nodup:=by decide +kernel
abbrev N_shown_rule_1:List Str:=["rule", "truths", "rows", "meeting"]
theorem iW:N_shown_rule_1.Nodup:=by decide +kernel
def bg(gaX:D):M (List D) :=
 bd (bd (bd (bd (oM (bI gaX (.int 3))) λx1=>oM (eK x1)) λl5=>bd (bq (λd2=>bd (bd (oM (wm d2)) λb3=>if b3 then .ret (.str "yes")else .ret (.str "no")) λx4=>.ret (some x4)) l5) eD) λl6=>.ret (PyData.list l6)) λx7=>bd (bd (bd (bd (bd (asI (.int 1)) λhi8=>oM (rV gaX none hi8)) λx9=>bx (.str "rooms") x9) λx10=>bd (bd (oM (bI gaX (.int 1))) λx11=>bx (.str "starts") x11) λx12=>bd (onT .str (.str " ") (bd (oM (aT (PyData.list [(.str "says")]) x7)) λx13=>oM (h8 (.str " ") [x13]))) λx14=>.ret [x10,x12,x14]) λl15=>.ret (PyData.list l15)) λx16=>bd (bd (bd (bd (bd (oM (bI gaX (.int 2))) λx17=>oM (eK x17)) λl20=>bd (bq (λd18=>bd (bx (.str "meet") d18) λx19=>.ret (some x19)) l20) eD) λl21=>.ret (PyData.list l21)) λx22=>oM (o7 x16 x22)) λl23=>.ret l23
def hV:List D->M (List D):=λl=>match l with
 | [gaX]=>bg gaX
 | _=>.bad
theorem mX{f:Addr}{fd:FuncData}(Fn:Fun K "shown_rule" "shown_rule" fG f fd)(hmg:mg "shown_rule" = some (.ref f))(B:BN mg)(Kn:KN mg)(gaA:CF P w K mg base "shown_row" 1 (spD K 2 jd)):CF P w K mg base "shown_rule" 2 (spL K 1 hV) :=
 ⟨f,fd,["rule"],zL (k:=1) Fn sc_shown_rule (λcdv A outer s H E hr =>
  (aj (aI (sh:=[.f,.f,.dead]) (uE (i:=1) sc_shown_rule.nd rfl (lo rfl) (.inl rfl) (N':=N_shown_rule_0) (k:=1) rfl (aZ (by kernel_rfl) rfl rfl) (dA (cE (bE (aG hr)) bD (ao (av 0)) (ao ax))) (λ_ _ _ _ _=>(aU (i:=3) (show 3<=3 by decide) iX)) (λ_ _ _ _ _=>cj) (λ_ _ _ _ _=>(v5 (z8 (ao (av 3)) (λ_=>rfl)) aY aY)) rfl (λ_=>rfl)))
  (aj (aI (sh:=[.f,.dead,.f]) (aS (i:=2) sc_shown_rule.nd (aq (hG (eI (af (gb gaA hr.m (af aY (af (oA (ao (av 0)) sO (sN ax)) aB))) (af (gb gaA hr.m (af aY (af (cE (bE (aG hr)) bD (ao (av 0)) (ao ax)) aB))) (af (jv (ty:=.str) PySem.F.plainAttrs_str PySem.F.slot_str_join PySem.F.type_str_join jb (ao aY) (af (aM bc bO (ao (hG (eI (af aY aB)))) (ao (av 1))) aB) rfl rfl rfl rfl rfl) aB))))))))
  (aD (v3 (fT (EC vg Bg (ao (av 2)) (ao (hG (eT (N':=N_shown_rule_1) (k:=1) rfl (aZ (by kernel_rfl) rfl rfl) (dA (cE (bE (aG hr)) bD (ao (av 0)) (ao ax))) (λ_ _ _ _ _=>(aU (i:=3) (show 3<=3 by decide) iW)) (λ_ _ _ _ _=>cj) (λ_ _ _ _ _=>(gb gaA hr.m (af aY (af (av 3) aB))))))))))))))
 (λds hl=>(by obtain⟨gaX,rfl⟩:=ln1 hl;kernel_rfl)),hmg,Fn.kp,(nh Fn λ_ _ _ _ _ _ _=>rfl)⟩
abbrev gv:Stmt:=top 12
abbrev sZ:List Str:=["word"]
theorem oK:FnScope sZ ["word"] (au gv):=⟨rfl,rfl,rfl,by decide +kernel,rfl,by decide +kernel,by decide +kernel⟩
abbrev N_number_of_0:List Str:=["word", "sign"]
theorem jL:N_number_of_0.Nodup:=by decide +kernel
def eQ(gaw:D):M D :=
 bd (bd (bd (oM (g9 [gaw])) λx1=>bd (oM (lG (.int 1) x1)) λb2=>if b2 then oM (lG x1 (.int 9))else .ret false) λb3=>.ret (!b3)) λb4=>if b4 then
  .ret .none
  else
  bd (bd (bd (bd (bd (oM (eK gaw)) λl8=>bd (bq (λd5=>bd (bd (oM (fq d5 (.str "0123456789"))) λb6=>.ret (.bool b6)) λx7=>.ret (some x7)) l8) eD) λl9=>.ret (PyData.list l9)) λx10=>oM (El [x10])) λb11=>.ret (!b11)) λb12=>if b12 then
  .ret .none
  else
  bd (bd (bd (oM (bI gaw (.int 0))) λx13=>oM (gg x13 (.str "0"))) λb15=>if b15 then bd (oM (g9 [gaw])) λx14=>oM (y2 x14 (.int 1))else .ret false) λb16=>if b16 then
  .ret .none
  else
  bd (oM (rT [gaw])) λx17=>.ret x17
def jh:List D->M D:=λl=>match l with
 | [gaw]=>eQ gaw
 | _=>.bad
theorem pk{f:Addr}{fd:FuncData}(Fn:Fun K "number_of" "number_of" gv f fd)(hmg:mg "number_of" = some (.ref f))(B:BN mg)(Kn:KN mg):CF P w K mg base "number_of" 1 (spD K 1 jh) :=
 ⟨f,fd,["word"],eC (k:=0) Fn oK (λcdv A outer s H E hr =>
  (aj (fx (dk (uC (sK (oZ (aG hr)) (oZ (aG hr)) pv pv (ao ax) (ao (aP bJ d6 B.len PySem.boot_len (aE (ao (av 0)) aJ))) (ao (kO rfl Kn.MOST_FIGURES.choose_spec.1 Kn.MOST_FIGURES.choose_spec.2 (λ_=>.int _) (by decide))) (by with_unfolding_all rfl))))
  (aD (bh (aq qj)))
  cn)
  (aj (fx (dk (uC (HV (An (zY rfl) DW rfl B.all (by decide +kernel) (aE (ao (hG (eT (N':=N_number_of_0) (k:=1) rfl (aZ (by kernel_rfl) rfl rfl) (dA (av 0)) (λ_ _ _ _ _=>(aU (i:=1) (show 1<=1 by decide) jL)) (λ_ _ _ _ _=>cj) (λ_ _ _ _ _=>(GM (Am (oX (aG hr)) tV (ao (av 1)) (ao (kO rfl Kn.FIGURES.choose_spec.1 Kn.FIGURES.choose_spec.2 (λ_=>.str _) (by decide))))))))) aJ) (by decide) (by decide) rfl rfl) (λ_=>rfl))))
  (aD (bh (aq qj)))
  cn)
  (aj (fx (dk (vX (Eu (bR (iy (aG hr)) d7 (ao (cE (bE (aG hr)) bD (ao (av 0)) (ao ax))) (ao aY)) (BS (bR yY y8 (ao (aP bJ d6 B.len PySem.boot_len (aE (ao (av 0)) aJ))) (ao ax))))))
  (aD (bh (aq qj)))
  cn)
  (aD (bh (aq (bL nZ vj B.int (by decide +kernel) (aE (ao (av 0)) aJ)))))))))
 (λds hl=>(by obtain⟨gaw,rfl⟩:=ln1 hl;kernel_rfl)),hmg,Fn.kp,(nh Fn λ_ _ _ _ _ _ _=>rfl)⟩
abbrev dZ:Stmt:=(dM (top 13)).getD 0 (.Pass ⟨0,0,0,0⟩)
abbrev mL:List Str:=["self", "number", "text"]
theorem ko:FnScope mL ["self", "number", "text"] (au dZ):=⟨rfl,rfl,rfl,by decide +kernel,rfl,by decide +kernel,by decide +kernel⟩
def cR(gam:List D)(gap:D)(ga6:D):M (D×List D) :=
 bd (bd (onT .str ga6 (oM (pY ga6 [(.str " ")]))) λl1=>.ret (PyData.list l1)) λx2=>.ret (.none,(lv ["number", "words", "place"] (lv ["number", "words"] (lv ["number"] (lv [] gam "number" gap) "words" x2) "place" (.int 0)) "asked" (.int 0)))
def fY:List D->List D->M (D×List D):=λgam l=>match l with
 | [gap,ga6]=>cR gam gap ga6
 | _=>.bad
theorem kz{f:Addr}{fd:FuncData}(Fn:Fun K "__init__" "Row.__init__" dZ f fd)(hmk:Mk K CA_Row f)(hmg:mg "Row" = some (.ref CA_Row))(B:BN mg)(Kn:KN mg)(IC_Row:IC K "Row" CA_Row)(NF_Row:∀f∈ag,NoAttr K CA_Row f):CN P w K mg base CA_Row "Row" 1 (b9 K "Row" [] ag 3 fY) :=
 ⟨f,fd,["self", "number", "text"],gK (y := "Row") (ns:=[]) (ms:=ag) (k:=0) Fn ko (λcdv A outer s H E hr =>
  (aj (aI (sh:=[.j "Row" ["number"],.dead,.f]) (kM (i:=0) IC_Row (NF_Row _ (by decide)) rfl (vi rfl) (aq (av 1)) rfl))
  (aj (aI (sh:=[.j "Row" ["number", "words"],.dead,.dead]) (kM (i:=0) IC_Row (NF_Row _ (by decide)) rfl (vi rfl) (aq (hG (B2 (ty:=.str) PySem.F.plainAttrs_str PySem.F.slot_str_split PySem.F.type_str_split zj (ao (av 2)) (af aY aB) rfl rfl rfl rfl rfl))) rfl))
  (aj (aI (sh:=[.j "Row" ["number", "words", "place"],.dead,.dead]) (kM (i:=0) IC_Row (NF_Row _ (by decide)) rfl (vi rfl) (aq ax) rfl))
  (aD (kM (i:=0) IC_Row (NF_Row _ (by decide)) rfl (vi rfl) (aq ax) rfl))))))
 (λg ds hl=>(by obtain⟨gap,ga6,rfl⟩:=ln2 (Nat.succ.inj hl);kernel_rfl)),hmk,(z5 Fn λ_ _ _ _ _ _ _ _ _=>rfl),hmg⟩
abbrev fK:Stmt:=(dM (top 13)).getD 1 (.Pass ⟨0,0,0,0⟩)
abbrev qv:List Str:=["self"]
theorem mT:FnScope qv ["self"] (au fK):=⟨rfl,rfl,rfl,by decide +kernel,rfl,by decide +kernel,by decide +kernel⟩
def cQ(gam:List D):M (D×List D) :=
 bd (oM (dI ag gam "number")) λx1=>bd (oM (dI ag gam "place")) λx2=>.exc ⟨"NoText",[("row",x1),("word",x2)]⟩
def cw:List D->List D->M (D×List D):=λgam l=>match l with
 | []=>cQ gam
 | _=>.bad
theorem m5{f:Addr}{fd:FuncData}(Fn:Fun K "refuse" "Row.refuse" fK f fd)(hme:Meth K CA_Row "refuse" f)(B:BN mg)(Kn:KN mg)(IC_Row:IC K "Row" CA_Row)(NF_Row:∀f∈ag,NoAttr K CA_Row f)(X_NoText:CCl P w K mg base "NoText" 1 ["row", "word"]):CM P w K mg base CA_Row "refuse" 3 (b9 K "Row" ag ag 1 cw) :=
 ⟨f,fd,["self"],gK (y := "Row") (ns:=ag) (ms:=ag) (k:=2) Fn mT (λcdv A outer s H E hr =>
  (aD (sM X_NoText hr.m rfl (aa (aq (j5 (i:=0) IC_Row (NF_Row _ (by decide)) rfl (vi rfl) rfl)) (aa (aq (j5 (i:=0) IC_Row (NF_Row _ (by decide)) rfl (vi rfl) rfl)) aA)) rfl (by decide) (by decide) (bM rfl) rfl)))
 (λg ds hl=>(by obtain rfl:=ln0 (Nat.succ.inj hl);kernel_rfl)),hme,(nh Fn λ_ _ _ _ _ _ _=>rfl)⟩
abbrev dY:Stmt:=(dM (top 13)).getD 2 (.Pass ⟨0,0,0,0⟩)
abbrev mK:List Str:=["self"]
theorem kj:FnScope mK ["self"] (au dY):=⟨rfl,rfl,rfl,by decide +kernel,rfl,by decide +kernel,by decide +kernel⟩
def bK(gam:List D):M (D×List D) :=
 bd (bd (bd (oM (dI ag gam "place")) λx2=>bd (bd (oM (dI ag gam "words")) λx1=>oM (g9 [x1])) λx3=>oM (nL x2 x3)) λb4=>.ret (.bool b4)) λx5=>.ret (x5,gam)
def cy:List D->List D->M (D×List D):=λgam l=>match l with
 | []=>bK gam
 | _=>.bad
theorem ky{f:Addr}{fd:FuncData}(Fn:Fun K "has_more" "Row.has_more" dY f fd)(hme:Meth K CA_Row "has_more" f)(B:BN mg)(Kn:KN mg)(IC_Row:IC K "Row" CA_Row)(NF_Row:∀f∈ag,NoAttr K CA_Row f):CM P w K mg base CA_Row "has_more" 1 (b9 K "Row" ag ag 1 cy) :=
 ⟨f,fd,["self"],gK (y := "Row") (ns:=ag) (ms:=ag) (k:=0) Fn kj (λcdv A outer s H E hr =>
  (aD (bh (aq (GM (Am (yX (aG hr)) y7 (ao (j5 (i:=0) IC_Row (NF_Row _ (by decide)) rfl (vi rfl) rfl)) (ao (aP bJ d6 B.len PySem.boot_len (aE (ao (j5 (i:=0) IC_Row (NF_Row _ (by decide)) rfl (vi rfl) rfl)) aJ)))))))))
 (λg ds hl=>(by obtain rfl:=ln0 (Nat.succ.inj hl);kernel_rfl)),hme,(nh Fn λ_ _ _ _ _ _ _=>rfl)⟩
abbrev dX:Stmt:=(dM (top 13)).getD 3 (.Pass ⟨0,0,0,0⟩)
abbrev mJ:List Str:=["self"]
theorem ki:FnScope mJ ["self"] (au dX):=⟨rfl,rfl,rfl,by decide +kernel,rfl,by decide +kernel,by decide +kernel⟩
def cP(gaU:List D):M (D×List D) :=
 bd (bd (oM (dI ag gaU "words")) λx4=>bd (oM (dI ag gaU "place")) λx5=>oM (bI x4 x5)) λx6=>.ret (x6,gaU)
def bY(gam:List D):M (D×List D) :=
 bd (bK gam) λr1=>bd (asB r1.1) λb2=>if(!b2)then
  bd (cQ r1.2) λr3=>cP r3.2
  else
  cP r1.2
def dG:List D->List D->M (D×List D):=λgam l=>match l with
 | []=>bY gam
 | _=>.bad
theorem kx{f:Addr}{fd:FuncData}(Fn:Fun K "upcoming" "Row.upcoming" dX f fd)(hme:Meth K CA_Row "upcoming" f)(B:BN mg)(Kn:KN mg)(IC_Row:IC K "Row" CA_Row)(NF_Row:∀f∈ag,NoAttr K CA_Row f)(gak:CM P w K mg base CA_Row "has_more" 1 (b9 K "Row" ag ag 1 cy))(gah:CM P w K mg base CA_Row "refuse" 3 (b9 K "Row" ag ag 1 cw)):CM P w K mg base CA_Row "upcoming" 4 (b9 K "Row" ag ag 1 dG) :=
 ⟨f,fd,["self"],gK (y := "Row") (ns:=ag) (ms:=ag) (k:=3) Fn ki (λcdv A outer s H E hr =>
  (aj (aI (sh:=[.j "Row" ag]) (fx (B6 (Ai (uH (bn (i:=0) IC_Row gak (by decide) hr.m rfl (vi rfl) rfl)) (λ_=>rfl)))
  (aD (dw (bn (i:=0) IC_Row gah (by decide) hr.m rfl (vi rfl) rfl) rfl))
  cn))
  (aD (bh (aq (cE (bE (aG hr)) bD (ao (j5 (i:=0) IC_Row (NF_Row _ (by decide)) rfl (vi rfl) rfl)) (ao (j5 (i:=0) IC_Row (NF_Row _ (by decide)) rfl (vi rfl) rfl))))))))
 (λg ds hl=>(by obtain rfl:=ln0 (Nat.succ.inj hl);kernel_rfl)),hme,(nh Fn λ_ _ _ _ _ _ _=>rfl)⟩
abbrev dF:Stmt:=(dM (top 13)).getD 4 (.Pass ⟨0,0,0,0⟩)
abbrev kC:List Str:=["self", "choices", "word"]
theorem sc_Row_take_word:FnScope kC ["self", "choices"] (au dF):=⟨rfl,rfl,rfl,by decide +kernel,rfl,by decide +kernel,by decide +kernel⟩
def cC(gaU:List D)(gbh:D):M (D×List D) :=
 z7 (dI ag gaU "place") λa4=>.ret (gbh,(lv ag gaU "place" (.int (a4+1))))
def bt(gam:List D)(gaV:D):M (D×List D) :=
 bd (bY gam) λr1=>bd (oM (dC r1.1 gaV)) λb2=>if b2 then
  bd (cQ r1.2) λr3=>cC r3.2 r1.1
  else
  cC r1.2 r1.1
def dc:List D->List D->M (D×List D):=λgam l=>match l with
 | [gaV]=>bt gam gaV
 | _=>.bad
theorem jJ{f:Addr}{fd:FuncData}(Fn:Fun K "take_word" "Row.take_word" dF f fd)(hme:Meth K CA_Row "take_word" f)(B:BN mg)(Kn:KN mg)(IC_Row:IC K "Row" CA_Row)(NF_Row:∀f∈ag,NoAttr K CA_Row f)(gat:CM P w K mg base CA_Row "upcoming" 4 (b9 K "Row" ag ag 1 dG))(gah:CM P w K mg base CA_Row "refuse" 3 (b9 K "Row" ag ag 1 cw)):CM P w K mg base CA_Row "take_word" 5 (b9 K "Row" ag ag 2 dc) :=
 ⟨f,fd,["self", "choices"],gK (y := "Row") (ns:=ag) (ms:=ag) (k:=4) Fn sc_Row_take_word (λcdv A outer s H E hr =>
  (aj (aI (sh:=[.j "Row" ag,.f,.f]) (aS (i:=2) sc_Row_take_word.nd (bn (i:=0) IC_Row gat (by decide) hr.m rfl (vi rfl) rfl)))
  (aj (aI (sh:=[.j "Row" ag,.dead,.f]) (fx (dk (bR (ix (aG hr)) jI (ao (av 2)) (ao (av 1))))
  (aD (dw (bn (i:=0) IC_Row gah (by decide) hr.m rfl (vi rfl) rfl) rfl))
  cn))
  (aj (aI (sh:=[.j "Row" ag,.dead,.f]) (v4 (i:=0) IC_Row (NF_Row _ (by decide)) rfl (vi rfl) (aq ax)))
  (aD (bh (aq (av 2))))))))
 (λg ds hl=>(by obtain⟨gaV,rfl⟩:=ln1 (Nat.succ.inj hl);kernel_rfl)),hme,(sH Fn λ_ _ _ _ _ _ _ _=>rfl)⟩
abbrev cJ:Stmt:=(dM (top 13)).getD 5 (.Pass ⟨0,0,0,0⟩)
abbrev jy:List Str:=["self", "least", "most", "barred", "number"]
theorem sc_Row_take_number:FnScope jy ["self", "least", "most", "barred"] (au cJ):=⟨rfl,rfl,rfl,by decide +kernel,rfl,by decide +kernel,by decide +kernel⟩
def bZ(gaU:List D)(gbg:D):M (D×List D) :=
 z7 (dI ag gaU "place") λa9=>.ret (gbg,(lv ag gaU "place" (.int (a9+1))))
def aC(gam:List D)(gaZ:D)(gbb:D)(gaB:D):M (D×List D) :=
 bd (bY gam) λr1=>bd (eQ r1.1) λr2=>bd (bd (oM (vh r2 .none)) λb6=>if b6 then .ret true else bd (bd (bd (oM (lG gaZ r2)) λb3=>if b3 then oM (lG r2 gbb)else .ret false) λb4=>.ret (!b4)) λb5=>if b5 then .ret true else oM (fq r2 gaB)) λb7=>if b7 then
  bd (cQ r1.2) λr8=>bZ r8.2 r2
  else
  bZ r1.2 r2
def bP:List D->List D->M (D×List D):=λgam l=>match l with
 | [gaZ,gbb,gaB]=>aC gam gaZ gbb gaB
 | _=>.bad
theorem iB{f:Addr}{fd:FuncData}(Fn:Fun K "take_number" "Row.take_number" cJ f fd)(hme:Meth K CA_Row "take_number" f)(B:BN mg)(Kn:KN mg)(IC_Row:IC K "Row" CA_Row)(NF_Row:∀f∈ag,NoAttr K CA_Row f)(gaP:CF P w K mg base "number_of" 1 (spD K 1 jh))(gat:CM P w K mg base CA_Row "upcoming" 4 (b9 K "Row" ag ag 1 dG))(gah:CM P w K mg base CA_Row "refuse" 3 (b9 K "Row" ag ag 1 cw)):CM P w K mg base CA_Row "take_number" 5 (b9 K "Row" ag ag 4 bP) :=
 ⟨f,fd,["self", "least", "most", "barred"],gK (y := "Row") (ns:=ag) (ms:=ag) (k:=4) Fn sc_Row_take_number (λcdv A outer s H E hr =>
  (aj (aI (sh:=[.j "Row" ag,.f,.f,.f,.f]) (aS (i:=4) sc_Row_take_number.nd (GP gaP hr.m (aa (bn (i:=0) IC_Row gat (by decide) hr.m rfl (vi rfl) rfl) aA))))
  (aj (aI (sh:=[.j "Row" ag,.dead,.dead,.dead,.f]) (fx (dk (vX (sI (bR Bb d7 (ao (av 4)) (ao qj)) (sI (uC (sK (oZ (aG hr)) (oZ (aG hr)) pv pv (ao (av 1)) (ao (av 4)) (ao (av 2)) (by with_unfolding_all rfl))) (uB (bR (oX (aG hr)) tV (ao (av 4)) (ao (av 3))))))))
  (aD (dw (bn (i:=0) IC_Row gah (by decide) hr.m rfl (vi rfl) rfl) rfl))
  cn))
  (aj (aI (sh:=[.j "Row" ag,.dead,.dead,.dead,.f]) (v4 (i:=0) IC_Row (NF_Row _ (by decide)) rfl (vi rfl) (aq ax)))
  (aD (bh (aq (av 4))))))))
 (λg ds hl=>(by obtain⟨gaZ,gbb,gaB,rfl⟩:=ln3 (Nat.succ.inj hl);kernel_rfl)),hme,(Ep Fn λ_ _ _ _ _ _ _ _ _ _=>rfl)⟩
abbrev cY:Stmt:=(dM (top 13)).getD 6 (.Pass ⟨0,0,0,0⟩)
abbrev j6:List Str:=["self", "sorts", "fewest", "barred"]
theorem iO:FnScope j6 ["self", "sorts", "fewest", "barred"] (au cY):=⟨rfl,rfl,rfl,by decide +kernel,rfl,by decide +kernel,by decide +kernel⟩
def jZ(gam:List D)(ga7:D)(ga4:D)(gaB:D):M (D×List D) :=
 bd (vT (.int 0)) λx1=>.ret (.none,gam)
def jm:List D->List D->M (D×List D):=λgam l=>match l with
 | [ga7,ga4,gaB]=>jZ gam ga7 ga4 gaB
 | _=>.bad
theorem iT{f:Addr}{fd:FuncData}(Fn:Fun K "take_sorts" "Row.take_sorts" cY f fd)(hme:Meth K CA_Row "take_sorts" f)(B:BN mg)(Kn:KN mg)(IC_Row:IC K "Row" CA_Row)(NF_Row:∀f∈ag,NoAttr K CA_Row f)(ga8:CF P w K mg base "_wall" 1 (spD K 1 rq)):CM P w K mg base CA_Row "take_sorts" 2 (b9 K "Row" ag ag 4 jm) :=
 ⟨f,fd,["self", "sorts", "fewest", "barred"],gK (y := "Row") (ns:=ag) (ms:=ag) (k:=1) Fn iO (λcdv A outer s H E hr =>
  (aD (dw (aq (gb ga8 hr.m (af ax aB))) rfl)))
 (λg ds hl=>(by obtain⟨ga7,ga4,gaB,rfl⟩:=ln3 (Nat.succ.inj hl);kernel_rfl)),hme,(Ep Fn λ_ _ _ _ _ _ _ _ _ _=>rfl)⟩
abbrev fL:Stmt:=(dM (top 13)).getD 7 (.Pass ⟨0,0,0,0⟩)
abbrev qw:List Str:=["self"]
theorem mU:FnScope qw ["self"] (au fL):=⟨rfl,rfl,rfl,by decide +kernel,rfl,by decide +kernel,by decide +kernel⟩
def bQ(gam:List D):M (D×List D) :=
 bd (bK gam) λr1=>bd (asB r1.1) λb2=>if b2 then
  bd (cQ r1.2) λr3=>.ret (.none,r3.2)
  else
  .ret (.none,r1.2)
def cx:List D->List D->M (D×List D):=λgam l=>match l with
 | []=>bQ gam
 | _=>.bad
theorem m6{f:Addr}{fd:FuncData}(Fn:Fun K "finish" "Row.finish" fL f fd)(hme:Meth K CA_Row "finish" f)(B:BN mg)(Kn:KN mg)(IC_Row:IC K "Row" CA_Row)(NF_Row:∀f∈ag,NoAttr K CA_Row f)(gak:CM P w K mg base CA_Row "has_more" 1 (b9 K "Row" ag ag 1 cy))(gah:CM P w K mg base CA_Row "refuse" 3 (b9 K "Row" ag ag 1 cw)):CM P w K mg base CA_Row "finish" 4 (b9 K "Row" ag ag 1 cx) :=
 ⟨f,fd,["self"],gK (y := "Row") (ns:=ag) (ms:=ag) (k:=3) Fn mU (λcdv A outer s H E hr =>
  (aD (fx (Ai (uH (bn (i:=0) IC_Row gak (by decide) hr.m rfl (vi rfl) rfl)) (λ_=>rfl))
  (aD (dw (bn (i:=0) IC_Row gah (by decide) hr.m rfl (vi rfl) rfl) rfl))
  cn)))
 (λg ds hl=>(by obtain rfl:=ln0 (Nat.succ.inj hl);kernel_rfl)),hme,(nh Fn λ_ _ _ _ _ _ _=>rfl)⟩
abbrev gw:Stmt:=top 15
abbrev td:List Str:=["rows", "number", "word", "row"]
theorem sc_begun_row:FnScope td ["rows", "number", "word"] (au gw):=⟨rfl,rfl,rfl,by decide +kernel,rfl,by decide +kernel,by decide +kernel⟩
def aW(gal:D)(gap:D)(gaw:D):M (List D) :=
 bd (bd (oM (g9 [gal])) λx1=>oM (wU gap x1)) λb2=>if b2 then
  bd (oM (g9 [gal])) λx3=>.exc ⟨"NoText",[("row",x3),("word",(.int 0))]⟩
  else
  bd (oM (bI gal gap)) λx4=>DX (cR [] gap x4) λl5=>bd (bt l5 (.tuple [gaw])) λr6=>.ret r6.2
def cL:List D->M (List D):=λl=>match l with
 | [gal,gap,gaw]=>aW gal gap gaw
 | _=>.bad
theorem pA{f:Addr}{fd:FuncData}(Fn:Fun K "begun_row" "begun_row" gw f fd)(hmg:mg "begun_row" = some (.ref f))(B:BN mg)(Kn:KN mg)(IC_Row:IC K "Row" CA_Row)(NF_Row:∀f∈ag,NoAttr K CA_Row f)(gaE:CN P w K mg base CA_Row "Row" 1 (b9 K "Row" [] ag 3 fY))(gaq:CM P w K mg base CA_Row "take_word" 5 (b9 K "Row" ag ag 2 dc))(X_NoText:CCl P w K mg base "NoText" 1 ["row", "word"]):CF P w K mg base "begun_row" 6 (qG K "Row" ag 3 cL) :=
 ⟨f,fd,["rows", "number", "word"],BD (k:=5) Fn sc_begun_row (λcdv A outer s H E hr =>
  (aj (fx (dk (bR CJ CL (ao (av 1)) (ao (aP bJ d6 B.len PySem.boot_len (aE (ao (av 0)) aJ)))))
  (aD (sM X_NoText hr.m rfl (aa (aq (aP bJ d6 B.len PySem.boot_len (aE (ao (av 0)) aJ))) (aa (aq ax) aA)) rfl (by decide) (by decide) (bM rfl) rfl))
  cn)
  (aj (aI (sh:=[.dead,.dead,.f,.i "Row" ag]) (BZ (j:=3) IC_Row gaE hr.m rfl (aa (aq (av 1)) (aa (aq (cE (bE (aG hr)) bD (ao (av 0)) (ao (av 1)))) aA)) rfl (by decide) (bM rfl) rfl sc_begun_row.nd rfl (lo rfl) rfl (.inl rfl)))
  (aj (aI (sh:=[.dead,.dead,.dead,.i "Row" ag]) (dw (cS (i:=3) IC_Row gaq (by decide) hr.m rfl (vi rfl) (aa (aq (aX (af (av 2) aB))) aA) rfl (bM rfl) rfl rfl) rfl))
  (aD (BX (i:=3) rfl (vi rfl)))))))
 (λds hl=>(by obtain⟨gal,gap,gaw,rfl⟩:=ln3 hl;kernel_rfl)),hmg,Fn.kp,(z5 Fn λ_ _ _ _ _ _ _ _ _=>rfl)⟩
abbrev fH:Stmt:=top 16
abbrev qt:List Str:=["rows", "row", "rooms"]
theorem sc_read_rooms:FnScope qt ["rows"] (au fH):=⟨rfl,rfl,rfl,by decide +kernel,rfl,by decide +kernel,by decide +kernel⟩
def dP(gal:D):M D :=
 bd (aW gal (.int 0) (.str "rooms")) λl1=>bd (aC l1 (.int 1) (.int 40) (.tuple [])) λr2=>bd (bQ r2.2) λr3=>.ret r2.1
def hW:List D->M D:=λl=>match l with
 | [gal]=>dP gal
 | _=>.bad
theorem mY{f:Addr}{fd:FuncData}(Fn:Fun K "read_rooms" "read_rooms" fH f fd)(hmg:mg "read_rooms" = some (.ref f))(B:BN mg)(Kn:KN mg)(IC_Row:IC K "Row" CA_Row)(NF_Row:∀f∈ag,NoAttr K CA_Row f)(gan:CF P w K mg base "begun_row" 6 (qG K "Row" ag 3 cL))(gac:CM P w K mg base CA_Row "take_number" 5 (b9 K "Row" ag ag 4 bP))(gai:CM P w K mg base CA_Row "finish" 4 (b9 K "Row" ag ag 1 cx)):CF P w K mg base "read_rooms" 7 (spD K 1 hW) :=
 ⟨f,fd,["rows"],eC (k:=6) Fn sc_read_rooms (λcdv A outer s H E hr =>
  (aj (aI (sh:=[.dead,.i "Row" ag,.dead]) (kN (j:=1) gan hr.m sc_read_rooms.nd (aa (aq (av 0)) (aa (aq ax) (aa (aq aY) aA)))))
  (aj (aI (sh:=[.dead,.i "Row" ag,.f]) (aS (i:=2) sc_read_rooms.nd (cS (i:=1) IC_Row gac (by decide) hr.m rfl (vi rfl) (aa (aq ax) (aa (aq (kO rfl Kn.MOST_ROOMS.choose_spec.1 Kn.MOST_ROOMS.choose_spec.2 (λ_=>.int _) (by decide))) (aa (aq (aX aB)) aA))) rfl (bM rfl) rfl rfl)))
  (aj (aI (sh:=[.dead,.dead,.f]) (dw (bn (i:=1) IC_Row gai (by decide) hr.m rfl (vi rfl) rfl) rfl))
  (aD (bh (aq (av 2))))))))
 (λds hl=>(by obtain⟨gal,rfl⟩:=ln1 hl;kernel_rfl)),hmg,Fn.kp,(nh Fn λ_ _ _ _ _ _ _=>rfl)⟩
abbrev eV:Stmt:=top 17
abbrev nj:List Str:=["rows", "rooms", "row", "starts"]
theorem sc_read_starts:FnScope nj ["rows", "rooms"] (au eV):=⟨rfl,rfl,rfl,by decide +kernel,rfl,by decide +kernel,by decide +kernel⟩
def dg(gax:D)(ga9:List D)(gav:List D):M D :=
 bd (bQ ga9) λr4=>bd (oM (cB [(PyData.list gav)])) λx5=>.ret x5
def cg(gax:D)(ga9:List D)(gav:List D)(kn6:D×List D×List D×Unit->M D):M D :=
 bd (bK ga9) λr7=>bd (asB r7.1) λb8=>if b8 then bd (bd (oM (g9 [(PyData.list gav)])) λx9=>oM (nL x9 (.int 4))) λb10=>if b10 then
  bd (oM (iS gax (.int 1))) λx11=>bd (aC r7.2 (.int 0) x11 (.tuple [])) λr12=>bd (oM (m7 gav [r12.1])) λl13=>kn6 (gax,r12.2,l13,())
  else dg gax r7.2 gav else if false then
  bd (oM (iS gax (.int 1))) λx14=>bd (aC r7.2 (.int 0) x14 (.tuple [])) λr15=>bd (oM (m7 gav [r15.1])) λl16=>kn6 (gax,r15.2,l16,())
  else dg gax r7.2 gav
def dq(gal:D)(gau:D):M D :=
 bd (aW gal (.int 1) (.str "starts")) λl1=>bd (oM (iS gau (.int 1))) λx2=>bd (aC l1 (.int 0) x2 (.tuple [])) λr3=>oE (λs17 kn=>cg s17.1 s17.2.1 s17.2.2.1 kn) 10000 (gau,r3.2,[r3.1],())
def gE:List D->M D:=λl=>match l with
 | [gal,gau]=>dq gal gau
 | _=>.bad
theorem lH{f:Addr}{fd:FuncData}(Fn:Fun K "read_starts" "read_starts" eV f fd)(hmg:mg "read_starts" = some (.ref f))(B:BN mg)(Kn:KN mg)(IC_Row:IC K "Row" CA_Row)(NF_Row:∀f∈ag,NoAttr K CA_Row f)(gan:CF P w K mg base "begun_row" 6 (qG K "Row" ag 3 cL))(gai:CM P w K mg base CA_Row "finish" 4 (b9 K "Row" ag ag 1 cx))(gac:CM P w K mg base CA_Row "take_number" 5 (b9 K "Row" ag ag 4 bP))(gak:CM P w K mg base CA_Row "has_more" 1 (b9 K "Row" ag ag 1 cy)):CF P w K mg base "read_starts" 7 (spD K 2 gE) :=
 ⟨f,fd,["rows", "rooms"],eC (k:=6) Fn sc_read_starts (λcdv A outer s H E hr =>
  (aj (aI (sh:=[.dead,.f,.i "Row" ag,.dead]) (kN (j:=2) gan hr.m sc_read_starts.nd (aa (aq (av 0)) (aa (aq ax) (aa (aq aY) aA)))))
  (aj (aI (sh:=[.dead,.f,.i "Row" ag,.o]) (eS (i:=3) sc_read_starts.nd (qk (aa (cS (i:=2) IC_Row gac (by decide) hr.m rfl (vi rfl) (aa (aq ax) (aa (aq (aM jG jH (ao (av 1)) (ao ax))) (aa (aq (aX aB)) aA))) rfl (bM rfl) rfl rfl) aA))))
  (aj (oq (sh:=[.dead,.f,.i "Row" ag,.o]) (fuel:=10000) PassesOwn.leaving (Aj (v7 (Ai (uH (bn (i:=2) IC_Row gak (by decide) hr.m rfl (vi rfl) rfl)) (λ_=>rfl)) (sQ (dk (bR (yX (aG hr)) y7 (ao (aP bJ d6 B.len PySem.boot_len (aE (cp (i:=3)) aJ))) (ao (kO rfl Kn.MOST_SORTS.choose_spec.1 Kn.MOST_SORTS.choose_spec.2 (λ_=>.int _) (by decide))))))))
  (aD (j3 (i:=3) rfl (vi rfl) (aa (cS (i:=2) IC_Row gac (by decide) hr.m rfl (vi rfl) (aa (aq ax) (aa (aq (aM jG jH (ao (av 1)) (ao ax))) (aa (aq (aX aB)) aA))) rfl (bM rfl) rfl rfl) aA) rfl rfl rfl rfl rfl rfl)))
  (aj (aI (sh:=[.dead,.dead,.dead,.o]) (dw (bn (i:=2) IC_Row gai (by decide) hr.m rfl (vi rfl) rfl) rfl))
  (aD (bh (aq (bL aR cq B.tuple (by decide +kernel) (aE (cp (i:=3)) aJ))))))))))
 (λds hl=>(by obtain⟨gal,gau,rfl⟩:=ln2 hl;kernel_rfl)),hmg,Fn.kp,(sH Fn λ_ _ _ _ _ _ _ _=>rfl)⟩
abbrev gq:Stmt:=top 18
abbrev sX:List Str:=["rows", "rooms", "row", "truths", "room"]
theorem sc_read_says:FnScope sX ["rows", "rooms"] (au gq):=⟨rfl,rfl,rfl,by decide +kernel,rfl,by decide +kernel,by decide +kernel⟩
def gO(ga9:List D)(ga5:List D):M D :=
 bd (bQ ga9) λr3=>bd (oM (cB [(PyData.list ga5)])) λx4=>.ret x4
def gN(ga9:List D)(ga5:List D)(d_:D)(kn5:List D×List D×Unit->M D):M D :=
 bd (bt ga9 (.tuple [(.str "yes"),(.str "no")])) λr6=>bd (oM (gg r6.1 (.str "yes"))) λb7=>bd (oM (m7 ga5 [(.bool b7)])) λl8=>kn5 (r6.2,l8,())
def eP(gal:D)(gau:D):M D :=
 bd (aW gal (.int 2) (.str "says")) λl1=>bd (oM (bT [gau])) λl2=>lW (λs9 d10 kn=>gN s9.1 s9.2.1 d10 kn) l2 (l1,[],()) (λs9=>gO s9.1 s9.2.1)
def jf:List D->M D:=λl=>match l with
 | [gal,gau]=>eP gal gau
 | _=>.bad
theorem pf{f:Addr}{fd:FuncData}(Fn:Fun K "read_says" "read_says" gq f fd)(hmg:mg "read_says" = some (.ref f))(B:BN mg)(Kn:KN mg)(IC_Row:IC K "Row" CA_Row)(NF_Row:∀f∈ag,NoAttr K CA_Row f)(gan:CF P w K mg base "begun_row" 6 (qG K "Row" ag 3 cL))(gai:CM P w K mg base CA_Row "finish" 4 (b9 K "Row" ag ag 1 cx))(gaq:CM P w K mg base CA_Row "take_word" 5 (b9 K "Row" ag ag 2 dc)):CF P w K mg base "read_says" 7 (spD K 2 jf) :=
 ⟨f,fd,["rows", "rooms"],eC (k:=6) Fn sc_read_says (λcdv A outer s H E hr =>
  (aj (aI (sh:=[.dead,.f,.i "Row" ag,.dead,.dead]) (kN (j:=2) gan hr.m sc_read_says.nd (aa (aq (av 0)) (aa (aq ax) (aa (aq aY) aA)))))
  (aj (aI (sh:=[.dead,.f,.i "Row" ag,.o,.dead]) (eS (i:=3) sc_read_says.nd (fT (eI aB))))
  (aj (g8 (sh:=[.dead,.dead,.i "Row" ag,.o,.dead]) PassesOwn.leaving rfl (e8 (dh rfl B.range (af (av 1) aB) rfl)) (aU (i:=4) (Nat.zero_le _) sc_read_says.nd)
  (aD (j3 (i:=3) rfl (vi rfl) (aa (ED (ql (iy (aG hr)) d7 (cS (i:=2) IC_Row gaq (by decide) hr.m rfl (vi rfl) (aa (aq (aX (af aY (af aY aB)))) aA) rfl (bM rfl) rfl rfl) (aq aY) rfl)) aA) rfl rfl rfl rfl rfl rfl)))
  (aj (aI (sh:=[.dead,.dead,.dead,.o,.dead]) (dw (bn (i:=2) IC_Row gai (by decide) hr.m rfl (vi rfl) rfl) rfl))
  (aD (bh (aq (bL aR cq B.tuple (by decide +kernel) (aE (cp (i:=3)) aJ))))))))))
 (λds hl=>(by obtain⟨gal,gau,rfl⟩:=ln2 hl;kernel_rfl)),hmg,Fn.kp,(sH Fn λ_ _ _ _ _ _ _ _=>rfl)⟩
abbrev fF:Stmt:=top 20
abbrev qq:List Str:=["a", "b", "c"]
theorem mS:FnScope qq ["a", "b", "c"] (au fF):=⟨rfl,rfl,rfl,by decide +kernel,rfl,by decide +kernel,by decide +kernel⟩
abbrev N_unchanging_0:List Str:=["a", "b", "c", "d"]
theorem iV:N_unchanging_0.Nodup:=by decide +kernel
def dO(p_a:D)(p_b:D)(p_c:D):M D :=
 bd (bd (bd (oM (eK (.tuple [p_a,p_b]))) λl3=>bd (bq (λd1=>bd (oM (fq (.tuple [p_c,d1]) (.tuple [(.tuple [p_a,p_b]),(.tuple [p_b,p_a])]))) λb2=>if b2 then .ret (some d1)else .ret none) l3) eD) λl4=>.ret (PyData.list l4)) λx5=>.ret x5
def hU:List D->M D:=λl=>match l with
 | [p_a,p_b,p_c]=>dO p_a p_b p_c
 | _=>.bad
theorem mW{f:Addr}{fd:FuncData}(Fn:Fun K "unchanging" "unchanging" fF f fd)(hmg:mg "unchanging" = some (.ref f))(B:BN mg)(Kn:KN mg):CF P w K mg base "unchanging" 1 (spD K 3 hU) :=
 ⟨f,fd,["a", "b", "c"],eC (k:=0) Fn mS (λcdv A outer s H E hr =>
  (aD (bh (aq (hG (eT (N':=N_unchanging_0) (k:=1) rfl (aZ (by kernel_rfl) rfl rfl) (dA (aX (af (av 0) (af (av 1) aB)))) (λ_ _ _ _ _=>(aU (i:=3) (show 3<=3 by decide) iV)) (λ_ _ _ _ _=>(BV (bR (oX (aG hr)) tV (ao (aX (af (av 2) (af (av 3) aB)))) (ao (aX (af (aX (af (av 0) (af (av 1) aB))) (af (aX (af (av 1) (af (av 0) aB))) aB))))))) (λ_ _ _ _ _=>(av 3))))))))
 (λds hl=>(by obtain⟨p_a,p_b,p_c,rfl⟩:=ln3 hl;kernel_rfl)),hmg,Fn.kp,(z5 Fn λ_ _ _ _ _ _ _ _ _=>rfl)⟩
abbrev dW:Stmt:=top 19
abbrev mI:List Str:=["rows", "number", "rooms", "ahead", "row", "a", "least", "b", "c", "d"]
theorem sc_read_meeting:FnScope mI ["rows", "number", "rooms", "ahead"] (au dW):=⟨rfl,rfl,rfl,by decide +kernel,rfl,by decide +kernel,by decide +kernel⟩
def cO(gal:D)(gap:D)(gau:D)(gaW:D):M D :=
 bd (aW gal gap (.str "meet")) λl1=>bd (oM (bI gaW (.int 0))) λx2=>bd (oM (iS gau (.int 1))) λx3=>bd (aC l1 x2 x3 (.tuple [])) λr4=>bd (bd (bd (oM (bI gaW (.int 0))) λx5=>oM (gg r4.1 x5)) λb7=>if b7 then bd (oM (bI gaW (.int 1))) λx6=>oM (aT x6 (.int 1))else .ret r4.1) λx8=>bd (oM (iS gau (.int 1))) λx9=>bd (aC r4.2 x8 x9 (.tuple [])) λr10=>bd (oM (iS gau (.int 1))) λx11=>bd (aC r10.2 (.int 0) x11 (.tuple [])) λr12=>bd (oM (iS gau (.int 1))) λx13=>bd (dO r4.1 r10.1 r12.1) λx14=>bd (aC r12.2 (.int 0) x13 x14) λr15=>bd (bQ r15.2) λr16=>.ret (.tuple [r4.1,r10.1,r12.1,r15.1])
def fX:List D->M D:=λl=>match l with
 | [gal,gap,gau,gaW]=>cO gal gap gau gaW
 | _=>.bad
theorem kq{f:Addr}{fd:FuncData}(Fn:Fun K "read_meeting" "read_meeting" dW f fd)(hmg:mg "read_meeting" = some (.ref f))(B:BN mg)(Kn:KN mg)(IC_Row:IC K "Row" CA_Row)(NF_Row:∀f∈ag,NoAttr K CA_Row f)(gan:CF P w K mg base "begun_row" 6 (qG K "Row" ag 3 cL))(gac:CM P w K mg base CA_Row "take_number" 5 (b9 K "Row" ag ag 4 bP))(gai:CM P w K mg base CA_Row "finish" 4 (b9 K "Row" ag ag 1 cx))(gaK:CF P w K mg base "unchanging" 1 (spD K 3 hU)):CF P w K mg base "read_meeting" 7 (spD K 4 fX) :=
 ⟨f,fd,["rows", "number", "rooms", "ahead"],eC (k:=6) Fn sc_read_meeting (λcdv A outer s H E hr =>
  (aj (aI (sh:=[.dead,.dead,.f,.f,.i "Row" ag,.dead,.dead,.dead,.dead,.dead]) (kN (j:=4) gan hr.m sc_read_meeting.nd (aa (aq (av 0)) (aa (aq (av 1)) (aa (aq aY) aA)))))
  (aj (aI (sh:=[.dead,.dead,.f,.f,.i "Row" ag,.f,.dead,.dead,.dead,.dead]) (aS (i:=5) sc_read_meeting.nd (cS (i:=4) IC_Row gac (by decide) hr.m rfl (vi rfl) (aa (aq (cE (bE (aG hr)) bD (ao (av 3)) (ao ax))) (aa (aq (aM jG jH (ao (av 2)) (ao ax))) (aa (aq (aX aB)) aA))) rfl (bM rfl) rfl rfl)))
  (aj (aI (sh:=[.dead,.dead,.f,.dead,.i "Row" ag,.f,.f,.dead,.dead,.dead]) (aS (i:=6) sc_read_meeting.nd (aq (v5 (bR (iy (aG hr)) d7 (ao (av 5)) (ao (cE (bE (aG hr)) bD (ao (av 3)) (ao ax)))) (aM bc bO (ao (cE (bE (aG hr)) bD (ao (av 3)) (ao ax))) (ao ax)) (av 5)))))
  (aj (aI (sh:=[.dead,.dead,.f,.dead,.i "Row" ag,.f,.dead,.f,.dead,.dead]) (aS (i:=7) sc_read_meeting.nd (cS (i:=4) IC_Row gac (by decide) hr.m rfl (vi rfl) (aa (aq (av 6)) (aa (aq (aM jG jH (ao (av 2)) (ao ax))) (aa (aq (aX aB)) aA))) rfl (bM rfl) rfl rfl)))
  (aj (aI (sh:=[.dead,.dead,.f,.dead,.i "Row" ag,.f,.dead,.f,.f,.dead]) (aS (i:=8) sc_read_meeting.nd (cS (i:=4) IC_Row gac (by decide) hr.m rfl (vi rfl) (aa (aq ax) (aa (aq (aM jG jH (ao (av 2)) (ao ax))) (aa (aq (aX aB)) aA))) rfl (bM rfl) rfl rfl)))
  (aj (aI (sh:=[.dead,.dead,.dead,.dead,.i "Row" ag,.f,.dead,.f,.f,.f]) (aS (i:=9) sc_read_meeting.nd (cS (i:=4) IC_Row gac (by decide) hr.m rfl (vi rfl) (aa (aq ax) (aa (aq (aM jG jH (ao (av 2)) (ao ax))) (aa (aq (gb gaK hr.m (af (av 5) (af (av 7) (af (av 8) aB))))) aA))) rfl (bM rfl) rfl rfl)))
  (aj (aI (sh:=[.dead,.dead,.dead,.dead,.dead,.f,.dead,.f,.f,.f]) (dw (bn (i:=4) IC_Row gai (by decide) hr.m rfl (vi rfl) rfl) rfl))
  (aD (bh (aq (aX (af (av 5) (af (av 7) (af (av 8) (af (av 9) aB))))))))))))))))
 (λds hl=>(by obtain⟨gal,gap,gau,gaW,rfl⟩:=ln4 hl;kernel_rfl)),hmg,Fn.kp,(Ep Fn λ_ _ _ _ _ _ _ _ _ _=>rfl)⟩
abbrev gs:Stmt:=top 14
abbrev sY:List Str:=["rows", "rooms", "starts", "says", "meets", "ahead", "number", "meeting"]
theorem sc_read_rule:FnScope sY ["rows"] (au gs):=⟨rfl,rfl,rfl,by decide +kernel,rfl,by decide +kernel,by decide +kernel⟩
def gQ(gbd:D)(gax:D)(gav:D)(gbe:D)(gba:List D)(gbf:D):M D :=
 bd (bd (oM (cB [(PyData.list gba)])) λx8=>.ret (.tuple [gax,gav,x8,gbe])) λx9=>.ret x9
def gP(gbd:D)(gax:D)(gav:D)(gbe:D)(gba:List D)(gbf:D)(d_:D)(kn10:D×D×D×D×List D×D×Unit->M D):M D :=
 bd (cO gbd d_ gax gbf) λx11=>bd (oM (m7 gba [x11])) λl12=>bd (bd (asI (.int 2)) λhi13=>oM (rV x11 none hi13)) λx14=>kn10 (gbd,gax,gav,gbe,l12,x14,())
def bA(gal:D):M D :=
 bd (dP gal) λx1=>bd (dq gal x1) λx2=>bd (eP gal x1) λx3=>bd (bd (oM (yZ (.int 1))) λx4=>.ret (.tuple [(.int 0),x4])) λx5=>bd (bd (oM (g9 [gal])) λx6=>oM (eN [(.int 3),x6])) λl7=>lW (λs15 d16 kn=>gP s15.1 s15.2.1 s15.2.2.1 s15.2.2.2.1 s15.2.2.2.2.1 s15.2.2.2.2.2.1 d16 kn) l7 (gal,x1,x2,x3,[],x5,()) (λs15=>gQ s15.1 s15.2.1 s15.2.2.1 s15.2.2.2.1 s15.2.2.2.2.1 s15.2.2.2.2.2.1)
def jg:List D->M D:=λl=>match l with
 | [gal]=>bA gal
 | _=>.bad
theorem pj{f:Addr}{fd:FuncData}(Fn:Fun K "read_rule" "read_rule" gs f fd)(hmg:mg "read_rule" = some (.ref f))(B:BN mg)(Kn:KN mg)(gaL:CF P w K mg base "read_rooms" 7 (spD K 1 hW))(gaH:CF P w K mg base "read_starts" 7 (spD K 2 gE))(gaQ:CF P w K mg base "read_says" 7 (spD K 2 jf))(gaF:CF P w K mg base "read_meeting" 7 (spD K 4 fX)):CF P w K mg base "read_rule" 8 (spD K 1 jg) :=
 ⟨f,fd,["rows"],eC (k:=7) Fn sc_read_rule (λcdv A outer s H E hr =>
  (aj (aI (sh:=[.f,.f,.dead,.dead,.dead,.dead,.dead,.dead]) (aS (i:=1) sc_read_rule.nd (aq (gb gaL hr.m (af (av 0) aB)))))
  (aj (aI (sh:=[.f,.f,.f,.dead,.dead,.dead,.dead,.dead]) (aS (i:=2) sc_read_rule.nd (aq (gb gaH hr.m (af (av 0) (af (av 1) aB))))))
  (aj (aI (sh:=[.f,.f,.f,.f,.dead,.dead,.dead,.dead]) (aS (i:=3) sc_read_rule.nd (aq (gb gaQ hr.m (af (av 0) (af (av 1) aB))))))
  (aj (aI (sh:=[.f,.f,.f,.f,.o,.dead,.dead,.dead]) (eS (i:=4) sc_read_rule.nd (fT (eI aB))))
  (aj (aI (sh:=[.f,.f,.f,.f,.o,.f,.dead,.dead]) (aS (i:=5) sc_read_rule.nd (aq (aX (af ax (af (GL C6 DU (ao ax)) aB))))))
  (aj (g8 (sh:=[.f,.f,.f,.f,.o,.f,.dead,.dead]) PassesOwn.leaving rfl (e8 (oB rfl B.range (af ax (af (aP bJ d6 B.len PySem.boot_len (aE (ao (av 0)) aJ)) aB)) rfl rfl)) (aU (i:=6) (Nat.zero_le _) sc_read_rule.nd)
  (aj (aI (sh:=[.f,.f,.f,.f,.o,.dead,.dead,.f]) (aS (i:=7) sc_read_rule.nd (aq (gb gaF hr.m (af (av 0) (af (av 6) (af (av 1) (af (av 5) aB))))))))
  (aj (aI (sh:=[.f,.f,.f,.f,.o,.dead,.dead,.f]) (j3 (i:=4) rfl (vi rfl) (aa (aq (av 7)) aA) rfl rfl rfl rfl rfl rfl))
  (aD (aS (i:=5) sc_read_rule.nd (aq (oA (ao (av 7)) sO (sN ax))))))))
  (aD (bh (aq (aX (af (av 1) (af (av 2) (af (bL aR cq B.tuple (by decide +kernel) (aE (cp (i:=4)) aJ)) (af (av 3) aB)))))))))))))))
 (λds hl=>(by obtain⟨gal,rfl⟩:=ln1 hl;kernel_rfl)),hmg,Fn.kp,(nh Fn λ_ _ _ _ _ _ _=>rfl)⟩
abbrev gA:Stmt:=top 22
abbrev tp:List Str:=["_law_script", "_law_k", "_law_cell", "_law_great_here"]
theorem sc__law_feed:FnScope tp ["_law_script", "_law_k"] (au gA):=⟨rfl,rfl,rfl,by decide +kernel,rfl,by decide +kernel,by decide +kernel⟩
def eR(gaj:D)(gaY:D):M (List D) :=
 bd (bd (bd (oM (g9 [gaj])) λx1=>oM (y2 x1 (.int 0))) λb4=>if b4 then bd (bd (oM (g9 [gaj])) λx2=>oM (gC gaY x2)) λx3=>oM (bI gaj x3)else .ret (.int 0)) λx5=>bd (bd (bd (oM (uh [x5])) λx6=>bd (oM (qY (.int 10) (.int 18))) λx7=>oM (wU x6 x7)) λb8=>if b8 then oM (uh [x5])else .ret (.int 0)) λx9=>bd (bd (bd (oM (gC x5 (.int 1000003))) λx10=>bd (oM (e6 (.int 7919) gaY)) λx11=>oM (aT x10 x11)) λx12=>.ret [x9,x12,(.int 0)]) λl13=>.ret l13
def jk:List D->M (List D):=λl=>match l with
 | [gaj,gaY]=>eR gaj gaY
 | _=>.bad
theorem pG{f:Addr}{fd:FuncData}(Fn:Fun K "_law_feed" "_law_feed" gA f fd)(hmg:mg "_law_feed" = some (.ref f))(B:BN mg)(Kn:KN mg):CF P w K mg base "_law_feed" 1 (spL K 2 jk) :=
 ⟨f,fd,["_law_script", "_law_k"],zL (k:=0) Fn sc__law_feed (λcdv A outer s H E hr =>
  (aj (aI (sh:=[.dead,.f,.f,.dead]) (aS (i:=2) sc__law_feed.nd (aq (v5 (bR yY y8 (ao (aP bJ d6 B.len PySem.boot_len (aE (ao (av 0)) aJ))) (ao ax)) (cE (bE (aG hr)) bD (ao (av 0)) (ao (aM iz iA (ao (av 1)) (ao (aP bJ d6 B.len PySem.boot_len (aE (ao (av 0)) aJ)))))) ax))))
  (aj (aI (sh:=[.dead,.f,.f,.f]) (aS (i:=3) sc__law_feed.nd (aq (v5 (bR CJ CL (ao (aP sF zb B.abs (by decide +kernel) (aE (ao (av 2)) aJ))) (ao (aM DM DS (ao ax) (ao ax)))) (aP sF zb B.abs (by decide +kernel) (aE (ao (av 2)) aJ)) ax))))
  (aD (v3 (fT (eI (af (av 3) (af (aM bc bO (ao (aM iz iA (ao (av 2)) (ao ax))) (ao (aM lF lI (ao ax) (ao (av 1))))) (af ax aB))))))))))
 (λds hl=>(by obtain⟨gaj,gaY,rfl⟩:=ln2 hl;kernel_rfl)),hmg,Fn.kp,(sH Fn λ_ _ _ _ _ _ _ _=>rfl)⟩
abbrev gz:Stmt:=top 23
abbrev tm:List Str:=["_law_feed_here", "_law_many", "_law_digit", "_law_turn", "_law_one_here"]
theorem sc__law_next:FnScope tm ["_law_feed_here", "_law_many"] (au gz):=⟨rfl,rfl,rfl,by decide +kernel,rfl,by decide +kernel,by decide +kernel⟩
def az(gaa:List D)(gay:D):M (D×List D) :=
 bd (bd (oM (bI (PyData.list gaa) (.int 0))) λx1=>oM (y2 x1 (.int 0))) λb2=>if b2 then
  bd (bd (oM (bI (PyData.list gaa) (.int 0))) λx3=>oM (gC x3 gay)) λx4=>bd (bd (oM (bI (PyData.list gaa) (.int 0))) λx5=>oM (q8 x5 gay)) λx6=>bd (oM (putD gaa (.int 0) x6)) λl7=>.ret (x4,l7)
  else
  bd (bd (oM (bI (PyData.list gaa) (.int 2))) λx8=>oM (aT x8 (.int 1))) λx9=>bd (oM (putD gaa (.int 2) x9)) λl10=>bd (bd (bd (bd (bd (oM (bI (PyData.list l10) (.int 1))) λx11=>bd (oM (e6 (.int 41) x9)) λx12=>oM (aT x11 x12)) λx13=>oM (aT x13 (.int 3))) λx15=>bd (bd (oM (e6 x9 x9)) λx14=>oM (aT x14 (.int 69621))) λx16=>oM (e6 x15 x16)) λx17=>oM (gC x17 (.int 998244353))) λx18=>bd (bd (bd (bd (bd (bd (bd (oM (gC x18 (.int 65519))) λx19=>oM (aT x19 (.int 40692))) λx20=>oM (e6 x18 x20)) λx21=>oM (aT x21 x9)) λx22=>oM (gC x22 (.int 2147483629))) λx23=>oM (q8 x23 (.int 13))) λx24=>oM (gC x24 gay)) λx25=>.ret (x25,l10)
def cM:List D->List D->M (D×List D):=λgaa l=>match l with
 | [gay]=>az gaa gay
 | _=>.bad
theorem pF{f:Addr}{fd:FuncData}(Fn:Fun K "_law_next" "_law_next" gz f fd)(hmg:mg "_law_next" = some (.ref f))(B:BN mg)(Kn:KN mg):CF P w K mg base "_law_next" 1 (sp1 K 2 cM) :=
 ⟨f,fd,["_law_feed_here", "_law_many"],pW (k:=0) Fn sc__law_next (λcdv A outer s H E hr =>
  (aj (fx (dk (bR yY y8 (ao (cE (bE (aG hr)) bD (cp (i:=0)) (ao ax))) (ao ax)))
  (aj (aI (sh:=[.p,.f,.f,.dead,.dead]) (aS (i:=2) sc__law_next.nd (aq (aM iz iA (ao (cE (bE (aG hr)) bD (cp (i:=0)) (ao ax))) (ao (av 1))))))
  (aj (aI (sh:=[.p,.dead,.f,.dead,.dead]) (Ae (i:=0) rfl (vi rfl) (aq ax) (aq (aM vf y9 (ao (cE (bE (aG hr)) bD (cp (i:=0)) (ao ax))) (ao (av 1)))) (λ_=>rfl) rfl rfl rfl))
  (aD (bh (aq (av 2))))))
  cn)
  (aj (aI (sh:=[.p,.f,.dead,.f,.dead]) (aS (i:=3) sc__law_next.nd (aq (aM bc bO (ao (cE (bE (aG hr)) bD (cp (i:=0)) (ao ax))) (ao ax)))))
  (aj (aI (sh:=[.p,.f,.dead,.f,.dead]) (Ae (i:=0) rfl (vi rfl) (aq ax) (aq (av 3)) (λ_=>rfl) rfl rfl rfl))
  (aj (aI (sh:=[.p,.f,.dead,.f,.f]) (aS (i:=4) sc__law_next.nd (aq (aM iz iA (ao (aM lF lI (ao (aM bc bO (ao (aM bc bO (ao (cE (bE (aG hr)) bD (cp (i:=0)) (ao ax))) (ao (aM lF lI (ao ax) (ao (av 3)))))) (ao ax))) (ao (aM bc bO (ao (aM lF lI (ao (av 3)) (ao (av 3)))) (ao ax))))) (ao ax)))))
  (aD (bh (aq (aM iz iA (ao (aM vf y9 (ao (aM iz iA (ao (aM bc bO (ao (aM lF lI (ao (av 4)) (ao (aM bc bO (ao (aM iz iA (ao (av 4)) (ao ax))) (ao ax))))) (ao (av 3)))) (ao ax))) (ao ax))) (ao (av 1)))))))))))
 (λg ds hl=>(by obtain⟨gay,rfl⟩:=ln1 (Nat.succ.inj hl);kernel_rfl)),hmg,Fn.kp,(sH Fn λ_ _ _ _ _ _ _ _=>rfl)⟩
abbrev im:Stmt:=top 24
abbrev uL:List Str:=["_law_feed_here", "_law_some"]
theorem qK:FnScope uL ["_law_feed_here", "_law_some"] (au im):=⟨rfl,rfl,rfl,by decide +kernel,rfl,by decide +kernel,by decide +kernel⟩
def eH(gaa:List D)(gaG:D):M (D×List D) :=
 bd (oM (g9 [gaG])) λx1=>bd (az gaa x1) λr2=>bd (oM (bI gaG r2.1)) λx3=>.ret (x3,r2.2)
def gF:List D->List D->M (D×List D):=λgaa l=>match l with
 | [gaG]=>eH gaa gaG
 | _=>.bad
theorem q9{f:Addr}{fd:FuncData}(Fn:Fun K "_law_one" "_law_one" im f fd)(hmg:mg "_law_one" = some (.ref f))(B:BN mg)(Kn:KN mg)(gab:CF P w K mg base "_law_next" 1 (sp1 K 2 cM)):CF P w K mg base "_law_one" 2 (sp1 K 2 gF) :=
 ⟨f,fd,["_law_feed_here", "_law_some"],pW (k:=1) Fn qK (λcdv A outer s H E hr =>
  (aD (bh (GN (bE (aG hr)) bD (aq (av 1)) (bF (i:=0) gab hr.m (aa (aq (aP bJ d6 B.len PySem.boot_len (aE (ao (av 1)) aJ))) aA))))))
 (λg ds hl=>(by obtain⟨gaG,rfl⟩:=ln1 (Nat.succ.inj hl);kernel_rfl)),hmg,Fn.kp,(sH Fn λ_ _ _ _ _ _ _ _=>rfl)⟩
abbrev gx:Stmt:=top 25
abbrev tf:List Str:=["_law_feed_here", "_law_most", "_law_sorts", "_law_rooms", "_law_often", "_law_meets", "_law_a", "_law_b", "_law_c", "_law_d", "_law_starts"]
theorem sc__law_rule:FnScope tf ["_law_feed_here", "_law_most", "_law_sorts"] (au gx):=⟨rfl,rfl,rfl,by decide +kernel,rfl,by decide +kernel,by decide +kernel⟩
abbrev N__law_rule_0:List Str:=["_law_feed_here", "_law_most", "_law_sorts", "_law_rooms", "_law_often", "_law_meets", "_law_a", "_law_b", "_law_c", "_law_d", "_law_starts", "_law_sort"]
theorem jN:N__law_rule_0.Nodup:=by decide +kernel
abbrev N__law_rule_1:List Str:=["_law_feed_here", "_law_most", "_law_sorts", "_law_rooms", "_law_often", "_law_meets", "_law_a", "_law_b", "_law_c", "_law_d", "_law_starts", "_law_room"]
theorem jM:N__law_rule_1.Nodup:=by decide +kernel
def gT(gae:List D)(gaf:D)(gad:D)(gar:D)(gag:List D):M (D×List D) :=
 bd (oM (bT [gaf])) λl6=>bd (cN (λs7 d8=>bd (az s7.1 s7.2.2.1) λr9=>.ret (some r9.1,(r9.2,s7.2.1,s7.2.2.1,s7.2.2.2.1,()))) l6 (gae,gaf,gad,gag,())) λr10=>bd (eD r10.1) λl11=>bd (oM (cB [(PyData.list l11)])) λx12=>bd (oM (cB [(PyData.list r10.2.2.2.2.1)])) λx13=>bd (oM (bT [r10.2.2.2.1])) λl14=>bd (cN (λs15 d16=>bd (az s15.1 (.int 2)) λr17=>bd (oM (gg r17.1 (.int 0))) λb18=>.ret (some (.bool b18),(r17.2,s15.2.1,()))) l14 (r10.2.1,r10.2.2.2.1,())) λr19=>bd (eD r19.1) λl20=>bd (oM (cB [(PyData.list l20)])) λx21=>.ret ((.tuple [r10.2.2.2.1,x12,x13,x21]),r19.2.1)
def gS(kn22:List D×D×D×D×List D×Unit->M (D×List D))(gae:List D)(gaf:D)(gad:D)(gar:D)(gag:List D)(gaM:D):M (D×List D) :=
 kn22 (gae,gaf,gad,gar,gag,())
def gR(kn22:List D×D×D×D×List D×Unit->M (D×List D))(gae:List D)(gaf:D)(gad:D)(gar:D)(gag:List D)(gaM:D)(d_:D)(kn24:List D×D×D×D×List D×D×Unit->M (D×List D)):M (D×List D) :=
 bd (az gae gad) λr25=>bd (az r25.2 gad) λr26=>bd (eH r26.2 (.list [d_,gaM,r26.1])) λr27=>bd (az r27.2 gar) λr28=>bd (oM (gg r28.1 (.int 0))) λb29=>if b29 then bd (oM (dC (.tuple [r25.1,r27.1]) (.tuple [(.tuple [gaM,d_]),(.tuple [d_,gaM])]))) λb30=>if b30 then
  bd (oM (m7 gag [(.tuple [gaM,d_,r25.1,r27.1])])) λl31=>kn24 (r28.2,gaf,gad,gar,l31,gaM,())
  else
  kn24 (r28.2,gaf,gad,gar,gag,gaM,())else kn24 (r28.2,gaf,gad,gar,gag,gaM,())
def eG(gae:List D)(gaf:D)(gad:D)(gar:D)(gag:List D)(d_:D)(kn22:List D×D×D×D×List D×Unit->M (D×List D)):M (D×List D) :=
 bd (oM (eN [d_,gad])) λl23=>lW (λs32 d33 kn=>gR kn22 s32.1 s32.2.1 s32.2.2.1 s32.2.2.2.1 s32.2.2.2.2.1 s32.2.2.2.2.2.1 d33 kn) l23 (gae,gaf,gad,gar,gag,d_,()) (λs32=>gS kn22 s32.1 s32.2.1 s32.2.2.1 s32.2.2.2.1 s32.2.2.2.2.1 s32.2.2.2.2.2.1)
def dE(gaa:List D)(gaO:D)(gas:D):M (D×List D) :=
 bd (az gaa gaO) λr1=>bd (oM (aT (.int 1) r1.1)) λx2=>bd (az r1.2 (.int 3)) λr3=>bd (oM (aT (.int 1) r3.1)) λx4=>bd (oM (bT [x2])) λl5=>lW (λs34 d35 kn=>eG s34.1 s34.2.1 s34.2.2.1 s34.2.2.2.1 s34.2.2.2.2.1 d35 kn) l5 (r3.2,gas,x2,x4,[],()) (λs34=>gT s34.1 s34.2.1 s34.2.2.1 s34.2.2.2.1 s34.2.2.2.2.1)
def ji:List D->List D->M (D×List D):=λgaa l=>match l with
 | [gaO,gas]=>dE gaa gaO gas
 | _=>.bad
theorem pC{f:Addr}{fd:FuncData}(Fn:Fun K "_law_rule" "_law_rule" gx f fd)(hmg:mg "_law_rule" = some (.ref f))(B:BN mg)(Kn:KN mg)(gab:CF P w K mg base "_law_next" 1 (sp1 K 2 cM))(gaz:CF P w K mg base "_law_one" 2 (sp1 K 2 gF)):CF P w K mg base "_law_rule" 3 (sp1 K 3 ji) :=
 ⟨f,fd,["_law_feed_here", "_law_most", "_law_sorts"],pW (k:=2) Fn sc__law_rule (λcdv A outer s H E hr =>
  (aj (aI (sh:=[.p,.dead,.f,.f,.dead,.dead,.dead,.dead,.dead,.dead,.dead]) (aS (i:=3) sc__law_rule.nd (uJ bc bO (aq ax) (bF (i:=0) gab hr.m (aa (aq (av 1)) aA)))))
  (aj (aI (sh:=[.p,.dead,.f,.f,.f,.dead,.dead,.dead,.dead,.dead,.dead]) (aS (i:=4) sc__law_rule.nd (uJ bc bO (aq ax) (bF (i:=0) gab hr.m (aa (aq ax) aA)))))
  (aj (aI (sh:=[.p,.dead,.f,.f,.f,.o,.dead,.dead,.dead,.dead,.dead]) (eS (i:=5) sc__law_rule.nd (fT (eI aB))))
  (aj (g8 (sh:=[.p,.dead,.f,.f,.f,.o,.dead,.dead,.dead,.dead,.dead]) PassesOwn.leaving rfl (e8 (dh rfl B.range (af (av 3) aB) rfl)) (aU (i:=6) (Nat.zero_le _) sc__law_rule.nd)
  (aD (g8 (sh:=[.p,.dead,.f,.f,.f,.o,.f,.dead,.dead,.dead,.dead]) PassesOwn.leaving rfl (e8 (oB rfl B.range (af (av 6) (af (av 3) aB)) rfl rfl)) (aU (i:=7) (Nat.zero_le _) sc__law_rule.nd)
  (aj (aI (sh:=[.p,.dead,.f,.f,.f,.o,.f,.f,.f,.f,.dead]) (Af (i:=8) (j:=9) rfl sc__law_rule.nd rfl rfl (by decide) rfl rfl (aa (bF (i:=0) gab hr.m (aa (aq (av 3)) aA)) (aa (bF (i:=0) gaz hr.m (aa (uI (qk (aa (aq (av 7)) (aa (aq (av 6)) (aa (bF (i:=0) gab hr.m (aa (aq (av 3)) aA)) aA))))) aA)) aA)) rfl rfl))
  (aD (fx (Aj (v7 (v8 (iy (aG hr)) d7 (bF (i:=0) gab hr.m (aa (aq (av 4)) aA)) (aq ax)) (sQ (dk (bR (ix (aG hr)) jI (ao (aX (af (av 8) (af (av 9) aB)))) (ao (aX (af (aX (af (av 6) (af (av 7) aB))) (af (aX (af (av 7) (af (av 6) aB))) aB)))))))))
  (aD (j3 (i:=5) rfl (vi rfl) (aa (aq (aX (af (av 6) (af (av 7) (af (av 8) (af (av 9) aB)))))) aA) rfl rfl rfl rfl rfl rfl))
  cn))))))
  (aj (aI (sh:=[.p,.dead,.dead,.f,.dead,.o,.dead,.dead,.dead,.dead,.f]) (aS (i:=10) sc__law_rule.nd (fA aR cq B.tuple (by decide +kernel) (aa (uI (jx (sh:=[.p,.dead,.f,.f,.dead,.o,.dead,.dead,.dead,.dead,.dead]) (N':=N__law_rule_0) (k:=1) rfl (aZ (by kernel_rfl) rfl rfl) (e8 (dh rfl B.range (af (av 2) aB) rfl)) (λ_ _ _ _ _=>(aU (i:=11) (show 11<=11 by decide) jN)) (λ_ _ _ _ _=>(jw cj)) (λ_ _ _ _ _=>(bF (i:=0) gab hr.m (aa (aq (av 3)) aA))))) aA))))
  (aD (bh (Ak (aa (aq (av 3)) (aa (aq (av 10)) (aa (aq (bL aR cq B.tuple (by decide +kernel) (aE (cp (i:=5)) aJ))) (aa (fA aR cq B.tuple (by decide +kernel) (aa (uI (jx (sh:=[.p,.dead,.dead,.f,.dead,.dead,.dead,.dead,.dead,.dead,.dead]) (N':=N__law_rule_1) (k:=1) rfl (aZ (by kernel_rfl) rfl rfl) (e8 (dh rfl B.range (af (av 3) aB) rfl)) (λ_ _ _ _ _=>(aU (i:=11) (show 11<=11 by decide) jM)) (λ_ _ _ _ _=>(jw cj)) (λ_ _ _ _ _=>(ED (ql (iy (aG hr)) d7 (bF (i:=0) gab hr.m (aa (aq ax) aA)) (aq ax) rfl))))) aA)) aA)))))))))))))
 (λg ds hl=>(by obtain⟨gaO,gas,rfl⟩:=ln2 (Nat.succ.inj hl);kernel_rfl)),hmg,Fn.kp,(z5 Fn λ_ _ _ _ _ _ _ _ _=>rfl)⟩
abbrev fJ:Stmt:=top 26
abbrev qu:List Str:=["_law_feed_here", "_law_sorts", "_law_rooms", "_law_pairs", "_law_meets", "_law_a", "_law_b", "_law_c", "_law_d", "_law_says"]
theorem sc__law_great:FnScope qu ["_law_feed_here", "_law_sorts"] (au fJ):=⟨rfl,rfl,rfl,by decide +kernel,rfl,by decide +kernel,by decide +kernel⟩
abbrev N__law_great_0:List Str:=["_law_feed_here", "_law_sorts", "_law_rooms", "_law_pairs", "_law_meets", "_law_a", "_law_b", "_law_c", "_law_d", "_law_says", "_law_k"]
theorem ja:N__law_great_0.Nodup:=by decide +kernel
abbrev N__law_great_1:List Str:=["_law_feed_here", "_law_sorts", "_law_rooms", "_law_pairs", "_law_meets", "_law_a", "_law_b", "_law_c", "_law_d", "_law_says", "_law_room"]
theorem iZ:N__law_great_1.Nodup:=by decide +kernel
abbrev N__law_great_2:List Str:=["_law_feed_here", "_law_sorts", "_law_rooms", "_law_pairs", "_law_meets", "_law_a", "_law_b", "_law_c", "_law_d", "_law_says", "_law_sort"]
theorem iY:N__law_great_2.Nodup:=by decide +kernel
def dH(gae:List D)(gaf:D)(gad:D)(gag:List D):M (D×List D) :=
 bd (oM (bT [gad])) λl15=>bd (cN (λs16 d17=>bd (az s16.1 (.int 2)) λr18=>bd (oM (gg r18.1 (.int 0))) λb19=>.ret (some (.bool b19),(r18.2,s16.2.1,s16.2.2.1,s16.2.2.2.1,()))) l15 (gae,gaf,gad,gag,())) λr20=>bd (eD r20.1) λl21=>bd (oM (cB [(PyData.list l21)])) λx22=>bd (oM (bT [r20.2.2.1])) λl23=>bd (cN (λs24 d25=>bd (az s24.1 s24.2.2.1) λr26=>.ret (some r26.1,(r26.2,s24.2.1,s24.2.2.1,s24.2.2.2.1,s24.2.2.2.2.1,()))) l23 (r20.2.1,r20.2.2.1,r20.2.2.2.1,r20.2.2.2.2.1,x22,())) λr27=>bd (eD r27.1) λl28=>bd (oM (cB [(PyData.list l28)])) λx29=>bd (oM (cB [(PyData.list r27.2.2.2.2.1)])) λx30=>.ret ((.tuple [r20.2.2.2.1,x29,x30,r27.2.2.2.2.2.1]),r27.2.1)
def fZ(gae:List D)(gaf:D)(gad:D)(gag:List D)(d_:D)(kn31:List D×D×D×List D×Unit->M (D×List D)):M (D×List D) :=
 un2 d_ λy32 y33=>bd (az gae gad) λr34=>bd (az r34.2 gad) λr35=>bd (oM (dC (.tuple [r34.1,r35.1]) (.tuple [(.tuple [y32,y33]),(.tuple [y33,y32])]))) λb36=>if b36 then
  bd (oM (m7 gag [(.tuple [y32,y33,r34.1,r35.1])])) λl37=>kn31 (r35.2,gaf,gad,l37,())
  else
  kn31 (r35.2,gaf,gad,gag,())
def dQ(gaa:List D)(gas:D):M (D×List D) :=
 bd (eH gaa (PyData.list [(.int 40),(.int 39),(.int 7),(.int 12)])) λr1=>bd (az r1.2 (.int 6)) λr2=>bd (oM (bT [r2.1])) λl3=>bd (cN (λs4 d5=>bd (az s4.1 s4.2.2.1) λr6=>bd (az r6.2 s4.2.2.1) λr7=>bd (oM (iG [(.list [r6.1,r7.1])])) λx8=>bd (oM (cB [(PyData.list x8)])) λx9=>.ret (some x9,(r7.2,s4.2.1,s4.2.2.1,()))) l3 (r2.2,gas,r1.1,())) λr10=>bd (eD r10.1) λl11=>bd (bd (bd (oM (BF [(PyData.list l11)])) λl12=>.ret (PyData.list l12)) λx13=>oM (eK x13)) λl14=>lW (λs38 d39 kn=>fZ s38.1 s38.2.1 s38.2.2.1 s38.2.2.2.1 d39 kn) l14 (r10.2.1,r10.2.2.1,r10.2.2.2.1,[],()) (λs38=>dH s38.1 s38.2.1 s38.2.2.1 s38.2.2.2.1)
def hZ:List D->List D->M (D×List D):=λgaa l=>match l with
 | [gas]=>dQ gaa gas
 | _=>.bad
theorem mZ{f:Addr}{fd:FuncData}(Fn:Fun K "_law_great" "_law_great" fJ f fd)(hmg:mg "_law_great" = some (.ref f))(B:BN mg)(Kn:KN mg)(gaz:CF P w K mg base "_law_one" 2 (sp1 K 2 gF))(gab:CF P w K mg base "_law_next" 1 (sp1 K 2 cM)):CF P w K mg base "_law_great" 3 (sp1 K 2 hZ) :=
 ⟨f,fd,["_law_feed_here", "_law_sorts"],pW (k:=2) Fn sc__law_great (λcdv A outer s H E hr =>
  (aj (aI (sh:=[.p,.f,.f,.dead,.dead,.dead,.dead,.dead,.dead,.dead]) (aS (i:=2) sc__law_great.nd (bF (i:=0) gaz hr.m (aa (aq (hG (eI (af ax (af ax (af ax (af ax aB))))))) aA))))
  (aj (aI (sh:=[.p,.f,.f,.f,.dead,.dead,.dead,.dead,.dead,.dead]) (sL (i:=3) sc__law_great.nd rfl (lo rfl) (.inl rfl) (sh:=[.p,.f,.f,.dead,.dead,.dead,.dead,.dead,.dead,.dead]) (N':=N__law_great_0) (k:=1) rfl (aZ (by kernel_rfl) rfl rfl) (uG rfl B.range (aa (bF (i:=0) gab hr.m (aa (aq ax) aA)) aA) rfl) (λ_ _ _ _ _=>(aU (i:=10) (show 10<=10 by decide) ja)) (λ_ _ _ _ _=>(jw cj)) (λ_ _ _ _ _=>(fA aR cq B.tuple (by decide +kernel) (aa (uI (xQ (uv rfl) y6 B.sorted (by decide +kernel) (aa (uI (qk (aa (bF (i:=0) gab hr.m (aa (aq (av 2)) aA)) (aa (bF (i:=0) gab hr.m (aa (aq (av 2)) aA)) aA)))) aA))) aA))) rfl (λ_=>rfl)))
  (aj (aI (sh:=[.p,.f,.f,.f,.o,.dead,.dead,.dead,.dead,.dead]) (eS (i:=4) sc__law_great.nd (fT (eI aB))))
  (aj (g8 (sh:=[.p,.f,.f,.dead,.o,.dead,.dead,.dead,.dead,.dead]) PassesOwn.leaving rfl (e8 (dA (hG (uF rfl (aG hr) rfl B.sorted rfl B.set (aE (ao (av 3)) aJ) rfl rfl)))) (B5 rfl (sP (aU (i:=5) (Nat.zero_le _) sc__law_great.nd) (sP (aU (i:=6) (Nat.zero_le _) sc__law_great.nd) B3 rfl) rfl) rfl rfl)
  (aj (aI (sh:=[.p,.f,.f,.dead,.o,.f,.f,.f,.f,.dead]) (Af (i:=7) (j:=8) rfl sc__law_great.nd rfl rfl (by decide) rfl rfl (aa (bF (i:=0) gab hr.m (aa (aq (av 2)) aA)) (aa (bF (i:=0) gab hr.m (aa (aq (av 2)) aA)) aA)) rfl rfl))
  (aD (fx (dk (bR (ix (aG hr)) jI (ao (aX (af (av 7) (af (av 8) aB)))) (ao (aX (af (aX (af (av 5) (af (av 6) aB))) (af (aX (af (av 6) (af (av 5) aB))) aB))))))
  (aD (j3 (i:=4) rfl (vi rfl) (aa (aq (aX (af (av 5) (af (av 6) (af (av 7) (af (av 8) aB)))))) aA) rfl rfl rfl rfl rfl rfl))
  cn))))
  (aj (aI (sh:=[.p,.f,.f,.dead,.o,.dead,.dead,.dead,.dead,.f]) (aS (i:=9) sc__law_great.nd (fA aR cq B.tuple (by decide +kernel) (aa (uI (jx (sh:=[.p,.f,.f,.dead,.o,.dead,.dead,.dead,.dead,.dead]) (N':=N__law_great_1) (k:=1) rfl (aZ (by kernel_rfl) rfl rfl) (e8 (dh rfl B.range (af (av 2) aB) rfl)) (λ_ _ _ _ _=>(aU (i:=10) (show 10<=10 by decide) iZ)) (λ_ _ _ _ _=>(jw cj)) (λ_ _ _ _ _=>(ED (ql (iy (aG hr)) d7 (bF (i:=0) gab hr.m (aa (aq ax) aA)) (aq ax) rfl))))) aA))))
  (aD (bh (Ak (aa (aq (av 2)) (aa (fA aR cq B.tuple (by decide +kernel) (aa (uI (jx (sh:=[.p,.f,.f,.dead,.o,.dead,.dead,.dead,.dead,.f]) (N':=N__law_great_2) (k:=1) rfl (aZ (by kernel_rfl) rfl rfl) (e8 (dh rfl B.range (af (av 1) aB) rfl)) (λ_ _ _ _ _=>(aU (i:=10) (show 10<=10 by decide) iY)) (λ_ _ _ _ _=>(jw cj)) (λ_ _ _ _ _=>(bF (i:=0) gab hr.m (aa (aq (av 2)) aA))))) aA)) (aa (aq (bL aR cq B.tuple (by decide +kernel) (aE (cp (i:=4)) aJ))) (aa (aq (av 9)) aA)))))))))))))
 (λg ds hl=>(by obtain⟨gas,rfl⟩:=ln1 (Nat.succ.inj hl);kernel_rfl)),hmg,Fn.kp,(sH Fn λ_ _ _ _ _ _ _ _=>rfl)⟩
abbrev gy:Stmt:=top 27
abbrev tj:List Str:=["_law_rule_here", "_law_rows_here"]
theorem sc__law_rows:FnScope tj ["_law_rule_here"] (au gy):=⟨rfl,rfl,rfl,by decide +kernel,rfl,by decide +kernel,by decide +kernel⟩
abbrev N__law_rows_0:List Str:=["_law_rule_here", "_law_rows_here", "_law_room"]
theorem jR:N__law_rows_0.Nodup:=by decide +kernel
abbrev N__law_rows_1:List Str:=["_law_rule_here", "_law_rows_here", "_law_one_here"]
theorem jQ:N__law_rows_1.Nodup:=by decide +kernel
abbrev N__law_rows_2:List Str:=["_law_rule_here", "_law_rows_here", "_law_meeting"]
theorem jP:N__law_rows_2.Nodup:=by decide +kernel
abbrev N__law_rows_3:List Str:=["_law_rule_here", "_law_rows_here", "_law_meeting", "_law_room"]
theorem jO:N__law_rows_3.Nodup:=by decide +kernel
def bB(gao:D):M D :=
 bd (bd (bd (bd (oM (bI gao (.int 0))) λx1=>oM (pX [x1])) λx2=>oM (aT (.str "rooms ") x2)) λx3=>bd (bd (onT .str (.str " ") (bd (bd (bd (bd (oM (bI gao (.int 1))) λx4=>oM (eK x4)) λl7=>bd (bq (λd5=>bd (oM (pX [d5])) λx6=>.ret (some x6)) l7) eD) λl8=>.ret (PyData.list l8)) λx9=>oM (h8 (.str " ") [x9]))) λx10=>oM (aT (.str "starts ") x10)) λx11=>.ret [x3,x11]) λl12=>bd (bd (onT .str (.str " ") (bd (bd (bd (bd (oM (bI gao (.int 3))) λx13=>oM (eK x13)) λl17=>bd (bq (λd14=>bd (bd (oM (rT [d14])) λx15=>oM (bI (PyData.list [(.str "no"),(.str "yes")]) x15)) λx16=>.ret (some x16)) l17) eD) λl18=>.ret (PyData.list l18)) λx19=>oM (h8 (.str " ") [x19]))) λx20=>oM (aT (.str "says ") x20)) λx21=>bd (oM (m7 l12 [x21])) λl22=>bd (bd (bd (bd (bd (oM (bI gao (.int 2))) λx23=>oM (eK x23)) λl32=>bd (bq (λd24=>bd (bd (onT .str (.str " ") (bd (bd (bd (oM (eK d24)) λl27=>bd (bq (λd25=>bd (oM (pX [d25])) λx26=>.ret (some x26)) l27) eD) λl28=>.ret (PyData.list l28)) λx29=>oM (h8 (.str " ") [x29]))) λx30=>oM (aT (.str "meet ") x30)) λx31=>.ret (some x31)) l32) eD) λl33=>.ret (PyData.list l33)) λx34=>oM (aT (PyData.list l22) x34)) λx35=>.ret x35
def jj:List D->M D:=λl=>match l with
 | [gao]=>bB gao
 | _=>.bad
theorem pE{f:Addr}{fd:FuncData}(Fn:Fun K "_law_rows" "_law_rows" gy f fd)(hmg:mg "_law_rows" = some (.ref f))(B:BN mg)(Kn:KN mg):CF P w K mg base "_law_rows" 1 (spD K 1 jj) :=
 ⟨f,fd,["_law_rule_here"],eC (k:=0) Fn sc__law_rows (λcdv A outer s H E hr =>
  (aj (aI (sh:=[.f,.o]) (eS (i:=1) sc__law_rows.nd (fT (eI (af (aM bc bO (ao aY) (ao (bL dN o8 B.str (by decide +kernel) (aE (ao (cE (bE (aG hr)) bD (ao (av 0)) (ao ax))) aJ)))) (af (aM bc bO (ao aY) (ao (jv (ty:=.str) PySem.F.plainAttrs_str PySem.F.slot_str_join PySem.F.type_str_join jb (ao aY) (af (hG (eT (N':=N__law_rows_0) (k:=1) rfl (aZ (by kernel_rfl) rfl rfl) (dA (cE (bE (aG hr)) bD (ao (av 0)) (ao ax))) (λ_ _ _ _ _=>(aU (i:=2) (show 2<=2 by decide) jR)) (λ_ _ _ _ _=>cj) (λ_ _ _ _ _=>(bL dN o8 B.str (by decide +kernel) (aE (ao (av 2)) aJ))))) aB) rfl rfl rfl rfl rfl))) aB))))))
  (aj (aI (sh:=[.f,.o]) (j3 (i:=1) rfl (vi rfl) (aa (aq (aM bc bO (ao aY) (ao (jv (ty:=.str) PySem.F.plainAttrs_str PySem.F.slot_str_join PySem.F.type_str_join jb (ao aY) (af (hG (eT (N':=N__law_rows_1) (k:=1) rfl (aZ (by kernel_rfl) rfl rfl) (dA (cE (bE (aG hr)) bD (ao (av 0)) (ao ax))) (λ_ _ _ _ _=>(aU (i:=2) (show 2<=2 by decide) jQ)) (λ_ _ _ _ _=>cj) (λ_ _ _ _ _=>(cE (bE (aG hr)) bD (ao (hG (eI (af aY (af aY aB))))) (ao (bL nZ vj B.int (by decide +kernel) (aE (ao (av 2)) aJ))))))) aB) rfl rfl rfl rfl rfl)))) aA) rfl rfl rfl rfl rfl rfl))
  (aD (bh (aq (aM bc bO (cp (i:=1)) (ao (hG (eT (N':=N__law_rows_2) (k:=1) rfl (aZ (by kernel_rfl) rfl rfl) (dA (cE (bE (aG hr)) bD (ao (av 0)) (ao ax))) (λ_ _ _ _ _=>(aU (i:=2) (show 2<=2 by decide) jP)) (λ_ _ _ _ _=>cj) (λ_ _ _ _ _=>(aM bc bO (ao aY) (ao (jv (ty:=.str) PySem.F.plainAttrs_str PySem.F.slot_str_join PySem.F.type_str_join jb (ao aY) (af (hG (eT (N':=N__law_rows_3) (k:=1) rfl (xH (by decide +kernel) (by decide +kernel)) (dA (av 2)) (λ_ _ _ _ _=>(aU (i:=3) (show 3<=3 by decide) jO)) (λ_ _ _ _ _=>cj) (λ_ _ _ _ _=>(bL dN o8 B.str (by decide +kernel) (aE (ao (av 3)) aJ))))) aB) rfl rfl rfl rfl rfl))))))))))))))
 (λds hl=>(by obtain⟨gao,rfl⟩:=ln1 hl;kernel_rfl)),hmg,Fn.kp,(nh Fn λ_ _ _ _ _ _ _=>rfl)⟩
abbrev yq:Stmt:=top 28
abbrev GT:List Str:=["_law_script", "_law_k", "_law_feed_here", "_law_sorts", "_law_rule_here", "_law_rows_here", "_law_found"]
theorem sc_law:FnScope GT ["_law_script"] (au yq):=⟨rfl,rfl,rfl,by decide +kernel,rfl,by decide +kernel,by decide +kernel⟩
def zZ(gaC:D):M D :=
 .ret (.bool true)
def mB(gaC:D)(d_:D)(kn5:D×Unit->M D):M D :=
 bd (eR gaC d_) λl6=>bd (az l6 (.int 4)) λr7=>bd (oM (aT (.int 1) r7.1)) λx8=>bd (az r7.2 (.int 4)) λr9=>bd (oM (gg r9.1 (.int 1))) λb10=>if b10 then bd (dQ r9.2 x8) λr11=>bd (bB r11.1) λx12=>bd (bg r11.1) λl13=>bd (bd (bd (oM (bw [(PyData.list l13)])) λx14=>bd (oM (bw [x12])) λx15=>oM (dL x14 x15)) λb19=>if b19 then .ret true else bd (bd (lend (true) (bA (PyData.list l13))) λx16=>oM (bw [x16])) λx17=>bd (oM (bw [r11.1])) λx18=>oM (dL x17 x18)) λb20=>if b20 then
  .ret (.bool false)
  else
  bd (oM (zn l13 [])) λl21=>bd (bd (bd (bd (bd (bg r11.1) λl22=>.ret (PyData.list l22)) λx23=>oM (bw [x23])) λx24=>bd (oM (bw [x12])) λx25=>oM (dL x24 x25)) λb31=>if b31 then .ret true else bd (bd (bd (bA x12) λx26=>oM (bw [x26])) λx27=>bd (oM (bw [r11.1])) λx28=>oM (dL x27 x28)) λb30=>if b30 then .ret true else bd (bB r11.1) λx29=>oM (dL x12 x29)) λb32=>if b32 then
  .ret (.bool false)
  else
  kn5 (gaC,())else bd (dE r9.2 (.int 6) x8) λr33=>bd (bB r33.1) λx34=>bd (bg r33.1) λl35=>bd (bd (bd (oM (bw [(PyData.list l35)])) λx36=>bd (oM (bw [x34])) λx37=>oM (dL x36 x37)) λb41=>if b41 then .ret true else bd (bd (lend (true) (bA (PyData.list l35))) λx38=>oM (bw [x38])) λx39=>bd (oM (bw [r33.1])) λx40=>oM (dL x39 x40)) λb42=>if b42 then
  .ret (.bool false)
  else
  bd (oM (zn l35 [])) λl43=>bd (bd (bd (bd (bd (bg r33.1) λl44=>.ret (PyData.list l44)) λx45=>oM (bw [x45])) λx46=>bd (oM (bw [x34])) λx47=>oM (dL x46 x47)) λb53=>if b53 then .ret true else bd (bd (bd (bA x34) λx48=>oM (bw [x48])) λx49=>bd (oM (bw [r33.1])) λx50=>oM (dL x49 x50)) λb52=>if b52 then .ret true else bd (bB r33.1) λx51=>oM (dL x34 x51)) λb54=>if b54 then
  .ret (.bool false)
  else
  kn5 (gaC,())
def vS(gaj:D):M D :=
 bd (bd (bd (bd (oM (g9 [gaj])) λx1=>oM (rS [(.int 12),x1])) λx2=>oM (aT (.int 2) x2)) λx3=>oM (bT [x3])) λl4=>lW (λs55 d56 kn=>mB s55.1 d56 kn) l4 (gaj,()) (λs55=>zZ s55.1)
def pK:List D->M D:=λl=>match l with
 | [gaj]=>vS gaj
 | _=>.bad
theorem Ej{f:Addr}{fd:FuncData}(Fn:Fun K "law" "law" yq f fd)(B:BN mg)(Kn:KN mg)(gaR:CF P w K mg base "_law_feed" 1 (spL K 2 jk))(gaI:CF P w K mg base "_law_rows" 1 (spD K 1 jj))(gaD:CF P w K mg base "shown_rule" 2 (spL K 1 hV))(gab:CF P w K mg base "_law_next" 1 (sp1 K 2 cM))(gaN:CF P w K mg base "_law_great" 3 (sp1 K 2 hZ))(gaS:CF P w K mg base "_law_rule" 3 (sp1 K 3 ji))(gaJ:CF P w K mg base "read_rule" 8 (spD K 1 jg)):FnOk P w K mg base (CX1 P w) 9 f fd ["_law_script"] (spD K 1 pK) :=
 eC (k:=8) Fn sc_law (λcdv A outer s H E hr =>
  (aj (g8 (sh:=[.f,.dead,.dead,.dead,.dead,.dead,.dead]) PassesOwn.leaving rfl (e8 (dh rfl B.range (af (aM bc bO (ao ax) (ao (aP (xM rfl) Bf B.min (by decide +kernel) (aE (ao ax) (aE (ao (aP bJ d6 B.len PySem.boot_len (aE (ao (av 0)) aJ))) aJ))))) aB) rfl)) (aU (i:=1) (Nat.zero_le _) sc_law.nd)
  (aj (aI (sh:=[.f,.dead,.o,.dead,.dead,.dead,.dead]) (eS (i:=2) sc_law.nd (fT (Ah gaR hr.m (af (av 0) (af (av 1) aB))))))
  (aj (aI (sh:=[.f,.dead,.o,.f,.dead,.dead,.dead]) (aS (i:=3) sc_law.nd (uJ bc bO (aq ax) (bF (i:=2) gab hr.m (aa (aq ax) aA)))))
  (aj (aI (sh:=[.f,.dead,.dead,.dead,.f,.dead,.dead]) (aS (i:=4) sc_law.nd (GO (v8 (iy (aG hr)) d7 (bF (i:=2) gab hr.m (aa (aq ax) aA)) (aq ax)) (bF (i:=2) gaN hr.m (aa (aq (av 3)) aA)) (bF (i:=2) gaS hr.m (aa (aq ax) (aa (aq (av 3)) aA))))))
  (aj (aI (sh:=[.f,.dead,.dead,.dead,.f,.f,.dead]) (aS (i:=5) sc_law.nd (aq (gb gaI hr.m (af (av 4) aB)))))
  (aj (aI (sh:=[.f,.dead,.dead,.dead,.f,.f,.o]) (eS (i:=6) sc_law.nd (fT (Ah gaD hr.m (af (av 4) aB)))))
  (aj (fx (dk (vX (sI (bR (lE (aG hr)) d7 (ao (aP (cD (aG hr) hr.gd) eM B.repr (by decide +kernel) (aE (cp (i:=6)) aJ))) (ao (aP (cD (aG hr) hr.gd) eM B.repr (by decide +kernel) (aE (ao (av 5)) aJ)))) (uB (bR (lE (aG hr)) d7 (ao (aP (cD (aG hr) hr.gd) eM B.repr (by decide +kernel) (aE (ao (B1 (i:=6) gaJ hr.m)) aJ))) (ao (aP (cD (aG hr) hr.gd) eM B.repr (by decide +kernel) (aE (ao (av 4)) aJ))))))))
  (aD (bh (aq v6)))
  cn)
  (aj (aI (sh:=[.f,.dead,.dead,.dead,.f,.f,.dead]) (Ag (i:=6) rfl (vi rfl) rfl rfl rfl))
  (aD (fx (dk (vX (sI (bR (lE (aG hr)) d7 (ao (aP (cD (aG hr) hr.gd) eM B.repr (by decide +kernel) (aE (ao (hG (Ah gaD hr.m (af (av 4) aB)))) aJ))) (ao (aP (cD (aG hr) hr.gd) eM B.repr (by decide +kernel) (aE (ao (av 5)) aJ)))) (sI (bR (lE (aG hr)) d7 (ao (aP (cD (aG hr) hr.gd) eM B.repr (by decide +kernel) (aE (ao (gb gaJ hr.m (af (av 5) aB))) aJ))) (ao (aP (cD (aG hr) hr.gd) eM B.repr (by decide +kernel) (aE (ao (av 4)) aJ)))) (uB (bR (lE (aG hr)) d7 (ao (av 5)) (ao (gb gaI hr.m (af (av 4) aB)))))))))
  (aD (bh (aq v6)))
  cn))))))))))
  (aD (bh (aq v6)))))
 (λds hl=>(by obtain⟨gaj,rfl⟩:=ln1 hl;kernel_rfl))
end
end
end K10
namespace L4
open PySem PySem.Spec PyProof.Rows L2 L3
theorem bdR{S T:Type}(s:S)(k:S->M T):bd (.ret s) k=k s:=id rfl
theorem oMS{S:Type}(s:S):oM (some s)=.ret s:=id rfl
theorem vH{S T:Type}{step:T->D->(T->M S)->M S}{R:M S}{P:Nat->T->Prop}:∀(ds:List D) (i:Nat) (s:T) (k:T->M S),
  (∀(j:Nat) (s:T) (d:D),d∈ds->i<=j->j<i+ds.length->P j s->∀kn:T->M S,(∀s',P (j+1) s'->kn s'=R)->step s d kn=R) ->
  P i s->(∀s',P (i+ds.length) s'->k s'=R)->gh step ds s k=R
 | [],i,s,k,_,hp,hk=>hk s hp
 | d::r,i,s,k,h,hp,hk=>by
  show step s d _=R
  refine h i s d List.mem_cons_self (Nat.le_refl _) (by simp) hp _ λs' hp'=>?_
  refine vH r (i+1) s' k (λj s d hd hj hl=>h j s d (zzg _ hd) (by lia) (by simp;lia)) hp' λs' hs=>hk s' ?_
  have:i+(d::r).length=i+1+r.length:=by simp;lia
  rw[this];exact hs
theorem BC{S T:Type}{step:T->D->(T->M S)->M S}{R:M S}{P:Nat->T->Prop}(ds:List D)(i:Nat)(s:T)(k:T->M S)
  (h:∀(j:Nat) (s:T) (d:D),d∈ds->i<=j->j<i+ds.length->P j s->∀kn:T->M S,(∀s',P (j+1) s'->kn s'=R)->step s d kn=R)
  (hp:P i s) (hk:∀s',P (i+ds.length) s'->k s'=R):lW step ds s k=R:=by
 rw[kI]
 exact vH ds i s k h hp hk
theorem cb{S:Type}{ds:List S}(h:ds.length<=1000):eD ds=.ret ds:=if_pos (iD h)
theorem qh{α:Type}(xs:List α)(i:Nat)(h:i<xs.length):atI xs (i:Int)=some (xs[i]'h):=by
 unfold atI ixN
 rw[if_pos (Int.natCast_nonneg _),if_pos (by lia)]
 simp[h]
theorem Aa{α:Type}(xs:List α)(i:Int)(h0:0<=i)(h:i<xs.length):∃x∈xs,atI xs i=some x:=by
 obtain⟨n,rfl⟩:=Int.eq_ofNat_of_zero_le h0
 exact⟨_,List.getElem_mem _,qh xs n (by lia)⟩
def jz(s:Str):Bool:=PyData.strOk s&&decide ((reprText s).length<=24)&&PyData.strOk (reprText s)
def Ok(k:Nat):Nat->D->Prop
 | 0,_=>False
 | _+1,.none=>True
 | _+1,.bool _=>True
 | _+1,.int i=>i.natAbs<10^(16+k)
 | _+1,.str s=>jz s=true
 | n+1,.list ds=>ds.length<=6+k/\∀d∈ds,Ok k n d
 | n+1,.tuple ds=>ds.length<=6+k/\∀d∈ds,Ok k n d
 | _+1,.dict _=>False
theorem pN:∀{ds:List D},(∀d∈ds,d.canLay0=true)->PyData.canLayAll0 ds=true
 | [],_=>by simp[PyData.canLayAll0]
 | d::r,h=>by
  simp only[PyData.canLayAll0,Bool.and_eq_true]
  exact⟨h d List.mem_cons_self,pN λe he=>h e (zzg _ he)⟩
theorem mr{n:Nat}:∀{ds:List D},(∀d∈ds,d.depth<=n)->PyData.depthAll ds<=n
 | [],_=>by simp[PyData.depthAll]
 | d::r,h=>by
  simp only[PyData.depthAll]
  exact Nat.max_le.mpr ⟨h d List.mem_cons_self,mr λe he=>h e (zzg _ he)⟩
theorem qI:∀{ds:List D},(∀d∈ds,d.showable=true)->PyData.showableAll ds=true
 | [],_=>by simp[PyData.showableAll]
 | d::r,h=>by
  simp only[PyData.showableAll,Bool.and_eq_true]
  exact⟨h d List.mem_cons_self,qI λe he=>h e (zzg _ he)⟩
theorem D1{m:Nat}(h:m<10^36):m.log2<1920:=by
 by_cases h0:m=0
 ·subst h0;decide
 ·exact(Nat.log2_lt h0).mpr (Nat.lt_of_lt_of_le h (by decide +kernel))
theorem strOk_iff{s:Str}:PyData.strOk s=true↔∀c∈s.cps.toList,c<1114112:=by
 unfold PyData.strOk
 rw[<-Array.all_toList,List.all_eq_true]
 simp
theorem br(s:String):PyData.strOk (Str.ofString s)=true:=by
 rw[strOk_iff,signs_ofString]
 intro c hc
 obtain⟨ch,_,rfl⟩:=List.mem_map.mp hc
 have:=ch.valid
 have e:ch.toNat=ch.val.toNat:=rfl
 rw[e]
 rcases this with h|⟨_,h⟩
 ·have h':ch.val.toNat<0xd800:=h
  lia
 ·have h':ch.val.toNat<0x110000:=h
  lia
theorem dR{a b:Str}(ha:PyData.strOk a=true)(hb:PyData.strOk b=true):PyData.strOk (a++b)=true:=by
 rw[strOk_iff]at *
 intro c hc
 rcases mem_cps_append.mp hc with h|h
 ·exact ha c h
 ·exact hb c h
theorem ik{sep:Str}{ts:List Str}(hs:PyData.strOk sep=true)(h:∀t∈ts,PyData.strOk t=true):PyData.strOk (Str.join sep ts)=true:=by
 rw[strOk_iff]at *
 intro c hc
 rcases(mem_join sep c ts).mp hc with ⟨t,ht,hc⟩|⟨_,hc⟩
 ·exact strOk_iff.mp (h t ht) c hc
 ·exact hs c hc
theorem qU{B:Nat}:∀{ts:List Str},(∀t∈ts,t.length<=B)->piled ts<=ts.length*(B+2)
 | [],_=>Nat.zero_le _
 | t::r,h=>by
  have h1:=h t List.mem_cons_self
  have h2:=qU (ts:=r) λu hu=>h u (zzg _ hu)
  rw[piled_cons,List.length_cons,Nat.succ_mul]
  lia
theorem pQ{ts:List Str}:(Str.join ", " ts).length<=piled ts:=by
 by_cases h:ts=[]
 ·subst h;exact Nat.zero_le _
 ·have:=join_length_add ts h;lia
theorem fE:∀{ds:List D} {t:Str},t∈PyData.shownAll ds->∃d∈ds,t=d.shown
 | [],t,h=>by simp[PyData.shownAll]at h
 | d::r,t,h=>by
  simp only[PyData.shownAll,List.mem_cons]at h
  rcases h with rfl|h
  ·exact⟨d,List.mem_cons_self,rfl⟩
  ·obtain⟨e,he,q⟩:=fE h
   exact⟨e,zzg _ he,q⟩
theorem iM:∀ds:List D,(PyData.shownAll ds).length=ds.length
 | []=>by simp[PyData.shownAll]
 | d::r=>by simp[PyData.shownAll,iM r]
def lim:Nat->Nat
 | 0=>24
 | n+1=>4+9*(lim n+2)
theorem eqI(a b:Int):gg (.int a) (.int b)=some (a==b):=by
 unfold gg rW
 simp[PyData.canLay0,PyData.depth,PyData.eqv]
theorem ltI(a b:Int):y1 (.int a) (.int b)=some (decide (a<b)):=id rfl
theorem gtI(a b:Int):y2 (.int a) (.int b)=some (decide (b<a)):=id rfl
theorem geI(a b:Int):wU (.int a) (.int b)=some (decide (b<=a)):=id rfl
theorem addI(a b:Int):aT (.int a) (.int b)=some (.int (a+b)):=id rfl
theorem modI(i j:Int)(h:0<j):gC (.int i) (.int j)=some (.int (i % j)):=if_pos h
theorem divI(i j:Int)(h:0<j)(h2:j<1073741824):q8 (.int i) (.int j)=some (.int (i / j)):=if_pos (by simp[h,h2])
theorem mulL(i j:Int)(h : -(2^64)<i)(h2:i<2^64):e6 (.int i) (.int j)=some (.int (i*j)):=if_pos (by simp only[vq,Bool.or_eq_true,Bool.and_eq_true,zzi];exact .inl ⟨h,h2⟩)
theorem mulR(i j:Int)(h : -(2^64)<j)(h2:j<2^64):e6 (.int i) (.int j)=some (.int (i*j)):=if_pos (by simp only[vq,Bool.or_eq_true,Bool.and_eq_true,zzi];exact .inr ⟨h,h2⟩)
theorem asB_b(b:Bool):asB (.bool b)=.ret b:=id rfl
theorem C3(i:Int):asI (.int i)=.ret (some i):=id rfl
theorem EU(b:Bool):wm (.bool b)=some b:=id rfl
theorem lenL(ds:List D):g9 [.list ds]=some (.int ds.length):=id rfl
theorem Ik(ds:List D):wy (.tuple ds)=some ds:=id rfl
theorem Il(ds:List D):wy (.list ds)=some ds:=id rfl
theorem mP(ds:List D):cB [.list ds]=some (.tuple ds):=id rfl
theorem Ih(ds:List D):cB [.tuple ds]=some (.tuple ds):=id rfl
theorem Bw(ds:List D)(n:Nat)(h:n<ds.length):gf (.tuple ds) (.int n)=some ds[n]:=qh ds n h
theorem Gq(a:D)(r:List D):gf (.tuple (a::r)) (.int 0)=some a:=Bw (a::r) 0 (by simp)
theorem Ee(a b:D)(r:List D):gf (.tuple (a::b::r)) (.int 1)=some b:=Bw (a::b::r) 1 (by simp)
theorem Gp(a b c:D)(r:List D):gf (.tuple (a::b::c::r)) (.int 2)=some c:=Bw (a::b::c::r) 2 (by simp)
theorem Gn(a b c d:D)(r:List D):gf (.tuple (a::b::c::d::r)) (.int 3)=some d:=Bw (a::b::c::d::r) 3 (by simp)
theorem ix3_0(a b c:D):gf (.list [a,b,c]) (.int 0)=some a:=id rfl
theorem ix3_1(a b c:D):gf (.list [a,b,c]) (.int 1)=some b:=id rfl
theorem ix3_2(a b c:D):gf (.list [a,b,c]) (.int 2)=some c:=id rfl
theorem put3_0(a b c d:D):putD [a,b,c] (.int 0) d=some [d,b,c]:=id rfl
theorem put3_2(a b c d:D):putD [a,b,c] (.int 2) d=some [a,b,d]:=id rfl
theorem addL(a b:List D)(h:a.length+b.length<=1000):aT (.list a) (.list b)=some (.list (a++b)):=if_pos (iD h)
theorem zS(ds:List D)(n:Nat):L4.cutD ds none (some n)=ds.take n:=by
 unfold L4.cutD
 rw[HT.sIx_nat,HT.sIx_none]
 by_cases h:n<=ds.length
 ·rw[Nat.min_eq_left h];simp
 ·rw[Nat.min_eq_right (by lia)]
  simp
  rw[List.take_of_length_le (by lia)]
theorem BQ(n m:Nat):((n:Int)==(m:Int))=decide (n=m):=by
 by_cases h:n=m
 ·simp[h]
 ·simp only[h,decide_false];rw[beq_eq_false_iff_ne];lia
def sW(lo hi:Int):D->Bool
 | .int i=>decide (lo<=i)&&decide (i<=hi)
 | _=>false
def sS(w:Str):D->Bool
 | .str s=>s==w
 | _=>false
def Ey(d:D):Prop:=d.canLay0=true/\d.depth<=1000
theorem rP{S T ι:Type}{step:T->D->(T->M S)->M S}{e:ι->D}{F:List ι->T}{k:T->M S}:∀(is pre:List ι),
  (∀p i q,is=p++i::q->∀kn:T->M S,step (F (pre++p)) (e i) kn=kn (F (pre++p++[i])))->gh step (is.map e) (F pre) k=k (F (pre++is))
 | [],pre,_=>by simp[gh]
 | i::r,pre,h=>by
  show step (F pre) (e i) _=_
  have h0:=h [] i r rfl (λs'=>gh step (r.map e) s' k)
  rw[List.append_nil]at h0
  rw[h0]
  have:=rP (step:=step) (e:=e) (F:=F) (k:=k) r (pre++[i]) λp j q hq kn=>by
   have:=h (i::p) j q (by rw[hq];rfl) kn
   simpa using this
  rw[this]
  simp
theorem zK{S T ι:Type}{step:T->D->(T->M S)->M S}{e:ι->D}{F:List ι->T}{k:T->M S}(is:List ι)
  (h:∀p i q,is=p++i::q->∀kn:T->M S,step (F p) (e i) kn=kn (F (p++[i]))):lW step (is.map e) (F []) k=k (F is):=by
 rw[kI]
 have:=rP (step:=step) (e:=e) (F:=F) (k:=k) is [] (by simpa using h)
 simpa using this
theorem vI{S T:Type}{step:T->D->(T->M S)->M S}{R:M S->Prop}{P:Nat->T->Prop}{k:T->M S}:∀(ds:List D) (i:Nat) (s:T),
  (∀(j:Nat) (s:T) (d:D),ds[j]? = some d->P (i+j) s->∀kn:T->M S,(∀s',P (i+j+1) s'->R (kn s'))->R (step s d kn)) ->
  P i s->(∀s',P (i+ds.length) s'->R (k s'))->R (gh step ds s k)
 | [],i,s,_,hp,hk=>hk s hp
 | d::r,i,s,h,hp,hk=>by
  show R (step s d _)
  refine h 0 s d rfl hp _ λs' hp'=>?_
  refine vI r (i+1) s' (λj s d hd hp kn hkn=>h (j+1) s d (by simpa using hd) (by rw[show i+(j+1)=i+1+j by lia];exact hp) kn λs' q=>hkn s' (by rw[show i+1+j+1=i+(j+1)+1 by lia];exact q)) hp' λs' hs=>hk s' ?_
  rw[show i+(d::r).length=i+1+r.length by simp;lia];exact hs
theorem kJ{S T:Type}{step:T->D->(T->M S)->M S}{R:M S->Prop}{P:Nat->T->Prop}{k:T->M S}(ds:List D)(s:T)
  (h:∀(j:Nat) (s:T) (d:D),ds[j]? = some d->P j s->∀kn:T->M S,(∀s',P (j+1) s'->R (kn s'))->R (step s d kn))
  (hp:P 0 s) (hk:∀s',P ds.length s'->R (k s')):R (lW step ds s k):=by
 rw[kI]
 exact vI ds 0 s (by simpa using h) hp (by simpa using hk)
theorem dU{ι:Type}{step:D->M (Option D)}{e g:ι->D}:∀(is:List ι),(∀i∈is,step (e i)=.ret (some (g i)))->bq step (is.map e)=.ret (is.map g)
 | [],_=>rfl
 | i::r,h=>by
  rw[List.map_cons,bq,h i List.mem_cons_self,dU r λd hd=>h d (zzg _ hd)]
  rfl
theorem sC{ι:Type}{step:D->M (Option D)}{e:ι->D}{g:ι->Option D}:∀(is:List ι),(∀i∈is,step (e i)=.ret (g i))->bq step (is.map e)=.ret (is.filterMap g)
 | [],_=>rfl
 | i::r,h=>by
  rw[List.map_cons,bq,h i List.mem_cons_self,sC r λd hd=>h d (zzg _ hd)]
  cases q:g i<;>simp[gZ,bdR,List.filterMap_cons,q]
theorem nW{T ι:Type}{step:T->D->M (Option D×T)}{P:Nat->T->Prop}{e:ι->D}{R:ι->Prop}:∀(ds:List D) (i:Nat) (s:T),
  (∀(j:Nat) (s:T) (d:D),ds[j]? = some d->P (i+j) s->∃x s',step s d=.ret (some (e x),s')/\P (i+j+1) s'/\R x)->P i s ->
  ∃xs s',cN step ds s=.ret (List.map e xs,s')/\P (i+ds.length) s'/\xs.length=ds.length/\∀x∈xs,R x
 | [],i,s,_,hp=>⟨[],s,rfl,hp,rfl,λ_ h=>by cases h⟩
 | d::r,i,s,h,hp=>by
  obtain⟨x,s1,e1,p1,r1⟩:=h 0 s d rfl hp
  obtain⟨xs,s2,e2,p2,l2,r2⟩:=nW r (i+1) s1 (λj s d hd hp=>by
   have:=h (j+1) s d (by simpa using hd) (by rw[show i+(j+1)=i+1+j by lia];exact hp)
   rw[show i+(j+1)+1=i+1+j+1 by lia]at this
   exact this) p1
  refine⟨x::xs,s2,?_,?_,by simp[l2],?_⟩
  ·rw[cN,e1];simp only[gZ,iJ];rw[e2];rfl
  ·rw[show i+(d::r).length=i+1+r.length by simp;lia];exact p2
  ·intro y hy
   cases hy with
   | head=>exact r1
   | tail _ h=>exact r2 y h
theorem gL{T ι:Type}{step:T->D->M (Option D×T)}{P:Nat->T->Prop}{e:ι->D}{R:ι->Prop}(ds:List D)(s:T)
  (h:∀(j:Nat) (s:T) (d:D),ds[j]? = some d->P j s->∃x s',step s d=.ret (some (e x),s')/\P (j+1) s'/\R x) (hp:P 0 s) :
  ∃xs s',cN step ds s=.ret (List.map e xs,s')/\P ds.length s'/\xs.length=ds.length/\∀x∈xs,R x:=by
 have:=nW (step:=step) (P:=P) (e:=e) (R:=R) ds 0 s (by simpa using h) hp
 simpa using this
abbrev iN(n:Nat):D:=.int (n:Int)
def rng(lo hi:Nat):List Nat:=(List.range (hi - lo)).map (lo + ·)
theorem iq(lo hi:Nat):(rng lo hi).length=hi - lo:=by simp[rng]
theorem lm(lo n:Nat):fN (lo:Int) n=((List.range n).map (lo + ·)).map iN:=by
 unfold fN
 rw[List.map_map]
 apply List.map_congr_left
 intro a _
 show PyData.int _=PyData.int _
 congr 1
theorem jB{n:Nat}(h:n<=100000):fD (n:Int)=true:=by
 unfold fD
 simp only[Bool.and_eq_true,zzi]
 lia
theorem eL(n:Nat)(h:n<=100000):bT [.int (n:Int)]=some ((List.range n).map iN):=by
 unfold bT
 simp only[jB h,if_true]
 have:=lm 0 n
 simp only[Int.toNat_natCast]
 rw[show(0:Int)=((0:Nat):Int)from rfl,this]
 simp
theorem uU(lo hi:Nat)(h:lo<=100000)(h2:hi<=100000):eN [.int (lo:Int),.int (hi:Int)]=some ((rng lo hi).map iN):=by
 unfold eN
 simp only[jB h,jB h2,Bool.and_self,if_true]
 rw[show((hi:Int) - (lo:Int)).toNat=hi - lo by lia,lm]
 rfl
mutual
def sz:D->Nat
 | .list ds=>1+szs ds
 | .tuple ds=>1+szs ds
 | .none=>1
 | .bool _=>1
 | .int _=>1
 | .str _=>1
 | .dict _=>1
def szs:List D->Nat
 | []=>0
 | d::r=>sz d+szs r
end
mutual
def Sm:D->Prop
 | .list ds=>Sms ds
 | .tuple ds=>Sms ds
 | .none=>True
 | .bool _=>True
 | .int i=>i.natAbs<10^19
 | .str s=>jz s=true
 | .dict _=>False
def Sms:List D->Prop
 | []=>True
 | d::r=>Sm d/\Sms r
end
theorem qo:∀{ds:List D},(∀d∈ds,Sm d)->Sms ds
 | [],_=>by simp[Sms]
 | e::r,h=>by
  simp only[Sms]
  exact⟨h e List.mem_cons_self,qo λd hd=>h d (zzg _ hd)⟩
mutual
theorem Sm.lay:∀{d:D},Sm d->d.canLay0=true
 | .none,h=>by simp[PyData.canLay0]
 | .bool _,h=>by simp[PyData.canLay0]
 | .int _,h=>by simp[PyData.canLay0]
 | .str s,h=>by
  have h':jz s=true:=by simpa[Sm]using h
  unfold jz at h'
  simp only[Bool.and_eq_true]at h'
  simp[PyData.canLay0,h'.1.1]
 | .list ds,h=>by simp only[PyData.canLay0];exact Sms.lay (by simpa[Sm]using h)
 | .tuple ds,h=>by simp only[PyData.canLay0];exact Sms.lay (by simpa[Sm]using h)
 | .dict _,h=>by simp[Sm]at h
theorem Sms.lay:∀{ds:List D},Sms ds->PyData.canLayAll0 ds=true
 | [],_=>by simp[PyData.canLayAll0]
 | d::r,h=>by
  simp only[Sms]at h
  simp only[PyData.canLayAll0,Bool.and_eq_true]
  exact⟨Sm.lay h.1,Sms.lay h.2⟩
end
mutual
theorem Sm.show:∀{d:D},Sm d->d.showable=true
 | .none,h=>by simp[PyData.showable]
 | .bool _,h=>by simp[PyData.showable]
 | .int i,h=>by
  have h':i.natAbs<10^19:=by simpa[Sm]using h
  simp only[PyData.showable,zzi]
  exact D1 (Nat.lt_of_lt_of_le h' (Nat.pow_le_pow_right (by decide) (by decide)))
 | .str s,h=>by simp[PyData.showable]
 | .list ds,h=>by simp only[PyData.showable];exact Sms.show (by simpa[Sm]using h)
 | .tuple ds,h=>by simp only[PyData.showable];exact Sms.show (by simpa[Sm]using h)
 | .dict _,h=>by simp[Sm]at h
theorem Sms.show:∀{ds:List D},Sms ds->PyData.showableAll ds=true
 | [],_=>by simp[PyData.showableAll]
 | d::r,h=>by
  simp only[Sms]at h
  simp only[PyData.showableAll,Bool.and_eq_true]
  exact⟨Sm.show h.1,Sms.show h.2⟩
end
mutual
theorem Sm.text:∀{d:D},Sm d->d.shown.length+2<=30*sz d/\PyData.strOk d.shown=true
 | .none,h=>by refine⟨?_,by simp only[PyData.shown];exact br _⟩;simp only[PyData.shown,sz];decide
 | .bool b,h=>by
  refine⟨?_,by cases b<;>simp only[PyData.shown]<;>exact br _⟩
  cases b<;>simp only[PyData.shown,sz]<;>decide
 | .int i,h=>by
  have h':i.natAbs<10^19:=by simpa[Sm]using h
  refine⟨?_,by simp only[PyData.shown];exact br _⟩
  simp only[PyData.shown,sz]
  have h1:=int_text_length_le10 (a:=i) (k:=19) (by decide) h'
  have h2:(Str.ofString (toString i)).length=(toString i).length:=by
   show(Str.ofString (toString i)).cps.size=_
   rw[<-Array.length_toList,signs_ofString,zzd,String.length_toList]
  lia
 | .str s,h=>by
  have h':jz s=true:=by simpa[Sm]using h
  unfold jz at h'
  simp only[Bool.and_eq_true,zzi]at h'
  simp only[PyData.shown,sz]
  exact⟨by lia,h'.2⟩
 | .list ds,h=>by
  obtain⟨h1,h2⟩:=Sms.text (ds:=ds) (by simpa[Sm]using h)
  have h5:(Str.join ", " (PyData.shownAll ds)).length<=piled (PyData.shownAll ds):=pQ
  have h6:PyData.strOk (Str.join ", " (PyData.shownAll ds))=true:=ik (br _) h2
  simp only[PyData.shown,listText_eq_join,sz]
  refine⟨?_,dR (dR (br _) h6) (br _)⟩
  rw[strLen_append,strLen_append]
  have e1:((("[" : String):Str)).length=1:=rfl
  have e2:((("]" : String):Str)).length=1:=rfl
  rw[e1,e2];lia
 | .tuple ds,h=>by
  obtain⟨h1,h2⟩:=Sms.text (ds:=ds) (by simpa[Sm]using h)
  have h5:(Str.join ", " (PyData.shownAll ds)).length<=piled (PyData.shownAll ds):=pQ
  have h6:PyData.strOk (Str.join ", " (PyData.shownAll ds))=true:=ik (br _) h2
  simp only[PyData.shown,tupleText,sz]
  refine⟨?_,dR (dR (br _) h6) (br _)⟩
  rw[strLen_append,strLen_append]
  have e1:((("(" : String):Str)).length=1:=rfl
  have e3:(((if(PyData.shownAll ds).length==1 then ",)" else ")" : String):Str)).length<=2:=by split<;>decide
  rw[e1];lia
 | .dict _,h=>by simp[Sm]at h
theorem Sms.text:∀{ds:List D},Sms ds->piled (PyData.shownAll ds)<=30*szs ds/\∀t∈PyData.shownAll ds,PyData.strOk t=true
 | [],_=>by simp[PyData.shownAll,piled,szs]
 | d::r,h=>by
  simp only[Sms]at h
  obtain⟨h1,h2⟩:=Sm.text h.1
  obtain⟨h3,h4⟩:=Sms.text h.2
  simp only[PyData.shownAll,szs]
  refine⟨?_,λt ht=>?_⟩
  ·rw[piled_cons];lia
  ·rcases List.mem_cons.mp ht with rfl|ht
   ·exact h2
   ·exact h4 t ht
end
theorem Fh{d:D}(h:Sm d)(hs:sz d<=30000)(hd:d.depth<=60):bw [d]=some (.str d.shown):=by
 obtain⟨t1,t2⟩:=h.text
 show(if iu d then some (PyData.str d.shown)else none)=_
 unfold iu
 rw[if_pos]
 simp only[Bool.and_eq_true,zzi]
 exact⟨⟨⟨h.show,h.lay⟩,by lia⟩,Nat.le_trans (show d.shown.length<=1000000 by lia) (by decide)⟩
theorem DY{d:D}(h:Sm d):dL (.str d.shown) (.str d.shown)=some false:=by
 obtain⟨t1,t2⟩:=h.text
 unfold dL rW
 rw[if_pos]
 ·simp[PyData.eqv]
 ·simp[PyData.canLay0,t2,PyData.depth]
theorem rK(ds:List D)(k:D):bI (.list ds) k=gf (.list ds) k:=id rfl
theorem jq(ds:List D)(k:D):bI (.tuple ds) k=gf (.tuple ds) k:=id rfl
theorem leA(a b:Int):lG (.int a) (.int b)=some (decide (a<=b)):=id rfl
theorem inA_L(d:D)(ds:List D):fq d (.list ds)=qZ d (.list ds):=id rfl
theorem inA_T(d:D)(ds:List D):fq d (.tuple ds)=qZ d (.tuple ds):=id rfl
theorem rf(d:D)(ds:List D):dC d (.tuple ds)=fO d (.tuple ds):=id rfl
theorem CP{ι:Type}(e:ι->D)(is:List ι)(n:Nat)(h:n<is.length):gf (.list (is.map e)) (.int (n:Int))=some (e is[n]):=by
 have:=qh (is.map e) n (by simpa using h)
 rw[List.getElem_map]at this
 exact this
theorem j4(ds:List D)(d:D)(h:ds.length<=100000):m7 ds [d]=some (ds++[d]):=if_pos (Nat.lt_of_le_of_lt h (by decide))
abbrev pD(p:Nat×Nat):D:=.tuple [iN p.1,iN p.2]
theorem zh(a b:Nat):((a:Int)==(b:Int))=decide (a=b):=BQ a b
theorem mh(p q:Nat×Nat):PyData.eqv (pD p) (pD q)=decide (p=q):=by
 simp only[pD,iN,PyData.eqv,PyData.eqvAll,zh,Bool.and_true]
 rw[Bool.eq_iff_iff]
 simp[Prod.ext_iff]
theorem rB(p:Nat×Nat):(pD p).canLay0=true/\(pD p).depth<=1000:=by
 simp[pD,PyData.canLay0,PyData.canLayAll0,PyData.depth,PyData.depthAll]
theorem vm(p q r:Nat×Nat):fO (pD p) (.tuple [pD q,pD r])=some (!(decide (q=p)||decide (r=p))):=by
 have hi:gJ (pD p) [pD q,pD r]=true:=by
  unfold gJ
  simp[rB,PyData.canLayAll0]
 rw[show fO (pD p) (.tuple [pD q,pD r])=if gJ (pD p) [pD q,pD r]then some (!([pD q,pD r].any λy=>PyData.eqv y (pD p)))else none from rfl,if_pos hi]
 simp only[List.any_cons,List.any_nil,mh,Bool.or_false]
theorem eqN(a b:Nat):gg (iN a) (iN b)=some (decide (a=b)):=by
 show gg (.int a) (.int b)=_
 rw[eqI,zh]
theorem HW(a b:Nat):aT (iN a) (iN b)=some (iN (a+b)):=by
 show some (PyData.int ((a:Int)+(b:Int)))=_
 rw[<-Int.natCast_add]
abbrev Mt:=Nat×Nat×Nat×Nat
abbrev mD(m:Mt):D:=.tuple [iN m.1,iN m.2.1,iN m.2.2.1,iN m.2.2.2]
structure Rl where
 n:Nat
 st:List Nat
 ms:List Mt
 sy:List Bool
abbrev Rl.d(r:Rl):D:=.tuple [iN r.n,.tuple (r.st.map iN),.tuple (r.ms.map mD),.tuple (r.sy.map PyData.bool)]
def plt(p q:Nat×Nat):Prop:=p.1<q.1\/p.1=q.1/\p.2<q.2
structure MtOk(n:Nat)(m:Mt):Prop where
 ab:m.1<=m.2.1
 b:m.2.1<n
 c:m.2.2.1<n
 d:m.2.2.2<n
 ne:m.2.2≠(m.1,m.2.1)
 ne':m.2.2≠(m.2.1,m.1)
structure Wf(r:Rl):Prop where
 n1:1<=r.n
 st:∀s∈r.st,s<r.n
 sy:r.sy.length=r.n
 ms:∀m∈r.ms,MtOk r.n m
 so:r.ms.Pairwise λm m'=>plt (m.1,m.2.1) (m'.1,m'.2.1)
def look(ms:List Mt)(p:Nat×Nat):Option (Nat×Nat):=(ms.find? λm=>decide (m.1=p.1)&&decide (m.2.1=p.2)).map (·.2.2)
def turn(ms:List Mt)(i j:Nat):Nat×Nat:=if i<=j then(look ms (i,j)).getD (i,j)else let t:=(look ms (j,i)).getD (j,i);(t.2,t.1)
theorem jC{n:Nat}(h:n<=1000000000):Sm (iN n):=by
 simp only[iN,Sm,Int.natAbs_natCast]
 exact Nat.lt_of_le_of_lt h (by decide)
theorem AC{l:List Nat}(h:∀s∈l,s<=1000000000):Sm (.tuple (l.map iN)):=by
 simp only[Sm]
 refine qo λd hd=>?_
 obtain⟨s,hs,rfl⟩:=List.mem_map.mp hd
 exact jC (h s hs)
theorem yd(l:List Bool):Sm (.tuple (l.map PyData.bool)):=by
 simp only[Sm]
 refine qo λd hd=>?_
 obtain⟨s,hs,rfl⟩:=List.mem_map.mp hd
 simp[Sm]
theorem E1{m:Mt}(h:m.1<=1000000000/\m.2.1<=1000000000/\m.2.2.1<=1000000000/\m.2.2.2<=1000000000):Sm (mD m):=by
 simp only[mD,Sm,Sms]
 exact⟨by simpa[iN,Sm]using jC h.1,by simpa[iN,Sm]using jC h.2.1,by simpa[iN,Sm]using jC h.2.2.1,by simpa[iN,Sm]using jC h.2.2.2,trivial⟩
theorem kE{ι:Type}{e:ι->D}{B:Nat}(h:∀i,sz (e i)=B):∀l:List ι,szs (l.map e)=l.length*B
 | []=>by simp[szs]
 | i::r=>by rw[List.map_cons,szs,kE h r,h i,List.length_cons,Nat.succ_mul];lia
theorem dD{ds:List D}{n:Nat}(h:∀d∈ds,d.depth<=n):(PyData.tuple ds).depth<=n+1:=by
 have:=mr h
 simp only[PyData.depth];lia
theorem yw(r:Rl):r.d.depth<=60:=by
 refine Nat.le_trans (dD (n:=3) ?_) (by decide)
 have i0:∀n:Nat,(iN n).depth<=1:=λn=>by simp[iN,PyData.depth]
 intro d hd
 simp only[List.mem_cons,List.mem_nil_iff,or_false]at hd
 rcases hd with rfl|rfl|rfl|rfl
 ·exact Nat.le_trans (i0 _) (by decide)
 ·refine Nat.le_trans (dD (n:=1) λd hd=>?_) (by decide)
  obtain⟨s,_,rfl⟩:=List.mem_map.mp hd
  exact i0 s
 ·refine dD (n:=2) λd hd=>?_
  obtain⟨m,_,rfl⟩:=List.mem_map.mp hd
  refine dD (n:=1) λd hd=>?_
  simp only[List.mem_cons,List.mem_nil_iff,or_false]at hd
  rcases hd with rfl|rfl|rfl|rfl<;>exact i0 _
 ·refine Nat.le_trans (dD (n:=1) λd hd=>?_) (by decide)
  obtain⟨s,_,rfl⟩:=List.mem_map.mp hd
  simp[PyData.depth]
theorem Cr{r:Rl}(w:Wf r)(hn:r.n<=100000):Sm r.d:=by
 simp only[Rl.d,Sm,Sms]
 refine⟨by simpa[iN,Sm]using jC (n:=r.n) (by lia),?_,?_,?_,trivial⟩
 ·simpa[Sm]using AC λs hs=>by have:=w.st s hs;lia
 ·refine qo λd hd=>?_
  obtain⟨m,hm,rfl⟩:=List.mem_map.mp hd
  have o:=w.ms m hm
  have:=o.ab;have:=o.b;have:=o.c;have:=o.d
  exact E1 ⟨by lia,by lia,by lia,by lia⟩
 ·simpa[Sm]using yd r.sy
theorem Ff(r:Rl):sz r.d=5+r.st.length+5*r.ms.length+r.sy.length:=by
 simp only[Rl.d,sz,szs]
 rw[kE (B:=1) (λi=>by simp[sz]),kE (B:=5) (λi=>by simp[sz,szs]),kE (B:=1) (λi=>by simp[sz])]
 lia
theorem AQ{r:Rl}(w:Wf r)(hn:r.n<=1000)(hs:r.st.length<=1000)(hm:r.ms.length<=5000):bw [r.d]=some (.str r.d.shown)/\dL (.str r.d.shown) (.str r.d.shown)=some false :=
 ⟨Fh (Cr w (by lia)) (by rw[Ff,w.sy];lia) (yw r),DY (Cr w (by lia))⟩
theorem min2(a b:Nat):rS [.int (a:Int),.int (b:Int)]=some (iN (min a b)):=by
 show some (PyData.int _)=_
 congr 2
 split<;>lia
abbrev kvM(m:Mt):D×D:=(pD (m.1,m.2.1),pD m.2.2)
theorem Gu(p:Nat×Nat):fQ (pD p)=true:=id rfl
theorem EM(p:Nat×Nat):eA (pD p)=false:=id rfl
theorem Al(a:Nat):aT (.int 1) (iN a)=some (iN (a+1)):=by
 show some (PyData.int (1+(a:Int)))=some (PyData.int ((a+1:Nat):Int))
 rw[Int.natCast_add,Int.add_comm]
 rfl
theorem yv{lo hi j:Nat}{d:D}(h:((rng lo hi).map iN)[j]? = some d):d=iN (lo+j)/\lo+j<hi:=by
 rw[List.getElem?_map]at h
 obtain⟨x,hx,rfl⟩:=Option.map_eq_some_iff.mp h
 have hl:=(List.getElem?_eq_some_iff.mp hx).1
 rw[iq]at hl
 unfold rng at hx
 rw[List.getElem?_map,List.getElem?_range hl]at hx
 cases hx
 exact⟨rfl,by lia⟩
theorem fm{n j:Nat}{d:D}(h:((List.range n).map iN)[j]? = some d):d=iN j/\j<n:=by
 rw[List.getElem?_map]at h
 obtain⟨x,hx,rfl⟩:=Option.map_eq_some_iff.mp h
 have hl:=(List.getElem?_eq_some_iff.mp hx).1
 rw[List.length_range]at hl
 rw[List.getElem?_range hl]at hx
 cases hx
 exact⟨rfl,hl⟩
structure Ahd(n a b:Nat)(ms:List Mt):Prop where
 ok:∀m∈ms,MtOk n m
 so:ms.Pairwise λm m'=>plt (m.1,m.2.1) (m'.1,m'.2.1)
 ah:∀m∈ms,plt (m.1,m.2.1) (a,b)
 le:ms.length<=a*n+b
theorem Ahd.next{n a b:Nat}{ms:List Mt}(h:Ahd n a b ms):Ahd n a (b+1) ms :=
 ⟨h.ok,h.so,λm hm=>by rcases h.ah m hm with q|⟨q,q2⟩<;>simp only[plt]at * <;> lia,by have:=h.le;lia⟩
theorem Ahd.add{n a b:Nat}{ms:List Mt}{c d:Nat}(h:Ahd n a b ms)(hm:MtOk n (a,b,c,d)):Ahd n a (b+1) (ms++[(a,b,c,d)]):=by
 refine⟨λm hm'=>?_,?_,λm hm'=>?_,by have:=h.le;simp;lia⟩
 ·rcases List.mem_append.mp hm' with q|q
  ·exact h.ok m q
  ·rw[List.mem_singleton.mp q];exact hm
 ·rw[List.pairwise_append]
  refine⟨h.so,List.pairwise_singleton _ _,λm hm x hx=>?_⟩
  rw[List.mem_singleton.mp hx]
  exact h.ah m hm
 ·rcases List.mem_append.mp hm' with q|q
  ·rcases h.ah m q with q|⟨q,q2⟩<;>simp only[plt]at * <;> lia
  ·rw[List.mem_singleton.mp q];exact .inr ⟨rfl,Nat.lt_succ_self _⟩
theorem Ahd.row{n a b:Nat}{ms:List Mt}(h:Ahd n a b ms)(hb:b<=n):Ahd n (a+1) (a+1) ms :=
 ⟨h.ok,h.so,λm hm=>by rcases h.ah m hm with q|⟨q,q2⟩<;>simp only[plt]at * <;> lia,by have:=h.le;rw[Nat.succ_mul];lia⟩
def tab(n:Nat)(f:Nat->Nat):List Nat:=(List.range n).map f
abbrev Ii(n:Nat)(f:Nat->Nat):List D:=(tab n f).map iN
def up(f:Nat->Nat)(i v:Nat):Nat->Nat:=λr=>if r=i then v else f r
def cnt(hs:List Nat)(r:Nat):Nat:=hs.count r
def HU(f:Nat->Nat)(m:Mt):Bool:=let w:=if m.1=m.2.1 then 2 else 1;decide (w<=f m.1)&&decide (w<=f m.2.1)
def Im(f:Nat->Nat)(m:Mt):Nat->Nat :=
 let f1:=up f m.1 (f m.1 - 1)
 let f2:=up f1 m.2.1 (f1 m.2.1 - 1)
 let f3:=up f2 m.2.2.1 (f2 m.2.2.1+1)
 up f3 m.2.2.2 (f3 m.2.2.2+1)
def Ib(bs:List Bool):D:=if bs.all id then .str "yes" else if bs.any id then .str "both" else .str "no"
def Dj(l:List (Nat×Nat)):List Nat:=l.flatMap λp=>List.replicate p.2 p.1
def Ig(f:Nat->Nat)(ms:List Mt):List Nat:=(ms.zipIdx.filter λp=>HU f p.1).map (·.2)
def Ie(r:Rl)(hs:List Nat)(i j:Nat):List Nat:=(hs.set i (turn r.ms (hs.getD i 0) (hs.getD j 0)).1).set j (turn r.ms (hs.getD i 0) (hs.getD j 0)).2
def BO(r q:Rl)(i j:Nat):Nat×Nat:=((turn r.ms (i / q.n) (j / q.n)).1*q.n+(turn q.ms (i % q.n) (j % q.n)).1,(turn r.ms (i / q.n) (j / q.n)).2*q.n+(turn q.ms (i % q.n) (j % q.n)).2)
def cell(r q:Rl)(i j:Nat):List Mt:=if BO r q i j=(i,j)then[]else[(i,j,BO r q i j)]
def Fe(r q:Rl)(i:Nat):List Mt:=(rng i (r.n*q.n)).flatMap (cell r q i)
def Df(r q:Rl):List Mt:=(List.range (r.n*q.n)).flatMap (Fe r q)
structure Two(r q:Rl):Prop where
 wr:Wf r
 wq:Wf q
 rn:r.n<=40
 qn:q.n<=40
 R:r.n*q.n<=40
 st:r.st.length=q.st.length
 s4:q.st.length<=4
def E5(both a b:Bool):Bool:=if both then a&&b else a||b
def Dk(r q:Rl)(both:Bool)(p:Nat):Bool:=E5 both (r.sy.getD (p / q.n) false) (q.sy.getD (p % q.n) false)
def qF(r q:Rl):List Nat:=(List.range r.st.length).map λk=>r.st.getD k 0*q.n+q.st.getD k 0
def Ij(r q:Rl)(both:Bool):Rl:=⟨r.n*q.n,qF r q,Df r q,(List.range (r.n*q.n)).map (Dk r q both)⟩
def Ia(both:Bool):D:=if both then .str "both" else .str "either"
abbrev cT(l:List Nat):D:=.tuple (l.map iN)
theorem zt(l:List Nat):PyData.canLayAll0 (l.map iN)=true:=pN λd hd=>by
 obtain⟨x,_,rfl⟩:=List.mem_map.mp hd
 simp[iN,PyData.canLay0]
def Ic(n:Nat)(g f:Nat->Nat):Nat->Nat:=cnt (Dj ((List.range n).map λp=>(g p,f p)))
structure Sd(r q:Rl)(g:Nat->Nat)(R:Rl):Prop where
 wf:Wf R
 lt:∀{a},a<r.n*q.n->g a<R.n
 tn:∀{a b},a<r.n*q.n->b<r.n*q.n->(g (BO r q a b).1,g (BO r q a b).2)=turn R.ms (g a) (g b)
 st:(qF r q).map g=R.st
instance (p q:Nat×Nat):Decidable (plt p q):=inferInstanceAs (Decidable (_\/_))
theorem Dy{p q r:Nat×Nat}(h1:plt p q)(h2:plt q r):plt p r:=by
 unfold plt at *;omega
theorem tR{p q:Nat×Nat}(h:plt p q):p≠q:=by
 rintro rfl
 unfold plt at h;omega
theorem pO(p:Nat×Nat):L4.keyD (pD p)=[(p.1:Int),(p.2:Int)]:=gl [(p.1:Int),(p.2:Int)]
theorem rD{p q:Nat×Nat}(h:L4.keyD (pD p)=L4.keyD (pD q)):p=q:=by
 rw[pO,pO]at h
 injection h with h1 h2
 injection h2 with h2 _
 exact Prod.ext (by omega) (by omega)
theorem DI{p q:Nat×Nat}(h:pD p=pD q):p=q:=rD (by rw[h])
theorem leK_pD{p q:Nat×Nat}:leK (pD p) (pD q)=true↔p=q\/plt p q:=by
 unfold leK
 rw[pO,pO,HT.lexLt_cons,Bool.not_eq_true']
 by_cases h:(q.1:Int)=p.1
 ·rw[if_pos h,HT.lexLt_cons]
  by_cases h2:(q.2:Int)=p.2
  ·rw[if_pos h2]
   refine⟨λ_=>.inl (Prod.ext (by omega) (by omega)),λ_=>rfl⟩
  ·rw[if_neg h2,decide_eq_false_iff_not]
   unfold plt
   constructor
   ·intro _;right;omega
   ·rintro(z|z)
    ·rw[z]at h2;omega
    ·omega
 ·rw[if_neg h,decide_eq_false_iff_not]
  unfold plt
  constructor
  ·intro _;right;omega
  ·rintro(z|z)
   ·rw[z]at h;omega
   ·omega
def jY(ps:List (Nat×Nat))(acc:List (Nat×Nat)):List (Nat×Nat):=ps.foldl (λacc p=>if p∈acc then acc else acc++[p]) acc
theorem vN:∀(ps acc:List (Nat×Nat)),(ps.map pD).foldl uj (acc.map pD)=(jY ps acc).map pD
 | [],acc=>rfl
 | p::ps,acc=>by
  show(ps.map pD).foldl uj (uj (acc.map pD) (pD p))=(jY ps (if p∈acc then acc else acc++[p])).map pD
  rw[<-vN ps]
  congr 1
  unfold uj
  have e:(L4.keyD (pD p)∈(acc.map pD).map L4.keyD)↔p∈acc:=by
   rw[List.map_map]
   constructor
   ·intro h
    obtain⟨q,hq,e⟩:=List.mem_map.mp h
    exact rD e▸hq
   ·intro h
    exact List.mem_map.mpr ⟨p,h,rfl⟩
  by_cases h:p∈acc
  ·rw[if_pos h,if_pos (e.mpr h)]
  ·rw[if_neg h,if_neg (λz=>h (e.mp z)),List.map_append];rfl
theorem zQ:∀(ps acc:List (Nat×Nat)),acc.Nodup->(jY ps acc).Nodup
 | [],acc,h=>h
 | p::ps,acc,h=>by
  refine zQ ps _ ?_
  show(if p∈acc then acc else acc++[p]).Nodup
  split
  ·exact h
  ·rename_i hp
   rw[List.nodup_append]
   exact⟨h,List.nodup_cons.mpr ⟨(λz=>nomatch z),List.Pairwise.nil⟩,λa ha b hb z=>hp (by rw[<-List.mem_singleton.mp hb,<-z];exact ha)⟩
theorem vM:∀(ps acc:List (Nat×Nat)) (p:Nat×Nat),p∈jY ps acc->p∈acc\/p∈ps
 | [],acc,p,h=>.inl h
 | q::ps,acc,p,h=>by
  rcases vM ps (if q∈acc then acc else acc++[q]) p h with h|h
  ·split at h
   ·exact .inl h
   ·rcases List.mem_append.mp h with h|h
    ·exact .inl h
    ·exact .inr (by rw[List.mem_singleton.mp h];exact List.mem_cons_self)
  ·exact .inr (zzg _ h)
theorem vO:∀(ps acc:List (Nat×Nat)),(jY ps acc).length<=acc.length+ps.length
 | [],acc=>Nat.le_refl _
 | q::ps,acc=>by
  have:=vO ps (if q∈acc then acc else acc++[q])
  rw[List.length_cons]
  show(jY ps (if q∈acc then acc else acc++[q])).length<=_
  split at this
  ·rename_i h;rw[if_pos h];omega
  ·rename_i h
   rw[if_neg h]
   rw[zzf,List.length_singleton]at this
   omega
theorem zR:∀(ps acc:List (Nat×Nat)),(acc++ps).Nodup->jY ps acc=acc++ps
 | [],acc,_=>(List.append_nil _).symm
 | q::ps,acc,h=>by
  have h2:=(List.nodup_append.mp h).2.2
  have hq:q∉acc:=λz=>h2 q z q List.mem_cons_self rfl
  show jY ps (if q∈acc then acc else acc++[q])=_
  rw[if_neg hq,zR ps,List.append_assoc]
  ·rfl
  ·rw[List.append_assoc];exact h
theorem Bx(p:Nat×Nat):gH (pD p)=true:=id rfl
theorem yH{ps:List (Nat×Nat)}(h:ps.Pairwise plt):(ps.map pD).Pairwise λx y=>leK x y=true:=by
 rw[List.pairwise_map]
 exact h.imp λh=>leK_pD.mpr (.inr h)
theorem Dg(ps:List (Nat×Nat))(h:ps.length<64):∃L:List (Nat×Nat),BF [.list (ps.map pD)]=some (L.map pD)/\L.Pairwise plt/\(∀p∈L,p∈ps)/\(ps.Pairwise plt->L=ps)/\L.length<=ps.length:=by
 have e1:BI (ps.map pD)=(jY ps []).map pD:=vN ps []
 obtain⟨L,p1,p2⟩:=lB (f:=pD) (zs:=jY ps []) (l:=cH ((jY ps []).map pD)) (bN _)
 have nd:L.Nodup:=p1.nodup_iff.mpr (zQ ps [] .nil)
 have so:=cG ((jY ps []).map pD)
 rw[p2,List.pairwise_map]at so
 have pw:L.Pairwise plt:=by
  refine(List.Pairwise.and so nd).imp λ{a b} hh=>?_
  rcases leK_pD.mp hh.1 with z|z
  ·exact absurd z hh.2
  ·exact z
 refine⟨L,?_,pw,λp hp=>?_,λhp=>?_,?_⟩
 ·show(if setOk (ps.map pD)=true then some (cH (BI (ps.map pD)))else none)=_
  have:setOk (ps.map pD)=true:=by
   unfold setOk
   rw[Bool.and_eq_true,zzi,zzd,List.all_eq_true]
   exact⟨h,λd hd=>by obtain⟨p,_,rfl⟩:=List.mem_map.mp hd;exact Bx p⟩
  rw[if_pos this,e1,p2]
 ·rcases vM ps [] p (p1.mem_iff.mp hp)with z|z
  ·cases z
  ·exact z
 ·have nd2:ps.Nodup:=hp.imp λh=>tR h
  have e2:jY ps []=ps:=zR ps [] nd2
  rw[e2]at p1
  have:=fc (R:=λx y=>leK x y=true) (a:=L.map pD) (b:=ps.map pD) (λx hx y hy h1 h2=>by
   obtain⟨a,_,rfl⟩:=List.mem_map.mp hx
   obtain⟨b,_,rfl⟩:=List.mem_map.mp hy
   rcases leK_pD.mp h1 with z|z
   ·rw[z]
   ·rcases leK_pD.mp h2 with z2|z2
    ·rw[z2]
    ·exact absurd rfl (tR (Dy z z2))) (p1.map pD) (yH pw) (yH hp)
  exact List.map_inj_right (λ{x y}=>DI) |>.mp this
 ·rw[p1.length_eq]
  have:=vO ps []
  rw[List.length_nil]at this
  omega
theorem xD:∀(a b:List (Nat×Nat)),PyData.eqvAll (a.map pD) (b.map pD)=decide (a=b)
 | [],[]=>rfl
 | [],_::_=>rfl
 | _::_,[]=>rfl
 | p::a,q::b=>by
  show(PyData.eqv (pD p) (pD q)&&PyData.eqvAll (a.map pD) (b.map pD))=_
  rw[xD a b,mh]
  by_cases h:p=q
  ·subst h;simp
  ·simp[h]
end L4
namespace K10
open PySem PySem.Spec PyProof.Rows L2 L3 L4
def Fd(T:Nat)(f:List D):Prop:=∃a b t:Int,f=[.int a,.int b,.int t]/\0<=t/\t<=T
theorem Fd.le{T T':Nat}{f:List D}(h:Fd T f)(hl:T<=T'):Fd T' f:=by
 obtain⟨a,b,t,e,h0,h1⟩:=h
 exact⟨a,b,t,e,h0,by lia⟩
theorem rh{T:Nat}{f:List D}{m:Int}(h:Fd T f)(hT:T<=1000000)(hm:0<m)(hm2:m<1073741824) :
  ∃(r:Int) (f':List D),az f (.int m)=.ret (.int r,f')/\0<=r/\r<m/\Fd (T+1) f':=by
 obtain⟨a,b,t,rfl,h0,h1⟩:=h
 unfold az
 simp only[rK]
 rw[L4.ix3_0,oMS,bdR,L4.gtI,oMS,bdR]
 by_cases ha:0<a
 ·simp only[ha,decide_true,if_true]
  simp only[oMS,bdR,L4.modI _ _ hm,L4.divI _ _ hm hm2,L4.put3_0]
  exact⟨_,_,rfl,Int.emod_nonneg _ (by lia),Int.emod_lt_of_pos _ hm,_,_,_,rfl,h0,by lia⟩
 ·simp only[ha,decide_false]
  rw[if_neg (by decide)]
  simp only[oMS,bdR,L4.ix3_2,L4.ix3_1,L4.put3_2,L4.addI]
  rw[L4.mulL 41 _ (by decide) (by decide),L4.mulL (t+1) (t+1) (by lia) (by lia)]
  simp only[oMS,bdR,L4.addI]
  have tb:(t+1)*(t+1)<=1000001*1000001:=Int.mul_le_mul (by lia) (by lia) (by lia) (by lia)
  have tb0:0<=(t+1)*(t+1):=Int.mul_nonneg (by lia) (by lia)
  rw[L4.mulR _ ((t+1)*(t+1)+69621) (by lia) (by lia)]
  simp only[oMS,bdR]
  rw[L4.modI _ _ (by decide)]
  simp only[oMS,bdR]
  rw[L4.modI _ _ (by decide)]
  simp only[oMS,bdR,L4.addI]
  have g1:=Int.emod_nonneg ((b+41*(t+1)+3)*((t+1)*(t+1)+69621)) (b:=(998244353:Int)) (by decide)
  have g2:=Int.emod_lt_of_pos ((b+41*(t+1)+3)*((t+1)*(t+1)+69621)) (b:=(998244353:Int)) (by decide)
  rw[L4.mulL _ _ (by lia) (by lia)]
  simp only[oMS,bdR,L4.addI]
  rw[L4.modI _ _ (by decide)]
  simp only[oMS,bdR]
  rw[L4.divI _ _ (by decide) (by decide)]
  simp only[oMS,bdR]
  rw[L4.modI _ _ hm]
  exact⟨_,_,rfl,Int.emod_nonneg _ (by lia),Int.emod_lt_of_pos _ hm,_,_,_,rfl,by lia,by lia⟩
theorem bH{T:Nat}{f:List D}{m:Nat}(h:Fd T f)(hT:T<=1000000)(hm:0<m)(hm2:m<=1000000000) :
  ∃(r:Nat) (f':List D),az f (.int (m:Int))=.ret (iN r,f')/\r<m/\Fd (T+1) f':=by
 obtain⟨r,f',e,h1,h2,h3⟩:=rh h hT (m:=(m:Int)) (by lia) (by lia)
 obtain⟨n,rfl⟩:=Int.eq_ofNat_of_zero_le h1
 exact⟨n,f',e,by lia,h3⟩
theorem BE(ns:List Int)(k:Int)(hn:ns.length<=63):∃f,eR (.list (ns.map PyData.int)) (.int k)=.ret f/\Fd 0 f:=by
 unfold eR
 simp only[rK]
 have e1:g9 [.list (ns.map PyData.int)]=some (.int ns.length):=by rw[L4.lenL,zzd]
 have p18:qY (.int 10) (.int 18)=some (.int 1000000000000000000):=id rfl
 have tail:∀c:Int,∃f,(bd (bd (bd (oM (uh [.int c])) λx6=>bd (oM (qY (.int 10) (.int 18))) λx7=>oM (wU x6 x7)) λb8=>if b8 then oM (uh [.int c])else .ret (.int 0)) λx9=>bd (bd (bd (oM (gC (.int c) (.int 1000003))) λx10=>bd (oM (e6 (.int 7919) (.int k))) λx11=>oM (aT x10 x11)) λx12=>.ret [x9,x12,(.int 0)]) λl13=>M.ret l13)=.ret f/\Fd 0 f:=λc=>by
  have a1:uh [.int c]=some (.int (if c<0 then -c else c)):=id rfl
  simp only[a1,p18,oMS,bdR,L4.geI]
  rw[L4.modI _ _ (by decide),L4.mulL _ _ (by decide) (by decide)]
  simp only[oMS,bdR,L4.addI]
  generalize (if c<0 then -c else c)=A
  generalize decide ((1000000000000000000:Int)<=A)=B
  cases B
  ·exact⟨_,rfl,_,_,_,rfl,Int.le_refl _,Int.le_refl _⟩
  ·exact⟨_,rfl,_,_,_,rfl,Int.le_refl _,Int.le_refl _⟩
 simp only[e1,oMS,bdR,L4.gtI]
 by_cases h:0<(ns.length:Int)
 ·simp only[h,decide_true,if_true]
  rw[L4.modI _ _ h,oMS,bdR]
  have m1:=Int.emod_nonneg k (b:=(ns.length:Int)) (by lia)
  have m2:=Int.emod_lt_of_pos k h
  obtain⟨x,hx,e⟩:=Aa (ns.map PyData.int) (k % ns.length) m1 (by rw[zzd];exact m2)
  obtain⟨i,hi,rfl⟩:=List.mem_map.mp hx
  have e2:gf (.list (ns.map PyData.int)) (.int (k % ns.length))=some (.int i):=e
  rw[e2,oMS,bdR]
  exact tail i
 ·simp only[h,decide_false]
  rw[if_neg (by decide),bdR]
  exact tail 0
theorem y3{T:Nat}{f:List D}{m:List D}(hm:0<m.length)(hm2:m.length<100000)(h:Fd T f)(hT:T<=1000000) :
  ∃(x:D) (f':List D),eH f (.list m)=.ret (x,f')/\x∈m/\Fd (T+1) f':=by
 unfold eH
 simp only[rK]
 obtain⟨r,f',t1,t2,t3,t4⟩:=rh h hT (m:=(m.length:Int)) (by lia) (by lia)
 obtain⟨x,hx,e⟩:=Aa m r t2 t3
 have e2:gf (.list m) (.int r)=some x:=e
 rw[L4.lenL,oMS,bdR,t1,bdR]
 simp only[e2,oMS,bdR]
 exact⟨x,f',rfl,hx,t4⟩
def B8(T most sorts:Nat)(m:M (D×List D)):Prop:=∃(r:Rl) (f':List D),m=.ret (r.d,f')/\Wf r/\r.n<=most/\r.st.length=sorts/\r.ms.length<=2000/\Fd (T+7000) f'
theorem AN{R:M (D×List D)->Prop}{T n a sorts often:Nat}{f:List D}{ms:List Mt}{kn22:List D×D×D×D×List D×Unit->M (D×List D)}(hf:Fd T f)(hT:T<=990000)(hn:n<=40)(ha:a<n)(ho:1<=often)(ho2:often<=3)(hA:Ahd n a a ms)
  (k:∀f' ms',Fd (T+4*n) f'->Ahd n (a+1) (a+1) ms'->R (kn22 (f',iN sorts,iN n,iN often,ms'.map mD,()))):R (eG f (iN sorts) (iN n) (iN often) (ms.map mD) (iN a) kn22):=by
 unfold eG
 rw[uU a n (by lia) (by lia),oMS,bdR]
 refine kJ (P:=λi s=>∃f ms,s=(f,iN sorts,iN n,iN often,List.map mD ms,iN a,())/\Fd (T+4*i) f/\Ahd n a (a+i) ms) _ _ ?_ ⟨f,ms,rfl,hf,hA⟩ ?_
 ·rintro i s d hd ⟨f,ms,rfl,hf,hA⟩ kn hkn
  obtain⟨rfl,hi⟩:=yv hd
  unfold gR
  dsimp only
  obtain⟨c,f1,e1,hc,hf1⟩:=bH (m:=n) hf (by lia) (by lia) (by lia)
  obtain⟨e,f2,e2,he,hf2⟩:=bH (m:=n) hf1 (by lia) (by lia) (by lia)
  obtain⟨x,f3,e3,hx,hf3⟩:=y3 (m:=[iN (a+i),iN a,iN e]) (by simp) (by simp) hf2 (by lia)
  obtain⟨x',f4,e4,_,hf4⟩:=bH (m:=often) hf3 (by lia) (by lia) (by lia)
  have hd:∃d,d<n/\x=iN d:=by
   simp only[List.mem_cons,List.mem_nil_iff,or_false]at hx
   rcases hx with rfl|rfl|rfl
   ·exact⟨_,hi,rfl⟩
   ·exact⟨_,ha,rfl⟩
   ·exact⟨_,he,rfl⟩
  obtain⟨d,hd,rfl⟩:=hd
  rw[e1,bdR];dsimp only
  rw[e2,bdR];dsimp only
  rw[e3,bdR];dsimp only
  rw[e4,bdR];dsimp only
  rw[eqI,oMS,bdR]
  have skip:R (kn (f4,iN sorts,iN n,iN often,List.map mD ms,iN a,())):=hkn _ ⟨f4,ms,rfl,hf4.le (by lia),hA.next⟩
  split
  ·rw[rf,show(PyData.tuple [iN c,iN d])=pD (c,d)from rfl,show(PyData.tuple [PyData.tuple [iN a,iN (a+i)],PyData.tuple [iN (a+i),iN a]])=.tuple [pD (a,a+i),pD (a+i,a)]from rfl,vm,oMS,bdR]
   split
   ·rename_i hne
    have hle:=hA.le
    have hlen:(ms.map mD).length<=100000:=by
     rw[zzd]
     have:a*n<=40*40:=Nat.mul_le_mul (by lia) hn
     lia
    rw[j4 _ _ hlen,oMS,bdR]
    have hne':¬ ((a,a+i)=(c,d))/\¬ ((a+i,a)=(c,d)):=by
     simp only[Bool.not_eq_true',Bool.or_eq_false_iff,decide_eq_false_iff_not]at hne
     exact hne
    have:=hkn (f4,iN sorts,iN n,iN often,List.map mD (ms++[(a,a+i,c,d)]),iN a,()) ⟨f4,_,rfl,hf4.le (by lia),hA.add ⟨by simp,hi,hc,hd,λz=>hne'.1 z.symm,λz=>hne'.2 z.symm⟩⟩
    rw[List.map_append]at this
    exact this
   ·exact skip
  ·exact skip
 ·rintro s ⟨f,ms,rfl,hf,hA⟩
  rw[zzd,iq]at hf hA
  unfold gS
  exact k f ms (hf.le (by lia)) (hA.row (by lia))
theorem AM{T:Nat}{f:List D}{most sorts:Nat}(h:Fd T f)(hT:T<=900000)(hm:1<=most)(hm2:most<=40)(hs:1<=sorts)(hs2:sorts<=4):B8 T most sorts (dE f (iN most) (iN sorts)):=by
 unfold dE
 obtain⟨n0,f1,e1,h1,hf1⟩:=bH (m:=most) h (by lia) (by lia) (by lia)
 obtain⟨o0,f2,e2,h2,hf2⟩:=bH (m:=3) hf1 (by lia) (by lia) (by lia)
 have e2':az f1 (.int 3)=.ret (iN o0,f2):=e2
 rw[e1,bdR];dsimp only
 rw[Al,oMS,bdR,e2',bdR];dsimp only
 rw[Al,oMS,bdR,eL _ (by lia),oMS,bdR]
 generalize hn:n0+1=n
 have hn40:n<=40:=by lia
 have hb:∀j,j<=n->4*n*j<=6400:=λj hj=>by
  have:n*j<=40*40:=Nat.mul_le_mul hn40 (by lia)
  have e:4*n*j=4*(n*j):=Nat.mul_assoc _ _ _
  lia
 refine kJ (P:=λj s=>∃f ms,s=(f,iN sorts,iN n,iN (o0+1),List.map mD ms,())/\Fd (T+2+4*n*j) f/\Ahd n j j ms) _ _ ?_ ⟨f2,[],rfl,hf2.le (by lia),⟨λ_ h=>(nomatch h),.nil,λ_ h=>(nomatch h),Nat.zero_le _⟩⟩ ?_
 ·rintro j s d hd ⟨f,ms,rfl,hf,hA⟩ kn hkn
  obtain⟨rfl,hj⟩:=fm hd
  dsimp only
  refine AN hf (by have:=hb j (by lia);lia) hn40 hj (by lia) (by lia) hA λf' ms' hf' hA'=>hkn _ ⟨f',ms',rfl,hf'.le ?_,hA'⟩
  rw[Nat.mul_succ];lia
 ·rintro s ⟨f,ms,rfl,hf,hA⟩
  rw[zzd,List.length_range]at hf hA
  dsimp only
  unfold gT
  have hfb:=hb n (Nat.le_refl _)
  rw[eL sorts (by lia),oMS,bdR]
  obtain⟨st,s1,c1,⟨f1,hs1,hf1⟩,l1,r1⟩:=gL (P:=λj (s:List D×D×D×List D×Unit)=>∃f,s=(f,iN sorts,iN n,List.map mD ms,())/\Fd (T+6402+j) f) (e:=iN) (R:=λx=>x<n)
   (step:=λs7 d8=>bd (az s7.1 s7.2.2.1) λr9=>.ret (some r9.1,(r9.2,s7.2.1,s7.2.2.1,s7.2.2.2.1,()))) ((List.range sorts).map iN) (f,iN sorts,iN n,List.map mD ms,())
   (by
    rintro j s d hd ⟨f,rfl,hf⟩
    obtain⟨rfl,hj⟩:=fm hd
    obtain⟨x,f',e,hx,hf'⟩:=bH (m:=n) hf (by lia) (by lia) (by lia)
    dsimp only
    rw[e,bdR]
    exact⟨x,_,rfl,⟨f',rfl,hf'⟩,hx⟩) ⟨f,rfl,hf.le (by lia)⟩
  subst hs1
  rw[zzd,List.length_range]at hf1 l1
  rw[c1,bdR];dsimp only
  rw[cb (by rw[zzd];lia),bdR,mP,oMS,bdR,mP,oMS,bdR,eL n (by lia),oMS,bdR]
  obtain⟨sy,s2,c2,⟨f2,hs2,hf2⟩,l2,_⟩:=gL (P:=λj (s:List D×D×Unit)=>∃f,s=(f,iN n,())/\Fd (T+6402+sorts+j) f) (e:=PyData.bool) (R:=λ_=>True)
   (step:=λs15 d16=>bd (az s15.1 (.int 2)) λr17=>bd (oM (gg r17.1 (.int 0))) λb18=>.ret (some (.bool b18),(r17.2,s15.2.1,()))) ((List.range n).map iN) (f1,iN n,())
   (by
    rintro j s d hd ⟨f,rfl,hf⟩
    obtain⟨rfl,hj⟩:=fm hd
    obtain⟨x,f',e,hx,hf'⟩:=bH (m:=2) hf (by lia) (by lia) (by lia)
    have e':az f (.int 2)=.ret (iN x,f'):=e
    dsimp only
    rw[e',bdR];dsimp only
    rw[eqI,oMS,bdR]
    exact⟨_,_,rfl,⟨f',rfl,hf'⟩,trivial⟩) ⟨f1,rfl,hf1⟩
  subst hs2
  rw[zzd,List.length_range]at hf2 l2
  rw[c2,bdR];dsimp only
  rw[cb (by rw[zzd];lia),bdR,mP,oMS,bdR]
  exact⟨⟨n,st,ms,sy⟩,f2,rfl,⟨(show 1<=n by lia),r1,l2,hA.ok,hA.so⟩,(show n<=most by lia),l1,(show ms.length<=2000 by
   have:=hA.le
   have:n*n<=40*40:=Nat.mul_le_mul hn40 hn40
   lia),hf2.le (by lia)⟩
theorem E0(a b:Nat):cH [iN a,iN b]=[iN (min a b),iN (max a b)]:=by
 have key:∀x y:Nat,leK (iN x) (iN y)=decide (x<=y):=λx y=>by
  show(!HT.lexLt [(y:Int)] [(x:Int)])=_
  rw[HT.lexLt_cons]
  by_cases h:(y:Int)=x
  ·rw[if_pos h,HT.lexLt_nil_nil,decide_eq_true (by omega)];rfl
  ·rw[if_neg h]
   by_cases h2:(y:Int)<x
   ·rw[decide_eq_true h2,decide_eq_false (by omega)];rfl
   ·rw[decide_eq_false h2,decide_eq_true (by omega)];rfl
 have pm:([iN (min a b),iN (max a b)]:List D).Perm [iN a,iN b]:=by
  by_cases h:a<=b
  ·rw[Nat.min_eq_left h,Nat.max_eq_right h]
  ·rw[Nat.min_eq_right (by omega),Nat.max_eq_left (by omega)];exact .swap _ _ _
 refine fc (R:=λx y=>leK x y=true) (λx hx y hy h1 h2=>?_) ((bN _).trans pm.symm) (cG _) ?_
 ·have w:∀z∈([iN (min a b),iN (max a b)]:List D),∃n:Nat,z=iN n:=λz hz=>by
   rcases List.mem_cons.mp hz with rfl|hz
   ·exact⟨_,rfl⟩
   ·exact⟨_,List.mem_singleton.mp hz⟩
  obtain⟨n,rfl⟩:=w x hx
  obtain⟨k,rfl⟩:=w y hy
  rw[key,zzi]at h1 h2
  rw[Nat.le_antisymm h1 h2]
 ·rw[List.pairwise_cons,List.pairwise_cons]
  refine⟨λz hz=>?_,(λz hz=>nomatch hz),.nil⟩
  rw[List.mem_singleton.mp hz,key,zzi]
  omega
theorem HF(a b:Nat):iG [.list [iN a,iN b]]=some [iN (min a b),iN (max a b)]:=by
 rw[<-E0];rfl
structure Ru(r:Rl):Prop where
 w:Wf r
 n:r.n<=40
 s1:1<=r.st.length
 s4:r.st.length<=4
def H9(T:Nat)(m:M (D×List D)):Prop:=∃(r:Rl) (f':List D),m=.ret (r.d,f')/\Ru r/\r.ms.length<=5/\Fd (T+200) f'
theorem xB{T n sorts:Nat}{f:List D}{ms:List Mt}(hf:Fd T f)(hT:T<=990000)(hn:1<=n)(hn2:n<=40)(hs:1<=sorts)(hs2:sorts<=4)(hm:∀m∈ms,MtOk n m)(so:ms.Pairwise λm m'=>plt (m.1,m.2.1) (m'.1,m'.2.1))(hl:ms.length<=5) :
  ∃(r:Rl) (f':List D),dH f (iN sorts) (iN n) (ms.map mD)=.ret (r.d,f')/\Ru r/\r.ms.length<=5/\Fd (T+50) f':=by
 unfold dH
 rw[eL n (by omega),oMS,bdR]
 obtain⟨sy,s2,c2,⟨f2,hs2',hf2⟩,l2,_⟩:=gL (P:=λj (s:List D×D×D×List D×Unit)=>∃f,s=(f,iN sorts,iN n,ms.map mD,())/\Fd (T+j) f) (e:=PyData.bool) (R:=λ_=>True)
  (step:=λs16 d17=>bd (az s16.1 (.int 2)) λr18=>bd (oM (gg r18.1 (.int 0))) λb19=>.ret (some (.bool b19),(r18.2,s16.2.1,s16.2.2.1,s16.2.2.2.1,()))) ((List.range n).map iN) (f,iN sorts,iN n,ms.map mD,())
  (by
   rintro j s d hd ⟨f,rfl,hf⟩
   obtain⟨rfl,hj⟩:=fm hd
   obtain⟨x,f',e,hx,hf'⟩:=bH (m:=2) hf (by omega) (by omega) (by omega)
   have e':az f (.int 2)=.ret (iN x,f'):=e
   dsimp only
   rw[e',bdR];dsimp only
   rw[eqI,oMS,bdR]
   exact⟨_,_,rfl,⟨f',rfl,hf'⟩,trivial⟩) ⟨f,rfl,hf⟩
 subst hs2'
 rw[zzd,List.length_range]at hf2 l2
 rw[c2,bdR];dsimp only
 rw[cb (by rw[zzd];omega),bdR,mP,oMS,bdR,eL sorts (by omega),oMS,bdR]
 obtain⟨st,s3,c3,⟨f3,hs3,hf3⟩,l3,r3⟩:=gL (P:=λj (s:List D×D×D×List D×D×Unit)=>∃f,s=(f,iN sorts,iN n,ms.map mD,.tuple (sy.map PyData.bool),())/\Fd (T+n+j) f) (e:=iN) (R:=λx=>x<n)
  (step:=λs24 d25=>bd (az s24.1 s24.2.2.1) λr26=>.ret (some r26.1,(r26.2,s24.2.1,s24.2.2.1,s24.2.2.2.1,s24.2.2.2.2.1,()))) ((List.range sorts).map iN) (f2,iN sorts,iN n,ms.map mD,.tuple (sy.map PyData.bool),())
  (by
   rintro j s d hd ⟨f,rfl,hf⟩
   obtain⟨rfl,hj⟩:=fm hd
   obtain⟨x,f',e,hx,hf'⟩:=bH (m:=n) hf (by omega) (by omega) (by omega)
   dsimp only
   rw[e,bdR]
   exact⟨x,_,rfl,⟨f',rfl,hf'⟩,hx⟩) ⟨f2,rfl,hf2⟩
 subst hs3
 rw[zzd,List.length_range]at hf3 l3
 rw[c3,bdR];dsimp only
 rw[cb (by rw[zzd];omega),bdR,mP,oMS,bdR,mP,oMS,bdR]
 exact⟨⟨n,st,ms,sy⟩,f3,rfl,⟨⟨hn,r3,l2,hm,so⟩,hn2,show 1<=st.length by omega,show st.length<=4 by omega⟩,hl,hf3.le (by omega)⟩
theorem ET{S:Type}(p:Nat×Nat)(k:D->D->M S):un2 (pD p) k=k (iN p.1) (iN p.2):=rfl
theorem zI{T sorts:Nat}{f:List D}(hf:Fd T f)(hT:T<=900000)(hs:1<=sorts)(hs2:sorts<=4):H9 T (dQ f (iN sorts)):=by
 unfold dQ
 obtain⟨x,f1,e1,hx,hf1⟩:=y3 (m:=[.int 40,.int 39,.int 7,.int 12]) (by simp) (by simp) hf (by omega)
 obtain⟨n,rfl,hn,hn2⟩:∃n:Nat,x=iN n/\1<=n/\n<=40:=by
  simp only[List.mem_cons,List.not_mem_nil,or_false]at hx
  rcases hx with rfl|rfl|rfl|rfl
  ·exact⟨40,rfl,by omega,by omega⟩
  ·exact⟨39,rfl,by omega,by omega⟩
  ·exact⟨7,rfl,by omega,by omega⟩
  ·exact⟨12,rfl,by omega,by omega⟩
 obtain⟨k,f2,e2,hk,hf2⟩:=bH (m:=6) hf1 (by omega) (by omega) (by omega)
 have e2':az f1 (.int 6)=.ret (iN k,f2):=e2
 rw[e1,bdR];dsimp only
 rw[e2',bdR];dsimp only
 rw[eL k (by omega),oMS,bdR]
 obtain⟨ps,s3,c3,⟨f3,hs3,hf3⟩,l3,r3⟩:=gL (P:=λj (s:List D×D×D×Unit)=>∃f,s=(f,iN sorts,iN n,())/\Fd (T+2+2*j) f) (e:=pD) (R:=λp=>p.1<=p.2/\p.2<n)
  (step:=λs4 d5=>bd (az s4.1 s4.2.2.1) λr6=>bd (az r6.2 s4.2.2.1) λr7=>bd (oM (iG [(.list [r6.1,r7.1])])) λx8=>bd (oM (cB [(PyData.list x8)])) λx9=>.ret (some x9,(r7.2,s4.2.1,s4.2.2.1,()))) ((List.range k).map iN) (f2,iN sorts,iN n,())
  (by
   rintro j s d hd ⟨f,rfl,hf⟩
   obtain⟨rfl,hj⟩:=fm hd
   obtain⟨a,f',e,ha,hf'⟩:=bH (m:=n) hf (by omega) (by omega) (by omega)
   obtain⟨b,f'',e'',hb,hf''⟩:=bH (m:=n) hf' (by omega) (by omega) (by omega)
   dsimp only
   rw[e,bdR];dsimp only
   rw[e'',bdR];dsimp only
   rw[HF,oMS,bdR,mP,oMS,bdR]
   exact⟨(min a b,max a b),_,rfl,⟨f'',rfl,hf''.le (by omega)⟩,by show min a b<=max a b;omega,by show max a b<n;omega⟩) ⟨f2,rfl,hf2.le (by omega)⟩
 subst hs3
 rw[zzd,List.length_range]at hf3 l3
 obtain⟨L,g1,g2,g3,_,g5⟩:=Dg ps (by omega)
 rw[c3,bdR];dsimp only
 rw[cb (by rw[zzd];omega),bdR,g1,oMS,bdR,bdR,show eK (.list (L.map pD))=some (L.map pD)from rfl,oMS,bdR]
 refine kJ (P:=λi (s:List D×D×D×List D×Unit)=>∃(f:List D) (ms:List Mt),s=(f,iN sorts,iN n,List.map mD ms,())/\Fd (T+20+2*i) f/\(∀m∈ms,MtOk n m)/\(ms.Pairwise λ(m m':Mt)=>plt (m.1,m.2.1) (m'.1,m'.2.1))/\(∀m∈ms,(m.1,m.2.1)∈L.take i)/\ms.length<=i) _ _ ?_ ⟨f3,[],rfl,hf3.le (by omega),(λ_ h=>nomatch h),List.Pairwise.nil,(λ_ h=>nomatch h),Nat.le_refl _⟩ ?_
 ·rintro i s d hd ⟨f,ms,rfl,hf,i1,i2,i3,i4⟩ kn hkn
  rw[List.getElem?_map]at hd
  obtain⟨p,hp,rfl⟩:=Option.map_eq_some_iff.mp hd
  have hpL:=List.mem_of_getElem? hp
  obtain⟨hab,hbn⟩:=r3 p (g3 p hpL)
  have hiL:i<L.length:=(List.getElem?_eq_some_iff.mp hp).1
  have up:∀q∈L.take i,plt q p:=λq hq=>by
   obtain⟨j,hj,ej⟩:=List.mem_take_iff_getElem.mp hq
   have:=List.pairwise_iff_getElem.mp g2 j i (by omega) hiL (by omega)
   rw[ej]at this
   obtain⟨hi',ei⟩:=List.getElem?_eq_some_iff.mp hp
   rw[ei]at this
   exact this
  have tk:∀q∈L.take i,q∈L.take (i+1):=λq hq=>by
   obtain⟨j,hj,ej⟩:=List.mem_take_iff_getElem.mp hq
   exact List.mem_take_iff_getElem.mpr ⟨j,by omega,ej⟩
  unfold fZ
  obtain⟨c,f4,e4,hc,hf4⟩:=bH (m:=n) hf (by omega) (by omega) (by omega)
  obtain⟨e,f5,e5,he,hf5⟩:=bH (m:=n) hf4 (by omega) (by omega) (by omega)
  dsimp only
  rw[ET,e4,bdR];dsimp only
  rw[e5,bdR];dsimp only
  rw[rf,show(PyData.tuple [iN c,iN e])=pD (c,e)from rfl,show(PyData.tuple [PyData.tuple [iN p.1,iN p.2],PyData.tuple [iN p.2,iN p.1]])=.tuple [pD (p.1,p.2),pD (p.2,p.1)]from rfl,vm,oMS,bdR]
  split
  ·rename_i hne
   have hne':¬ ((p.1,p.2)=(c,e))/\¬ ((p.2,p.1)=(c,e)):=by
    simp only[Bool.not_eq_true',Bool.or_eq_false_iff,decide_eq_false_iff_not]at hne
    exact hne
   rw[j4 _ _ (by rw[zzd];omega),oMS,bdR]
   have:=hkn (f5,iN sorts,iN n,List.map mD (ms++[(p.1,p.2,c,e)]),()) ⟨f5,_,rfl,hf5.le (by omega),λm hm=>?_,?_,λm hm=>?_,by rw[zzf,List.length_singleton];omega⟩
   ·rw[List.map_append]at this
    exact this
   ·rcases List.mem_append.mp hm with hm|hm
    ·exact i1 m hm
    ·rw[List.mem_singleton.mp hm]
     exact⟨hab,hbn,hc,he,λz=>hne'.1 z.symm,λz=>hne'.2 z.symm⟩
   ·rw[List.pairwise_append]
    refine⟨i2,List.pairwise_cons.mpr ⟨(λ_ h=>nomatch h),.nil⟩,λm hm m' hm'=>?_⟩
    rw[List.mem_singleton.mp hm']
    exact up _ (i3 m hm)
   ·rcases List.mem_append.mp hm with hm|hm
    ·exact tk _ (i3 m hm)
    ·rw[List.mem_singleton.mp hm]
     obtain⟨hi',ei⟩:=List.getElem?_eq_some_iff.mp hp
     exact List.mem_take_iff_getElem.mpr ⟨i,by omega,ei⟩
  ·exact hkn _ ⟨f5,ms,rfl,hf5.le (by omega),i1,i2,λm hm=>tk _ (i3 m hm),by omega⟩
 ·rintro s ⟨f,ms,rfl,hf,i1,i2,i3,i4⟩
  rw[zzd]at hf i4
  dsimp only
  obtain⟨r,f',e,h1,h2,h3⟩:=xB hf (by omega) hn hn2 hs hs2 i1 i2 (by omega)
  exact⟨r,f',e,h1,h2,h3.le (by omega)⟩
abbrev sg(c:Nat):Str:=⟨#[c]⟩
def jl(c:Nat):List (List Nat)->List Nat
 | []=>[]
 | [a]=>a
 | a::b::r=>a++c::jl c (b::r)
theorem join_list(c:Nat):∀ws:List Str,(Str.join (sg c) ws).cps.toList=jl c (ws.map λw=>w.cps.toList)
 | []=>rfl
 | [a]=>rfl
 | a::b::r=>by
  have ih:=join_list c (b::r)
  rw[show Str.join (sg c) (a::b::r)=a++sg c++Str.join (sg c) (b::r)from rfl]
  show((a.cps ++ #[c])++(Str.join (sg c) (b::r)).cps).toList=_
  rw[Array.toList_append,Array.toList_append,ih]
  show a.cps.toList++[c]++_=_
  rw[List.append_assoc]
  rfl
theorem zU(c:Nat):∀l:List Nat,PyProof.Rows.cnt c l=(l.count c:Int)
 | []=>rfl
 | a::l=>by
  have ih:=zU c l
  unfold PyProof.Rows.cnt at ih ⊢
  rw[List.map_cons,List.count_cons]
  have e:Spec.countIn (PyData.str ⟨#[c]⟩) (PyData.str ⟨#[a]⟩::l.map λn=>PyData.str ⟨#[n]⟩)=(if Spec.same (.str ⟨#[a]⟩) (.str ⟨#[c]⟩)then 1 else 0)+Spec.countIn (PyData.str ⟨#[c]⟩) (l.map λn=>PyData.str ⟨#[n]⟩):=by
   simp[Spec.countIn]
  rw[e,ih]
  have:Spec.same (.str ⟨#[a]⟩) (.str ⟨#[c]⟩)=(a==c):=by
   by_cases h:a=c
   ·subst h;simp[Spec.same]
   ·have:({ cps:=#[a] }:Str)≠{ cps:=#[c] }:=by simp[h]
    simp only[Spec.same]
    rw[beq_eq_false_iff_ne.mpr this,beq_eq_false_iff_ne.mpr h]
  rw[this]
  by_cases h:a=c
  ·simp[h];lia
  ·simp[h]
theorem zT{c:Nat}:∀{a a' x x':List Nat},c∉a->c∉a'->a++c::x=a'++c::x'->a=a'/\x=x'
 | [],[],_,_,_,_,h=>⟨rfl,by simpa using h⟩
 | [],b::a',_,_,_,h2,h=>by
  have:c=b:=by simpa using(List.cons.inj h).1
  exact absurd (this▸List.mem_cons_self) h2
 | b::a,[],_,_,h1,_,h=>by
  have:b=c:=by simpa using(List.cons.inj h).1
  exact absurd (this▸List.mem_cons_self) h1
 | b::a,b'::a',_,_,h1,h2,h=>by
  obtain⟨e1,e2⟩:=List.cons.inj h
  obtain⟨r1,r2⟩:=zT (a:=a) (a':=a') (λz=>h1 (zzg _ z)) (λz=>h2 (zzg _ z)) e2
  exact⟨by rw[e1,r1],r2⟩
theorem zy{c:Nat}(a b:List Nat)(r:List (List Nat)):c∈jl c (a::b::r):=by
 show c∈a++c::jl c (b::r)
 simp
theorem zA{c:Nat}:∀{L L':List (List Nat)},L≠[]->L'≠[]->(∀a∈L,c∉a)->(∀a∈L',c∉a)->jl c L=jl c L'->L=L'
 | [a],[a'],_,_,_,_,h=>by rw[show a=a' from h]
 | [a],a'::b'::r',_,_,h1,_,h=>absurd (show c∈a by rw[show a=_ from h];exact zy a' b' r') (h1 a List.mem_cons_self)
 | a::b::r,[a'],_,_,_,h2,h=>absurd (show c∈a' by rw[show a'=_ from h.symm];exact zy a b r) (h2 a' List.mem_cons_self)
 | a::b::r,a'::b'::r',_,_,h1,h2,h=>by
  obtain⟨e1,e2⟩:=zT (h1 a List.mem_cons_self) (h2 a' List.mem_cons_self) h
  have:=zA (L:=b::r) (L':=b'::r') (by simp) (by simp) (λx hx=>h1 x (zzg _ hx)) (λx hx=>h2 x (zzg _ hx)) e2
  rw[e1,this]
theorem lR(c:Nat):∀L:List (List Nat),L≠[]->(jl c L).count c+1=(L.map λa=>a.count c).sum+L.length
 | [],h=>absurd rfl h
 | [a],_=>by simp[jl]
 | a::b::r,_=>by
  have ih:=lR c (b::r) (by simp)
  show(a++c::jl c (b::r)).count c+1=_
  rw[List.count_append,List.count_cons_self]
  simp only[List.map_cons,List.sum_cons,List.length_cons]at ih ⊢
  lia
theorem qE:∀{l:List Nat},l.sum=0->∀x∈l,x=0
 | a::l,h,x,hx=>by
  rw[List.sum_cons]at h
  rcases List.mem_cons.mp hx with rfl|hx
  ·lia
  ·exact qE (by lia) x hx
theorem tH{c:Nat}{ws:List Str}(hne:ws≠[])(h:∀w∈ws,c∉w.cps.toList):Txt.split (Str.join (sg c) ws) (sg c)=ws:=by
 have e1:=StrLaws.join_split (Str.join (sg c) ws) (sg c)
 have e2:=split_len (Str.join (sg c) ws) c
 generalize hL:Txt.split (Str.join (sg c) ws) (sg c)=L at e1 e2
 rw[zU]at e2
 have j1:=congrArg (λs:Str=>s.cps.toList) e1
 simp only[join_list]at j1
 rw[join_list]at e2
 have w0:((ws.map λw=>w.cps.toList).map λa=>a.count c).sum=0:=by
  have:∀l:List Str,(∀w∈l,c∉w.cps.toList)->((l.map λw=>w.cps.toList).map λa=>a.count c).sum=0:=by
   intro l
   induction l with
   | nil=>intro _;rfl
   | cons a l ih =>
    intro h
    rw[List.map_cons,List.map_cons,List.sum_cons,ih λw hw=>h w (zzg _ hw),List.count_eq_zero_of_not_mem (h a List.mem_cons_self)]
  exact this ws h
 have c1:=lR c (ws.map λw=>w.cps.toList) (by simpa using hne)
 have Lne:L≠[]:=by
  rintro rfl
  simp at e2
  lia
 have c2:=lR c (L.map λw=>w.cps.toList) (by simpa using Lne)
 rw[j1]at c2
 rw[w0]at c1
 simp only[zzd]at c1 c2
 have z:((L.map λw=>w.cps.toList).map λa=>a.count c).sum=0:=by lia
 have noL:∀a∈L.map λw=>w.cps.toList,c∉a:=λa ha=>by
  have:=qE z (a.count c) (List.mem_map.mpr ⟨a,ha,rfl⟩)
  exact List.count_eq_zero.mp this
 have:=zA (L:=L.map λw=>w.cps.toList) (L':=ws.map λw=>w.cps.toList) (by simpa using Lne) (by simpa using hne) noL (λa ha=>by
  obtain⟨w,hw,rfl⟩:=List.mem_map.mp ha
  exact h w hw) j1
 have inj:∀{l l':List Str},l.map (λw=>w.cps.toList)=l'.map (λw=>w.cps.toList)->l=l':=by
  intro l
  induction l with
  | nil=>intro l' h;cases l' with
   | nil=>rfl
   | cons _ _=>cases h
  | cons a l ih =>
   intro l' h
   cases l' with
   | nil=>cases h
   | cons b l' =>
    obtain⟨h1,h2⟩:=List.cons.inj h
    have:a=b:=by
     obtain⟨⟨a⟩⟩:=a;obtain⟨⟨b⟩⟩:=b
     have:a=b:=h1
     rw[this]
    rw[this,ih h2]
 exact inj this
theorem EL{c:Nat}:∀(Ls:List (List Str)),(∀L∈Ls,L≠[])->Str.join (sg c) (Ls.map (Str.join (sg c)))=Str.join (sg c) Ls.flatten:=by
 have ext:∀{a b:Str},a.cps.toList=b.cps.toList->a=b:=by
  intro a b h
  obtain⟨⟨a⟩⟩:=a;obtain⟨⟨b⟩⟩:=b
  have:a=b:=h
  rw[this]
 have app:∀(L M:List (List Nat)),L≠[]->M≠[]->jl c (L++M)=jl c L++c::jl c M:=by
  intro L
  induction L with
  | nil=>intro M h;exact absurd rfl h
  | cons a L ih =>
   intro M _ hM
   cases L with
   | nil =>
    cases M with
    | nil=>exact absurd rfl hM
    | cons b M=>rfl
   | cons b L =>
    have:=ih M (by simp) hM
    show a++c::jl c (b::(L++M))=(a++c::jl c (b::L))++c::jl c M
    rw[show b::(L++M)=(b::L)++M from rfl,this,List.append_assoc]
    rfl
 intro Ls
 induction Ls with
 | nil=>intro _;rfl
 | cons L Ls ih =>
  intro h
  have hL:=h L List.mem_cons_self
  have ih:=ih λM hM=>h M (zzg _ hM)
  apply ext
  have ih':=congrArg (λs:Str=>s.cps.toList) ih
  simp only[join_list,List.map_map]at ih' ⊢
  cases Ls with
  | nil=>simp[jl,join_list]
  | cons M Ls =>
   have hM:=h M (by simp)
   rw[List.flatten_cons,List.map_append,app _ _ (by simpa using hL) (by
    rw[List.flatten_cons]
    simp[hM]),List.map_cons]
   show(Str.join (sg c) L).cps.toList++c::jl c (List.map ((λw:Str=>w.cps.toList)∘Str.join (sg c)) (M::Ls))=_
   rw[ih',join_list]
theorem Cj:(Str.ofString " ")=sg 32:=by decide +kernel
def cA(n:Nat):Str:=toString (n:Int)
def Ga(n:Nat):Bool:=(cA n).cps.toList.all (λc=>decide (48<=c)&&decide (c<58))&&decide ((cA n).length<=2)&&decide ((n:Int).natAbs.log2<1920)&&match eQ (.str (cA n))with
 | .ret (.int i)=>decide (i=(n:Int))
 | _=>false
theorem Bi:∀n,n<41->Ga n=true:=by decide +kernel
theorem kG{n:Nat}(h:n<=40):(∀c∈(cA n).cps.toList,48<=c/\c<58)/\(cA n).length<=2/\pX [iN n]=some (.str (cA n))/\eQ (.str (cA n))=.ret (iN n):=by
 have:=Bi n (by lia)
 unfold Ga at this
 rw[Bool.and_eq_true,Bool.and_eq_true,Bool.and_eq_true,List.all_eq_true]at this
 obtain⟨⟨⟨h1,h2⟩,h3⟩,h4⟩:=this
 refine⟨λc hc=>?_,of_decide_eq_true h2,?_,?_⟩
 ·have:=h1 c hc
  simpa using this
 ·show(if(n:Int).natAbs.log2<1920 then some (PyData.str (toString (n:Int)))else none)=_
  rw[if_pos (of_decide_eq_true h3)]
  rfl
 ·split at h4
  ·rename_i i e
   rw[e,of_decide_eq_true h4]
  ·cases h4
theorem kW:∀xs:List Str,strsOf (xs.map PyData.str)=some xs
 | []=>rfl
 | x::xs=>by rw[List.map_cons,strsOf,kW xs];rfl
theorem Bu{c:Nat}{s:Str}(hs:s=sg c){ws:List Str}(h:∀w∈ws,w.length<=1000)(hl:ws.length<=100):h8 (.str s) [.list (ws.map PyData.str)]=some (.str (Str.join (sg c) ws)):=by
 subst hs
 show(match strsOf (ws.map PyData.str)with
  | some xs=>if JoinOk (sg c) xs then some (PyData.str (Txt.join (sg c) xs))else none
  | none=>none)=_
 rw[kW]
 dsimp only
 rw[if_pos ?_]
 ·unfold Txt.join
  rw[StrLaws.glued_eq_join]
 ·unfold JoinOk
  rw[Bool.not_eq_true']
  refine StrLaws.joinFits (B:=1000) h ?_
  have:(sg c).length=1:=rfl
  rw[this]
  lia
theorem Bn(x:Str):x.cps.toList.length=x.length:=Array.length_toList
theorem rH{c:Nat}{B:Nat}:∀{ws:List Str},(∀w∈ws,w.length<=B)->(Str.join (sg c) ws).length<=ws.length*(B+1)
 | [],_=>by rw[<-Bn];exact Nat.zero_le _
 | [a],h=>by
  have:=h a List.mem_cons_self
  show a.length<=_
  simp;lia
 | a::b::r,h=>by
  have ih:=rH (c:=c) (ws:=b::r) λw hw=>h w (zzg _ hw)
  have ha:=h a List.mem_cons_self
  rw[show Str.join (sg c) (a::b::r)=a++sg c++Str.join (sg c) (b::r)from rfl]
  have e:(a++sg c++Str.join (sg c) (b::r)).length=a.length+1+(Str.join (sg c) (b::r)).length:=by
   show((a.cps ++ #[c])++(Str.join (sg c) (b::r)).cps).size=_
   rw[Array.size_append,Array.size_append]
   rfl
  rw[e,List.length_cons,Nat.succ_mul]
  lia
theorem Gm{c e:Nat}(hce:e≠c):∀{L:List (List Nat)},(∀a∈L,c∉a)->c∉jl e L
 | [],_=>by simp[jl]
 | [a],h=>h a List.mem_cons_self
 | a::b::r,h=>by
  show c∉a++e::jl e (b::r)
  have:=Gm hce (L:=b::r) λx hx=>h x (zzg _ hx)
  have ha:=h a List.mem_cons_self
  simp only[List.mem_append,List.mem_cons,not_or]
  exact⟨ha,λz=>hce z.symm,this⟩
theorem ya{c:Nat}{y:Str}(hy:y=sg c){ws:List Str}(hne:ws≠[])(h:∀w∈ws,c∉w.cps.toList)(hl:(Str.join (sg c) ws).length<=5000):onT .str (.str (Str.join (sg c) ws)) (oM (pY (.str (Str.join (sg c) ws)) [.str y]))=.ret (ws.map PyData.str):=by
 subst hy
 have sj:=tH hne h
 generalize Str.join (sg c) ws=x at hl sj
 show oM (if kF x (sg c)=true then some ((Txt.split x (sg c)).map PyData.str)else none)=_
 have sz:(10000:Nat)<=sizeLine:=by decide
 have hp:(Builtin.Str.partsBetween x (Builtin.Str.occurrences x (sg c) 0 x.length (x.length+1)) (sg c).length).length<=sizeLine:=by
  rw[length_partsBetween]
  have:=StrLaws.occ_length_le x (sg c) 0 x.length (x.length+1)
  lia
 have hw:(Txt.split x (sg c)).length<=sizeLine:=by
  have:=(fact_split x (sg c)).2
  lia
 rw[if_pos (by
  unfold kF
  rw[decide_eq_true hp,decide_eq_true hw,decide_eq_true (show x.length<=sizeLine by lia)]
  rfl),sj]
 rfl
def yn(b:Bool):Str:=if b then "yes" else "no"
def rw0(r:Rl):List Str:=["rooms",cA r.n]
def rw1(r:Rl):List Str := "starts" :: r.st.map cA
def rw2(r:Rl):List Str := "says" :: r.sy.map yn
def rwM(m:Mt):List Str:=["meet",cA m.1,cA m.2.1,cA m.2.2.1,cA m.2.2.2]
def d3(r:Rl):List (List Str):=rw0 r::rw1 r::rw2 r::r.ms.map rwM
abbrev tx(ws:List Str):Str:=Str.join (sg 32) ws
def aN(r:Rl):List D:=(d3 r).map λws=>.str (tx ws)
structure Wd(w:Str):Prop where
 no:32∉w.cps.toList
 le:w.length<=6
 as:∀c∈w.cps.toList,c<127
theorem gj{w:Str}(h:((w.cps.toList.all λc=>decide (c≠32)&&decide (c<127))&&decide (w.length<=6))=true):Wd w:=by
 rw[Bool.and_eq_true,List.all_eq_true]at h
 refine⟨λz=>?_,of_decide_eq_true h.2,λc hc=>?_⟩
 ·have:=h.1 _ z
  simp at this
 ·have:=h.1 _ hc
  simp at this
  exact this.2
theorem eU{n:Nat}(h:n<=40):Wd (cA n):=by
 obtain⟨h1,h2,_⟩:=kG h
 exact⟨λz=>by have:=h1 _ z;lia,by lia,λc hc=>by have:=h1 c hc;lia⟩
theorem Cd(b:Bool):Wd (yn b):=by cases b<;>exact gj (by decide +kernel)
structure Rs(r:Rl):Prop where
 w:Wf r
 n:r.n<=40
 s1:1<=r.st.length
 s4:r.st.length<=4
 m:r.ms.length<=60
theorem Rs.words{r:Rl}(h:Rs r):∀ws∈d3 r,(∀w∈ws,Wd w)/\ws≠[]/\ws.length<=41:=by
 have n1:=h.w.n1
 have hn:=h.n
 intro ws hw
 simp only[d3,List.mem_cons,List.mem_map]at hw
 rcases hw with rfl|rfl|rfl|⟨m,hm,rfl⟩
 ·refine⟨λw hw=>?_,by simp[rw0],by simp[rw0]⟩
  simp only[rw0,List.mem_cons,List.mem_nil_iff,or_false]at hw
  rcases hw with rfl|rfl
  ·exact gj (by decide +kernel)
  ·exact eU h.n
 ·refine⟨λw hw=>?_,by simp[rw1],by have:=h.s4;simp[rw1];lia⟩
  simp only[rw1,List.mem_cons,List.mem_map]at hw
  rcases hw with rfl|⟨s,hs,rfl⟩
  ·exact gj (by decide +kernel)
  ·exact eU (by have:=h.w.st s hs;lia)
 ·refine⟨λw hw=>?_,by simp[rw2],by have:=h.w.sy;simp[rw2];lia⟩
  simp only[rw2,List.mem_cons,List.mem_map]at hw
  rcases hw with rfl|⟨b,_,rfl⟩
  ·exact gj (by decide +kernel)
  ·exact Cd b
 ·have mk:=h.w.ms m hm
  refine⟨λw hw=>?_,by simp[rwM],by simp[rwM]⟩
  simp only[rwM,List.mem_cons,List.mem_nil_iff,or_false]at hw
  rcases hw with rfl|rfl|rfl|rfl|rfl
  ·exact gj (by decide +kernel)
  ·exact eU (by have:=mk.ab;have:=mk.b;lia)
  ·exact eU (by have:=mk.b;lia)
  ·exact eU (by have:=mk.c;lia)
  ·exact eU (by have:=mk.d;lia)
theorem tE{ws:List Str}(h:∀w∈ws,Wd w)(hl:ws.length<=41):(tx ws).length<=300:=by
 have:=rH (c:=32) (B:=6) (ws:=ws) λw hw=>(h w hw).le
 have e:ws.length*7<=41*7:=Nat.mul_le_mul_right _ hl
 show(Str.join (sg 32) ws).length<=300
 lia
theorem rJ{ws:List Str}(h:∀w∈ws,Wd w)(hl:ws.length<=41):h8 (.str " ") [.list (ws.map PyData.str)]=some (.str (tx ws)):=Bu Cj (λw hw=>by have:=(h w hw).le;lia) (by lia)
theorem onS(s:Str)(m:M D):onT .str (.str s) m=m:=rfl
theorem oF{A:List Nat}(h:∀a∈A,a<=40):bq (λd1=>bd (oM (pX [d1])) λx2=>M.ret (some x2)) (A.map iN)=.ret ((A.map cA).map PyData.str):=by
 rw[dU (e:=iN) (g:=λn=>.str (cA n)) A (λa ha=>by rw[(kG (h a ha)).2.2.1,oMS,bdR]),List.map_map]
 rfl
theorem gm{w:Str}(hw:Wd w){A:List Nat}(h:∀a∈A,a<=40)(hl:A.length<=40):bx (.str w) (.tuple (A.map iN))=.ret (.str (tx (w::A.map cA))):=by
 unfold bx
 have ad:aT (PyData.list [.str w]) (.list ((A.map cA).map PyData.str))=some (.list ((w::A.map cA).map PyData.str)):=by
  rw[L4.addL _ _ (by simp;lia)]
  rfl
 have jn:=rJ (ws:=w::A.map cA) (λx hx=>by
  rcases List.mem_cons.mp hx with rfl|hx
  ·exact hw
  ·obtain⟨a,ha,rfl⟩:=List.mem_map.mp hx
   exact eU (h a ha)) (by simp;lia)
 rw[onS,show eK (.tuple (A.map iN))=some (A.map iN)from rfl,oMS,bdR,oF h,bdR,cb (by simp;lia),bdR,bdR,ad,oMS,bdR,jn,oMS,bdR]
theorem C4(l:List Bool):bq (λd2=>bd (bd (oM (wm d2)) λb3=>if b3 then .ret (.str "yes")else .ret (.str "no")) λx4=>M.ret (some x4)) (l.map PyData.bool)=.ret ((l.map yn).map PyData.str):=by
 rw[dU (e:=PyData.bool) (g:=λb=>.str (yn b)) l (λb _=>by
  rw[EU,oMS,bdR]
  cases b<;>rfl),List.map_map]
 rfl
theorem zl{ms:List Mt}(h:∀m∈ms,m.1<=40/\m.2.1<=40/\m.2.2.1<=40/\m.2.2.2<=40):bq (λd18=>bd (bx (.str "meet") d18) λx19=>M.ret (some x19)) (ms.map mD)=.ret (ms.map λm=>.str (tx (rwM m))):=by
 refine dU (e:=mD) (g:=λm=>.str (tx (rwM m))) ms λm hm=>?_
 obtain⟨a,b,c,d⟩:=h m hm
 rw[show mD m=.tuple ([m.1,m.2.1,m.2.2.1,m.2.2.2].map iN)from rfl,gm (gj (by decide +kernel)) (A:=[m.1,m.2.1,m.2.2.1,m.2.2.2]) (by simp;lia) (by simp),bdR]
 rfl
theorem Rs.m40{r:Rl}(h:Rs r):∀m∈r.ms,m.1<=40/\m.2.1<=40/\m.2.2.1<=40/\m.2.2.2<=40:=λm hm=>by
 have mk:=h.w.ms m hm
 have:=h.n
 have:=mk.ab
 have:=mk.b
 have:=mk.c
 have:=mk.d
 lia
theorem yh{r:Rl}(h:Rs r):bg r.d=.ret (aN r):=by
 have sl:r.sy.length<=40:=by rw[h.w.sy];exact h.n
 unfold bg
 have ad:aT (PyData.list [.str "says"]) (.list ((r.sy.map yn).map PyData.str))=some (.list ((rw2 r).map PyData.str)):=by
  rw[L4.addL _ _ (by simp;lia)]
  rfl
 have jn:=rJ (ws:=rw2 r) (h.words _ (by simp[d3])).1 (h.words _ (by simp[d3])).2.2
 have r0:bx (.str "rooms") (.tuple [iN r.n])=.ret (.str (tx (rw0 r))):=gm (A:=[r.n]) (gj (by decide +kernel)) (by have:=h.n;simp;lia) (by simp)
 have r1:bx (.str "starts") (.tuple (r.st.map iN))=.ret (.str (tx (rw1 r))):=gm (gj (by decide +kernel)) (λa ha=>by have:=h.w.st a ha;have:=h.n;lia) (by have:=h.s4;lia)
 have cu:rV r.d none (some 1)=some (.tuple [iN r.n]):=by
  show some (PyData.tuple (L4.cutD _ none (some ((1:Nat):Int))))=_
  rw[zS]
  rfl
 rw[jq,Gn,oMS,bdR,show eK (.tuple (r.sy.map PyData.bool))=some (r.sy.map PyData.bool)from rfl,oMS,bdR,C4,bdR,cb (by simp;lia),bdR,bdR,C3,bdR,cu,oMS,bdR,r0,bdR,jq,Ee,oMS,bdR,r1,bdR,onS,ad,oMS,bdR,jn,oMS,bdR,bdR,bdR,jq,Gp,oMS,bdR,show eK (.tuple (r.ms.map mD))=some (r.ms.map mD)from rfl,oMS,bdR,zl h.m40,bdR,cb (by have:=h.m;simp;lia),bdR,bdR]
 rw[show o7 (.list [.str (tx (rw0 r)),.str (tx (rw1 r)),.str (tx (rw2 r))]) (.list (r.ms.map λm=>.str (tx (rwM m))))=some (aN r)from by
  show(if _ then some _ else none)=_
  rw[if_pos (by have:=h.m;simp[sizeLine];lia)]
  simp[aN,d3,List.map_map,Function.comp_def],oMS,bdR]
theorem qb{p w:Str}(hp:p=w++sg 32)(hw:w.length<=6){ws:List Str}(hne:ws≠[])(h:∀x∈ws,Wd x)(hl:ws.length<=41):aT (.str p) (.str (tx ws))=some (.str (tx (w::ws))):=by
 have l1:=tE h hl
 have l2:p.length=w.length+1:=by
  rw[hp]
  show(w.cps ++ #[32]).size=_
  rw[Array.size_append];rfl
 have e:tx (w::ws)=p++tx ws:=by
  rw[hp]
  cases ws with
  | nil=>exact absurd rfl hne
  | cons a r=>rfl
 show(if _ then some (PyData.str (p++tx ws))else none)=_
 rw[e,if_pos]
 have:(1000:Nat)<=sizeLine:=by decide
 first|lia|(simp only[zzi];lia)
theorem DZ(l:List Bool):bq (λd14=>bd (bd (oM (rT [d14])) λx15=>oM (bI (PyData.list [(.str "no"),(.str "yes")]) x15)) λx16=>M.ret (some x16)) (l.map PyData.bool)=.ret ((l.map yn).map PyData.str):=by
 rw[dU (e:=PyData.bool) (g:=λb=>.str (yn b)) l (λb _=>by cases b<;>rfl),List.map_map]
 rfl
theorem zq{ms:List Mt}(h:∀m∈ms,m.1<=40/\m.2.1<=40/\m.2.2.1<=40/\m.2.2.2<=40):bq (λd24=>bd (bd (onT .str (.str " ") (bd (bd (bd (oM (eK d24)) λl27=>bd (bq (λd25=>bd (oM (pX [d25])) λx26=>.ret (some x26)) l27) eD) λl28=>.ret (PyData.list l28)) λx29=>oM (h8 (.str " ") [x29]))) λx30=>oM (aT (.str "meet ") x30)) λx31=>M.ret (some x31)) (ms.map mD)=.ret (ms.map λm=>.str (tx (rwM m))):=by
 refine dU (e:=mD) (g:=λm=>.str (tx (rwM m))) ms λm hm=>?_
 obtain⟨a,b,c,d⟩:=h m hm
 have wd:∀x∈[m.1,m.2.1,m.2.2.1,m.2.2.2].map cA,Wd x:=λx hx=>by
  obtain⟨y,hy,rfl⟩:=List.mem_map.mp hx
  simp only[List.mem_cons,List.mem_nil_iff,or_false]at hy
  exact eU (by rcases hy with rfl|rfl|rfl|rfl<;>lia)
 rw[onS,show eK (mD m)=some ([m.1,m.2.1,m.2.2.1,m.2.2.2].map iN)from rfl,oMS,bdR,oF (A:=[m.1,m.2.1,m.2.2.1,m.2.2.2]) (by simp;lia),bdR,cb (by simp),bdR,bdR,rJ wd (by simp),oMS,bdR,qb (p := "meet ") (w := "meet") (by decide +kernel) (by decide +kernel) (by simp) wd (by simp),oMS,bdR]
 rfl
theorem t8{r:Rl}(h:Rs r):bB r.d=.ret (.list (aN r)):=by
 have sl:r.sy.length<=40:=by rw[h.w.sy];exact h.n
 have n1:=h.w.n1
 have w0:∀x∈[cA r.n],Wd x:=λx hx=>by rw[List.mem_singleton.mp hx];exact eU h.n
 have w1:∀x∈r.st.map cA,Wd x:=λx hx=>by
  obtain⟨s,hs,rfl⟩:=List.mem_map.mp hx
  exact eU (by have:=h.w.st s hs;have:=h.n;lia)
 have w2:∀x∈r.sy.map yn,Wd x:=λx hx=>by
  obtain⟨s,hs,rfl⟩:=List.mem_map.mp hx
  exact Cd s
 have a0:aT (.str "rooms ") (.str (cA r.n))=some (.str (tx (rw0 r))):=qb (p := "rooms ") (w := "rooms") (ws:=[cA r.n]) (by decide +kernel) (by decide +kernel) (by simp) w0 (by simp)
 have a1:aT (.str "starts ") (.str (tx (r.st.map cA)))=some (.str (tx (rw1 r))):=qb (p := "starts ") (w := "starts") (by decide +kernel) (by decide +kernel) (by have:=h.s1;intro z;rw[List.map_eq_nil_iff]at z;rw[z]at this;simp at this) w1 (by have:=h.s4;simp;lia)
 have a2:aT (.str "says ") (.str (tx (r.sy.map yn)))=some (.str (tx (rw2 r))):=qb (p := "says ") (w := "says") (by decide +kernel) (by decide +kernel) (by intro z;rw[List.map_eq_nil_iff]at z;have:=h.w.sy;rw[z]at this;simp at this;lia) w2 (by simp;lia)
 unfold bB
 rw[jq,Gq,oMS,bdR,(kG h.n).2.2.1,oMS,bdR,a0,oMS,bdR,onS,jq,Ee,oMS,bdR,show eK (.tuple (r.st.map iN))=some (r.st.map iN)from rfl,oMS,bdR,oF (λa ha=>by have:=h.w.st a ha;have:=h.n;lia),bdR,cb (by have:=h.s4;simp;lia),bdR,bdR,rJ w1 (by have:=h.s4;simp;lia),oMS,bdR,a1,oMS,bdR,bdR]
 rw[onS,jq,Gn,oMS,bdR,show eK (.tuple (r.sy.map PyData.bool))=some (r.sy.map PyData.bool)from rfl,oMS,bdR,DZ,bdR,cb (by simp;lia),bdR,bdR,rJ w2 (by simp;lia),oMS,bdR,a2,oMS,bdR,j4 _ _ (by simp),oMS,bdR,jq,Gp,oMS,bdR,show eK (.tuple (r.ms.map mD))=some (r.ms.map mD)from rfl,oMS,bdR,zq h.m40,bdR,cb (by have:=h.m;simp;lia),bdR,bdR,L4.addL _ _ (by have:=h.m;simp;lia),oMS,bdR]
 simp[aN,d3,List.map_map,Function.comp_def]
abbrev stR(i:Nat)(W:List Str)(pl:Nat):List D:=[iN i,.list (W.map PyData.str),iN pl,.int 0]
theorem rA(i:Nat)(W:List Str)(pl:Nat):dI ag (stR i W pl) "words" = some (.list (W.map PyData.str)):=by kernel_rfl
theorem lL(i:Nat)(W:List Str)(pl:Nat):dI ag (stR i W pl) "place" = some (iN pl):=by kernel_rfl
theorem qT(i:Nat)(W:List Str)(pl n:Nat):lv ag (stR i W pl) "place" (iN n)=stR i W n:=by kernel_rfl
theorem GQ(n:Nat):PyData.int ((n:Int)+1)=iN (n+1):=by
 show _=PyData.int (((n+1:Nat)):Int)
 congr 1
theorem oj{S:Type}(i:Nat)(W:List Str)(pl:Nat)(k:Int->M S):z7 (dI ag (stR i W pl) "place") k=k pl:=by rw[lL];rfl
theorem Bz{i:Nat}{ws:List Str}(hne:ws≠[])(h:∀w∈ws,Wd w)(hl:ws.length<=41):cR [] (iN i) (.str (tx ws))=.ret (.none,stR i ws 0):=by
 unfold cR
 rw[ya Cj hne (λw hw=>(h w hw).no) (by have:=tE h hl;exact Nat.le_trans this (by decide)),bdR,bdR]
 kernel_rfl
theorem fR(i:Nat)(W:List Str)(pl:Nat):bK (stR i W pl)=.ret (.bool (decide (pl<W.length)),stR i W pl):=by
 unfold bK
 rw[lL,oMS,bdR,rA,oMS,bdR,L4.lenL,zzd,oMS,bdR,show nL (iN pl) (.int (W.length:Int))=some (decide (pl<W.length))from by
  show y1 (.int (pl:Int)) (.int (W.length:Int))=_
  rw[L4.ltI]
  congr 1
  exact decide_eq_decide.mpr (by lia),oMS,bdR,bdR]
theorem qA{i:Nat}{W:List Str}{pl:Nat}{w:Str}(h:W[pl]? = some w):bY (stR i W pl)=.ret (.str w,stR i W pl):=by
 obtain⟨hl,e⟩:=List.getElem?_eq_some_iff.mp h
 unfold bY
 rw[fR,bdR];dsimp only
 rw[L4.asB_b,bdR,decide_eq_true hl,if_neg (by decide)]
 unfold cP
 rw[rA,oMS,bdR,lL,oMS,bdR,rK,show gf (.list (W.map PyData.str)) (iN pl)=_ from CP PyData.str W pl hl,oMS,bdR,e]
theorem uN{i:Nat}{W:List Str}{pl:Nat}{w:Str}{ch:D}(h:W[pl]? = some w)(hw:dC (.str w) ch=some false):bt (stR i W pl) ch=.ret (.str w,stR i W (pl+1)):=by
 unfold bt
 rw[qA h,bdR];dsimp only
 rw[hw,oMS,bdR,if_neg (by decide)]
 unfold cC
 rw[oj,GQ,qT]
theorem db{i:Nat}{W:List Str}{pl n:Nat}{lo hi:Int}{bar:D}(h:W[pl]? = some (cA n))(hn:n<=40)(h1:lo<=n)(h2:(n:Int)<=hi)(hb:fq (iN n) bar=some false):aC (stR i W pl) (.int lo) (.int hi) bar=.ret (iN n,stR i W (pl+1)):=by
 unfold aC
 rw[qA h,bdR];dsimp only
 rw[(kG hn).2.2.2,bdR,show vh (iN n) .none=some false from rfl,oMS,bdR,if_neg (by decide),L4.leA,oMS,bdR,if_pos (by rw[zzi];lia),L4.leA,oMS,bdR,bdR,decide_eq_true h2,if_neg (by decide),hb,oMS,bdR,if_neg (by decide)]
 unfold bZ
 rw[oj,GQ,qT]
theorem finish_ok{i:Nat}{W:List Str}{pl:Nat}(h:W.length<=pl):bQ (stR i W pl)=.ret (.none,stR i W pl):=by
 unfold bQ
 rw[fR,bdR];dsimp only
 rw[L4.asB_b,bdR,decide_eq_false (by lia),if_neg (by decide)]
theorem geN(a b:Nat):wU (iN a) (iN b)=some (decide (b<=a)):=(L4.geI _ _).trans (congrArg some (decide_eq_decide.mpr (by lia)))
theorem ju{r:Rl}(h:Rs r){i:Nat}{w:Str}{ws:List Str}(hi:(d3 r)[i]? = some (w::ws))(hw:dC (.str w) (.tuple [.str w])=some false):aW (.list (aN r)) (iN i) (.str w)=.ret (stR i (w::ws) 1):=by
 obtain⟨hl,e⟩:=List.getElem?_eq_some_iff.mp hi
 obtain⟨g1,g2,g3⟩:=h.words (w::ws) (List.mem_of_getElem? hi)
 unfold aW
 rw[L4.lenL,show(aN r).length=(d3 r).length from zzd _,oMS,bdR,geN,oMS,bdR,decide_eq_false (by lia),if_neg (by decide),rK,show gf (.list (aN r)) (iN i)=_ from CP (λws=>PyData.str (tx ws)) (d3 r) i hl,oMS,bdR,e,Bz g2 g1 g3]
 show bd (bt (stR i (w::ws) 0) (.tuple [.str w])) _=_
 rw[uN rfl hw,bdR]
theorem xY(n:Nat):iS (iN n) (.int 1)=some (.int ((n:Int) - 1)):=rfl
theorem inE(n:Nat):fq (iN n) (.tuple [])=some false:=rfl
section
variable {r:Rl}(h:Rs r)
include h
theorem oQ:dP (.list (aN r))=.ret (iN r.n):=by
 have n1:=h.w.n1
 have hn:=h.n
 unfold dP
 rw[show aW (.list (aN r)) (.int 0) (.str "rooms")=.ret (stR 0 (rw0 r) 1)from ju h (i:=0) rfl (by decide +kernel),bdR,show aC (stR 0 (rw0 r) 1) (.int 1) (.int 40) (.tuple [])=.ret (iN r.n,stR 0 (rw0 r) 2)from db rfl h.n (by lia) (by lia) (inE _),bdR];dsimp only
 rw[finish_ok (Nat.le_refl 2),bdR]
theorem wu:∀(rest acc:List Nat) (fuel pl:Nat),(rw1 r).drop pl=rest.map cA->(∀x∈rest,x<r.n)->acc.length+rest.length<=4->rest.length<fuel ->
  bU (λ(s17:D×List D×List D×Unit) kn=>cg s17.1 s17.2.1 s17.2.2.1 kn) fuel (iN r.n,stR 1 (rw1 r) pl,acc.map iN,())=.ret (.tuple ((acc++rest).map iN)):=by
 have hn:=h.n
 intro rest
 induction rest with
 | nil =>
  intro acc fuel pl hd _ _ hf
  obtain⟨k,rfl⟩:∃k,fuel=k+1:=⟨fuel - 1,by simp at hf;lia⟩
  have hl:(rw1 r).length<=pl:=List.drop_eq_nil_iff.mp (by simpa using hd)
  rw[bU]
  unfold cg
  rw[fR,bdR];dsimp only
  rw[L4.asB_b,bdR,decide_eq_false (by lia),if_neg (by decide),if_neg (by decide)]
  unfold dg
  rw[finish_ok hl,bdR,mP,oMS,bdR,List.append_nil]
 | cons x rest ih =>
  intro acc fuel pl hd hx hl hf
  rw[List.length_cons]at hl hf
  obtain⟨k,rfl⟩:∃k,fuel=k+1:=⟨fuel - 1,by lia⟩
  have hx0:=hx x List.mem_cons_self
  have at0:(rw1 r)[pl]? = some (cA x):=by
   have:=congrArg (λl=>l[0]?) hd
   simpa using this
  have hpl:=(List.getElem?_eq_some_iff.mp at0).1
  rw[bU]
  unfold cg
  rw[fR,bdR];dsimp only
  rw[L4.asB_b,bdR,decide_eq_true hpl,if_pos rfl,L4.lenL,zzd,oMS,bdR,show nL (.int (acc.length:Int)) (.int 4)=some true from by
   show y1 (.int (acc.length:Int)) (.int 4)=_
   rw[L4.ltI,decide_eq_true (by lia)],oMS,bdR,if_pos rfl,xY,oMS,bdR,db at0 (by lia) (by lia) (by lia) (inE _),bdR];dsimp only
  rw[j4 _ _ (by simp;lia),oMS,bdR]
  have:=ih (acc++[x]) k (pl+1) (by
   rw[<-List.drop_drop,hd]
   rfl) (λy hy=>hx y (zzg _ hy)) (by simp;lia) (by lia)
  rw[List.map_append,List.append_assoc]at this
  exact this
theorem mV:dq (.list (aN r)) (iN r.n)=.ret (.tuple (r.st.map iN)):=by
 have hn:=h.n
 have s1:=h.s1
 have s4:=h.s4
 obtain⟨x,rest,e⟩:∃x rest,r.st=x::rest:=by
  cases e:r.st with
  | nil=>rw[e]at s1;simp at s1
  | cons x rest=>exact⟨x,rest,rfl⟩
 have hx:∀y∈r.st,y<r.n:=h.w.st
 have hx0:=hx x (by rw[e];exact List.mem_cons_self)
 have rwe:rw1 r=(("starts" : Str)::cA x::rest.map cA:List Str):=by unfold rw1;rw[e];rfl
 unfold dq
 rw[show aW (.list (aN r)) (.int 1) (.str "starts")=.ret (stR 1 (rw1 r) 1)from ju h (i:=1) rfl (by decide +kernel),bdR,xY,oMS,bdR,show aC (stR 1 (rw1 r) 1) (.int 0) (.int ((r.n:Int) - 1)) (.tuple [])=.ret (iN x,stR 1 (rw1 r) 2)from db (by rw[rwe];rfl) (by lia) (by lia) (by lia) (inE _),bdR];dsimp only
 rw[nk]
 have:=wu h rest [x] 10000 2 (by rw[rwe];rfl) (λy hy=>hx y (by rw[e];exact zzg _ hy)) (by rw[e]at s4;simp at s4 ⊢;lia) (by rw[e]at s4;simp at s4;lia)
 rw[e]
 exact this
theorem qO:eP (.list (aN r)) (iN r.n)=.ret (.tuple (r.sy.map PyData.bool)):=by
 have hn:=h.n
 have hs:=h.w.sy
 unfold eP
 rw[show aW (.list (aN r)) (.int 2) (.str "says")=.ret (stR 2 (rw2 r) 1)from ju h (i:=2) rfl (by decide +kernel),bdR,eL _ (by lia),oMS,bdR]
 refine BC (P:=λj s=>s=(stR 2 (rw2 r) (1+j),(r.sy.take j).map PyData.bool,())) _ 0 _ _ ?_ rfl ?_
 ·rintro j s d hd _ hj rfl kn hkn
  rw[zzd,List.length_range]at hj
  have hj:j<r.n:=by lia
  have hjs:j<r.sy.length:=by lia
  dsimp only
  unfold gN
  have at0:(rw2 r)[1+j]? = some (yn r.sy[j]):=by
   unfold rw2
   rw[Nat.add_comm,List.getElem?_cons_succ,List.getElem?_map,List.getElem?_eq_getElem hjs]
   rfl
  rw[uN at0 (by cases r.sy[j]<;>decide +kernel),bdR];dsimp only
  rw[show gg (.str (yn r.sy[j])) (.str "yes")=some r.sy[j]from by cases r.sy[j]<;>decide +kernel,oMS,bdR,j4 _ _ (by simp;lia),oMS,bdR]
  refine hkn _ ?_
  rw[List.take_succ,List.getElem?_eq_getElem hjs,List.map_append]
  rfl
 ·rintro s rfl
  rw[zzd,List.length_range]
  dsimp only
  unfold gO
  rw[finish_ok (by unfold rw2;simp;lia),bdR,mP,oMS,bdR,Nat.zero_add,List.take_of_length_le (by lia)]
end
theorem HB(p q r:Nat×Nat):fq (pD p) (.tuple [pD q,pD r])=some (decide (q=p)||decide (r=p)):=by
 have hi:gJ (pD p) [pD q,pD r]=true:=by
  unfold gJ
  simp[rB,PyData.canLayAll0]
 rw[L4.inA_T,show qZ (pD p) (.tuple [pD q,pD r])=if gJ (pD p) [pD q,pD r]then some ([pD q,pD r].any λy=>PyData.eqv y (pD p))else none from rfl,if_pos hi]
 simp only[List.any_cons,List.any_nil,mh,Bool.or_false]
theorem Gw(x:Nat)(l:List Nat):fq (iN x) (.list (l.map iN))=some (decide (x∈l)):=by
 have hi:gJ (iN x) (l.map iN)=true:=by
  unfold gJ
  rw[zt l]
  rfl
 rw[L4.inA_L,show qZ (iN x) (.list (l.map iN))=if gJ (iN x) (l.map iN)then some ((l.map iN).any λy=>PyData.eqv y (iN x))else none from rfl,if_pos hi]
 congr 1
 rw[Bool.eq_iff_iff,List.any_eq_true,zzi]
 constructor
 ·rintro⟨d,hd,h⟩
  obtain⟨y,hy,rfl⟩:=List.mem_map.mp hd
  have:((y:Int)==(x:Int))=true:=h
  rw[zh,zzi]at this
  exact this▸hy
 ·intro h
  refine⟨iN x,List.mem_map.mpr ⟨x,h,rfl⟩,?_⟩
  show((x:Int)==(x:Int))=true
  simp
theorem Au(a b c:Nat):dO (iN a) (iN b) (iN c)=.ret (.list (([a,b].filter λx=>decide ((a,b)=(c,x))||decide ((b,a)=(c,x))).map iN)):=by
 unfold dO
 have cm:bq (λd1=>bd (oM (fq (.tuple [iN c,d1]) (.tuple [(.tuple [iN a,iN b]),(.tuple [iN b,iN a])]))) λb2=>if b2 then M.ret (some d1)else .ret none) ([a,b].map iN)=.ret (([a,b].filter λx=>decide ((a,b)=(c,x))||decide ((b,a)=(c,x))).map iN):=by
  rw[sC (e:=iN) (g:=λx=>if(decide ((a,b)=(c,x))||decide ((b,a)=(c,x)))=true then some (iN x)else none) [a,b] λx _=>by
   rw[show fq (.tuple [iN c,iN x]) (.tuple [(.tuple [iN a,iN b]),(.tuple [iN b,iN a])])=_ from HB (c,x) (a,b) (b,a),oMS,bdR]
   cases (decide ((a,b)=(c,x))||decide ((b,a)=(c,x)))<;>rfl]
  refine congrArg M.ret ?_
  induction [a,b]with
  | nil=>rfl
  | cons y l ih =>
   rw[List.filterMap_cons,List.filter_cons,ih]
   cases (decide ((a,b)=(c,y))||decide ((b,a)=(c,y)))<;>rfl
 rw[show eK (.tuple [iN a,iN b])=some ([a,b].map iN)from rfl,oMS,bdR,cm,bdR,cb (by rw[zzd];exact Nat.le_trans (List.length_filter_le _ _) (by simp)),bdR,bdR]
theorem tX{r:Rl}(h:Rs r){j:Nat}{m:Mt}(hm:r.ms[j]? = some m){p q:Int}(h1:p<=m.1)(h2:(m.1:Int)=p->q+1<=m.2.1):cO (.list (aN r)) (iN (3+j)) (iN r.n) (.tuple [.int p,.int q])=.ret (mD m):=by
 have hn:=h.n
 have mk:=h.w.ms m (List.mem_of_getElem? hm)
 have a1:=mk.ab
 have a2:=mk.b
 have a3:=mk.c
 have a4:=mk.d
 have row:(d3 r)[3+j]? = some (rwM m):=by
  rw[Nat.add_comm]
  show(r.ms.map rwM)[j]? = _
  rw[List.getElem?_map,hm]
  rfl
 unfold cO
 rw[show aW (.list (aN r)) (iN (3+j)) (.str "meet")=.ret (stR (3+j) (rwM m) 1)from ju h row (by decide +kernel),bdR,jq,Gq,oMS,bdR,xY,oMS,bdR,show aC (stR (3+j) (rwM m) 1) (.int p) (.int ((r.n:Int) - 1)) (.tuple [])=.ret (iN m.1,stR (3+j) (rwM m) 2)from db rfl (by lia) h1 (by lia) (inE _),bdR];dsimp only
 rw[bdR,show gg (iN m.1) (.int p)=some ((m.1:Int)==p)from eqI _ _,oMS,bdR]
 have lo:∃l:Int,(if((m.1:Int)==p)=true then(bd (oM (bI (.tuple [.int p,.int q]) (.int 1))) λx6=>oM (aT x6 (.int 1)))else M.ret (iN m.1))=.ret (.int l)/\l<=m.2.1:=by
  by_cases e:(m.1:Int)=p
  ·rw[if_pos (by simpa using e),jq,Ee,oMS,bdR,L4.addI,oMS]
   exact⟨q+1,rfl,h2 e⟩
  ·rw[if_neg (by simpa using e)]
   exact⟨m.1,rfl,by lia⟩
 obtain⟨l,el,hl⟩:=lo
 rw[el,bdR,bdR,show aC (stR (3+j) (rwM m) 2) (.int l) (.int ((r.n:Int) - 1)) (.tuple [])=.ret (iN m.2.1,stR (3+j) (rwM m) 3)from db rfl (by lia) hl (by lia) (inE _),bdR];dsimp only
 rw[bdR,show aC (stR (3+j) (rwM m) 3) (.int 0) (.int ((r.n:Int) - 1)) (.tuple [])=.ret (iN m.2.2.1,stR (3+j) (rwM m) 4)from db rfl (by lia) (by lia) (by lia) (inE _),bdR];dsimp only
 rw[bdR,Au,bdR,show aC (stR (3+j) (rwM m) 4) (.int 0) (.int ((r.n:Int) - 1)) _=.ret (iN m.2.2.2,stR (3+j) (rwM m) 5)from db rfl (by lia) (by lia) (by lia) (by
  rw[Gw,decide_eq_false]
  intro z
  have z:=(List.mem_filter.mp z).2
  simp only[Bool.or_eq_true,zzi]at z
  rcases z with z|z
  ·exact mk.ne z.symm
  ·exact mk.ne' z.symm),bdR];dsimp only
 rw[finish_ok (Nat.le_refl 5),bdR]
def ahd(ms:List Mt)(j:Nat):Int×Int:=match j with
 | 0=>(0,-1)
 | j+1=>((((ms[j]?).getD (0,0,0,0)).1:Int),(((ms[j]?).getD (0,0,0,0)).2.1:Int))
theorem qP{r:Rl}(h:Rs r):bA (.list (aN r))=.ret r.d:=by
 have hm:=h.m
 have len:(aN r).length=3+r.ms.length:=by
  rw[show(aN r).length=(d3 r).length from zzd _]
  simp[d3]
  lia
 unfold bA
 rw[oQ h,bdR,mV h,bdR,qO h,bdR,show yZ (.int 1)=some (.int (-1))from rfl,oMS,bdR,bdR,L4.lenL,len,oMS,bdR,show eN [.int 3,.int ((3+r.ms.length:Nat):Int)]=_ from uU 3 (3+r.ms.length) (by lia) (by lia),oMS,bdR]
 have lr:(rng 3 (3+r.ms.length)).length=r.ms.length:=by rw[iq];lia
 refine kJ (R:=λm=>m=.ret r.d) (P:=λj s=>s=(.list (aN r),iN r.n,.tuple (r.st.map iN),.tuple (r.sy.map PyData.bool),(r.ms.take j).map mD,.tuple [.int (ahd r.ms j).1,.int (ahd r.ms j).2],())) _ _ ?_ rfl ?_
 ·rintro j s d hd rfl kn hkn
  obtain⟨rfl,hj⟩:=yv hd
  have hj:j<r.ms.length:=by lia
  have hmj:r.ms[j]? = some r.ms[j]:=List.getElem?_eq_getElem hj
  dsimp only
  unfold gP
  have ahead:(ahd r.ms j).1<=(r.ms[j].1:Int)/\((r.ms[j].1:Int)=(ahd r.ms j).1->(ahd r.ms j).2+1<=(r.ms[j].2.1:Int)):=by
   cases j with
   | zero=>exact⟨by simp[ahd],λ_=>by simp[ahd]⟩
   | succ i =>
    have hi:i<r.ms.length:=by lia
    have:=List.pairwise_iff_getElem.mp h.w.so i (i+1) hi hj (by lia)
    have e:(r.ms[i]?).getD (0,0,0,0)=r.ms[i]:=by rw[List.getElem?_eq_getElem hi];rfl
    simp only[ahd,e]
    unfold plt at this
    dsimp only at this
    constructor<;>lia
  rw[tX h hmj ahead.1 ahead.2,bdR,j4 _ _ (by simp;lia),oMS,bdR,C3,bdR,show rV (mD r.ms[j]) none (some 2)=some (.tuple [iN r.ms[j].1,iN r.ms[j].2.1])from by
   show some (PyData.tuple (L4.cutD _ none (some ((2:Nat):Int))))=_
   rw[zS]
   rfl,oMS,bdR]
  refine hkn _ ?_
  rw[List.take_succ,hmj,List.map_append]
  simp only[ahd,hmj]
  rfl
 ·rintro s rfl
  rw[zzd,lr]
  dsimp only
  unfold gQ
  rw[List.take_of_length_le (Nat.le_refl _),mP,oMS,bdR,bdR]
abbrev Asc(x:Str):Prop:=∀c∈x.cps.toList,c<127
theorem qS(x:Str):reprQuote x=39\/reprQuote x=34:=by
 unfold reprQuote
 split
 ·exact .inr rfl
 ·exact .inl rfl
theorem BM:∀c,c<127->((Builtin.Str.reprChar 39 c).all λd=>decide (d<1114112))=true/\((Builtin.Str.reprChar 34 c).all λd=>decide (d<1114112))=true:=by decide +kernel
theorem tO{x:Str}(h:Asc x):PyData.strOk (reprText x)=true:=by
 have hq:reprQuote x<1114112:=by rcases qS x with e|e<;>rw[e]<;>decide
 have hc:∀c∈x.cps.toList,∀d∈Builtin.Str.reprChar (reprQuote x) c,d<1114112:=λc hcx d hd=>by
  have:=BM c (h c hcx)
  rcases qS x with e|e<;>rw[e]at hd
  ·have:=List.all_eq_true.mp this.1 d hd
   simpa using this
  ·have:=List.all_eq_true.mp this.2 d hd
   simpa using this
 have go:∀(l:List Nat) (acc:Array Nat),(∀c∈l,∀d∈Builtin.Str.reprChar (reprQuote x) c,d<1114112)->(∀d∈acc.toList,d<1114112)->∀d∈(l.foldl (λout c=>out++(Builtin.Str.reprChar (reprQuote x) c).toArray) acc).toList,d<1114112:=by
  intro l
  induction l with
  | nil=>intro acc _ ha d hd;exact ha d hd
  | cons c l ih =>
   intro acc hl ha
   rw[List.foldl_cons]
   refine ih _ (λc hc=>hl c (zzg _ hc)) λd hd=>?_
   rw[Array.toList_append]at hd
   rcases List.mem_append.mp hd with hd|hd
   ·exact ha d hd
   ·exact hl c List.mem_cons_self d (by simpa using hd)
 unfold PyData.strOk reprText
 rw[Array.all_eq_true_iff_forall_mem]
 intro d hd
 rw[Array.mem_push]at hd
 rcases hd with hd|rfl
 ·have:=go x.cps.toList #[reprQuote x] hc (λd hd=>by
   have:d=reprQuote x:=by simpa using hd
   rw[this];exact hq) d (by rw[Array.foldl_toList];exact Array.mem_toList_iff.mpr hd)
  simpa using this
 ·simpa using hq
theorem xO{x:Str}(h:Asc x):PyData.strOk x=true:=by
 unfold PyData.strOk
 rw[Array.all_eq_true_iff_forall_mem]
 intro d hd
 have:=h d (Array.mem_toList_iff.mpr hd)
 simp;lia
theorem zB{e:Nat}(he:e<127):∀{L:List (List Nat)},(∀a∈L,∀c∈a,c<127)->∀c∈jl e L,c<127
 | [],_,c,h=>by simp[jl]at h
 | [a],h,c,hc=>h a List.mem_cons_self c hc
 | a::b::r,h,c,hc=>by
  have hc:c∈a++e::jl e (b::r):=hc
  rcases List.mem_append.mp hc with hc|hc
  ·exact h a List.mem_cons_self c hc
  ·rcases List.mem_cons.mp hc with rfl|hc
   ·exact he
   ·exact zB he (L:=b::r) (λx hx=>h x (zzg _ hx)) c hc
theorem C9{ws:List Str}(h:∀w∈ws,Wd w):Asc (tx ws):=by
 show ∀c∈(Str.join (sg 32) ws).cps.toList,c<127
 rw[join_list]
 refine zB (by decide) λa ha=>?_
 obtain⟨w,hw,rfl⟩:=List.mem_map.mp ha
 exact(h w hw).as
theorem wF{r:Rl}(h:Rs r):bw [.list (aN r)]=some (.str (PyData.list (aN r)).shown)/\dL (.str (PyData.list (aN r)).shown) (.str (PyData.list (aN r)).shown)=some false/\dL (.list (aN r)) (.list (aN r))=some false:=by
 have each:∀d∈aN r,∃x:Str,d=.str x/\Asc x/\x.length<=300:=λd hd=>by
  obtain⟨ws,hw,rfl⟩:=List.mem_map.mp hd
  obtain⟨g1,_,g3⟩:=h.words ws hw
  exact⟨_,rfl,C9 g1,tE g1 g3⟩
 have len:(aN r).length<=63:=by
  have:=h.m
  rw[show(aN r).length=(d3 r).length from zzd _]
  simp[d3]
  lia
 have lay:PyData.canLayAll0 (aN r)=true:=pN λd hd=>by
  obtain⟨x,rfl,hx,_⟩:=each d hd
  simpa[PyData.canLay0]using xO hx
 have h1:∀t∈PyData.shownAll (aN r),t.length<=3002:=λt ht=>by
  obtain⟨d,hd,rfl⟩:=fE ht
  obtain⟨x,rfl,hx,hl⟩:=each d hd
  rw[PyData.shown_str]
  have:=StrLaws.reprText_len x λc hc=>Nat.lt_trans (hx c hc) (by decide)
  lia
 have h2:∀t∈PyData.shownAll (aN r),PyData.strOk t=true:=λt ht=>by
  obtain⟨d,hd,rfl⟩:=fE ht
  obtain⟨x,rfl,hx,hl⟩:=each d hd
  rw[PyData.shown_str]
  exact tO hx
 have h3:=qU h1
 rw[iM]at h3
 have h4:(aN r).length*(3002+2)<=63*(3002+2):=Nat.mul_le_mul_right _ len
 have h5:(Str.join ", " (PyData.shownAll (aN r))).length<=piled (PyData.shownAll (aN r)):=pQ
 have h6:PyData.strOk (Str.join ", " (PyData.shownAll (aN r)))=true:=ik (br _) h2
 have ok:PyData.strOk (PyData.list (aN r)).shown=true:=by
  simp only[PyData.shown,listText_eq_join]
  exact dR (dR (br _) h6) (br _)
 have sl:(PyData.list (aN r)).shown.length<=1000000:=by
  simp only[PyData.shown,listText_eq_join]
  rw[strLen_append,strLen_append]
  have e1:((("[" : String):Str)).length=1:=rfl
  have e2:((("]" : String):Str)).length=1:=rfl
  rw[e1,e2];lia
 have dp:PyData.depthAll (aN r)<=1:=mr λd hd=>by
  obtain⟨x,rfl,_⟩:=each d hd
  simp[PyData.depth]
 refine⟨?_,?_,?_⟩
 ·show(if iu (.list (aN r))then some (PyData.str (PyData.list (aN r)).shown)else none)=_
  unfold iu
  rw[if_pos]
  simp only[Bool.and_eq_true,zzi]
  refine⟨⟨⟨?_,by simpa[PyData.canLay0]using lay⟩,by simp only[PyData.depth];lia⟩,Nat.le_trans sl (by decide)⟩
  simp only[PyData.showable]
  exact qI λd hd=>by obtain⟨x,rfl,_⟩:=each d hd;rfl
 ·unfold dL rW
  rw[if_pos]
  ·simp[PyData.eqv]
  ·simp[PyData.canLay0,ok,PyData.depth]
 ·have ev:∀l:List D,(∀d∈l,∃x:Str,d=.str x)->PyData.eqvAll l l=true:=by
   intro l
   induction l with
   | nil=>intro _;rfl
   | cons d l ih =>
    intro q
    obtain⟨x,rfl⟩:=q d List.mem_cons_self
    rw[PyData.eqvAll,ih λd hd=>q d (zzg _ hd)]
    simp[PyData.eqv]
  unfold dL rW
  rw[if_pos]
  ·rw[show PyData.eqv (.list (aN r)) (.list (aN r))=PyData.eqvAll (aN r) (aN r)from rfl,ev _ λd hd=>by obtain⟨x,e,_⟩:=each d hd;exact⟨x,e⟩]
   rfl
  ·simp only[PyData.canLay0,PyData.depth,lay,Bool.and_eq_true,zzi,true_and,and_true,and_self]
   first|lia|(refine⟨?_,?_⟩<;>lia)|(simp;lia)
theorem HG{r:Rl}(w:Wf r)(hn:r.n<=6):r.ms.length<=60:=by
 have nd:(r.ms.map λm=>(m.1,m.2.1)).Nodup:=by
  unfold List.Nodup
  rw[List.pairwise_map]
  exact w.so.imp λh=>tR h
 have sub:(r.ms.map λm=>(m.1,m.2.1)) ⊆ (List.range 6).flatMap λa=>(List.range 6).map λb=>(a,b):=λp hp=>by
  obtain⟨m,hm,rfl⟩:=List.mem_map.mp hp
  have h1:=w.ms m hm
  have:=h1.ab;have:=h1.b
  exact List.mem_flatMap.mpr ⟨m.1,List.mem_range.mpr (by omega),List.mem_map.mpr ⟨m.2.1,List.mem_range.mpr (by omega),rfl⟩⟩
 have:=nd.length_le_of_subset sub
 rw[zzd]at this
 exact Nat.le_trans this (by decide)
theorem iU{ι:Type}(e:ι->D)(he:∀i,noL (e i)=true):∀l:List ι,pH (l.map e)=true
 | []=>rfl
 | a::l=>by rw[List.map_cons,pH,he,iU e he l];rfl
theorem zg(r:Rl):noL r.d=true:=by
 show(noL (iN r.n)&&(noL (.tuple (r.st.map iN))&&(noL (.tuple (r.ms.map mD))&&(noL (.tuple (r.sy.map PyData.bool))&&true))))=true
 rw[show noL (.tuple (r.st.map iN))=true from iU iN (λ_=>rfl) _,show noL (.tuple (r.ms.map mD))=true from iU mD (λ_=>rfl) _,show noL (.tuple (r.sy.map PyData.bool))=true from iU PyData.bool (λ_=>rfl) _]
 rfl
theorem Bm{r:Rl}:lend true (.ret r.d)=.ret r.d:=by
 show(if(noL r.d&&true)=true then M.ret r.d else .bad)=_
 rw[zg]
 rfl
theorem uO{r:Rl}(h:Rs r)(m:M D):(bd (bB r.d) λx12=>bd (bg r.d) λl13=>bd (bd (bd (oM (bw [(PyData.list l13)])) λx14=>bd (oM (bw [x12])) λx15=>oM (dL x14 x15)) λb19=>if b19 then .ret true else bd (bd (lend (true) (bA (PyData.list l13))) λx16=>oM (bw [x16])) λx17=>bd (oM (bw [r.d])) λx18=>oM (dL x17 x18)) λb20=>if b20 then
  .ret (.bool false)
  else
  bd (oM (zn l13 [])) λl21=>bd (bd (bd (bd (bd (bg r.d) λl22=>.ret (PyData.list l22)) λx23=>oM (bw [x23])) λx24=>bd (oM (bw [x12])) λx25=>oM (dL x24 x25)) λb31=>if b31 then .ret true else bd (bd (bd (bA x12) λx26=>oM (bw [x26])) λx27=>bd (oM (bw [r.d])) λx28=>oM (dL x27 x28)) λb30=>if b30 then .ret true else bd (bB r.d) λx29=>oM (dL x12 x29)) λb32=>if b32 then
  .ret (.bool false)
  else m)=m:=by
 obtain⟨q1,q2,q3⟩:=wF h
 obtain⟨r1,r2⟩:=AQ h.w (by have:=h.n;lia) (by have:=h.s4;lia) (by have:=h.m;lia)
 rw[t8 h,bdR,yh h,bdR,q1,oMS,bdR,bdR,q2,oMS,bdR,if_neg (by decide),qP h,Bm,bdR,r1,oMS,bdR,bdR,r2,oMS,bdR,if_neg (by decide),show zn (aN r) []=some []from rfl,oMS,bdR]
 repeat (first|rw[bdR]|rw[oMS]|rw[q1]|rw[q2]|rw[q3]|rw[r1]|rw[r2]|rw[if_neg (by decide)])
theorem D4(ns:List Int)(hn:ns.length<=63)(k:Nat)(kn5:D×Unit->M D):mB (.list (ns.map PyData.int)) (iN k) kn5=kn5 (.list (ns.map PyData.int),()):=by
 obtain⟨f0,e0,hf0⟩:=BE ns k hn
 obtain⟨s,f1,e1,hs,hf1⟩:=bH (m:=4) hf0 (by lia) (by lia) (by lia)
 obtain⟨x,f2,e2,hx,hf2⟩:=bH (m:=4) hf1 (by lia) (by lia) (by lia)
 unfold mB
 rw[e0,bdR,show az f0 (.int 4)=_ from e1,bdR];dsimp only
 rw[Al,oMS,bdR,show az f1 (.int 4)=_ from e2,bdR];dsimp only
 rw[show gg (iN x) (.int 1)=_ from eqN x 1,oMS,bdR]
 by_cases h1:x=1
 ·obtain⟨r,f3,e3,ru,hm,hf3⟩:=zI (sorts:=s+1) hf2 (by lia) (by lia) (by lia)
  rw[decide_eq_true h1,if_pos rfl,e3,bdR];dsimp only
  exact uO ⟨ru.w,ru.n,ru.s1,ru.s4,by lia⟩ _
 ·obtain⟨r,f3,e3,w,hn6,hst,hm,hf3⟩:=AM (most:=6) (sorts:=s+1) hf2 (by lia) (by lia) (by lia) (by lia) (by lia)
  rw[decide_eq_false h1,if_neg (by decide),show dE f2 (.int 6) (iN (s+1))=_ from e3,bdR];dsimp only
  exact uO ⟨w,by lia,by lia,by lia,HG w hn6⟩ _
theorem main:∀ns:List Int,ns.length<=63->vS (.list (ns.map PyData.int))=.ret (.bool true):=by
 intro ns hn
 unfold vS
 have e1:g9 [.list (ns.map PyData.int)]=some (.int (ns.length:Int)):=by rw[L4.lenL,zzd]
 have e2:rS [.int 12,.int (ns.length:Int)]=some (iN (min 12 ns.length)):=min2 12 ns.length
 have e3:aT (.int 2) (iN (min 12 ns.length))=some (iN (2+min 12 ns.length)):=HW 2 _
 rw[e1,oMS,bdR,e2,oMS,bdR,e3,oMS,bdR,eL _ (by lia),oMS,bdR]
 refine(zK (e:=iN) (F:=λ_=>(PyData.list (ns.map PyData.int),())) (List.range _) ?_).trans rfl
 intro p x t hpt kn
 dsimp only
 exact D4 ns hn x kn
end K10
namespace PySem.W.Fast
def tw11799834598591133051:=()
def tw1589502332647388047:=()
def tw3055036334046070787:=()
def tw2166705847863496406:=()
def tw6020060389918616467:=()
def tw18281802450750926385:=()
def tw2739878398672289506:=()
def tw9472595197587798494:=()
def tw12693720485395940246:=()
def tw7062948793475183806:=()
def tw3903312023200835977:=()
def tw16536811959527244147:=()
def tw7561571741870199602:=()
def tw3044763070277955749:=()
def tw17567821442166422717:=()
def tw8245578777140536671:=()
def tw9379474873035897817:=()
def tw16421771613635515803:=()
def tw15280403384015502994:=()
def tw16933721887577595012:=()
def tw9398782037997238037:=()
def tw13327907437796735073:=()
def tw12439919348309003681:=()
def tw6181000329682071327:=()
def tw4902835505446247795:=()
def tw13216418028078676673:=()
def tw7827940671471314833:=()
def tw16494998263082956551:=()
def tw17578380446859474554:=()
def tw15903332087751436806:=()
def tw18227877869920319482:=()
def tw11037911123289449463:=()
def tw2338053705966390417:=()
def tw14996782078651644189:=()
def tw11964315971818328520:=()
def tw6544762899406703087:=()
def tw15726128651272892836:=()
def tw16964321164815594957:=()
def tw7698580333795786808:=()
def tw13656226618970728898:=()
def tw7448821188765614894:=()
def tw5877514573986115372:=()
def tw10302495287317454828:=()
def tw580855393797914265:=()
def tw4013106108870446839:=()
def tw2013470616951470924:=()
def tw428139422021894784:=()
def tw821063911599698212:=()
def tw14461185331864075976:=()
def tw9533439675688674057:=()
def tw3553834216059120460:=()
def tw7476836309914564864:=()
def tw14956064054451927666:=()
def tw692610018526973778:=()
def tw9942047251489375272:=()
def tw918567143458427606:=()
def tw6446237676618667142:=()
def tw8230943202231117170:=()
def tw2566376807267604323:=()
def tw6278167889060671684:=()
def tw1623972115846412353:=()
def tw8492761589272030849:=()
def tw14405587453533383357:=()
def tw12508829351416148678:=()
def tw4114614082709656531:=()
def tw15711494090732181838:=()
def tw13939904405583538317:=()
def tw12992315959199754325:=()
def tw11509674554758134233:=()
def tw6701574376467694601:=()
def tw16118994798671029867:=()
def tw2688385321535187688:=()
def tw8396735183139191143:=()
def tw12159699480911977400:=()
def tw6871513186041125785:=()
def tw14572484958967637474:=()
def tw1547536347838252623:=()
def tw6961885662629718315:=()
def tw16461344341025929490:=()
def tw12696159596358664463:=()
def tw11716645406472958765:=()
def tw5367981349932494706:=()
def tw12003615095216610861:=()
def tw13739931616948639078:=()
def tw17534127950305325262:=()
def tw8264349113679214058:=()
def tw14629009394589868842:=()
def tw3395421891265154118:=()
def tw14533942138305178438:=()
def tw3802189782948829033:=()
end PySem.W.Fast
namespace K10
open PySem PySem.Spec PyProof.Rows L2 L3 L4
theorem all_mk{l:PySem.W.OpenLaw}{w:World}{K:Fg}{h:Heap}{mg:zzl}{fa CA_Row:Addr}(X:K.In h)(G:h.Ns mainGlobals mg)(hfa:mg "law" = some (.ref fa))(w0:Ci K "Row" CA_Row ag)(p0:Fa K "_wall" oN)(p1:Fa K "shown_row" gp)(p2:Fa K "shown_rule" fG)(p3:Fa K "number_of" gv)(p4:Fi K CA_Row "Row.__init__" dZ)(p5:Fm K CA_Row "refuse" "Row.refuse" fK)(p6:Fm K CA_Row "has_more" "Row.has_more" dY)(p7:Fm K CA_Row "upcoming" "Row.upcoming" dX)(p8:Fm K CA_Row "take_word" "Row.take_word" dF)(p9:Fm K CA_Row "take_number" "Row.take_number" cJ)(p10:Fm K CA_Row "take_sorts" "Row.take_sorts" cY)(p11:Fm K CA_Row "finish" "Row.finish" fL)(p12:Fa K "begun_row" gw)(p13:Fa K "read_rooms" fH)(p14:Fa K "read_starts" eV)(p15:Fa K "read_says" gq)(p16:Fa K "unchanging" fF)(p17:Fa K "read_meeting" dW)(p18:Fa K "read_rule" gs)(p19:Fa K "_law_feed" gA)(p20:Fa K "_law_next" gz)(p21:Fa K "_law_one" im)(p22:Fa K "_law_rule" gx)(p23:Fa K "_law_great" fJ)(p24:Fa K "_law_rows" gy)(p25:Fa K "law" yq)(q0:Xa K "NoText" "NoText.__init__" eW ["row", "word"])(kc0:Kc K "MOST_ROOMS" (.int 40))(kc1:Kc K "MOST_SORTS" (.int 4))(kc2:Kc K "FIGURES" (.str "0123456789"))(kc3:Kc K "MOST_FIGURES" (.int 9))(bz:(BL.all λx=>Gs (PySem.W.nsIn K mainGlobals x))=true) :
  ∃fd:FuncData,(∀(s:Shared) (v:Value),BindsTo s fd ⟨[v],[]⟩ [("_law_script",v)])/\∀base:Heap,K.In base->base.Ns mainGlobals mg->FnOk l.prog w K mg base (CX1 l.prog w) 9 fa fd ["_law_script"] (spD K 1 pK):=by
 obtain⟨IC_Row,NF_Row⟩:=w0
 obtain⟨f0,fd0,a0,F0⟩:=p0
 obtain⟨f1,fd1,a1,F1⟩:=p1
 obtain⟨f2,fd2,a2,F2⟩:=p2
 obtain⟨f3,fd3,a3,F3⟩:=p3
 obtain⟨f4,fd4,a4,F4⟩:=p4
 obtain⟨f5,fd5,a5,F5⟩:=p5
 obtain⟨f6,fd6,a6,F6⟩:=p6
 obtain⟨f7,fd7,a7,F7⟩:=p7
 obtain⟨f8,fd8,a8,F8⟩:=p8
 obtain⟨f9,fd9,a9,F9⟩:=p9
 obtain⟨f10,fd10,a10,F10⟩:=p10
 obtain⟨f11,fd11,a11,F11⟩:=p11
 obtain⟨f12,fd12,a12,F12⟩:=p12
 obtain⟨f13,fd13,a13,F13⟩:=p13
 obtain⟨f14,fd14,a14,F14⟩:=p14
 obtain⟨f15,fd15,a15,F15⟩:=p15
 obtain⟨f16,fd16,a16,F16⟩:=p16
 obtain⟨f17,fd17,a17,F17⟩:=p17
 obtain⟨f18,fd18,a18,F18⟩:=p18
 obtain⟨f19,fd19,a19,F19⟩:=p19
 obtain⟨f20,fd20,a20,F20⟩:=p20
 obtain⟨f21,fd21,a21,F21⟩:=p21
 obtain⟨f22,fd22,a22,F22⟩:=p22
 obtain⟨f23,fd23,a23,F23⟩:=p23
 obtain⟨f24,fd24,a24,F24⟩:=p24
 obtain⟨f25,fd25,a25,F25⟩:=p25
 obtain⟨C0,D0,g0,gd0,b0,G0,x0,y0,z0,u0,v0⟩:=q0
 cases hfa.symm.trans (PySem.W.mg_of X G a25)
 have B:BN mg:=GK X G bz
 have Kn:KN mg:=⟨vA X G kc0,vA X G kc1,vA X G kc2,vA X G kc3⟩
 refine⟨fd25,λs v=>?_,λbase _ _=>?_⟩
 ·obtain⟨_,_,_,_,_,_,_,_,_,rfl,_⟩:=F25.ex
  exact .of_eq rfl
 have X_NoText:=xJ (P:=l.prog) (w:=w) (base:=base) G0 x0 (PySem.W.mg_of X G b0) y0 z0 u0 v0
 have ga8:=zc (P:=l.prog) (w:=w) (base:=base) F0 (PySem.W.mg_of X G a0) B Kn
 have gaA:=o9 (P:=l.prog) (w:=w) (base:=base) F1 (PySem.W.mg_of X G a1) B Kn
 have gaD:=mX (P:=l.prog) (w:=w) (base:=base) F2 (PySem.W.mg_of X G a2) B Kn gaA
 have gaP:=pk (P:=l.prog) (w:=w) (base:=base) F3 (PySem.W.mg_of X G a3) B Kn
 have gaE:=kz (P:=l.prog) (w:=w) (base:=base) F4 a4 (PySem.W.mg_of X G IC_Row.ns) B Kn IC_Row NF_Row
 have gah:=m5 (P:=l.prog) (w:=w) (base:=base) F5 a5 B Kn IC_Row NF_Row X_NoText
 have gak:=ky (P:=l.prog) (w:=w) (base:=base) F6 a6 B Kn IC_Row NF_Row
 have gat:=kx (P:=l.prog) (w:=w) (base:=base) F7 a7 B Kn IC_Row NF_Row gak gah
 have gaq:=jJ (P:=l.prog) (w:=w) (base:=base) F8 a8 B Kn IC_Row NF_Row gat gah
 have gac:=iB (P:=l.prog) (w:=w) (base:=base) F9 a9 B Kn IC_Row NF_Row gaP gat gah
 have gbc:=iT (P:=l.prog) (w:=w) (base:=base) F10 a10 B Kn IC_Row NF_Row ga8
 have gai:=m6 (P:=l.prog) (w:=w) (base:=base) F11 a11 B Kn IC_Row NF_Row gak gah
 have gan:=pA (P:=l.prog) (w:=w) (base:=base) F12 (PySem.W.mg_of X G a12) B Kn IC_Row NF_Row gaE gaq X_NoText
 have gaL:=mY (P:=l.prog) (w:=w) (base:=base) F13 (PySem.W.mg_of X G a13) B Kn IC_Row NF_Row gan gac gai
 have gaH:=lH (P:=l.prog) (w:=w) (base:=base) F14 (PySem.W.mg_of X G a14) B Kn IC_Row NF_Row gan gai gac gak
 have gaQ:=pf (P:=l.prog) (w:=w) (base:=base) F15 (PySem.W.mg_of X G a15) B Kn IC_Row NF_Row gan gai gaq
 have gaK:=mW (P:=l.prog) (w:=w) (base:=base) F16 (PySem.W.mg_of X G a16) B Kn
 have gaF:=kq (P:=l.prog) (w:=w) (base:=base) F17 (PySem.W.mg_of X G a17) B Kn IC_Row NF_Row gan gac gai gaK
 have gaJ:=pj (P:=l.prog) (w:=w) (base:=base) F18 (PySem.W.mg_of X G a18) B Kn gaL gaH gaQ gaF
 have gaR:=pG (P:=l.prog) (w:=w) (base:=base) F19 (PySem.W.mg_of X G a19) B Kn
 have gab:=pF (P:=l.prog) (w:=w) (base:=base) F20 (PySem.W.mg_of X G a20) B Kn
 have gaz:=q9 (P:=l.prog) (w:=w) (base:=base) F21 (PySem.W.mg_of X G a21) B Kn gab
 have gaS:=pC (P:=l.prog) (w:=w) (base:=base) F22 (PySem.W.mg_of X G a22) B Kn gab gaz
 have gaN:=mZ (P:=l.prog) (w:=w) (base:=base) F23 (PySem.W.mg_of X G a23) B Kn gaz gab
 have gaI:=pE (P:=l.prog) (w:=w) (base:=base) F24 (PySem.W.mg_of X G a24) B Kn
 exact Ej F25 B Kn gaR gaI gaD gab gaN gaS gaJ
theorem walk{l:PySem.W.OpenLaw}{q:Program}{loose:List Str}{XP:(Str->Option Value)->Heap->Prop}{YP:World->Heap->Prop}{d:DefRec}{K:Params->Fg}(main:∀ns:List Int,ns.length<=63->vS (.list (ns.map PyData.int))=.ret (.bool true))(hn:l.most=some 63)(hdf:d.params.defaults=[])
  (hY:∀(w:World) (h:Heap),YP w h->(K w.params).In h)
  (F:∀(w:World) (mg:zzl) (fa:Addr) (h:Heap),(K w.params).In h->h.Ns mainGlobals mg->mg d.name=some (.ref fa) ->
   ∃fd:FuncData,(∀(s:Shared) (u:Value),BindsTo s fd ⟨[u],[]⟩ [("_law_script",u)])/\∀base:Heap,(K w.params).In base->base.Ns mainGlobals mg->FnOk l.prog w (K w.params) mg base (CX1 l.prog w) 9 fa fd ["_law_script"] (spD (K w.params) 1 pK)) :
  PySem.W.WalkO q loose XP YP l.row.toRowW d [] (λf vs=>PySem.call f vs) :=
 L2.walk_of (n:=63) (k:=9) (x := "_law_script") (CX:=λw=>CX1 l.prog w) (sp:=λw=>spD (K w.params) 1 pK) hn (by decide) hdf ⟨rfl,by decide,by decide,rfl⟩ hY F (λw H a ns hl _ hS=>wZ hS (main ns hl)) λ_ _ _ _ _ ⟨_,_,_,_,_,_,_,_,_,_,z⟩=>z
end K10
open PySem PySem.W PyProof.Rows L4
set_option maxRecDepth 100000 in
set_option maxHeartbeats 0 in
theorem PySem.Challenge.cw_passersby_k10_rules_as_rows_holds : PySem.Challenge.rw_passersby_k10_rules_as_rows.Holds := by
 w_on;o_law;k_head;(case hw=>w_witness2)
 k_fill
 refine K10.walk (l:=PySem.Challenge.rw_passersby_k10_rules_as_rows) K10.main rfl rfl (λw h Y=>PySem.W.kIn_of Y) ?F
 case F =>
  intro w mg fa h KX G hmg
  refine' K10.all_mk KX G hmg (GJ ?wa0 ?wb0 ?wc0 ?wd0 ?we0 (naC ?n0_0 (naC ?n0_1 (naC ?n0_2 (naC ?n0_3 na0))))) (cV ?a0 ?l0 ?c0 ?k0) (cV ?a1 ?l1 ?c1 ?k1) (cV ?a2 ?l2 ?c2 ?k2) (cV ?a3 ?l3 ?c3 ?k3) (GE ?a4 ?l4 ?c4 ?k4 ?i4 ?m4 ?o4) (lY ?a5 ?l5 ?c5 ?k5 ?i5) (lY ?a6 ?l6 ?c6 ?k6 ?i6) (lY ?a7 ?l7 ?c7 ?k7 ?i7) (lY ?a8 ?l8 ?c8 ?k8 ?i8) (lY ?a9 ?l9 ?c9 ?k9 ?i9) (lY ?a10 ?l10 ?c10 ?k10 ?i10) (lY ?a11 ?l11 ?c11 ?k11 ?i11) (cV ?a12 ?l12 ?c12 ?k12) (cV ?a13 ?l13 ?c13 ?k13) (cV ?a14 ?l14 ?c14 ?k14) (cV ?a15 ?l15 ?c15 ?k15) (cV ?a16 ?l16 ?c16 ?k16) (cV ?a17 ?l17 ?c17 ?k17) (cV ?a18 ?l18 ?c18 ?k18) (cV ?a19 ?l19 ?c19 ?k19) (cV ?a20 ?l20 ?c20 ?k20) (cV ?a21 ?l21 ?c21 ?k21) (cV ?a22 ?l22 ?c22 ?k22) (cV ?a23 ?l23 ?c23 ?k23) (cV ?a24 ?l24 ?c24 ?k24) (cV ?a25 ?l25 ?c25 ?k25) (EO ?xa0 ?xb0 ?xc0 ?xd0 ?xe0 ?xf0 ?xg0 ?xh0 ?xi0 ?xj0 ?xk0 ?xl0 ?xm0 ?xp0 ?xq0 ?xr0 ?xo0 (naC ?y0_0 (naC ?y1_0 na0))) (vy ?ga0 ?gb0) (vy ?ga1 ?gb1) (vy ?ga2 ?gb2) (vy ?ga3 ?gb3) ?bz
  (case wa0=>k_is)
  (case wb0|wc0|wd0=>kernel_rfl)
  (case we0|n0_0|n0_1|n0_2|n0_3|a0|l0|c0|k0|a1|l1|c1|k1|a2|l2|c2|k2|a3|l3|c3|k3|a4|l4|c4|k4=>k_is)
  (case i4|m4=>kernel_rfl)
  (case o4|a5|l5|c5|k5=>k_is)
  (case i5=>kernel_rfl)
  (case a6|l6|c6|k6=>k_is)
  (case i6=>kernel_rfl)
  (case a7|l7|c7|k7=>k_is)
  (case i7=>kernel_rfl)
  (case a8|l8|c8|k8=>k_is)
  (case i8=>kernel_rfl)
  (case a9|l9|c9|k9=>k_is)
  (case i9=>kernel_rfl)
  (case a10|l10|c10|k10=>k_is)
  (case i10=>kernel_rfl)
  (case a11|l11|c11|k11=>k_is)
  (case i11=>kernel_rfl)
  (case a12|l12|c12|k12|a13|l13|c13|k13|a14|l14|c14|k14|a15|l15|c15|k15|a16|l16|c16|k16|a17|l17|c17|k17|a18|l18|c18|k18|a19|l19|c19|k19|a20|l20|c20|k20|a21|l21|c21|k21|a22|l22|c22|k22|a23|l23|c23|k23|a24|l24|c24|k24|a25|l25|c25|k25|xa0|xb0|xc0|xd0|xe0|xf0|xg0=>k_is)
  (case xh0=>kernel_rfl)
  (case xi0|xj0|xk0|xl0=>k_is)
  (case xm0=>kernel_rfl)
  (case xp0|xq0|xr0=>k_is)
  (case xo0=>kernel_rfl)
  (case y0_0|y1_0|ga0=>k_is)
  (case gb0=>first|exact⟨_,rfl⟩|rfl)
  (case ga1=>k_is)
  (case gb1=>first|exact⟨_,rfl⟩|rfl)
  (case ga2=>k_is)
  (case gb2=>first|exact⟨_,rfl⟩|rfl)
  (case ga3=>k_is)
  (case gb3=>first|exact⟨_,rfl⟩|rfl)
  (case bz=>kernel_rfl)
