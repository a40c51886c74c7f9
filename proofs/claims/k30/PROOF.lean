import PyProof.Rows.All
import Wide.All
import OpenK.AllK
import Wide.FinOn
import Lean
import PyProof.EqAt
import PyProof.EqKinds
import PyProof.TupleCall
import PySem.Challenge.RW_passersby_k30_what_comes
noncomputable section
set_option Elab.async false
set_option linter.all false
set_option maxRecDepth 100000
namespace L2
open PySem PySem.Spec PyProof.Rows
noncomputable abbrev Key:=Sum Int Str
noncomputable def Vg_:Key->Value->Bool
 | .inl k,v=>Value.isInt k v
 | .inr x,v=>Value.isStrOf x v
noncomputable def keyH (w:World):Key->Int
 | .inl k=>hashInt k
 | .inr x=>hashStr w x
theorem zF_:∀ {k:Key} {v:Value},Vg_ k v=true->(∃ i t,k=Sum.inl i/\v=Value.int i t)\/(∃ x t,k=Sum.inr x/\v=Value.str x t)
 | .inl i,v,h=>by
  obtain ⟨t,e⟩:=Value.isInt_shape (k:=i) (v:=v) h
  exact .inl ⟨i,t,rfl,e⟩
 | .inr x,v,h=>by
  obtain ⟨t,e⟩:=Value.isStrOf_shape (x:=x) (v:=v) h
  exact .inr ⟨x,t,rfl,e⟩
theorem WM_ (i:Int) (t:Tok):Vg_ (.inl i) (.int i t)=true:=by simp [Vg_,Value.isInt]
theorem WL_ (x:Str) (t:Tok):Vg_ (.inr x) (.str x t)=true:=by simp [Vg_,Value.isStrOf]
theorem zfM_ (a b:Int):decide ((Sum.inl a:Key)=Sum.inl b)=(a==b):=by
 by_cases e:a=b
 ·subst e;simp
 ·have h:¬ (Sum.inl a:Key)=Sum.inl b:=fun q=>e (Sum.inl.inj q)
  rw [decide_eq_false h]
  exact (beq_eq_false_iff_ne.mpr e).symm
theorem zfJ_ (a b:Str):decide ((Sum.inr a:Key)=Sum.inr b)=decide (a=b):=by
 by_cases e:a=b
 ·subst e;simp
 ·have h:¬ (Sum.inr a:Key)=Sum.inr b:=fun q=>e (Sum.inr.inj q)
  rw [decide_eq_false h,decide_eq_false e]
theorem zfL_ (a:Int) (b:Str):decide ((Sum.inl a:Key)=Sum.inr b)=false:=decide_eq_false (fun q=>nomatch q)
theorem zfK_ (a:Str) (b:Int):decide ((Sum.inr a:Key)=Sum.inl b)=false:=decide_eq_false (fun q=>nomatch q)
noncomputable def zC_ (prog:Program) (w:World):PySem.KeyKind prog w Key where
 is:=Vg_
 hash:=keyH w
 inj:=fun v a b ha hb=>by
  rcases zF_ ha with ⟨i,t,rfl,rfl⟩|⟨x,t,rfl,rfl⟩
  ·rcases zF_ hb with ⟨j,u,rfl,e⟩|⟨y,u,rfl,e⟩
   ·injection e with e1 _;rw [e1]
   ·exact nomatch e
  ·rcases zF_ hb with ⟨j,u,rfl,e⟩|⟨y,u,rfl,e⟩
   ·exact nomatch e
   ·injection e with e1 _;rw [e1]
 byValue:=fun k v h=>by
  rcases zF_ h with ⟨i,t,rfl,rfl⟩|⟨x,t,rfl,rfl⟩<;>rfl
 pyHash:=fun hv h=>by
  rcases zF_ hv with ⟨i,t,rfl,rfl⟩|⟨x,t,rfl,rfl⟩
  ·exact wpAny_pyHash_int h
  ·exact wpAny_pyHash_str h
 eqBool:=fun hu hv h=>by
  rcases zF_ hu with ⟨i,t,rfl,rfl⟩|⟨x,t,rfl,rfl⟩
  ·rcases zF_ hv with ⟨j,u,rfl,rfl⟩|⟨y,u,rfl,rfl⟩
   ·rw [zfM_] at h;exact wpAny_eqBool_int h
   ·rw [zfL_] at h;exact SeqAt.EqAt.int_str i t y u _ _ _ _ h
  ·rcases zF_ hv with ⟨j,u,rfl,rfl⟩|⟨y,u,rfl,rfl⟩
   ·rw [zfK_] at h;exact SeqAt.EqAt.str_int x t j u _ _ _ _ h
   ·rw [zfJ_] at h;exact wpAny_eqBool_str h
 «strs»:=fun k x t v h=>by
  rcases zF_ h with ⟨i,u,rfl,e⟩|⟨y,u,rfl,e⟩
  ·exact nomatch e
  ·injection e with e1 _
   subst e1
   cases v<;>rfl
theorem YA_ (prog:Program) (w:World) (i:Int) (t:Tok):(zC_ prog w).is (.inl i) (.int i t)=true:=WM_ i t
theorem Yz_ (prog:Program) (w:World) (x:Str) (t:Tok):(zC_ prog w).is (.inr x) (.str x t)=true:=WL_ x t
inductive V where
 | non|bl (b:Bool)|int (i:Int)|str (x:Str)|byt (b:Array UInt8)|flt (b:UInt64)|ref (a:Addr)|ty (n:String)
 deriving DecidableEq
noncomputable def RelV:V->Value->Prop
 | .non,u=>u=Value.none
 | .bl b,u=>u=Value.bool b
 | .int i,u=>∃ t,u=Value.int i t
 | .str x,u=>∃ t,u=Value.str x t
 | .byt b,u=>∃ t,u=Value.bytes b t
 | .flt b,u=>∃ t,u=Value.float b t
 | .ref a,u=>u=Value.ref a
 | .ty n,u=>u=Value.type n
abbrev Vals:List V->List Value->Prop:=Paired RelV
theorem Vals.length {xs:List V} {us:List Value} (r:Vals xs us):xs.length=us.length:=Paired.length r
theorem Vals.get:∀ {xs:List V} {us:List Value} {i:Nat} {x:V},Vals xs us->xs[i]? = some x->∃ u,us[i]? = some u/\RelV x u
 | _,_,_,_,.nil,e=>by simp at e
 | _,_,0,_,.cons r _,e=>by simp at e;subst e;exact ⟨_,rfl,r⟩
 | _,_,i+1,x,.cons _ t,e=>by
  obtain ⟨u,h1,h2⟩:=Vals.get (i:=i) (x:=x) t (by simpa using e)
  exact ⟨u,by simpa using h1,h2⟩
theorem Vals.set {x:V} {u:Value} (r:RelV x u):∀ {xs:List V} {us:List Value} (i:Nat),Vals xs us->Vals (xs.set i x) (us.set i u)
 | _,_,_,.nil=>.nil
 | _,_,0,.cons _ t=>.cons r t
 | _,_,i+1,.cons q t=>.cons q (Vals.set r i t)
theorem Vals.append {xs ys:List V} {us ws:List Value} (h:Vals xs us) (s:Vals ys ws):Vals (xs++ys) (us++ws):=by
 induction h with
 | nil=>exact s
 | cons r _ ih=>exact .cons r ih
theorem Vals.take:∀ {xs:List V} {us:List Value} (n:Nat),Vals xs us->Vals (xs.take n) (us.take n)
 | _,_,0,_=>.nil
 | _,_,_+1,.nil=>.nil
 | _,_,n+1,.cons r t=>.cons r (Vals.take n t)
theorem Vals.drop:∀ {xs:List V} {us:List Value} (n:Nat),Vals xs us->Vals (xs.drop n) (us.drop n)
 | _,_,0,r=>r
 | _,_,_+1,.nil=>.nil
 | _,_,n+1,.cons _ t=>Vals.drop n t
noncomputable def RelO:Option V->Option Value->Prop
 | some v,some u=>RelV v u
 | none,none=>True
 | _,_=>False
def KV {κ:Type}:List (κ×V)->List (κ×Value)->Prop:=Paired fun (p:κ×V) (q:κ×Value)=>p.1=q.1/\RelV p.2 q.2
noncomputable def kV:Key->V
 | .inl i=>.int i
 | .inr x=>.str x
inductive HO where
 | lst (xs:List V)
 | tup (xs:List V)
 | dK (kvs:List (Key×V))|dT (kvs:List (List Key×V))
 | set (S:Int->Bool) (n:Nat)
 | ins (C dx:Addr) (fs:List (Str×V))
 | own (x:Addr)
 | xd (fs:List (Str×V))
 | met (f x:Addr)
 | rng (lo hi:Int)
 | frz (o:Obj) (u:HO)
 | tbl (ps:Array Value)
 | ext (φ:Heap->Prop)
noncomputable abbrev Hp:=Addr->Option HO
noncomputable def upd (H:Hp) (a:Addr) (o:HO):Hp:=fun b=>if b=a then some o else H b
theorem zi_ {H:Hp} {a:Addr} {o:HO}:upd H a o a=some o:=by unfold upd;rw [if_pos rfl]
theorem zf_ {H:Hp} {a b:Addr} {o:HO} (h:b≠a):upd H a o b=H b:=by unfold upd;rw [if_neg h]
theorem zfu_ {H:Hp} {a b:Addr} {o u:HO} (h:H a=some o) (h':H b=some u) (d:o≠u):a≠b:=by
 intro e;subst e;rw [h] at h';exact d (Option.some.inj h')
theorem zl_ {H:Hp} {a b:Addr} {o:HO} (h:H a=some o) (h':H b=none):a≠b:=by
 intro e;subst e;rw [h] at h';cases h'
section
variable (P:Program) (w:World)
def _root_.L2.TupN (h:Heap) (a:Addr):Prop:=∃ o,h.get? a=some o/\o.dict=none
theorem _root_.L2.TupN.new (h:Heap) (items:Array Value):TupN (h.push { cls:=.type "tuple",data:=.seq items }) h.objs.size:=⟨_,Heap.get?_push_size _ rfl,rfl⟩
noncomputable def ObjOk (H:Hp) (h:Heap) (a:Addr):HO->Prop
 | .lst xs=>xs.length<=sizeLine/\∃ (its:List Value) (n:Nat),Vals xs its/\h.get? a=some { cls:=.type "list",data:=.seq its.toArray n }
 | .tup xs=>xs.length<=sizeLine/\∃ its:List Value,Vals xs its/\IsTup h a its.toArray/\TupN h a
 | .dK kvs=>kvs.length<=sizeLine/\(a==sysModules)=false/\∃ vs,KV kvs vs/\h.DictOf (zC_ P w) a vs
 | .dT kvs=>kvs.length<=sizeLine/\(a==sysModules)=false/\∃ xs:List (List Key×Addr×Value),
   Paired (fun (p:List Key×V) (q:List Key×Addr×Value)=>p.1=q.1/\H q.2.1=some (.tup (p.1.map kV))/\RelV p.2 q.2.2) kvs xs /\
   ∃ o es ep,h.get? a=some o/\o.ExactDict/\o.data=.dict es ep/\es.toList=xs.map (entryOfKey (tupleKind (zC_ P w)))/\(xs.map (·.1)).Nodup
 | .set S n=>h.SetOf (intKind P w) a S n
 | .ins C dx fs=>H dx=some (.own a)/\fs.length<=1000/\dx≠a/\h.get? a=some (PySem.W.instObj C dx) /\
   ∃ mA,h.Ns1 dx mA/\(∀ f,RelO (fs.lookup f) (mA f))/\PySem.Within mA (fs.map (·.1))
 | .own _=>∃ o,h.get? a=some o
 | .xd fs=>∃ mA,h.Ns1 a mA/\∀ f,RelO (fs.lookup f) (mA f)
 | .rng lo hi=>∃ t u v,h.get? a=some { cls:=.type "range",data:=.fields #[.int lo t,.int hi u,.int 1 v] }
 | .frz o u=>h.get? a=some o/\ObjOk H h a u
 | .tbl ps=>h.get? a=some { cls:=.none,data:=.fields ps }
 | .met f x=>h.get? a=some (PySem.W.methodObj (.ref f) (.ref x))
 | .ext φ=>φ h/\(∃ o,h.get? a=some o)/\∀ h1 h2:Heap,φ h1->(∀ o,h1.get? a=some o->h2.get? a=some o)->φ h2
def HOk (H:Hp) (h:Heap):Prop:=∀ a o,H a=some o->ObjOk P w H h a o
end
section
variable {P:Program} {w:World} {H H':Hp} {h h':Heap} {a:Addr} {o:HO}
theorem ObjOk.lt (x:ObjOk P w H h a o):a<h.objs.size:=by
 cases o with
 | lst xs=>obtain ⟨_,_,_,_,e⟩:=x;exact Heap.lt_size e
 | tup xs=>obtain ⟨_,_,_,p⟩:=x;exact p.1.lt
 | dK kvs=>obtain ⟨_,_,_,_,o,_,_,e,_⟩:=x;exact Heap.lt_size e
 | dT kvs=>obtain ⟨_,_,_,_,o,_,_,e,_⟩:=x;exact Heap.lt_size e
 | set S n=>obtain ⟨o,_,_,_,e,_⟩:=x;exact Heap.lt_size e
 | ins C dx fs=>obtain ⟨_,_,_,e,_⟩:=x;exact Heap.lt_size e
 | own y=>obtain ⟨_,e⟩:=x;exact Heap.lt_size e
 | xd fs=>obtain ⟨_,⟨_,_,_,e,_⟩,_⟩:=x;exact Heap.lt_size e
 | rng lo hi=>obtain ⟨_,_,_,e⟩:=x;exact Heap.lt_size e
 | frz ob u=>obtain ⟨e,_⟩:=x;exact Heap.lt_size e
 | tbl ps=>exact Heap.lt_size (show h.get? a=some _ from x)
 | met f y=>exact Heap.lt_size (show h.get? a=some _ from x)
 | ext φ=>obtain ⟨_,⟨_,e⟩,_⟩:=x;exact Heap.lt_size e
theorem Paired.mapP {α β:Type} {F G:α->β->Prop} {l₁:List α} {l₂:List β} (h:Paired F l₁ l₂) (f:∀ a b,F a b->G a b):Paired G l₁ l₂:=by
 induction h with
 | nil=>exact .nil
 | cons r _ ih=>exact .cons (f _ _ r) ih
theorem ObjOk.stay (x:ObjOk P w H h a o) (k:∀ b u,(b=a\/H b=some (.own a))->h.get? b=some u->h'.get? b=some u)
  (ho:∀ b,H b=some (.own a)->H' b=some (.own a)) (ht:∀ b xs,H b=some (.tup xs)->H' b=some (.tup xs)):ObjOk P w H' h' a o:=by
 induction o with
 | lst xs=>obtain ⟨z,its,n,r,e⟩:=x;exact ⟨z,its,n,r,k _ _ (.inl rfl) e⟩
 | tup xs=>obtain ⟨z,its,r,⟨ob,e,c⟩,ob2,e2,c2⟩:=x;exact ⟨z,its,r,⟨ob,k _ _ (.inl rfl) e,c⟩,ob2,k _ _ (.inl rfl) e2,c2⟩
 | dK kvs=>obtain ⟨z,y,vs,r,ob,es,ep,e,c⟩:=x;exact ⟨z,y,vs,r,ob,es,ep,k _ _ (.inl rfl) e,c⟩
 | dT kvs =>
  obtain ⟨z,y,xs,r,ob,es,ep,e,c⟩:=x
  exact ⟨z,y,xs,Paired.mapP r fun p q z=>⟨z.1,ht _ _ z.2.1,z.2.2⟩,ob,es,ep,k _ _ (.inl rfl) e,c⟩
 | set S n=>obtain ⟨ob,es,ep,t,e,c⟩:=x;exact ⟨ob,es,ep,t,k _ _ (.inl rfl) e,c⟩
 | ins C dx fs =>
  obtain ⟨d,z,ne,e,mA,⟨od,es,ep,e2,c⟩,r⟩:=x
  exact ⟨ho _ d,z,ne,k _ _ (.inl rfl) e,mA,⟨od,es,ep,k _ _ (.inr d) e2,c⟩,r⟩
 | own y=>obtain ⟨ob,e⟩:=x;exact ⟨ob,k _ _ (.inl rfl) e⟩
 | xd fs=>obtain ⟨mA,⟨od,es,ep,e,c⟩,r⟩:=x;exact ⟨mA,⟨od,es,ep,k _ _ (.inl rfl) e,c⟩,r⟩
 | rng lo hi=>obtain ⟨t,u,v,e⟩:=x;exact ⟨t,u,v,k _ _ (.inl rfl) e⟩
 | frz ob u ih=>obtain ⟨e,q⟩:=x;exact ⟨k _ _ (.inl rfl) e,ih q⟩
 | tbl ps =>
  have e:h.get? a=some { cls:=.none,data:=.fields ps }:=x
  show h'.get? a=some { cls:=.none,data:=.fields ps }
  exact k a _ (.inl rfl) e
 | met f y =>
  have e:h.get? a=some (PySem.W.methodObj (.ref f) (.ref y)):=x
  show h'.get? a=some (PySem.W.methodObj (.ref f) (.ref y))
  exact k a _ (.inl rfl) e
 | ext φ=>obtain ⟨p,⟨o,e⟩,st⟩:=x;exact ⟨st _ _ p fun o q=>k _ _ (.inl rfl) q,⟨o,k _ _ (.inl rfl) e⟩,st⟩
theorem HOk.lt (x:HOk P w H h) (e:H a=some o):a<h.objs.size:=(x a o e).lt
theorem HOk.fresh (x:HOk P w H h) (e:h.objs.size<=a):H a=none:=by
 cases q:H a with
 | none=>rfl
 | some u=>exact absurd (Nat.lt_of_lt_of_le (x.lt q) e) (Nat.lt_irrefl _)
theorem HOk.kept (x:HOk P w H h) (k:∀ b u,h.get? b=some u->h'.get? b=some u):HOk P w H h':=fun a o e =>
 (x a o e).stay (fun b u _ q=>k b u q) (fun _ q=>q) fun _ _ q=>q
theorem HOk.laid (x:HOk P w H h) (k:∀ b u,h.get? b=some u->h'.get? b=some u) (hp:h.objs.size<=a) (new:ObjOk P w (upd H a o) h' a o):HOk P w (upd H a o) h':=fun b u e=>by
 have hn:=x.fresh hp
 by_cases hb:b=a
 ·subst hb;rw [zi_] at e;cases e;exact new
 ·rw [zf_ hb] at e
  exact (x b u e).stay (fun c v _ q=>k c v q) (fun c q=>by rw [zf_ (zl_ q hn)];exact q) fun c xs q=>by rw [zf_ (zl_ q hn)];exact q
end
def Rd (H:Hp) (a:Addr) (u:HO):Prop:=H a=some u\/∃ o,H a=some (.frz o u)
theorem Rd.ok {P:Program} {w:World} {H:Hp} {h:Heap} {a:Addr} {u:HO} (r:Rd H a u) (x:HOk P w H h):ObjOk P w H h a u:=by
 rcases r with r|⟨o,r⟩
 ·exact x a u r
 ·obtain ⟨_,q⟩:=x a _ r
  exact q
noncomputable def Mut:Option HO->Prop
 | some (.lst _)=>True
 | some (.dK _)=>True
 | some (.dT _)=>True
 | some (.set _ _)=>True
 | some (.ins _ _ _)=>True
 | some (.ext _)=>True
 | _=>False
section
variable {P:Program} {w:World} {H:Hp} {h h':Heap} {x e:Addr} {o':HO}
theorem HOk.write (ok:HOk P w H h) (mu:Mut (H x)) (he:e=x\/H e=some (.own x)) (k:∀ b u,b≠e->h.get? b=some u->h'.get? b=some u) (heo:∃ u,h'.get? e=some u)
  (new:ObjOk P w (upd H x o') h' x o'):HOk P w (upd H x o') h':=fun b u q=>by
 have nown:∀ c y,H c=some (.own y)->c≠x:=fun c y r z=>by subst z;rw [r] at mu;exact mu
 have ntup:∀ c xs,H c=some (.tup xs)->c≠x:=fun c xs r z=>by subst z;rw [r] at mu;exact mu
 by_cases hb:b=x
 ·subst hb;rw [zi_] at q;cases q;exact new
 ·rw [zf_ hb] at q
  by_cases hbe:b=e
  ·have q':H b=some (.own x):=by
    rcases he with z|z
    ·exact absurd (hbe.trans z) hb
    ·rw [hbe];exact z
   rw [q] at q';cases q'
   obtain ⟨v,hv⟩:=heo
   exact ⟨v,by rw [hbe];exact hv⟩
  ·refine (ok b u q).stay (fun c v hc r=>k c v ?_ r) (fun c r=>by rw [zf_ (nown c b r)];exact r) fun c xs r=>by rw [zf_ (ntup c xs r)];exact r
   rcases hc with rfl|hc
   ·exact hbe
   ·rintro rfl
    rcases he with z|z
    ·exact nown c b hc z
    ·rw [hc] at z;cases z;exact hb rfl
end
structure Un (fs ex:List Addr) (H H':Hp) (h h':Heap):Prop where
 keep:∀ b o,h.get? b=some o->H b=none->b∉fs->b∉ex->h'.get? b=some o
 slot:∀ b o,h.get? b=some o->H b=none->b∈fs->b∉ex->∃ sl,h'.get? b=some { o with slots:=sl }
 free:∀ b o,h.get? b=some o->H b=none->b∉ex->H' b=none
 there:∀ b o,h.get? b=some o->b∉ex->∃ o',h'.get? b=some o'
 tups:∀ b xs,H b=some (.tup xs)->H' b=some (.tup xs)
 frzs:∀ b o u,H b=some (.frz o u)->H' b=some (.frz o u)
 tbls:∀ b ps,H b=some (.tbl ps)->∃ more,H' b=some (.tbl (ps++more))
section
variable {fs fs' ex ex':List Addr} {H H1 H2:Hp} {h h1 h2 h':Heap} {a x e:Addr} {o:HO}
theorem Un.any (u:Un fs ex H H1 h h1) {b:Addr} {ob:Obj} (q:h.get? b=some ob) (n:H b=none) (hx:b∉ex):∃ sl,h1.get? b=some { ob with slots:=sl }:=by
 by_cases hb:b∈fs
 ·exact u.slot b ob q n hb hx
 ·exact ⟨ob.slots,u.keep b ob q n hb hx⟩
theorem Un.kept (k:∀ b u,h.get? b=some u->h'.get? b=some u):Un fs ex H H h h' :=
 ⟨fun b ob q _ _ _=>k b ob q,fun b ob q _ _ _=>⟨ob.slots,k b ob q⟩,fun _ _ _ n _=>n,fun b ob q _=>⟨ob,k b ob q⟩,fun _ _ q=>q,fun _ _ _ q=>q,fun _ ps q=>⟨#[],by rw [q];simp⟩⟩
theorem Un.refl:Un fs ex H H h h:=Un.kept fun _ _ q=>q
theorem Un.laid (k:∀ b u,h.get? b=some u->h'.get? b=some u) (hp:h.objs.size<=a) (hn:H a=none):Un fs ex H (upd H a o) h h' where
 keep:=fun b u q _ _ _=>k b u q
 slot:=fun b u q _ _ _=>⟨u.slots,k b u q⟩
 free:=fun b u q n _=>by rw [zf_ (Nat.ne_of_lt (Nat.lt_of_lt_of_le (Heap.lt_size q) hp))];exact n
 there:=fun b u q _=>⟨u,k b u q⟩
 tups:=fun b xs q=>by rw [zf_ (zl_ q hn)];exact q
 frzs:=fun b u xs q=>by rw [zf_ (zl_ q hn)];exact q
 tbls:=fun b ps q=>⟨#[],by rw [zf_ (zl_ q hn),q];simp⟩
theorem Un.write (mu:Mut (H x)) (he:e=x\/H e=some (.own x)) (k:∀ b u,b≠e->h.get? b=some u->h'.get? b=some u) (heo:∃ u,h'.get? e=some u):Un fs ex H (upd H x o) h h':=by
 have hx:∀ b,H b=none->b≠x:=fun b n z=>by subst z;rw [n] at mu;exact mu
 have hb:∀ b,H b=none->b≠e:=fun b n z=>by
  subst z
  rcases he with r|r
  ·exact hx b n r
  ·rw [n] at r;cases r
 have hm:∀ b u,H b=some u->¬ Mut (some u)->b≠x:=fun b u q nm z=>by subst z;rw [q] at mu;exact nm mu
 refine ⟨fun b u q n _ _=>k b u (hb b n) q,fun b u q n _ _=>⟨u.slots,k b u (hb b n) q⟩,fun b u q n _=>by rw [zf_ (hx b n)];exact n,fun b u q _=>?_,
  fun b xs q=>by rw [zf_ (hm b _ q fun z=>z)];exact q,fun b u xs q=>by rw [zf_ (hm b _ q fun z=>z)];exact q,fun b ps q=>⟨#[],by rw [zf_ (hm b _ q fun z=>z),q];simp⟩⟩
 by_cases hbe:b=e
 ·subst hbe;exact heo
 ·exact ⟨u,k b u hbe q⟩
end
noncomputable def trk (h:Heap) (H:Hp):List Addr:=(List.range h.objs.size).filter fun a=>(H a).isSome
noncomputable def hidT (h:Heap) (H:Hp):Heap:=PySem.W.hideAll h (trk h H)
theorem WU_ (h:Heap) (H:Hp):(hidT h H).objs.size=h.objs.size:=PySem.W.hideAll_size _ _
theorem zaM_ {h:Heap} {H:Hp} {b:Addr} {o:Obj} (e:h.get? b=some o) (n:H b=none):(hidT h H).get? b=some o :=
 PySem.W.hideAll_get _ e fun hm=>by
  have q:(H b).isSome=true:=(List.mem_filter.mp hm).2
  rw [n] at q;simp at q
theorem zdg_ {h:Heap} {H:Hp} {b:Addr} {o:Obj} (e:(hidT h H).get? b=some o):h.get? b=some o/\H b=none:=by
 have e':h.get? b=some o:=PySem.W.of_hideAll (trk h H) e
 refine ⟨e',?_⟩
 cases q:H b with
 | none=>rfl
 | some x =>
  have hm:b∈trk h H:=List.mem_filter.mpr ⟨List.mem_range.mpr (Heap.lt_size e'),by simp [q]⟩
  have z:(hidT h H).get? b=none:=PySem.W.hideAll_none (trk h H) hm
  rw [z] at e;cases e
structure Mod (K:PySem.W.Frag) (mg:Str->Option Value) (base:Heap):Prop where
 kin:K.In base
 glob:base.Ns mainGlobals mg
 blt:∃ mb,base.Ns builtinsNs mb/\∀ x:Str,x ≠ "__name__" -> mb x=bootBuiltins x
 nolimit:base.NoLimit
structure Cx where
 prog:Program
 w:World
 K:PySem.W.Frag
 mg:Str->Option Value
 base:Heap
 A:Around
 N:List Str
 s₀:Shared
 H₀:Hp
 env:Env
 outer:List Env
 stack:List Env
 ex:List Addr
 fn:Str->Bool
 calm:Bool
 pn:List (Addr×Obj)
 xe:Value->Shared->Prop
noncomputable def frs (l:List Env):List Addr:=l.filterMap (·.frame)
noncomputable abbrev Cx.fs (X:Cx):List Addr:=frs X.outer
def Vis (sc:Scope) (x:Str):Prop:=sc.names.lookup x=some .local\/sc.names.lookup x=some .cell\/sc.names.lookup x=some .free
def Loc (sc:Scope) (x:Str):Prop:=sc.names.lookup x=some .local\/sc.names.lookup x=some .cell
def Look (env:Env) (h:Heap) (m:Str->Option Value) (x:Str) (u:Value):Prop :=
 (env.kindOf x=some .local/\m x=some u)\/((env.kindOf x=some .cell\/env.kindOf x=some .free)/\∃ c,env.cells.lookup x=some c/\h.IsCell c (some u))
structure Cx.Ok (X:Cx):Prop where
 mod:Mod X.K X.mg X.base
 kind:X.env.scope.kind=.function
 glob:X.env.globals=mainGlobals
 blt:X.env.builtins=builtinsNs
 above:X.s₀.heap.objs.size<=X.env.locals
 inj:∀ x y c,X.env.cells.lookup x=some c->X.env.cells.lookup y=some c->x=y
 has:∀ x,(X.env.kindOf x=some .cell\/X.env.kindOf x=some .free)->∃ c,X.env.cells.lookup x=some c
 cab:∀ x c,X.fn x=true->X.env.cells.lookup x=some c->X.s₀.heap.objs.size<=c
 hd:X.calm=true->X.A.handled=none
 frames:X.A.frames=some X.stack
 stk:X.stack=X.outer\/(X.stack=X.env::X.outer/\X.env.frame=some X.env.locals)
 exf:∀ b∈X.ex,b≠X.env.locals/\∀ x c,X.env.cells.lookup x=some c->c≠b
 bs:∀ b o,X.base.get? b=some o->X.s₀.heap.get? b=some o/\X.H₀ b=none
 bsz:X.base.objs.size<=X.s₀.heap.objs.size
 noex:∀ b o,X.base.get? b=some o->b∉X.ex
 exfs:∀ b∈X.ex,b∉X.fs
 funs:X.s₀.heap.FunFrames X.base X.outer
 frf:∀ b∈X.fs,X.H₀ b=none
structure Inv (X:Cx) (pins:List (Addr×Obj)) (σ:List (Option V)) (H:Hp) (s:Shared):Prop where
 ok:X.Ok
 os:s.os=X.s₀.os
 bare:AllBare s.gens
 base:Un X.fs X.ex X.H₀ H X.s₀.heap s.heap
 loc:∃ m,s.heap.Ns X.env.locals m/\∀ (i:Nat) (x:Str) (v:V),X.N[i]? = some x->σ[i]? = some (some v)->Vis X.env.scope x->∃ u,RelV v u/\Look X.env s.heap m x u
 cell:∀ x c,X.env.cells.lookup x=some c->∃ v,s.heap.IsCell c v
 free:H X.env.locals=none
 freeC:∀ x c,X.env.cells.lookup x=some c->H c=none
 pin:∀ p∈X.pn++pins,s.heap.get? p.1=some p.2/\H p.1=none/\p.1≠X.env.locals/\p.1∉X.fs/\∀ v,p.2.data≠.cell v
 hok:HOk X.prog X.w H s.heap
 len:σ.length=X.N.length
section
variable {X:Cx} {pins:List (Addr×Obj)} {σ:List (Option V)} {H H':Hp} {s:Shared} {h':Heap}
theorem Cx.Ok.nofr (ok:X.Ok) {b:Addr} {o:Obj} (e:X.base.get? b=some o):b∉X.fs:=fun hb=>by
 have:=(ok.funs.mem hb).1
 rw [e] at this;cases this
theorem Inv.bs (I:Inv X pins σ H s):∀ b o,X.base.get? b=some o->s.heap.get? b=some o/\H b=none:=fun b o e =>
 ⟨I.base.keep b o (I.ok.bs b o e).1 (I.ok.bs b o e).2 (I.ok.nofr e) (I.ok.noex b o e),I.base.free b o (I.ok.bs b o e).1 (I.ok.bs b o e).2 (I.ok.noex b o e)⟩
theorem Inv.bk (I:Inv X pins σ H s):∀ b o,X.base.get? b=some o->s.heap.get? b=some o:=fun b o e=>(I.bs b o e).1
theorem Inv.mod (I:Inv X pins σ H s):Mod X.K X.mg X.base:=I.ok.mod
theorem Inv.kIn (I:Inv X pins σ H s):X.K.In s.heap:=I.ok.mod.kin.keeps I.bk
theorem Inv.lt (I:Inv X pins σ H s):X.env.locals<s.heap.objs.size:=let ⟨_,hn,_⟩:=I.loc;hn.lt
theorem Inv.sz (I:Inv X pins σ H s):X.s₀.heap.objs.size<=s.heap.objs.size:=Nat.le_trans I.ok.above (Nat.le_of_lt I.lt)
theorem Inv.nofs (I:Inv X pins σ H s) {a:Addr} (h:s.heap.objs.size<=a):a∉X.fs:=fun hb=>by
 obtain ⟨_,o,ho,_⟩:=I.ok.funs.mem hb
 exact absurd (Nat.lt_of_lt_of_le (Heap.lt_size ho) (Nat.le_trans I.sz h)) (Nat.lt_irrefl _)
theorem Inv.cne (I:Inv X pins σ H s):∀ x c,X.env.cells.lookup x=some c->c≠X.env.locals:=fun x c e z=>by
 obtain ⟨v,o,ho,hd⟩:=I.cell x c e
 obtain ⟨m,⟨o',es,ep,ho',hd',_⟩,_⟩:=I.loc
 rw [z,ho'] at ho;cases ho;rw [hd'] at hd;cases hd
theorem Inv.funs (I:Inv X pins σ H s):s.heap.FunFrames X.base X.outer:=by
 have all:∀ (l:List Env),(∀ b∈frs l,b∈X.fs)->X.s₀.heap.FunFrames X.base l->s.heap.FunFrames X.base l:=by
  intro l
  induction l with
  | nil=>intro _ _;trivial
  | cons env r ih =>
   intro hs hl
   obtain ⟨hk,⟨L,o,hf,hn,ho,hd⟩,hr⟩:=hl
   have hL:L∈X.fs:=hs L (by unfold frs;rw [List.filterMap_cons,hf];exact List.mem_cons_self)
   obtain ⟨sl,e⟩:=I.base.slot L o ho (I.ok.frf L hL) hL fun z=>I.ok.exfs L z hL
   exact ⟨hk,⟨L,_,hf,hn,e,hd⟩,ih (fun b hb=>hs b (by unfold frs;rw [List.filterMap_cons,hf];exact List.mem_cons_of_mem _ hb)) hr⟩
 exact all X.outer (fun _ hb=>hb) I.ok.funs
theorem Inv.stack (I:Inv X pins σ H s):s.heap.FunFrames X.base X.stack:=by
 rcases I.ok.stk with e|⟨e,hf⟩
 ·rw [e];exact I.funs
 ·rw [e]
  obtain ⟨m,hn,_⟩:=I.loc
  refine .cons (by rw [I.ok.kind];decide) hf hn ?_ I.funs
  exact Heap.get?_none_of_le (Nat.le_trans I.ok.bsz I.ok.above)
theorem Inv.stkSub (I:Inv X pins σ H s):∀ b∈frs X.stack,b∈X.env.locals::X.fs:=fun b hb=>by
 rcases I.ok.stk with e|⟨e,hf⟩
 ·rw [e] at hb;exact List.mem_cons_of_mem _ hb
 ·rw [e] at hb
  unfold frs at hb
  rw [List.filterMap_cons,hf] at hb
  exact hb
theorem Inv.stkFree (I:Inv X pins σ H s):∀ b∈frs X.stack,H b=none:=fun b hb=>by
 rcases List.mem_cons.mp (I.stkSub b hb) with e|hb
 ·rw [e];exact I.free
 ·obtain ⟨_,o,ho,_⟩:=I.ok.funs.mem hb
  exact I.base.free b o ho (I.ok.frf b hb) fun z=>I.ok.exfs b z hb
theorem Inv.step {g':Array GenState} {t':Nat} {d':Drawn} {ch:List Addr} (I:Inv X pins σ H s)
  (hch:∀ b∈ch,(b∈X.ex\/X.s₀.heap.objs.size<=b)/\b≠X.env.locals/\(∀ x c,X.env.cells.lookup x=some c->c≠b)/\∀ p∈X.pn++pins,p.1≠b)
  (keep:∀ b o,b≠X.env.locals->b∉X.fs->b∉ch->s.heap.get? b=some o->H b=none->h'.get? b=some o)
  (slot:∀ b o,b≠X.env.locals->b∈X.fs->b∉ch->s.heap.get? b=some o->H b=none->∃ sl,h'.get? b=some { o with slots:=sl }) (free:∀ b o,b∉ch->s.heap.get? b=some o->H b=none->H' b=none)
  (there:∀ b o,b∉ch->s.heap.get? b=some o->∃ o',h'.get? b=some o')
  (tups:∀ b xs,H b=some (.tup xs)->H' b=some (.tup xs)) (frzs:∀ b o u,H b=some (.frz o u)->H' b=some (.frz o u)) (tbls:∀ b ps,H b=some (.tbl ps)->∃ more,H' b=some (.tbl (ps++more)))
  (ns:∀ m,s.heap.Ns X.env.locals m->h'.Ns X.env.locals m) (hok:HOk X.prog X.w H' h') (hg:AllBare g') :
  Inv X pins σ H' { s with heap:=h',gens:=g',drawn:=d',toks:=t' }:=by
 have neL:∀ b o,X.s₀.heap.get? b=some o->b≠X.env.locals:=fun b o e=>Nat.ne_of_lt (Nat.lt_of_lt_of_le (Heap.lt_size e) I.ok.above)
 have neC:∀ b o,X.s₀.heap.get? b=some o->b∉X.ex->b∉ch:=fun b o e hx hb=>by
  rcases (hch b hb).1 with z|z
  ·exact hx z
  ·exact absurd (Nat.lt_of_lt_of_le (Heap.lt_size e) z) (Nat.lt_irrefl _)
 have cellK:∀ x c,X.env.cells.lookup x=some c->∀ v,s.heap.IsCell c v->h'.IsCell c v:=fun x c e v ⟨o,ho,hd⟩=>by
  have nch:c∉ch:=fun z=>(hch c z).2.2.1 x c e rfl
  by_cases hc:c∈X.fs
  ·obtain ⟨sl,q⟩:=slot c o (I.cne x c e) hc nch ho (I.freeC x c e)
   exact ⟨_,q,hd⟩
  ·exact ⟨o,keep c o (I.cne x c e) hc nch ho (I.freeC x c e),hd⟩
 refine ⟨I.ok,I.os,hg,⟨fun b o e n hb hx=>?_,fun b o e n hb hx=>?_,fun b o e n hx=>?_,fun b o e hx=>?_,fun b xs e=>tups b xs (I.base.tups b xs e),fun b o xs e=>frzs b o xs (I.base.frzs b o xs e),fun b ps e=>?_⟩,?_,fun x c e=>?_,?_,fun x c e=>?_,fun p hp=>?_,hok,I.len⟩
 ·exact keep b o (neL b o e) hb (neC b o e hx) (I.base.keep b o e n hb hx) (I.base.free b o e n hx)
 ·obtain ⟨sl,e1⟩:=I.base.slot b o e n hb hx
  obtain ⟨sl',e2⟩:=slot b _ (neL b o e) hb (neC b o e hx) e1 (I.base.free b o e n hx)
  exact ⟨sl',e2⟩
 ·obtain ⟨o',e1⟩:=I.base.there b o e hx
  exact free b o' (neC b o e hx) e1 (I.base.free b o e n hx)
 ·obtain ⟨o',e1⟩:=I.base.there b o e hx
  exact there b o' (neC b o e hx) e1
 ·obtain ⟨m1,e1⟩:=I.base.tbls b ps e
  obtain ⟨m2,e2⟩:=tbls b _ e1
  exact ⟨m1++m2,by rw [e2,Array.append_assoc]⟩
 ·obtain ⟨m,hn,hl⟩:=I.loc
  refine ⟨m,ns m hn,fun i x v e1 e2 e3=>?_⟩
  obtain ⟨u,r,l⟩:=hl i x v e1 e2 e3
  refine ⟨u,r,?_⟩
  rcases l with l|⟨k,c,e,z⟩
  ·exact .inl l
  ·exact .inr ⟨k,c,e,cellK x c e _ z⟩
 ·obtain ⟨v,z⟩:=I.cell x c e
  exact ⟨v,cellK x c e v z⟩
 ·obtain ⟨m,⟨o,_,_,ho,_⟩,_⟩:=I.loc
  exact free _ o (fun z=>(hch _ z).2.1 rfl) ho I.free
 ·obtain ⟨v,o,ho,hd⟩:=I.cell x c e
  exact free c o (fun z=>(hch c z).2.2.1 x c e rfl) ho (I.freeC x c e)
 ·obtain ⟨e,n,ne,nf,d⟩:=I.pin p hp
  have nch:p.1∉ch:=fun z=>(hch p.1 z).2.2.2 p hp rfl
  exact ⟨keep p.1 p.2 ne nf nch e n,free p.1 p.2 nch e n,ne,nf,d⟩
theorem Inv.un {t':Nat} (I:Inv X pins σ H s) (u:Un X.fs [] H H' s.heap h') (hok:HOk X.prog X.w H' h'):Inv X pins σ H' { s with heap:=h',toks:=t' }:=by
 obtain ⟨m,⟨o,es,ep,ho,r⟩,_⟩:=id I.loc
 obtain ⟨sl,hL⟩:=u.any ho I.free (by simp)
 exact I.step (g':=s.gens) (d':=s.drawn) (ch:=[]) (fun _ z=>nomatch z) (fun b o _ hb _ e n=>u.keep b o e n hb (by simp)) (fun b o _ hb _ e n=>u.slot b o e n hb (by simp)) (fun b o _ e n=>u.free b o e n (by simp)) (fun b o _ e=>u.there b o e (by simp)) u.tups u.frzs u.tbls (fun m' hm=>by
  obtain ⟨o',es',ep',ho',r'⟩:=hm
  rw [ho] at ho';cases ho'
  exact ⟨_,es',ep',hL,r'⟩) hok I.bare
theorem Inv.call {g':Array GenState} {t':Nat} {d':Drawn} {ch:List Addr} (I:Inv X pins σ H s) (u:Un (frs X.stack) ch H H' s.heap h') (hok:HOk X.prog X.w H' h') (hg:AllBare g')
  (hch:∀ b∈ch,(b∈X.ex\/X.s₀.heap.objs.size<=b)/\b≠X.env.locals/\(∀ x c,X.env.cells.lookup x=some c->c≠b)/\∀ p∈X.pn++pins,p.1≠b) :
  Inv X pins σ H' { s with heap:=h',gens:=g',drawn:=d',toks:=t' }:=by
 obtain ⟨m,⟨o,es,ep,ho,r⟩,_⟩:=id I.loc
 obtain ⟨sl,hL⟩:=u.any ho I.free fun z=>(hch _ z).2.1 rfl
 exact I.step (ch:=ch) hch (fun b o hL hb hc e n=>u.keep b o e n (fun z=>(List.mem_cons.mp (I.stkSub b z)).elim hL hb) hc) (fun b o _ _ hc e n=>u.any e n hc) (fun b o hc e n=>u.free b o e n hc) (fun b o hc e=>u.there b o e hc) u.tups u.frzs u.tbls (fun m' hm=>by
  obtain ⟨o',es',ep',ho',r'⟩:=hm
  rw [ho] at ho';cases ho'
  exact ⟨_,es',ep',hL,r'⟩) hok hg
theorem Inv.turned {t':Nat} {it:Addr} (I:Inv X pins σ H s) (k:∀ b o,b≠it->s.heap.get? b=some o->h'.get? b=some o) (hn:H it=none) (hL:it≠X.env.locals)
  (h1:it∈X.ex\/X.s₀.heap.objs.size<=it) (h2:∀ x c,X.env.cells.lookup x=some c->c≠it) (h3:∀ p∈X.pn++pins,p.1≠it):Inv X pins σ H { s with heap:=h',toks:=t' }:=by
 have nit:∀ b u,H b=some u->b≠it:=fun b u e z=>by rw [z,hn] at e;cases e
 refine I.step (g':=s.gens) (d':=s.drawn) (ch:=[it]) (fun b hb=>?_) (fun b o _ _ hc e _=>k b o (fun z=>hc (by simp [z])) e) (fun b o _ _ hc e _=>⟨o.slots,k b o (fun z=>hc (by simp [z])) e⟩) (fun _ _ _ _ n=>n)
  (fun b o hc e=>⟨o,k b o (fun z=>hc (by simp [z])) e⟩) (fun _ _ e=>e) (fun _ _ _ e=>e) (fun b ps e=>⟨#[],by rw [e];simp⟩) (fun m hm=>?_) (fun b u e=>?_) I.bare
 ·have e:b=it:=by simpa using hb
  subst e
  exact ⟨h1,hL,h2,h3⟩
 ·obtain ⟨o,es,ep,ho,r⟩:=hm
  exact ⟨o,es,ep,k _ o (Ne.symm hL) ho,r⟩
 ·refine (I.hok b u e).stay (fun c v hc q=>k c v ?_ q) (fun _ q=>q) fun _ _ q=>q
  rcases hc with z|z
  ·rw [z];exact nit b u e
  ·exact nit c _ z
theorem Inv.tok (I:Inv X pins σ H s) (t:Nat):Inv X pins σ H { s with toks:=t }:=I.un (h':=s.heap) (t':=t) Un.refl I.hok
theorem Inv.kept {t':Nat} (I:Inv X pins σ H s) (k:∀ b u,s.heap.get? b=some u->h'.get? b=some u):Inv X pins σ H { s with heap:=h',toks:=t' }:=I.un (Un.kept k) (I.hok.kept k)
theorem Inv.laid {a:Addr} {o:HO} {t':Nat} (I:Inv X pins σ H s) (k:∀ b u,s.heap.get? b=some u->h'.get? b=some u) (hp:s.heap.objs.size<=a) (new:ObjOk X.prog X.w (upd H a o) h' a o) :
  Inv X pins σ (upd H a o) { s with heap:=h',toks:=t' }:=I.un (Un.laid k hp (I.hok.fresh hp)) (I.hok.laid k hp new)
theorem Inv.write {x e:Addr} {o:HO} {t':Nat} (I:Inv X pins σ H s) (mu:Mut (H x)) (he:e=x\/H e=some (.own x)) (k:∀ b u,b≠e->s.heap.get? b=some u->h'.get? b=some u) (heo:∃ u,h'.get? e=some u)
  (new:ObjOk X.prog X.w (upd H x o) h' x o):Inv X pins σ (upd H x o) { s with heap:=h',toks:=t' }:=I.un (Un.write mu he k heo) (I.hok.write mu he k heo new)
theorem Inv.pins_of {pins':List (Addr×Obj)} (I:Inv X pins σ H s) (h:∀ p∈pins',s.heap.get? p.1=some p.2/\H p.1=none/\p.1≠X.env.locals/\p.1∉X.fs/\∀ v,p.2.data≠.cell v):Inv X pins' σ H s :=
 ⟨I.ok,I.os,I.bare,I.base,I.loc,I.cell,I.free,I.freeC,fun p hp=>(List.mem_append.mp hp).elim (fun z=>I.pin p (List.mem_append_left _ z)) (h p),I.hok,I.len⟩
theorem JU_ {N:List Str} (hN:N.Nodup) {i j:Nat} {x:Str} (a:N[i]? = some x) (b:N[j]? = some x):i=j:=by
 obtain ⟨h1,e1⟩:=List.getElem?_eq_some_iff.mp a
 obtain ⟨h2,e2⟩:=List.getElem?_eq_some_iff.mp b
 exact (List.getElem_inj hN).mp (e1.trans e2.symm)
theorem Ul_ {M:Model} {A:Around} {E:Value->Shared->Prop} {i:Nat} {x:Str} {v:V} {u:Value} {Q:Unit->Shared->Prop} (I:Inv X pins σ H s) (hN:X.N.Nodup) (hi:X.N[i]? = some x) (hx:Loc X.env.scope x) (r:RelV v u)
  (h:∀ s',Inv X pins (σ.set i (some v)) H s'->(∃ a,Heap.SameBut a s.heap s'.heap/\(a=X.env.locals\/X.env.cells.lookup x=some a))->Q () s') (hf:X.fn x=true\/X.env.scope.names.lookup x=some .local:=by first|exact .inl rfl|exact .inr rfl|assumption):wpAny M A (storeName X.env x u) Q E s:=by
 obtain ⟨m,hn,hl⟩:=id I.loc
 have hcls:(X.env.scope.kind==.class||(X.env.scope.kind==.module&&X.env.locals != X.env.globals))=false:=by rw [I.ok.kind];rfl
 have hiσ:i<σ.length:=by rw [I.len];exact (List.getElem?_eq_some_iff.mp hi).1
 have cne:=I.cne
 have tracked:∀ {a:Addr} {h':Heap},(∃ o,s.heap.get? a=some o/\H a=none)->Heap.SameBut a s.heap h'->HOk X.prog X.w H h':=fun {a h'} ha hs b ob e=>by
  obtain ⟨_,_,hfree⟩:=ha
  refine (I.hok b ob e).stay (fun c w' hc q=>(hs.2 c ?_).trans q) (fun _ q=>q) fun _ _ q=>q
  rintro rfl
  rcases hc with rfl|hc
  ·rw [hfree] at e;cases e
  ·rw [hfree] at hc;cases hc
 rcases hx with hk|hk
 ·refine wpAny_storeName_local hk hn (fun h' hn' hs=>?_) hcls
  obtain ⟨oL,_,_,hoL,_⟩:=id hn
  refine h _ ⟨I.ok,I.os,I.bare,⟨fun b o e n hb hx=>?_,fun b o e n hb hx=>?_,I.base.free,fun b o e hx=>?_,I.base.tups,I.base.frzs,I.base.tbls⟩,⟨_,hn',fun j y v' e1 e2 e3=>?_⟩,fun y c e=>?_,I.free,I.freeC,fun p hp=>?_,tracked ⟨oL,hoL,I.free⟩ hs,by simpa using I.len⟩ ⟨_,hs,.inl rfl⟩
  ·exact (hs.2 b (Nat.ne_of_lt (Nat.lt_of_lt_of_le (Heap.lt_size e) I.ok.above))).trans (I.base.keep b o e n hb hx)
  ·obtain ⟨sl,e1⟩:=I.base.slot b o e n hb hx
   exact ⟨sl,(hs.2 b (Nat.ne_of_lt (Nat.lt_of_lt_of_le (Heap.lt_size e) I.ok.above))).trans e1⟩
  ·obtain ⟨o',e1⟩:=I.base.there b o e hx
   exact ⟨o',(hs.2 b (Nat.ne_of_lt (Nat.lt_of_lt_of_le (Heap.lt_size e) I.ok.above))).trans e1⟩
  ·by_cases hj:j=i
   ·subst hj
    rw [hi] at e1;cases e1
    rw [List.getElem?_set_self hiσ] at e2
    cases e2
    exact ⟨u,r,.inl ⟨hk,by simp⟩⟩
   ·rw [List.getElem?_set_ne (Ne.symm hj)] at e2
    obtain ⟨u',r',q⟩:=hl j y v' e1 e2 e3
    refine ⟨u',r',?_⟩
    rcases q with ⟨k,e⟩|⟨k,c,e,z⟩
    ·refine .inl ⟨k,?_⟩
     have:y≠x:=fun e=>hj (JU_ hN e1 (e▸hi))
     simp [this,e]
    ·exact .inr ⟨k,c,e,z.sameBut hs (cne y c e)⟩
  ·obtain ⟨w',z⟩:=I.cell y c e
   exact ⟨w',z.sameBut hs (cne y c e)⟩
  ·obtain ⟨e,n,ne,nf,d⟩:=I.pin p hp
   exact ⟨(hs.2 p.1 ne).trans e,n,ne,nf,d⟩
 ·have hfn:X.fn x=true:=by
   rcases hf with z|z
   ·exact z
   ·rw [z] at hk;cases hk
  obtain ⟨c,hc⟩:=I.ok.has x (.inl hk)
  obtain ⟨w',z⟩:=I.cell x c hc
  refine wpAny_storeName_cell I.ok.kind hk hc z (fun h' hc' hs=>?_)
  obtain ⟨oc,hoc,hocd⟩:=id z
  refine h { s with heap:=h' } ⟨I.ok,I.os,I.bare,⟨fun b o e n hb hx=>?_,fun b o e n hb hx=>?_,I.base.free,fun b o e hx=>?_,I.base.tups,I.base.frzs,I.base.tbls⟩,⟨m,hn.sameBut hs (Ne.symm (cne x c hc)),fun j y v' e1 e2 e3=>?_⟩,fun y c' e=>?_,I.free,I.freeC,fun p hp=>?_,tracked ⟨oc,hoc,I.freeC x c hc⟩ hs,by simpa using I.len⟩ ⟨c,hs,.inr hc⟩
  ·exact (hs.2 b (Nat.ne_of_lt (Nat.lt_of_lt_of_le (Heap.lt_size e) (I.ok.cab x c hfn hc)))).trans (I.base.keep b o e n hb hx)
  ·obtain ⟨sl,e1⟩:=I.base.slot b o e n hb hx
   exact ⟨sl,(hs.2 b (Nat.ne_of_lt (Nat.lt_of_lt_of_le (Heap.lt_size e) (I.ok.cab x c hfn hc)))).trans e1⟩
  ·obtain ⟨o',e1⟩:=I.base.there b o e hx
   exact ⟨o',(hs.2 b (Nat.ne_of_lt (Nat.lt_of_lt_of_le (Heap.lt_size e) (I.ok.cab x c hfn hc)))).trans e1⟩
  ·by_cases hj:j=i
   ·subst hj
    rw [hi] at e1;cases e1
    rw [List.getElem?_set_self hiσ] at e2
    cases e2
    exact ⟨u,r,.inr ⟨.inl hk,c,hc,hc'⟩⟩
   ·rw [List.getElem?_set_ne (Ne.symm hj)] at e2
    obtain ⟨u',r',q⟩:=hl j y v' e1 e2 e3
    refine ⟨u',r',?_⟩
    rcases q with q|⟨k,c',e,z'⟩
    ·exact .inl q
    ·refine .inr ⟨k,c',e,z'.sameBut hs ?_⟩
     rintro rfl
     exact hj (JU_ hN e1 (I.ok.inj _ _ _ e hc▸hi))
  ·by_cases hcc:c'=c
   ·subst hcc;exact ⟨_,hc'⟩
   ·obtain ⟨w2,z2⟩:=I.cell y c' e
    exact ⟨w2,z2.sameBut hs hcc⟩
  ·obtain ⟨e,n,ne,nf,d⟩:=I.pin p hp
   refine ⟨(hs.2 p.1 ?_).trans e,n,ne,nf,d⟩
   intro q
   rw [q,hoc] at e
   have q':oc=p.2:=Option.some.inj e
   exact d w' (by rw [<-q'];exact hocd)
theorem JC_ {M:Model} {A:Around} {E:Value->Shared->Prop} {i:Nat} {x:Str} {v:V} {u:Value} {Q:Unit->Shared->Prop} (I:Inv X pins σ H s) (hN:X.N.Nodup) (hi:X.N[i]? = some x) (hx:Loc X.env.scope x) (r:RelV v u)
  (h:∀ s',Inv X pins (σ.set i (some v)) H s'->Q () s') (hf:X.fn x=true\/X.env.scope.names.lookup x=some .local:=by first|exact .inl rfl|exact .inr rfl|assumption):wpAny M A (storeName X.env x u) Q E s :=
 Ul_ I hN hi hx r (fun s' I' _=>h s' I') hf
theorem Inv.call' {s':Shared} {ch:List Addr} (I:Inv X pins σ H s) (ho:s'.os=s.os) (u:Un (frs X.stack) ch H H' s.heap s'.heap) (hok:HOk X.prog X.w H' s'.heap) (hg:AllBare s'.gens)
  (hch:∀ b∈ch,(b∈X.ex\/X.s₀.heap.objs.size<=b)/\b≠X.env.locals/\(∀ x c,X.env.cells.lookup x=some c->c≠b)/\∀ p∈X.pn++pins,p.1≠b):Inv X pins σ H' s':=by
 obtain ⟨h',g',d',t',o'⟩:=s'
 have e:o'=s.os:=ho
 subst e
 exact I.call (g':=g') (t':=t') (d':=d') u hok hg hch
end
noncomputable abbrev XK:=Value->Option Addr->Hp->Prop
noncomputable abbrev St:=List (Option V)
noncomputable abbrev VK:=V->Hp->Prop
noncomputable abbrev TE:=St->Hp->VK->Prop
noncomputable abbrev TT:=St->Hp->(Bool->Hp->Prop)->Prop
noncomputable abbrev TA:=St->Hp->(List V->Hp->Prop)->Prop
structure Ends where
 nx:St->Hp->Prop
 rt:VK
 bk:St->Hp->Prop:=fun _ _=>False
 ct:St->Hp->Prop:=fun _ _=>False
noncomputable abbrev TS:=Ends->St->Hp->Prop
def EP (X:Cx) (pins:List (Addr×Obj)) (σ:St) (Q:VK) (u:Value) (s':Shared):Prop:=∃ v H',Inv X pins σ H' s'/\RelV v u/\Q v H'
def TP (X:Cx) (pins:List (Addr×Obj)) (σ:St) (Q:Bool->Hp->Prop) (b:Bool) (s':Shared):Prop:=∃ H',Inv X pins σ H' s'/\Q b H'
def AP (X:Cx) (pins:List (Addr×Obj)) (σ:St) (Q:List V->Hp->Prop) (us:List Value) (s':Shared):Prop:=∃ vs H',Inv X pins σ H' s'/\Vals vs us/\Q vs H'
def SP (X:Cx) (pins:List (Addr×Obj)) (D:Ends) (f:Flow) (s':Shared):Prop :=
 match f with
 | .next=>∃ σ' H',Inv X pins σ' H' s'/\D.nx σ' H'
 | .brk=>∃ σ' H',Inv X pins σ' H' s'/\D.bk σ' H'
 | .cont=>∃ σ' H',Inv X pins σ' H' s'/\D.ct σ' H'
 | .ret u=>∃ v σ' H',Inv X pins σ' H' s'/\RelV v u/\D.rt v H'
def PE (X:Cx) (e:Expr) (t:TE):Prop :=
 ∀ (pins:List (Addr×Obj)) (s:Shared) (σ:St) (H:Hp) (Q:VK),Inv X pins σ H s->t σ H Q->wpAny (model X.prog X.w) X.A (eval e X.env) (EP X pins σ Q) X.xe s
def PT (X:Cx) (e:Expr) (t:TT):Prop :=
 ∀ (pins:List (Addr×Obj)) (s:Shared) (σ:St) (H:Hp) (Q:Bool->Hp->Prop),Inv X pins σ H s->t σ H Q->wpAny (model X.prog X.w) X.A (isTrue e X.env (eval e X.env)) (TP X pins σ Q) X.xe s
def PW (X:Cx) (e:Expr) (t:TT):Prop :=
 ∀ (whole:Sem Value) (pins:List (Addr×Obj)) (s:Shared) (σ:St) (H:Hp) (Q:Bool->Hp->Prop),Inv X pins σ H s->t σ H Q->wpAny (model X.prog X.w) X.A (isTrue e X.env whole) (TP X pins σ Q) X.xe s
def PA (X:Cx) (es:List Expr) (t:TA):Prop :=
 ∀ (pos:Pos) (pins:List (Addr×Obj)) (s:Shared) (σ:St) (H:Hp) (Q:List V->Hp->Prop),Inv X pins σ H s->t σ H Q->wpAny (model X.prog X.w) X.A (spliced (backTo pos (starEach es X.env))) (AP X pins σ Q) X.xe s
def PS (X:Cx) (st:Stmt) (t:TS):Prop :=
 ∀ (pins:List (Addr×Obj)) (s:Shared) (σ:St) (H:Hp) (D:Ends),Inv X pins σ H s->t D σ H->wpAny (model X.prog X.w) X.A (exec st X.env) (SP X pins D) X.xe s
def PSs (X:Cx) (st:List Stmt) (t:TS):Prop :=
 ∀ (pins:List (Addr×Obj)) (s:Shared) (σ:St) (H:Hp) (D:Ends),Inv X pins σ H s->t D σ H->wpAny (model X.prog X.w) X.A (execs st X.env) (SP X pins D) X.xe s
theorem thn {α:Type} {t:Sem α} {Q Q':α->Shared->Prop} {M:Model} {A:Around} {E:Value->Shared->Prop} {s:Shared} (h:wpAny M A t Q E s) (hQ:∀ a s,Q a s->Q' a s):wpAny M A t Q' E s:=wpAny_mono h hQ fun _ _ x=>x
section
variable {X:Cx}
noncomputable def tVar (i:Nat):TE:=fun σ H Q=>∃ v,σ[i]? = some (some v)/\Q v H
noncomputable def tC (v:V):TE:=fun _ H Q=>Q v H
theorem uu_ {i:Nat} {x:Str} {pos:Pos} (hN:X.N[i]? = some x) (hv:Vis X.env.scope x) (hd:(x==("__debug__" : Str))=false:=by decide) (hcd:(x==("__classdict__" : Str))=false:=by decide):PE X (.Name x pos) (tVar i):=by
 intro pins s σ H Q I h
 obtain ⟨v,e,h⟩:=h
 obtain ⟨m,hn,hl⟩:=I.loc
 obtain ⟨u,r,l⟩:=hl i x v hN e hv
 have fin:EP X pins σ Q u s:=⟨v,H,I,r,h⟩
 rcases l with ⟨hk,hm⟩|⟨hk,c,hc,hcell⟩
 ·exact wpAny_Name (wpAny_loadName_local I.ok.kind hk hn hm fin) hd
 ·rcases hk with hk|hk
  ·exact wpAny_Name (wpAny_loadName_cell I.ok.kind hk hc hcell fin) hd
  ·exact wpAny_Name (wpAny_loadName_free I.ok.kind hk hc hcell fin hcd) hd
theorem zfe_ {i j pos}:PE X (.Constant (.int i) j pos) (tC (.int i)):=fun _ _ _ H _ I h=>wpAny_Constant_int ⟨.int i,H,I.tok _,⟨_,rfl⟩,h⟩
theorem zhe_ {b j pos}:PE X (.Constant (.bool b) j pos) (tC (.bl b)):=fun _ _ _ H _ I h=>Constant_bool ⟨.bl b,H,I,rfl,h⟩
theorem zfb_ {j pos}:PE X (.Constant .none j pos) (tC .non):=fun _ _ _ H _ I h=>Constant_none ⟨.non,H,I,rfl,h⟩
def Gl (X:Cx) (x:Str):Prop:=X.env.kindOf x=some .globalImplicit
theorem ZH_ {E:Value->Shared->Prop} {pins:List (Addr×Obj)} {s:Shared} {σ:St} {H:Hp} {x:Str} {u:Value} {pos:Pos} {Q:Value->Shared->Prop} (I:Inv X pins σ H s) (hg:Gl X x) (hm:X.mg x=some u) (h:Q u s)
  (hd:(x==("__debug__" : Str))=false:=by decide):wpAny (model X.prog X.w) X.A (eval (.Name x pos) X.env) Q E s :=
 Calls.Name_function_global I.ok.kind hg (Calls.loadGlobal_global (by rw [I.ok.glob];exact I.mod.glob.keeps I.bk) hm h) hd
theorem ZI_ {E:Value->Shared->Prop} {pins:List (Addr×Obj)} {s:Shared} {σ:St} {H:Hp} {x:Str} {u:Value} {pos:Pos} {Q:Value->Shared->Prop} (I:Inv X pins σ H s) (hg:Gl X x) (hm:X.mg x=none) (hv:bootBuiltins x=some u) (h:Q u s)
  (hn:x ≠ "__name__":=by decide) (hd:(x==("__debug__" : Str))=false:=by decide):wpAny (model X.prog X.w) X.A (eval (.Name x pos) X.env) Q E s:=by
 obtain ⟨mb,h1,h2⟩:=I.mod.blt
 exact Calls.Name_function_global I.ok.kind hg (Calls.loadGlobal_builtin (by rw [I.ok.glob];exact I.mod.glob.keeps I.bk) hm (by rw [I.ok.blt];exact h1.keeps I.bk) ((h2 x hn).trans hv) h) hd
theorem Ys_ {x:Str} {v:V} {u:Value} {pos:Pos} (hg:Gl X x) (hm:X.mg x=some u) (r:RelV v u) (hd:(x==("__debug__" : Str))=false:=by decide):PE X (.Name x pos) (tC v) :=
 fun _ _ _ H _ I h=>ZH_ I hg hm ⟨v,H,I,r,h⟩ hd
theorem zcU_ {x:Str} {v:V} {u:Value} {pos:Pos} (hg:Gl X x) (hm:X.mg x=none) (hv:bootBuiltins x=some u) (r:RelV v u) (hn:x ≠ "__name__":=by decide) (hd:(x==("__debug__" : Str))=false:=by decide):PE X (.Name x pos) (tC v) :=
 fun _ _ _ H _ I h=>ZI_ I hg hm hv ⟨v,H,I,r,h⟩ hn hd
variable {a b:Expr} {ta tb:TE} {pos:Pos}
variable {tA tB':TT} {rest:List Expr}
noncomputable def tAnd (t u:TT):TT:=fun σ H Q=>t σ H fun c H1=>if c=true then u σ H1 Q else Q false H1
noncomputable def tOr (t u:TT):TT:=fun σ H Q=>t σ H fun c H1=>if c=true then Q true H1 else u σ H1 Q
noncomputable def tNot (t:TT):TT:=fun σ H Q=>t σ H fun c H1=>Q (!c) H1
theorem VZ_ (ha:PT X a tA):PW X (.BoolOp .And [a] pos) tA:=by
 intro wh pins s σ H Q I h
 refine isTrue_and (thn (ha pins s σ H Q I h) fun c s1 e=>?_)
 cases c with
 | true=>exact isTrue_and_nil e
 | false=>exact e
theorem zeT_ (ha:PT X a tA):PW X (.BoolOp .Or [a] pos) tA:=by
 intro wh pins s σ H Q I h
 refine isTrue_or (thn (ha pins s σ H Q I h) fun c s1 e=>?_)
 cases c with
 | false=>exact isTrue_or_nil e
 | true=>exact e
theorem zbD_ (ha:PT X a tA) (hb:PW X (.BoolOp .And (b::rest) pos) tB'):PW X (.BoolOp .And (a::b::rest) pos) (tAnd tA tB'):=by
 intro wh pins s σ H Q I h
 refine isTrue_and (thn (ha pins s σ H _ I h) fun c s1 ⟨H1,I1,q1⟩=>?_)
 cases c with
 | true=>exact hb wh pins s1 σ H1 Q I1 q1
 | false=>exact ⟨H1,I1,q1⟩
theorem zhc_ (ha:PT X a tA) (hb:PW X (.BoolOp .Or (b::rest) pos) tB'):PW X (.BoolOp .Or (a::b::rest) pos) (tOr tA tB'):=by
 intro wh pins s σ H Q I h
 refine isTrue_or (thn (ha pins s σ H _ I h) fun c s1 ⟨H1,I1,q1⟩=>?_)
 cases c with
 | true=>exact ⟨H1,I1,q1⟩
 | false=>exact hb wh pins s1 σ H1 Q I1 q1
theorem zeU_ (ha:PT X a tA):PT X (.UnaryOp .Not a pos) (tNot tA):=by
 intro pins s σ H Q I h
 exact isTrue_not (ha pins s σ H (fun c H1=>Q (!c) H1) I h)
noncomputable def zgN_ (ta tb:TE):TE:=fun σ H Q=>ta σ H fun x H1=>∃ c,x=.bl c/\if c=true then tb σ H1 Q else Q (.bl false) H1
theorem zfa_ {op} {t:TE} (h:PE X a t):PE X (.BoolOp op [a] pos) t:=fun pins s σ H Q I hw=>BoolOp_one (h pins s σ H Q I hw)
theorem zfg_ (ha:PE X a ta) (hb:PE X (.BoolOp .And (b::rest) pos) tb):PE X (.BoolOp .And (a::b::rest) pos) (zgN_ ta tb):=by
 intro pins s σ H Q I h
 refine BoolOp_and (thn (ha pins s σ H _ I h) fun v s1 ⟨x,H1,I1,r1,q1⟩=>?_)
 obtain ⟨c,rfl,q1⟩:=q1
 cases r1
 refine wpAny_truthy_bool ?_
 cases c with
 | true=>exact hb pins s1 σ H1 Q I1 q1
 | false=>exact ⟨.bl false,H1,I1,rfl,q1⟩
noncomputable def tIf (t:TT) (ta tb:TE):TE:=fun σ H Q=>t σ H fun c H1=>if c=true then ta σ H1 Q else tb σ H1 Q
theorem zaf_ {c:Expr} (hc:PT X c tA) (ha:PE X a ta) (hb:PE X b tb):PE X (.IfExp c a b pos) (tIf tA ta tb):=by
 intro pins s σ H Q I h
 refine wpAny_IfExp (thn (hc pins s σ H _ I h) fun d s1 ⟨H1,I1,q1⟩=>?_)
 cases d with
 | true=>exact ha pins s1 σ H1 Q I1 q1
 | false=>exact hb pins s1 σ H1 Q I1 q1
end
def SqL (K:PySem.W.Frag) (H:Hp) (a:Addr) (xs:List V):Prop :=
 Rd H a (.lst xs) \/
  ∃ (o:Obj) (its:Array Value) (n:Nat),K.lookup a=some o/\o.cls=.type "list" /\ o.dict=none/\o.data=.seq its n/\its.size<=sizeLine/\Vals xs its.toList
def SqT (K:PySem.W.Frag) (H:Hp) (a:Addr) (xs:List V):Prop :=
 Rd H a (.tup xs) \/
  ∃ (o:Obj) (its:Array Value) (n:Nat),K.lookup a=some o/\o.cls=.type "tuple" /\ o.data=.seq its n/\its.size<=sizeLine/\Vals xs its.toList
noncomputable def absV:Value->Option V
 | .none=>some .non
 | .bool b=>some (.bl b)
 | .int i _=>some (.int i)
 | .str x _=>some (.str x)
 | .bytes b _=>some (.byt b)
 | .float b _=>some (.flt b)
 | .ref a=>some (.ref a)
 | .type n=>some (.ty n)
 | _=>none
theorem RelV.abs {x:V} {u:Value} (r:RelV x u):absV u=some x:=by
 cases x with
 | non=>cases r;rfl
 | bl _=>cases r;rfl
 | int _=>obtain ⟨t,rfl⟩:=r;rfl
 | str _=>obtain ⟨t,rfl⟩:=r;rfl
 | byt _=>obtain ⟨t,rfl⟩:=r;rfl
 | flt _=>obtain ⟨t,rfl⟩:=r;rfl
 | ref _=>cases r;rfl
 | ty _=>cases r;rfl
theorem RelV.inj {x y:V} {u:Value} (r:RelV x u) (q:RelV y u):x=y:=Option.some.inj (r.abs.symm.trans q.abs)
theorem Vals.inj {xs ys:List V} {us:List Value} (h:Vals xs us):Vals ys us->xs=ys:=by
 induction h generalizing ys with
 | nil=>intro h2;cases h2;rfl
 | cons r _ ih =>
  intro h2
  cases h2 with
  | cons r' t'=>rw [r.inj r',ih t']
section
variable {X:Cx} {pins:List (Addr×Obj)} {σ:St} {H:Hp} {s:Shared} {a:Addr} {xs ys:List V}
theorem SqL.of {K:PySem.W.Frag} (h:H a=some (.lst xs)):SqL K H a xs:=.inl (.inl h)
theorem SqT.of {K:PySem.W.Frag} (h:H a=some (.tup xs)):SqT K H a xs:=.inl (.inl h)
theorem Inv.list (I:Inv X pins σ H s) (h:SqL X.K H a xs):∃ its:List Value,Vals xs its/\PlainL s.heap a its.toArray/\xs.length<=sizeLine:=by
 rcases h with h|⟨o,its,n,hk,hc,hd,hs,hz,r⟩
 ·obtain ⟨z,its,n,r,e⟩:=h.ok I.hok
  exact ⟨its,r,⟨_,n,e,rfl,rfl,rfl⟩,z⟩
 ·refine ⟨its.toList,r,⟨o,n,I.kIn a o hk,hc,hd,by simpa using hs⟩,?_⟩
  have e:=r.length
  simp only [Array.length_toList] at e
  lia
theorem Inv.tuple (I:Inv X pins σ H s) (h:SqT X.K H a xs):∃ its:List Value,Vals xs its/\IsTup s.heap a its.toArray/\xs.length<=sizeLine:=by
 rcases h with h|⟨o,its,n,hk,hc,hs,hz,r⟩
 ·obtain ⟨z,its,r,p⟩:=h.ok I.hok
  exact ⟨its,r,p.1,z⟩
 ·refine ⟨its.toList,r,⟨o,I.kIn a o hk,hc,n,by simpa using hs⟩,?_⟩
  have e:=r.length
  simp only [Array.length_toList] at e
  lia
theorem Inv.list_inj (I:Inv X pins σ H s) (h:SqL X.K H a xs) (h':SqL X.K H a ys):xs=ys:=by
 obtain ⟨its,r,⟨o,n,e,_,_,d⟩,_⟩:=I.list h
 obtain ⟨its',r',⟨o',n',e',_,_,d'⟩,_⟩:=I.list h'
 rw [e] at e';cases e'
 rw [d] at d'
 injection d' with d1 _
 have:its=its':=by simpa using congrArg Array.toList d1
 subst this
 exact r.inj r'
theorem Inv.tuple_inj (I:Inv X pins σ H s) (h:SqT X.K H a xs) (h':SqT X.K H a ys):xs=ys:=by
 obtain ⟨its,r,⟨o,e,_,n,d⟩,_⟩:=I.tuple h
 obtain ⟨its',r',⟨o',e',_,n',d'⟩,_⟩:=I.tuple h'
 rw [e] at e';cases e'
 rw [d] at d'
 injection d' with d1 _
 have:its=its':=by simpa using congrArg Array.toList d1
 subst this
 exact r.inj r'
end
section
variable {X:Cx} {st:Stmt} {rest:List Stmt} {t u:TS} {e:Expr} {te:TE} {pos:Pos}
noncomputable def zei_:TS:=fun D σ H=>D.nx σ H
noncomputable def tSeq (t u:TS):TS:=fun D σ H=>t { D with nx:=u D } σ H
theorem V4_:PSs X [] zei_:=fun _ _ σ H _ I h=>wpAny_execs_nil ⟨σ,H,I,h⟩
theorem Qh_ (h1:PS X st t) (h2:PSs X rest u):PSs X (st::rest) (tSeq t u):=by
 intro pins s σ H D I h
 refine wpAny_execs_cons (thn (h1 pins s σ H { D with nx:=u D } I h) fun f s1 q=>?_)
 cases f with
 | next =>
  obtain ⟨σ',H',I',q⟩:=q
  exact h2 pins s1 σ' H' D I' q
 | ret v=>exact q
 | brk=>exact q
 | cont=>exact q
theorem zcI_ (h1:PS X st t):PSs X [st] t:=by
 intro pins s σ H D I h
 refine wpAny_execs_cons (thn (h1 pins s σ H D I h) fun f s1 q=>?_)
 cases f with
 | next=>exact wpAny_execs_nil q
 | ret v=>exact q
 | brk=>exact q
 | cont=>exact q
theorem zcJ_:PS X (.Pass pos) zei_:=fun _ _ σ H _ I h=>wpAny_Pass ⟨σ,H,I,h⟩
theorem Inv.quiet {pins:List (Addr×Obj)} {σ:St} {H:Hp} {s:Shared} (I:Inv X pins σ H s):interactive X.env=false:=by simp [interactive,I.ok.kind]
noncomputable def zgK_ (te:TE):TS:=fun D σ H=>te σ H fun _ H1=>D.nx σ H1
theorem JK_ (he:PE X e te) (hs:swapsWith e none pos.line X.env=pure false:=by rfl):PS X (.Expr e pos) (zgK_ te):=by
 intro pins s σ H D I h
 exact wpAny_Expr_any (thn (he pins s σ H _ I h) fun v s1 ⟨x,H1,I1,r1,q1⟩=>⟨σ,H1,I1,q1⟩) I.quiet hs
noncomputable def tRet (te:TE):TS:=fun D σ H=>te σ H D.rt
theorem zbF_ (he:PE X e te):PS X (.Return (some e) pos) (tRet te):=by
 intro pins s σ H D I h
 exact wpAny_Return_some (thn (he pins s σ H _ I h) fun v s1 ⟨x,H1,I1,r1,q1⟩=>⟨x,σ,H1,I1,r1,q1⟩)
noncomputable def tIfS (c:TT) (t u:TS):TS:=fun D σ H=>c σ H fun b H1=>if b=true then t D σ H1 else u D σ H1
theorem zhd_ {c:Expr} {a b:List Stmt} {tc:TT} (hc:PT X c tc) (ha:PSs X a t) (hb:PSs X b u):PS X (.If c a b pos) (tIfS tc t u):=by
 intro pins s σ H D I h
 refine wpAny_If (thn (hc pins s σ H _ I h) fun d s1 ⟨H1,I1,q1⟩=>?_)
 cases d with
 | true=>exact ha pins s1 σ H1 D I1 q1
 | false=>exact hb pins s1 σ H1 D I1 q1
end
noncomputable abbrev TG:=V->St->Hp->(St->Hp->Prop)->Prop
noncomputable abbrev TGs:=List V->St->Hp->(St->Hp->Prop)->Prop
def PG (X:Cx) (target:Expr) (t:TG):Prop :=
 ∀ (pins:List (Addr×Obj)) (s:Shared) (σ:St) (H:Hp) (v:V) (u:Value) (Q:St->Hp->Prop),Inv X pins σ H s->RelV v u->t v σ H Q ->
  wpAny (model X.prog X.w) X.A (assign target X.env u) (fun _ s'=>∃ σ' H',Inv X pins σ' H' s'/\Q σ' H') X.xe s
def PGs (X:Cx) (ts:List Expr) (t:TGs):Prop :=
 ∀ (pins:List (Addr×Obj)) (s:Shared) (σ:St) (H:Hp) (vs:List V) (us:List Value) (Q:St->Hp->Prop),Inv X pins σ H s->Vals vs us->t vs σ H Q ->
  wpAny (model X.prog X.w) X.A (assignInOrder ((assignEach ts X.env).map (·.2)) us) (fun _ s'=>∃ σ' H',Inv X pins σ' H' s'/\Q σ' H') X.xe s
noncomputable abbrev TSet:=V->V->V->Hp->(Hp->Prop)->Prop
def PSet (X:Cx) (t:TSet):Prop :=
 ∀ (pins:List (Addr×Obj)) (s:Shared) (σ:St) (H:Hp) (o i v:V) (ov iv u:Value) (Q:Hp->Prop),Inv X pins σ H s->RelV o ov->RelV i iv->RelV v u->t o i v H Q ->
  wpAny (model X.prog X.w) X.A (setItem ov iv u) (fun _ s'=>∃ H',Inv X pins σ H' s'/\Q H') X.xe s
noncomputable abbrev TIp:=V->V->Hp->VK->Prop
def PIp (X:Cx) (op:Operator) (t:TIp):Prop :=
 ∀ (pins:List (Addr×Obj)) (s:Shared) (σ:St) (H:Hp) (x y:V) (v u:Value) (Q:VK),Inv X pins σ H s->RelV x v->RelV y u->t x y H Q ->
  wpAny (model X.prog X.w) X.A (inplaceOp op v u) (EP X pins σ Q) X.xe s
section
variable {X:Cx} {pos:Pos}
noncomputable def WY_ (i:Nat):TG:=fun v σ H Q=>Q (σ.set i (some v)) H
theorem zcR_ {i:Nat} {x:Str} (hN:X.N.Nodup) (hi:X.N[i]? = some x) (hx:Loc X.env.scope x) (hf:X.fn x=true\/X.env.scope.names.lookup x=some .local:=by first|exact .inl rfl|exact .inr rfl|assumption):PG X (.Name x pos) (WY_ i):=by
 intro pins s σ H v u Q I r h
 exact wpAny_assign_Name (JC_ I hN hi hx r (fun s' I'=>⟨_,H,I',h⟩) hf)
noncomputable def gNil:TGs:=fun vs σ H Q=>vs=[]/\Q σ H
noncomputable def zhz_ (t:TG) (u:TGs):TGs:=fun vs σ H Q=>∃ v r,vs=v::r/\t v σ H fun σ' H'=>u r σ' H' Q
theorem zcQ_:PGs X [] gNil:=by
 intro pins s σ H vs us Q I r h
 obtain ⟨e,h⟩:=h
 subst e
 cases r
 exact assignInOrder_nil ⟨σ,H,I,h⟩
theorem zac_ {e:Expr} {es:List Expr} {t:TG} {u:TGs} (h1:PG X e t) (h2:PGs X es u)
  (hs:(assignEach (e::es) X.env).map (·.2)=assign e X.env::(assignEach es X.env).map (·.2):=by rfl):PGs X (e::es) (zhz_ t u):=by
 intro pins s σ H vs us Q I r h
 obtain ⟨v,vr,e1,h⟩:=h
 subst e1
 cases r with
 | cons r rr =>
  rw [hs]
  refine assignInOrder_cons (thn (h1 pins s σ H _ _ _ I r h) fun _ s1 ⟨σ1,H1,I1,q1⟩=>?_)
  exact h2 pins s1 σ1 H1 _ _ Q I1 rr q1
noncomputable def gTup (K:PySem.W.Frag) (n:Nat) (t:TGs):TG:=fun v σ H Q=>∃ a xs,v=.ref a/\SqT K H a xs/\xs.length=n/\t xs σ H Q
theorem zeX_ {es:List Expr} {k:Nat} {t:TGs} {n:Nat} (hc:X.calm=true) (h:PGs X es t)
  (hn:(assignEach es X.env).length=n:=by rfl) (hst:(assignEach es X.env).findIdx? (·.1)=none:=by rfl):PG X (.Tuple es k pos) (gTup X.K n t):=by
 intro pins s σ H v u Q I r hw
 obtain ⟨a,xs,e1,hq,hl,hw⟩:=hw
 subst e1
 cases r
 obtain ⟨its,rv,ht,hz⟩:=I.tuple hq
 refine assign_Tuple_tuple (I.ok.hd hc) ht (by simp [hn,<-hl,rv.length]) hst fun h' hx=>?_
 have I1:Inv X pins σ H { s with heap:=h' }:=I.kept (t':=s.toks) fun b o e=>hx b o (Nat.ne_of_lt (Heap.lt_size e)) e
 exact h pins _ σ H xs _ Q I1 (by simpa using rv) hw
noncomputable def gSub (to ti:TE) (t:TSet):TG:=fun v σ H Q=>to σ H fun o H1=>ti σ H1 fun i H2=>t o i v H2 fun H3=>Q σ H3
theorem zeY_ {o i:Expr} {to ti:TE} {t:TSet} (ho:PE X o to) (hi:PE X i ti) (hs:PSet X t)
  (ha:∀ v,assign (.Subscript o i pos) X.env v=(do
   let ov <-holding [v] (eval o X.env)
   let iv <-holding [v,ov] (eval i X.env)
   standAt pos
   holding [v,ov,iv] (setItem ov iv v)
   release [v,ov,iv] []):=by intro _;rfl):PG X (.Subscript o i pos) (gSub to ti t):=by
 intro pins s σ H v u Q I r h
 rw [ha]
 refine wpAny_bind (wpAny_holding (thn (ho pins s σ H _ I h) fun ov s1 ⟨x,H1,I1,r1,q1⟩=>?_))
 refine wpAny_bind (wpAny_holding (thn (hi pins s1 σ H1 _ I1 q1) fun iv s2 ⟨y,H2,I2,r2,q2⟩=>?_))
 refine wpAny_bind (wpAny_standAt (wpAny_bind (wpAny_holding (thn (hs pins s2 σ H2 x y v ov iv u _ I2 r1 r2 r q2) fun _ s3 ⟨H3,I3,q3⟩=>?_))))
 exact wpAny_release ⟨σ,H3,I3,q3⟩
noncomputable def tAsg (te:TE) (g:TG):TS:=fun D σ H=>te σ H fun x H1=>g x σ H1 D.nx
theorem zbG_ {tg e:Expr} {te:TE} {g:TG} (he:PE X e te) (hg:PG X tg g) (hs:swapsWithSole [tg] e pos.line X.env=pure false:=by rfl) (hw:swappedStores [tg] e X.env=pure none:=by rfl)
  (h1:(assignEach [tg] X.env).map (·.2)=[assign tg X.env]:=by rfl):PS X (.Assign [tg] e pos) (tAsg te g):=by
 intro pins s σ H D I h
 refine wpAny_Assign_stores (thn (he pins s σ H _ I h) fun v s1 ⟨x,H1,I1,r1,q1⟩=>?_) hs hw
 rw [h1]
 exact thn (hg pins s1 σ H1 x v _ I1 r1 q1) fun _ s2 q=>q
theorem Je_ {i:Nat} {x:Str} {e:Expr} {te:TE} {pos':Pos} (hN:X.N.Nodup) (hi:X.N[i]? = some x) (hx:Loc X.env.scope x) (he:PE X e te) (hs:swapsWith e (some (.Name x pos')) pos.line X.env=pure false:=by rfl) (hf:X.fn x=true\/X.env.scope.names.lookup x=some .local:=by first|exact .inl rfl|exact .inr rfl|assumption) :
  PS X (.Assign [.Name x pos'] e pos) (tAsg te (WY_ i)):=by
 intro pins s σ H D I h
 refine wpAny_Assign_Name (thn (he pins s σ H _ I h) fun v s1 ⟨y,H1,I1,r1,q1⟩=>?_) hs
 exact JC_ I1 hN hi hx r1 (fun s2 I2=>⟨_,H1,I2,q1⟩) hf
noncomputable def zgM_ (to ti te:TE) (tget:V->V->Hp->VK->Prop) (tip:TIp) (tset:TSet):TS:=fun D σ H=>to σ H fun o H1=>ti σ H1 fun i H2=>tget o i H2 fun x H3=>te σ H3 fun y H4=>tip x y H4 fun z H5=>tset o i z H5 fun H6=>D.nx σ H6
def PGet (X:Cx) (t:V->V->Hp->VK->Prop):Prop :=
 ∀ (pins:List (Addr×Obj)) (s:Shared) (σ:St) (H:Hp) (o i:V) (ov iv:Value) (Q:VK),Inv X pins σ H s->RelV o ov->RelV i iv->t o i H Q ->
  wpAny (model X.prog X.w) X.A (getItem ov iv) (EP X pins σ Q) X.xe s
theorem zcL_ {o i e:Expr} {to ti te:TE} {tget:V->V->Hp->VK->Prop} {tip:TIp} {tset:TSet} {op:Operator} {tpos:Pos} (ho:PE X o to) (hi:PE X i ti) (hg:PGet X tget) (he:PE X e te) (hp:PIp X op tip) (hs:PSet X tset)
  (ha:∀ ov iv new,augStore i ov iv new=(do holding [new,ov,iv] (setItem ov iv new);release [new,ov,iv] [];pure .next):=by intros;rfl):PS X (.AugAssign (.Subscript o i tpos) op e pos) (zgM_ to ti te tget tip tset):=by
 intro pins s σ H D I h
 refine wpAny_AugAssign_SubscriptAny (thn (ho pins s σ H _ I h) fun ov s1 ⟨x1,H1,I1,r1,q1⟩=>?_) ha
 refine thn (hi pins s1 σ H1 _ I1 q1) fun iv s2 ⟨x2,H2,I2,r2,q2⟩=>?_
 refine thn (hg pins s2 σ H2 x1 x2 ov iv _ I2 r1 r2 q2) fun old s3 ⟨x3,H3,I3,r3,q3⟩=>?_
 refine thn (he pins s3 σ H3 _ I3 q3) fun v s4 ⟨x4,H4,I4,r4,q4⟩=>?_
 refine thn (hp pins s4 σ H4 x3 x4 old v _ I4 r3 r4 q4) fun new s5 ⟨x5,H5,I5,r5,q5⟩=>?_
 exact thn (hs pins s5 σ H5 x1 x2 x5 ov iv new _ I5 r1 r2 r5 q5) fun _ s6 ⟨H6,I6,q6⟩=>⟨σ,H6,I6,q6⟩
noncomputable def ipI (f:Int->Int->Int):TIp:=fun x y H Q=>∃ i j,x=.int i/\y=.int j/\Q (.int (f i j)) H
theorem zfT_:PIp X .Add (ipI fun i j=>i+j):=by
 intro pins s σ H x y v u Q I r1 r2 h
 obtain ⟨i,j,e1,e2,q⟩:=h
 subst e1;subst e2
 obtain ⟨t,rfl⟩:=r1
 obtain ⟨t',rfl⟩:=r2
 exact iadd_int ⟨.int _,H,I.tok _,⟨_,rfl⟩,q⟩
theorem zfS_:PIp X .Sub (ipI fun i j=>i - j):=by
 intro pins s σ H x y v u Q I r1 r2 h
 obtain ⟨i,j,e1,e2,q⟩:=h
 subst e1;subst e2
 obtain ⟨t,rfl⟩:=r1
 obtain ⟨t',rfl⟩:=r2
 exact isub_int ⟨.int _,H,I.tok _,⟨_,rfl⟩,q⟩
end
section
variable {X:Cx} {pos:Pos}
noncomputable def zeh_ (c:TT) (tb:TS):TS:=fun D σ H=>∃ W:Nat->St->Hp->Prop,(∃ m,W m σ H)/\∀ m σ H,W m σ H ->
 c σ H fun b H1=>if b=true then ∃ N:St->Hp->Prop,(∀ σ' H',N σ' H'->∃ m',m'<m/\W m' σ' H')/\tb { D with nx:=N,ct:=N,bk:=D.nx } σ H1 else D.nx σ H1
theorem X8_ {c:Expr} {body:List Stmt} {tc:TT} {tb:TS} (hp:PassesOwn (model X.prog X.w) X.A X.env X.xe) (hc:PT X c tc) (hb:PSs X body tb):PS X (.While c body [] pos) (zeh_ tc tb):=by
 intro pins s σ H D I h
 obtain ⟨W,⟨m0,w0⟩,turn⟩:=h
 refine wpAny_While (codeAny_whileLoop (fun n s'=>∃ σ' H',Inv X pins σ' H' s'/\W n σ' H') ?_ m0 ⟨σ,H,I,w0⟩)
 rintro n s1 ⟨σ1,H1,I1,w1⟩
 refine wpAny_passesOwn hp (thn (hc pins s1 σ1 H1 _ I1 (turn n σ1 H1 w1)) fun b s2 ⟨H2,I2,q2⟩=>?_)
 cases b with
 | true =>
  obtain ⟨N,hN,q2⟩:=q2
  rw [if_pos rfl]
  refine wpAny_passesOwn hp (thn (hb pins s2 σ1 H2 _ I2 q2) fun f s3 q3=>?_)
  cases f with
  | next =>
   obtain ⟨σ3,H3,I3,n3⟩:=q3
   obtain ⟨m',hm,w3⟩:=hN σ3 H3 n3
   exact ⟨m',hm,σ3,H3,I3,w3⟩
  | cont =>
   obtain ⟨σ3,H3,I3,n3⟩:=q3
   obtain ⟨m',hm,w3⟩:=hN σ3 H3 n3
   exact ⟨m',hm,σ3,H3,I3,w3⟩
  | brk=>exact q3
  | ret v=>exact q3
 | false =>
  rw [if_neg Bool.false_ne_true]
  exact wpAny_execs_nil ⟨σ1,H2,I2,q2⟩
end
structure It where
 go:Nat->Hp->Prop
 yld:Nat->Hp->V->Hp->Prop
 stop:Nat->Hp->Prop
def FpOk (X:Cx) (pins:List (Addr×Obj)) (H:Hp) (b:Addr):Prop :=
 H b=none/\b≠X.env.locals/\b∉X.fs/\(b∈X.ex\/X.s₀.heap.objs.size<=b)/\(∀ x c,X.env.cells.lookup x=some c->c≠b)/\∀ p∈X.pn++pins,p.1≠b
theorem Inv.fpOk {X:Cx} {pins:List (Addr×Obj)} {σ:St} {H H':Hp} {s:Shared} {b:Addr} (I:Inv X pins σ H s) (hb:s.heap.objs.size<=b) (hn:H' b=none):FpOk X pins H' b:=by
 refine ⟨hn,Nat.ne_of_gt (Nat.lt_of_lt_of_le I.lt hb),I.nofs hb,.inr (Nat.le_trans I.sz hb),fun x c e z=>?_,fun p hp z=>?_⟩
 ·obtain ⟨v,q⟩:=I.cell x c e
  exact absurd (Nat.lt_of_lt_of_le q.lt (by rw [z];exact hb)) (Nat.lt_irrefl _)
 ·exact absurd (Nat.lt_of_lt_of_le (Heap.lt_size (I.pin p hp).1) (by rw [z];exact hb)) (Nat.lt_irrefl _)
structure Turn (P:Program) (w:World) (K:PySem.W.Frag) (tg:Expr) (J:It) (fp:List Addr) (it:Addr) (tn:Nat->Heap->Prop):Prop where
 mem:it∈fp
 obj:∀ i h,tn i h->∀ b∈fp,∃ o,h.get? b=some o/\∀ v,o.data≠.cell v
 keep:∀ i h h',tn i h->(∀ b∈fp,∀ o,h.get? b=some o->h'.get? b=some o)->tn i h'
 item:∀ (X:Cx),X.prog=P->X.w=w->X.K=K->X.calm=true->∀ (i:Nat) (pins:List (Addr×Obj)) (s:Shared) (σ:St) (H:Hp) (E:Value->Shared->Prop),Inv X pins σ H s->(∀ b∈fp,FpOk X pins H b)->tn i s.heap->J.go i H ->
  wpAny (model P w) X.A (pyNext (.ref it)) (fun r s1=>∃ u,r=some u /\
   wpAny (model P w) X.A (letOwnedTupleGo tg (.ref it) u) (fun _ s2=>∃ x H',Inv X pins σ H' s2/\RelV x u/\J.yld i H x H'/\tn (i+1) s2.heap/\∀ b∈fp,H' b=none) E s1) E s
 done:∀ (X:Cx),X.prog=P->X.w=w->X.K=K->X.calm=true->∀ (i:Nat) (pins:List (Addr×Obj)) (s:Shared) (σ:St) (H:Hp) (E:Value->Shared->Prop),Inv X pins σ H s->(∀ b∈fp,FpOk X pins H b)->tn i s.heap->J.stop i H ->
  wpAny (model P w) X.A (pyNext (.ref it)) (fun r s1=>r=none/\Inv X pins σ H s1) E s
 self:∀ (A:Around) (i:Nat) (s:Shared) (Q:Value->Shared->Prop) (E:Value->Shared->Prop),tn i s.heap->Q (.ref it) s->wpAny (model P w) A (pyIter (.ref it)) Q E s
noncomputable abbrev TI:=St->Hp->(It->Hp->Prop)->Prop
def PIE (X:Cx) (pins:List (Addr×Obj)) (σ:St) (tg:Expr) (R:It->Hp->Prop) (itv:Value) (s2:Shared):Prop :=
 ∃ (it:Addr) (fp:List Addr) (tn:Nat->Heap->Prop) (J:It) (H':Hp),itv=.ref it/\Inv X pins σ H' s2/\Turn X.prog X.w X.K tg J fp it tn/\tn 0 s2.heap/\(∀ b∈fp,FpOk X pins H' b)/\R J H'
def PI (X:Cx) (tg iter:Expr) (wi:TI):Prop :=
 ∀ (pins:List (Addr×Obj)) (s:Shared) (σ:St) (H:Hp) (R:It->Hp->Prop),Inv X pins σ H s->wi σ H R ->
  wpAny (model X.prog X.w) X.A (eval iter X.env) (fun v s1=>wpAny (model X.prog X.w) X.A (pyIter v) (PIE X pins σ tg R) X.xe s1) X.xe s
theorem zdv_ {M:Model} {A:Around} {E:Value->Shared->Prop} {s:Shared} {tg:Expr} {it:Addr} {u:Value} {o:Obj} {n:String} {vs:Array Value} {Q:Unit->Shared->Prop} (ho:s.heap.get? it=some o) (hc:o.cls=.type n) (hd:o.data=.fields vs)
  (hn:["enumerate", "zip", "dict_itemiterator", "dict_reverseitemiterator", "odict_iterator", "itertools.zip_longest", "itertools.pairwise"].contains n=false) (hQ:Q () s):wpAny M A (letOwnedTupleGo tg (.ref it) u) Q E s:=by
 unfold letOwnedTupleGo
 cases tg<;>first
  | exact wpAny_pure hQ
  | (cases u<;>first
     | exact wpAny_pure hQ
     | (refine wpAny_bind (wpAny_load ho ?_)
        rw [hc,hd]
        show wpAny M A (if (["enumerate", "zip", "dict_itemiterator", "dict_reverseitemiterator", "odict_iterator", "itertools.zip_longest", "itertools.pairwise"].contains n&&vs[0]? == some (rawInt _))=true then _ else _) Q E s
        rw [if_neg (by intro h;rw [hn,Bool.false_and] at h;cases h)]
        exact wpAny_pure hQ))
noncomputable def Itl (K:PySem.W.Frag) (a:Addr):It :=
 ⟨fun i H=>∃ xs x,SqL K H a xs/\xs[i]? = some x,fun i H x H'=>H'=H/\∀ xs,SqL K H a xs->xs[i]? = some x,fun i H=>∃ xs,SqL K H a xs/\xs.length<=i⟩
noncomputable def Itt (K:PySem.W.Frag) (a:Addr):It :=
 ⟨fun i H=>∃ xs x,SqT K H a xs/\xs[i]? = some x,fun i H x H'=>H'=H/\∀ xs,SqT K H a xs->xs[i]? = some x,fun i H=>∃ xs,SqT K H a xs/\xs.length<=i⟩
noncomputable def Itr (lo:Int) (n:Nat):It:=⟨fun i _=>i<n,fun i H x H'=>H'=H/\x=.int (lo+i),fun i _=>n<=i⟩
theorem VF_ {P:Program} {w:World} {K:PySem.W.Frag} {tg:Expr} (a it:Addr):Turn P w K tg (Itl K a) [it] it (fun i h=>h.IsListIter it a i) where
 mem:=by simp
 obj:=fun i h st b hb=>by
  have e:b=it:=by simpa using hb
  subst e
  obtain ⟨o,e,c,d⟩:=st
  exact ⟨o,e,fun v z=>by rw [d] at z;cases z⟩
 keep:=fun i h h' st k=>st.at fun o e=>k it (by simp) o e
 item:=by
  intro X hP hw hK hc i pins s σ H E I hf st hg
  subst hP hw hK
  obtain ⟨xs,x,hq,hx⟩:=hg
  obtain ⟨its,rv,p,hz⟩:=I.list hq
  obtain ⟨u,hu,ru⟩:=rv.get hx
  obtain ⟨f0,f1,f2,f3,f4,f5⟩:=hf it (by simp)
  refine wpAny_pyNext_list_item st p.isList (x:=u) (by simpa using hu) fun h' st' sb=>?_
  have I1:Inv X pins σ H { s with heap:=h' }:=I.turned (t':=s.toks) (fun b o hb e=>(sb.2 b hb).trans e) f0 f1 f3 f4 f5
  obtain ⟨o,e,c,d⟩:=id st'
  exact ⟨u,rfl,zdv_ (s:={ s with heap:=h' }) e c d (by decide) ⟨x,H,I1,ru,⟨rfl,fun ys hy=>by rw [I.list_inj hy hq];exact hx⟩,st',fun b hb=>(hf b hb).1⟩⟩
 done:=by
  intro X hP hw hK hc i pins s σ H E I hf st hg
  subst hP hw hK
  obtain ⟨xs,hq,hx⟩:=hg
  obtain ⟨its,rv,p,hz⟩:=I.list hq
  obtain ⟨f0,f1,f2,f3,f4,f5⟩:=hf it (by simp)
  have hl:=rv.length
  exact wpAny_pyNext_list_end (I.ok.hd hc) st p.isList (by simp;lia) fun h' eb=>⟨rfl,I.turned (t':=s.toks) (fun b o hb e=>eb b o hb e) f0 f1 f3 f4 f5⟩
 self:=fun _ _ _ _ _ st h=>wpAny_pyIter_listiter st h
theorem QM_ {P:Program} {w:World} {K:PySem.W.Frag} {tg:Expr} (a it:Addr):Turn P w K tg (Itt K a) [it] it (fun i h=>h.IsTupleIter it a i) where
 mem:=by simp
 obj:=fun i h st b hb=>by
  have e:b=it:=by simpa using hb
  subst e
  obtain ⟨o,e,c,d⟩:=st
  exact ⟨o,e,fun v z=>by rw [d] at z;cases z⟩
 keep:=fun i h h' st k=>st.at fun o e=>k it (by simp) o e
 item:=by
  intro X hP hw hK hc i pins s σ H E I hf st hg
  subst hP hw hK
  obtain ⟨xs,x,hq,hx⟩:=hg
  obtain ⟨its,rv,p,hz⟩:=I.tuple hq
  obtain ⟨u,hu,ru⟩:=rv.get hx
  obtain ⟨f0,f1,f2,f3,f4,f5⟩:=hf it (by simp)
  refine wpAny_pyNext_tuple_item st (show s.heap.IsTuple a its.toArray from p) (x:=u) (by simpa using hu) fun h' st' sb=>?_
  have I1:Inv X pins σ H { s with heap:=h' }:=I.turned (t':=s.toks) (fun b o hb e=>(sb.2 b hb).trans e) f0 f1 f3 f4 f5
  obtain ⟨o,e,c,d⟩:=id st'
  exact ⟨u,rfl,zdv_ (s:={ s with heap:=h' }) e c d (by decide) ⟨x,H,I1,ru,⟨rfl,fun ys hy=>by rw [I.tuple_inj hy hq];exact hx⟩,st',fun b hb=>(hf b hb).1⟩⟩
 done:=by
  intro X hP hw hK hc i pins s σ H E I hf st hg
  subst hP hw hK
  obtain ⟨xs,hq,hx⟩:=hg
  obtain ⟨its,rv,p,hz⟩:=I.tuple hq
  obtain ⟨f0,f1,f2,f3,f4,f5⟩:=hf it (by simp)
  have hl:=rv.length
  exact wpAny_pyNext_tuple_end (I.ok.hd hc) st (show s.heap.IsTuple a its.toArray from p) (by simp;lia) fun h' eb=>⟨rfl,I.turned (t':=s.toks) (fun b o hb e=>eb b o hb e) f0 f1 f3 f4 f5⟩
 self:=fun _ _ _ _ _ st h=>wpAny_pyIter_tupleiter st h
theorem QN_ {P:Program} {w:World} {K:PySem.W.Frag} {tg:Expr} (it:Addr) (lo:Int) (n:Nat):Turn P w K tg (Itr lo n) [it] it (fun i h=>IsRangeIter h it (lo+(i:Nat)*1) ((n:Int) - (i:Nat)) 1) where
 mem:=by simp
 obj:=fun i h st b hb=>by
  have e:b=it:=by simpa using hb
  subst e
  exact ⟨_,st,fun v z=>by
   have z':Data.fields _=Data.cell v:=z
   cases z'⟩
 keep:=fun i h h' st k=>k it (by simp) _ st
 item:=by
  intro X hP hw hK hc i pins s σ H E I hf st hg
  subst hP hw hK
  obtain ⟨f0,f1,f2,f3,f4,f5⟩:=hf it (by simp)
  have W:=Walks.range (prog:=X.prog) (w:=X.w) (I.ok.hd hc) it lo 1 n
  refine W.item i s _ _ hg st fun v h' tk hv st' kk=>?_
  obtain ⟨t,rfl⟩:=hv
  have I1:Inv X pins σ H { s with heap:=h',toks:=tk }:=I.turned (fun b o hb e=>kk b o (by simpa using hb) e) f0 f1 f3 f4 f5
  refine ⟨_,rfl,zdv_ (s:={ s with heap:=h',toks:=tk }) (n := "range_iterator") st' rfl rfl (by decide) ⟨.int (lo+i),H,I1,⟨t,?_⟩,⟨rfl,rfl⟩,st',fun b hb=>(hf b hb).1⟩⟩
  rw [Int.mul_one]
 done:=by
  intro X hP hw hK hc i pins s σ H E I hf st hg
  subst hP hw hK
  obtain ⟨f0,f1,f2,f3,f4,f5⟩:=hf it (by simp)
  exact wpAny_pyNext_range_end (I.ok.hd hc) st (by have:n<=i:=hg;lia) fun h' eb=>⟨rfl,I.turned (t':=s.toks) (fun b o hb e=>eb b o hb e) f0 f1 f3 f4 f5⟩
 self:=fun _ _ _ _ _ st h=>wpAny_pyIter_rangeiter st h
section
variable {X:Cx} {tg:Expr}
theorem Qf_ {pins:List (Addr×Obj)} {σ:St} {H:Hp} {s:Shared} {R:It->Hp->Prop} {E:Value->Shared->Prop} {lo hi:Int} {t u v:Tok} {tk:Nat} (I:Inv X pins σ H s) (h1 : -(2^62)<=lo) (h2:lo<2^62) (h3 : -(2^62)<=hi) (h4:hi<2^62)
  (q:R (Itr lo (hi - lo).toNat) H):wpAny (model X.prog X.w) X.A (pyIter (.ref s.heap.objs.size)) (PIE X pins σ tg R) E { s with heap:=s.heap.push { cls:=.type "range",data:=.fields #[.int lo t,.int hi u,.int 1 v] },toks:=tk }:=by
 refine wpAny_pyIter_range (IsRange.new ..) (small_one h1 h2 h3 h4) ?_
 have I1:Inv X pins σ H { s with heap:=s.heap.push { cls:=.type "range",data:=.fields #[.int lo t,.int hi u,.int 1 v] },toks:=tk }:=I.kept fun b o e=>Heap.get?_push_of_some _ e
 refine ⟨(s.heap.push { cls:=.type "range",data:=.fields #[.int lo t,.int hi u,.int 1 v] }).objs.size,[(s.heap.push { cls:=.type "range",data:=.fields #[.int lo t,.int hi u,.int 1 v] }).objs.size],_,_,H,rfl,
  I1.kept (t':=tk) fun b o e=>Heap.get?_push_of_some _ e,QN_ _ lo (hi - lo).toNat,?_,fun b hb=>?_,q⟩
 ·have e1:lo+((0:Nat):Int)*1=lo:=by simp
  have e2:(((hi - lo).toNat:Nat):Int) - ((0:Nat):Int)=Builtin.Range.rangeSize lo hi 1:=by rw [rangeSize_one];split<;>lia
  show IsRangeIter _ _ (lo+((0:Nat):Int)*1) ((((hi - lo).toNat:Nat):Int) - ((0:Nat):Int)) 1
  rw [e1,e2]
  exact Heap.get?_push_size _ rfl
 ·have e:b=(s.heap.push { cls:=.type "range",data:=.fields #[.int lo t,.int hi u,.int 1 v] }).objs.size:=by simpa using hb
  subst e
  exact I1.fpOk (Nat.le_refl _) (I1.hok.fresh (Nat.le_refl _))
noncomputable def zht_ (ta:TA):TI:=fun σ H R=>ta σ H fun vs H1=>∃ j:Int,vs=[.int j] /\ -(2^62)<=j/\j<2^62/\R (Itr 0 j.toNat) H1
noncomputable def zhs_ (ta:TA):TI:=fun σ H R=>ta σ H fun vs H1=>∃ i j:Int,vs=[.int i,.int j]/\(-(2^62)<=i/\i<2^62 /\ -(2^62)<=j/\j<2^62)/\R (Itr i (j - i).toNat) H1
theorem UB_ {a:Expr} {ta:TA} {p pos:Pos} (hg:Gl X "range") (hm:X.mg "range" = none) (ha:PA X [a] ta) (hs:starEach [a] X.env=[(false,eval a X.env)]:=by rfl):PI X tg (.Call (.Name "range" p) [a] [] pos) (zht_ ta):=by
 intro pins s σ H R I h
 refine Call_ (ZI_ I hg hm boot_range (PyProof.Rows.callWith_type1 (thn (ha pos pins s σ H _ I h) fun us s1 ⟨vs,H1,I1,r1,q1⟩=>?_) hs rfl))
 obtain ⟨j,e,q1,q2,q⟩:=q1
 subst e
 cases r1 with
 | cons r rr =>
  cases rr
  obtain ⟨t,rfl⟩:=r
  exact call_range_1 (Qf_ I1 (by lia) (by lia) q1 q2 (by simpa using q))
theorem V6_ {a b:Expr} {ta:TA} {p pos:Pos} (hg:Gl X "range") (hm:X.mg "range" = none) (ha:PA X [a,b] ta) (hs:starEach [a,b] X.env=[(false,eval a X.env),(false,eval b X.env)]:=by rfl) (hs2:starEach [b] X.env=[(false,eval b X.env)]:=by rfl) :
  PI X tg (.Call (.Name "range" p) [a,b] [] pos) (zhs_ ta):=by
 intro pins s σ H R I h
 refine Call_ (ZI_ I hg hm boot_range (PyProof.Rows.callWith_type1 (thn (ha pos pins s σ H _ I h) fun us s1 ⟨vs,H1,I1,r1,q1⟩=>?_) (by rw [hs,hs2]) (by rw [hs2];rfl)))
 obtain ⟨i,j,e,⟨q1,q2,q3,q4⟩,q⟩:=q1
 subst e
 cases r1 with
 | cons r rr =>
  cases rr with
  | cons r' rr =>
   cases rr
   obtain ⟨t,rfl⟩:=r
   obtain ⟨t',rfl⟩:=r'
   exact call_range_2 (Qf_ I1 q1 q2 q3 q4 q)
noncomputable def tFor (wi:TI) (g:TG) (tb:TS):TS:=fun D σ H=>wi σ H fun J H1=>∃ W:Nat->Nat->St->Hp->Prop,(∃ m,W 0 m σ H1)/\∀ i m σ H,W i m σ H ->
 (J.stop i H/\D.nx σ H)\/(J.go i H/\∃ N:St->Hp->Prop,(∀ σ' H',N σ' H'->∃ m',m'<m/\W (i+1) m' σ' H')/\∀ x H',J.yld i H x H'->g x σ H' fun σ2 H2=>tb { D with nx:=N,ct:=N,bk:=D.nx } σ2 H2)
noncomputable def Uz_ (fp:List Addr) (h:Heap):List (Addr×Obj):=fp.filterMap fun b=>(h.get? b).map fun o=>(b,o)
theorem uJ_ {fp:List Addr} {h:Heap} {b:Addr} {o:Obj} (hb:b∈fp) (e:h.get? b=some o):(b,o)∈Uz_ fp h:=List.mem_filterMap.mpr ⟨b,hb,by rw [e];rfl⟩
theorem Wo_ {fp:List Addr} {h:Heap} {p:Addr×Obj} (hp:p∈Uz_ fp h):p.1∈fp/\h.get? p.1=some p.2:=by
 obtain ⟨b,hb,e⟩:=List.mem_filterMap.mp hp
 cases q:h.get? b with
 | none=>rw [q] at e;cases e
 | some o =>
  rw [q] at e
  have e':(b,o)=p:=Option.some.inj e
  subst e'
  exact ⟨hb,q⟩
theorem Inv.pinned {pins:List (Addr×Obj)} {σ:St} {H:Hp} {s:Shared} {fp:List Addr} (I:Inv X pins σ H s) (hf:∀ b∈fp,FpOk X pins H b) (ho:∀ b∈fp,∃ o,s.heap.get? b=some o/\∀ v,o.data≠.cell v):Inv X (pins++Uz_ fp s.heap) σ H s :=
 I.pins_of fun p hp=>(List.mem_append.mp hp).elim (fun z=>I.pin p (List.mem_append_right _ z)) fun z=>by
  obtain ⟨hb,e⟩:=Wo_ z
  obtain ⟨f0,f1,f2,_⟩:=hf p.1 hb
  obtain ⟨o,e',d⟩:=ho p.1 hb
  rw [e] at e';cases e'
  exact ⟨e,f0,f1,f2,d⟩
theorem Inv.unpinned {pins pl:List (Addr×Obj)} {σ:St} {H:Hp} {s:Shared} (I:Inv X (pins++pl) σ H s):Inv X pins σ H s:=I.pins_of fun p hp=>I.pin p (List.mem_append_right _ (List.mem_append_left _ hp))
theorem zeV_ {iter:Expr} {body:List Stmt} {wi:TI} {g:TG} {tb:TS} {pos:Pos} (hp:PassesOwn (model X.prog X.w) X.A X.env X.xe) (hc:X.calm=true) (hi:PI X tg iter wi) (hg:PG X tg g) (hb:PSs X body tb)
  (hs:∀ x,foldedSetIterable iter X.env x=pure x:=by intro _;rfl):PS X (.For tg iter body [] pos) (tFor wi g tb):=by
 intro pins s σ H D I h
 refine wpAny_For (thn (hi pins s σ H _ I h) fun v s1 h1=>thn h1 fun itv s2 h2=>?_) hs
 obtain ⟨it,fp,tn,J,H2,e,I2,T,st2,f2,W,⟨m0,w0⟩,turn⟩:=h2
 subst e
 have stat:∀ {H':Hp},(∀ b∈fp,H' b=none)->∀ b∈fp,FpOk X pins H' b:=fun hn b hb=>⟨hn b hb,(f2 b hb).2⟩
 refine codeAny_forLoop_any (fun n s'=>∃ i σ' H',Inv X pins σ' H' s'/\tn i s'.heap/\(∀ b∈fp,H' b=none)/\W i n σ' H') ?_ m0 ⟨0,σ,H2,I2,st2,fun b hb=>(f2 b hb).1,w0⟩
 rintro n s3 ⟨i,σ3,H3,I3,st3,fr3,w3⟩
 rcases turn i n σ3 H3 w3 with ⟨stop,qn⟩|⟨go,N,hN,step⟩
 ·refine wpAny_passesOwn hp (thn (T.done X rfl rfl rfl hc i pins s3 σ3 H3 X.xe I3 (stat fr3) st3 stop) fun r s4 ⟨hr,I4⟩=>?_)
  subst hr
  exact wpAny_execs_nil ⟨σ3,H3,I4,qn⟩
 ·refine wpAny_passesOwn hp (thn (T.item X rfl rfl rfl hc i pins s3 σ3 H3 X.xe I3 (stat fr3) st3 go) fun r s4 ⟨u,hr,h4⟩=>?_)
  subst hr
  refine wpAny_passesOwn hp (thn h4 fun _ s5 ⟨x,H5,I5,r5,y5,st5,fr5⟩=>?_)
  have I5':=I5.pinned (stat fr5) (T.obj _ _ st5)
  refine wpAny_passesOwn hp (thn (hg _ s5 σ3 H5 x u _ I5' r5 (step x H5 y5)) fun _ s6 ⟨σ6,H6,I6,q6⟩=>?_)
  refine wpAny_passesOwn hp (thn (hb _ s6 σ6 H6 _ I6 q6) fun f s7 q7=>?_)
  have again:∀ {σ7:St} {H7:Hp},Inv X (pins++Uz_ fp s5.heap) σ7 H7 s7->N σ7 H7->∃ m,m<n/\∃ i σ' H',Inv X pins σ' H' s7/\tn i s7.heap/\(∀ b∈fp,H' b=none)/\W i m σ' H':=fun {σ7 H7} I7 n7=>by
   obtain ⟨m',hm,w7⟩:=hN σ7 H7 n7
   refine ⟨m',hm,i+1,σ7,H7,I7.unpinned,T.keep _ _ _ st5 fun b hb o e=>(I7.pin (b,o) (List.mem_append_right _ (List.mem_append_right _ (uJ_ hb e)))).1,fun b hb=>?_,w7⟩
   obtain ⟨o,e,d⟩:=T.obj _ _ st5 b hb
   exact (I7.pin (b,o) (List.mem_append_right _ (List.mem_append_right _ (uJ_ hb e)))).2.1
  cases f with
  | next=>obtain ⟨σ7,H7,I7,n7⟩:=q7;exact again I7 n7
  | cont=>obtain ⟨σ7,H7,I7,n7⟩:=q7;exact again I7 n7
  | brk=>obtain ⟨σ7,H7,I7,q7⟩:=q7;exact ⟨σ7,H7,I7.unpinned,q7⟩
  | ret v=>obtain ⟨x7,σ7,H7,I7,r7,q7⟩:=q7;exact ⟨x7,σ7,H7,I7.unpinned,r7,q7⟩
end
noncomputable abbrev R2:=V->V->Hp->VK->Prop
def OpR (X:Cx) (f:Value->Value->Sem Value) (r:R2):Prop :=
 ∀ (pins:List (Addr×Obj)) (s:Shared) (σ:St) (H:Hp) (x y:V) (v u:Value) (Q:VK),Inv X pins σ H s->RelV x v->RelV y u->r x y H Q ->
  wpAny (model X.prog X.w) X.A (f v u) (EP X pins σ Q) X.xe s
def CallR (X:Cx) (f:Value) (r:List V->Hp->VK->Prop):Prop :=
 ∀ (pins:List (Addr×Obj)) (s:Shared) (σ:St) (H:Hp) (xs:List V) (us:List Value) (Q:VK),Inv X pins σ H s->Vals xs us->r xs H Q ->
  wpAny (model X.prog X.w) X.A (call f us) (EP X pins σ Q) X.xe s
def TruR (X:Cx) (r:V->Hp->(Bool->Hp->Prop)->Prop):Prop :=
 ∀ (pins:List (Addr×Obj)) (s:Shared) (σ:St) (H:Hp) (x:V) (v:Value) (Q:Bool->Hp->Prop),Inv X pins σ H s->RelV x v->r x H Q ->
  wpAny (model X.prog X.w) X.A (truthy v) (TP X pins σ Q) X.xe s
noncomputable def tOp (r:R2) (ta tb:TE):TE:=fun σ H Q=>ta σ H fun x H1=>tb σ H1 fun y H2=>r x y H2 Q
noncomputable def rI (C:Int->Int->Prop) (g:Int->Int->V):R2:=fun x y H Q=>∃ i j,x=.int i/\y=.int j/\C i j/\Q (g i j) H
noncomputable def rI0 (g:Int->Int->V):R2:=fun x y H Q=>∃ i j,x=.int i/\y=.int j/\Q (g i j) H
section
variable {X:Cx} {a b c:Expr} {ta tb tc:TE} {pos:Pos}
theorem binT (ha:PE X a ta) (hb:PE X b tb) {pins:List (Addr×Obj)} {s:Shared} {σ:St} {H:Hp} {R:V->V->Hp->Prop} (I:Inv X pins σ H s)
  (h:ta σ H fun x H1=>tb σ H1 fun y H2=>R x y H2) {Q:Value->Shared->Prop} {f:Value->Value->Sem Value}
  (hf:∀ v u s2 x y H2,Inv X pins σ H2 s2->RelV x v->RelV y u->R x y H2->wpAny (model X.prog X.w) X.A (f v u) Q X.xe s2) :
  wpAny (model X.prog X.w) X.A (eval a X.env) (fun v s₁=>wpAny (model X.prog X.w) X.A (eval b X.env) (fun u s₂=>wpAny (model X.prog X.w) X.A (f v u) Q X.xe s₂) X.xe s₁) X.xe s:=by
 refine thn (ha pins s σ H _ I h) fun v s1 ⟨x,H1,I1,r1,q1⟩=>?_
 refine thn (hb pins s1 σ H1 _ I1 q1) fun u s2 ⟨y,H2,I2,r2,q2⟩=>?_
 exact hf v u s2 x y H2 I2 r1 r2 q2
theorem zeZ_ {op:Operator} {r:R2} (ho:OpR X (binaryOp op) r) (ha:PE X a ta) (hb:PE X b tb):PE X (.BinOp a op b pos) (tOp r ta tb):=by
 intro pins s σ H Q I h
 exact wpAny_BinOp (binT ha hb I h fun v u s2 x y H2 I2 rx ry q=>ho pins s2 σ H2 x y v u Q I2 rx ry q)
theorem opI {f:Value->Value->Sem Value} {C:Int->Int->Prop} {g:Int->Int->Int}
  (rule:∀ (i j:Int) (t u:Tok) (s:Shared) (Q:Value->Shared->Prop) (E:Value->Shared->Prop),C i j->Q (.int (g i j) s.toks) { s with toks:=s.toks+1 }->wpAny (model X.prog X.w) X.A (f (.int i t) (.int j u)) Q E s) :
  OpR X f (rI C fun i j=>.int (g i j)):=by
 intro pins s σ H x y v u Q I rx ry h
 obtain ⟨i,j,rfl,rfl,hc,q⟩:=h
 obtain ⟨t,rfl⟩:=rx
 obtain ⟨t',rfl⟩:=ry
 exact rule i j t t' s _ _ hc ⟨.int (g i j),H,I.tok _,⟨_,rfl⟩,q⟩
theorem opI0 {f:Value->Value->Sem Value} {g:Int->Int->Int}
  (rule:∀ (i j:Int) (t u:Tok) (s:Shared) (Q:Value->Shared->Prop) (E:Value->Shared->Prop),Q (.int (g i j) s.toks) { s with toks:=s.toks+1 }->wpAny (model X.prog X.w) X.A (f (.int i t) (.int j u)) Q E s) :
  OpR X f (rI0 fun i j=>.int (g i j)):=by
 intro pins s σ H x y v u Q I rx ry h
 obtain ⟨i,j,rfl,rfl,q⟩:=h
 obtain ⟨t,rfl⟩:=rx
 obtain ⟨t',rfl⟩:=ry
 exact rule i j t t' s _ _ ⟨.int (g i j),H,I.tok _,⟨_,rfl⟩,q⟩
theorem opB0 {f:Value->Value->Sem Value} {g:Int->Int->Bool}
  (rule:∀ (i j:Int) (t u:Tok) (s:Shared) (Q:Value->Shared->Prop) (E:Value->Shared->Prop),Q (.bool (g i j)) s->wpAny (model X.prog X.w) X.A (f (.int i t) (.int j u)) Q E s) :
  OpR X f (rI0 fun i j=>.bl (g i j)):=by
 intro pins s σ H x y v u Q I rx ry h
 obtain ⟨i,j,rfl,rfl,q⟩:=h
 obtain ⟨t,rfl⟩:=rx
 obtain ⟨t',rfl⟩:=ry
 exact rule i j t t' s _ _ ⟨.bl (g i j),H,I,rfl,q⟩
def CDiv (i j:Int):Prop:=0<j/\j<1073741824
def CPow (i j:Int):Prop:=0<=j/\j<=1000000/\i.natAbs<2^64
def CMul (i j:Int):Prop:=(-(2^64)<i/\i<2^64)\/(-(2^64)<j/\j<2^64)
theorem CMul.ok {i j:Int} (h:CMul i j):IntMulOk i j:=by
 rcases h with ⟨h1,h2⟩|⟨h1,h2⟩
 ·exact .of_left (intBits_le_64 h1 h2)
 ·exact .of_right (intBits_le_64 h1 h2)
theorem op_add:OpR X (binaryOp .Add) (rI0 fun i j=>.int (i+j)):=opI0 fun _ _ _ _ _ _ _ q=>add_int q
theorem zbK_:OpR X (binaryOp .Sub) (rI0 fun i j=>.int (i - j)):=opI0 fun _ _ _ _ _ _ _ q=>sub_int q
theorem yY_:OpR X (binaryOp .Mult) (rI CMul fun i j=>.int (i*j)):=opI fun _ _ _ _ _ _ _ hc q=>mul_int q hc.ok
theorem JL_:OpR X (binaryOp .FloorDiv) (rI CDiv fun i j=>.int (i / j)):=opI fun i j _ _ _ _ _ hc q=>by
 have h1:(0:Int)<j:=hc.1
 have h2:j<1073741824:=hc.2
 exact floordiv_int (by lia) (by rw [Int.fdiv_eq_ediv_of_nonneg i (by lia)];exact q) (.inl (PyProof.noPylong_small (by lia)))
theorem Jj_:OpR X (binaryOp .Mod) (rI (fun _ j=>0<j) fun i j=>.int (i % j)):=opI fun i j _ _ _ _ _ hc q=>by
 have h1:(0:Int)<j:=hc
 exact mod_int' (by lia) (by rw [Int.fmod_eq_emod_of_nonneg i (by lia)];exact q)
theorem zfo_:OpR X (binaryOp .Pow) (rI CPow fun i j=>.int (i^j.toNat)):=opI fun _ _ _ _ _ _ _ hc q=>pow_int_small hc.1 hc.2.1 hc.2.2 q
end
section
variable {X:Cx} {a b c:Expr} {ta tb tc:TE} {pos:Pos}
theorem zbX_ {pins:List (Addr×Obj)} {σ:St} {H:Hp} {s:Shared} {Q:VK} {k k':Bool} (I:Inv X pins σ H s) (q:Q (.bl k) H) (e:k=k'):EP X pins σ Q (.bool k') s:=by
 subst e
 exact ⟨.bl k,H,I,rfl,q⟩
theorem zhh_:OpR X (compareOp .Lt) (rI0 fun i j=>.bl (decide (i<j))):=opB0 fun _ _ _ _ _ _ _ q=>lt_int q
theorem Wh_:OpR X (compareOp .Gt) (rI0 fun i j=>.bl (decide (j<i))):=opB0 fun _ _ _ _ _ _ _ q=>gt_int q
theorem zan_:OpR X (compareOp .GtE) (rI0 fun i j=>.bl (decide (j<=i))):=opB0 fun _ _ _ _ _ _ _ q=>ge_int q
theorem zcW_:OpR X (compareOp .IsNot) (fun x y H Q=>y=.non/\Q (.bl (!decide (x=.non))) H):=by
 intro pins s σ H x y v u Q I rx ry h
 obtain ⟨rfl,q⟩:=h
 cases ry
 refine isnot_none_gen (zbX_ I q ?_)
 cases x<;>first
  | (cases rx;rfl)
  | (obtain ⟨t,rfl⟩:=rx;rfl)
theorem UC_:OpR X (compareOp .NotIn) (fun x y H Q=>∃ i j,x=.str i/\y=.str j/\Q (.bl (!(!(Builtin.Str.occurrences j i 0 j.length 1).isEmpty))) H):=by
 intro pins s σ H x y v u Q I rx ry h
 obtain ⟨i,j,rfl,rfl,q⟩:=h
 obtain ⟨t,rfl⟩:=rx
 obtain ⟨t',rfl⟩:=ry
 exact notIn_str (zbX_ I q rfl)
theorem OpR.or {f:Value->Value->Sem Value} {r r':R2} (h:OpR X f r) (h':OpR X f r'):OpR X f (fun x y H Q=>r x y H Q\/r' x y H Q):=by
 intro pins s σ H x y v u Q I rx ry q
 rcases q with q|q
 ·exact h pins s σ H x y v u Q I rx ry q
 ·exact h' pins s σ H x y v u Q I rx ry q
theorem V9_ {op:CmpOp} {r:R2} (ho:OpR X (compareOp op) r) (ha:PE X a ta) (hb:PE X b tb) (hm:behindInMarks op b=false):PE X (.Compare a [op] [b] pos) (tOp r ta tb):=by
 intro pins s σ H Q I h
 exact wpAny_Compare1 (binT ha hb I h fun v u s2 x y H2 I2 rx ry q=>ho pins s2 σ H2 x y v u Q I2 rx ry q) hm
noncomputable def zgH_ (t:TE):TT:=fun σ H Q=>t σ H fun x H'=>∃ k,x=.bl k/\Q k H'
theorem V3_ {op:CmpOp} {r:R2} (ho:OpR X (compareOp op) r) (ha:PE X a ta) (hb:PE X b tb) (hm:behindInMarks op b=false):PT X (.Compare a [op] [b] pos) (zgH_ (tOp r ta tb)):=by
 intro pins s σ H Q I h
 refine wpAny_isTrue_Compare1 (thn (ha pins s σ H _ I h) fun v s1 ⟨x,H1,I1,r1,q1⟩=>thn (hb pins s1 σ H1 _ I1 q1) fun u s2 ⟨y,H2,I2,r2,q2⟩ =>
  thn (ho pins s2 σ H2 x y v u _ I2 r1 r2 q2) fun c s3 ⟨z,H3,I3,r3,k,e,q3⟩=>?_) hm
 subst e
 cases r3
 exact wpAny_truthy_bool ⟨H3,I3,q3⟩
def TruV (K:PySem.W.Frag) (x:V) (H:Hp) (k:Bool):Prop :=
 match x with
 | .non=>k=false
 | .bl b=>k=b
 | .int i=>k=(i != 0)
 | .str y=>y.length<=sizeLine/\k=((y.length:Int) != 0)
 | .byt y=>y.size<=sizeLine/\k=((y.size:Int) != 0)
 | .ref p=>(∃ xs,SqL K H p xs/\k = !xs.isEmpty)\/(∃ xs,SqT K H p xs/\k = !xs.isEmpty)\/∃ kvs,H p=some (.dK kvs)/\k = !kvs.isEmpty
 | _=>False
theorem Vj_ {κ:Type} {kvs:List (κ×V)} {vs:List (κ×Value)} (r:KV kvs vs):(!vs.isEmpty) = !kvs.isEmpty:=by
 cases r<;>rfl
theorem Jp_ {xs:List V} {its:List Value} (r:Vals xs its):(!its.toArray.isEmpty) = !xs.isEmpty:=by
 cases r<;>simp
theorem y0_:(sizeLine:Nat)<2^63:=by rw [sizeLine_eq];decide
theorem zbu_:TruR X (fun x H Q=>∃ k,TruV X.K x H k/\Q k H):=by
 intro pins s σ H x v Q I rx h
 obtain ⟨k,e,q⟩:=h
 have hl:=y0_
 have hs:sizeLine=16777216:=sizeLine_eq
 cases x with
 | non =>
  cases rx
  have e':k=false:=e
  subst e'
  exact truthy_none ⟨H,I,q⟩
 | bl b =>
  cases rx
  have e':k=b:=e
  subst e'
  exact wpAny_truthy_bool ⟨H,I,q⟩
 | int i =>
  obtain ⟨t,rfl⟩:=rx
  have e':k=(i != 0):=e
  subst e'
  exact PySem.P.truthy_int ⟨H,I,q⟩
 | str y =>
  obtain ⟨t,rfl⟩:=rx
  obtain ⟨hy,e'⟩:y.length<=sizeLine/\k=((y.length:Int) != 0):=e
  subst e'
  exact PySem.P.truthy_str (by lia) ⟨H,I.tok _,q⟩
 | byt y =>
  obtain ⟨t,rfl⟩:=rx
  obtain ⟨hy,e'⟩:y.size<=sizeLine/\k=((y.size:Int) != 0):=e
  subst e'
  exact PySem.W.truthy_bytes (by lia) ⟨H,I.tok _,q⟩
 | ref p =>
  cases rx
  have e':(∃ xs,SqL X.K H p xs/\k = !xs.isEmpty)\/(∃ xs,SqT X.K H p xs/\k = !xs.isEmpty)\/∃ kvs,H p=some (.dK kvs)/\k = !kvs.isEmpty:=e
  rcases e' with ⟨xs,hx,e'⟩|⟨xs,hx,e'⟩|⟨kvs,hx,e'⟩
  ·subst e'
   obtain ⟨its,r,pl,hz⟩:=I.list hx
   have hlen:=r.length
   exact wpAny_truthy_list pl.isList (by simp only [List.size_toArray];lia) ⟨H,I.tok _,by rw [Jp_ r];exact q⟩
  ·subst e'
   obtain ⟨its,r,pl,hz⟩:=I.tuple hx
   have hlen:=r.length
   exact truthy_tuple pl (by simp only [List.size_toArray];lia) ⟨H,I.tok _,by rw [Jp_ r];exact q⟩
  ·subst e'
   obtain ⟨hz,hS,vs,r,m⟩:kvs.length<=sizeLine/\(p==sysModules)=false/\∃ vs,KV kvs vs/\s.heap.DictOf (zC_ X.prog X.w) p vs:=I.hok p _ hx
   have hlen:kvs.length=vs.length:=Paired.length r
   exact wpAny_truthy_dict hS m (by lia) ⟨H,I.tok _,by rw [Vj_ r];exact q⟩
 | _=>exact (show False from e).elim
theorem X7_ (ha:PE X a ta) (he:∀ whole,isTrue a X.env whole=(do let v <-whole;standAt a.pos;holding [v] (truthy v))) :
  PT X a (fun σ H Q=>ta σ H fun x H'=>∃ k,TruV X.K x H' k/\Q k H'):=by
 intro pins s σ H Q I h
 exact isTrue_plain (thn (ha pins s σ H _ I h) fun v s1 ⟨x,H1,I1,r1,q1⟩=>zbu_ pins s1 σ H1 x v Q I1 r1 q1) (he _)
theorem Q1_:OpR X (binaryOp .Add) (fun x y H Q=>∃ i j,x=.str i/\y=.str j/\i.length+j.length<=sizeLine/\Q (.str (i++j)) H):=by
 intro pins s σ H x y v u Q I rx ry h
 obtain ⟨i,j,rfl,rfl,hz,q⟩:=h
 obtain ⟨t,rfl⟩:=rx
 obtain ⟨t',rfl⟩:=ry
 exact add_str (fun t' tk=>⟨.str (i++j),H,I.tok _,⟨_,rfl⟩,q⟩) hz
theorem vals1 {x:V} {us:List Value} (r:Vals [x] us):∃ u,us=[u]/\RelV x u:=by
 cases r with
 | cons r1 r2=>cases r2;exact ⟨_,rfl,r1⟩
theorem vals2 {x y:V} {us:List Value} (r:Vals [x,y] us):∃ u w',us=[u,w']/\RelV x u/\RelV y w':=by
 cases r with
 | cons r1 r2 =>
  cases r2 with
  | cons r3 r4=>cases r4;exact ⟨_,_,rfl,r1,r3⟩
theorem Xw_ (hc:X.calm=true):CallR X (.builtin "max") (fun xs H Q=>∃ i j,xs=[.int i,.int j]/\Q (.int (if j>i then j else i)) H):=by
 intro pins s σ H xs us Q I r h
 obtain ⟨i,j,rfl,q⟩:=h
 obtain ⟨u,w',rfl,⟨t,rfl⟩,⟨t',rfl⟩⟩:=vals2 r
 refine max_two_ints (I.ok.hd hc) fun h' tk k=>⟨_,H,I.kept k,?_,q⟩
 by_cases hj:j>i
 ·rw [if_pos hj,if_pos hj];exact ⟨_,rfl⟩
 ·rw [if_neg hj,if_neg hj];exact ⟨_,rfl⟩
theorem Xs_ (hc:X.calm=true):CallR X (.builtin "min") (fun xs H Q=>∃ i j,xs=[.int i,.int j]/\Q (.int (if j<i then j else i)) H):=by
 intro pins s σ H xs us Q I r h
 obtain ⟨i,j,rfl,q⟩:=h
 obtain ⟨u,w',rfl,⟨t,rfl⟩,⟨t',rfl⟩⟩:=vals2 r
 refine min_two_ints (I.ok.hd hc) fun h' tk k=>⟨_,H,I.kept k,?_,q⟩
 by_cases hj:j<i
 ·rw [if_pos hj,if_pos hj];exact ⟨_,rfl⟩
 ·rw [if_neg hj,if_neg hj];exact ⟨_,rfl⟩
theorem Xy_:CallR X (.type "int") (fun xs H Q=>(∃ i,xs=[.int i]/\Q (.int i) H)\/∃ k,xs=[.bl k]/\Q (.int (if k then 1 else 0)) H):=by
 intro pins s σ H xs us Q I r h
 rcases h with ⟨i,rfl,q⟩|⟨k,rfl,q⟩
 ·obtain ⟨u,rfl,t,rfl⟩:=vals1 r
  exact call_int_int ⟨.int i,H,I,⟨_,rfl⟩,q⟩
 ·obtain ⟨u,rfl,r1⟩:=vals1 r
  cases r1
  exact call_int_bool ⟨.int (if k then 1 else 0),H,I.tok _,⟨_,rfl⟩,q⟩
end
theorem Wz_ {h:Heap} {dx:Addr} {mA:Str->Option Value} (n:h.Ns1 dx mA):∃ od,h.get? dx=some od/\∀ name,PySem.W.lookIn name od=some (mA name):=by
 obtain ⟨o,es,ep,ho,hd,hk,_,hm⟩:=n
 refine ⟨o,ho,fun name=>?_⟩
 have e:=hm name
 unfold nsFind findBy at e
 rw [<-Array.find?_toList] at e
 unfold PySem.W.lookIn
 rw [hd]
 dsimp only
 split
 ·rename_i y q
  rw [q] at e
  exact congrArg some e
 ·rename_i q
  rw [q] at e
  have a:es.toList.any (·.refKey)=false:=by
   rw [List.any_eq_false]
   intro y hy
   obtain ⟨z,t,hkey⟩:=hk y (Array.mem_toList_iff.mp hy)
   simp [DictEntry.refKey,hkey]
  have a':¬ es.toList.any (·.refKey)=true:=by rw [a];exact Bool.false_ne_true
  rw [if_neg a']
  exact congrArg some e
theorem RelO.some_of {v:V} {o:Option Value} (r:RelO (some v) o):∃ u,o=some u/\RelV v u:=by
 cases o with
 | none=>exact (show False from r).elim
 | some u=>exact ⟨u,rfl,r⟩
def zch_ (K:PySem.W.Frag) (C:Addr) (f:Str):Prop:=PySem.W.findIn K (.ref C) f=some none
structure Room (k:Nat) (A:Around):Prop where
 hd:A.handled=none
 dp:A.depth+3*k+5<recursionLimit
 un:A.units+16*k+1200<cLine
 gd:A.guards=some []
theorem Room.mono {j k:Nat} {A:Around} (r:Room k A) (h:j<=k):Room j A:=⟨r.hd,by have:=r.dp;lia,by have:=r.un;lia,r.gd⟩
theorem Room.deeper {k:Nat} {A:Around} (r:Room (k+1) A) (env:Env):Room k (A.deeper env) :=
 ⟨r.hd,by have:=r.dp;show A.depth+1+3*k+5<_;lia,by have:=r.un;show A.units+3+16*k+1200<_;lia,r.gd⟩
theorem Vc_ {A:Around} {C:Addr} {us:List Value} {kw:List (Str×Value)}:(A.under (.builtin "type.__call__" ⟨.ref C::us,kw⟩)).depth=A.depth+1:=by
 first|rfl|simp [Around.under,Code.weight,Code.isCreation,Code.isGuard,Code.isCaller,Code.frames,Code.isFrame,guardIds]
theorem Vb_ {A:Around} {C:Addr} {us:List Value} {kw:List (Str×Value)}:(A.under (.builtin "type.__call__" ⟨.ref C::us,kw⟩)).units=A.units+1:=by
 first|rfl|simp [Around.under,Code.cUnits,Code.frames,Code.isFrame]
theorem Room.make {k:Nat} {A:Around} (r:Room (k+1) A) (C:Addr) (us:List Value) (kw:List (Str×Value)):Room k (A.under (.builtin "type.__call__" ⟨.ref C::us,kw⟩)) :=
 ⟨r.hd,by have:=r.dp;rw [Vc_];lia,by have:=r.un;rw [Vb_];lia,by first|exact r.gd|simpa [Around.under,Code.isGuard,guardIds] using r.gd⟩
theorem Room.depth {k:Nat} {A:Around} (r:Room k A):A.depth<recursionLimit:=by have:=r.dp;lia
noncomputable def tNil:TA:=fun _ H Q=>Q [] H
noncomputable def zel_ (ta:TE) (tr:TA):TA:=fun σ H Q=>ta σ H fun x H1=>tr σ H1 fun xs H2=>Q (x::xs) H2
section
variable {X:Cx} {e:Expr} {es:List Expr} {te:TE} {t:TA} {pos:Pos}
theorem ZC_:PA X [] tNil:=fun _ _ _ _ H Q I h=>Calls.spliced_nil ⟨[],H,I,.nil,h⟩
theorem jU_ (ha:PE X e te) (hr:PA X es t) (hs:starEach (e::es) X.env=(false,eval e X.env)::starEach es X.env:=by rfl):PA X (e::es) (zel_ te t):=by
 intro pos pins s σ H Q I h
 rw [hs]
 show wpAny _ _ (spliced ((false,eval e X.env)::backTo pos (starEach es X.env))) _ _ s
 refine Calls.spliced_cons (thn (ha pins s σ H _ I h) fun u s1 ⟨x,H1,I1,r1,q1⟩=>?_)
 exact thn (hr pos pins s1 σ H1 _ I1 q1) fun us s2 ⟨xs,H2,I2,r2,q2⟩=>⟨x::xs,H2,I2,.cons r1 r2,q2⟩
noncomputable def tTup (t:TA):TE:=fun σ H Q=>t σ H fun xs H1=>xs.length<=sizeLine/\∀ p,H1 p=none->Q (.ref p) (upd H1 p (.tup xs))
noncomputable def tLst (t:TA):TE:=fun σ H Q=>t σ H fun xs H1=>xs.length<=sizeLine/\∀ p,H1 p=none->Q (.ref p) (upd H1 p (.lst xs))
theorem zbI_ {x1} (h:PA X es t):PE X (.Tuple es x1 pos) (tTup t):=by
 intro pins s σ H Q I hq
 refine wpAny_Tuple_spliced (thn (h pos pins s σ H _ I hq) fun us s1 ⟨xs,H1,I1,r,z,q⟩=>⟨by rw [<-r.length];exact z,?_⟩)
 have hf:H1 s1.heap.objs.size=none:=I1.hok.fresh (Nat.le_refl _)
 refine ⟨.ref s1.heap.objs.size,upd H1 s1.heap.objs.size (.tup xs),I1.laid (t':=s1.toks) (fun b u e=>Heap.get?_push_of_some _ e) (Nat.le_refl _) ?_,rfl,q _ hf⟩
 exact ⟨z,us,r,⟨_,Heap.get?_push_size _ rfl,rfl,_,rfl⟩,⟨_,Heap.get?_push_size _ rfl,rfl⟩⟩
theorem zfc_ (h:PA X es t):PE X (.List es pos) (tLst t):=by
 intro pins s σ H Q I hq
 refine wpAny_List_spliced (thn (h pos pins s σ H _ I hq) fun us s1 ⟨xs,H1,I1,r,z,q⟩=>⟨by rw [<-r.length];exact z,?_⟩)
 have hf:H1 s1.heap.objs.size=none:=I1.hok.fresh (Nat.le_refl _)
 refine ⟨.ref s1.heap.objs.size,upd H1 s1.heap.objs.size (.lst xs),I1.laid (t':=s1.toks) (fun b u e=>Heap.get?_push_of_some _ e) (Nat.le_refl _) ?_,rfl,q _ hf⟩
 exact ⟨z,us,0,r,Heap.get?_push_size _ rfl⟩
end
noncomputable abbrev Sp:=List V->Hp->VK->XK->Prop
noncomputable abbrev CXT:=List Env->Hp->Shared->XK->Value->Shared->Prop
structure Env0 (P:Program) (w:World) (K:PySem.W.Frag) (mg:Str->Option Value) (base:Heap) (A:Around) (outer:List Env) (s:Shared) (H:Hp):Prop where
 frames:A.frames=some outer
 mod:Mod K mg base
 bs:∀ b o,base.get? b=some o->s.heap.get? b=some o/\H b=none
 bsz:base.objs.size<=s.heap.objs.size
 funs:s.heap.FunFrames base outer
 frf:∀ b∈frs outer,H b=none
 hok:HOk P w H s.heap
 bare:AllBare s.gens
def CE (outer:List Env) (P:Program) (w:World) (H:Hp) (s:Shared) (Q:VK) (u:Value) (s':Shared):Prop :=
 ∃ v H',s'.os=s.os/\AllBare s'.gens/\Un (frs outer) [] H H' s.heap s'.heap/\HOk P w H' s'.heap/\RelV v u/\Q v H'
def CR (CX:CXT) (outer:List Env) (P:Program) (w:World) (H:Hp) (s:Shared) (Q:VK) (E:XK) (r:Result) (s':Shared):Prop :=
 match r with
 | .ok (.ret u)=>CE outer P w H s Q u s'
 | .ok _=>False
 | .error e=>CX outer H s E e s'
structure FnOk (P:Program) (w:World) (K:PySem.W.Frag) (mg:Str->Option Value) (base:Heap) (CX:CXT) (k:Nat) (f:Addr) (fd:FuncData) (ps:List Str) (sp:Sp):Prop where
 len:∀ vs H Q E,sp vs H Q E->vs.length=ps.length
 run:∀ (A:Around) (outer:List Env) (s:Shared) (H:Hp) (args:Args) (us:List Value) (vs:List V) (Q:VK) (E:XK),Room k A->Env0 P w K mg base A outer s H->BindsTo s fd args (ps.zip us)->Vals vs us->sp vs H Q E ->
  codeAny (model P w) A (.call (.ref f) args) (CR CX outer P w H s Q E) s
theorem Env0.make {P:Program} {w:World} {K:PySem.W.Frag} {mg:Str->Option Value} {base:Heap} {A:Around} {outer:List Env} {s:Shared} {H:Hp} (e:Env0 P w K mg base A outer s H) (C:Addr) (us:List Value) (kw:List (Str×Value)) :
  Env0 P w K mg base (A.under (.builtin "type.__call__" ⟨.ref C::us,kw⟩)) outer s H:=⟨by first|exact e.frames|(simpa [Around.under,Code.envs,Code.isFrame,pushEnvs] using e.frames),e.mod,e.bs,e.bsz,e.funs,e.frf,e.hok,e.bare⟩
section
variable {X:Cx} {pins:List (Addr×Obj)} {σ:St} {H:Hp} {s s':Shared}
theorem Inv.env0 (I:Inv X pins σ H s):Env0 X.prog X.w X.K X.mg X.base X.A X.stack s H :=
 ⟨I.ok.frames,I.ok.mod,I.bs,Nat.le_trans I.ok.bsz I.sz,I.stack,I.stkFree,I.hok,I.bare⟩
theorem Inv.after {Q:VK} {u:Value} (I:Inv X pins σ H s) (h:CE X.stack X.prog X.w H s Q u s'):EP X pins σ Q u s':=by
 obtain ⟨v,H',os,bare,un,hok,r,q⟩:=h
 obtain ⟨hh,g,d,t,os'⟩:=s'
 obtain rfl:os'=s.os:=os
 exact ⟨v,H',I.call (h':=hh) (g':=g) (d':=d) (t':=t) (ch:=[]) un hok bare (fun b z=>absurd z (by simp)),r,q⟩
end
def Binds (K:PySem.W.Frag) (fd:FuncData) (ps:List Str) (ds:List Value):Prop :=
 ∀ (s:Shared) (us:List Value),K.In s.heap->(us++ds).length=ps.length->BindsTo s fd ⟨us,[]⟩ (ps.zip (us++ds))
theorem Binds.all {K:PySem.W.Frag} {fd:FuncData} {ps:List Str} (h:∀ us:List Value,us.length=ps.length->bindArgs fd ⟨us,[]⟩=pure (ps.zip us)):Binds K fd ps []:=fun s us _ hl=>by
 rw [List.append_nil] at hl ⊢
 exact .of_eq (h us hl)
structure FnScope (N P:List Str) (sc:Scope):Prop where
 kind:sc.kind=.function
 co:sc.isCoroutine=false
 gen:sc.isGenerator=false
 nd:N.Nodup
 pre:N.take P.length=P
 par:∀ x∈P,sc.names.lookup x=some .local\/sc.names.lookup x=some .cell
 nofree:∀ y∈sc.names,y.2≠.free
theorem U7_ {kindOf:Str->Option NameKind} {x:Str}:∀ {binds:List (Str×Value)} {m:Str->Option Value},(∀ v,(x,v)∉binds)->bindL kindOf binds m x=m x
 | [],_,_=>rfl
 | (n,v)::r,m,h=>by
  unfold bindL
  rw [U7_ fun w hw=>h w (List.mem_cons_of_mem _ hw)]
  split
  ·have:x≠n:=by rintro rfl;exact h v List.mem_cons_self
   simp [this]
  ·rfl
theorem U9_ {kindOf:Str->Option NameKind} {x:Str}:∀ {binds:List (Str×Value)} {m:Str->Option Value},(∀ v,(x,v)∉binds)->bindC kindOf binds m x=m x
 | [],_,_=>rfl
 | (n,v)::r,m,h=>by
  unfold bindC
  rw [U9_ fun w hw=>h w (List.mem_cons_of_mem _ hw)]
  split
  ·rfl
  ·have:x≠n:=by rintro rfl;exact h v List.mem_cons_self
   simp [this]
theorem U8_ {kindOf:Str->Option NameKind} {x:Str} {v:Value}:∀ {P:List Str} {vs:List Value} {i:Nat} {m:Str->Option Value},P.Nodup->P[i]? = some x->vs[i]? = some v->kindOf x=some .local ->
  bindL kindOf (P.zip vs) m x=some v
 | [],_,_,_,_,h,_,_=>by simp at h
 | _::_,[],_,_,_,_,h,_=>by simp at h
 | p::P,w::vs,0,m,nd,h1,h2,hk=>by
  simp at h1 h2;subst h1;subst h2
  show bindL kindOf ((p,w)::P.zip vs) m p=_
  unfold bindL
  rw [U7_ fun v hv=>(List.nodup_cons.mp nd).1 (List.of_mem_zip hv).1,if_pos hk]
  simp
 | p::P,w::vs,i+1,m,nd,h1,h2,hk=>by
  show bindL kindOf ((p,w)::P.zip vs) m x=_
  unfold bindL
  exact U8_ (i:=i) (List.nodup_cons.mp nd).2 (by simpa using h1) (by simpa using h2) hk
theorem Ya_ {kindOf:Str->Option NameKind} {x:Str} {v:Value}:∀ {P:List Str} {vs:List Value} {i:Nat} {m:Str->Option Value},P.Nodup->P[i]? = some x->vs[i]? = some v->kindOf x≠some .local ->
  bindC kindOf (P.zip vs) m x=some v
 | [],_,_,_,_,h,_,_=>by simp at h
 | _::_,[],_,_,_,_,h,_=>by simp at h
 | p::P,w::vs,0,m,nd,h1,h2,hk=>by
  simp at h1 h2;subst h1;subst h2
  show bindC kindOf ((p,w)::P.zip vs) m p=_
  unfold bindC
  rw [U9_ fun v hv=>(List.nodup_cons.mp nd).1 (List.of_mem_zip hv).1,if_neg hk]
  simp
 | p::P,w::vs,i+1,m,nd,h1,h2,hk=>by
  show bindC kindOf ((p,w)::P.zip vs) m x=_
  unfold bindC
  exact Ya_ (i:=i) (List.nodup_cons.mp nd).2 (by simpa using h1) (by simpa using h2) hk
noncomputable def start (N:List Str) (vs:List V):St:=vs.map some++List.replicate (N.length - vs.length) none
noncomputable def cxOf (CX:CXT) (P:Program) (w:World) (K:PySem.W.Frag) (mg:Str->Option Value) (base:Heap) (N:List Str) (qual:Str) (scope:Scope) (f:Addr) (cd:Value) (A:Around) (outer:List Env) (s:Shared) (H:Hp) (E:XK):Cx where
 prog:=P
 w:=w
 K:=K
 mg:=mg
 base:=base
 A:=A.deeper (envOfC qual scope s.heap.objs.size f cd)
 N:=N
 s₀:=s
 H₀:=H
 env:=envOfC qual scope s.heap.objs.size f cd
 outer:=outer
 stack:=envOfC qual scope s.heap.objs.size f cd::outer
 ex:=[]
 calm:=true
 fn:=fun _=>true
 pn:=[]
 xe:=fun e s'=>wpAny (model P w) (A.deeper (envOfC qual scope s.heap.objs.size f cd)) (leaving (envOfC qual scope s.heap.objs.size f cd) e) (fun _ s''=>CX outer H s E e s'') (fun e' s''=>CX outer H s E e' s'') s'
theorem QB_ {sc:Scope} {n:Nat} {x:Str} (h:sc.names.lookup x=some .cell):∃ c,(cellsFrom n sc.names []).lookup x=some c:=by
 have q:=PySem.W.cellsFrom_some sc.names n [] (.inl h)
 exact Option.isSome_iff_exists.mp q
theorem WQ_ {CX:CXT} {P:Program} {w:World} {K:PySem.W.Frag} {mg:Str->Option Value} {base:Heap} {N ps:List Str} {qual:Str} {scope:Scope} {f:Addr} {cd:Value} {A:Around} {outer:List Env} {s s1:Shared} {H:Hp} {E:XK} {us:List Value} {vs:List V}
  (S:FnScope N ps scope) (hd:A.handled=none) (e0:Env0 P w K mg base A outer s H) (hl:vs.length=ps.length) (r:Vals vs us)
  (x:InCallC s s.heap.objs.size (bindL (envOfC qual scope s.heap.objs.size f cd).kindOf (ps.zip us) fun _=>none) (cellsFrom (s.heap.objs.size+1) scope.names []) (bindC (envOfC qual scope s.heap.objs.size f cd).kindOf (ps.zip us) fun _=>none) s1) :
  Inv (cxOf CX P w K mg base N qual scope f cd A outer s H E) [] (start N vs) H s1:=by
 have hpl:ps.length<=N.length:=by have:=congrArg List.length S.pre;rw [List.length_take] at this;lia
 obtain ⟨h1,tk,rfl,hk⟩:=x.done
 have noA:∀ b:Addr,b∉(cxOf CX P w K mg base N qual scope f cd A outer s H E).ex:=fun b z=>absurd (show b∈([]:List Addr) from z) (by simp)
 refine ⟨⟨e0.mod,S.kind,rfl,rfl,Nat.le_refl _,fun y z c h1 h2=>?_,fun y hy=>?_,fun y c _ h=>?_,fun _=>hd,Around.frames_deeper e0.frames,.inr ⟨rfl,rfl⟩,fun b z=>absurd z (noA b),e0.bs,e0.bsz,fun b _ _=>noA b,fun b z=>absurd z (noA b),e0.funs,e0.frf⟩,
  rfl,e0.bare,Un.kept hk,⟨_,x.toInCall.ns,fun i y v h1 h2 h3=>?_⟩,fun y c h=>⟨_,x.cell y c h⟩,e0.hok.fresh (Nat.le_refl _),fun y c h=>?_,fun p hp=>absurd (show p∈([]:List (Addr×Obj)) from hp) (by simp),e0.hok.kept hk,?_⟩
 ·exact name_of_addr x.apart (PySem.mem_of_lookup h1) (PySem.mem_of_lookup h2)
 ·have hy:scope.names.lookup y=some .cell\/scope.names.lookup y=some .free:=hy
  rcases hy with hy|hy
  ·exact QB_ hy
  ·exact absurd rfl (S.nofree _ (PySem.mem_of_lookup hy))
 ·exact Nat.le_of_lt (x.above y c (PySem.mem_of_lookup h))
 ·have hi:i<vs.length:=by
   unfold start at h2
   by_cases hi:i<vs.length
   ·exact hi
   ·rw [List.getElem?_append_right (by simpa using hi)] at h2
    rw [List.getElem?_replicate] at h2
    split at h2<;>cases h2
  have ha:vs[i]? = some v:=by
   unfold start at h2
   rw [List.getElem?_append_left (by simpa using hi),List.getElem?_map] at h2
   cases e:vs[i]? with
   | none=>rw [e] at h2;cases h2
   | some a=>rw [e] at h2;cases h2;rfl
  obtain ⟨u,hu,rv⟩:=r.get ha
  have hp:ps[i]? = some y:=by
   rw [<-S.pre,List.getElem?_take_of_lt (by lia)];exact h1
  have ndP:ps.Nodup:=by rw [<-S.pre];exact S.nd.sublist (List.take_sublist _ _)
  refine ⟨u,rv,?_⟩
  rcases S.par y (List.mem_of_getElem? hp) with k|k
  ·exact .inl ⟨k,U8_ ndP hp hu k⟩
  ·obtain ⟨c,e⟩:=QB_ (n:=s.heap.objs.size+1) k
   refine .inr ⟨.inl k,c,e,?_⟩
   have q:=x.cell y c e
   rw [Ya_ ndP hp hu (by show scope.names.lookup y≠_;rw [k];decide)] at q
   exact q
 ·exact e0.hok.fresh (Nat.le_of_lt (x.above y c (PySem.mem_of_lookup h)))
 ·unfold start
  show _=N.length
  rw [List.length_append,List.length_map,List.length_replicate]
  lia
theorem zgc_ {CX:CXT} {P:Program} {w:World} {K:PySem.W.Frag} {mg:Str->Option Value} {base:Heap} {k:Nat} {f:Addr} {name qual:Str} {params:Arguments} {body:List Stmt} {scope:Scope} {dV kV doc pm cdv ct oc:Value} {an od:Option Addr}
  {osl:Array (Option Value)} {N ps:List Str} {sp:Sp} (lk:K.lookup f=some ⟨oc,od,.func (PySem.W.fnOf name qual params body scope dV kV doc pm an cdv ct),osl⟩) (hcd:PySem.W.codeIn K cdv qual=true) (S:FnScope N ps scope)
  (len:∀ vs H Q E,sp vs H Q E->vs.length=ps.length)
  (hbody:∀ (A:Around) (outer:List Env) (s:Shared) (H:Hp) (vs:List V) (Q:VK) (E:XK),Room k (A.deeper (envOfC qual scope s.heap.objs.size f cdv))->sp vs H Q E ->
   ∃ t,PSs (cxOf CX P w K mg base N qual scope f cdv A outer s H E) body t/\t { nx:=fun _ H'=>Q .non H',rt:=Q } (start N vs) H) :
  FnOk P w K mg base CX (k+1) f (PySem.W.fnOf name qual params body scope dV kV doc pm an cdv ct) ps sp:=by
 refine ⟨len,fun A outer s H args us vs Q E hr e0 hb r hsp=>?_⟩
 have hl:=len _ _ _ _ hsp
 have KX:K.In s.heap:=e0.mod.kin.keeps fun b o e=>(e0.bs b o e).1
 have lim:s.heap.NoLimit:=e0.mod.nolimit.keeps fun b o e=>(e0.bs b o e).1
 have hkind:∀ y∈ps.zip us,scope.names.lookup y.1=some .local\/(scope.names.lookup y.1=some .cell/\((cellsFrom (s.heap.objs.size+1) scope.names []).lookup y.1).isSome=true):=fun ⟨n,v⟩ hy=>by
  rcases S.par n (List.of_mem_zip hy).1 with q|q
  ·exact .inl q
  ·exact .inr ⟨q,PySem.W.cellsFrom_some _ _ _ (.inl q)⟩
 refine codeAny_call_function hr.depth (KX _ _ lk) rfl S.co S.gen rfl (PySem.W.codeRec_of KX hcd) (hb _ _ _ _ ?_)
 refine wpAny_newFunctionEnv_cells S.kind hkind fun env he s1 x=>?_
 subst he
 refine ⟨lim.keeps x.toInCall.keep,codeAny_func ?_⟩
 obtain ⟨t,ht,hq⟩:=hbody A outer s H vs Q E (hr.deeper _) hsp
 have I:Inv (cxOf CX P w K mg base N qual scope f cdv A outer s H E) [] (start N vs) H s1:=WQ_ S hr.hd e0 hl r x
 refine wpAny_mono (ht [] s1 (start N vs) H _ I hq) (fun fl s' hs=>?_) fun e s' hs=>hs
 have fin:∀ {σ':St} {H':Hp} {v:V} {u:Value},Inv (cxOf CX P w K mg base N qual scope f cdv A outer s H E) [] σ' H' s'->RelV v u->Q v H'->CE outer P w H s Q u s' :=
  fun {σ' H' v u} J rv q=>⟨v,H',J.os,J.bare,J.base,J.hok,rv,q⟩
 cases fl with
 | ret u =>
  obtain ⟨v,σ',H',J,rv,q⟩:=hs
  exact fin J rv q
 | next =>
  obtain ⟨σ',H',J,q⟩:=hs
  exact fin (v:=V.non) (u:=Value.none) J rfl q
 | brk =>
  obtain ⟨_,_,_,q⟩:=hs
  exact False.elim q
 | cont =>
  obtain ⟨_,_,_,q⟩:=hs
  exact False.elim q
section
variable {X:Cx} {x:Str} {p pos:Pos} {e:Expr} {es:List Expr} {t:TA} {id T:String} {r:List V->Hp->VK->Prop}
noncomputable def tCB (r:List V->Hp->VK->Prop) (t:TA):TE:=fun σ H Q=>t σ H fun vs H1=>r vs H1 Q
theorem Zi_ (hc:CallR X (.builtin id) r) (hg:Gl X x) (hm:X.mg x=none) (hv:bootBuiltins x=some (.builtin id)) (ha:PA X (e::es) t) (hn:x ≠ "__name__":=by decide) (hdb:(x==("__debug__" : Str))=false:=by decide)
  (he:starEach (e::es) X.env=(false,eval e X.env)::starEach es X.env:=by rfl) (hpl:(backTo pos (starEach es X.env)).any (·.1)=false:=by rfl):PE X (.Call (.Name x p) (e::es) [] pos) (tCB r t):=by
 intro pins s σ H Q I h
 refine wpAny_Call_Name_kw (ZI_ I hg hm hv ?_ hn hdb)
 exact PyProof.Rows.callWith_builtin1 (thn (ha pos pins s σ H _ I h) fun us s1 ⟨vs,H1,I1,r1,q1⟩=>hc pins s1 σ H1 vs us Q I1 r1 q1) he hpl
theorem ZB_ (hc:CallR X (.type T) r) (hg:Gl X x) (hm:X.mg x=none) (hv:bootBuiltins x=some (.type T)) (ha:PA X (e::es) t) (hn:x ≠ "__name__":=by decide) (hdb:(x==("__debug__" : Str))=false:=by decide)
  (he:starEach (e::es) X.env=(false,eval e X.env)::starEach es X.env:=by rfl) (hpl:(backTo pos (starEach es X.env)).any (·.1)=false:=by rfl):PE X (.Call (.Name x p) (e::es) [] pos) (tCB r t):=by
 intro pins s σ H Q I h
 refine wpAny_Call_Name_kw (ZI_ I hg hm hv ?_ hn hdb)
 exact PyProof.Rows.callWith_type1 (thn (ha pos pins s σ H _ I h) fun us s1 ⟨vs,H1,I1,r1,q1⟩=>hc pins s1 σ H1 vs us Q I1 r1 q1) he hpl
end
end L2
namespace HT
open PySem PyProof.Rows
noncomputable def lexLt:List Int->List Int->Bool
 | [],[]=>false
 | [],_::_=>true
 | _::_,[]=>false
 | x::xs,y::ys=>if x=y then lexLt xs ys else decide (x<y)
theorem lexLt_cons (x y:Int) (xs ys:List Int):lexLt (x::xs) (y::ys)=if x=y then lexLt xs ys else decide (x<y):=rfl
theorem lexLt_nil_nil:lexLt [] []=false:=rfl
theorem Z0_ (y:Int) (ys:List Int):lexLt [] (y::ys)=true:=rfl
theorem Z1_ (x:Int) (xs:List Int):lexLt (x::xs) []=false:=rfl
theorem zaU_ (A:Around) (s:Shared) (a:Int) (t:Tok) (c:Int) (u:Tok):∃ e,SeqAt.EqAt A s (.int a t) (.int c u) e/\(e=true↔a=c) :=
 ⟨(a==c),SeqAt.EqAt.int_int a t c u,by simp⟩
theorem X4_ (A:Around) (s:Shared) (a:Int) (t:Tok) (c:Int) (u:Tok) (prog:Program) (w:World) (E:Value->Shared->Prop) (Q:Value->Shared->Prop) (h:Q (.bool (decide (a<c))) s) :
  wpAny (model prog w) A (richCompare .Lt (.int a t) (.int c u)) Q E s :=
 (PyProof.Rows.lt_int h:wpAny (model prog w) A (compareOp .Lt (.int a t) (.int c u)) Q E s)
section
open PySem.SeqAt
open PySem.AutoSeq1 (wpAny_loadPart')
open PySem.MeetsSeq PySem.MeetsSeq2 PySem.MeetsSeq3
theorem JA_ (l b:Addr) (items items2:Array Value) (n n2:Nat) (dd dd2:Option Addr) (sl sl2:Array (Option Value)) (ns ms:List Int) (hi:IntsAre items.toList ns) (hj:IntsAre items2.toList ms) :
  Meets (Builtin.«tuple.__lt__» ⟨[.ref l,.ref b],[]⟩)
   (fun _ R s=>s.heap.get? l=some { cls:=.type "tuple",dict:=dd,data:=.seq items n,slots:=sl }/\s.heap.get? b=some { cls:=.type "tuple",dict:=dd2,data:=.seq items2 n2,slots:=sl2 } /\
    R (.ok (.ret (.bool (lexLt ns ms)))) s) :=
 .of_wp fun prog w A R s h=>by
  obtain ⟨hp,g,d,tk,os⟩:=s;obtain ⟨hl,hb,h⟩:=h
  have f2:=AutoSeq1.sub_tuple_tuple
  have z1:items.size=ns.length:=by rw [<-hi.length];simp
  have z2:items2.size=ms.length:=by rw [<-hj.length];simp
  wp_walk using wpAny_loadPart' hl,wpAny_loadPart' hb,wpAny_forIn_list _ (fun rest b s'=>b.1=none/\s'=⟨hp,g,d,tk,os⟩/\∃ (vs ws:List Value) (ns' ms':List Int),rest=vs.zip ws /\
   IntsAre vs ns'/\IntsAre ws ms'/\ns'.length+items2.size=ms'.length+items.size/\R (.ok (.ret (.bool (lexLt ns' ms')))) ⟨hp,g,d,tk,os⟩) _
  case turn =>
   rintro ⟨y,x⟩ rest b s' ⟨hb',rfl,vs,ws,ns',ms',hz,hvi,hwi,hlen,hR⟩
   cases hvi with
   | nil=>rw [List.zip_nil_left] at hz;cases hz
   | cons a t hvi' =>
    cases hwi with
    | nil=>rw [List.zip_nil_right] at hz;cases hz
    | cons c u hwi' =>
     rw [List.zip_cons_cons] at hz
     injection hz with hyx hrest
     injection hyx with hy hx
     subst hy hx
     rw [lexLt_cons] at hR
     simp only [List.length_cons] at hlen
     obtain ⟨e,he,hiff⟩:=zaU_ A.in1 ⟨hp,g,d,tk,os⟩ a t c u
     refine wpAny_bind (he prog w _ _ ?_)
     cases e with
     | true =>
      rw [if_pos (hiff.mp rfl)] at hR
      wp_walk
      exact ⟨rfl,rfl,_,_,_,_,hrest,hvi',hwi',by lia,hR⟩
     | false =>
      rw [if_neg (fun q=>absurd (hiff.mpr q) Bool.false_ne_true)] at hR
      have hri:=X4_ A.in1 ⟨hp,g,d,tk,os⟩ a t c u prog w
      wp_walk using hri
      exact ⟨_,rfl,by simpa using hR⟩
  case fin =>
   rintro ⟨b1,b2⟩ s' ⟨hb',rfl,vs,ws,ns',ms',hz,hvi,hwi,hlen,hR⟩
   simp only at hb'
   subst hb'
   have hv:lexLt ns' ms'=decide (items.size<items2.size):=by
    cases hvi with
    | nil =>
     cases hwi with
     | nil =>
      simp only [List.length_nil] at hlen
      rw [lexLt_nil_nil]
      exact (decide_eq_false (by lia)).symm
     | cons c u hw =>
      simp only [List.length_nil,List.length_cons] at hlen
      rw [Z0_]
      exact (decide_eq_true (by lia)).symm
    | cons a t hv =>
     cases hwi with
     | nil =>
      simp only [List.length_nil,List.length_cons] at hlen
      rw [Z1_]
      exact (decide_eq_false (by lia)).symm
     | cons c u hw =>
      rw [List.zip_cons_cons] at hz
      cases hz
   rw [hv] at hR
   wp_walk
   exact ⟨_,rfl,by simpa [Builtin.Tuple.tupleCompareSizes] using hR⟩
  case h =>
   exact ⟨rfl,rfl,items.toList,items2.toList,ns,ms,rfl,hi,hj,by lia,h⟩
end
section
variable {prog:Program} {w:World} {A:Around} {E:Value->Shared->Prop} {s:Shared}
theorem lt_tupInts {l b:Addr} {items items2:Array Value} {ns ms:List Int} {Q:Value->Shared->Prop} (hl:IsTup s.heap l items) (hb:IsTup s.heap b items2) (hi:IntsAre items.toList ns) (hj:IntsAre items2.toList ms)
  (hu:A.units<cLine) (h:Q (.bool (lexLt ns ms)) s):wpAny (model prog w) A (compareOp .Lt (.ref l) (.ref b)) Q E s:=by
 obtain ⟨⟨cls,dd,data,sl⟩,ho,hc,n,hd⟩:=id hl
 obtain ⟨⟨cls2,dd2,data2,sl2⟩,ho2,hc2,n2,hd2⟩:=id hb
 simp only at hc hd hc2 hd2
 subst hc hd hc2 hd2
 exact richCompare_meets_room (op:=.Lt) ⟨_,ho,rfl⟩ ⟨_,ho2,rfl⟩ PySem.F.slot_tuple_lt PySem.F.entry_tuple_lt (PySem.F.args_tuple_lt_2 _ _) (JA_ l b items items2 n n2 dd dd2 sl sl2 ns ms hi hj)
  ⟨ho,ho2,show Value.bool (lexLt ns ms)≠Value.notImplemented/\Q (.bool (lexLt ns ms)) s from ⟨(fun x=>nomatch x),h⟩⟩ hu
theorem cat_tup {t b:Addr} {vs ws:List Value} {Q:Value->Shared->Prop} (ht:IsTup s.heap t vs.toArray) (hb:IsTup s.heap b ws.toArray) (hv:vs≠[])
  (h1:ws=[]->Q (.ref t) s) (h2:ws≠[]->Q (.ref s.heap.objs.size) { s with heap:=s.heap.push { cls:=.type "tuple",data:=.seq (vs++ws).toArray } })
  (hsz:vs.length+ws.length<=sizeLine):wpAny (model prog w) A (binaryOp .Add (.ref t) (.ref b)) Q E s:=by
 obtain ⟨⟨cls,dd,data,sl⟩,ho,hc,n,hd⟩:=id ht
 obtain ⟨⟨cls2,dd2,data2,sl2⟩,ho2,hc2,n2,hd2⟩:=id hb
 simp only at hc hd hc2 hd2
 subst hc hd hc2 hd2
 have e:vs.toArray++ws.toArray=(vs++ws).toArray:=by simp
 by_cases hw:ws=[]
 ·exact concat_meets ⟨_,ho,rfl⟩ ⟨_,ho2,rfl⟩ noFill_tuple_add seq_tuple_add PySem.F.slot_tuple_add PySem.F.entry_tuple_add (PySem.F.args_tuple_add_2 _ _)
   (tuple_addW1 t b vs.toArray ws.toArray n n2 dd dd2 sl sl2 (by simpa using hv) (by simp [hw])) ⟨ho,ho2,h1 hw⟩
 ·refine concat_meets ⟨_,ho,rfl⟩ ⟨_,ho2,rfl⟩ noFill_tuple_add seq_tuple_add PySem.F.slot_tuple_add PySem.F.entry_tuple_add (PySem.F.args_tuple_add_2 _ _)
   (tuple_addW2 t b vs.toArray ws.toArray n n2 dd dd2 sl sl2 (by simpa using hv) (by simpa using hw) (by rw [List.size_toArray,List.size_toArray];exact hsz)) ⟨ho,ho2,?_⟩
  rw [e]
  exact h2 hw
noncomputable def sIx (n d:Nat):Option Int->Nat
 | none=>d
 | some v=>if v<0 then (v+(n:Int)).toNat else min v.toNat n
theorem zew_ (n d:Nat) (hd:d<=n) (o:Option Int):sIx n d o<=n:=by
 cases o with
 | none=>exact hd
 | some v =>
  show (if v<0 then (v+(n:Int)).toNat else min v.toNat n)<=n
  by_cases hv:v<0
  ·rw [if_pos hv];lia
  ·rw [if_neg hv];exact Nat.min_le_right _ _
theorem Xn_ (v:Int) (n d:Nat):(if v<0 then max (v+(n:Int)) 0 else min v (n:Int))=((sIx n d (some v):Nat):Int):=by
 show (if v<0 then max (v+(n:Int)) 0 else min v (n:Int))=(((if v<0 then (v+(n:Int)).toNat else min v.toNat n):Nat):Int)
 by_cases hv:v<0
 ·simp only [if_pos hv];lia
 ·simp only [if_neg hv];lia
theorem Vz_ (lo hi:Option Int) (n:Nat):Builtin.Slice.sliceAdjust lo hi 1 (n:Int)=(((sIx n 0 lo:Nat):Int),((sIx n n hi:Nat):Int)):=by
 have h1:¬ ((1:Int)<0):=by lia
 unfold Builtin.Slice.sliceAdjust
 simp only [h1,if_false]
 refine Prod.ext ?_ ?_
 ·cases lo with
  | none=>rfl
  | some v=>exact Xn_ v n 0
 ·cases hi with
  | none=>rfl
  | some v=>exact Xn_ v n n
theorem Q0_ (i j:Nat):Builtin.Slice.slicePlaces (i:Int) (j:Int) 1=j - i:=by
 unfold Builtin.Slice.slicePlaces
 have h1:(1:Int)>0:=by lia
 simp only [h1,if_true,Int.ediv_one]
 split<;>lia
theorem Z9_ {v:Value} {o:Option Int} {Q:Option Int->Shared->Prop} (p:IsPart v o) (h:Q o s):wpAny (model prog w) A (Builtin.Slice.slicePartIndex v) Q E s:=by
 cases p with
 | none=>exact slicePart_none h
 | int i t=>exact slicePart_int h
theorem uo_ {sl:Addr} {vl vu:Value} {lo hi:Option Int} {n:Nat} {Q:Int×Int×Nat->Shared->Prop} (hs:s.heap.IsSliceOf sl vl vu .none) (pl:IsPart vl lo) (pu:IsPart vu hi)
  (h:Q (((sIx n 0 lo:Nat):Int),1,sIx n n hi - sIx n 0 lo) s):wpAny (model prog w) A (Builtin.Slice.sliceApplied (.ref sl) (pure (n:Int))) Q E s:=by
 obtain ⟨os,hos,hcs,hds⟩:=id hs
 unfold Builtin.Slice.sliceApplied Builtin.Slice.sliceFields
 refine wpAny_bind (wpAny_bind (wpAny_field hos hds (x:=vl) rfl (wpAny_bind (wpAny_field hos hds (x:=vu) rfl (wpAny_bind (wpAny_field hos hds (x:=.none) rfl (wpAny_pure ?_)))))))
 refine wpAny_bind (slicePart_none ?_)
 show wpAny _ _ (if ((1:Int)==0)=true then _ else _) _ _ s
 rw [if_neg (by decide)]
 refine wpAny_bind (Z9_ pl (wpAny_bind (Z9_ pu (wpAny_bind (wpAny_pure ?_)))))
 show wpAny _ _ (match Builtin.Slice.sliceAdjust lo hi 1 (n:Int) with|(lo,hi)=>pure (lo,(1:Int),Builtin.Slice.slicePlaces lo hi 1)) _ _ s
 rw [Vz_ lo hi n]
 show wpAny _ _ (pure (((sIx n 0 lo:Nat):Int),(1:Int),Builtin.Slice.slicePlaces ((sIx n 0 lo:Nat):Int) ((sIx n n hi:Nat):Int) 1)) _ _ s
 rw [Q0_]
 exact wpAny_pure h
theorem zaa_ (xs:Array Value) (i k:Nat):((List.range k).filterMap fun (m:Nat)=>xs[((i:Int)+(m:Int)*1).toNat]?).toArray=((xs.toList.drop i).take k).toArray:=by
 have e:(fun (m:Nat)=>xs[((i:Int)+(m:Int)*1).toNat]?)=fun m=>xs[i+m]?:=by
  funext m
  have:((i:Int)+(m:Int)*1).toNat=i+m:=by lia
  rw [this]
 rw [e]
 have:=pick_run xs i k
 rw [List.filterMap_map] at this
 have e2:((fun x=>xs[x]?)∘fun x=>i+x)=fun m=>xs[i+m]?:=rfl
 rw [e2] at this
 rw [this]
theorem getItem_tuple_cut {t sl:Addr} {items:Array Value} {vl vu:Value} {lo hi:Option Int} {Q:Value->Shared->Prop} (ht:IsTup s.heap t items) (hs:s.heap.IsSliceOf sl vl vu .none) (pl:IsPart vl lo) (pu:IsPart vu hi)
  (hw:¬ (sIx items.size 0 lo=0/\sIx items.size items.size hi=items.size))
  (h:Q (.ref s.heap.objs.size) { s with heap:=s.heap.push { cls:=.type "tuple",data:=.seq ((items.toList.drop (sIx items.size 0 lo)).take (sIx items.size items.size hi - sIx items.size 0 lo)).toArray } })
  (hsz:items.size<=sizeLine):wpAny (model prog w) A (getItem (.ref t) (.ref sl)) Q E s:=by
 have htake:sizeOk (.seq ((items.toList.drop (sIx items.size 0 lo)).take (sIx items.size items.size hi - sIx items.size 0 lo)).toArray):=by
  show ((items.toList.drop (sIx items.size 0 lo)).take (sIx items.size items.size hi - sIx items.size 0 lo)).toArray.size<=sizeLine
  rw [List.size_toArray,List.length_take,List.length_drop,Array.length_toList]
  omega
 have hj:sIx items.size items.size hi<=items.size:=zew_ _ _ (Nat.le_refl _) hi
 obtain ⟨os,hos,hcs,hds⟩:=id hs
 have hTs:s.TypeIs (.ref sl) "slice":=⟨os,hos,hcs⟩
 unfold getItem
 try with_reducible refine wpAny_holding ?_
 first|refine wpAny_bind (wpAny_pure ?_)|skip
 refine wpAny_bind (wpAny_sequenceKey ht.typeIs (by decide) ?_)
 refine wpAny_bind (wpAny_callSpecial?_slot (name:=Str.ofString "__getitem__") ht.typeIs PyProof.Rows.slot_tuple_getitem
  (wpAny_call_entry PyProof.Rows.slot_tuple_getitem ht.typeIs entry_tuple_getitem ?_ (args_tuple_getitem _ _)))
 show wpAny _ _ (Builtin.Tuple.tupleItemsOf (.ref t) >>= _) _ _ s
 refine wpAny_bind (tupleItemsOf_ ht ?_)
 refine wpAny_bind (wpAny_typeOf hTs ?_)
 rw [if_pos (by decide)]
 refine wpAny_bind (uo_ hs pl pu ?_)
 have hno:¬ ((((sIx items.size 0 lo:Nat):Int)==0&&(1:Int)==1&&(sIx items.size items.size hi - sIx items.size 0 lo)==items.size)=true):=by
  intro q
  rw [Bool.and_eq_true,Bool.and_eq_true] at q
  have q1:((sIx items.size 0 lo:Nat):Int)=0:=eq_of_beq q.1.1
  have q2:sIx items.size items.size hi - sIx items.size 0 lo=items.size:=eq_of_beq q.2
  exact hw ⟨by omega,by omega⟩
 show wpAny _ _ (if (((sIx items.size 0 lo:Nat):Int)==0&&(1:Int)==1&&(sIx items.size items.size hi - sIx items.size 0 lo)==items.size)=true then _ else _) _ _ s
 rw [if_neg hno,zaa_]
 first
  | exact wpAny_bind (m:=Builtin.Tuple.tupleExact _) (wpAny_newObj_type (wpAny_pure ⟨_,rfl,wpAny_pure h⟩) htake)
  | exact wpAny_bind (m:=Builtin.Tuple.tupleExact _) (wpAny_newObj_type (wpAny_bind (wpAny_pure (wpAny_pure ⟨_,rfl,wpAny_pure h⟩))) htake)
  | exact wpAny_bind (wpAny_bind (m:=Builtin.Tuple.tupleExact _) (wpAny_newObj_type (wpAny_pure (wpAny_pure ⟨_,rfl,wpAny_pure h⟩)) htake))
  | exact wpAny_bind (wpAny_bind (m:=Builtin.Tuple.tupleExact _) (wpAny_newObj_type (wpAny_pure ⟨_,rfl,wpAny_pure h⟩) htake))
end
end HT
namespace L2
open PySem PySem.Spec PyProof.Rows
noncomputable abbrev TO:=St->Hp->(Option Int->Hp->Prop)->Prop
def PO (X:Cx) (e:Option Expr) (t:TO):Prop :=
 ∀ (pins:List (Addr×Obj)) (s:Shared) (σ:St) (H:Hp) (Q:Option Int->Hp->Prop),Inv X pins σ H s->t σ H Q ->
  wpAny (model X.prog X.w) X.A (evalPart e X.env) (fun u s'=>∃ o H',Inv X pins σ H' s'/\IsPart u o/\Q o H') X.xe s
noncomputable def zcp_:TO:=fun _ H Q=>Q none H
noncomputable def zgJ_ (t:TE):TO:=fun σ H Q=>t σ H fun x H1=>∃ i,x=.int i/\Q (some i) H1
theorem intsAre_of {ns:List Int}:∀ {us:List Value},Vals (ns.map V.int) us->IntsAre us ns:=by
 induction ns with
 | nil=>intro us r;rw [List.map_nil] at r;cases r;exact .nil
 | cons n ns ih =>
  intro us r
  rw [List.map_cons] at r
  cases r with
  | cons r1 r2 =>
   obtain ⟨t,e⟩:=r1
   subst e
   exact .cons n t (ih r2)
section
variable {X:Cx} {e:Expr} {te:TE} {lo hi:Option Expr} {tl th:TO} {pos p2:Pos}
theorem zcO_:PO X none zcp_:=by
 intro pins s σ H Q I h
 rw [evalPart_none]
 exact wpAny_pure ⟨none,H,I,.none,h⟩
theorem zcN_ (h:PE X e te):PO X (some e) (zgJ_ te):=by
 intro pins s σ H Q I hw
 rw [evalPart_some]
 refine thn (h pins s σ H _ I hw) fun u s1 ⟨x,H1,I1,r1,q1⟩=>?_
 obtain ⟨i,rfl,q⟩:=q1
 obtain ⟨t,rfl⟩:=r1
 exact ⟨some i,H1,I1,.int i t,q⟩
def SlR (X:Cx) (r:V->Option Int->Option Int->Hp->VK->Prop):Prop :=
 ∀ (pins:List (Addr×Obj)) (s:Shared) (σ:St) (H:Hp) (x:V) (v vl vu:Value) (lo hi:Option Int) (sl:Addr) (Q:VK),Inv X pins σ H s->RelV x v->s.heap.IsSliceOf sl vl vu .none->IsPart vl lo->IsPart vu hi->r x lo hi H Q ->
  ∃ T id,typeLookup (.type T) "__getitem__" = pure (some (.builtin id))/\s.TypeIs v T/\wpAny (model X.prog X.w) X.A (getItem v (.ref sl)) (EP X pins σ Q) X.xe s
theorem SlR.or {r r':V->Option Int->Option Int->Hp->VK->Prop} (h:SlR X r) (h':SlR X r'):SlR X (fun x lo hi H Q=>r x lo hi H Q\/r' x lo hi H Q):=by
 intro pins s σ H x v vl vu lo hi sl Q I rx hs pl pu q
 rcases q with q|q
 ·exact h pins s σ H x v vl vu lo hi sl Q I rx hs pl pu q
 ·exact h' pins s σ H x v vl vu lo hi sl Q I rx hs pl pu q
noncomputable def tSl (r:V->Option Int->Option Int->Hp->VK->Prop) (te:TE) (tl th:TO):TE:=fun σ H Q=>te σ H fun x H1=>tl σ H1 fun l H2=>th σ H2 fun u H3=>r x l u H3 Q
theorem zae_ {r:V->Option Int->Option Int->Hp->VK->Prop} (hr:SlR X r) (he:PE X e te) (hl:PO X lo tl) (hu:PO X hi th):PE X (.Subscript e (.Slice lo hi none p2) pos) (tSl r te tl th):=by
 intro pins s σ H Q I h
 refine Subscript_ (thn (he pins s σ H _ I h) fun v s1 ⟨x,H1,I1,r1,q1⟩=>?_)
 refine wpAny_Slice (thn (hl pins s1 σ H1 _ I1 q1) fun vl s2 ⟨l,H2,I2,pl,q2⟩=>thn (hu pins s2 σ H2 _ I2 q2) fun vu s3 ⟨u,H3,I3,pu,q3⟩=>?_)
 rw [evalPart_none]
 refine wpAny_pure ?_
 have I4:Inv X pins σ H3 { s3 with heap:=s3.heap.push { cls:=.type "slice",data:=.fields #[vl,vu,.none] } }:=I3.kept (t':=s3.toks) fun b ob q=>Heap.get?_push_of_some _ q
 obtain ⟨T,id,hT,ht,hg⟩:=hr pins { s3 with heap:=s3.heap.push { cls:=.type "slice",data:=.fields #[vl,vu,.none] } } σ H3 x v vl vu l u s3.heap.objs.size Q I4 r1 (Heap.IsSliceOf.new ..) pl pu q3
 show wpAny (model X.prog X.w) X.A (subscriptTail e (.Slice lo hi none p2) v (.ref s3.heap.objs.size)) (EP X pins σ Q) X.xe { s3 with heap:=s3.heap.push { cls:=.type "slice",data:=.fields #[vl,vu,.none] } }
 exact tail_any (ops:=[.ref s3.heap.objs.size,v]) ht hT hg (by with_unfolding_all rfl)
noncomputable def cutV (xs:List V) (lo hi:Option Int):List V:=(xs.drop (HT.sIx xs.length 0 lo)).take (HT.sIx xs.length xs.length hi - HT.sIx xs.length 0 lo)
theorem ZP_ (xs:List V) (lo hi:Option Int):(cutV xs lo hi).length<=xs.length:=by
 unfold cutV
 rw [List.length_take,List.length_drop]
 lia
def rSlT (K:PySem.W.Frag):V->Option Int->Option Int->Hp->VK->Prop:=fun x lo hi H Q=>∃ a xs,x=.ref a/\SqT K H a xs /\
 ¬ (HT.sIx xs.length 0 lo=0/\HT.sIx xs.length xs.length hi=xs.length)/\∀ p,H p=none->Q (.ref p) (upd H p (.tup (cutV xs lo hi)))
theorem sl_tup:SlR X (rSlT X.K):=by
 intro pins s σ H x v vl vu lo hi sl Q I rx hs pl pu h
 obtain ⟨a,xs,rfl,hx,hw,q⟩:=h
 cases rx
 obtain ⟨its,r,ht,hz⟩:=I.tuple hx
 have hlen:its.toArray.size=xs.length:=by rw [List.size_toArray];exact r.length.symm
 refine ⟨"tuple",_,PyProof.Rows.slot_tuple_getitem.lookup,ht.typeIs,?_⟩
 refine HT.getItem_tuple_cut ht hs pl pu (by rw [hlen];exact hw) ?_ (by rw [hlen];exact hz)
 rw [hlen]
 refine ⟨.ref s.heap.objs.size,_,I.laid (t':=s.toks) (o:=.tup (cutV xs lo hi)) (fun b ob q=>Heap.get?_push_of_some _ q) (Nat.le_refl _) ?_,rfl,q _ (I.hok.fresh (Nat.le_refl _))⟩
 exact ⟨Nat.le_trans (ZP_ xs lo hi) hz,_,(r.drop (HT.sIx xs.length 0 lo)).take (HT.sIx xs.length xs.length hi - HT.sIx xs.length 0 lo),IsTup.new _ _,TupN.new _ _⟩
noncomputable def rLtT (K:PySem.W.Frag):R2:=fun x y H Q=>∃ a b ns ms,x=.ref a/\y=.ref b/\SqT K H a (ns.map V.int)/\SqT K H b (ms.map V.int)/\Q (.bl (HT.lexLt ns ms)) H
theorem zfp_ (hu:X.A.units<cLine):OpR X (compareOp .Lt) (rLtT X.K):=by
 intro pins s σ H x y v u Q I rx ry h
 obtain ⟨a,b,ns,ms,rfl,rfl,ha,hb,q⟩:=h
 cases rx
 cases ry
 obtain ⟨its,r1,p1,_⟩:=I.tuple ha
 obtain ⟨its2,r2,p2,_⟩:=I.tuple hb
 have i1:IntsAre its.toArray.toList ns:=intsAre_of r1
 have i2:IntsAre its2.toArray.toList ms:=intsAre_of r2
 exact HT.lt_tupInts p1 p2 i1 i2 hu ⟨.bl (HT.lexLt ns ms),H,I,rfl,q⟩
noncomputable def zhb_ (K:PySem.W.Frag):R2:=fun x y H Q=>∃ a b xs ys,x=.ref a/\y=.ref b/\SqT K H a xs/\SqT K H b ys/\xs≠[]/\xs.length+ys.length<=sizeLine /\
 (ys=[]->Q (.ref a) H)/\(ys≠[]->∀ p,H p=none->Q (.ref p) (upd H p (.tup (xs++ys))))
theorem Vals.nil_iff {xs:List V} {us:List Value} (r:Vals xs us):us=[]↔xs=[]:=by
 cases r with
 | nil=>simp
 | cons _ _=>simp
theorem zcX_:OpR X (binaryOp .Add) (zhb_ X.K):=by
 intro pins s σ H x y v u Q I rx ry h
 obtain ⟨a,b,xs,ys,rfl,rfl,ha,hb,hx,hz,q1,q2⟩:=h
 cases rx
 cases ry
 obtain ⟨its,r1,p1,_⟩:=I.tuple ha
 obtain ⟨its2,r2,p2,_⟩:=I.tuple hb
 refine HT.cat_tup p1 p2 (fun z=>hx (r1.nil_iff.mp z)) (fun z=>⟨.ref a,H,I,rfl,q1 (r2.nil_iff.mp z)⟩) (fun z=>?_) (by rw [<-r1.length,<-r2.length];exact hz)
 refine ⟨.ref s.heap.objs.size,_,I.laid (t':=s.toks) (o:=.tup (xs++ys)) (fun b ob q=>Heap.get?_push_of_some _ q) (Nat.le_refl _) ?_,rfl,q2 (fun w=>z (r2.nil_iff.mpr w)) _ (I.hok.fresh (Nat.le_refl _))⟩
 exact ⟨by rw [List.length_append];exact hz,_,r1.append r2,IsTup.new _ _,TupN.new _ _⟩
end
noncomputable def ixN (n:Nat) (i:Int):Option Nat:=if 0<=i then (if i<n then some i.toNat else none) else if -(n:Int)<=i then some (i+n).toNat else none
noncomputable def atI {α:Type} (xs:List α) (i:Int):Option α:=(ixN xs.length i).bind fun j=>xs[j]?
theorem WO_ {n:Nat} {i:Int} {j:Nat} (h:ixN n i=some j):seqIndex? i n=some j/\j<n /\ -(n:Int)<=i/\i<n:=by
 unfold ixN at h
 by_cases h0:0<=i
 ·rw [if_pos h0] at h
  by_cases h1:i<n
  ·rw [if_pos h1] at h
   have e:i.toNat=j:=Option.some.inj h
   exact ⟨by rw [seqIndex_of h0 h1,e],by lia,by lia,h1⟩
  ·rw [if_neg h1] at h;cases h
 ·rw [if_neg h0] at h
  by_cases h1 : -(n:Int)<=i
  ·rw [if_pos h1] at h
   have e:(i+n).toNat=j:=Option.some.inj h
   exact ⟨by rw [seqIndex_neg (by lia) h1,e],by lia,h1,by lia⟩
  ·rw [if_neg h1] at h;cases h
theorem Uf_ {α:Type} {xs:List α} {i:Int} {v:α} (h:atI xs i=some v):∃ j,seqIndex? i xs.length=some j/\xs[j]? = some v/\j<xs.length /\ -(xs.length:Int)<=i/\i<xs.length:=by
 unfold atI at h
 cases e:ixN xs.length i with
 | none=>rw [e] at h;cases h
 | some j =>
  rw [e] at h
  obtain ⟨h1,h2,h3,h4⟩:=WO_ e
  exact ⟨j,h1,h,h2,h3,h4⟩
def Y2_ (b:Expr):Prop:=∀ o i,subscripted b false o i=operate [o,i] (getItem o i)
def IxR (X:Cx) (r:R2):Prop :=
 ∀ (value slice:Expr) (pins:List (Addr×Obj)) (s:Shared) (σ:St) (H:Hp) (x y:V) (v u:Value) (Q:VK),Inv X pins σ H s->RelV x v->RelV y u->r x y H Q ->
  subscripted slice false v u=operate [v,u] (getItem v u)->wpAny (model X.prog X.w) X.A (subscriptTail value slice v u) (EP X pins σ Q) X.xe s
def MtR (X:Cx) (id:String) (r:V->List V->Hp->VK->Prop):Prop :=
 ∀ (pins:List (Addr×Obj)) (s:Shared) (σ:St) (H:Hp) (x:V) (xs:List V) (v:Value) (us:List Value) (Q:VK),Inv X pins σ H s->RelV x v->Vals xs us->r x xs H Q ->
  wpAny (model X.prog X.w) X.A (call (.builtin id) (v::us)) (EP X pins σ Q) X.xe s
section
variable {X:Cx} {a b:Expr} {ta tb:TE} {pos:Pos}
theorem IxR.or {r r':R2} (h:IxR X r) (h':IxR X r'):IxR X (fun x y H Q=>r x y H Q\/r' x y H Q):=by
 intro value slice pins s σ H x y v u Q I rx ry q hs
 rcases q with q|q
 ·exact h value slice pins s σ H x y v u Q I rx ry q hs
 ·exact h' value slice pins s σ H x y v u Q I rx ry q hs
theorem zfd_ {r:R2} (hr:IxR X r) (ha:PE X a ta) (hb:PE X b tb) (hs:Y2_ b):PE X (.Subscript a b pos) (tOp r ta tb):=by
 intro pins s σ H Q I h
 exact Subscript_ (binT ha hb I h fun v u s2 x y H2 I2 rx ry q=>hr a b pins s2 σ H2 x y v u Q I2 rx ry q (hs _ _))
noncomputable def rIxL (K:PySem.W.Frag):R2:=fun x y H Q=>∃ p xs i v,x=.ref p/\y=.int i/\SqL K H p xs/\atI xs i=some v/\Q v H
noncomputable def rIxT (K:PySem.W.Frag):R2:=fun x y H Q=>∃ p xs i v,x=.ref p/\y=.int i/\SqT K H p xs/\atI xs i=some v/\Q v H
noncomputable def rIxS:R2:=fun x y H Q=>∃ z i c,x=.str z/\y=.int i/\z.length<=sizeLine/\atI z.cps.toList i=some c/\Q (.str ⟨#[c]⟩) H
theorem ix_list:IxR X (rIxL X.K):=by
 intro value slice pins s σ H x y v u Q I rx ry h hs
 obtain ⟨p,xs,i,z,rfl,rfl,hq,he,q⟩:=h
 cases rx
 obtain ⟨t,rfl⟩:=ry
 obtain ⟨its,r,pl,hz⟩:=I.list hq
 obtain ⟨j,h1,h2,h3,h4,h5⟩:=Uf_ he
 obtain ⟨w,ew,rw'⟩:=r.get h2
 have hl:=r.length
 have hn:=y0_
 have fin:EP X pins σ Q w s:=⟨z,H,I,rw',q⟩
 by_cases h0:0<=i
 ·have hj:i.toNat=j:=by
   rw [seqIndex_of h0 h5] at h1
   exact Option.some.inj h1
  exact item_listR pl.isList h0 (by lia) (by rw [hj];simpa using ew) fin hs
 ·have hj:(i+(its.toArray.size:Int)).toNat=j:=by
   rw [seqIndex_neg (by lia) h4] at h1
   rw [List.size_toArray,<-hl]
   exact Option.some.inj h1
  exact subscriptTail_builtinR (x:=w) pl.isList.typeIs slot_list_getitem.lookup
   (wpAny_getItem_list_neg (Q:=fun r s'=>r=w/\EP X pins σ Q r s') pl.isList (by lia) (by rw [List.size_toArray]<;>lia) (by lia) (by rw [hj];simpa using ew) ⟨rfl,fin⟩) hs
theorem ix_tup:IxR X (rIxT X.K):=by
 intro value slice pins s σ H x y v u Q I rx ry h hs
 obtain ⟨p,xs,i,z,rfl,rfl,hq,he,q⟩:=h
 cases rx
 obtain ⟨t,rfl⟩:=ry
 obtain ⟨its,r,pl,hz⟩:=I.tuple hq
 obtain ⟨j,h1,h2,h3,h4,h5⟩:=Uf_ he
 obtain ⟨w,ew,rw'⟩:=r.get h2
 have hl:=r.length
 have hn:=y0_
 have fin:EP X pins σ Q w s:=⟨z,H,I,rw',q⟩
 exact subscriptTail_builtinR (x:=w) pl.typeIs slot_tuple_getitem.lookup
  (getItem_tuple (j:=j) (Q:=fun r s'=>r=w/\EP X pins σ Q r s') pl (by lia) (by lia) (by rw [List.size_toArray,<-hl];exact h1) (by simpa using ew) ⟨rfl,fin⟩) hs
theorem zfN_:IxR X rIxS:=by
 intro value slice pins s σ H x y v u Q I rx ry h hs
 obtain ⟨z,i,c,rfl,rfl,hz,he,q⟩:=h
 obtain ⟨t,rfl⟩:=rx
 obtain ⟨t',rfl⟩:=ry
 obtain ⟨j,h1,h2,h3,h4,h5⟩:=Uf_ he
 have hl:z.cps.toList.length=z.length:=by simp [Str.length]
 rw [hl] at h1 h4 h5
 have hn:=y0_
 exact tail_any (typeIs_str s z t) slot_str_getitem.lookup (getItem_str (c:=c) (by
  have e1:decide (i < -(2^63:Int))=false:=decide_eq_false (by lia)
  have e2:decide (i>=2^63)=false:=decide_eq_false (by lia)
  rw [e1,e2,Bool.or_false]) (by rw [h1];simpa using h2) ⟨.str ⟨#[c]⟩,H,I.tok _,⟨_,rfl⟩,q⟩) hs
noncomputable def rIx (K:PySem.W.Frag):R2:=fun x y H Q=>rIxL K x y H Q\/rIxT K x y H Q\/rIxS x y H Q
theorem zfO_:IxR X (rIx X.K):=ix_list.or (ix_tup.or zfN_)
theorem Va_ (its:List Value) (n j:Nat) (u:Value):Obj.mapSeq (·.setIfInBounds j u) { cls:=.type "list",data:=.seq its.toArray n }={ cls:=.type "list",data:=.seq (its.set j u).toArray n }:=by
 simp [Obj.mapSeq]
theorem Inv.lst {pins:List (Addr×Obj)} {σ:St} {H:Hp} {s:Shared} {p:Addr} {xs:List V} (I:Inv X pins σ H s) (h:H p=some (.lst xs)) :
  ∃ (its:List Value) (n:Nat),Vals xs its/\s.heap.get? p=some { cls:=.type "list",data:=.seq its.toArray n }/\xs.length<=sizeLine:=by
 obtain ⟨z,its,n,r,e⟩:=I.hok p _ h
 exact ⟨its,n,r,e,z⟩
theorem Inv.lstUpd {pins:List (Addr×Obj)} {σ:St} {H:Hp} {s:Shared} {p:Addr} {xs ys:List V} {its its':List Value} {n n':Nat} {f:Obj->Obj} (I:Inv X pins σ H s) (h:H p=some (.lst xs))
  (ho:s.heap.get? p=some { cls:=.type "list",data:=.seq its.toArray n }) (hf:f { cls:=.type "list",data:=.seq its.toArray n }={ cls:=.type "list",data:=.seq its'.toArray n' }) (r:Vals ys its') (hz:ys.length<=sizeLine) (t:Nat) :
  Inv X pins σ (upd H p (.lst ys)) { s with heap:=s.heap.update p f,toks:=t }:=by
 have e:(s.heap.update p f).get? p=some { cls:=.type "list",data:=.seq its'.toArray n' }:=by
  rw [Heap.get?_update_self f ho (by rw [hf]<;>rfl),hf]
 refine I.write (x:=p) (e:=p) (by rw [h];trivial) (.inl rfl) (fun b u hb q=>(Heap.get?_update_other _ _ (Ne.symm hb)).trans q) ⟨_,e⟩ ?_
 exact ⟨hz,its',n',r,e⟩
noncomputable def zgZ_:V->V->V->Hp->(Hp->Prop)->Prop:=fun o i v H Q=>∃ p xs k j,o=.ref p/\i=.int k/\H p=some (.lst xs)/\ixN xs.length k=some j/\Q (upd H p (.lst (xs.set j v)))
theorem set_list:PSet X zgZ_:=by
 intro pins s σ H o i v ov iv u Q I ro ri rv h
 obtain ⟨p,xs,k,j,rfl,rfl,hp,hj,q⟩:=h
 cases ro
 obtain ⟨t,rfl⟩:=ri
 obtain ⟨its,n,r,ho,hz⟩:=I.lst hp
 obtain ⟨h1,h2,h3,h4⟩:=WO_ hj
 have hl:=r.length
 have hn:=y0_
 have I':Inv X pins σ (upd H p (.lst (xs.set j v))) { s with heap:=s.heap.update p (Obj.mapSeq (·.setIfInBounds j u)) } :=
  I.lstUpd hp ho (Va_ its n j u) (r.set rv j) (by rw [List.length_set];exact hz) s.toks
 by_cases h0:0<=k
 ·have hk:k.toNat=j:=by
   rw [seqIndex_of h0 h4] at h1
   exact Option.some.inj h1
  exact PySem.W.ki_setAt ho h0 (by lia) (by rw [List.size_toArray,<-hl];exact h4) (by rw [hk];exact ⟨_,I',q⟩)
 ·have hk:(k+(its.toArray.size:Int)).toNat=j:=by
   rw [seqIndex_neg (by lia) h3] at h1
   rw [List.size_toArray,<-hl]
   exact Option.some.inj h1
  exact PySem.W.ki_setBack ho (by lia) (by rw [List.size_toArray,<-hl];exact h3) (by lia) (by rw [hk];exact ⟨_,I',q⟩)
theorem Uq_ (lo hi:Option Int) (n:Nat):(sliceBounds lo hi none n).1=((HT.sIx n 0 lo:Nat):Int)/\(sliceBounds lo hi none n).2.1=((HT.sIx n n hi:Nat):Int)/\(sliceBounds lo hi none n).2.2=1:=by
 refine ⟨?_,?_,rfl⟩
 ·cases lo with
  | none=>simp [sliceBounds,HT.sIx]
  | some i =>
   simp only [sliceBounds,HT.sIx,Option.getD_none,show (1:Int)>0 by decide,if_true]
   by_cases h:i<0
   ·simp only [h,if_true]<;>lia
   ·simp only [h,if_false]<;>lia
 ·cases hi with
  | none=>simp [sliceBounds,HT.sIx]
  | some i =>
   simp only [sliceBounds,HT.sIx,Option.getD_none,show (1:Int)>0 by decide,if_true]
   by_cases h:i<0
   ·simp only [h,if_true]<;>lia
   ·simp only [h,if_false]<;>lia
theorem JF_ (its:List Value) (lo hi:Option Int):slicePick its.toArray lo hi none=((its.drop (HT.sIx its.length 0 lo)).take (HT.sIx its.length its.length hi - HT.sIx its.length 0 lo)).toArray:=by
 obtain ⟨h1,h2,h3⟩:=Uq_ lo hi its.toArray.size
 unfold slicePick
 rw [h1,h2,h3]
 simp only [sliceRange_one,pick_run,List.size_toArray]<;>rfl
def rSlL (K:PySem.W.Frag):V->Option Int->Option Int->Hp->VK->Prop:=fun x lo hi H Q=>∃ a xs,x=.ref a/\SqL K H a xs/\∀ p,H p=none->Q (.ref p) (upd H p (.lst (cutV xs lo hi)))
theorem zct_:SlR X (rSlL X.K):=by
 intro pins s σ H x v vl vu lo hi sl Q I rx hs pl pu h
 obtain ⟨a,xs,rfl,hx,q⟩:=h
 cases rx
 obtain ⟨its,r,ht,hz⟩:=I.list hx
 have hlen:=r.length
 refine ⟨"list",_,slot_list_getitem.lookup,ht.isList.typeIs,?_⟩
 refine wpAny_getItem_list_slice ht.isList hs pl pu .none (by simp) ?_ (by rw [List.size_toArray]<;>lia)
 rw [JF_,<-hlen]
 refine ⟨.ref s.heap.objs.size,_,I.laid (t':=s.toks) (o:=.lst (cutV xs lo hi)) (fun b ob q=>Heap.get?_push_of_some _ q) (Nat.le_refl _) ?_,rfl,q _ (I.hok.fresh (Nat.le_refl _))⟩
 exact ⟨Nat.le_trans (ZP_ xs lo hi) hz,_,0,(r.drop (HT.sIx xs.length 0 lo)).take (HT.sIx xs.length xs.length hi - HT.sIx xs.length 0 lo),Heap.get?_push_size _ rfl⟩
theorem U5_:CallR X (.builtin "len") (fun xs H Q=>∃ p ys,xs=[.ref p]/\(SqL X.K H p ys\/SqT X.K H p ys)/\Q (.int ys.length) H):=by
 intro pins s σ H xs us Q I r h
 obtain ⟨p,ys,rfl,hq,q⟩:=h
 obtain ⟨u,rfl,rx⟩:=vals1 r
 cases rx
 have hn:=y0_
 rcases hq with hq|hq
 ·obtain ⟨its,r',pl,hz⟩:=I.list hq
  have hlen:=r'.length
  exact Calls.call_len_list pl.isList (by simp only [List.size_toArray]<;>lia) ⟨.int ys.length,H,I.tok _,⟨s.toks+1,by rw [List.size_toArray,hlen]⟩,q⟩
 ·obtain ⟨its,r',pl,hz⟩:=I.tuple hq
  have hlen:=r'.length
  exact len_tuple pl (by simp only [List.size_toArray]<;>lia) ⟨.int ys.length,H,I.tok _,⟨s.toks+1,by rw [List.size_toArray,hlen]⟩,q⟩
theorem U4_:CallR X (.builtin "len") (fun xs H Q=>∃ z,xs=[.str z]/\z.length<=sizeLine/\Q (.int z.length) H):=by
 intro pins s σ H xs us Q I r h
 obtain ⟨z,rfl,hz,q⟩:=h
 obtain ⟨u,rfl,t,rfl⟩:=vals1 r
 have hn:=y0_
 exact len_str (by lia) ⟨.int z.length,H,I.tok _,⟨_,rfl⟩,q⟩
theorem CallR.or {f:Value} {r r':List V->Hp->VK->Prop} (h:CallR X f r) (h':CallR X f r'):CallR X f (fun xs H Q=>r xs H Q\/r' xs H Q):=by
 intro pins s σ H xs us Q I rs q
 rcases q with q|q
 ·exact h pins s σ H xs us Q I rs q
 ·exact h' pins s σ H xs us Q I rs q
theorem U3_:CallR X (.type "list") (fun xs H Q=>∃ p ys,xs=[.ref p]/\(SqL X.K H p ys\/SqT X.K H p ys)/\∀ l,H l=none->Q (.ref l) (upd H l (.lst ys))):=by
 intro pins s σ H xs us Q I r h
 obtain ⟨p,ys,rfl,hq,q⟩:=h
 obtain ⟨u,rfl,rx⟩:=vals1 r
 cases rx
 have fin:∀ (its:List Value),Vals ys its->ys.length<=sizeLine->∀ (h':Heap) (c':Nat),(∀ b o',s.heap.get? b=some o'->h'.get? b=some o') ->
   h'.get? s.heap.objs.size=some { cls:=.type "list",dict:=none,data:=.seq its.toArray c',slots:=#[] }->EP X pins σ Q (.ref s.heap.objs.size) { s with heap:=h' }:=fun its r' hz h' c' kp e =>
  ⟨.ref s.heap.objs.size,_,I.laid (t':=s.toks) kp (Nat.le_refl _) (show ObjOk X.prog X.w _ h' _ (.lst ys) from ⟨hz,its,c',r',e⟩),rfl,q _ (I.hok.fresh (Nat.le_refl _))⟩
 rcases hq with hq|hq
 ·obtain ⟨its,r',pl,hz⟩:=I.list hq
  have hlen:=r'.length
  obtain ⟨o,ho,hc,n,hd⟩:=pl.isList
  exact call_list_seq p (.inl rfl) ho hc hd (fun h' c' kp e=>fin its r' hz h' c' kp e) (by simp only [List.size_toArray]<;>lia)
 ·obtain ⟨its,r',pl,hz⟩:=I.tuple hq
  have hlen:=r'.length
  obtain ⟨o,ho,hc,n,hd⟩:=pl
  exact call_list_seq p (.inr rfl) ho hc hd (fun h' c' kp e=>fin its r' hz h' c' kp e) (by simp only [List.size_toArray]<;>lia)
theorem zT_:CallR X (.type "tuple") (fun xs H Q=>∃ p ys,xs=[.ref p]/\((SqL X.K H p ys/\∀ l,H l=none->Q (.ref l) (upd H l (.tup ys)))\/(SqT X.K H p ys/\Q (.ref p) H))):=by
 intro pins s σ H xs us Q I r h
 obtain ⟨p,ys,rfl,h⟩:=h
 obtain ⟨u,rfl,rx⟩:=vals1 r
 cases rx
 rcases h with ⟨hq,q⟩|⟨hq,q⟩
 ·obtain ⟨its,r',pl,hz⟩:=I.list hq
  have hlen:=r'.length
  refine call_tuple_list pl.isList (fun h' kp=>?_) (by simp only [List.size_toArray]<;>lia)
  have I1:Inv X pins σ H { s with heap:=h' }:=I.kept (t':=s.toks) kp
  have I2:Inv X pins σ (upd H h'.objs.size (.tup ys)) { s with heap:=h'.push { cls:=.type "tuple",data:=.seq its.toArray } } :=
   I1.laid (t':=s.toks) (fun b o e=>Heap.get?_push_of_some _ e) (Nat.le_refl _) (show ObjOk X.prog X.w _ _ _ (.tup ys) from ⟨hz,its,r',IsTup.new _ _,TupN.new _ _⟩)
  exact ⟨.ref h'.objs.size,_,I2,rfl,q _ (I1.hok.fresh (Nat.le_refl _))⟩
 ·obtain ⟨its,r',pl,hz⟩:=I.tuple hq
  exact call_tuple_same pl ⟨.ref p,H,I,rfl,q⟩
def tyV (K:PySem.W.Frag) (T:String) (x:V) (H:Hp):Prop:=match x with
 | .str _=>T = "str"
 | .int _=>T = "int"
 | .ref p=>(T = "list" /\ ∃ xs,SqL K H p xs)\/(T = "tuple" /\ ∃ o,K.lookup p=some o/\o.cls=.type "tuple" /\ o.dict=none) \/
   (T = "dict" /\ ((∃ kvs,H p=some (.dK kvs))\/∃ kvs,H p=some (.dT kvs)))\/(T = "set" /\ ∃ S n,H p=some (.set S n))
 | _=>False
theorem zbt_ {pins:List (Addr×Obj)} {σ:St} {H:Hp} {s:Shared} {T:String} {x:V} {v:Value} (I:Inv X pins σ H s) (r:RelV x v) (ty:tyV X.K T x H) :
  s.TypeIs v T/\∀ a,v=.ref a->∃ ob,s.heap.get? a=some ob/\ob.dict=none:=by
 cases x with
 | str z =>
  obtain ⟨t,rfl⟩:=r
  cases (show T = "str" from ty)
  exact ⟨typeIs_str s z t,fun _ e=>nomatch e⟩
 | int i =>
  obtain ⟨t,rfl⟩:=r
  cases (show T = "int" from ty)
  exact ⟨typeIs_int s i t,fun _ e=>nomatch e⟩
 | ref p =>
  cases r
  rcases ty with ⟨rfl,xs,hq⟩|⟨rfl,o,hk,hc,hd⟩|⟨rfl,hk⟩|⟨rfl,S,n,hk⟩
  ·obtain ⟨its,_,pl,_⟩:=I.list hq
   refine ⟨pl.isList.typeIs,fun a e=>?_⟩
   cases e
   obtain ⟨o,n,e,c,hd,_⟩:=pl
   exact ⟨o,e,hd⟩
  ·refine ⟨⟨o,I.kIn p o hk,hc⟩,fun a e=>?_⟩
   cases e
   exact ⟨o,I.kIn _ o hk,hd⟩
  ·have z:∃ o,s.heap.get? p=some o/\o.ExactDict:=by
    rcases hk with ⟨kvs,hk⟩|⟨kvs,hk⟩
    ·obtain ⟨_,_,_,_,o,_,_,e,ex,_⟩:=I.hok p _ hk
     exact ⟨o,e,ex⟩
    ·obtain ⟨_,_,_,_,o,_,_,e,ex,_⟩:=I.hok p _ hk
     exact ⟨o,e,ex⟩
   obtain ⟨o,e,ex⟩:=z
   refine ⟨⟨o,e,ex.1⟩,fun a e2=>?_⟩
   cases e2
   exact ⟨o,e,ex.2.1⟩
  ·obtain ⟨o,_,_,_,e,ex,_⟩:=I.hok p _ hk
   refine ⟨⟨o,e,ex.1⟩,fun a e2=>?_⟩
   cases e2
   exact ⟨o,e,ex.2.1⟩
 | _=>exact False.elim ty
noncomputable def tBM0 (K:PySem.W.Frag) (T:String) (r:V->List V->Hp->VK->Prop) (to:TE):TE:=fun σ H Q=>to σ H fun x H1=>tyV K T x H1/\r x [] H1 Q
noncomputable def tBM (K:PySem.W.Frag) (T:String) (r:V->List V->Hp->VK->Prop) (to:TE) (t:TA):TE:=fun σ H Q=>to σ H fun x H1=>tyV K T x H1/\t σ H1 fun xs H2=>r x xs H2 Q
variable {o e:Expr} {es:List Expr} {to:TE} {t:TA} {name:Str} {apos cpos:Pos} {T id:String} {r:V->List V->Hp->VK->Prop}
theorem zbJ_ (pa:PlainAttrs T) (slot:Slot T name id) (hty:typeOf (.builtin id)=pure (.type "method_descriptor")) (hm:MtR X id r) (ho:PE X o to)
  (hbase:attributeBase o name X.env (eval o X.env)=eval o X.env:=by rfl) (hline:(apos.endLine==cpos.line)=true:=by rfl):PE X (.Call (.Attribute o name apos) [] [] cpos) (tBM0 X.K T r to):=by
 intro pins s σ H Q I h
 refine wpAny_Call_method0_late hbase hline (thn (ho pins s σ H _ I h) fun v s1 ⟨x,H1,I1,r1,ty,q1⟩=>?_)
 obtain ⟨h1,h2⟩:=zbt_ I1 r1 ty
 exact ⟨T,id,pa,slot,hty,h1,h2,Calls.callWith_builtin rfl (PySem.evalArgs_none (hm pins s1 σ H1 x [] v [] Q I1 r1 .nil q1))⟩
theorem zff_ (pa:PlainAttrs T) (slot:Slot T name id) (hty:typeOf (.builtin id)=pure (.type "method_descriptor")) (hm:MtR X id r) (ho:PE X o to) (ha:PA X (e::es) t)
  (hbase:attributeBase o name X.env (eval o X.env)=eval o X.env:=by rfl)
  (hfew:((backTo cpos (starEach (e::es) X.env)).all (fun x=>!x.1)&&(backToKw cpos (keywordEach [] X.env)).all (fun x=>x.1.isSome)
   && decide ((e::es).length+([]:List Keyword).length+(if ([]:List Keyword).isEmpty then 0 else 1)<30))=true:=by rfl)
  (hline:(apos.endLine==cpos.line)=true:=by rfl) (hs:starEach (e::es) X.env=(false,eval e X.env)::starEach es X.env:=by rfl) (hplain:(backTo cpos (starEach es X.env)).any (·.1)=false:=by rfl) :
  PE X (.Call (.Attribute o name apos) (e::es) [] cpos) (tBM X.K T r to t):=by
 intro pins s σ H Q I h
 refine wpAny_Call_method_late hbase hfew hline rfl (thn (ho pins s σ H _ I h) fun v s1 ⟨x,H1,I1,r1,ty,q1⟩=>?_)
 obtain ⟨h1,h2⟩:=zbt_ I1 r1 ty
 refine ⟨T,id,pa,slot,hty,h1,h2,?_⟩
 have hA:=ha cpos pins s1 σ H1 _ I1 q1
 rw [hs] at hA ⊢
 refine Calls.callWith_builtin (by show (false||(backTo cpos (starEach es X.env)).any (·.1))=false;rw [hplain]<;>rfl) (Calls.evalArgs_plain ?_)
 exact thn hA fun us s2 ⟨vs,H2,I2,r2,q2⟩=>hm pins s2 σ H2 x vs v us Q I2 r1 r2 q2
end
def MtM (X:Cx) (id:String) (r:V->List V->Hp->VK->Prop):Prop :=
 ∀ (pins:List (Addr×Obj)) (s:Shared) (σ:St) (H:Hp) (x:V) (xs:List V) (v:Value) (us:List Value) (Q:VK),Inv X pins σ H s->RelV x v->Vals xs us->r x xs H Q ->
  wpAny (model X.prog X.w) X.A (call (.builtin id) (v::us)) (EP X pins σ Q) X.xe s
theorem Vals.one {x:V} {us:List Value} (h:Vals [x] us):∃ u,us=[u]/\RelV x u:=by
 cases h with
 | cons r t=>cases t;exact ⟨_,rfl,r⟩
theorem Vals.zero:∀ {us:List Value},Vals [] us->us=[]
 | _,.nil=>rfl
theorem Vals.dropLast {xs:List V} {us:List Value} (h:Vals xs us):Vals xs.dropLast us.dropLast:=by
 induction h with
 | nil=>exact .nil
 | cons r t ih =>
  cases t with
  | nil=>exact .nil
  | cons q t'=>exact .cons r ih
theorem Vk_ {α:Type} (l:List α):l.eraseIdx (l.length - 1)=l.dropLast:=by
 induction l with
 | nil=>rfl
 | cons a r ih =>
  cases r with
  | nil=>rfl
  | cons b r =>
   have e:(a::b::r).length - 1=((b::r).length - 1)+1:=by
    have h1:(a::b::r).length=r.length+2:=rfl
    have h2:(b::r).length=r.length+1:=rfl
    lia
   rw [e,List.eraseIdx_cons_succ,ih]
   all_goals rfl
section
variable {X:Cx} {pins:List (Addr×Obj)} {σ:St} {H:Hp} {s:Shared} {l b:Addr} {xs ys zs:List V}
theorem Inv.lset {its its':List Value} {n:Nat} {f:Array Value->Array Value} {t':Nat} (I:Inv X pins σ H s) (hH:H l=some (.lst xs))
  (e:s.heap.get? l=some { cls:=.type "list",data:=.seq its.toArray n }) (hf:f its.toArray=its'.toArray) (hv:Vals ys its') (hz:ys.length<=sizeLine) :
  Inv X pins σ (upd H l (.lst ys)) { s with heap:=s.heap.update l (Obj.mapSeq f),toks:=t' }:=by
 have q:=PySem.IsL.update e f
 rw [hf] at q
 refine I.write (x:=l) (e:=l) (by rw [hH];exact trivial) (.inl rfl) (fun b' u hb hu=>(Heap.get?_update_other s.heap (Obj.mapSeq f) (Ne.symm hb)).trans hu) ⟨_,q⟩ ?_
 exact ⟨hz,its',_,hv,q⟩
theorem Inv.fresh (I:Inv X pins σ H s):H s.heap.objs.size=none:=I.hok.fresh (Nat.le_refl _)
theorem Inv.lstM (I:Inv X pins σ H s) (hH:H l=some (.lst xs)):xs.length<=sizeLine/\∃ (its:List Value) (n:Nat),Vals xs its/\xs.length=its.length/\s.heap.get? l=some { cls:=.type "list",data:=.seq its.toArray n }:=by
 obtain ⟨z,its,n,r,e⟩:=I.hok l _ hH
 exact ⟨z,its,n,r,r.length,e⟩
theorem zaq_ {n:Nat} (h:n<=sizeLine):Builtin.List.listTooLong n=false:=by
 unfold Builtin.List.listTooLong
 exact decide_eq_false (by lia)
end
section
variable {X:Cx}
def zcF_:V->List V->Hp->VK->Prop:=fun x vs H Q=>∃ l xs y,x=.ref l/\vs=[y]/\H l=some (.lst xs)/\xs.length<sizeLine/\Q .non (upd H l (.lst (xs++[y])))
theorem Ws_:MtM X "list.append" zcF_:=by
 intro pins s σ H x vs v us Q I rx rv h
 obtain ⟨l,xs,y,rfl,rfl,hH,hz,q⟩:=h
 cases rx
 obtain ⟨u,rfl,ru⟩:=rv.one
 obtain ⟨z,its,n,r,hl,e⟩:=I.lstM hH
 refine call_meets F.slot_list_append ⟨_,e,rfl⟩ F.entry_list_append (F.args_list_append_2 _ _) (PySem.list_append l its.toArray n u (by rw [List.size_toArray];lia)) ⟨e,?_⟩
 refine ⟨.non,_,I.lset (its':=its++[u]) hH e (by simp) (r.append (.cons ru .nil)) ?_,rfl,q⟩
 rw [List.length_append,List.length_singleton]
 lia
def zcE_:V->List V->Hp->VK->Prop:=fun x vs H Q=>∃ l b xs zs,x=.ref l/\vs=[.ref b]/\H l=some (.lst xs)/\H b=some (.lst zs)/\xs.length+zs.length<=sizeLine/\Q .non (upd H l (.lst (xs++zs)))
theorem Wr_:MtM X "list.extend" zcE_:=by
 intro pins s σ H x vs v us Q I rx rv h
 obtain ⟨l,b,xs,zs,rfl,rfl,hH,hB,hz,q⟩:=h
 cases rx
 obtain ⟨u,rfl,ru⟩:=rv.one
 cases ru
 obtain ⟨z,its,n,r,hl,e⟩:=I.lstM hH
 obtain ⟨z2,its2,n2,r2,hl2,e2⟩:=I.lstM hB
 have hsz:its.toArray.size+its2.toArray.size<=sizeLine:=by rw [List.size_toArray,List.size_toArray];lia
 have hlong:¬ (!its.toArray.isEmpty&&Builtin.List.listTooLong (its.toArray.size+its2.toArray.size))=true:=by
  rw [zaq_ hsz,Bool.and_false]
  exact Bool.false_ne_true
 refine call_meets F.slot_list_extend ⟨_,e,rfl⟩ F.entry_list_extend (F.args_list_extend_2 _ _)
  (AutoSeq1.list_extend_list_list_0 l its.toArray n b its2.toArray n2 hlong (by rw [List.size_toArray];lia) (by lia)) ⟨e,e2,?_⟩
 refine ⟨.non,_,I.lset (its':=its++its2) hH e (by simp) (r.append r2) ?_,rfl,q⟩
 rw [List.length_append]
 lia
def rPop:V->List V->Hp->VK->Prop:=fun x vs H Q=>∃ l xs y,x=.ref l/\vs=[]/\H l=some (.lst xs)/\xs[xs.length - 1]? = some y/\Q y (upd H l (.lst xs.dropLast))
theorem zfx_:MtM X "list.pop" rPop:=by
 intro pins s σ H x vs v us Q I rx rv h
 obtain ⟨l,xs,y,rfl,rfl,hH,hy,q⟩:=h
 cases rx
 have hus:=rv.zero
 subst hus
 obtain ⟨z,its,n,r,hl,e⟩:=I.lstM hH
 obtain ⟨u,hu,ru⟩:=r.get hy
 have hy':its.toArray[its.toArray.size - 1]? = some u:=by
  show its.toArray[its.length - 1]? = some u
  rw [<-Array.getElem?_toList,<-hl]
  exact hu
 refine call_meets F.slot_list_pop ⟨_,e,rfl⟩ F.entry_list_pop (F.args_list_pop_1 _) (MeetsSeq.list_pop_last l its.toArray n u hy' (by rw [List.size_toArray];lia)) ⟨e,?_⟩
 refine ⟨y,_,I.lset (its':=its.dropLast) hH e ?_ r.dropLast ?_,ru,q⟩
 ·show its.toArray.eraseIdxIfInBounds (its.toArray.size - 1)=its.dropLast.toArray
  rw [List.size_toArray,List.eraseIdxIfInBounds_toArray,Vk_]
 ·rw [List.length_dropLast]
  lia
def zeP_:V->List V->Hp->VK->Prop:=fun x vs H Q=>∃ l xs,x=.ref l/\vs=[]/\H l=some (.lst xs)/\Q .non (upd H l (.lst []))
theorem zat_:MtM X "list.clear" zeP_:=by
 intro pins s σ H x vs v us Q I rx rv h
 obtain ⟨l,xs,rfl,rfl,hH,q⟩:=h
 cases rx
 have hus:=rv.zero
 subst hus
 obtain ⟨z,its,n,r,hl,e⟩:=I.lstM hH
 refine call_meets F.slot_list_clear ⟨_,e,rfl⟩ F.entry_list_clear (F.args_list_clear_1 _) (AutoSeq1.list_clear_list_0 l its.toArray n (by rw [List.size_toArray];lia)) ⟨e,?_⟩
 exact ⟨.non,_,I.lset (its':=[]) (ys:=[]) hH e rfl .nil (Nat.zero_le _),rfl,q⟩
end
end L2
namespace Att
open PySem PySem.W PySem.Calls PyProof.Rows
theorem ZM_ {P:Params} {h:Heap}:∀ (ns:List Int) (vs:List Value),WellAll P h vs (ns.map WData.int)->IntsAre vs ns:=by
 intro ns
 induction ns with
 | nil =>
  intro vs w
  rw [List.map_nil] at w
  cases w
  exact .nil
 | cons n ns ih =>
  intro vs w
  rw [List.map_cons] at w
  cases w with
  | cons a b =>
   cases a
   exact .cons _ _ (ih _ b)
theorem VO_ {l:OpenLaw} {n:Nat} (hn:l.most=some n) {P:Params} {h:Heap} {args:List WData} {vals:List Value}
  (hpre:l.row.toRowW.claim.pre args=true) (hwl:WellAll P h vals args) :
  ∃ a vs ns,vals=[Value.ref a]/\args=[WData.list (ns.map WData.int)]/\h.get? a=some { cls:=.type "list",data:=.seq vs.toArray }/\IntsAre vs ns/\ns.length<=n:=by
 have hsh:WShape.hasAll [] args [.list .int]=true:=(pre_splitW hpre).1
 have hc:l.pre.holds [] { args:=args }=true:=(pre_splitW hpre).2
 obtain ⟨d,r,rfl,h1,h2⟩:=hasAllW_cons hsh
 obtain rfl:=hasAllW_nil h2
 obtain ⟨xs,rfl,h3⟩:=hasW_list h1
 obtain ⟨ns,rfl⟩:=items_int h3
 have hlen:ns.length<=n:=by
  unfold OpenLaw.pre at hc
  have h4:(WTm.not (.lt (.lit (.int (n:Int))) (.len (.arg 0)))).holds [] { args:=[.list (ns.map .int)] }=true:=by
   have h4:=(holds_andW hc).1
   rw [hn] at h4
   exact h4
  have h5:=condW_of h4 (w_not (w_lt w_lit (w_len_list (w_arg rfl))))
  rw [List.length_map] at h5
  refine Nat.le_of_not_lt fun q=>?_
  have q':(n:Int)<((ns.length:Nat):Int):=by omega
  first
   | (rw [decide_eq_true q'] at h5;exact absurd h5 (by decide))
   | (simp at h5;omega)
 cases hwl with
 | cons w1 w2 =>
  cases w2
  cases w1 with
  | list ho hall=>exact ⟨_,_,ns,rfl,rfl,ho,ZM_ ns _ hall,hlen⟩
theorem V5_ (l:OpenLaw) (args:List WData):l.row.toRowW.claim.post args (.bool true) args=true :=
 postW_of (r:=l.row.toRowW) (X:=(true==true))
  (show WShape.has [] (.bool true) .bool=true by first|rfl|decide|simp [WShape.has,WShape.arms,WShape.armsAll])
  (show (WTm.eq .res (.lit (.bool true))).value [] { args:=args,res:=some (.bool true),after:=args }=some (.bool (true==true)) from w_eq_bool (w_res rfl) w_lit) rfl
theorem attach_call {l:OpenLaw} {n:Nat} {q:Program} {loose:List Str} {XP:(Str->Option Value)->Heap->Prop} {YP:World->Heap->Prop} {d:DefRec}
  (hn:l.most=some n) (hdf:d.params.defaults=[])
  (call:∀ (w:World) (s₀ s₁:Shared) (mg mb:Str->Option Value) (fa:Addr) (o:Obj) (pm cd doc:Value) (a:Addr) (vs:List Value) (ns:List Int),
   Ground q loose [] XP w s₀ mg mb s₁.heap->YP w s₁.heap ->
   s₁.heap.get? fa=some o->o.data=.func (docDef d.name d.params d.body d.scope pm cd doc)->s₁.heap.CodeRec cd d.name->mg d.name=some (.ref fa) ->
   s₁.heap.get? a=some { cls:=.type "list",data:=.seq vs.toArray }->IntsAre vs ns->ns.length<=n->s₁.gens = #[] ->
   codeAny (model l.prog w) callerA (.call (.ref fa) ⟨[.ref a],[]⟩) (fun r s'=>r=.ok (.ret (.bool true))/\OldK s₁.heap s'.heap/\s'.os=s₁.os/\AllBare s'.gens) s₁) :
  WalkO q loose XP YP l.row.toRowW d [] (fun f vs=>PySem.call f vs):=by
 intro w s₀ s₁ mg mb G Y fa o pm cd doc dV kV ho hd hcd hD hmg hg args vals as hpre hlay hrd hwl hlo
 obtain rfl:dV=.none:=Dflts.none hD hdf
 obtain rfl:kV=.none:=Dflts.noKw hD
 obtain ⟨a,vs,ns,rfl,rfl,hobj,hints,hlen⟩:=VO_ hn hpre hwl
 refine enter_call (codeAny_mono (call w s₀ s₁ mg mb fa o pm cd doc a vs ns G Y ho (fd_plain hd) hcd hmg hobj hints hlen hg) fun r s' hq=>?_)
 obtain ⟨rfl,h2,h3,h4⟩:=hq
 exact ⟨.inl ⟨.bool true,.bool true,[],rfl,fun _=>rfl,.bool true,V5_ l _,fun _=>⟨List.Pairwise.nil,fun _ hm=>(nomatch hm)⟩⟩,h2,h3,h4⟩
end Att
namespace L2
open PySem PySem.Spec PyProof.Rows
theorem Ui_:∀ {vs:List Value} {ns:List Int},IntsAre vs ns->Vals (ns.map V.int) vs
 | _,_,.nil=>.nil
 | _,_,.cons n t h=>.cons ⟨t,rfl⟩ (Ui_ h)
def Only (H:Hp):Prop:=∀ b,H b=none\/∃ o xs,H b=some (.frz o (.lst xs))
theorem zaB_ {P:Program} {w:World} {K:PySem.W.Frag} {mg mb:Str->Option Value} {CX:CXT} {k:Nat} {fa a:Addr} {fd:FuncData} {x:Str} {sp:Sp} {s₁:Shared} {vs:List Value} {ns:List Int}
  (KX:K.In s₁.heap) (hns:s₁.heap.Ns mainGlobals mg) (hb:s₁.heap.Ns builtinsNs mb) (hbb:∀ x:Str,x ≠ "__name__" -> mb x=bootBuiltins x) (hlim:s₁.heap.NoLimit) (hg:s₁.gens = #[])
  (ha:s₁.heap.get? a=some { cls:=.type "list",data:=.seq vs.toArray }) (hi:IntsAre vs ns) (hl:ns.length<=sizeLine) (hr:Room k callerA)
  (F:∀ base:Heap,K.In base->base.Ns mainGlobals mg->FnOk P w K mg base CX k fa fd [x] sp) (hbind:∀ (s:Shared) (u:Value),BindsTo s fd ⟨[u],[]⟩ [(x,u)])
  (hsp:∀ H:Hp,Only H->SqL K H a (ns.map V.int)->sp [.ref a] H (fun v _=>v=.bl true) fun _ _ _=>False)
  (hCX:∀ H e s',CX [] H s₁ (fun _ _ _=>False) e s'->False) :
  codeAny (model P w) callerA (.call (.ref fa) ⟨[.ref a],[]⟩) (fun r s'=>r=.ok (.ret (.bool true))/\OldK s₁.heap s'.heap/\s'.os=s₁.os/\AllBare s'.gens) s₁:=by
 have rv:=Ui_ hi
 have lenV:=hi.length
 have core:∀ H:Hp,Only H->SqL K H a (ns.map V.int)->HOk P w H s₁.heap->(∀ b,H b≠none->b=a)->(H a≠none->K.lookup a=none) ->
   codeAny (model P w) callerA (.call (.ref fa) ⟨[.ref a],[]⟩) (fun r s'=>r=.ok (.ret (.bool true))/\OldK s₁.heap s'.heap/\s'.os=s₁.os/\AllBare s'.gens) s₁:=by
  intro H hO hS hok hA hK
  have base_of:∀ {b:Addr} {o:Obj},s₁.heap.get? b=some o->H b=none->(hidT s₁.heap H).get? b=some o:=fun e n=>zaM_ e n
  have noA:∀ {b:Addr} {o:Obj} {es:Array DictEntry} {ep:Nat},s₁.heap.get? b=some o->o.data=.dict es ep->H b=none:=fun {b o es ep} e d=>by
   cases q:H b with
   | none=>rfl
   | some u =>
    have e':b=a:=hA b (by rw [q];simp)
    subst e'
    rw [ha] at e;cases e
    have d':Data.seq vs.toArray _=Data.dict es ep:=d
    cases d'
  have nsK:∀ {b:Addr} {m:Str->Option Value},s₁.heap.Ns b m->(hidT s₁.heap H).Ns b m:=fun {b m} ⟨o,es,ep,e,d,r⟩=>⟨o,es,ep,base_of e (noA e d),d,r⟩
  have hKb:K.In (hidT s₁.heap H):=fun b o e=>base_of (KX b o e) (by
   cases q:H b with
   | none=>rfl
   | some u =>
    have e':b=a:=hA b (by rw [q];simp)
    subst e'
    rw [hK (by rw [q];simp)] at e;cases e)
  have hM:Mod K mg (hidT s₁.heap H):=⟨hKb,nsK hns,⟨mb,nsK hb,hbb⟩,let ⟨mc,h1,h2⟩:=hlim;⟨mc,nsK h1,h2⟩⟩
  have e0:Env0 P w K mg (hidT s₁.heap H) callerA [] s₁ H:=⟨rfl,hM,fun b o e=>zdg_ e,Nat.le_of_eq (WU_ _ _),trivial,fun b hb=>absurd (show b∈([]:List Addr) from hb) (by simp),hok,.of_eq hg⟩
  refine codeAny_mono ((F _ hKb (nsK hns)).run callerA [] s₁ H ⟨[.ref a],[]⟩ [.ref a] [.ref a] _ _ hr e0 (hbind s₁ (.ref a)) (.cons rfl .nil) (hsp H hO hS)) fun r s' h=>?_
  cases r with
  | error e=>exact (hCX H e s' h).elim
  | ok fl =>
   cases fl with
   | next=>exact False.elim h
   | brk=>exact False.elim h
   | cont=>exact False.elim h
   | ret u =>
    obtain ⟨v,H',os,bare,un,hok',r',q⟩:=h
    have q':v=.bl true:=q
    subst q'
    obtain rfl:u=Value.bool true:=r'
    refine ⟨rfl,OldK.of_keep fun b o e=>?_,os,bare⟩
    cases q:H b with
    | none=>exact un.keep b o e q (by intro z;exact absurd (show b∈([]:List Addr) from z) (by simp)) (by simp)
    | some u =>
     rcases hO b with z|⟨ob,xs,z⟩
     ·rw [q] at z;cases z
     ·have z2:=un.frzs b ob _ z
      obtain ⟨e1,_⟩:=hok b _ z
      obtain ⟨e2,_⟩:=hok' b _ z2
      rw [e] at e1;cases e1
      exact e2
 cases hk:K.lookup a with
 | some o =>
  have e:=KX a o hk
  rw [ha] at e
  cases e
  refine core (fun _=>none) (fun _=>.inl rfl) (.inr ⟨_,vs.toArray,_,hk,rfl,rfl,rfl,by rw [List.size_toArray,lenV];exact hl,by simpa using rv⟩) (fun b u z=>by have z':(none:Option HO)=some u:=z;cases z') (fun b z=>absurd rfl z) fun z=>absurd rfl z
 | none =>
  refine core (fun b=>if b=a then some (.frz { cls:=.type "list",data:=.seq vs.toArray } (.lst (ns.map V.int))) else none) (fun b=>?_) (.inl (.inr ⟨{ cls:=.type "list",data:=.seq vs.toArray },if_pos rfl⟩)) (fun b u z=>?_) (fun b z=>?_) fun _=>hk
  ·by_cases hb:b=a
   ·exact .inr ⟨_,_,if_pos hb⟩
   ·exact .inl (if_neg hb)
  ·by_cases hb:b=a
   ·have z':=(if_pos hb).symm.trans z
    cases z'
    subst hb
    exact ⟨ha,by rw [List.length_map];exact hl,vs,_,rv,ha⟩
   ·have z':=(if_neg hb).symm.trans z
    cases z'
  ·by_cases hb:b=a
   ·exact hb
   ·exact absurd (if_neg hb) z
theorem walk_of {l:PySem.W.OpenLaw} {n k:Nat} {q:Program} {loose:List Str} {XP:(Str->Option Value)->Heap->Prop} {YP:World->Heap->Prop} {d:DefRec} {K:Params->PySem.W.Frag} {CX:World->CXT} {sp:World->Sp} {x:Str}
  (hn:l.most=some n) (hn2:n<=sizeLine) (hdf:d.params.defaults=[]) (hr:Room k callerA)
  (hY:∀ (w:World) (h:Heap),YP w h->(K w.params).In h)
  (F:∀ (w:World) (mg:Str->Option Value) (fa:Addr) (h:Heap),(K w.params).In h->h.Ns mainGlobals mg->mg d.name=some (.ref fa) ->
   ∃ fd:FuncData,(∀ (s:Shared) (u:Value),BindsTo s fd ⟨[u],[]⟩ [(x,u)]) /\
    ∀ base:Heap,(K w.params).In base->base.Ns mainGlobals mg->FnOk l.prog w (K w.params) mg base (CX w) k fa fd [x] (sp w))
  (hsp:∀ (w:World) (H:Hp) (a:Addr) (ns:List Int),ns.length<=n->Only H->SqL (K w.params) H a (ns.map V.int)->sp w [.ref a] H (fun v _=>v=.bl true) fun _ _ _=>False)
  (hCX:∀ (w:World) (H:Hp) (s:Shared) (e:Value) (s':Shared),CX w [] H s (fun _ _ _=>False) e s'->False) :
  PySem.W.WalkO q loose XP YP l.row.toRowW d [] (fun f vs=>PySem.call f vs):=by
 refine Att.attach_call hn hdf fun w s₀ s₁ mg mb fa o pm cd doc a vs ns G Y ho hd hcd hmg hobj hints hlen hg=>?_
 have KX:=hY w _ Y
 obtain ⟨fd,hb,hF⟩:=F w mg fa _ KX G.T.g hmg
 exact zaB_ KX G.T.g G.T.b G.T.builtins G.T.nolimit hg hobj hints (Nat.le_trans hlen hn2) hr hF hb (fun H hO hS=>hsp w H a ns hlen hO hS) fun H e s'=>hCX w H s₁ e s'
noncomputable def zr_ (s:Stmt):Arguments:=match s with
 | .FunctionDef _ a _ _ _ _ _ _ _ _=>a
 | _=>{ posonlyargs:=[],args:=[],vararg:=none,kwonlyargs:=[],kw_defaults:=[],kwarg:=none,defaults:=[] }
noncomputable def zo_ (s:Stmt):List Stmt:=match s with
 | .FunctionDef _ _ b _ _ _ _ _ _ _=>b
 | _=>[]
noncomputable def zb_ (s:Stmt):Scope:=match s with
 | .FunctionDef _ _ _ _ _ _ sc _ _ _=>sc
 | _=>{ kind:=.function,names:=[],isGenerator:=false,isCoroutine:=false }
structure Fun (K:PySem.W.Frag) (x qual:Str) (st:Stmt) (f:Addr) (fd:FuncData):Prop where
 ex:∃ (oc:Value) (od:Option Addr) (kV doc pm:Value) (an:Option Addr) (cdv ct:Value) (osl:Array (Option Value)),
  fd=PySem.W.fnOf x qual (zr_ st) (zo_ st) (zb_ st) .none kV doc pm an cdv ct/\K.lookup f=some ⟨oc,od,.func fd,osl⟩/\PySem.W.codeIn K cdv qual=true
 kp:PySem.W.keepIn K (.ref f)=true
section
variable {P:Program} {w:World} {K:PySem.W.Frag} {mg:Str->Option Value} {base:Heap}
theorem Fun.binds {x qual:Str} {st:Stmt} {f:Addr} {fd:FuncData} {ps:List Str} (F:Fun K x qual st f fd)
  (h:∀ (kV doc pm:Value) (an:Option Addr) (cdv ct:Value) (us:List Value),us.length=ps.length->bindArgs (PySem.W.fnOf x qual (zr_ st) (zo_ st) (zb_ st) .none kV doc pm an cdv ct) ⟨us,[]⟩=pure (ps.zip us)):Binds K fd ps []:=by
 obtain ⟨oc,od,kV,doc,pm,an,cdv,ct,osl,rfl,lk,hcd⟩:=F.ex
 exact .all (h kV doc pm an cdv ct)
theorem jB_ {x qual:Str} {st:Stmt} {f:Addr} {oc:Value} {od an:Option Addr} {osl:Array (Option Value)} {kV doc pm cdv ct:Value} (l:K.lookup f=some ⟨oc,od,.func (PySem.W.fnOf x qual (zr_ st) (zo_ st) (zb_ st) .none kV doc pm an cdv ct),osl⟩)
  (c:PySem.W.codeIn K cdv qual=true) (k:PySem.W.keepIn K (.ref f)=true):Fun K x qual st f (PySem.W.fnOf x qual (zr_ st) (zo_ st) (zb_ st) .none kV doc pm an cdv ct):=⟨⟨oc,od,kV,doc,pm,an,cdv,ct,osl,rfl,l,c⟩,k⟩
end
theorem iteF {A B:Prop} (h:B):if false=true then A else B:=by
 rw [if_neg Bool.false_ne_true]
 exact h
theorem iteT {A B:Prop} (h:A):if true=true then A else B:=by
 rw [if_pos rfl]
 exact h
def Same (H H':Hp):Prop:=∀ b o,H b=some o->H' b=some o
theorem Same.refl (H:Hp):Same H H:=fun _ _ h=>h
theorem Same.trans {H H1 H2:Hp} (a:Same H H1) (b:Same H1 H2):Same H H2:=fun c o h=>b c o (a c o h)
theorem Same.free {H H':Hp} (e:Same H H') {l:Addr} (h:H' l=Option.none):H l=Option.none:=by
 cases q:H l with
 | none=>rfl
 | some o =>
  rw [e l o q] at h
  cases h
theorem Same.seq {K:PySem.W.Frag} {H H':Hp} {a:Addr} {xs:List V} (e:Same H H') (h:SqL K H a xs):SqL K H' a xs:=by
 rcases h with (h|⟨o,h⟩)|h
 ·exact .inl (.inl (e _ _ h))
 ·exact .inl (.inr ⟨o,e _ _ h⟩)
 ·exact .inr h
noncomputable def zu_ (X:Cx) (N':List Str) (scope:Scope) (cl:List (Str×Addr)) (s₂:Shared) (H₂:Hp) (fp:List Addr) (C:Addr):Cx :=
 { X with N:=N',s₀:=s₂,H₀:=H₂,env:=compEnvC scope cl C X.env,outer:=X.stack,ex:=fp,fn:=fun _=>false,pn:=[],xe:=fun _ _=>False }
noncomputable def lobj (ys:List Value) (k:Nat):Obj:={ cls:=.type "list",data:=.seq ys.toArray k }
section
variable {prog:Program} {w:World} {A:Around} {R:Result->Shared->Prop} {s:Shared}
theorem uV_ {elt target iter:Expr} {ifs:List Expr} {scope:Scope} {pos:Pos} {it acc:Value} {env:Env} (I:Nat->Shared->Prop)
  (turn:∀ n s,I n s->wpAny (model prog w) A (pyNext it) (fun r s₁=>match r with
   | none=>R (.ok .next) s₁
   | some v=>wpAny (model prog w) A (letOwnedTupleGo target it v) (fun _ s₁'=>wpAny (model prog w) A (assign target env v) (fun _ s₂ =>
     wpAny (model prog w) A (forIn ifs true fun c r=>if r=true then do let ok <-isTrue c env (eval c env);pure (ForInStep.yield ok) else pure (ForInStep.yield r)) (fun ok s₃ =>
      if ok=true then wpAny (model prog w) A (eval elt env) (fun x s₄ =>
       wpAny (model prog w) A (call (.builtin "list.append") [acc,x]) (fun _ s₅=>∃ m,m<n/\I m s₅) (fun _ _=>False) s₄) (fun _ _=>False) s₃
      else ∃ m,m<n/\I m s₃) (fun _ _=>False) s₂) (fun _ _=>False) s₁') (fun _ _=>False) s₁) (fun _ _=>False) s)
  (n:Nat) (h:I n s) :
  codeAny (model prog w) A (.compLoop (.ListComp elt [⟨target,iter,ifs,0⟩] scope pos) 0 it acc env) R s:=by
 refine codeAny_loop rfl I (fun n s hI=>?_) n h
 show wpAny _ A ((compTurn (.ListComp elt [⟨target,iter,ifs,0⟩] scope pos) 0 it acc env).onRaise (fun x=>do noteFrame x env;theTreesLotGoes x)) _ _ s
 refine wpAny_noted ?_
 rw [compTurn_list]
 refine wpAny_bind (wpAny_standAt (wpAny_bind (wpAny_mono (turn n s hI) (fun r s₁ h₁=>?_) fun _ _ h'=>h'.elim)))
 cases r with
 | none=>exact wpAny_pure h₁
 | some v =>
  refine wpAny_bind (wpAny_mono h₁ (fun _ s₁' h₁'=>?_) fun _ _ h'=>h'.elim)
  refine wpAny_bind (wpAny_mono h₁' (fun _ s₂ h₂=>wpAny_bind (wpAny_mono h₂ (fun ok s₃ h₃=>?_) fun _ _ h'=>h'.elim)) fun _ _ h'=>h'.elim)
  cases ok with
  | false=>exact wpAny_pure ⟨rfl,h₃⟩
  | true =>
   exact wpAny_bind (wpAny_bind (wpAny_mono h₃ (fun x s₄ h₄=>wpAny_bind (wpAny_mono h₄ (fun _ s₅ h₅=>wpAny_pure (wpAny_pure ⟨rfl,h₅⟩)) fun _ _ h'=>h'.elim)) fun _ _ h'=>h'.elim))
end
def PTs (X:Cx) (ifs:List Expr) (t:TT):Prop :=
 ∀ (pins:List (Addr×Obj)) (s:Shared) (σ:St) (H:Hp) (Q:Bool->Hp->Prop),Inv X pins σ H s->t σ H Q ->
  wpAny (model X.prog X.w) X.A (forIn ifs true fun c r=>if r=true then do let ok <-isTrue c X.env (eval c X.env);pure (ForInStep.yield ok) else pure (ForInStep.yield r)) (TP X pins σ Q) X.xe s
theorem zcH_ {X:Cx}:PTs X [] (fun _ H Q=>Q true H):=fun _ _ _ H _ I h=>wpAny_tests_nil ⟨H,I,h⟩
theorem zcG_ {X:Cx} {c:Expr} {t:TT} (h:PT X c t):PTs X [c] t:=fun pins s σ H Q I q=>wpAny_tests_one (h pins s σ H Q I q)
theorem jV_ {env:Env}:∀ {names:List (Str×NameKind)} {x:Str},
  (names.map fun (n,k)=>if (k==NameKind.free&&env.scope.kind==.function&&env.kindOf n==some .cell) then (n,NameKind.cell) else (n,k)).lookup x
   = (names.lookup x).map fun k=>if (k==NameKind.free&&env.scope.kind==.function&&env.kindOf x==some .cell) then NameKind.cell else k
 | [],_=>rfl
 | (n,k)::r,x=>by
  have ih:=@jV_ env r x
  show List.lookup x ((if (k==NameKind.free&&env.scope.kind==.function&&env.kindOf n==some .cell)=true then (n,NameKind.cell) else (n,k))::_)=_
  cases hx:x==n with
  | true =>
   have e:x=n:=by simpa using hx
   subst e
   by_cases hc:(k==NameKind.free&&env.scope.kind==.function&&env.kindOf x==some .cell)=true
   ·rw [if_pos hc];simp only [List.lookup_cons,hx,Option.map_some,if_pos hc]
   ·rw [if_neg hc];simp only [List.lookup_cons,hx,Option.map_some,if_neg hc]
  | false =>
   by_cases hc:(k==NameKind.free&&env.scope.kind==.function&&env.kindOf n==some .cell)=true
   ·rw [if_pos hc];simp only [List.lookup_cons,hx];exact ih
   ·rw [if_neg hc];simp only [List.lookup_cons,hx];exact ih
theorem yP_ {env:Env}:∀ (names:List (Str×NameKind)) (acc:List (Str×Addr)),(∀ x∈names,x.2=.free->∃ c,env.cells.lookup x.1=some c) ->
  (∀ x c,acc.lookup x=some c->env.cells.lookup x=some c) ->
  ∃ cl,(forIn names acc fun (x:Str×NameKind) (cs:List (Str×Addr))=>(if (x.2==NameKind.free)=true then (do let c <-cellOf env x.1;pure (ForInStep.yield ((x.1,c)::cs))) else pure (ForInStep.yield cs):Sem (ForInStep (List (Str×Addr)))))=pure cl /\
   (∀ x c,cl.lookup x=some c->env.cells.lookup x=some c)/\(∀ x,(acc.lookup x).isSome->(cl.lookup x).isSome)/\∀ x∈names,x.2=.free->(cl.lookup x.1).isSome
 | [],acc,_,ha=>⟨acc,rfl,ha,fun _ h=>h,fun _ h=>nomatch h⟩
 | (n,k)::r,acc,hn,ha=>by
  cases hk:(k==NameKind.free) with
  | true =>
   obtain ⟨c,hc⟩:=hn (n,k) List.mem_cons_self (by simpa using hk)
   have ha':∀ x d,((n,c)::acc).lookup x=some d->env.cells.lookup x=some d:=fun x d e=>by
    rw [List.lookup_cons] at e
    cases q:x==n with
    | true =>
     rw [q] at e
     have:x=n:=by simpa using q
     subst this
     exact hc.trans e
    | false=>rw [q] at e;exact ha x d e
   obtain ⟨cl,e,h1,h2,h3⟩:=yP_ r ((n,c)::acc) (fun x hx=>hn x (List.mem_cons_of_mem _ hx)) ha'
   have grow:∀ x,(acc.lookup x).isSome->(((n,c)::acc).lookup x).isSome:=fun x hx=>by
    rw [List.lookup_cons]
    cases q:x==n with
    | true=>rfl
    | false=>exact hx
   refine ⟨cl,?_,h1,fun x hx=>h2 x (grow x hx),fun x hx hf=>?_⟩
   ·rw [List.forIn_cons]
    have q:cellOf env n=pure c:=by
     unfold cellOf
     rw [hc]
    simp only [hk,if_true,q]
    exact e
   ·rcases List.mem_cons.mp hx with rfl|hx
    ·exact h2 _ (by simp [List.lookup_cons])
    ·exact h3 x hx hf
  | false =>
   obtain ⟨cl,e,h1,h2,h3⟩:=yP_ r acc (fun x hx=>hn x (List.mem_cons_of_mem _ hx)) ha
   refine ⟨cl,?_,h1,h2,fun x hx hf=>?_⟩
   ·rw [List.forIn_cons]
    simp only [hk,Bool.false_eq_true,if_false]
    exact e
   ·rcases List.mem_cons.mp hx with rfl|hx
    ·exfalso;have:k=.free:=hf;subst this;simp at hk
    ·exact h3 x hx hf
theorem Ju_ {env:Env} {scope:Scope} (h:∀ x∈scope.names,x.2=.free->∃ c,env.cells.lookup x.1=some c) :
  ∃ cl,closureFor scope env=pure cl/\(∀ x c,cl.lookup x=some c->env.cells.lookup x=some c)/\∀ x∈scope.names,x.2=.free->(cl.lookup x.1).isSome:=by
 obtain ⟨cl,e,h1,_,h3⟩:=yP_ (env:=env) scope.names [] h (fun x c e=>by simp at e)
 refine ⟨cl,?_,h1,h3⟩
 unfold closureFor
 have q:(forIn scope.names [] fun (x:Str×NameKind) (cs:List (Str×Addr))=>(match x with|(name,kind)=>if (kind==NameKind.free)=true then (do let c <-cellOf env name;pure (ForInStep.yield ((name,c)::cs))) else pure (ForInStep.yield cs):Sem (ForInStep (List (Str×Addr)))))=pure cl:=e
 first
  | (simp only [];rw [q];rfl)
  | (show (do let cs <-_;pure cs)=_;rw [q];rfl)
  | (rw [show (forIn scope.names [] _)=pure cl from q];rfl)
structure CompOk (X:Cx) (N':List Str) (k:Nat) (scope:Scope):Prop where
 kind:scope.kind=.function
 len:N'.length=X.N.length+k
 nocell:∀ y∈scope.names,y.2≠.cell
 names:∀ y∈scope.names,y.2=.local->scope.names.lookup y.1=some .local
 outer:∀ (i:Nat) x,i<X.N.length->N'[i]? = some x->(scope.names.lookup x).isSome->(scope.names.lookup x=some .free\/scope.names.lookup x=some .local\/scope.names.lookup x=some .cell)->X.N[i]? = some x/\scope.names.lookup x=some .free
 free:∀ y∈scope.names,y.2=.free->X.env.kindOf y.1=some .cell\/X.env.kindOf y.1=some .free
noncomputable def XU_ (wi:TI) (k:Nat) (g:TG) (tc:TT) (te:TE):TE:=fun σ H Q=>wi σ H fun J H1=>∃ W:Nat->Nat->List V->St->Hp->Prop,(∃ m,W 0 m [] (σ++List.replicate k none) H1) /\
 ∀ i m vs σ' H',W i m vs σ' H'->vs.length<=sizeLine /\
  ((J.stop i H'/\∀ p,H' p=none->Q (.ref p) (upd H' p (.lst vs))) \/
   (J.go i H'/\∀ x H2,J.yld i H' x H2->g x σ' H2 fun σ3 H3=>tc σ3 H3 fun b H4=>if b=true then te σ3 H4 fun y H5=>∃ m',m'<m/\W (i+1) m' (vs++[y]) σ3 H5 else ∃ m',m'<m/\W (i+1) m' vs σ3 H4))
section
variable {X:Cx} {pins:List (Addr×Obj)} {σ:St} {H2:Hp} {s2:Shared}
theorem HOk.track {P:Program} {w:World} {H:Hp} {h:Heap} {D:Addr} {vs:List V} {ys:List Value} {k:Nat} (x:HOk P w H h) (hn:H D=none) (hl:vs.length<=sizeLine) (r:Vals vs ys) (e:h.get? D=some (lobj ys k)) :
  HOk P w (upd H D (.lst vs)) h:=fun b u q=>by
 by_cases hb:b=D
 ·subst hb
  rw [zi_] at q
  cases q
  exact ⟨hl,ys,k,r,e⟩
 ·rw [zf_ hb] at q
  exact (x b u q).stay (fun _ _ _ z=>z) (fun c z=>by rw [zf_ (zl_ z hn)];exact z) fun c xs z=>by rw [zf_ (zl_ z hn)];exact z
theorem UY_ {elt tg iter:Expr} {ifs:List Expr} {scope:Scope} {pos:Pos} {N':List Str} {k:Nat} {cl:List (Str×Addr)} {J:It} {fp:List Addr} {it:Addr} {tn:Nat->Heap->Prop} {g:TG} {tc:TT} {te:TE} {E:Value->Shared->Prop}
  {RR:Value->Addr->Result->Shared->Prop} {Q:VK}
  (hc:X.calm=true) (S:CompOk X N' k scope) (hcl:∀ x c,cl.lookup x=some c->X.env.cells.lookup x=some c) (hcf:∀ x∈scope.names,x.2=.free->(cl.lookup x.1).isSome)
  (I:Inv X pins σ H2 s2) (T:Turn X.prog X.w X.K tg J fp it tn) (st:tn 0 s2.heap) (ff:∀ b∈fp,FpOk X pins H2 b)
  (hg:∀ C,PG (zu_ X N' scope cl s2 H2 fp C) tg g) (ht:∀ C,PTs (zu_ X N' scope cl s2 H2 fp C) ifs tc) (he:∀ C,PE (zu_ X N' scope cl s2 H2 fp C) elt te)
  (rd:∃ W:Nat->Nat->List V->St->Hp->Prop,(∃ m,W 0 m [] (σ++List.replicate k none) H2) /\
   ∀ i m vs σ' H',W i m vs σ' H'->vs.length<=sizeLine /\
    ((J.stop i H'/\∀ p,H' p=none->Q (.ref p) (upd H' p (.lst vs))) \/
     (J.go i H'/\∀ x H2,J.yld i H' x H2->g x σ' H2 fun σ3 H3=>tc σ3 H3 fun b H4=>if b=true then te σ3 H4 fun y H5=>∃ m',m'<m/\W (i+1) m' (vs++[y]) σ3 H5 else ∃ m',m'<m/\W (i+1) m' vs σ3 H4)))
  (hRR:∀ D C s' H',Inv X pins σ H' s'->(∃ m,s'.heap.Ns C m)->FpOk X pins H' C->Q (.ref D) H'->RR (.ref D) C (.ok .next) s') :
  wpAny (model X.prog X.w) X.A (newList []) (fun acc s₃=>wpAny (model X.prog X.w) X.A (newFunctionEnv scope X.env.globals cl [] X.env.qual none .none (some X.env)) (fun cenv s₄ =>
   codeAny (model X.prog X.w) X.A (.compStart (.ListComp elt [⟨tg,iter,ifs,0⟩] scope pos) 0 (.ref it) acc { cenv with scope:=relabel scope X.env }) (RR acc cenv.locals) s₄) E s₃) E s2:=by
 obtain ⟨W,⟨m0,w0⟩,turn⟩:=rd
 refine wpAny_newObj_type (wpAny_newFunctionEnv S.nocell (by intro y hy;simp at hy) (fun h₁ hns₁ hsb₁=>?_) S.kind)
 dsimp only at hns₁ hsb₁ ⊢
 generalize hH2:s2.heap.push { cls:=.type "list",dict:=none,data:=.seq ([]:List Value).toArray }=G2 at hns₁ hsb₁ ⊢
 have hCs:G2.objs.size=s2.heap.objs.size+1:=by rw [<-hH2,Heap.size_push]
 have hDC:s2.heap.objs.size≠G2.objs.size:=by rw [hCs];exact Nat.ne_of_lt (Nat.lt_succ_self _)
 have hCle:s2.heap.objs.size<=G2.objs.size:=by rw [hCs];exact Nat.le_succ _
 have below:∀ b,b<s2.heap.objs.size->b≠G2.objs.size/\b≠s2.heap.objs.size:=fun b hb=>⟨by rw [hCs];exact Nat.ne_of_lt (Nat.lt_succ_of_lt hb),Nat.ne_of_lt hb⟩
 have old:∀ b o,s2.heap.get? b=some o->h₁.get? b=some o:=fun b o e=>hsb₁.extBut b o (below b (Heap.lt_size e)).1 (Heap.get?_push_of_some _ (hH2▸Heap.get?_push_of_some _ e))
 have hacc:h₁.get? s2.heap.objs.size=some (lobj [] 0):=hsb₁.extBut _ _ hDC (Heap.get?_push_of_some _ (hH2▸Heap.get?_push_size _ rfl))
 generalize hDe:s2.heap.objs.size=D at *
 generalize hCe:G2.objs.size=C at *
 have fpD:FpOk X pins H2 D:=I.fpOk (by rw [hDe];exact Nat.le_refl _) (I.hok.fresh (by rw [hDe];exact Nat.le_refl _))
 have fpC:∀ H',H' C=none->FpOk X pins H' C:=fun H' hn=>I.fpOk (by rw [hDe];exact hCle) hn
 have hfpD:∀ b∈fp,b<D:=fun b hb=>by
  obtain ⟨o,e,_⟩:=T.obj _ _ st b hb
  rw [<-hDe];exact Heap.lt_size e
 have nofr:∀ b,D<=b->b∉frs X.stack:=fun b hb hm=>by
  rcases List.mem_cons.mp (I.stkSub b hm) with e|hm
  ·have:=I.lt;rw [hDe] at this;rw [e] at hb;exact absurd (Nat.lt_of_lt_of_le this hb) (Nat.lt_irrefl _)
  ·exact I.nofs (by rw [hDe];exact hb) hm
 let X':=zu_ X N' scope cl s2 H2 fp C
 have cellLt:∀ x c,cl.lookup x=some c->c<D:=fun x c e=>by
  obtain ⟨v,z⟩:=I.cell x c (hcl x c e)
  rw [<-hDe];exact z.lt
 have ok':X'.Ok:=by
  refine ⟨I.ok.mod,S.kind,I.ok.glob,I.ok.blt,?_,fun x y c e1 e2=>I.ok.inj x y c (hcl _ _ e1) (hcl _ _ e2),fun x hx=>?_,fun x c hf _=>(nomatch hf),I.ok.hd,I.ok.frames,.inl rfl,fun b hb=>⟨?_,fun x c e z=>?_⟩,I.bs,?_,fun b o e hb=>?_,fun b hb hm=>?_,I.stack,I.stkFree⟩
  ·show s2.heap.objs.size<=C
   rw [hDe];exact hCle
  ·have hx':(relabel scope X.env).names.lookup x=some .cell\/(relabel scope X.env).names.lookup x=some .free:=hx
   have e:=jV_ (env:=X.env) (names:=scope.names) (x:=x)
   have e':(relabel scope X.env).names.lookup x=(scope.names.lookup x).map fun k=>if (k==NameKind.free&&X.env.scope.kind==.function&&X.env.kindOf x==some .cell) then NameKind.cell else k:=e
   rw [e'] at hx'
   cases q:scope.names.lookup x with
   | none=>rw [q] at hx';rcases hx' with z|z<;>cases z
   | some kd =>
    have hmem:=PySem.mem_of_lookup q
    rw [q] at hx'
    have hkd:kd=.free:=by
     by_cases hz:kd=.free
     ·exact hz
     ·exfalso
      have hb:(kd==NameKind.free)=false:=by simpa using hz
      simp only [hb,Bool.false_and,Bool.false_eq_true,if_false,Option.map_some] at hx'
      rcases hx' with z|z
      ·exact S.nocell _ hmem (Option.some.inj z)
      ·exact hz (Option.some.inj z)
    exact Option.isSome_iff_exists.mp (hcf _ hmem hkd)
  ·exact Nat.ne_of_lt (Nat.lt_of_lt_of_le (hfpD b hb) hCle)
  ·exact (ff b hb).2.2.2.2.1 x c (hcl x c e) z
  ·exact Nat.le_trans I.ok.bsz I.sz
  ·obtain ⟨_,_,_,hx,_⟩:=ff b hb
   rcases hx with hx|hx
   ·exact I.ok.noex b o e hx
   ·exact absurd (Nat.lt_of_lt_of_le (Heap.lt_size (I.ok.bs b o e).1) hx) (Nat.lt_irrefl _)
  ·obtain ⟨_,hl,hfs,_⟩:=ff b hb
   rcases List.mem_cons.mp (I.stkSub b hm) with e|hm
   ·exact hl e
   ·exact hfs hm
 have lenσ:(σ++List.replicate k none).length=N'.length:=by rw [List.length_append,List.length_replicate,I.len,S.len]
 have I0:Inv X' [(D,lobj [] 0)] (σ++List.replicate k none) H2 { s2 with heap:=h₁,toks:=s2.toks+([]:List (Str×Value)).length }:=by
  refine ⟨ok',rfl,I.bare,Un.kept old,⟨_,hns₁,fun i x v e1 e2 e3=>?_⟩,fun x c e=>?_,I.hok.fresh (by rw [hDe];exact hCle),fun x c e=>I.freeC x c (hcl x c e),fun p hp=>?_,I.hok.kept old,lenσ⟩
  ·have hi:i<σ.length:=by
    by_cases hi:i<σ.length
    ·exact hi
    ·rw [List.getElem?_append_right (Nat.not_lt.mp hi),List.getElem?_replicate] at e2
     split at e2<;>cases e2
   rw [List.getElem?_append_left hi] at e2
   have e':(relabel scope X.env).names.lookup x=(scope.names.lookup x).map fun k=>if (k==NameKind.free&&X.env.scope.kind==.function&&X.env.kindOf x==some .cell) then NameKind.cell else k:=jV_ (env:=X.env) (names:=scope.names) (x:=x)
   have hsome:∃ kd,scope.names.lookup x=some kd/\(kd=.free\/kd=.local\/kd=.cell):=by
    have e3':(relabel scope X.env).names.lookup x=some .local\/(relabel scope X.env).names.lookup x=some .cell\/(relabel scope X.env).names.lookup x=some .free:=e3
    rw [e'] at e3'
    cases q:scope.names.lookup x with
    | none=>rw [q] at e3';rcases e3' with z|z|z<;>cases z
    | some kd =>
     refine ⟨kd,rfl,?_⟩
     rw [q] at e3'
     by_cases hz:kd=.free
     ·exact .inl hz
     ·have hb:(kd==NameKind.free)=false:=by simpa using hz
      simp only [hb,Bool.false_and,Bool.false_eq_true,if_false,Option.map_some,Option.some.injEq] at e3'
      rcases e3' with z|z|z
      ·exact .inr (.inl z)
      ·exact .inr (.inr z)
      ·exact .inl z
   obtain ⟨kd,hk1,hk2⟩:=hsome
   obtain ⟨hN,hfree⟩:=S.outer i x (by rw [<-I.len];exact hi) e1 (by rw [hk1];rfl) (by rcases hk2 with z|z|z<;>subst z<;>simp [hk1])
   have hmem:=PySem.mem_of_lookup hfree
   have hko:=S.free _ hmem rfl
   have hkx:X.env.kindOf x=some .cell\/X.env.kindOf x=some .free:=hko
   obtain ⟨m,hn,hl⟩:=I.loc
   obtain ⟨u,r,lk⟩:=hl i x v hN e2 (by rcases hkx with z|z;exact .inr (.inl z);exact .inr (.inr z))
   refine ⟨u,r,.inr ⟨?_,?_⟩⟩
   ·show (relabel scope X.env).names.lookup x=some .cell\/(relabel scope X.env).names.lookup x=some .free
    rw [e',hfree,Option.map_some]
    split
    ·exact .inl rfl
    ·exact .inr rfl
   ·rcases lk with ⟨kl,_⟩|⟨_,c,ec,hcell⟩
    ·rcases hkx with z|z<;>(rw [z] at kl;cases kl)
    ·obtain ⟨c',ec'⟩:=Option.isSome_iff_exists.mp (hcf _ hmem rfl)
     have q:=hcl _ _ ec'
     rw [ec] at q
     cases q
     exact ⟨c,ec',hcell.keeps old⟩
  ·obtain ⟨v,z⟩:=I.cell x c (hcl x c e)
   exact ⟨v,z.keeps old⟩
  ·have hp':p∈([]:List (Addr×Obj))++[(D,lobj [] 0)]:=hp
   have ep:p=(D,lobj [] 0):=by simpa using hp'
   subst ep
   exact ⟨hacc,fpD.1,hDC,nofr D (Nat.le_refl _),fun v z=>nomatch z⟩
 have stat:∀ {H':Hp} {o:Obj},(∀ b∈fp,H' b=none)->∀ b∈fp,FpOk X' [(D,o)] H' b:=fun {H' o} hn b hb=>by
  refine ⟨hn b hb,Nat.ne_of_lt (Nat.lt_of_lt_of_le (hfpD b hb) hCle),ok'.exfs b hb,.inl hb,fun x c e z=>(ff b hb).2.2.2.2.1 x c (hcl x c e) z,fun p hp=>?_⟩
  have hp':p∈([]:List (Addr×Obj))++[(D,o)]:=hp
  have ep:p=(D,o):=by simpa using hp'
  subst ep
  exact Nat.ne_of_gt (hfpD b hb)
 have loop:∀ s₃:Shared,s₃={ s2 with heap:=h₁,toks:=s2.toks+([]:List (Str×Value)).length } ->
   codeAny (model X.prog X.w) X.A (.compLoop (.ListComp elt [⟨tg,iter,ifs,0⟩] scope pos) 0 (.ref it) (.ref D) (compEnvC scope cl C X.env)) (RR (.ref D) C) s₃:=by
  rintro s₃ rfl
  refine uV_ (fun n s'=>∃ i vs ys kk σ' H',Inv X' [(D,lobj ys kk)] σ' H' s'/\tn i s'.heap/\(∀ b∈fp,H' b=none)/\Vals vs ys/\W i n vs σ' H') ?_ m0
   ⟨0,[],[],0,_,H2,I0,T.keep _ _ _ st fun b _ o e=>old b o e,fun b hb=>(ff b hb).1,.nil,w0⟩
  rintro n s3 ⟨i,vs,ys,kk,σ3,H3,I3,st3,fr3,rv,w3⟩
  obtain ⟨hvl,hcase⟩:=turn i n vs σ3 H3 w3
  have pinD:∀ {o:Obj} {σ' H' s'},Inv X' [(D,o)] σ' H' s'->s'.heap.get? D=some o/\H' D=none:=fun J=>⟨(J.pin _ (List.mem_append_right _ List.mem_cons_self)).1,(J.pin _ (List.mem_append_right _ List.mem_cons_self)).2.1⟩
  rcases hcase with ⟨stop,qn⟩|⟨go,step⟩
  ·refine thn (T.done X' rfl rfl rfl hc i _ s3 σ3 H3 (fun _ _=>False) I3 (stat fr3) st3 stop) fun r s4 ⟨hr,I4⟩=>?_
   subst hr
   obtain ⟨gD,nD⟩:=pinD I4
   obtain ⟨m',hm',_⟩:=I4.loc
   have hC4:H3 C=none:=I4.free
   have u0:Un (frs X.stack) fp H2 H3 s2.heap s4.heap:=I4.base
   have neD:∀ b o,s2.heap.get? b=some o->b≠D:=fun b o e=>by rw [<-hDe];exact Nat.ne_of_lt (Heap.lt_size e)
   have u1:Un (frs X.stack) fp H2 (upd H3 D (.lst vs)) s2.heap s4.heap :=
    ⟨u0.keep,u0.slot,fun b o e n hx=>by rw [zf_ (neD b o e)];exact u0.free b o e n hx,u0.there,
     fun b xs e=>by have q:=u0.tups b xs e;rw [zf_ (zl_ q nD)];exact q,
     fun b o u e=>by have q:=u0.frzs b o u e;rw [zf_ (zl_ q nD)];exact q,
     fun b ps e=>by obtain ⟨more,q⟩:=u0.tbls b ps e;exact ⟨more,by rw [zf_ (zl_ q nD)];exact q⟩⟩
   have I5:Inv X pins σ (upd H3 D (.lst vs)) s4:=I.call' I4.os u1 (I4.hok.track nD hvl rv gD) I4.bare fun b hb=>⟨(ff b hb).2.2.2.1,(ff b hb).2.1,(ff b hb).2.2.2.2.1,(ff b hb).2.2.2.2.2⟩
   exact hRR D C s4 _ I5 ⟨m',hm'⟩ (fpC _ (by rw [zf_ (Ne.symm hDC)];exact hC4)) (qn D nD)
  ·refine thn (T.item X' rfl rfl rfl hc i _ s3 σ3 H3 (fun _ _=>False) I3 (stat fr3) st3 go) fun r s4 ⟨u,hr,h4⟩=>?_
   subst hr
   refine thn h4 fun _ s5 ⟨x,H5,I5,r5,y5,st5,fr5⟩=>?_
   have I5':=I5.pinned (stat fr5) (T.obj _ _ st5)
   refine thn (hg C _ s5 σ3 H5 x u _ I5' r5 (step x H5 y5)) fun _ s6 ⟨σ6,H6,I6,q6⟩=>?_
   refine thn (ht C _ s6 σ6 H6 _ I6 q6) fun ok s7 ⟨H7,I7,q7⟩=>?_
   have unpin:∀ {σ' H' s'},Inv X' ([(D,lobj ys kk)]++Uz_ fp s5.heap) σ' H' s'->Inv X' [(D,lobj ys kk)] σ' H' s'/\tn (i+1) s'.heap/\∀ b∈fp,H' b=none:=fun {σ' H' s'} J =>
    ⟨J.unpinned,T.keep _ _ _ st5 fun b hb o e=>(J.pin (b,o) (List.mem_append_right _ (List.mem_append_right _ (uJ_ hb e)))).1,fun b hb=>by
     obtain ⟨o,e,d⟩:=T.obj _ _ st5 b hb
     exact (J.pin (b,o) (List.mem_append_right _ (List.mem_append_right _ (uJ_ hb e)))).2.1⟩
   cases ok with
   | false =>
    rw [if_neg Bool.false_ne_true]
    rw [if_neg Bool.false_ne_true] at q7
    obtain ⟨m',hm',w7⟩:=q7
    obtain ⟨J1,J2,J3⟩:=unpin I7
    exact ⟨m',hm',i+1,vs,ys,kk,σ6,H7,J1,J2,J3,rv,w7⟩
   | true =>
    rw [if_pos rfl]
    rw [if_pos rfl] at q7
    refine thn (he C _ s7 σ6 H7 _ I7 q7) fun uy s8 ⟨y,H8,I8,r8,m',hm',w8⟩=>?_
    obtain ⟨J1,J2,J3⟩:=unpin I8
    obtain ⟨gD,nD⟩:=pinD J1
    refine append_at (hsz:=by show ys.toArray.size<=sizeLine;rw [List.size_toArray,<-rv.length];exact hvl) gD fun h9 hs9 hD9=>?_
    have J1':Inv X' [] σ6 H8 s8:=J1.pins_of fun p hp=>nomatch hp
    have J9:Inv X' [] σ6 H8 { s8 with heap:=h9 }:=J1'.turned (t':=s8.toks) (it:=D) (fun b o hb e=>hs9.extBut b o hb e) nD hDC (.inr (by show s2.heap.objs.size<=D;rw [hDe];exact Nat.le_refl _)) (fun x c e=>Nat.ne_of_lt (cellLt x c e)) fun p hp=>nomatch hp
    have eo:({ cls:=.type "list",data:=.seq (ys.toArray.push uy) (kk+1) }:Obj)=lobj (ys++[uy]) (kk+1):=by
     unfold lobj
     rw [List.push_toArray]
    refine ⟨m',hm',i+1,vs++[y],ys++[uy],kk+1,σ6,H8,J9.pins_of fun p hp=>?_,T.keep _ _ _ J2 fun b hb o e=>hs9.extBut b o (Nat.ne_of_lt (hfpD b hb)) e,J3,rv.append (.cons r8 .nil),w8⟩
    have ep:p=(D,lobj (ys++[uy]) (kk+1)):=by simpa using hp
    subst ep
    exact ⟨by show h9.get? D=_;rw [hD9,eo],nD,hDC,nofr D (Nat.le_refl _),fun v z=>nomatch z⟩
 exact codeAny_compStart_list (loop _ rfl) (T.self _ 0 _ _ _ (T.keep _ _ _ st fun b _ o e=>old b o e) (loop _ rfl))
end
section
variable {X:Cx}
theorem V8_ {elt tg iter:Expr} {ifs:List Expr} {scope:Scope} {pos:Pos} {N':List Str} {k:Nat} {wi:TI} {g:TG} {tc:TT} {te:TE}
  (hc:X.calm=true) (S:CompOk X N' k scope) (hcells:∀ x∈scope.names,x.2=.free->∃ c,X.env.cells.lookup x.1=some c) (hi:PI X tg iter wi)
  (hg:∀ cl s H fp C,PG (zu_ X N' scope cl s H fp C) tg g) (ht:∀ cl s H fp C,PTs (zu_ X N' scope cl s H fp C) ifs tc) (he:∀ cl s H fp C,PE (zu_ X N' scope cl s H fp C) elt te)
  (hs:∀ x,foldedSetIterable iter X.env x=pure x:=by intro _;rfl) :
  PE X (.ListComp elt [⟨tg,iter,ifs,0⟩] scope pos) (XU_ wi k g tc te):=by
 intro pins s σ H Q I h
 obtain ⟨cl,hclos,h1,h2⟩:=Ju_ (env:=X.env) (scope:=scope) hcells
 rw [eval_ListComp]
 refine wpAny_comprehension_free (use:=none) rfl hs hclos S.kind S.names (thn (hi pins s σ H _ I h) fun xv s1 h1'=>thn h1' fun itv s2 h2'=>?_)
 obtain ⟨it,fp,tn,J,H2,e,I2,T,st2,f2,rd⟩:=h2'
 subst e
 refine UY_ hc S h1 h2 I2 T st2 f2 (fun C=>hg _ _ _ _ C) (fun C=>ht _ _ _ _ C) (fun C=>he _ _ _ _ C) rd fun D C s' H' I' ⟨m,hm⟩ fC q=>?_
 refine ⟨m,hm,fun h' hs'=>⟨.ref D,H',?_,rfl,q⟩⟩
 exact I'.turned (t':=s'.toks) (it:=C) (fun b o hb e=>hs'.extBut b o hb e) fC.1 fC.2.1 fC.2.2.2.1 fC.2.2.2.2.1 fC.2.2.2.2.2
theorem Jd_ {elt tg iter:Expr} {ifs:List Expr} {scope:Scope} {pos pos' spos:Pos} {N':List Str} {k i:Nat} {y:Str} {wi:TI} {g:TG} {tc:TT} {te:TE}
  (hN:X.N.Nodup) (hy:X.N[i]? = some y) (hly:Loc X.env.scope y) (hfn:X.fn y=true\/X.env.scope.names.lookup y=some .local)
  (hc:X.calm=true) (S:CompOk X N' k scope) (hcells:∀ x∈scope.names,x.2=.free->∃ c,X.env.cells.lookup x.1=some c) (hi:PI X tg iter wi)
  (hg:∀ cl s H fp C,PG (zu_ X N' scope cl s H fp C) tg g) (ht:∀ cl s H fp C,PTs (zu_ X N' scope cl s H fp C) ifs tc) (he:∀ cl s H fp C,PE (zu_ X N' scope cl s H fp C) elt te)
  (hsw:swapsWith (.ListComp elt [⟨tg,iter,ifs,0⟩] scope pos) (some (.Name y pos')) spos.line X.env=pure true)
  (hs:∀ x,foldedSetIterable iter X.env x=pure x:=by intro _;rfl) :
  PS X (.Assign [.Name y pos'] (.ListComp elt [⟨tg,iter,ifs,0⟩] scope pos) spos) (tAsg (XU_ wi k g tc te) (WY_ i)):=by
 intro pins s σ H D₀ I h
 obtain ⟨cl,hclos,h1,h2⟩:=Ju_ (env:=X.env) (scope:=scope) hcells
 rw [exec_Assign_Name_used _ _ _ _ hsw]
 refine wpAny_bind (wpAny_standAt (wpAny_bind ?_))
 show wpAny _ X.A (do let _ <-comprehension (.ListComp elt [⟨tg,iter,ifs,0⟩] scope pos) scope X.env _ (newList []) false (eval iter X.env) (some (assign (.Name y pos') X.env))) _ _ s
 refine wpAny_bind (wpAny_mono (wpAny_comprehension_free (use:=some (assign (.Name y pos') X.env)) (Q:=fun _ s'=>SP X pins D₀ .next s') rfl hs hclos S.kind S.names
  (thn (hi pins s σ H _ I h) fun xv s1 h1'=>thn h1' fun itv s2 h2'=>?_)) (fun _ s' hq=>wpAny_pure (wpAny_pure hq)) fun _ _ e=>e)
 obtain ⟨it,fp,tn,J,H2,e,I2,T,st2,f2,rd⟩:=h2'
 subst e
 refine UY_ (Q:=fun x H1=>WY_ i x σ H1 D₀.nx) hc S h1 h2 I2 T st2 f2 (fun C=>hg _ _ _ _ C) (fun C=>ht _ _ _ _ C) (fun C=>he _ _ _ _ C) rd fun D C s' H' I' ⟨m,hm⟩ fC q=>?_
 show wpAny _ X.A (assign (.Name y pos') X.env (.ref D)) _ _ _
 refine wpAny_assign_Name (Ul_ I' hN hy hly (show RelV (.ref D) (.ref D) from rfl) (fun s'' I'' ⟨a,hsb,ha⟩=>?_) hfn)
 have hCa:C≠a:=by
  rcases ha with rfl|ha
  ·exact fC.2.1
  ·exact fun z=>fC.2.2.2.2.1 y a ha z.symm
 refine ⟨m,hm.sameBut hsb hCa,fun h' hs'=>⟨_,H',?_,q⟩⟩
 exact I''.turned (t':=s''.toks) (it:=C) (fun b o hb e=>hs'.extBut b o hb e) fC.1 fC.2.1 fC.2.2.2.1 fC.2.2.2.2.1 fC.2.2.2.2.2
end
section
variable {κ:Type} [DecidableEq κ]
noncomputable def valV (kvs:List (κ×V)) (k:κ):Option V:=(kvs.find? fun kv=>decide (kv.1=k)).map (·.2)
noncomputable def putK (kvs:List (κ×V)) (k:κ) (v:V):List (κ×V) :=
 if (kvs.any fun kv=>decide (kv.1=k))=true then kvs.map (fun kv=>if kv.1=k then (kv.1,v) else kv) else kvs++[(k,v)]
theorem Jy_ {p:κ×V} {r:List (κ×V)} {k:κ} (e:p.1=k):valV (p::r) k=some p.2:=by simp [valV,List.find?_cons,e]
theorem Jz_ {p:κ×V} {r:List (κ×V)} {k:κ} (e:¬ p.1=k):valV (p::r) k=valV r k:=by simp [valV,List.find?_cons,e]
theorem Y6_ (k:κ):∀ kvs:List (κ×V),(kvs.any fun kv=>decide (kv.1=k))=(valV kvs k).isSome
 | []=>rfl
 | p::r=>by
  rw [List.any_cons]
  by_cases e:p.1=k
  ·simp only [Jy_ e,decide_eq_true e,Bool.true_or,Option.isSome_some]
  ·rw [Jz_ e,decide_eq_false e,Bool.false_or];exact Y6_ k r
theorem yc_ (kvs:List (κ×V)) (k:κ) (v:V):(putK kvs k v).length<=kvs.length+1:=by
 unfold putK
 split
 ·rw [List.length_map];lia
 ·rw [List.length_append,List.length_cons,List.length_nil];lia
theorem RelO.isSome_eq {o:Option V} {u:Option Value} (r:RelO o u):o.isSome=u.isSome:=by
 cases o with
 | none=>cases u with
  | none=>rfl
  | some _=>exact (show False from r).elim
 | some _=>cases u with
  | none=>exact (show False from r).elim
  | some _=>rfl
theorem RelO.getD {o:Option V} {u:Option Value} {d:V} {d':Value} (r:RelO o u) (rd:RelV d d'):RelV (o.getD d) (u.getD d'):=by
 cases o with
 | none=>cases u with
  | none=>exact rd
  | some _=>exact (show False from r).elim
 | some _=>cases u with
  | none=>exact (show False from r).elim
  | some _=>exact r
theorem KV.val {kvs:List (κ×V)} {vs:List (κ×Value)} (r:KV kvs vs) (k:κ):RelO (valV kvs k) (valueAt vs k):=by
 unfold KV at r
 induction r with
 | nil=>exact True.intro
 | @cons p q ps qs h t ih =>
  obtain ⟨h1,h2⟩:=h
  by_cases e:p.1=k
  ·have e':q.1=k:=h1.symm.trans e
   have b:valueAt (q::qs) k=some q.2:=by simp [valueAt,List.find?_cons,e']
   rw [Jy_ e,b];exact h2
  ·have e':¬ q.1=k:=fun z=>e (h1.trans z)
   have b:valueAt (q::qs) k=valueAt qs k:=by simp [valueAt,List.find?_cons,e']
   rw [Jz_ e,b];exact ih
theorem KV.any {kvs:List (κ×V)} {vs:List (κ×Value)} (r:KV kvs vs) (k:κ):(kvs.any fun kv=>decide (kv.1=k))=vs.any fun kv=>decide (kv.1=k):=by
 unfold KV at r
 induction r with
 | nil=>rfl
 | cons h t ih=>rw [List.any_cons,List.any_cons,ih,h.1]
theorem KV.repl {kvs:List (κ×V)} {vs:List (κ×Value)} (r:KV kvs vs) (k:κ) {y:V} {u:Value} (ry:RelV y u) :
  KV (kvs.map fun kv=>if kv.1=k then (kv.1,y) else kv) (vs.map fun kv=>if kv.1=k then (kv.1,u) else kv):=by
 unfold KV at r ⊢
 induction r with
 | nil=>exact .nil
 | @cons p q ps qs h t ih =>
  rw [List.map_cons,List.map_cons]
  refine .cons ?_ ih
  obtain ⟨h1,h2⟩:=h
  by_cases e:p.1=k
  ·rw [if_pos e,if_pos (h1.symm.trans e)];exact ⟨h1,ry⟩
  ·rw [if_neg e,if_neg (fun z=>e (h1.trans z))];exact ⟨h1,h2⟩
theorem KV.put {kvs:List (κ×V)} {vs:List (κ×Value)} (r:KV kvs vs) (k:κ) {y:V} {u:Value} (ry:RelV y u):KV (putK kvs k y) (stored vs k u):=by
 unfold putK stored
 rw [r.any k]
 by_cases e:(vs.any fun kv=>decide (kv.1=k))=true
 ·rw [if_pos e,if_pos e];exact r.repl k ry
 ·rw [if_neg e,if_neg e];exact Paired.snoc r ⟨rfl,ry⟩
theorem KV.length {kvs:List (κ×V)} {vs:List (κ×Value)} (r:KV kvs vs):kvs.length=vs.length:=Paired.length r
end
theorem YH_ {P:Program} {w:World} {k:Key} {u:Value} (r:RelV (kV k) u):(zC_ P w).is k u=true:=by
 cases k with
 | inl i=>obtain ⟨t,e⟩:=(show ∃ t,u=Value.int i t from r);subst e;exact YA_ P w i t
 | inr x=>obtain ⟨t,e⟩:=(show ∃ t,u=Value.str x t from r);subst e;exact Yz_ P w x t
theorem UO_ {P:Program} {w:World}:∀ {ks:List Key} {us:List Value},Vals (ks.map kV) us->ItemsAre (zC_ P w) ks us
 | [],_,r=>by rw [List.map_nil] at r;cases r;exact .nil
 | k::ks,_,r=>by
  rw [List.map_cons] at r
  cases r with
  | cons h t=>exact .cons (YH_ h) (UO_ t)
abbrev KT (H:Hp):List (List Key×V)->List (List Key×Addr×Value)->Prop:=Paired fun p q=>p.1=q.1/\H q.2.1=some (.tup (p.1.map kV))/\RelV p.2 q.2.2
theorem KT.val {H:Hp} {kvs:List (List Key×V)} {xs:List (List Key×Addr×Value)} (r:KT H kvs xs) (k:List Key):RelO (valV kvs k) ((atKey xs k).map (·.2)):=by
 induction r with
 | nil=>exact True.intro
 | @cons p q ps qs h t ih =>
  obtain ⟨h1,_,h2⟩:=h
  by_cases e:p.1=k
  ·have e':q.1=k:=h1.symm.trans e
   have b:atKey (q::qs) k=some q.2:=by simp [atKey,List.find?_cons,e']
   rw [Jy_ e,b];exact h2
  ·have e':¬ q.1=k:=fun z=>e (h1.trans z)
   have b:atKey (q::qs) k=atKey qs k:=by simp [atKey,List.find?_cons,e']
   rw [Jz_ e,b];exact ih
theorem KT.repl {H:Hp} {kvs:List (List Key×V)} {xs:List (List Key×Addr×Value)} (r:KT H kvs xs) (k:List Key) {y:V} {u:Value} (ry:RelV y u) :
  KT H (kvs.map fun kv=>if kv.1=k then (kv.1,y) else kv) (xs.map (putAt k u)):=by
 induction r with
 | nil=>exact .nil
 | @cons p q ps qs h t ih =>
  rw [List.map_cons,List.map_cons]
  refine .cons ?_ ih
  obtain ⟨h1,h2,h3⟩:=h
  unfold putAt
  by_cases e:p.1=k
  ·rw [if_pos e,if_pos (h1.symm.trans e)];exact ⟨h1,h2,ry⟩
  ·rw [if_neg e,if_neg (fun z=>e (h1.trans z))];exact ⟨h1,h2,h3⟩
theorem KT.put {H:Hp} {kvs:List (List Key×V)} {xs:List (List Key×Addr×Value)} (r:KT H kvs xs) (k:List Key) {b:Addr} {y:V} {u:Value} (hb:H b=some (.tup (k.map kV))) (ry:RelV y u) :
  KT H (putK kvs k y) (storedH xs k b u):=by
 have e:(kvs.any fun kv=>decide (kv.1=k))=(atKey xs k).isSome:=by
  rw [Y6_,(r.val k).isSome_eq,Option.isSome_map]
 unfold putK storedH
 rw [e]
 by_cases q:(atKey xs k).isSome=true
 ·rw [if_pos q,if_pos q];exact r.repl k ry
 ·rw [if_neg q,if_neg q];exact Paired.snoc r ⟨rfl,hb,ry⟩
theorem KT.keeps {H H':Hp} {kvs:List (List Key×V)} {xs:List (List Key×Addr×Value)} (r:KT H kvs xs) (ht:∀ b ys,H b=some (.tup ys)->H' b=some (.tup ys)):KT H' kvs xs :=
 Paired.mapP r fun _ _ z=>⟨z.1,ht _ _ z.2.1,z.2.2⟩
section
variable {P:Program} {w:World} {H:Hp} {h:Heap} {a:Addr}
theorem zeH_ {u:HO} (ok:HOk P w H h) (e:Rd H a u):ObjOk P w H h a u:=e.ok ok
theorem YU_ {kvs:List (Key×V)} (ok:HOk P w H h) (e:Rd H a (.dK kvs)):kvs.length<=sizeLine/\(a==sysModules)=false/\∃ vs,KV kvs vs/\h.DictOf (zC_ P w) a vs :=
 show ObjOk P w H h a (.dK kvs) from zeH_ ok e
theorem zdG_ {kvs:List (Key×V)} (ok:HOk P w H h) (e:H a=some (.dK kvs)):kvs.length<=sizeLine/\(a==sysModules)=false/\∃ vs,KV kvs vs/\h.DictOf (zC_ P w) a vs:=YU_ ok (.inl e)
theorem y1_ {ks:List Key} (ok:HOk P w H h) (e:H a=some (.tup (ks.map kV))):(tupleKind (zC_ P w)).is h ks a:=by
 obtain ⟨_,its,r,⟨o,h1,h2,n,h3⟩,_⟩:=(show ObjOk P w H h a (.tup (ks.map kV)) from ok a _ e)
 exact ⟨o,its.toArray,n,h1,h2,h3,by simpa using UO_ r⟩
theorem Vm_ {kvs:List (List Key×V)} (ok:HOk P w H h) (e:Rd H a (.dT kvs)):kvs.length<=sizeLine/\(a==sysModules)=false /\
  ∃ xs,KT H kvs xs/\h.DictOfH (tupleKind (zC_ P w)) a xs:=by
 obtain ⟨z,y,xs,r,o,es,ep,h1,h2,h3,h4,h5⟩:=(show ObjOk P w H h a (.dT kvs) from zeH_ ok e)
 refine ⟨z,y,xs,r,o,es,ep,h1,h2,h3,h4,fun x hx=>?_,h5⟩
 have all:∀ {l:List (List Key×V)} {m:List (List Key×Addr×Value)},KT H l m->∀ x∈m,(tupleKind (zC_ P w)).is h x.1 x.2.1:=by
  intro l m q
  induction q with
  | nil=>intro x hx;exact nomatch hx
  | @cons p q ps qs hq t ih =>
   intro x hx
   rcases List.mem_cons.mp hx with e|hx
   ·subst e
    exact y1_ ok (by rw [<-hq.1];exact hq.2.1)
   ·exact ih x hx
 exact all r x hx
theorem Xd_ {kvs:List (List Key×V)} (ok:HOk P w H h) (e:H a=some (.dT kvs)):kvs.length<=sizeLine/\(a==sysModules)=false /\
  ∃ xs,KT H kvs xs/\h.DictOfH (tupleKind (zC_ P w)) a xs:=Vm_ ok (.inl e)
end
def DGet (H:Hp) (a:Addr) (y:V) (r:Option V):Prop :=
 (∃ kvs k,Rd H a (.dK kvs)/\y=kV k/\r=valV kvs k)\/∃ kvs k b,Rd H a (.dT kvs)/\y=.ref b/\H b=some (.tup (k.map kV))/\r=valV kvs k
def DPut (H:Hp) (a:Addr) (y v:V) (H':Hp):Prop :=
 (∃ kvs k,H a=some (.dK kvs)/\y=kV k/\kvs.length<sizeLine/\H'=upd H a (.dK (putK kvs k v))) \/
 ∃ kvs k b,H a=some (.dT kvs)/\y=.ref b/\H b=some (.tup (k.map kV))/\kvs.length<sizeLine/\H'=upd H a (.dT (putK kvs k v))
theorem DGet.k {H:Hp} {a:Addr} {kvs:List (Key×V)} {k:Key} (e:H a=some (.dK kvs)):DGet H a (kV k) (valV kvs k):=.inl ⟨kvs,k,.inl e,rfl,rfl⟩
theorem DGet.t {H:Hp} {a b:Addr} {kvs:List (List Key×V)} {k:List Key} (e:H a=some (.dT kvs)) (eb:H b=some (.tup (k.map kV))):DGet H a (.ref b) (valV kvs k):=.inr ⟨kvs,k,b,.inl e,rfl,eb,rfl⟩
theorem DPut.k {H:Hp} {a:Addr} {kvs:List (Key×V)} {k:Key} {v:V} (e:H a=some (.dK kvs)) (hl:kvs.length<sizeLine):DPut H a (kV k) v (upd H a (.dK (putK kvs k v))):=.inl ⟨kvs,k,e,rfl,hl,rfl⟩
theorem DPut.t {H:Hp} {a b:Addr} {kvs:List (List Key×V)} {k:List Key} {v:V} (e:H a=some (.dT kvs)) (eb:H b=some (.tup (k.map kV))) (hl:kvs.length<sizeLine) :
  DPut H a (.ref b) v (upd H a (.dT (putK kvs k v))):=.inr ⟨kvs,k,b,e,rfl,eb,hl,rfl⟩
section
variable {X:Cx} {pins:List (Addr×Obj)} {σ:St} {H:Hp} {s:Shared} {a:Addr} {y v:V} {u r:Value} {o:Option V} {A:Around} {E:Value->Shared->Prop}
theorem Inv.big (I:Inv X pins σ H s):sysModules<s.heap.objs.size:=by
 have h:mainGlobals<s.heap.objs.size:=(I.mod.glob.keeps I.bk).lt
 exact Nat.lt_trans (by decide) h
theorem Xg_ {Q:Value->Shared->Prop} (hu:A.units+1<cLine) (I:Inv X pins σ H s) (g:DGet H a y (some v)) (ry:RelV y u) (h:∀ w' s',Inv X pins σ H s'->RelV v w'->Q w' s') :
  wpAny (model X.prog X.w) A (getItem (.ref a) u) Q E s:=by
 rcases g with ⟨kvs,k,e,ey,l⟩|⟨kvs,k,b,e,ey,eb,l⟩
 ·subst ey
  obtain ⟨z,hd,vs,rel,dd⟩:=YU_ I.hok e
  obtain ⟨w',hw,rw'⟩:=RelO.some_of (v:=v) (o:=valueAt vs k) (by rw [l];exact rel.val k)
  exact wpAny_getItem_of (YH_ ry) dd.mapOf hw (h w' _ (I.tok _) rw')
 ·subst ey
  cases (show u=Value.ref b from ry)
  obtain ⟨z,hd,xs,rel,dd⟩:=Vm_ I.hok e
  obtain ⟨w',hw,rw'⟩:=RelO.some_of (v:=v) (o:=(atKey xs k).map (·.2)) (by rw [l];exact rel.val k)
  obtain ⟨p,hp,hp2⟩:=Option.map_eq_some_iff.mp hw
  refine wpAny_getItem_heap (tupleKind_room_in1 hu) (y1_ I.hok eb) dd hp ?_
  rw [hp2]
  exact h w' _ (I.tok _) rw'
theorem zdH_ {Q:Value->Shared->Prop} (hu:A.units+1<cLine) (I:Inv X pins σ H s) (g:DGet H a y o) (ry:RelV y u) (h:∀ s',Inv X pins σ H s'->Q (.bool (!o.isSome)) s') :
  wpAny (model X.prog X.w) A (compareOp .NotIn u (.ref a)) Q E s:=by
 rcases g with ⟨kvs,k,e,ey,l⟩|⟨kvs,k,b,e,ey,eb,l⟩
 ·subst ey
  obtain ⟨z,hd,vs,rel,dd⟩:=YU_ I.hok e
  refine wpAny_notIn_of (YH_ ry) hd dd.mapOf ?_
  rw [<-(rel.val k).isSome_eq,<-l]
  exact h _ (I.tok _)
 ·subst ey
  cases (show u=Value.ref b from ry)
  obtain ⟨z,hd,xs,rel,dd⟩:=Vm_ I.hok e
  refine wpAny_notIn_heap (tupleKind_room_in1 hu) (y1_ I.hok eb) hd dd ?_
  have q:=(rel.val k).isSome_eq
  rw [Option.isSome_map] at q
  rw [<-q,<-l]
  exact h _ (I.tok _)
theorem YW_ {h':Heap} {t':Nat} {ob:HO} (I:Inv X pins σ H s) (mu:Mut (H a)) (hs:Heap.SameBut a s.heap h') (he:∃ q,h'.get? a=some q) (new:ObjOk X.prog X.w (upd H a ob) h' a ob) :
  Inv X pins σ (upd H a ob) { s with heap:=h',toks:=t' } :=
 I.write (x:=a) (e:=a) mu (.inl rfl) (fun b q hb z=>(hs.2 b hb).trans z) he new
theorem zgk_ {P:Program} {w:World} {H':Hp} {h':Heap} {kvs:List (Key×V)} {vs:List (Key×Value)} (z:kvs.length<=sizeLine) (hd:(a==sysModules)=false) (rel:KV kvs vs) (dd:h'.DictOf (zC_ P w) a vs) :
  ObjOk P w H' h' a (.dK kvs):=⟨z,hd,vs,rel,dd⟩
theorem Xf_ {H':Hp} {Q:Unit->Shared->Prop} (hu:A.units+1<cLine) (I:Inv X pins σ H s) (g:DPut H a y v H') (ry:RelV y u) (rv:RelV v r) (h:∀ s',Inv X pins σ H' s'->Q () s') :
  wpAny (model X.prog X.w) A (setItem (.ref a) u r) Q E s:=by
 rcases g with ⟨kvs,k,e,ey,l,eH⟩|⟨kvs,k,b,e,ey,eb,l,eH⟩
 ·subst ey eH
  obtain ⟨z,hd,vs,rel,dd⟩:=zdG_ I.hok e
  have hz:vs.length<=sizeLine:=by rw [<-rel.length];exact z
  have hl:(putK kvs k v).length<=sizeLine:=by have:=yc_ kvs k v;lia
  refine wpAny_setItem_pairs (hsz:=hz) (YH_ ry) dd fun h' dd' hs=>h _ ?_
  have he:∃ q,h'.get? a=some q:=let ⟨q,_,_,hq,_⟩:=dd';⟨q,hq⟩
  exact YW_ I (by rw [e];exact True.intro) hs he (zgk_ hl hd (rel.put k rv) dd')
 ·subst ey eH
  cases (show u=Value.ref b from ry)
  obtain ⟨z,hd,xs,rel,dd⟩:=Xd_ I.hok e
  have hz:xs.length<=sizeLine:=by rw [<-Paired.length rel];exact z
  have hl:(putK kvs k v).length<=sizeLine:=by have:=yc_ kvs k v;lia
  refine wpAny_setItem_heap (hsz:=hz) (tupleKind_room_in1 hu) (y1_ I.hok eb) dd fun h' dd' hs=>h _ ?_
  obtain ⟨q,es,ep,hq,h2,h3,h4,_,h5⟩:=dd'
  refine YW_ I (by rw [e];exact True.intro) hs ⟨q,hq⟩ ⟨hl,hd,_,(rel.put k eb rv).keeps fun c ys ec=>?_,q,es,ep,hq,h2,h3,h4,h5⟩
  rw [zf_ (zfu_ ec e (fun z=>nomatch z))]
  exact ec
end
section
variable {X:Cx} {pins:List (Addr×Obj)} {σ:St} {H:Hp} {s:Shared} {a:Addr} {kvs:List (Key×V)} {k:Key} {u:Value} {A:Around} {E:Value->Shared->Prop}
theorem zhF_ {Q:Value->Shared->Prop} (I:Inv X pins σ H s) (e:Rd H a (.dK kvs)) (h:∀ t s',Inv X pins σ H s'->Q (.int kvs.length t) s'):wpAny (model X.prog X.w) A (call (.builtin "len") [.ref a]) Q E s:=by
 obtain ⟨z,hd,vs,rel,dd⟩:=YU_ I.hok e
 refine call_len_dict hd dd (by rw [<-rel.length];rw [sizeLine_eq] at z;lia) ?_
 rw [<-rel.length]
 exact h _ _ (I.tok _)
end
theorem YV_ {X:Cx} {pins:List (Addr×Obj)} {σ:St} {H:Hp} {s:Shared} {a:Addr} {y:V} {o:Option V} (I:Inv X pins σ H s) (g:DGet H a y o):s.TypeIs (.ref a) "dict":=by
 rcases g with ⟨kvs,k,e,_,_⟩|⟨kvs,k,b,e,_,_,_⟩
 ·obtain ⟨_,_,vs,_,dd⟩:=YU_ I.hok e
  exact dd.typeIs
 ·obtain ⟨_,_,xs,_,dd⟩:=Vm_ I.hok e
  exact dd.typeIs
noncomputable def zgT_ (td ty tv:TE):TS:=fun D σ H=>tv σ H fun v H1=>td σ H1 fun x H2=>ty σ H2 fun y H3=>∃ a H4,x=.ref a/\DPut H3 a y v H4/\D.nx σ H4
section
variable {X:Cx} {o i e value:Expr} {pos pos' tpos:Pos} {td ty tv:TE}
theorem zcK_ (hu:X.A.units+1<cLine) (ho:PE X o td) (hi:PE X i ty) (hv:PE X value tv) (hs:swapsWith value (some (.Subscript o i pos')) pos.line X.env=pure false) :
  PS X (.Assign [.Subscript o i pos'] value pos) (zgT_ td ty tv):=by
 intro pins s σ H D I h
 refine wpAny_Assign_Subscript (thn (hv pins s σ H _ I h) fun r s1 ⟨v,H1,I1,rv,q1⟩=>thn (ho pins s1 σ H1 _ I1 q1) fun u s2 ⟨x,H2,I2,rx,q2⟩=>thn (hi pins s2 σ H2 _ I2 q2) fun iv s3 ⟨y,H3,I3,ry,a,H4,ex,g,q3⟩=>?_) hs
 subst ex
 obtain rfl:u=Value.ref a:=rx
 exact Xf_ hu I3 g ry rv fun s4 I4=>⟨σ,H4,I4,q3⟩
end
theorem zba_ {P:Program} {w:World} {H:Hp} (h:Heap) (hb:sysModules<h.objs.size):ObjOk P w H (h.push { cls:=.type "dict",data:=.dict #[] }) h.objs.size (.dK []) :=
 ⟨Nat.zero_le _,beq_eq_false_iff_ne.mpr (Ne.symm (Nat.ne_of_lt hb)),[],.nil,Heap.DictOf.new h⟩
theorem Qw_ {P:Program} {w:World} {H:Hp} (h:Heap) (hb:sysModules<h.objs.size):ObjOk P w H (h.push { cls:=.type "dict",data:=.dict #[] }) h.objs.size (.dT []) :=
 ⟨Nat.zero_le _,beq_eq_false_iff_ne.mpr (Ne.symm (Nat.ne_of_lt hb)),[],.nil,_,#[],0,Heap.get?_push_size _ rfl,⟨rfl,rfl,rfl⟩,rfl,rfl,List.nodup_nil⟩
noncomputable def zek_:TE:=fun _ H Q=>∀ p,H p=none->Q (.ref p) (upd H p (.dK []))
noncomputable def zej_:TE:=fun _ H Q=>∀ p,H p=none->Q (.ref p) (upd H p (.dT []))
section
variable {X:Cx} {pos:Pos}
theorem zah_:PE X (.Dict [] [] pos) zek_:=fun pins s σ H Q I h =>
 wpAny_Dict_empty ⟨.ref s.heap.objs.size,_,I.laid (a:=s.heap.objs.size) (o:=.dK []) (t':=s.toks) (fun _ _ q=>Heap.get?_push_of_some _ q) (Nat.le_refl _) (zba_ s.heap I.big),rfl,h _ (I.hok.fresh (Nat.le_refl _))⟩
theorem zag_:PE X (.Dict [] [] pos) zej_:=fun pins s σ H Q I h =>
 wpAny_Dict_empty ⟨.ref s.heap.objs.size,_,I.laid (a:=s.heap.objs.size) (o:=.dT []) (t':=s.toks) (fun _ _ q=>Heap.get?_push_of_some _ q) (Nat.le_refl _) (Qw_ s.heap I.big),rfl,h _ (I.hok.fresh (Nat.le_refl _))⟩
end
noncomputable def zbw_:List (TE×TE)->St->Hp->(List (V×V)->Hp->Prop)->Prop
 | [],_,H,Q=>Q [] H
 | (tk,tv)::r,σ,H,Q=>tk σ H fun x H1=>tv σ H1 fun y H2=>zbw_ r σ H2 fun ps H3=>Q ((x,y)::ps) H3
abbrev VV:List (V×V)->List (Value×Value)->Prop:=Paired fun p q=>RelV p.1 q.1/\RelV p.2 q.2
def PPs (X:Cx) (pos:Pos) (keys:List (Option Expr)) (values:List Expr) (trs:List (TE×TE)):Prop :=
 ∀ (pins:List (Addr×Obj)) (s:Shared) (σ:St) (H:Hp) (Q:List (V×V)->Hp->Prop),Inv X pins σ H s->zbw_ trs σ H Q ->
  wpAny (model X.prog X.w) X.A (evalPairs (pairTrees keys values X.env pos)) (fun vs s'=>∃ ps H',Inv X pins σ H' s'/\VV ps vs/\Q ps H') X.xe s
theorem zcM_ {X:Cx} {pos:Pos}:PPs X pos [] [] []:=fun pins s σ H Q I h=>pairTrees_nil_walk ⟨[],H,I,.nil,h⟩
theorem X9_ {X:Cx} {pos:Pos} {k v:Expr} {ks:List (Option Expr)} {vs:List Expr} {tk tv:TE} {trs:List (TE×TE)} (hk:PE X k tk) (hv:PE X v tv) (hr:PPs X pos ks vs trs) :
  PPs X pos (some k::ks) (v::vs) ((tk,tv)::trs):=fun pins s σ H Q I h =>
 pairTrees_cons_walk (thn (hk pins s σ H _ I h) fun u s1 ⟨x,H1,I1,rx,q1⟩=>thn (hv pins s1 σ H1 _ I1 q1) fun w2 s2 ⟨y,H2,I2,ry,q2⟩ =>
  thn (hr pins s2 σ H2 _ I2 q2) fun ws s3 ⟨ps,H3,I3,rel,q3⟩=>⟨(x,y)::ps,H3,I3,.cons ⟨rx,ry⟩ rel,q3⟩)
structure M1 (X:Cx) (o:Expr) (m:Str) (apos:Pos) (e:Expr) (cpos:Pos):Prop where
 base:attributeBase o m X.env (eval o X.env)=eval o X.env
 few:((backTo cpos (starEach [e] X.env)).all (fun x=>!x.1)&&(backToKw cpos (keywordEach [] X.env)).all (fun x=>x.1.isSome)
  && decide (([e]:List Expr).length+([]:List Keyword).length+(if ([]:List Keyword).isEmpty then 0 else 1)<30))=true
 line:(apos.endLine==cpos.line)=true
 trees:backTo cpos (starEach [e] X.env)=[(false,eval e X.env)]
def IsD (H:Hp) (a:Addr):Prop:=(∃ kvs,Rd H a (.dK kvs))\/∃ kvs,Rd H a (.dT kvs)
theorem zfR_ {X:Cx} {pins:List (Addr×Obj)} {σ:St} {H:Hp} {s:Shared} {a:Addr} (I:Inv X pins σ H s) (d:IsD H a) :
  s.TypeIs (.ref a) "dict" /\ (∀ b,Value.ref a=.ref b->∃ ob,s.heap.get? b=some ob/\ob.dict=none)/\(a==sysModules)=false:=by
 rcases d with ⟨kvs,e⟩|⟨kvs,e⟩
 ·obtain ⟨_,hd,vs,_,dd⟩:=YU_ I.hok e
  refine ⟨dd.typeIs,fun b q=>?_,hd⟩
  cases q
  obtain ⟨ob,_,_,h1,h2,_⟩:=dd
  exact ⟨ob,h1,h2.2.1⟩
 ·obtain ⟨_,hd,xs,_,dd⟩:=Vm_ I.hok e
  refine ⟨dd.typeIs,fun b q=>?_,hd⟩
  cases q
  obtain ⟨ob,_,_,h1,h2,_⟩:=dd
  exact ⟨ob,h1,h2.2.1⟩
section
variable {X:Cx} {pins:List (Addr×Obj)} {σ:St} {H:Hp} {s:Shared} {a:Addr} {y d:V} {u r:Value} {o:Option V} {A:Around} {E:Value->Shared->Prop}
theorem zgl_ {Q:Value->Shared->Prop} (hu:A.units+1<cLine) (I:Inv X pins σ H s) (g:DGet H a y o) (ry:RelV y u) (h:∀ w' s',Inv X pins σ H s'->RelV (o.getD .non) w'->Q w' s') :
  wpAny (model X.prog X.w) A (call (.builtin "dict.get") [.ref a,u]) Q E s:=by
 rcases g with ⟨kvs,k,e,ey,l⟩|⟨kvs,k,b,e,ey,eb,l⟩
 ·subst ey
  obtain ⟨z,hd,vs,rel,dd⟩:=YU_ I.hok e
  refine call_meetsIn PySem.F.slot_dict_get dd.typeIs PySem.F.entry_dict_get (PySem.F.args_dict_get_2 _ _) (meets_dict_get (zC_ X.prog X.w) a (YH_ ry) hd) ⟨_,dd.mapOf,h _ _ (I.tok _) ?_⟩
  rw [l]
  exact (rel.val k).getD rfl
 ·subst ey
  cases (show u=Value.ref b from ry)
  obtain ⟨z,hd,xs,rel,dd⟩:=Vm_ I.hok e
  refine call_meetsIn PySem.F.slot_dict_get dd.typeIs PySem.F.entry_dict_get (PySem.F.args_dict_get_2 _ _) (meetsH_dict_get (tupleKind (zC_ X.prog X.w)) a b hd) ⟨tupleKind_room_in1 hu,k,xs,y1_ I.hok eb,dd,h _ _ (I.tok _) ?_⟩
  rw [l]
  exact (rel.val k).getD rfl
end
end L2
namespace L4
open PySem PySem.Spec PyProof.Rows L2 PySem.W
def XO (e C:Addr) (dd:Option Addr):Heap->Prop:=fun h=>∃ oe,h.get? e=some oe/\oe.cls=.ref C/\oe.dict=dd/\PySem.W.notCls oe=true
def XD (dx:Addr) (fs:List (Str×V)):Heap->Prop:=fun h=>∃ mA,h.Ns1 dx mA/\PySem.Within mA (fs.map (·.1))/\∀ f,RelO (fs.lookup f) (mA f)
noncomputable abbrev bmV:List Value:=[.type "ValueError",.type "Exception",.type "BaseException",.type "object"]
structure XC (K:Frag) (C D fI:Addr):Prop where
 obj:∃ nm q N bs sn sub ab col dd k0 k1 k2 k3 k5,K.lookup C=some (excClassObj nm q C N bs (.ref D::bmV) true sn sub ab col dd k0 k1 k2 k3 k5 "ValueError.__new__")
 tl:tailIn K bmV (.ref D::bmV)=true
 ini:findIn K (.ref C) "__init__" = some (some (.ref fI))
 fn:typeIn K (.ref fI)=some (.type "function")
 sa:findIn K (.ref C) "__setattr__" = some (some (.builtin "object.__setattr__"))
 ga:findIn K (.ref C) "__getattribute__" = some (some (.builtin "BaseException.__getattribute__"))
 gr:findIn K (.ref C) "__getattr__" = some none
structure KC (K:Frag) (C:Addr):Prop where
 ha:findIn K (.ref C) "__class__" = some (some (.builtin "object.__class__"))
 hn:specialIn K (.builtin "object.__class__") "__get__" = some (some (.builtin "getset_descriptor.__get__"))
 htk:takesIn K (.builtin "object.__class__")=some true
noncomputable def tyOk (T:String):Bool:=T == "bool" || T == "int" || T == "str" || T == "list" || T == "tuple" || T == "dict"
structure XQ (K:Frag) (C:Addr) (x:Str):Prop where
 ns:nsIn K mainGlobals x=some (some (.ref C))
 xc:∃ D fI,XC K C D fI
 kc:KC K C
 no:∀ T,tyOk T=true->kitOne K (.ref C) (.type T)=some false
def FX (F:Hp) (dd:Option Addr) (fv:List (Str×V)):Prop:=(dd=none/\fv=[])\/∃ dx,dd=some dx/\F dx=some (.ext (XD dx fv))
theorem FX.mono {F F':Hp} {dd:Option Addr} {fv:List (Str×V)} (e:Same F F') (h:FX F dd fv):FX F' dd fv:=h.imp id fun ⟨dx,h1,h2⟩=>⟨dx,h1,e _ _ h2⟩
end L4
namespace L3
open PySem PySem.Spec PyProof.Rows L2
noncomputable abbrev D:=PyData
noncomputable abbrev Fg:=PySem.W.Frag
noncomputable def keyD:Key->D
 | .inl i=>.int i
 | .inr x=>.str x
noncomputable def keyT (k:List Key):D:=.tuple (k.map keyD)
mutual
inductive Rep (K:Fg) (F:Hp):V->D->Prop
 | non:Rep K F .non .none
 | bl (b):Rep K F (.bl b) (.bool b)
 | int (i):Rep K F (.int i) (.int i)
 | str (x):Rep K F (.str x) (.str x)
 | tup {a vs ds}:F a=some (.tup vs)->RepL K F vs ds->Rep K F (.ref a) (.tuple ds)
 | lst {a vs ds}:SqL K F a vs->RepL K F vs ds->Rep K F (.ref a) (.list ds)
 | dct {a kvs es}:F a=some (.dT kvs)->es.map (·.1)=kvs.map (fun p=>keyT p.1)->RepL K F (kvs.map (·.2)) (es.map (·.2))->Rep K F (.ref a) (.dict es)
 | dck {a kvs es}:F a=some (.dK kvs)->es.map (·.1)=kvs.map (fun p=>keyD p.1)->RepL K F (kvs.map (·.2)) (es.map (·.2))->Rep K F (.ref a) (.dict es)
 | exc {a C dd cl fv es}:F a=some (.ext (L4.XO a C dd))->L4.XQ K C cl->L4.FX F dd fv->es.map (·.1)=fv.map (fun p=>.str p.1)->RepL K F (fv.map (·.2)) (es.map (·.2))->Rep K F (.ref a) (.dict ((.none,.str cl)::es))
 | fn {a f}:PySem.W.nsIn K mainGlobals f=some (some (.ref a))->Rep K F (.ref a) (.dict [(.bool true,.str f)])
inductive RepL (K:Fg) (F:Hp):List V->List D->Prop
 | nil:RepL K F [] []
 | cons {v d vs ds}:Rep K F v d->RepL K F vs ds->RepL K F (v::vs) (d::ds)
end
theorem zV_ {K:Fg} {F F':Hp} {a:Addr} {xs:List V} (e:Same F F') (h:SqT K F a xs):SqT K F' a xs:=by
 rcases h with (h|⟨o,h⟩)|h
 ·exact .inl (.inl (e _ _ h))
 ·exact .inl (.inr ⟨o,e _ _ h⟩)
 ·exact .inr h
theorem Rep.mono {K:Fg} {F F':Hp} (e:Same F F') {v:V} {d:D} (h:Rep K F v d):Rep K F' v d :=
 Rep.rec (motive_1:=fun v d _=>Rep K F' v d) (motive_2:=fun vs ds _=>RepL K F' vs ds) .non .bl .int .str (fun h _ r=>.tup (e _ _ h) r) (fun h _ r=>.lst (e.seq h) r) (fun h k _ r=>.dct (e _ _ h) k r) (fun h k _ r=>.dck (e _ _ h) k r) (fun h q f k _ r=>.exc (e _ _ h) q (f.mono e) k r) (fun h=>.fn h) .nil (fun _ _ a b=>.cons a b) h
theorem RepL.mono {K:Fg} {F F':Hp} (e:Same F F') {vs:List V} {ds:List D} (h:RepL K F vs ds):RepL K F' vs ds:=by
 induction vs generalizing ds with
 | nil=>cases h;exact .nil
 | cons v vs ih=>cases h with
  | cons a b=>exact .cons (a.mono e) (ih b)
noncomputable def repI (K:Fg) (F:Hp):D->V->Prop
 | .none,v=>v=.non
 | .bool b,v=>v=.bl b
 | .int i,v=>v=.int i
 | .str x,v=>v=.str x
 | .tuple ds,v=>∃ a vs,v=.ref a/\F a=some (.tup vs)/\RepL K F vs ds
 | .list ds,v=>∃ a vs,v=.ref a/\SqL K F a vs/\RepL K F vs ds
 | _,_=>True
theorem Rep.inv {K:Fg} {F:Hp} {v:V} {d:D} (h:Rep K F v d):repI K F d v :=
 Rep.casesOn (motive_1:=fun v d _=>repI K F d v) h rfl (fun _=>rfl) (fun _=>rfl) (fun _=>rfl) (fun h r=>⟨_,_,rfl,h,r⟩) (fun h r=>⟨_,_,rfl,h,r⟩) (fun _ _ _=>True.intro) (fun _ _ _=>True.intro) (fun _ _ _ _ _=>True.intro) (fun _=>True.intro)
theorem Rep.int_inv {K:Fg} {F:Hp} {v:V} {i:Int} (h:Rep K F v (.int i)):v=.int i:=h.inv
theorem Rep.bool_inv {K:Fg} {F:Hp} {v:V} {i:Bool} (h:Rep K F v (.bool i)):v=.bl i:=h.inv
theorem Rep.str_inv {K:Fg} {F:Hp} {v:V} {i:Str} (h:Rep K F v (.str i)):v=.str i:=h.inv
theorem Rep.tup_inv {K:Fg} {F:Hp} {v:V} {ds:List D} (h:Rep K F v (.tuple ds)):∃ a vs,v=.ref a/\F a=some (.tup vs)/\RepL K F vs ds:=h.inv
theorem Rep.lst_inv {K:Fg} {F:Hp} {v:V} {ds:List D} (h:Rep K F v (.list ds)):∃ a vs,v=.ref a/\SqL K F a vs/\RepL K F vs ds:=h.inv
noncomputable def zeF_ (K:Fg) (F:Hp):List D->List V->Prop
 | [],vs=>vs=[]
 | d::ds,vs=>∃ v us,vs=v::us/\Rep K F v d/\RepL K F us ds
theorem RepL.inv {K:Fg} {F:Hp} {vs:List V} {ds:List D} (h:RepL K F vs ds):zeF_ K F ds vs :=
 RepL.casesOn (motive_2:=fun vs ds _=>zeF_ K F ds vs) h rfl (fun a b=>⟨_,_,rfl,a,b⟩)
theorem RepL.one_inv {K:Fg} {F:Hp} {vs:List V} {d:D} (h:RepL K F vs [d]):∃ v,vs=[v]/\Rep K F v d:=by
 obtain ⟨v,us,rfl,a,b⟩:=(h.inv:∃ v us,vs=v::us/\Rep K F v d/\RepL K F us [])
 obtain rfl:us=[]:=b.inv
 exact ⟨v,rfl,a⟩
theorem RepL.two_inv {K:Fg} {F:Hp} {vs:List V} {d e:D} (h:RepL K F vs [d,e]):∃ v u,vs=[v,u]/\Rep K F v d/\Rep K F u e:=by
 obtain ⟨v,us,rfl,a,b⟩:=(h.inv:∃ v us,vs=v::us/\Rep K F v d/\RepL K F us [e])
 obtain ⟨u,rfl,c⟩:=b.one_inv
 exact ⟨v,u,rfl,a,c⟩
theorem RepL.length {K:Fg} {F:Hp}:∀ {vs ds},RepL K F vs ds->vs.length=ds.length
 | _,_,.nil=>rfl
 | _,_,.cons _ r=>by simp [RepL.length r]
theorem RepL.get {K:Fg} {F:Hp}:∀ {vs ds} {i:Nat} {d:D},RepL K F vs ds->ds[i]? = some d->∃ v,vs[i]? = some v/\Rep K F v d
 | _,_,_,_,.nil,e=>by simp at e
 | _,_,0,_,.cons h _,e=>by simp at e;subst e;exact ⟨_,rfl,h⟩
 | _,_,i+1,d,.cons _ r,e=>by
  obtain ⟨v,h1,h2⟩:=RepL.get (i:=i) (d:=d) r (by simpa using e)
  exact ⟨v,by simpa using h1,h2⟩
theorem RepL.append {K:Fg} {F:Hp} {vs:List V} {ds:List D} {us:List V} {es:List D} (h:RepL K F vs ds) (s:RepL K F us es):RepL K F (vs++us) (ds++es):=by
 induction vs generalizing ds with
 | nil=>cases h;exact s
 | cons v vs ih=>cases h with
  | cons a b=>exact .cons a (ih b)
theorem RepL.take {K:Fg} {F:Hp}:∀ {vs ds} (n:Nat),RepL K F vs ds->RepL K F (vs.take n) (ds.take n)
 | _,_,0,_=>.nil
 | _,_,_+1,.nil=>.nil
 | _,_,n+1,.cons h r=>.cons h (RepL.take n r)
theorem RepL.drop {K:Fg} {F:Hp}:∀ {vs ds} (n:Nat),RepL K F vs ds->RepL K F (vs.drop n) (ds.drop n)
 | _,_,0,r=>r
 | _,_,_+1,.nil=>.nil
 | _,_,n+1,.cons _ r=>RepL.drop n r
theorem RepL.set {K:Fg} {F:Hp} {v:V} {d:D} (h:Rep K F v d):∀ {vs ds} (i:Nat),RepL K F vs ds->RepL K F (vs.set i v) (ds.set i d)
 | _,_,_,.nil=>.nil
 | _,_,0,.cons _ r=>.cons h r
 | _,_,i+1,.cons q r=>.cons q (RepL.set h i r)
theorem RepL.ints {K:Fg} {F:Hp}:∀ (ns:List Int),RepL K F (ns.map V.int) (ns.map PyData.int)
 | []=>.nil
 | n::r=>.cons (.int n) (RepL.ints r)
section
variable {X:Cx} {pins:List (Addr×Obj)} {σ:L2.St} {H:Hp} {s:Shared}
theorem Uw_ {u:List Value} (r:Vals [] u):∃ as,ReadsAll s.heap u [] as:=by cases r;exact ⟨_,.nil⟩
theorem Jb_ {v:V} {d:D} {vs:List V} {ds:List D} (h:d.canLay0=true->∀ {u},RelV v u->∃ as,Reads s.heap u d as) (t:PyData.canLayAll0 ds=true->∀ {us},Vals vs us->∃ as,ReadsAll s.heap us ds as) (c:PyData.canLayAll0 (d::ds)=true) {us:List Value} (r:Vals (v::vs) us):∃ as,ReadsAll s.heap us (d::ds) as:=by
 simp only [PyData.canLayAll0,Bool.and_eq_true] at c
 cases r with
 | cons r rr =>
  obtain ⟨as,ra⟩:=h c.1 r
  obtain ⟨bs,rb⟩:=t c.2 rr
  exact ⟨_,.cons ra rb⟩
theorem VS_ (I:Inv X pins σ H s) {a:Addr} {vs:List V} {ds:List D} (hq:H a=some (.tup vs)) (ih:PyData.canLayAll0 ds=true->∀ {us},Vals vs us->∃ as,ReadsAll s.heap us ds as) (c:(PyData.tuple ds).canLay0=true) {u:Value} (r:RelV (.ref a) u):∃ as,Reads s.heap u (.tuple ds) as:=by
 cases r
 obtain ⟨its,rv,⟨o,e1,e2,n',e3⟩,hz⟩:=I.tuple (SqT.of hq)
 obtain ⟨as,ra⟩:=ih (by simpa [PyData.canLay0] using c) rv
 exact ⟨_,.tuple e1 e2 e3 (by simpa using ra)⟩
theorem VT_ (I:Inv X pins σ H s) {a:Addr} {vs:List V} {ds:List D} (hq:SqL X.K H a vs) (ih:PyData.canLayAll0 ds=true->∀ {us},Vals vs us->∃ as,ReadsAll s.heap us ds as) (c:(PyData.list ds).canLay0=true) {u:Value} (r:RelV (.ref a) u):∃ as,Reads s.heap u (.list ds) as:=by
 cases r
 obtain ⟨its,rv,⟨o,n',e1,e2,e3,e4⟩,hz⟩:=I.list hq
 obtain ⟨as,ra⟩:=ih (by simpa [PyData.canLay0] using c) rv
 exact ⟨_,.list e1 e2 e4 (by simpa using ra)⟩
theorem yo_ {es:List (D×D)} {P:Prop} (c:(PyData.dict es).canLay0=true):P:=by simp [PyData.canLay0] at c
theorem zbB_ (I:Inv X pins σ H s) {v:V} {d:D} (h:Rep X.K H v d):d.canLay0=true->∀ {u},RelV v u->∃ as,Reads s.heap u d as :=
 Rep.rec (motive_1:=fun v d _=>d.canLay0=true->∀ {u},RelV v u->∃ as,Reads s.heap u d as) (motive_2:=fun vs ds _=>PyData.canLayAll0 ds=true->∀ {us},Vals vs us->∃ as,ReadsAll s.heap us ds as)
  (fun _ {_} r=>by cases r;exact ⟨_,.none⟩) (fun b _ {_} r=>by cases r;exact ⟨_,.bool b⟩) (fun i _ {_} r=>by obtain ⟨t,rfl⟩:=r;exact ⟨_,.int i t⟩) (fun x _ {_} r=>by obtain ⟨t,rfl⟩:=r;exact ⟨_,.str x t⟩)
  (fun hq _ ih=>VS_ I hq ih) (fun hq _ ih=>VT_ I hq ih) (fun _ _ _ _ c=>yo_ c) (fun _ _ _ _ c=>yo_ c) (fun _ _ _ _ _ _ c=>yo_ c) (fun _ c=>yo_ c)
  (fun _ {_} r=>Uw_ r) (fun _ _ a b=>Jb_ a b) h
theorem zeG_ (I:Inv X pins σ H s) {vs:List V} {ds:List D} (h:RepL X.K H vs ds):PyData.canLayAll0 ds=true->∀ {us},Vals vs us->∃ as,ReadsAll s.heap us ds as:=by
 induction vs generalizing ds with
 | nil=>cases h;exact fun _ _ r=>Uw_ r
 | cons v vs ih=>cases h with
  | cons a b=>exact Jb_ (zbB_ I a) (ih b)
end
theorem z8_ {X:Cx} {pins:List (Addr×Obj)} {σ:L2.St} {H:Hp} {s:Shared} (I:Inv X pins σ H s) :
  (∀ {v d},Rep X.K H v d->d.canLay0=true->∀ {u},RelV v u->∃ as,Reads s.heap u d as)/\(∀ {vs ds},RepL X.K H vs ds->PyData.canLayAll0 ds=true->∀ {us},Vals vs us->∃ as,ReadsAll s.heap us ds as) :=
 ⟨fun {v d} h c {u} r=>zbB_ I h c r,fun {vs ds} h c {us} r=>zeG_ I h c r⟩
noncomputable def isXe:List (D×D)->Bool
 | (.none,_)::_=>true
 | (.bool _,_)::_=>true
 | _=>false
inductive OC where
 | l (ds:List D)
 | t (es:List (D×D))
 | k (es:List (D×D))
inductive AV where
 | fz (d:D)
 | ol (c:OC)
 | op (c:OC)
noncomputable abbrev En:=List (Option AV)
inductive RV where
 | fz (d:D)
 | fr (c:OC)
 | bor (i:Nat)
noncomputable def NoTE:HO->Prop
 | .tup _=>False
 | .ext _=>False
 | _=>True
structure Gh where
 P:Nat->Option Addr
 O:Hp
 B:Hp
noncomputable def Held (K:Fg) (F H:Hp) (a:Addr):OC->Prop
 | .l ds=>∃ vs,H a=some (.lst vs)/\RepL K F vs ds
 | .t es=>∃ kvs,H a=some (.dT kvs)/\es.map (·.1)=kvs.map (fun p=>keyT p.1)/\RepL K F (kvs.map (·.2)) (es.map (·.2))
 | .k es=>∃ kvs,H a=some (.dK kvs)/\es.map (·.1)=kvs.map (fun p=>keyD p.1)/\RepL K F (kvs.map (·.2)) (es.map (·.2))
structure OwnAt (K:Fg) (G:Gh) (F H:Hp) (a:Addr) (c:OC):Prop where
 nf:F a=none
 no:G.O a=none
 he:Held K F H a c
def own (ρ:En) (i:Nat) (c:OC):Prop:=ρ[i]? = some (some (.ol c))\/ρ[i]? = some (some (.op c))
structure StOk (K:Fg) (G:Gh) (F:Hp) (σ:L2.St) (H:Hp) (ρ:En):Prop where
 fh:Same F H
 oh:Same G.O H
 fo:∀ b o,G.O b=some o->F b=none/\NoTE o
 ln:σ.length=ρ.length
 fz:∀ (i:Nat) (d:D),ρ[i]? = some (some (AV.fz d))->∃ v,σ[i]? = some (some v)/\Rep K F v d
 ow:∀ (i:Nat) (c:OC),own ρ i c->∃ a:Addr,σ[i]? = some (some (V.ref a))/\OwnAt K G F H a c
 dj:∀ (i j:Nat) (c e:OC) (a:Addr),own ρ i c->own ρ j e->σ[i]? = some (some (V.ref a))->σ[j]? = some (some (V.ref a))->i=j
 pp:∀ (i:Nat) (a:Addr),G.P i=some a->σ[i]? = some (some (V.ref a))/\∃ c,ρ[i]? = some (some (AV.op c))
 pq:∀ (i:Nat) (c:OC),ρ[i]? = some (some (AV.op c))->∃ a,G.P i=some a
 fb:Same G.B F
noncomputable def RVR (K:Fg) (G:Gh) (F:Hp) (σ:L2.St) (H:Hp) (ρ:En) (v:V):RV->Prop
 | .fz d=>Rep K F v d
 | .fr c=>∃ a,v=.ref a/\OwnAt K G F H a c/\∀ (i:Nat) (e:OC),own ρ i e->σ[i]? ≠ some (some (V.ref a))
 | .bor i=>∃ c,own ρ i c/\σ[i]? = some (some v)
theorem Held.mono {K:Fg} {F F' H:Hp} {a:Addr} {c:OC} (e:Same F F') (h:Held K F H a c):Held K F' H a c:=by
 cases c with
 | l ds=>obtain ⟨vs,h1,h2⟩:=h;exact ⟨vs,h1,h2.mono e⟩
 | t es=>obtain ⟨vs,h1,h2,h3⟩:=h;exact ⟨vs,h1,h2,h3.mono e⟩
 | k es=>obtain ⟨vs,h1,h2,h3⟩:=h;exact ⟨vs,h1,h2,h3.mono e⟩
theorem Held.some {K:Fg} {F H:Hp} {a:Addr} {c:OC} (h:Held K F H a c):∃ o,H a=some o:=by
 cases c with
 | l ds=>obtain ⟨vs,h1,h2⟩:=h;exact ⟨_,h1⟩
 | t es=>obtain ⟨vs,h1,h2⟩:=h;exact ⟨_,h1⟩
 | k es=>obtain ⟨vs,h1,h2⟩:=h;exact ⟨_,h1⟩
theorem Held.at {K:Fg} {F H H':Hp} {a:Addr} {c:OC} (h:Held K F H a c) (e:H' a=H a):Held K F H' a c:=by
 cases c with
 | l ds=>obtain ⟨vs,h1,h2⟩:=h;exact ⟨vs,e.trans h1,h2⟩
 | t es=>obtain ⟨vs,h1,h2⟩:=h;exact ⟨vs,e.trans h1,h2⟩
 | k es=>obtain ⟨vs,h1,h2⟩:=h;exact ⟨vs,e.trans h1,h2⟩
theorem ji_ {F:Hp} {p:Addr} {o:HO} (h:F p=none):Same F (upd F p o):=fun b u e=>by
 rw [zf_ (zl_ e h)]
 exact e
theorem j0_ {F H:Hp} {p:Addr} {o:HO} (s:Same F H) (h:F p=none):Same F (upd H p o):=fun b u e=>by
 rw [zf_ (zl_ e h)]
 exact s b u e
section
variable {K:Fg} {G:Gh} {F H:Hp} {σ:L2.St} {ρ:En}
theorem StOk.lay (S:StOk K G F σ H ρ) {p:Addr} {o:HO} (hp:H p=none):StOk K G F σ (upd H p o) ρ:=by
 have fp:F p=none:=S.fh.free hp
 have op:G.O p=none:=S.oh.free hp
 refine ⟨j0_ S.fh fp,j0_ S.oh op,S.fo,S.ln,S.fz,fun i c h=>?_,S.dj,S.pp,S.pq,S.fb⟩
 obtain ⟨a,e,oa⟩:=S.ow i c h
 refine ⟨a,e,oa.nf,oa.no,oa.he.at ?_⟩
 obtain ⟨u,hu⟩:=oa.he.some
 exact zf_ (zl_ hu hp)
theorem StOk.fresh_ne (S:StOk K G F σ H ρ) {p:Addr} (hp:H p=none):∀ (i:Nat) (e:OC),own ρ i e->σ[i]? ≠ some (some (V.ref p)):=fun i e h q=>by
 obtain ⟨a,e1,oa⟩:=S.ow i e h
 rw [e1] at q
 injection q with q;injection q with q;injection q with q
 subst q
 obtain ⟨u,hu⟩:=oa.he.some
 rw [hp] at hu;cases hu
theorem StOk.freeze (S:StOk K G F σ H ρ) {a:Addr} {o:HO} (ha:H a=some o) (fa:F a=none) (oa:G.O a=none) (ne:∀ (i:Nat) (e:OC),own ρ i e->σ[i]? ≠ some (some (V.ref a))):StOk K G (upd F a o) σ H ρ:=by
 have sm:Same F (upd F a o):=ji_ fa
 refine ⟨fun b u e=>?_,S.oh,fun b u e=>?_,S.ln,fun i d h=>?_,fun i c h=>?_,S.dj,S.pp,S.pq,S.fb.trans sm⟩
 ·by_cases hb:b=a
  ·subst hb;rw [zi_] at e;cases e;exact ha
  ·rw [zf_ hb] at e;exact S.fh b u e
 ·rw [zf_ (zl_ e oa)];exact S.fo b u e
 ·obtain ⟨v,e,r⟩:=S.fz i d h;exact ⟨v,e,r.mono sm⟩
 ·obtain ⟨b,e,ob⟩:=S.ow i c h
  refine ⟨b,e,?_,ob.no,ob.he.mono sm⟩
  rw [zf_ (fun z=>ne i c h (by rw [e,z]))]
  exact ob.nf
theorem StOk.newTup (S:StOk K G F σ H ρ) {p:Addr} {vs:List V} {ds:List D} (hp:H p=none) (r:RepL K F vs ds) :
  Same F (upd F p (.tup vs))/\StOk K G (upd F p (.tup vs)) σ (upd H p (.tup vs)) ρ/\Rep K (upd F p (.tup vs)) (.ref p) (.tuple ds):=by
 have fp:F p=none:=S.fh.free hp
 refine ⟨ji_ fp,(S.lay hp).freeze zi_ fp (S.oh.free hp) (S.fresh_ne hp),?_⟩
 exact .tup zi_ (r.mono (ji_ fp))
theorem StOk.newLst (S:StOk K G F σ H ρ) {p:Addr} {vs:List V} {ds:List D} (hp:H p=none) (r:RepL K F vs ds) :
  StOk K G F σ (upd H p (.lst vs)) ρ/\RVR K G F σ (upd H p (.lst vs)) ρ (.ref p) (.fr (.l ds)) :=
 ⟨S.lay hp,p,rfl,⟨S.fh.free hp,S.oh.free hp,vs,zi_,r⟩,S.fresh_ne hp⟩
theorem StOk.settle (S:StOk K G F σ H ρ) {v:V} {ds:List D} (r:RVR K G F σ H ρ v (.fr (.l ds))) :
  ∃ F',Same F F'/\StOk K G F' σ H ρ/\Rep K F' v (.list ds):=by
 obtain ⟨a,rfl,oa,ne⟩:=r
 obtain ⟨vs,h1,h2⟩:=oa.he
 exact ⟨upd F a (.lst vs),ji_ oa.nf,S.freeze h1 oa.nf oa.no ne,.lst (.inl (.inl zi_)) (h2.mono (ji_ oa.nf))⟩
theorem ZN_ {α:Type} (l:List α) (i:Nat) (x y:α) (h:l[i]? = some y):(l.set i x)[i]? = some x:=by
 rw [List.getElem?_set_self (List.getElem?_eq_some_iff.mp h).1]
noncomputable def OC.d:OC->D
 | .l ds=>.list ds
 | .t es=>.dict es
 | .k es=>.dict es
theorem WV_ {a:Addr} {c:OC} (h:Held K F H a c):∃ o,H a=some o/\∀ F',Same F F'->F' a=some o->Rep K F' (.ref a) c.d:=by
 cases c with
 | l ds=>obtain ⟨vs,h1,h2⟩:=h;exact ⟨_,h1,fun F' s e=>.lst (.inl (.inl e)) (h2.mono s)⟩
 | t es=>obtain ⟨vs,h1,h2,h3⟩:=h;exact ⟨_,h1,fun F' s e=>.dct e h2 (h3.mono s)⟩
 | k es=>obtain ⟨vs,h1,h2,h3⟩:=h;exact ⟨_,h1,fun F' s e=>.dck e h2 (h3.mono s)⟩
theorem StOk.settleC (S:StOk K G F σ H ρ) {i:Nat} {oc:OC} (hi:ρ[i]? = some (some (.ol oc))) {v:V} (hv:σ[i]? = some (some v)) :
  ∃ F',Same F F'/\StOk K G F' σ H (ρ.set i (some (.fz oc.d)))/\Rep K F' v oc.d:=by
 obtain ⟨a,e,oa⟩:=S.ow i _ (.inl hi)
 rw [hv] at e
 injection e with e;injection e with e
 subst e
 obtain ⟨vo,h1,hrep⟩:=WV_ oa.he
 have sm:Same F (upd F a vo):=ji_ oa.nf
 have rp:Rep K (upd F a vo) (.ref a) oc.d:=hrep _ sm zi_
 have ne:∀ j,j≠i->(ρ.set i (some (.fz oc.d)))[j]? = ρ[j]?:=fun j hj=>List.getElem?_set_ne (Ne.symm hj)
 have at_i:(ρ.set i (some (.fz oc.d)))[i]? = some (some (.fz oc.d)):=ZN_ _ _ _ _ hi
 have ownj:∀ j c,own (ρ.set i (some (.fz oc.d))) j c->j≠i/\own ρ j c:=fun j c h=>by
  have hj:j≠i:=by
   rintro rfl
   rcases h with h|h<;>(rw [at_i] at h;cases h)
  refine ⟨hj,?_⟩
  rcases h with h|h
  ·exact .inl (by rw [<-ne j hj];exact h)
  ·exact .inr (by rw [<-ne j hj];exact h)
 refine ⟨upd F a vo,sm,⟨fun b u e=>?_,S.oh,fun b u e=>?_,by simpa using S.ln,fun j d h=>?_,fun j c h=>?_,fun j k c e b h1 h2=>S.dj j k c e b (ownj j c h1).2 (ownj k e h2).2,fun j b h=>?_,fun j c h=>?_,S.fb.trans sm⟩,rp⟩
 ·by_cases hb:b=a
  ·subst hb;rw [zi_] at e;cases e;exact h1
  ·rw [zf_ hb] at e;exact S.fh b u e
 ·rw [zf_ (zl_ e oa.no)];exact S.fo b u e
 ·by_cases hj:j=i
  ·subst hj
   rw [at_i] at h
   cases h
   exact ⟨_,hv,rp⟩
  ·rw [ne j hj] at h
   obtain ⟨w,e,r⟩:=S.fz j d h
   exact ⟨w,e,r.mono sm⟩
 ·obtain ⟨hj,h'⟩:=ownj j c h
  obtain ⟨b,e,ob⟩:=S.ow j c h'
  refine ⟨b,e,?_,ob.no,ob.he.mono sm⟩
  rw [zf_ (fun z=>hj (S.dj j i _ _ a h' (.inl hi) (by rw [e,z]) hv))]
  exact ob.nf
 ·obtain ⟨q,c,q'⟩:=S.pp j b h
  refine ⟨q,c,?_⟩
  have hj:j≠i:=by rintro rfl;rw [hi] at q';cases q'
  rw [ne j hj];exact q'
 ·have hj:j≠i:=by rintro rfl;rw [at_i] at h;cases h
  rw [ne j hj] at h
  exact S.pq j c h
theorem StOk.store (S:StOk K G F σ H ρ) {j:Nat} {v:V} {av:AV} (hj:∀ c,ρ[j]? ≠ some (some (.op c))) (hl:j<ρ.length)
  (h:(∃ d,av=.fz d/\Rep K F v d)\/∃ c,av=.ol c/\RVR K G F σ H ρ v (.fr c)):StOk K G F (σ.set j (some v)) H (ρ.set j (some av)):=by
 have hls:j<σ.length:=by rw [S.ln];exact hl
 have ne:∀ i,i≠j->(ρ.set j (some av))[i]? = ρ[i]?:=fun i hi=>List.getElem?_set_ne (Ne.symm hi)
 have nes:∀ i,i≠j->(σ.set j (some v))[i]? = σ[i]?:=fun i hi=>List.getElem?_set_ne (Ne.symm hi)
 have atj:(ρ.set j (some av))[j]? = some (some av):=List.getElem?_set_self hl
 have atjs:(σ.set j (some v))[j]? = some (some v):=List.getElem?_set_self hls
 have owni:∀ i c,i≠j->own (ρ.set j (some av)) i c->own ρ i c:=fun i c hi h=>by
  unfold own at h ⊢
  rw [ne i hi] at h
  exact h
 refine ⟨S.fh,S.oh,S.fo,by simpa using S.ln,fun i d q=>?_,fun i c q=>?_,fun i k c e a q1 q2 e1 e2=>?_,fun i a q=>?_,fun i c q=>?_,S.fb⟩
 ·by_cases hi:i=j
  ·subst hi
   rw [atj] at q
   rcases h with ⟨d',rfl,r⟩|⟨c,rfl,_⟩
   ·cases q;exact ⟨v,atjs,r⟩
   ·cases q
  ·rw [ne i hi] at q
   obtain ⟨w,e,r⟩:=S.fz i d q
   exact ⟨w,by rw [nes i hi];exact e,r⟩
 ·by_cases hi:i=j
  ·subst hi
   rcases h with ⟨d',rfl,r⟩|⟨c',rfl,a,rfl,oa,_⟩
   ·rcases q with q|q<;>(rw [atj] at q;cases q)
   ·rcases q with q|q
    ·rw [atj] at q;cases q;exact ⟨a,atjs,oa⟩
    ·rw [atj] at q;cases q
  ·obtain ⟨a,e,oa⟩:=S.ow i c (owni i c hi q)
   exact ⟨a,by rw [nes i hi];exact e,oa⟩
 ·by_cases hi:i=j
  ·by_cases hk:k=j
   ·rw [hi,hk]
   ·exfalso
    subst hi
    rw [nes k hk] at e2
    rw [atjs] at e1
    injection e1 with e1;injection e1 with e1
    subst e1
    rcases h with ⟨d',rfl,r⟩|⟨c',rfl,a',e,oa,nn⟩
    ·rcases q1 with q|q<;>(rw [atj] at q;cases q)
    ·injection e with e;subst e
     exact nn k _ (owni k _ hk q2) e2
  ·by_cases hk:k=j
   ·exfalso
    subst hk
    rw [nes i hi] at e1
    rw [atjs] at e2
    injection e2 with e2;injection e2 with e2
    subst e2
    rcases h with ⟨d',rfl,r⟩|⟨c',rfl,a',e,oa,nn⟩
    ·rcases q2 with q|q<;>(rw [atj] at q;cases q)
    ·injection e with e;subst e
     exact nn i _ (owni i _ hi q1) e1
   ·rw [nes i hi] at e1
    rw [nes k hk] at e2
    exact S.dj i k _ _ a (owni i _ hi q1) (owni k _ hk q2) e1 e2
 ·obtain ⟨q1,c,q2⟩:=S.pp i a q
  have hi:i≠j:=by rintro rfl;exact hj c q2
  exact ⟨by rw [nes i hi];exact q1,c,by rw [ne i hi];exact q2⟩
 ·have hi:i≠j:=by
   rintro rfl
   rw [atj] at q
   rcases h with ⟨d',rfl,r⟩|⟨c',rfl,_⟩<;>cases q
  rw [ne i hi] at q
  exact S.pq i c q
theorem StOk.change (S:StOk K G F σ H ρ) {j:Nat} {a:Addr} {c c':OC} {o:HO} (hj:own ρ j c) (ha:σ[j]? = some (some (.ref a))) (hh:Held K F (upd H a o) a c') :
  StOk K G F σ (upd H a o) (ρ.set j ((ρ[j]?.join).map fun | .op _=>.op c'|_=>.ol c')):=by
 obtain ⟨b,e,ob⟩:=S.ow j c hj
 rw [ha] at e
 injection e with e;injection e with e;injection e with e
 subst e
 have hl:j<ρ.length:=by rcases hj with h|h<;>exact (List.getElem?_eq_some_iff.mp h).1
 generalize hav:((ρ[j]?.join).map fun (x:AV)=>match x with | .op _=>AV.op c'|_=>AV.ol c')=av
 have ne:∀ i,i≠j->(ρ.set j av)[i]? = ρ[i]?:=fun i hi=>List.getElem?_set_ne (Ne.symm hi)
 have atj:(ρ.set j av)[j]? = some av:=List.getElem?_set_self hl
 have owni:∀ i e,i≠j->own (ρ.set j av) i e->own ρ i e:=fun i c hi h=>by
  unfold own at h ⊢
  rw [ne i hi] at h
  exact h
 have kind:(ρ[j]? = some (some (.ol c))/\av=some (.ol c'))\/(ρ[j]? = some (some (.op c))/\av=some (.op c')):=by
  rcases hj with h|h
  ·exact .inl ⟨h,by rw [<-hav,h];rfl⟩
  ·exact .inr ⟨h,by rw [<-hav,h];rfl⟩
 have ownj:∀ e,own (ρ.set j av) j e->e=c':=fun e h=>by
  unfold own at h
  rw [atj] at h
  rcases kind with ⟨_,k⟩|⟨_,k⟩<;>rw [k] at h<;>rcases h with h|h<;>cases h<;>rfl
 refine ⟨j0_ S.fh ob.nf,j0_ S.oh ob.no,S.fo,by simpa using S.ln,fun i d q=>?_,fun i e q=>?_,fun i k c1 e1 b q1 q2=>?_,fun i b q=>?_,fun i e q=>?_,S.fb⟩
 ·by_cases hi:i=j
  ·subst hi
   rw [atj] at q
   rcases kind with ⟨_,k⟩|⟨_,k⟩<;>rw [k] at q<;>cases q
  ·rw [ne i hi] at q;exact S.fz i d q
 ·by_cases hi:i=j
  ·subst hi
   have:=ownj e q
   subst this
   exact ⟨a,ha,ob.nf,ob.no,hh⟩
  ·have q':=owni i e hi q
   obtain ⟨b',e',ob'⟩:=S.ow i e q'
   refine ⟨b',e',ob'.nf,ob'.no,ob'.he.at (zf_ fun z=>hi (S.dj i j _ _ a q' hj (by rw [e',z]) ha))⟩
 ·have o1:∃ e,own ρ i e:=by
   by_cases hi:i=j
   ·exact ⟨c,hi▸hj⟩
   ·exact ⟨_,owni i _ hi q1⟩
  have o2:∃ e,own ρ k e:=by
   by_cases hk:k=j
   ·exact ⟨c,hk▸hj⟩
   ·exact ⟨_,owni k _ hk q2⟩
  exact S.dj i k _ _ b o1.choose_spec o2.choose_spec
 ·obtain ⟨q1,e,q2⟩:=S.pp i b q
  refine ⟨q1,?_⟩
  by_cases hi:i=j
  ·subst hi
   rcases kind with ⟨k1,k⟩|⟨k1,k⟩
   ·rw [k1] at q2;cases q2
   ·exact ⟨c',by rw [atj,k]⟩
  ·exact ⟨e,by rw [ne i hi];exact q2⟩
 ·by_cases hi:i=j
  ·subst hi
   rcases kind with ⟨k1,k⟩|⟨k1,k⟩
   ·rw [atj,k] at q;cases q
   ·exact S.pq i c k1
  ·rw [ne i hi] at q;exact S.pq i e q
end
end L3
namespace L4
open PySem PySem.Spec PyProof.Rows L2 L3
def TbOf (h:Heap) (e b:Addr):Prop:=∃ oe vs,h.get? e=some oe/\oe.data=.fields vs/\vs[1]? = some (.ref b)
structure Ent (fs:List Addr) (h h':Heap) (e T:Addr) (oe:Obj) (ts:Array Value):Prop where
 keep:∀ b o,h.get? b=some o->b∉fs->b≠e->h'.get? b=some o
 slot:∀ b o,h.get? b=some o->b≠e->∃ sl,h'.get? b=some { o with slots:=sl }
 new:h.objs.size<=T
 exc:h'.get? e=some (oe.mapFields (·.setIfInBounds 1 (.ref T)))
 way:∃ oT,h'.get? T=some oT/\oT.data=.fields ts
section
variable {M:Model} {A:Around} {E:Value->Shared->Prop} {s:Shared} {base:Heap} {env:Env} {outer:List Env} {L e:Addr} {oe:Obj} {vs:Array Value}
theorem Js_ {top:Value} {nx:Bool} {Q:Unit->Shared->Prop} (hA:A.frames=some (env::outer)) (hF:s.heap.FunFrames base (env::outer)) (hL:env.frame=some L)
  (he:s.heap.get? e=some oe) (hd:oe.data=.fields vs) (hz:1<vs.size)
  (k:∀ h' T ts,Ent (frs (env::outer)) s.heap h' e T oe ts->3<ts.size->ts[3]? = some (rawInt L)->Q () { s with heap:=h' }) :
  wpAny M A (do let a <-frameOf env;let pl <-entryPlaceOf L nx;let b <-EntryCells.newEntry top a .none (rawInt L) .none pl;setField (.ref e) 1 b) Q E s:=by
 have ne:e∉frs (env::outer):=fun z=>by
  obtain ⟨_,o,q,r⟩:=hF.mem z
  rw [he] at q;cases q
  exact r vs hd
 refine wpAny_bind (wpAny_frameOf_fun hA hF hL fun h1 so=>wpAny_bind (wpAny_entryPlaceOf fun pl ip=>?_))
 simp only [EntryCells.newEntry,newFields]
 refine wpAny_bind (wpAny_newObj_type ?_ (ip.sizeOk5 _ _ _ _ _))
 generalize hts:([top,.ref L,.none,rawInt L,.none]++(if pl.isEmpty then List.replicate 6 Value.none else pl)).toArray=ts
 have z3:3<ts.size:=by
  rw [<-hts,List.size_toArray,List.length_append]
  simp only [List.length_cons,List.length_nil]
  lia
 have g3:ts[3]? = some (rawInt L):=by rw [<-hts];simp
 generalize htb:({ cls:=.type "traceback",dict:=none,data:=.fields ts }:Obj)=tb
 have fr:tb.isFreed=false:=by rw [<-htb];rfl
 have e1:h1.get? e=some oe:=by rw [so.2.1 e ne];exact he
 have lt:e<h1.objs.size:=Heap.lt_size e1
 refine wpAny_setField (Heap.get?_push_of_some tb e1) hd hz ?_
 have hd':=Obj.data_mapFields hd (·.setIfInBounds 1 (Value.ref h1.objs.size))
 have up:∀ b,b≠e->((h1.push tb).update e (Obj.mapFields (·.setIfInBounds 1 (.ref h1.objs.size)))).get? b=(h1.push tb).get? b:=fun b hb=>Heap.get?_update_other _ _ (Ne.symm hb)
 refine k _ h1.objs.size ts ⟨fun b o q nf nb=>?_,fun b o q nb=>?_,by rw [so.1];exact Nat.le_refl _,?_,⟨tb,?_,?_⟩⟩ z3 g3
 ·exact (up b nb).trans (Heap.get?_push_of_some _ ((so.2.1 b nf).trans q))
 ·obtain ⟨sl,q'⟩:=so.2.2 b o q
  exact ⟨sl,(up b nb).trans (Heap.get?_push_of_some _ q')⟩
 ·exact Heap.get?_update_self _ (Heap.get?_push_of_some tb e1) (Obj.isFreed_of_fields hd')
 ·exact (up _ (Nat.ne_of_gt lt)).trans (Heap.get?_push_size h1 fr)
 ·rw [<-htb]
end
structure XS (H:Hp) (h:Heap) (lo:Nat) (e C:Addr) (dd:Option Addr):Prop where
 yg:lo<=e
 trk:H e=some (.ext (XO e C dd))
 obj:∃ oe vs,h.get? e=some oe/\oe.cls=.ref C/\oe.dict=dd/\oe.data=.fields vs/\1<vs.size /\
  (vs[1]? = some .none\/∃ T oT ts,vs[1]? = some (.ref T)/\T≠e/\lo<=T/\H T=none/\h.get? T=some oT/\oT.data=.fields ts/\ts[3]? = some .none)
structure Mv (fs:List Addr) (h h':Heap) (e:Addr):Prop where
 keep:∀ b o,h.get? b=some o->b∉fs->b≠e->¬ TbOf h e b->h'.get? b=some o
 slot:∀ b o,h.get? b=some o->b≠e->¬ TbOf h e b->∃ sl,h'.get? b=some { o with slots:=sl }
 there:∀ b o,h.get? b=some o->∃ o',h'.get? b=some o'
theorem Xe_ (f:Array Value->Array Value) (o:Obj):(o.mapFields f).dict=o.dict:=by
 obtain ⟨c,d,dt,sl⟩:=o
 cases dt<;>rfl
theorem zhk_ {L:Addr}:¬ ((Value.none==rawInt L)=true):=by simp [rawInt]
section
variable {M:Model} {A:Around} {E:Value->Shared->Prop} {s:Shared} {base:Heap} {env:Env} {outer:List Env} {L e C:Addr} {dd:Option Addr} {H:Hp} {lo:Nat} {P:Program} {w:World}
theorem Jr_ {oe:Obj} {vs:Array Value} {h0:Heap} {T:Addr} {ts:Array Value} {Q:Unit->Shared->Prop} (en:Ent (frs (env::outer)) h0 s.heap e T oe ts) (hd:oe.data=.fields vs) (hz:1<vs.size) (z3:3<ts.size) (hh:e<h0.objs.size)
  (k:∀ h',(∀ b,b≠T->h'.get? b=s.heap.get? b)->(∃ oT tz,h'.get? T=some oT/\oT.data=.fields tz/\tz[3]? = some .none)->Q () { s with heap:=h' }):wpAny M A (setFlight (.ref e) none) Q E s:=by
 obtain ⟨oT,q1,q2⟩:=en.way
 have d':=Obj.data_mapFields hd (·.setIfInBounds 1 (Value.ref T))
 simp only [setFlight]
 refine wpAny_bind (wpAny_field en.exc d' (x:=.ref T) (by simp [hz]) ?_)
 rw [if_pos (by simp)]
 refine wpAny_setField q1 q2 z3 (k _ (fun b hb=>Heap.get?_update_other _ _ (Ne.symm hb)) ⟨_,_,Heap.get?_update_self _ q1 (Obj.isFreed_of_fields (Obj.data_mapFields q2 _)),Obj.data_mapFields q2 _,by simp [z3]⟩)
theorem Ql_ {Q:Unit->Shared->Prop} (hA:A.frames=some (env::outer)) (hF:s.heap.FunFrames base (env::outer)) (hL:env.frame=some L) (hk:HOk P w H s.heap) (xs:XS H s.heap lo e C dd)
  (k:∀ h',Mv (frs (env::outer)) s.heap h' e->XS H h' lo e C dd->(∀ b,TbOf h' e b->s.heap.objs.size<=b)->Q () { s with heap:=h' }) :
  wpAny M A (noteFrame (.ref e) env) (fun _ s2=>wpAny M A (setFlight (.ref e) none) Q E s2) E s:=by
 obtain ⟨oe,vs,he,hc,hdd,hd,hz,tb⟩:=xs.obj
 have elt:e<s.heap.objs.size:=Heap.lt_size he
 have hlo:lo<=s.heap.objs.size:=Nat.le_trans xs.yg (Nat.le_of_lt elt)
 simp only [noteFrame,hL]
 rcases tb with tb|⟨T,oT,ts,tb,hTe,hTl,hTn,hT,hTd,t3⟩
 ·refine wpAny_bind (wpAny_field he hd tb ?_)
  rw [if_neg (by decide)]
  refine Js_ hA hF hL he hd hz fun h1 T1 t1 en z3 g3=>?_
  refine Jr_ (s:={ s with heap:=h1 }) en hd hz z3 elt fun h2 same way=>?_
  have nT:∀ b o,s.heap.get? b=some o->b≠T1:=fun b o q=>Nat.ne_of_lt (Nat.lt_of_lt_of_le (Heap.lt_size q) en.new)
  have d1:=Obj.data_mapFields hd (·.setIfInBounds 1 (Value.ref T1))
  refine k h2 ⟨fun b o q nf nb _=>?_,fun b o q nb _=>?_,fun b o q=>?_⟩ ⟨xs.yg,xs.trk,_,_,?_,?_,?_,d1,by simpa using hz,.inr ?_⟩ ?_
  ·rw [same b (nT b o q)];exact en.keep b o q nf nb
  ·obtain ⟨sl,z⟩:=en.slot b o q nb
   exact ⟨sl,by rw [same b (nT b o q)];exact z⟩
  ·by_cases nb:b=e
   ·subst nb;exact ⟨_,by rw [same _ (nT _ o q)];exact en.exc⟩
   ·obtain ⟨sl,z⟩:=en.slot b o q nb
    exact ⟨_,by rw [same b (nT b o q)];exact z⟩
  ·rw [same e (nT e _ he)];exact en.exc
  ·rw [Obj.cls_mapFields];exact hc
  ·rw [Xe_];exact hdd
  ·obtain ⟨o1,tz,w1,w2,w3⟩:=way
   exact ⟨T1,o1,tz,by simp [hz],fun z=>nT e _ he z.symm,Nat.le_trans hlo en.new,hk.fresh en.new,w1,w2,w3⟩
  ·intro b ⟨oe',vs',g1,g2,g3⟩
   rw [same e (nT e _ he),en.exc] at g1
   cases g1
   rw [d1] at g2
   cases g2
   have:Value.ref T1=Value.ref b:=by simpa [hz] using g3
   injection this with this
   rw [<-this]
   exact en.new
 ·refine wpAny_bind (wpAny_field he hd tb ?_)
  rw [if_pos (by simp)]
  refine wpAny_bind (wpAny_field hT hTd t3 ?_)
  rw [if_neg zhk_]
  have z3':3<ts.size:=(Array.getElem?_eq_some_iff.mp t3).1
  refine wpAny_bind (wpAny_setField hT hTd z3' ?_)
  have off:∀ b,b≠T->(s.heap.update T (Obj.mapFields (·.setIfInBounds 3 Value.none))).get? b=s.heap.get? b:=fun b hb=>Heap.get?_update_other _ _ (Ne.symm hb)
  have hF':(s.heap.update T (Obj.mapFields (·.setIfInBounds 3 Value.none))).FunFrames base (env::outer):=hF.of_keeps fun b o q r=>⟨o,(off b fun z=>by subst z;rw [hT] at q;cases q;exact r ts hTd).trans q,rfl⟩
  have he':(s.heap.update T (Obj.mapFields (·.setIfInBounds 3 Value.none))).get? e=some oe:=(off e (Ne.symm hTe)).trans he
  have zz:(s.heap.update T (Obj.mapFields (·.setIfInBounds 3 Value.none))).objs.size=s.heap.objs.size:=Heap.size_update ..
  refine Js_ (s:={ s with heap:=s.heap.update T (Obj.mapFields (·.setIfInBounds 3 Value.none)) }) hA hF' hL he' hd hz fun h1 T1 t1 en z3 g3=>?_
  refine Jr_ (s:={ s with heap:=h1 }) en hd hz z3 (by rw [zz];exact elt) fun h2 same way=>?_
  have nw:s.heap.objs.size<=T1:=by have:=en.new;rw [zz] at this;exact this
  have nT:∀ b o,s.heap.get? b=some o->b≠T1:=fun b o q=>Nat.ne_of_lt (Nat.lt_of_lt_of_le (Heap.lt_size q) nw)
  have isT:TbOf s.heap e T:=⟨oe,vs,he,hd,tb⟩
  have nTT:∀ b,¬ TbOf s.heap e b->b≠T:=fun b z q=>z (q▸isT)
  have d1:=Obj.data_mapFields hd (·.setIfInBounds 1 (Value.ref T1))
  have T0:(s.heap.update T (Obj.mapFields (·.setIfInBounds 3 Value.none))).get? T=some (oT.mapFields (·.setIfInBounds 3 Value.none)):=Heap.get?_update_self _ hT (Obj.isFreed_of_fields (Obj.data_mapFields hTd _))
  refine k h2 ⟨fun b o q nf nb nt=>?_,fun b o q nb nt=>?_,fun b o q=>?_⟩ ⟨xs.yg,xs.trk,_,_,?_,?_,?_,d1,by simpa using hz,.inr ?_⟩ ?_
  ·rw [same b (nT b o q)];exact en.keep b o ((off b (nTT b nt)).trans q) nf nb
  ·obtain ⟨sl,z⟩:=en.slot b o ((off b (nTT b nt)).trans q) nb
   exact ⟨sl,by rw [same b (nT b o q)];exact z⟩
  ·by_cases nb:b=e
   ·subst nb;exact ⟨_,by rw [same _ (nT _ o q)];exact en.exc⟩
   ·by_cases nt:b=T
    ·subst nt
     obtain ⟨sl,z⟩:=en.slot b _ T0 nb
     exact ⟨_,by rw [same b (nT b o q)];exact z⟩
    ·obtain ⟨sl,z⟩:=en.slot b o ((off b nt).trans q) nb
     exact ⟨_,by rw [same b (nT b o q)];exact z⟩
  ·rw [same e (nT e _ he)];exact en.exc
  ·rw [Obj.cls_mapFields];exact hc
  ·rw [Xe_];exact hdd
  ·obtain ⟨o1,tz,w1,w2,w3⟩:=way
   exact ⟨T1,o1,tz,by simp [hz],fun z=>nT e _ he z.symm,Nat.le_trans hlo nw,hk.fresh nw,w1,w2,w3⟩
  ·intro b ⟨oe',vs',g1,g2,g3⟩
   rw [same e (nT e _ he),en.exc] at g1
   cases g1
   rw [d1] at g2
   cases g2
   have:Value.ref T1=Value.ref b:=by simpa [hz] using g3
   injection this with this
   rw [<-this]
   exact nw
theorem Ve_ {Q:Unit->Shared->Prop} (hA:A.frames=some (env::outer)) (hF:s.heap.FunFrames base (env::outer)) (hL:env.frame=some L) (hk:HOk P w H s.heap) (xs:XS H s.heap lo e C dd)
  (k:∀ h',Mv (frs (env::outer)) s.heap h' e->XS H h' lo e C dd->Q () { s with heap:=h' }):wpAny M A (leaving env (.ref e)) Q E s:=by
 unfold leaving
 exact wpAny_bind (Ql_ hA hF hL hk xs fun h' m x _=>k h' m x)
end
section
variable {fs:List Addr} {h h':Heap} {e C:Addr} {dd:Option Addr} {H:Hp} {lo:Nat} {P:Program} {w:World}
theorem XO.ok {H':Hp} (x:XO e C dd h):ObjOk P w H' h e (.ext (XO e C dd)):=by
 obtain ⟨oe,q,r⟩:=x
 exact ⟨⟨oe,q,r⟩,⟨oe,q⟩,fun h1 h2 ⟨o,z,r⟩ k=>⟨o,k o z,r⟩⟩
theorem XS.xo (xs:XS H h lo e C dd):XO e C dd h:=by
 obtain ⟨oe,vs,q,c,d,z,_⟩:=xs.obj
 exact ⟨oe,q,c,d,by unfold PySem.W.notCls;rw [z]⟩
theorem XS.tb (xs:XS H h lo e C dd) {b:Addr} (t:TbOf h e b):H b=none/\lo<=b/\b≠e/\∃ oT ts,h.get? b=some oT/\oT.data=.fields ts:=by
 obtain ⟨oe,vs,q,c,d,z,_,k⟩:=xs.obj
 obtain ⟨oe',vs',q',z',k'⟩:=t
 rw [q] at q';cases q'
 rw [z] at z';cases z'
 rcases k with k|⟨T,oT,ts,k,ne,l,n,g,gd,_⟩
 ·rw [k] at k';cases k'
 ·rw [k] at k'
  cases k'
  exact ⟨n,l,ne,oT,ts,g,gd⟩
theorem XS.tb_list (xs:XS H h lo e C dd):∃ ch:List Addr,∀ b,b∈ch↔TbOf h e b:=by
 obtain ⟨oe,vs,q,c,d,z,_,k⟩:=xs.obj
 rcases k with k|⟨T,oT,ts,k,_⟩
 ·exact ⟨[],fun b=>⟨fun z=>(nomatch z),fun ⟨oe',vs',q',z',k'⟩=>by rw [q] at q';cases q';rw [z] at z';cases z';rw [k] at k';cases k'⟩⟩
 ·refine ⟨[T],fun b=>⟨fun y=>?_,fun ⟨oe',vs',q',z',k'⟩=>?_⟩⟩
  ·rw [List.mem_singleton.mp y];exact ⟨oe,vs,q,z,k⟩
  ·rw [q] at q';cases q'
   rw [z] at z';cases z'
   rw [k] at k';cases k'
   exact List.mem_singleton.mpr rfl
theorem Mv.hok (m:Mv fs h h' e) (ok:HOk P w H h) (xs:XS H h lo e C dd) (xs':XS H h' lo e C dd) (hf:∀ b∈fs,H b=none):HOk P w H h':=fun a o q=>by
 by_cases ae:a=e
 ·subst ae
  rw [xs.trk] at q;cases q
  exact xs'.xo.ok
 ·refine (ok a o q).stay (fun b u hb z=>?_) (fun _ z=>z) fun _ _ z=>z
  have hbH:∃ v,H b=some v:=by
   rcases hb with rfl|hb
   ·exact ⟨o,q⟩
   ·exact ⟨_,hb⟩
  obtain ⟨v,hv⟩:=hbH
  refine m.keep b u z (fun y=>by rw [hf b y] at hv;cases hv) (fun y=>?_) fun y=>by rw [(xs.tb y).1] at hv;cases hv
  subst y
  rcases hb with rfl|hb
  ·exact ae rfl
  ·rw [xs.trk] at hb;cases hb
theorem Mv.un {ch:List Addr} (m:Mv fs h h' e) (xs:XS H h lo e C dd) (hc:∀ b,b∈ch↔TbOf h e b):Un fs ch H H h h' where
 keep:=fun b o q n hb hx=>m.keep b o q hb (fun z=>by subst z;rw [xs.trk] at n;cases n) fun z=>hx ((hc b).mpr z)
 slot:=fun b o q n hb hx=>m.slot b o q (fun z=>by subst z;rw [xs.trk] at n;cases n) fun z=>hx ((hc b).mpr z)
 free:=fun _ _ _ n _=>n
 there:=fun b o q _=>m.there b o q
 tups:=fun _ _ z=>z
 frzs:=fun _ _ _ z=>z
 tbls:=fun b ps z=>⟨#[],by rw [z];simp⟩
end
section
variable {X:Cx} {pins:List (Addr×Obj)} {σ:L2.St} {H:Hp} {s:Shared} {h':Heap} {e C:Addr} {dd:Option Addr} {lo:Nat}
theorem Inv.mv (I:Inv X pins σ H s) (m:Mv (frs X.stack) s.heap h' e) (xs:XS H s.heap lo e C dd) (xs':XS H h' lo e C dd) (hlo:X.s₀.heap.objs.size<=lo) (hp:∀ p∈X.pn++pins,¬ TbOf s.heap e p.1) (t':Nat):Inv X pins σ H { s with heap:=h',toks:=t' }:=by
 obtain ⟨ch,hc⟩:=xs.tb_list
 refine I.call (g':=s.gens) (d':=s.drawn) (t':=t') (m.un xs hc) (m.hok I.hok xs xs' I.stkFree) I.bare fun b hb=>?_
 have tb:=(hc b).mp hb
 obtain ⟨n,l,ne,oT,ts,g,gd⟩:=xs.tb tb
 refine ⟨.inr (Nat.le_trans hlo l),fun z=>?_,fun x c q z=>?_,fun p hp' z=>hp p hp' (z▸tb)⟩
 ·subst z
  obtain ⟨m,⟨o,es,ep,ho,hd,_⟩,_⟩:=I.loc
  rw [g] at ho;cases ho
  rw [gd] at hd;cases hd
 ·subst z
  obtain ⟨v,o,ho,hd⟩:=I.cell x c q
  rw [g] at ho;cases ho
  rw [gd] at hd;cases hd
end
noncomputable def CX1 (P:Program) (w:World):CXT:=fun outer H s E e s'=>∃ a C dd H',e=.ref a/\s'.os=s.os/\AllBare s'.gens/\Un (frs outer) [] H H' s.heap s'.heap/\HOk P w H' s'.heap/\XS H' s'.heap s.heap.objs.size a C dd/\E (.ref C) dd H'
theorem zdm_ {P:Program} {w:World} {K:Fg} {mg:Str->Option Value} {base:Heap} {N:List Str} {qual:Str} {scope:Scope} {f:Addr} {cd:Value} {A:Around} {outer:List Env} {s:Shared} {H:Hp} {E:XK}
  {pins:List (Addr×Obj)} {σ:L2.St} {H':Hp} {s':Shared} {a C:Addr} {dd:Option Addr} (I:Inv (cxOf (CX1 P w) P w K mg base N qual scope f cd A outer s H E) pins σ H' s') (xs:XS H' s'.heap s.heap.objs.size a C dd) (hE:E (.ref C) dd H') :
  (cxOf (CX1 P w) P w K mg base N qual scope f cd A outer s H E).xe (.ref a) s':=by
 have hF:=I.stack
 have hS:=I.stkFree
 refine Ve_ (base:=base) (L:=s.heap.objs.size) (P:=P) (w:=w) (s:=s') I.ok.frames hF rfl I.hok xs fun h1 m xs1=>?_
 have un:Un (frs outer) [] H H' s.heap s'.heap:=I.base
 have lt:∀ b o,s.heap.get? b=some o->b<s.heap.objs.size:=fun b o q=>Heap.lt_size q
 have ne:∀ b o,s.heap.get? b=some o->b≠a:=fun b o q=>Nat.ne_of_lt (Nat.lt_of_lt_of_le (lt b o q) xs.yg)
 have nt:∀ b o,s.heap.get? b=some o->¬ TbOf s'.heap a b:=fun b o q z=>absurd (Nat.lt_of_lt_of_le (lt b o q) (xs.tb z).2.1) (Nat.lt_irrefl _)
 refine ⟨a,C,dd,H',rfl,I.os,I.bare,⟨fun b o q n hb hx=>?_,fun b o q n hb hx=>?_,un.free,fun b o q hx=>?_,un.tups,un.frzs,un.tbls⟩,m.hok I.hok xs xs1 hS,xs1,hE⟩
 ·refine m.keep b o (un.keep b o q n hb hx) (fun z=>?_) (ne b o q) (nt b o q)
  rcases List.mem_cons.mp (I.stkSub b z) with y|y
  ·exact absurd (lt b o q) (by rw [y];exact Nat.lt_irrefl _)
  ·exact hb y
 ·obtain ⟨sl,z⟩:=un.slot b o q n hb hx
  obtain ⟨sl',z'⟩:=m.slot b _ z (ne b o q) (nt b o q)
  exact ⟨sl',z'⟩
 ·obtain ⟨o',z⟩:=un.there b o q hx
  exact m.there b o' z
end L4
namespace L4
open PySem PySem.Spec PyProof.Rows L2 L3 PySem.W
theorem zgo_ {K:Frag} {C D fI:Addr} (c:XC K C D fI):∃ cd,PySem.W.clsIn K C=some cd/\cd.mro=.ref C::.ref D::bmV/\cd.hasDict=true:=by
 obtain ⟨nm,q,N,bs,sn,sub,ab,col,dd,k0,k1,k2,k3,k5,lk⟩:=c.obj
 refine ⟨_,by unfold PySem.W.clsIn;rw [lk],rfl,rfl⟩
section
variable {prog:Program} {w:World} {A:Around} {E:Value->Shared->Prop} {s:Shared} {K:Frag} {x C:Addr} {ox:Obj} {od:Option Obj}
theorem zdJ_ {Q:Option Value->Shared->Prop} (X:K.In s.heap) (I:PySem.W.InstAt s.heap x ox C od) (hga:findIn K (.ref C) "__getattribute__" = some (some (.builtin "BaseException.__getattribute__"))) (hgr:findIn K (.ref C) "__getattr__" = some none) (hb:mroIn K C (.type "BaseException")=some true)
  (hf:findObj K C od "__class__" = some (.bind (.builtin "getset_descriptor.__get__") (.builtin "object.__class__"))) (hm:mroIn K C (.type "object")=some true) (h:Q (some (.ref C)) { s with toks:=s.toks+1 }):wpAny (model prog w) A (getAttr? (.ref x) "__class__") Q E s:=by
 obtain ⟨hp,g,d,t,os⟩:=s
 have L0:=I.type (M:=model prog w)
 have L1:=looks_findIn (M:=model prog w) X hga
 have L2:=looks_findIn (M:=model prog w) X hgr
 have L3:=looks_find (M:=model prog w) X I hf
 have L4:=looks_mroIn (M:=model prog w) X hb
 have bnd:=F.attr_ValueError.ga.bind (.ref x)
 have ok:=F.args_bexc_ga (.ref x) (.str "__class__" t)
 have kd:builtinKind "BaseException.__getattribute__" = some .slot:=by decide +kernel
 have sp:splitId "BaseException.__getattribute__" = some ("BaseException", "__getattribute__"):=by decide +kernel
 unfold getAttr? getAttrBy?
 refine wpAny_bind (wpAny_mkText (wpAny_bind (wpAny_attempt ?_)))
 unfold getAttrBy
 refine wpAny_holding (wpAny_bind (L0.at (wpAny_bind (L1.at ?_))))
 show wpAny _ _ (getAttrByItsOwn _ _ _ _ _ _) _ _ _
 unfold getAttrByItsOwn
 repeat (any_goals (first|assumption|with_reducible refine L0.at ?_|with_reducible refine L2.at ?_|wp_step))
 refine codeAny_call_builtin F.attr_ValueError.ga.plain F.entry_bexc_ga ?_
 simp only [checkBuiltinCall,kd,sp]
 refine wpAny_bind ?_
 unfold isInstance
 refine wpAny_bind (L0.at (L4.at ?_))
 repeat (any_goals (first|assumption|with_reducible refine L0.at ?_|with_reducible refine L3.at ?_|wp_step))
 refine class_get (s:=⟨hp,g,d,t+1,os⟩) (ox:=ox) (od:=od) X I hm ?_
 exact wpAny_pure (handed_on rfl (wpAny_pure h))
theorem zaD_ {D fI:Addr} (c:XC K C D fI) (hb:mroIn K C (.type "BaseException")=some true)
  (hf:findObj K C od "__class__" = some (.bind (.builtin "getset_descriptor.__get__") (.builtin "object.__class__"))) (hm:mroIn K C (.type "object")=some true) :
  KitX K (.ref x) (.ref C) (fun h=>PySem.W.InstAt h x ox C od) where
 ty:=fun _ _ _ I=>I.type
 it:=fun _ _ X _=>by
  obtain ⟨nm,q,N,bs,sn,sub,ab,col,dd,k0,k1,k2,k3,k5,ho⟩:=c.obj
  intro A' Q' E' s' k q
  unfold isType loadHead
  exact wpAny_bind (wpAny_loadPart (k _ _ (X _ _ ho)) (wpAny_pure q))
 ne:=fun h tp dd its n sl X htp=>by
  obtain ⟨nm,q,N,bs,sn,sub,ab,col,dd',k0,k1,k2,k3,k5,ho⟩:=c.obj
  refine Bool.eq_false_iff.mpr fun q=>?_
  have e:C=tp:=Value.ref.inj (beq_iff_eq.mp q)
  subst e
  have z:=(X _ _ ho).symm.trans htp
  injection z with z
  injection z with z1 z2 z3
  cases z3
 ca:=fun X I k=>zdJ_ X I c.ga c.gr hb hf hm k
end
def XAt (H:Hp) (a C:Addr) (dd:Option Addr):Prop:=H a=some (.ext (XO a C dd))/\∀ dx,dd=some dx->∃ fv,H dx=some (.ext (XD dx fv))
theorem WS_ {X:Cx} {pins:List (Addr×Obj)} {σ:L2.St} {H:Hp} {s:Shared} {a C:Addr} {dd:Option Addr} (I:Inv X pins σ H s) (h:XAt H a C dd):∃ ox od,PySem.W.InstAt s.heap a ox C od:=by
 obtain ⟨h1,h2⟩:=h
 obtain ⟨⟨oe,q1,q2,q3,q4⟩,_⟩:=I.hok a _ h1
 cases dd with
 | none=>exact ⟨oe,none,q1,q2,q4,by rw [q3];trivial⟩
 | some dx =>
  obtain ⟨fv,h2⟩:=h2 dx rfl
  obtain ⟨⟨mA,na,wi,r⟩,_⟩:=I.hok dx _ h2
  obtain ⟨od,z1,hlk⟩:=Wz_ na
  exact ⟨oe,some od,q1,q2,q4,by rw [q3];exact z1⟩
theorem J4_ {K:Frag} {C:Addr} {od:Option Obj} {name:Str} {a g:Value} (hc:(clsIn K C).isSome=true) (ha:findIn K (.ref C) name=some (some a)) (hg:specialIn K a "__get__" = some (some g)) (ht:takesIn K a=some true):findObj K C od name=some (.bind g a):=by
 obtain ⟨cd,hc⟩:=Option.isSome_iff_exists.mp hc
 unfold findObj
 rw [hc,Option.bind_some,ha,Option.bind_some]
 simp [hg,ht]
section
variable {X:Cx} {pins:List (Addr×Obj)} {σ:L2.St} {H:Hp} {s:Shared} {a C D fI:Addr} {dd:Option Addr} {Q:Value->Shared->Prop} {E:Value->Shared->Prop} {b:Bool}
theorem Jm_ (c:XC X.K C D fI) (kc:KC X.K C) {ox:Obj} {od:Option Obj}:KitX X.K (.ref a) (.ref C) (fun h=>PySem.W.InstAt h a ox C od):=by
 obtain ⟨cd,k1,k2,k3⟩:=zgo_ c
 refine zaD_ c (by unfold PySem.W.mroIn;rw [k1,Option.bind_some,k2];rfl) (J4_ (by rw [k1];rfl) kc.ha kc.hn kc.htk) (by unfold PySem.W.mroIn;rw [k1,Option.bind_some,k2];rfl)
theorem Vi_ (I:Inv X pins σ H s) (c:XC X.K C D fI) (kc:KC X.K C) (h:XAt H a C dd) {cv:Value} (e:kitOne X.K (.ref C) cv=some b) (q:∀ tk,Q (.bool b) { s with toks:=tk }) :
  wpAny (model X.prog X.w) X.A (call (.builtin "isinstance") [.ref a,cv]) Q E s:=by
 obtain ⟨ox,od,It⟩:=WS_ I h
 exact kia_one (Jm_ c kc) I.kIn It e (fun z=>nomatch z) q
theorem YJ_ (I:Inv X pins σ H s) (c:XC X.K C D fI) (kc:KC X.K C) (h:XAt H a C dd) {tp:Addr} {d:Option Addr} {its:List Value} {n:Nat} {sl:Array (Option Value)} (ht:s.heap.get? tp=some ⟨.type "tuple",d,.seq its.toArray n,sl⟩)
  (e:kitAny X.K (.ref C) its=some b) (q:∀ tk,Q (.bool b) { s with toks:=tk }):wpAny (model X.prog X.w) X.A (call (.builtin "isinstance") [.ref a,.ref tp]) Q E s:=by
 obtain ⟨ox,od,It⟩:=WS_ I h
 exact kia_tup (Jm_ c kc) I.kIn It ht e (fun z=>nomatch z) q
end
end L4
namespace L4
open PySem PySem.Spec PyProof.Rows L2 L3
structure Ex where
 cls:Str
 fs:List (Str×D)
inductive M (S:Type) where
 | ret (s:S)
 | exc (x:Ex)
 | bad
noncomputable def M.on {S T:Type} (m:M S) (x:Ex->M T) (k:S->M T):M T:=match m with
 | .ret s=>k s
 | .exc e=>x e
 | .bad=>.bad
noncomputable def bd {S T:Type} (m:M S) (k:S->M T):M T:=m.on .exc k
noncomputable def oM {S:Type} (o:Option S):M S:=match o with
 | some s=>.ret s
 | none=>.bad
section
variable {S T U:Type}
@[simp] theorem zfq_ (s:S) (x:Ex->M T) (k:S->M T):(M.ret s).on x k=k s:=rfl
@[simp] theorem y3_ (s:S) (k:S->M T):bd (.ret s) k=k s:=rfl
end
noncomputable abbrev Pu (α:Type):=En->M α
def XR (K:Fg) (F:Hp) (C:Addr) (dd:Option Addr) (x:Ex):Prop:=XQ K C x.cls /\
 ∃ fv,FX F dd fv/\Paired (fun (p:Str×V) (q:Str×D)=>p.1=q.1/\Rep K F p.2 q.2) fv x.fs
noncomputable def encX (x:Ex):D:=.dict ((.none,.str x.cls)::x.fs.map fun p=>(.str p.1,p.2))
theorem Jf_ {K:Fg} {F:Hp}:∀ {fv:List (Str×V)} {fs:List (Str×D)},Paired (fun (p:Str×V) (q:Str×D)=>p.1=q.1/\Rep K F p.2 q.2) fv fs->(fs.map fun p=>((PyData.str p.1,p.2):D×D)).map (·.1)=fv.map (fun p=>.str p.1)/\RepL K F (fv.map (·.2)) ((fs.map fun p=>((PyData.str p.1,p.2):D×D)).map (·.2))
:=by
 intro fv fs h
 induction h with
 | nil=>exact ⟨rfl,.nil⟩
 | cons h _ ih=>exact ⟨by simp only [List.map_cons,ih.1,h.1],by simp only [List.map_cons];exact .cons h.2 ih.2⟩
theorem XR.rep {K:Fg} {F:Hp} {a C:Addr} {dd:Option Addr} {x:Ex} (h:XR K F C dd x) (e:F a=some (.ext (XO a C dd))):Rep K F (.ref a) (encX x):=by
 obtain ⟨q,fv,fx,p⟩:=h
 exact .exc e q fx (Jf_ p).1 (Jf_ p).2
theorem XR.mono {K:Fg} {F F':Hp} {C:Addr} {dd:Option Addr} {x:Ex} (s:Same F F') (h:XR K F C dd x):XR K F' C dd x:=by
 obtain ⟨q,fv,fx,p⟩:=h
 refine ⟨q,fv,fx.mono s,?_⟩
 clear fx q
 revert p
 generalize x.fs=fs
 intro p
 induction p with
 | nil=>exact .nil
 | cons h t ih=>exact .cons ⟨h.1,h.2.mono s⟩ ih
structure FzOk (K:Fg) (F:Hp) (σ:L2.St) (ρ:En):Prop where
 ln:σ.length=ρ.length
 fz:∀ (i:Nat) (d:D),ρ[i]? = some (some (AV.fz d))->∃ v,σ[i]? = some (some v)/\Rep K F v d
theorem _root_.L3.StOk.fzok {K:Fg} {G:Gh} {F F' H:Hp} {σ:L2.St} {ρ:En} (S:StOk K G F σ H ρ) (s:Same F F'):FzOk K F' σ ρ:=⟨S.ln,fun i d q=>by
 obtain ⟨v,e,r⟩:=S.fz i d q
 exact ⟨v,e,r.mono s⟩⟩
structure GOk (G:Gh) (F H:Hp):Prop where
 fh:Same F H
 oh:Same G.O H
 fo:∀ b o,G.O b=some o->F b=none/\NoTE o
 fb:Same G.B F
def XW (X:Cx) (G:Gh) (F:Hp) (ρ:En) (x:Ex):Prop:=∀ F' H' s' a C dd pins σ,GOk G F' H'->FzOk X.K F' σ ρ->Inv X pins σ H' s'->XS H' s'.heap X.s₀.heap.objs.size a C dd->(∀ p∈X.pn++pins,¬ TbOf s'.heap a p.1)->XR X.K F' C dd x->X.xe (.ref a) s'
theorem XW.mono {X:Cx} {G:Gh} {F F':Hp} {ρ:En} {x:Ex} (s:Same F F') (h:XW X G F ρ x):XW X G F' ρ x:=h
def W (X:Cx) (G:Gh) (F:Hp) (σ:L2.St) (ρ:En) {α:Type} (m:M α) (C:α->Hp->Hp->Prop):Prop:=match m with
 | .ret a=>∀ F' H',Same F F'->StOk X.K G F' σ H' ρ->C a F' H'
 | .exc x=>XW X G F ρ x
 | .bad=>False
section
variable {X:Cx} {G:Gh} {F F' H:Hp} {σ:L2.St} {ρ:En} {α β:Type} {m:M α} {k:α->M β} {C C':α->Hp->Hp->Prop}
theorem W.up {C:β->Hp->Hp->Prop} {m:M β} (s:Same F F') (h:W X G F σ ρ m C):W X G F' σ ρ m C:=by
 cases m with
 | ret a=>exact fun F2 H2 s2 S2=>h F2 H2 (s.trans s2) S2
 | exc x=>exact XW.mono (X:=X) (G:=G) (ρ:=ρ) (x:=x) s h
 | bad=>exact h
theorem W.bind {C:β->Hp->Hp->Prop} (h:W X G F σ ρ (bd m k) C):W X G F σ ρ m fun a F' H'=>W X G F' σ ρ (k a) C:=by
 cases m with
 | ret a=>exact fun F2 H2 s2 S2=>W.up s2 h
 | exc x=>exact h
 | bad=>exact h
theorem W.imp (h:W X G F σ ρ m C) (w:∀ a F' H',Same F F'->StOk X.K G F' σ H' ρ->C a F' H'->C' a F' H'):W X G F σ ρ m C':=by
 cases m with
 | ret a=>exact fun F2 H2 s2 S2=>w a F2 H2 s2 S2 (h F2 H2 s2 S2)
 | exc x=>exact h
 | bad=>exact h
theorem W.opt {o:Option α} (h:W X G F σ ρ (oM o) C):∃ a,o=some a/\∀ F' H',Same F F'->StOk X.K G F' σ H' ρ->C a F' H':=by
 cases o with
 | none=>exact h.elim
 | some a=>exact ⟨a,rfl,h⟩
end
@[irreducible] noncomputable def tSem (X:Cx) (e:Expr):TE:=fun σ H Q=>∀ (pins:List (Addr×Obj)) (s:Shared),Inv X pins σ H s->wpAny (model X.prog X.w) X.A (eval e X.env) (EP X pins σ Q) X.xe s
@[irreducible] noncomputable def QR_ (X:Cx) (e:Expr):TT:=fun σ H Q=>∀ (pins:List (Addr×Obj)) (s:Shared),Inv X pins σ H s->wpAny (model X.prog X.w) X.A (isTrue e X.env (eval e X.env)) (TP X pins σ Q) X.xe s
@[irreducible] noncomputable def QQ_ (X:Cx) (e:Expr):TT:=fun σ H Q=>∀ (whole:Sem Value) (pins:List (Addr×Obj)) (s:Shared),Inv X pins σ H s->wpAny (model X.prog X.w) X.A (isTrue e X.env whole) (TP X pins σ Q) X.xe s
@[irreducible] noncomputable def u8_ (X:Cx) (es:List Expr):TA:=fun σ H Q=>∀ (pos:Pos) (pins:List (Addr×Obj)) (s:Shared),Inv X pins σ H s->wpAny (model X.prog X.w) X.A (spliced (backTo pos (starEach es X.env))) (AP X pins σ Q) X.xe s
section
variable {X:Cx} {e:Expr} {es:List Expr} {σ:L2.St} {H:Hp}
theorem zn_:PE X e (tSem X e):=fun pins s σ H Q I h=>by unfold tSem at h;exact h pins s I
theorem ut_:PT X e (QR_ X e):=fun pins s σ H Q I h=>by unfold QR_ at h;exact h pins s I
theorem Uy_:PW X e (QQ_ X e):=fun wh pins s σ H Q I h=>by unfold QQ_ at h;exact h wh pins s I
theorem jk_:PA X es (u8_ X es):=fun pos pins s σ H Q I h=>by unfold u8_ at h;exact h pos pins s I
theorem sem {t:TE} {Q:VK} (h:PE X e t) (q:t σ H Q):tSem X e σ H Q:=by unfold tSem;exact fun pins s I=>h pins s σ H Q I q
theorem semT {t:TT} {Q:Bool->Hp->Prop} (h:PT X e t) (q:t σ H Q):QR_ X e σ H Q:=by unfold QR_;exact fun pins s I=>h pins s σ H Q I q
theorem semW {t:TT} {Q:Bool->Hp->Prop} (h:PW X e t) (q:t σ H Q):QQ_ X e σ H Q:=by unfold QQ_;exact fun wh pins s I=>h wh pins s σ H Q I q
theorem semA {t:TA} {Q:List V->Hp->Prop} (h:PA X es t) (q:t σ H Q):u8_ X es σ H Q:=by unfold u8_;exact fun pos pins s I=>h pos pins s σ H Q I q
end
noncomputable def ownL (ρ:En) (i:Nat):Option (List D):=match ρ[i]? with
 | some (some (.ol (.l ds)))=>some ds
 | some (some (.op (.l ds)))=>some ds
 | _=>none
theorem Zj_ {ρ:En} {i:Nat} {ds:List D} (h:ownL ρ i=some ds):own ρ i (.l ds):=by
 unfold ownL at h
 split at h
 ·rename_i q;cases h;exact .inl q
 ·rename_i q;cases h;exact .inr q
 ·cases h
def VO (K:Fg) (F:Hp) (σ:L2.St) (ρ:En) (v:V) (d:D):Prop:=Rep K F v d\/∃ i c,own ρ i c/\σ[i]? = some (some v)/\d=c.d
inductive VOs (K:Fg) (F:Hp) (σ:L2.St) (ρ:En):List V->List D->Prop
 | nil:VOs K F σ ρ [] []
 | cons {v d vs ds}:VO K F σ ρ v d->VOs K F σ ρ vs ds->VOs K F σ ρ (v::vs) (d::ds)
theorem VO.mono {K:Fg} {F F':Hp} {σ:L2.St} {ρ:En} {v:V} {d:D} (s:Same F F') (h:VO K F σ ρ v d):VO K F' σ ρ v d:=h.imp (Rep.mono s) id
def OR (K:Fg) (F H:Hp) (v:V) (d:D):Prop:=Rep K F v d\/∃ a c,v=.ref a/\d=c.d/\Held K F H a c
inductive ORs (K:Fg) (F H:Hp):List V->List D->Prop
 | nil:ORs K F H [] []
 | cons {v d vs ds}:OR K F H v d->ORs K F H vs ds->ORs K F H (v::vs) (d::ds)
theorem VO.or {K:Fg} {G:Gh} {F H:Hp} {σ:L2.St} {ρ:En} {v:V} {d:D} (S:StOk K G F σ H ρ) (h:VO K F σ ρ v d):OR K F H v d:=by
 rcases h with h|⟨i,c,ho,hv,rfl⟩
 ·exact .inl h
 ·obtain ⟨a,e1,oa⟩:=S.ow i _ ho
  rw [hv] at e1
  injection e1 with e1;injection e1 with e1
  exact .inr ⟨a,c,e1,rfl,oa.he⟩
theorem VOs.ors {K:Fg} {G:Gh} {F H:Hp} {σ:L2.St} {ρ:En} (S:StOk K G F σ H ρ):∀ {vs ds},VOs K F σ ρ vs ds->ORs K F H vs ds
 | _,_,.nil=>.nil
 | _,_,.cons h t=>.cons (h.or S) (t.ors S)
section
variable {K:Fg} {F H:Hp} {v:V} {ds:List D}
theorem OR.rep {d:D} (s:Same F H) (h:OR K F H v d):Rep K H v d:=by
 rcases h with h|⟨a,c,rfl,rfl,h1⟩
 ·exact h.mono s
 ·obtain ⟨o,e,r⟩:=WV_ h1;exact r H s e
theorem OR.list (s:Same F H) (h:OR K F H v (.list ds)):∃ a vs,v=.ref a/\SqL K H a vs/\RepL K F vs ds:=by
 rcases h with h|⟨a,c,e,e2,h1⟩
 ·obtain ⟨a,vs,e,h1,h2⟩:=h.lst_inv
  exact ⟨a,vs,e,s.seq h1,h2⟩
 ·cases c<;>cases e2
  obtain ⟨vs,h1,h2⟩:=h1
  exact ⟨a,vs,e,.inl (.inl h1),h2⟩
theorem OR.tuple (s:Same F H) (h:OR K F H v (.tuple ds)):∃ a vs,v=.ref a/\SqT K H a vs/\RepL K F vs ds:=by
 rcases h with h|⟨a,c,e,e2,h1⟩
 ·obtain ⟨a,vs,e,h1,h2⟩:=h.tup_inv
  exact ⟨a,vs,e,SqT.of (s _ _ h1),h2⟩
 ·cases c<;>cases e2
theorem OR.tup' (h:OR K F H v (.tuple ds)):Rep K F v (.tuple ds):=by
 rcases h with h|⟨a,c,e,e2,h1⟩
 ·exact h
 ·cases c<;>cases e2
theorem OR.int {i:Int} (h:OR K F H v (.int i)):v=.int i:=by
 rcases h with h|⟨a,c,e,e2,h1⟩
 ·exact h.inv
 ·cases c<;>cases e2
theorem OR.bool {i:Bool} (h:OR K F H v (.bool i)):v=.bl i:=by
 rcases h with h|⟨a,c,e,e2,h1⟩
 ·exact h.inv
 ·cases c<;>cases e2
theorem OR.str {i:Str} (h:OR K F H v (.str i)):v=.str i:=by
 rcases h with h|⟨a,c,e,e2,h1⟩
 ·exact h.inv
 ·cases c<;>cases e2
theorem OR.none (h:OR K F H v .none):v=.non:=by
 rcases h with h|⟨a,c,e,e2,h1⟩
 ·exact h.inv
 ·cases c<;>cases e2
theorem zv_ {vs:List V} {d:D} {ds:List D} (h:ORs K F H vs (d::ds)):∃ v r,vs=v::r/\OR K F H v d/\ORs K F H r ds:=by
 cases h with|cons a b=>exact ⟨_,_,rfl,a,b⟩
theorem zL_ {vs:List V} (h:ORs K F H vs []):vs=[]:=by cases h;rfl
end
def AP (X:Cx) (e:Expr) (p:Pu D):Prop :=
 ∀ (G:Gh) (F:Hp) (σ:L2.St) (H:Hp) (ρ:En) (Q:VK),StOk X.K G F σ H ρ->W X G F σ ρ (p ρ) (fun d F' H'=>∀ v,Rep X.K F' v d->Q v H')->tSem X e σ H Q
def AO (X:Cx) (e:Expr) (p:Pu D):Prop :=
 ∀ (G:Gh) (F:Hp) (σ:L2.St) (H:Hp) (ρ:En) (Q:VK),StOk X.K G F σ H ρ->W X G F σ ρ (p ρ) (fun d F' H'=>∀ v,VO X.K F' σ ρ v d->Q v H')->tSem X e σ H Q
def AT (X:Cx) (e:Expr) (p:Pu Bool):Prop :=
 ∀ (G:Gh) (F:Hp) (σ:L2.St) (H:Hp) (ρ:En) (Q:Bool->Hp->Prop),StOk X.K G F σ H ρ->W X G F σ ρ (p ρ) (fun d F' H'=>Q d H')->QR_ X e σ H Q
def AW (X:Cx) (e:Expr) (p:Pu Bool):Prop :=
 ∀ (G:Gh) (F:Hp) (σ:L2.St) (H:Hp) (ρ:En) (Q:Bool->Hp->Prop),StOk X.K G F σ H ρ->W X G F σ ρ (p ρ) (fun d F' H'=>Q d H')->QQ_ X e σ H Q
def AB (X:Cx) (e:Expr) (p:Pu Bool):Prop :=
 ∀ (G:Gh) (F:Hp) (σ:L2.St) (H:Hp) (ρ:En) (Q:VK),StOk X.K G F σ H ρ->W X G F σ ρ (p ρ) (fun d F' H'=>Q (.bl d) H')->tSem X e σ H Q
def AA {α:Type} (X:Cx) (es:List Expr) (m:(List D->M α)->En->M α):Prop :=
 ∀ (G:Gh) (F:Hp) (σ:L2.St) (H:Hp) (ρ:En) (Q:List V->Hp->Prop) (k:List D->M α) (C:α->Hp->Hp->Prop),StOk X.K G F σ H ρ->W X G F σ ρ (m k ρ) C ->
  (∀ ds vs F' H',Same F F'->StOk X.K G F' σ H' ρ->vs.length=es.length->RepL X.K F' vs ds->W X G F' σ ρ (k ds) C->Q vs H')->u8_ X es σ H Q
def AAo {α:Type} (X:Cx) (es:List Expr) (m:(List D->M α)->En->M α):Prop :=
 ∀ (G:Gh) (F:Hp) (σ:L2.St) (H:Hp) (ρ:En) (Q:List V->Hp->Prop) (k:List D->M α) (C:α->Hp->Hp->Prop),StOk X.K G F σ H ρ->W X G F σ ρ (m k ρ) C ->
  (∀ ds vs F' H',Same F F'->StOk X.K G F' σ H' ρ->VOs X.K F' σ ρ vs ds->W X G F' σ ρ (k ds) C->Q vs H')->u8_ X es σ H Q
def Frs (K:Fg) (G:Gh) (F:Hp) (σ:L2.St) (H:Hp) (ρ:En) (v:V) (c:OC):Prop:=∃ a,v=.ref a/\OwnAt K G F H a c/\∀ (i:Nat) (e:OC),own ρ i e->σ[i]? ≠ some (some (V.ref a))
def AL (X:Cx) (e:Expr) (p:Pu (List D)):Prop :=
 ∀ (G:Gh) (F:Hp) (σ:L2.St) (H:Hp) (ρ:En) (Q:VK),StOk X.K G F σ H ρ->W X G F σ ρ (p ρ) (fun ds F' H'=>∀ v,Frs X.K G F' σ H' ρ v (.l ds)->Q v H')->tSem X e σ H Q
noncomputable def pVar (i:Nat):Pu D:=fun ρ=>match ρ[i]? with
 | some (some (.fz d))=>.ret d
 | _=>.bad
noncomputable def zfj_ (i:Nat):Pu D:=fun ρ=>match ρ[i]? with
 | some (some (.ol c))=>.ret c.d
 | some (some (.op c))=>.ret c.d
 | _=>.bad
noncomputable def pCon (d:D):Pu D:=fun _=>.ret d
def pBin (f:D->D->Option D) (a b:Pu D):Pu D:=fun ρ=>bd (a ρ) fun x=>bd (b ρ) fun y=>oM (f x y)
def zfn_ (f:D->D->Option Bool) (a b:Pu D):Pu Bool:=fun ρ=>bd (a ρ) fun x=>bd (b ρ) fun y=>oM (f x y)
noncomputable abbrev Pa (α:Type):=(List D->M α)->En->M α
noncomputable def pNil {α:Type}:Pa α:=fun k _=>k []
def zfl_ {α:Type} (a:Pu D) (r:Pa α):Pa α:=fun k ρ=>bd (a ρ) fun x=>r (fun xs=>k (x::xs)) ρ
noncomputable def fitM {S:Type} (ds:List S):M (List S):=if ds.length<=sizeLine then .ret ds else .bad
noncomputable def pTup (ps:Pa D):Pu D:=fun ρ=>ps (fun ds=>.ret (.tuple ds)) ρ
noncomputable def pLst (ps:Pa (List D)):Pu (List D):=fun ρ=>ps (fun ds=>.ret ds) ρ
theorem Qo_ {n:Nat} (h:n<=1000):n<=sizeLine:=Nat.le_trans h (by decide)
def zfm_ (f:List D->Option D) (ps:Pa D):Pu D:=fun ρ=>ps (fun ds=>oM (f ds)) ρ
def Jg_ (f:List D->Option (List D)) (ps:Pa (List D)):Pu (List D):=fun ρ=>ps (fun ds=>oM (f ds)) ρ
def pB (p:Pu Bool):Pu D:=fun ρ=>bd (p ρ) fun b=>.ret (.bool b)
def pZ (p:Pu (List D)):Pu D:=fun ρ=>bd (p ρ) fun ds=>.ret (.list ds)
noncomputable def truD:D->Option Bool
 | .none=>some false
 | .bool b=>some b
 | .int i=>some (i != 0)
 | .str x=>if x.length<=sizeLine then some ((x.length:Int) != 0) else none
 | .list ds=>some (!ds.isEmpty)
 | .tuple ds=>some (!ds.isEmpty)
 | .dict _=>none
def pTru (p:Pu D):Pu Bool:=fun ρ=>bd (p ρ) fun d=>oM (truD d)
def pAnd (a b:Pu Bool):Pu Bool:=fun ρ=>bd (a ρ) fun t=>if t then b ρ else .ret false
def pOr (a b:Pu Bool):Pu Bool:=fun ρ=>bd (a ρ) fun t=>if t then .ret true else b ρ
def pNot (a:Pu Bool):Pu Bool:=fun ρ=>bd (a ρ) fun t=>.ret (!t)
def pIf {α:Type} (c:Pu Bool) (a b:Pu α):Pu α:=fun ρ=>bd (c ρ) fun t=>if t then a ρ else b ρ
def OpD (K:Fg) (r:R2) (f:D->D->Option D):Prop :=
 ∀ (G:Gh) (F:Hp) (σ:L2.St) (H:Hp) (ρ:En) (x y:V) (dx dy:D) (res:D) (Q:VK),StOk K G F σ H ρ->OR K F H x dx->OR K F H y dy->f dx dy=some res ->
  (∀ v F' H',Same F F'->StOk K G F' σ H' ρ->Rep K F' v res->Q v H')->r x y H Q
def OpB (K:Fg) (r:R2) (f:D->D->Option Bool):Prop :=
 ∀ (G:Gh) (F:Hp) (σ:L2.St) (H:Hp) (ρ:En) (x y:V) (dx dy:D) (res:Bool) (Q:VK),StOk K G F σ H ρ->OR K F H x dx->OR K F H y dy->f dx dy=some res->Q (.bl res) H->r x y H Q
def yU_ (K:Fg) (r:List V->Hp->VK->Prop) (f:List D->Option D):Prop :=
 ∀ (G:Gh) (F:Hp) (σ:L2.St) (H:Hp) (ρ:En) (xs:List V) (ds:List D) (res:D) (Q:VK),StOk K G F σ H ρ->ORs K F H xs ds->f ds=some res ->
  (∀ v F' H',Same F F'->StOk K G F' σ H' ρ->Rep K F' v res->Q v H')->r xs H Q
def VC_ (K:Fg) (r:List V->Hp->VK->Prop) (f:List D->Option (List D)):Prop :=
 ∀ (G:Gh) (F:Hp) (σ:L2.St) (H:Hp) (ρ:En) (xs:List V) (ds:List D) (res:List D) (Q:VK),StOk K G F σ H ρ->ORs K F H xs ds->f ds=some res ->
  (∀ v F' H',Same F F'->StOk K G F' σ H' ρ->Frs K G F' σ H' ρ v (.l res)->Q v H')->r xs H Q
section
variable {X:Cx} {e a b c:Expr} {es rest:List Expr} {p pa pb:Pu D} {ta tb tc:Pu Bool} {ps:Pa D} {pb':Pa Bool} {pl:Pa (List D)} {α:Type} {pα:Pa α} {qs:Pu (List D)} {pos:Pos}
theorem zgx_ {i:Nat} {x:Str} (hN:X.N[i]? = some x) (hv:Vis X.env.scope x) (hd:(x==("__debug__" : Str))=false:=by decide) (hcd:(x==("__classdict__" : Str))=false:=by decide):AP X (.Name x pos) (pVar i) :=
 fun G F σ H ρ Q S w=>sem (uu_ hN hv hd hcd)<|by
  unfold pVar at w
  split at w
  ·rename_i d q
   obtain ⟨v,e1,r1⟩:=S.fz i d q
   exact ⟨v,e1,w F H (Same.refl _) S v r1⟩
  ·exact w.elim
theorem zD_ {i:Nat} {x:Str} (hN:X.N[i]? = some x) (hv:Vis X.env.scope x) (hd:(x==("__debug__" : Str))=false:=by decide) (hcd:(x==("__classdict__" : Str))=false:=by decide):AO X (.Name x pos) (zfj_ i) :=
 fun G F σ H ρ Q S w=>sem (uu_ hN hv hd hcd)<|by
  have go:∀ c:OC,own ρ i c->W X G F σ ρ (.ret c.d) (fun d F' H'=>∀ v,VO X.K F' σ ρ v d->Q v H')->tVar i σ H Q:=fun ds ho w=>by
   obtain ⟨a,e1,oa⟩:=S.ow i _ ho
   exact ⟨_,e1,w F H (Same.refl _) S _ (.inr ⟨i,ds,ho,e1,rfl⟩)⟩
  unfold zfj_ at w
  split at w
  ·rename_i ds q;exact go ds (.inl q) w
  ·rename_i ds q;exact go ds (.inr q) w
  ·exact w.elim
theorem ao (h:AP X e p):AO X e p:=fun G F σ H ρ Q S w=>h G F σ H ρ Q S (w.imp fun d F' H' _ _ q v r=>q v (.inl r))
theorem XJ_ {v:V} {d:D} (h:PE X e (tC v)) (r:∀ F,Rep X.K F v d):AP X e (pCon d) :=
 fun G F σ H ρ Q S w=>sem h (w F H (Same.refl _) S v (r F))
theorem ze_ {i j}:AP X (.Constant (.int i) j pos) (pCon (.int i)):=XJ_ zfe_ fun _=>.int _
theorem Yg_ {i j}:AP X (.Constant (.bool i) j pos) (pCon (.bool i)):=XJ_ zhe_ fun _=>.bl _
theorem zgy_ {j}:AP X (.Constant .none j pos) (pCon .none):=XJ_ zfb_ fun _=>.non
theorem QD_ {r:R2} {Q:VK} {G:Gh} {F H:Hp} {σ:L2.St} {ρ:En} {α:Type} {f:D->D->M α} {C:α->Hp->Hp->Prop} (ha:AO X a pa) (hb:AO X b pb) (S:StOk X.K G F σ H ρ) (w:W X G F σ ρ (bd (pa ρ) fun x=>bd (pb ρ) fun y=>f x y) C)
  (k:∀ x y dx dy F' H',Same F F'->StOk X.K G F' σ H' ρ->OR X.K F' H' x dx->OR X.K F' H' y dy->W X G F' σ ρ (f dx dy) C->r x y H' Q):tOp r (tSem X a) (tSem X b) σ H Q :=
 ha G F σ H ρ _ S (w.bind.imp fun dx F1 H1 s1 S1 w1 x hx=>hb G F1 σ H1 ρ _ S1 (w1.bind.imp fun dy F2 H2 s2 S2 w2 y hy=>k x y dx dy F2 H2 (s1.trans s2) S2 ((hx.mono s2).or S2) (hy.or S2) w2))
theorem zE_ {op:Operator} {r:R2} {f:D->D->Option D} (ho:OpR X (binaryOp op) r) (hf:OpD X.K r f) (ha:AO X a pa) (hb:AO X b pb):AP X (.BinOp a op b pos) (pBin f pa pb) :=
 fun G F σ H ρ Q S w=>sem (zeZ_ ho zn_ zn_) (QD_ ha hb S w fun x y dx dy F' H' s' S' hx hy w'=>by
  obtain ⟨res,e,k⟩:=w'.opt
  exact hf G F' σ H' ρ x y dx dy res Q S' hx hy e fun v F2 H2 s2 S2 r2=>k F2 H2 s2 S2 v r2)
theorem jn_ {r:R2} {f:D->D->Option D} (hr:IxR X r) (hf:OpD X.K r f) (ha:AO X a pa) (hb:AO X b pb) (hs:Y2_ b):AP X (.Subscript a b pos) (pBin f pa pb) :=
 fun G F σ H ρ Q S w=>sem (zfd_ hr zn_ zn_ hs) (QD_ ha hb S w fun x y dx dy F' H' s' S' hx hy w'=>by
  obtain ⟨res,e,k⟩:=w'.opt
  exact hf G F' σ H' ρ x y dx dy res Q S' hx hy e fun v F2 H2 s2 S2 r2=>k F2 H2 s2 S2 v r2)
theorem XP_ {op:CmpOp} {r:R2} {f:D->D->Option Bool} (ho:OpR X (compareOp op) r) (hf:OpB X.K r f) (ha:AO X a pa) (hb:AO X b pb) (hm:behindInMarks op b=false):AB X (.Compare a [op] [b] pos) (zfn_ f pa pb) :=
 fun G F σ H ρ Q S w=>sem (V9_ ho zn_ zn_ hm) (QD_ ha hb S w fun x y dx dy F' H' s' S' hx hy w'=>by
  obtain ⟨res,e,k⟩:=w'.opt
  exact hf G F' σ H' ρ x y dx dy res Q S' hx hy e (k F' H' (Same.refl _) S'))
theorem jb_ {op:CmpOp} {r:R2} {f:D->D->Option Bool} (ho:OpR X (compareOp op) r) (hf:OpB X.K r f) (ha:AO X a pa) (hb:AO X b pb) (hm:behindInMarks op b=false):AT X (.Compare a [op] [b] pos) (zfn_ f pa pb) :=
 fun G F σ H ρ Q S w=>semT (V3_ ho zn_ zn_ hm) (QD_ (Q:=fun x H'=>∃ k,x=.bl k/\Q k H') ha hb S w fun x y dx dy F' H' s' S' hx hy w'=>by
  obtain ⟨res,e,k⟩:=w'.opt
  exact hf G F' σ H' ρ x y dx dy res _ S' hx hy e ⟨res,rfl,k F' H' (Same.refl _) S'⟩)
theorem ap_b (h:AB X e ta):AP X e (pB ta):=fun G F σ H ρ Q S w=>h G F σ H ρ Q S (w.bind.imp fun b F' H' s1 S1 w1=>w1 F' H' (Same.refl _) S1 _ (.bl b))
theorem ap_z (h:AL X e qs):AP X e (pZ qs):=fun G F σ H ρ Q S w=>h G F σ H ρ Q S (w.bind.imp fun ds F' H' s1 S1 w1 v fr=>by
 obtain ⟨F2,s2,S2,r2⟩:=S1.settle (v:=v) (ds:=ds) fr
 exact w1 F2 H' s2 S2 v r2)
theorem zp_:AA (α:=α) X [] pNil:=fun G F σ H ρ Q k C S w kk=>semA ZC_ (kk [] [] F H (Same.refl _) S rfl .nil w)
theorem zd_ (h:AP X e p) (hr:AA X es pα) (hs:starEach (e::es) X.env=(false,eval e X.env)::starEach es X.env):AA X (e::es) (zfl_ p pα) :=
 fun G F σ H ρ Q k C S w kk=>semA (jU_ zn_ jk_ hs) (h G F σ H ρ _ S (w.bind.imp fun d F1 H1 s1 S1 w1 v r1 =>
  hr G F1 σ H1 ρ _ _ C S1 w1 fun ds vs F2 H2 s2 S2 hl r2 w2=>kk (d::ds) (v::vs) F2 H2 (s1.trans s2) S2 (by simp [hl]) (.cons (r1.mono s2) r2) w2))
theorem zq_:AAo (α:=α) X [] pNil:=fun G F σ H ρ Q k C S w kk=>semA ZC_ (kk [] [] F H (Same.refl _) S .nil w)
theorem zj_ (h:AO X e p) (hr:AAo X es pα) (hs:starEach (e::es) X.env=(false,eval e X.env)::starEach es X.env):AAo X (e::es) (zfl_ p pα) :=
 fun G F σ H ρ Q k C S w kk=>semA (jU_ zn_ jk_ hs) (h G F σ H ρ _ S (w.bind.imp fun d F1 H1 s1 S1 w1 v r1 =>
  hr G F1 σ H1 ρ _ _ C S1 w1 fun ds vs F2 H2 s2 S2 r2 w2=>kk (d::ds) (v::vs) F2 H2 (s1.trans s2) S2 (.cons (r1.mono s2) r2) w2))
theorem W.fit {α:Type} {G:Gh} {F:Hp} {σ:L2.St} {ρ:En} {ds:List α} {C:List α->Hp->Hp->Prop} (h:W X G F σ ρ (fitM ds) C):ds.length<=sizeLine/\∀ F' H',Same F F'->StOk X.K G F' σ H' ρ->C ds F' H':=by
 unfold fitM at h
 split at h
 ·exact ⟨by assumption,h⟩
 ·exact h.elim
theorem y4_ {x1} (h:AA X es ps) (hz:es.length<=1000):AP X (.Tuple es x1 pos) (pTup ps) :=
 fun G F σ H ρ Q S w=>sem (zbI_ jk_) (h G F σ H ρ _ _ _ S w fun ds vs F1 H1 s1 S1 hl r1 w1=>by
  refine ⟨by rw [hl];exact Qo_ hz,fun q hq=>?_⟩
  obtain ⟨s2,S2,r2⟩:=S1.newTup hq r1
  exact w1 _ _ s2 S2 _ r2)
theorem u7_ (h:AA X es pl) (hz:es.length<=1000):AL X (.List es pos) (pLst pl) :=
 fun G F σ H ρ Q S w=>sem (zfc_ jk_) (h G F σ H ρ _ _ _ S w fun ds vs F1 H1 s1 S1 hl r1 w1=>by
  refine ⟨by rw [hl];exact Qo_ hz,fun q hq=>?_⟩
  obtain ⟨S2,r2⟩:=S1.newLst hq r1
  exact w1 _ _ (Same.refl _) S2 _ r2)
theorem J9_ {r:List V->Hp->VK->Prop} {Q:VK} {G:Gh} {F H:Hp} {σ:L2.St} {ρ:En} {f:List D->M α} {C:α->Hp->Hp->Prop} (ha:AAo X es pα) (S:StOk X.K G F σ H ρ) (w:W X G F σ ρ (pα f ρ) C)
  (k:∀ xs ds F' H',Same F F'->StOk X.K G F' σ H' ρ->ORs X.K F' H' xs ds->W X G F' σ ρ (f ds) C->r xs H' Q):tCB r (u8_ X es) σ H Q :=
 ha G F σ H ρ _ _ C S w fun ds xs F1 H1 s1 S1 hx w1=>k xs ds F1 H1 s1 S1 (hx.ors S1) w1
theorem zy_ {x:Str} {p:Pos} {id:String} {r:List V->Hp->VK->Prop} {f:List D->Option D} (hc:CallR X (.builtin id) r) (hf:yU_ X.K r f) (hg:Gl X x) (hm:X.mg x=none) (hv:bootBuiltins x=some (.builtin id)) (ha:AAo X (e::es) ps)
  (hn:x ≠ "__name__") (hdb:(x==("__debug__" : Str))=false) (he:starEach (e::es) X.env=(false,eval e X.env)::starEach es X.env) (hpl:(backTo pos (starEach es X.env)).any (·.1)=false):AP X (.Call (.Name x p) (e::es) [] pos) (zfm_ f ps) :=
 fun G F σ H ρ Q S w=>sem (Zi_ hc hg hm hv jk_ hn hdb he hpl) (J9_ ha S w fun xs ds F' H' s' S' hx w'=>by
  obtain ⟨res,e,k⟩:=w'.opt
  exact hf G F' σ H' ρ xs ds res Q S' hx e fun v F2 H2 s2 S2 r2=>k F2 H2 s2 S2 v r2)
theorem Uh_ {x:Str} {p:Pos} {id:String} {r:List V->Hp->VK->Prop} {f:List D->Option (List D)} (hc:CallR X (.builtin id) r) (hf:VC_ X.K r f) (hg:Gl X x) (hm:X.mg x=none) (hv:bootBuiltins x=some (.builtin id)) (ha:AAo X (e::es) pl)
  (hn:x ≠ "__name__") (hdb:(x==("__debug__" : Str))=false) (he:starEach (e::es) X.env=(false,eval e X.env)::starEach es X.env) (hpl:(backTo pos (starEach es X.env)).any (·.1)=false):AL X (.Call (.Name x p) (e::es) [] pos) (Jg_ f pl) :=
 fun G F σ H ρ Q S w=>sem (Zi_ hc hg hm hv jk_ hn hdb he hpl) (J9_ ha S w fun xs ds F' H' s' S' hx w'=>by
  obtain ⟨res,e,k⟩:=w'.opt
  exact hf G F' σ H' ρ xs ds res Q S' hx e fun v F2 H2 s2 S2 r2=>k F2 H2 s2 S2 v r2)
theorem uE_ {x:Str} {p:Pos} {T:String} {r:List V->Hp->VK->Prop} {f:List D->Option D} (hc:CallR X (.type T) r) (hf:yU_ X.K r f) (hg:Gl X x) (hm:X.mg x=none) (hv:bootBuiltins x=some (.type T)) (ha:AAo X (e::es) ps)
  (hn:x ≠ "__name__") (hdb:(x==("__debug__" : Str))=false) (he:starEach (e::es) X.env=(false,eval e X.env)::starEach es X.env) (hpl:(backTo pos (starEach es X.env)).any (·.1)=false):AP X (.Call (.Name x p) (e::es) [] pos) (zfm_ f ps) :=
 fun G F σ H ρ Q S w=>sem (ZB_ hc hg hm hv jk_ hn hdb he hpl) (J9_ ha S w fun xs ds F' H' s' S' hx w'=>by
  obtain ⟨res,e,k⟩:=w'.opt
  exact hf G F' σ H' ρ xs ds res Q S' hx e fun v F2 H2 s2 S2 r2=>k F2 H2 s2 S2 v r2)
theorem ZU_ {x:Str} {p:Pos} {T:String} {r:List V->Hp->VK->Prop} {f:List D->Option (List D)} (hc:CallR X (.type T) r) (hf:VC_ X.K r f) (hg:Gl X x) (hm:X.mg x=none) (hv:bootBuiltins x=some (.type T)) (ha:AAo X (e::es) pl)
  (hn:x ≠ "__name__") (hdb:(x==("__debug__" : Str))=false) (he:starEach (e::es) X.env=(false,eval e X.env)::starEach es X.env) (hpl:(backTo pos (starEach es X.env)).any (·.1)=false):AL X (.Call (.Name x p) (e::es) [] pos) (Jg_ f pl) :=
 fun G F σ H ρ Q S w=>sem (ZB_ hc hg hm hv jk_ hn hdb he hpl) (J9_ ha S w fun xs ds F' H' s' S' hx w'=>by
  obtain ⟨res,e,k⟩:=w'.opt
  exact hf G F' σ H' ρ xs ds res Q S' hx e fun v F2 H2 s2 S2 r2=>k F2 H2 s2 S2 v r2)
theorem jO_ {K:Fg} {F:Hp} {vs:List V} {ds:List D} (h:RepL K F vs ds):(!vs.isEmpty) = !ds.isEmpty:=by cases h<;>rfl
theorem zcc_ (ha:AO X a pa) (he:∀ whole,isTrue a X.env whole=(do let v <-whole;standAt a.pos;holding [v] (truthy v))):AT X a (pTru pa) :=
 fun G F σ H ρ Q S w=>semT (X7_ zn_ he) (ha G F σ H ρ _ S (w.bind.imp fun x F1 H1 s1 S1 w1 v hv=>by
  obtain ⟨bb,hb,k⟩:=w1.opt
  refine ⟨bb,?_,k F1 H1 (Same.refl _) S1⟩
  have o:=hv.or S1
  cases x with
  | none=>rw [o.none];cases hb;exact rfl
  | bool i=>rw [o.bool];cases hb;exact rfl
  | int i=>rw [o.int];cases hb;exact rfl
  | str i =>
   rw [o.str]
   unfold truD at hb
   dsimp only at hb
   split at hb
   ·rename_i hl;cases hb;exact ⟨hl,rfl⟩
   ·cases hb
  | list ds=>obtain ⟨a,vs,rfl,h1,h2⟩:=o.list S1.fh;cases hb;exact .inl ⟨vs,h1,(jO_ h2).symm⟩
  | tuple ds=>obtain ⟨a,vs,rfl,h1,h2⟩:=o.tuple S1.fh;cases hb;exact .inr (.inl ⟨vs,h1,(jO_ h2).symm⟩)
  | dict ds=>cases hb))
theorem XD_ (ha:AT X a ta):AW X (.BoolOp .And [a] pos) ta:=fun G F σ H ρ Q S w=>semW (VZ_ ut_) (ha G F σ H ρ Q S w)
theorem zgr_ (ha:AT X a ta):AW X (.BoolOp .Or [a] pos) ta:=fun G F σ H ρ Q S w=>semW (zeT_ ut_) (ha G F σ H ρ Q S w)
theorem zcb_ (ha:AT X a ta) (hb:AW X (.BoolOp .And (b::rest) pos) tb):AW X (.BoolOp .And (a::b::rest) pos) (pAnd ta tb) :=
 fun G F σ H ρ Q S w=>semW (zbD_ ut_ Uy_) (ha G F σ H ρ _ S (w.bind.imp fun t F1 H1 s1 S1 w1=>by
  cases t with
  | true=>refine iteT ?_;exact hb G F1 σ H1 ρ Q S1 w1
  | false=>refine iteF ?_;exact w1 F1 H1 (Same.refl _) S1))
theorem zhG_ (ha:AT X a ta) (hb:AW X (.BoolOp .Or (b::rest) pos) tb):AW X (.BoolOp .Or (a::b::rest) pos) (pOr ta tb) :=
 fun G F σ H ρ Q S w=>semW (zhc_ ut_ Uy_) (ha G F σ H ρ _ S (w.bind.imp fun t F1 H1 s1 S1 w1=>by
  cases t with
  | true=>refine iteT ?_;exact w1 F1 H1 (Same.refl _) S1
  | false=>refine iteF ?_;exact hb G F1 σ H1 ρ Q S1 w1))
theorem zdN_ (h:AW X e ta):AT X e ta:=fun G F σ H ρ Q S w=>semT (fun pins s σ H Q I h=>Uy_ _ pins s σ H Q I h) (h G F σ H ρ Q S w)
theorem zgs_ (ha:AT X a ta):AT X (.UnaryOp .Not a pos) (pNot ta) :=
 fun G F σ H ρ Q S w=>semT (zeU_ ut_) (ha G F σ H ρ _ S (w.bind.imp fun t F1 H1 s1 S1 w1=>w1 F1 H1 (Same.refl _) S1))
theorem zcg_ {op} (h:AB X a ta):AB X (.BoolOp op [a] pos) ta:=fun G F σ H ρ Q S w=>sem (zfa_ zn_) (h G F σ H ρ Q S w)
theorem XQ_ (ha:AB X a ta) (hb:AB X (.BoolOp .And (b::rest) pos) tb):AB X (.BoolOp .And (a::b::rest) pos) (pAnd ta tb) :=
 fun G F σ H ρ Q S w=>sem (zfg_ zn_ zn_) (ha G F σ H ρ _ S (w.bind.imp fun t F1 H1 s1 S1 w1=>⟨t,rfl,by
  cases t with
  | true=>refine iteT ?_;exact hb G F1 σ H1 ρ Q S1 w1
  | false=>refine iteF ?_;exact w1 F1 H1 (Same.refl _) S1⟩))
theorem zdU_ (hc:AT X c tc) (ha:AP X a pa) (hb:AP X b pb):AP X (.IfExp c a b pos) (pIf tc pa pb) :=
 fun G F σ H ρ Q S w=>sem (zaf_ ut_ zn_ zn_) (hc G F σ H ρ _ S (w.bind.imp fun t F1 H1 s1 S1 w1=>by
  cases t with
  | true=>refine iteT ?_;exact ha G F1 σ H1 ρ Q S1 w1
  | false=>refine iteF ?_;exact hb G F1 σ H1 ρ Q S1 w1))
end
noncomputable def zas_ (i j:Int):Bool:=(decide (-(2^64)<i)&&decide (i<2^64))||(decide (-(2^64)<j)&&decide (j<2^64))
noncomputable def ua_:D->D->Option D
 | .int i,.int j=>some (.int (i+j))
 | .str a,.str b=>if a.length+b.length<=sizeLine then some (.str (a++b)) else none
 | .tuple a,.tuple b=>if a.length+b.length<=sizeLine then some (.tuple (a++b)) else none
 | .list a,.list b=>if a.length+b.length<=sizeLine then some (.list (a++b)) else none
 | _,_=>none
noncomputable def Yt_:D->D->Option D
 | .int i,.int j=>some (.int (i - j))
 | _,_=>none
noncomputable def up_:D->D->Option D
 | .int i,.int j=>if zas_ i j then some (.int (i*j)) else none
 | _,_=>none
noncomputable def Yu_:D->D->Option D
 | .int i,.int j=>if decide (0<j)&&decide (j<1073741824) then some (.int (i / j)) else none
 | _,_=>none
noncomputable def JM_:D->D->Option D
 | .int i,.int j=>if 0<j then some (.int (i % j)) else none
 | _,_=>none
noncomputable def zao_:D->D->Option D
 | .int i,.int j=>if decide (0<=j)&&decide (j<=1000000)&&decide (i.natAbs<2^64) then some (.int (i^j.toNat)) else none
 | _,_=>none
noncomputable def opLt:D->D->Option Bool
 | .int i,.int j=>some (decide (i<j))
 | _,_=>none
noncomputable def opGt:D->D->Option Bool
 | .int i,.int j=>some (decide (j<i))
 | _,_=>none
noncomputable def opGe:D->D->Option Bool
 | .int i,.int j=>some (decide (j<=i))
 | _,_=>none
noncomputable def zeR_ (K:Fg):R2:=fun x y H Q=>∃ a b xs ys,x=.ref a/\y=.ref b/\SqT K H a xs/\SqT K H b ys/\xs.length+ys.length<=sizeLine /\
 (xs=[]->Q (.ref b) H)/\(xs≠[]->ys=[]->Q (.ref a) H)/\(xs≠[]->ys≠[]->∀ p,H p=none->Q (.ref p) (upd H p (.tup (xs++ys))))
theorem op_cat0 {X:Cx}:OpR X (binaryOp .Add) (zeR_ X.K):=by
 intro pins s σ H x y v u Q I rx ry h
 obtain ⟨a,b,xs,ys,rfl,rfl,ha,hb,hz,q0,q1,q2⟩:=h
 by_cases hx:xs=[]
 ·cases rx
  cases ry
  obtain ⟨its,r1,p1,_⟩:=I.tuple ha
  obtain ⟨its2,r2,p2,_⟩:=I.tuple hb
  have hv:its=[]:=r1.nil_iff.mpr hx
  obtain ⟨⟨cls,dd,data,sl⟩,ho,hc,n,hd⟩:=id p1
  obtain ⟨⟨cls2,dd2,data2,sl2⟩,ho2,hc2,n2,hd2⟩:=id p2
  simp only at hc hd hc2 hd2
  subst hc hd hc2 hd2
  exact concat_meets ⟨_,ho,rfl⟩ ⟨_,ho2,rfl⟩ noFill_tuple_add seq_tuple_add PySem.F.slot_tuple_add PySem.F.entry_tuple_add (PySem.F.args_tuple_add_2 _ _)
   (tuple_addW0 a b its.toArray its2.toArray n n2 dd dd2 sl sl2 (by simp [hv])) ⟨ho,ho2,⟨.ref b,H,I,rfl,q0 hx⟩⟩
 ·exact zcX_ pins s σ H _ _ v u Q I rx ry ⟨a,b,xs,ys,rfl,rfl,ha,hb,hx,hz,q1 hx,q2 hx⟩
section
variable {K:Fg} {X:Cx}
theorem noS {α:Type} {a:α} {P:Prop} (e:(none:Option α)=some a):P:=nomatch e
theorem okI {C:Int->Int->Prop} {g:Int->Int->V} {f:D->D->Option D} (h:∀ dx dy res,f dx dy=some res->∃ i j,dx=.int i/\dy=.int j/\C i j/\∀ K F,Rep K F (g i j) res):OpD K (rI C g) f:=by
 intro G F σ H ρ x y dx dy res Q S ox oy e k
 obtain ⟨i,j,rfl,rfl,hc,hr⟩:=h dx dy res e
 exact ⟨i,j,ox.int,oy.int,hc,k _ F H (Same.refl _) S (hr K F)⟩
theorem okB {g:Int->Int->Bool} {f:D->D->Option Bool} (h:∀ dx dy res,f dx dy=some res->∃ i j,dx=.int i/\dy=.int j/\res=g i j):OpB K (rI0 fun i j=>.bl (g i j)) f:=by
 intro G F σ H ρ x y dx dy res Q S ox oy e k
 obtain ⟨i,j,rfl,rfl,rfl⟩:=h dx dy res e
 exact ⟨i,j,ox.int,oy.int,k⟩
theorem zbN_:OpD K (rI0 fun i j=>.int (i - j)) Yt_:=by
 intro G F σ H ρ x y dx dy res Q S ox oy e k
 cases dx<;>first|exact noS e|(cases dy<;>first|exact noS e|cases e)
 exact ⟨_,_,ox.int,oy.int,k _ F H (Same.refl _) S (.int _)⟩
theorem zhi_:OpB K (rI0 fun i j=>.bl (decide (i<j))) opLt:=okB fun dx dy res e=>by
 cases dx<;>first|exact noS e|(cases dy<;>first|exact noS e|cases e)
 exact ⟨_,_,rfl,rfl,rfl⟩
theorem Wm_:OpB K (rI0 fun i j=>.bl (decide (j<i))) opGt:=okB fun dx dy res e=>by
 cases dx<;>first|exact noS e|(cases dy<;>first|exact noS e|cases e)
 exact ⟨_,_,rfl,rfl,rfl⟩
theorem zap_:OpB K (rI0 fun i j=>.bl (decide (j<=i))) opGe:=okB fun dx dy res e=>by
 cases dx<;>first|exact noS e|(cases dy<;>first|exact noS e|cases e)
 exact ⟨_,_,rfl,rfl,rfl⟩
theorem Qk_:OpD K (rI CDiv fun i j=>.int (i / j)) Yu_:=okI fun dx dy res e=>by
 cases dx<;>first|exact noS e|(cases dy<;>try (exact noS e))
 rename_i i j
 dsimp only [Yu_] at e
 split at e
 ·rename_i hc
  cases e
  simp only [Bool.and_eq_true,decide_eq_true_eq] at hc
  exact ⟨i,j,rfl,rfl,hc,fun _ _=>.int _⟩
 ·cases e
theorem Jk_:OpD K (rI (fun _ j=>0<j) fun i j=>.int (i % j)) JM_:=okI fun dx dy res e=>by
 cases dx<;>first|exact noS e|(cases dy<;>try (exact noS e))
 rename_i i j
 dsimp only [JM_] at e
 split at e
 ·rename_i hc
  cases e
  exact ⟨i,j,rfl,rfl,hc,fun _ _=>.int _⟩
 ·cases e
theorem zfr_:OpD K (rI CPow fun i j=>.int (i^j.toNat)) zao_:=okI fun dx dy res e=>by
 cases dx<;>first|exact noS e|(cases dy<;>try (exact noS e))
 rename_i i j
 dsimp only [zao_] at e
 split at e
 ·rename_i hc
  cases e
  simp only [Bool.and_eq_true,decide_eq_true_eq] at hc
  exact ⟨i,j,rfl,rfl,⟨hc.1.1,hc.1.2,hc.2⟩,fun _ _=>.int _⟩
 ·cases e
theorem yX_ {F:Hp} {vs:List V} {ds:List D} (r:RepL K F vs ds):vs=[]↔ds=[]:=by cases r<;>simp
noncomputable def zeQ_ (K:Fg):R2:=fun x y H Q=>∃ l b xs zs,x=.ref l/\y=.ref b/\SqL K H l xs/\SqL K H b zs/\xs.length+zs.length<=sizeLine/\∀ p,H p=none->Q (.ref p) (upd H p (.lst (xs++zs)))
theorem zcY_:OpR X (binaryOp .Add) (zeQ_ X.K):=by
 intro pins s σ H x y v u Q I rx ry h
 obtain ⟨l,b,xs,zs,rfl,rfl,hH,hB,hz,q⟩:=h
 cases rx
 cases ry
 obtain ⟨its,r,pl,_⟩:=I.list hH
 obtain ⟨its2,r2,pl2,_⟩:=I.list hB
 obtain ⟨⟨cls,dd,data,sl⟩,ho,hc,n,hd⟩:=id pl.isList
 obtain ⟨⟨cls2,dd2,data2,sl2⟩,ho2,hc2,n2,hd2⟩:=id pl2.isList
 simp only at hc hd hc2 hd2
 subst hc hd hc2 hd2
 have e:its.toArray++its2.toArray=(its++its2).toArray:=by simp
 refine concat_meets ⟨_,ho,rfl⟩ ⟨_,ho2,rfl⟩ noFill_list_add seq_list_add PySem.F.slot_list_add PySem.F.entry_list_add (PySem.F.args_list_add_2 _ _) (list_addW l b its.toArray its2.toArray n n2 dd dd2 sl sl2 (by rw [List.size_toArray,List.size_toArray,<-r.length,<-r2.length];exact hz)) ⟨ho,ho2,?_⟩
 rw [e]
 exact ⟨.ref _,_,I.laid (t':=s.toks) (o:=.lst (xs++zs)) (fun b ob q=>Heap.get?_push_of_some _ q) (Nat.le_refl _) ⟨by rw [List.length_append];exact hz,_,0,r.append r2,Heap.get?_push_size _ rfl⟩,rfl,q _ (I.hok.fresh (Nat.le_refl _))⟩
noncomputable def zgY_:R2:=fun x y H Q=>∃ i j,x=.str i/\y=.str j/\i.length+j.length<=sizeLine/\Q (.str (i++j)) H
noncomputable def zeS_ (K:Fg):R2:=fun x y H Q=>rI0 (fun i j=>.int (i+j)) x y H Q\/(zgY_ x y H Q\/(zeR_ K x y H Q\/zeQ_ K x y H Q))
theorem jx_:OpR X (binaryOp .Add) (zeS_ X.K):=op_add.or (OpR.or Q1_ (op_cat0.or zcY_))
theorem uw_:OpD K (zeS_ K) ua_:=by
 intro G F σ H ρ x y dx dy res Q S ox oy e k
 cases dx<;>first|exact noS e|(cases dy<;>try (exact noS e))
 ·cases e;exact .inl ⟨_,_,ox.int,oy.int,k _ F H (Same.refl _) S (.int _)⟩
 ·dsimp only [ua_] at e
  split at e
  ·rename_i hz
   cases e
   exact .inr (.inl ⟨_,_,ox.str,oy.str,hz,k _ F H (Same.refl _) S (.str _)⟩)
  ·cases e
 ·dsimp only [ua_] at e
  split at e
  ·rename_i hz
   cases e
   obtain ⟨a,vs,rfl,h1,h2⟩:=ox.list S.fh
   obtain ⟨b,us,rfl,g1,g2⟩:=oy.list S.fh
   refine .inr (.inr (.inr ⟨a,b,vs,us,rfl,rfl,h1,g1,by rw [h2.length,g2.length];exact hz,fun p hp=>?_⟩))
   obtain ⟨S2,r2⟩:=S.newLst hp (h2.append g2)
   obtain ⟨F2,s3,S3,r3⟩:=S2.settle r2
   exact k _ F2 _ s3 S3 r3
  ·cases e
 ·dsimp only [ua_] at e
  split at e
  ·rename_i hz
   cases e
   obtain ⟨a,vs,rfl,h1,h2⟩:=ox.tuple S.fh
   obtain ⟨b,us,rfl,g1,g2⟩:=oy.tuple S.fh
   refine .inr (.inr (.inl ⟨a,b,vs,us,rfl,rfl,h1,g1,by rw [h2.length,g2.length];exact hz,fun z=>?_,fun _ z=>?_,fun _ _ p hp=>?_⟩))
   ·have z':=(yX_ h2).mp z
    subst z'
    exact k _ F H (Same.refl _) S oy.tup'
   ·have z':=(yX_ g2).mp z
    subst z'
    exact k _ F H (Same.refl _) S (by rw [List.append_nil];exact ox.tup')
   ·obtain ⟨s2,S2,r2⟩:=S.newTup hp (h2.append g2)
    exact k _ _ _ s2 S2 r2
  ·cases e
theorem yZ_:OpD K (rI CMul fun i j=>.int (i*j)) up_:=okI fun dx dy res e=>by
 cases dx<;>first|exact noS e|(cases dy<;>try (exact noS e))
 rename_i i j
 dsimp only [up_] at e
 split at e
 ·rename_i hc
  cases e
  unfold zas_ at hc
  simp only [Bool.or_eq_true,Bool.and_eq_true,decide_eq_true_eq] at hc
  exact ⟨i,j,rfl,rfl,hc,fun _ _=>.int _⟩
 ·cases e
end
noncomputable def eqOk (d e:D):Bool:=d.canLay0&&e.canLay0&&decide (d.depth<=1000)
noncomputable def opEq (d e:D):Option Bool:=if eqOk d e then some (PyData.eqv d e) else none
noncomputable def opNe (d e:D):Option Bool:=if eqOk d e then some (!PyData.eqv d e) else none
noncomputable def inOk (d:D) (xs:List D):Bool:=PyData.canLayAll0 xs&&d.canLay0&&decide (d.depth<=1000)
noncomputable def zhr_ (i j:Str):Bool:=!(Builtin.Str.occurrences j i 0 j.length 1).isEmpty
noncomputable def yJ_ (d c:D):Option Bool:=match c with
 | .list xs=>if inOk d xs then some (!xs.any fun y=>PyData.eqv y d) else none
 | .tuple xs=>if inOk d xs then some (!xs.any fun y=>PyData.eqv y d) else none
 | .str j=>match d with
  | .str i=>some (!zhr_ i j)
  | _=>none
 | _=>none
noncomputable def isNone:D->Bool
 | .none=>true
 | _=>false
noncomputable def zbL_ (d e:D):Option Bool:=match e with
 | .none=>some (!isNone d)
 | _=>none
noncomputable def rD2 (K:Fg) (f:D->D->Option Bool):R2:=fun x y H Q=>∃ d e b,Rep K H x d/\Rep K H y e/\f d e=some b/\Q (.bl b) H
theorem ZE_ {K:Fg} {f:D->D->Option Bool}:OpB K (rD2 K f) f:=by
 intro G F σ H ρ x y dx dy res Q S ox oy e k
 exact ⟨dx,dy,res,ox.rep S.fh,oy.rep S.fh,e,k⟩
theorem Rep.non_iff {K:Fg} {F:Hp} {v:V} {d:D} (r:Rep K F v d):(decide (v=.non))=isNone d:=by
 cases r<;>rfl
section
variable {X:Cx}
theorem Wf_ (hu:X.A.units+1100<cLine):OpR X (compareOp .Eq) (rD2 X.K opEq):=by
 intro pins s σ H x y v u Q I rx ry ⟨d,e,b,r1,r2,ho,q⟩
 unfold opEq at ho
 split at ho
 case isFalse=>cases ho
 rename_i hc
 cases ho
 simp only [eqOk,Bool.and_eq_true,decide_eq_true_eq] at hc
 obtain ⟨as,ra⟩:=(z8_ I).1 r1 hc.1.1 rx
 obtain ⟨bs,rb⟩:=(z8_ I).1 r2 hc.1.2 ry
 exact SeqAt.compareEq_reads ra rb hc.1.1 hc.1.2 (by have:=Nat.min_le_left d.depth e.depth;lia) ⟨.bl _,H,I,rfl,q⟩
theorem Ji_ (hu:X.A.units+1100<cLine):OpR X (compareOp .NotEq) (rD2 X.K opNe):=by
 intro pins s σ H x y v u Q I rx ry ⟨d,e,b,r1,r2,ho,q⟩
 unfold opNe at ho
 split at ho
 case isFalse=>cases ho
 rename_i hc
 cases ho
 simp only [eqOk,Bool.and_eq_true,decide_eq_true_eq] at hc
 obtain ⟨as,ra⟩:=(z8_ I).1 r1 hc.1.1 rx
 obtain ⟨bs,rb⟩:=(z8_ I).1 r2 hc.1.2 ry
 exact SeqAt.compareNe_reads ra rb hc.1.1 hc.1.2 (by have:=Nat.min_le_left d.depth e.depth;lia) ⟨.bl _,H,I,rfl,q⟩
theorem We_ (hu:X.A.units+1100<cLine):OpR X (compareOp .NotIn) (rD2 X.K yJ_):=by
 intro pins s σ H x y v u Q I rx ry ⟨d,e,b,r1,r2,ho,q⟩
 unfold yJ_ at ho
 split at ho
 ·rename_i xs
  split at ho
  case isFalse=>cases ho
  rename_i hc
  cases ho
  simp only [inOk,Bool.and_eq_true,decide_eq_true_eq] at hc
  obtain ⟨as,ra⟩:=(z8_ I).1 r1 hc.1.2 rx
  obtain ⟨bs,rb⟩:=(z8_ I).1 r2 (by simpa [PyData.canLay0] using hc.1.1) ry
  exact SeqAt.notIn_list_reads rb ra hc.1.1 hc.1.2 (by have:=Nat.min_le_right (PyData.depthAll xs) d.depth;lia) ⟨.bl _,H,I,rfl,q⟩
 ·rename_i xs
  split at ho
  case isFalse=>cases ho
  rename_i hc
  cases ho
  simp only [inOk,Bool.and_eq_true,decide_eq_true_eq] at hc
  obtain ⟨as,ra⟩:=(z8_ I).1 r1 hc.1.2 rx
  obtain ⟨bs,rb⟩:=(z8_ I).1 r2 (by simpa [PyData.canLay0] using hc.1.1) ry
  exact SeqAt.notIn_tuple_reads rb ra hc.1.1 hc.1.2 (by have:=Nat.min_le_right (PyData.depthAll xs) d.depth;lia) ⟨.bl _,H,I,rfl,q⟩
 ·split at ho
  ·cases ho
   obtain rfl:=r1.str_inv;obtain rfl:=r2.str_inv
   exact UC_ pins s σ H _ _ v u Q I rx ry ⟨_,_,rfl,rfl,q⟩
  ·cases ho
 ·cases ho
theorem zal_:OpR X (compareOp .IsNot) (rD2 X.K zbL_):=by
 intro pins s σ H x y v u Q I rx ry ⟨d,e,b,r1,r2,ho,q⟩
 unfold zbL_ at ho
 split at ho
 ·cases ho
  cases r2
  refine zcW_ pins s σ H x _ v u Q I rx ry ⟨rfl,?_⟩
  rw [Rep.non_iff r1]
  exact q
 ·cases ho
end
noncomputable def opIx:D->D->Option D
 | .list ds,.int i=>atI ds i
 | .tuple ds,.int i=>atI ds i
 | .str z,.int i=>if z.length<=sizeLine then (atI z.cps.toList i).map fun c=>.str ⟨#[c]⟩ else none
 | _,_=>none
theorem YY_ {K:Fg} {F:Hp} {vs:List V} {ds:List D} {i:Int} {d:D} (r:RepL K F vs ds) (h:atI ds i=some d):∃ v,atI vs i=some v/\Rep K F v d:=by
 unfold atI at h ⊢
 rw [r.length]
 cases q:ixN ds.length i with
 | none=>rw [q] at h;cases h
 | some j =>
  rw [q] at h
  exact r.get (i:=j) h
theorem zhj_ {K:Fg}:OpD K (rIx K) opIx:=by
 intro G F σ H ρ x y dx dy res Q S ox oy e k
 cases dx<;>first|exact noS e|(cases dy<;>try (exact noS e))
 ·dsimp only [opIx] at e
  split at e
  ·rename_i hz
   obtain ⟨c,hc,rfl⟩:=Option.map_eq_some_iff.mp e
   exact .inr (.inr ⟨_,_,c,ox.str,oy.int,hz,hc,k _ F H (Same.refl _) S (.str _)⟩)
  ·cases e
 ·obtain ⟨a,vs,rfl,h1,h2⟩:=ox.list S.fh
  obtain ⟨v,e1,e2⟩:=YY_ h2 e
  exact .inl ⟨a,vs,_,v,rfl,oy.int,h1,e1,k v F H (Same.refl _) S e2⟩
 ·obtain ⟨a,vs,rfl,h1,h2⟩:=ox.tuple S.fh
  obtain ⟨v,e1,e2⟩:=YY_ h2 e
  exact .inr (.inl ⟨a,vs,_,v,rfl,oy.int,h1,e1,k v F H (Same.refl _) S e2⟩)
theorem Vals.one {v:V} {us:List Value} (h:Vals [v] us):∃ u,us=[u]/\RelV v u:=by
 cases h with|cons a b=>cases b;exact ⟨_,rfl,a⟩
noncomputable def fLen:List D->Option D
 | [.list ds]=>some (.int ds.length)
 | [.tuple ds]=>some (.int ds.length)
 | [.str z]=>if z.length<=sizeLine then some (.int z.length) else none
 | _=>none
noncomputable def u0_:List D->Option D
 | [.list ds]=>some (.tuple ds)
 | [.tuple ds]=>some (.tuple ds)
 | _=>none
noncomputable def zdB_:List D->Option D
 | [.int i,.int j]=>some (.int (if j<i then j else i))
 | _=>none
def rLen (K:Fg):List V->Hp->VK->Prop:=fun xs H Q=>(∃ p ys,xs=[.ref p]/\(SqL K H p ys\/SqT K H p ys)/\Q (.int ys.length) H)\/∃ z,xs=[.str z]/\z.length<=sizeLine/\Q (.int z.length) H
theorem ja_ {X:Cx}:CallR X (.builtin "len") (rLen X.K):=CallR.or U5_ U4_
theorem yq_ {K:Fg}:yU_ K (rLen K) fLen:=by
 intro G F σ H ρ xs ds res Q S o e k
 unfold fLen at e
 split at e
 ·rename_i es
  cases e
  obtain ⟨v,r,rfl,ho,hr⟩:=zv_ o
  obtain rfl:=zL_ hr
  obtain ⟨a,vs,rfl,h1,h2⟩:=ho.list S.fh
  exact .inl ⟨a,vs,rfl,.inl h1,k _ F H (Same.refl _) S (by rw [h2.length];exact .int _)⟩
 ·rename_i es
  cases e
  obtain ⟨v,r,rfl,ho,hr⟩:=zv_ o
  obtain rfl:=zL_ hr
  obtain ⟨a,vs,rfl,h1,h2⟩:=ho.tuple S.fh
  exact .inl ⟨a,vs,rfl,.inr h1,k _ F H (Same.refl _) S (by rw [h2.length];exact .int _)⟩
 ·split at e
  ·rename_i hz
   cases e
   obtain ⟨v,r,rfl,ho,hr⟩:=zv_ o
   obtain rfl:=zL_ hr
   exact .inr ⟨_,by rw [ho.str],hz,k _ F H (Same.refl _) S (.int _)⟩
  ·cases e
 ·cases e
theorem uH_ {K:Fg}:yU_ K (fun xs H Q=>∃ p ys,xs=[.ref p]/\((SqL K H p ys/\∀ l,H l=none->Q (.ref l) (upd H l (.tup ys)))\/(SqT K H p ys/\Q (.ref p) H))) u0_:=by
 intro G F σ H ρ xs ds res Q S o e k
 unfold u0_ at e
 split at e
 ·rename_i es
  cases e
  obtain ⟨v,r,rfl,ho,hr⟩:=zv_ o
  obtain rfl:=zL_ hr
  obtain ⟨a,vs,rfl,h1,h2⟩:=ho.list S.fh
  refine ⟨a,vs,rfl,.inl ⟨h1,fun l hl=>?_⟩⟩
  obtain ⟨s2,S2,r2⟩:=S.newTup hl h2
  exact k _ _ _ s2 S2 r2
 ·rename_i es
  cases e
  obtain ⟨v,r,rfl,ho,hr⟩:=zv_ o
  obtain rfl:=zL_ hr
  have ho:=ho.tup'
  cases ho with
  | tup h1 h2=>exact ⟨_,_,rfl,.inr ⟨SqT.of (S.fh _ _ h1),k _ F H (Same.refl _) S (show Rep K F _ _ from .tup h1 h2)⟩⟩
 ·cases e
theorem zdb_ {K:Fg}:yU_ K (fun xs H Q=>∃ i j,xs=[.int i,.int j]/\Q (.int (if j<i then j else i)) H) zdB_:=by
 intro G F σ H ρ xs ds res Q S o e k
 unfold zdB_ at e
 split at e
 ·cases e
  obtain ⟨v,r,rfl,ho,hr⟩:=zv_ o
  obtain ⟨v2,r2,rfl,ho2,hr2⟩:=zv_ hr
  obtain rfl:=zL_ hr2
  exact ⟨_,_,by rw [ho.int,ho2.int],k _ F H (Same.refl _) S (show Rep K F _ _ from .int _)⟩
 ·cases e
noncomputable def Us_ (d:D):Bool:=d.showable&&d.canLay0&&decide (d.depth<=1000)&&decide (d.shown.length<=sizeLine)
noncomputable def yN_:List D->Option D
 | [d]=>if Us_ d then some (.str d.shown) else none
 | _=>none
def zeI_ (K:Fg):List V->Hp->VK->Prop:=fun xs H Q=>∃ v d,xs=[v]/\Rep K H v d/\Us_ d=true/\Q (.str d.shown) H
theorem uv_ {K:Fg}:yU_ K (zeI_ K) yN_:=by
 intro G F σ H ρ xs ds res Q S o e k
 unfold yN_ at e
 split at e
 ·rename_i d
  split at e
  ·rename_i hc
   cases e
   obtain ⟨v,r,rfl,ho,hr⟩:=zv_ o
   obtain rfl:=zL_ hr
   exact ⟨v,d,rfl,ho.rep S.fh,hc,k _ F H (Same.refl _) S (.str _)⟩
  ·cases e
 ·cases e
theorem jl_ {X:Cx} (hu:X.A.units+1100<cLine) (hg:X.A.guards=some []):CallR X (.builtin "repr") (zeI_ X.K):=by
 intro pins s σ H xs us Q I r h0
 obtain ⟨v,d,rfl,rp,hc,q⟩:=h0
 obtain ⟨u,rfl,ru⟩:=Vals.one r
 simp only [Us_,Bool.and_eq_true,decide_eq_true_eq] at hc
 obtain ⟨as,ra⟩:=(z8_ I).1 rp hc.1.1.2 ru
 have big:∀ a,v=.ref a->wpAny (model X.prog X.w) X.A (call (.builtin "repr") [u]) (EP X pins σ Q) X.xe s:=fun a e=>by
  subst e
  cases ru
  exact repr_of_reads' ra hc.1.1.1 (PyData.noDict_hsm (PyData.hasDict_of_canLay d hc.1.1.2)) hg (by lia) (fun _ _ e=>e) (fun h' u tk hk=>⟨.str _,H,I.kept hk,⟨_,rfl⟩,q⟩) hc.2
 cases rp with
 | non=>cases ru;exact PySem.P.repr_of_none ⟨.str _,H,I.tok _,⟨_,rfl⟩,q⟩
 | bl b=>cases ru;exact PySem.P.repr_of_bool ⟨.str _,H,I.tok _,⟨_,rfl⟩,q⟩
 | int i=>obtain ⟨t,rfl⟩:=ru;exact PySem.P.repr_of_int (by simpa [PyData.showable] using hc.1.1.1) ⟨.str _,H,I.tok _,⟨_,rfl⟩,q⟩
 | str x=>obtain ⟨t,rfl⟩:=ru;exact PySem.P.repr_of_str ⟨.str _,H,I.tok _,⟨_,rfl⟩,q⟩ hc.2
 | tup h1 h2=>exact big _ rfl
 | lst h1 h2=>exact big _ rfl
 | dct h1 h2 h3=>exact big _ rfl
 | dck h1 h2 h3=>exact big _ rfl
 | exc _ _ _ _ _=>exact big _ rfl
 | fn _=>exact big _ rfl
noncomputable def intsOf:List D->Option (List Int)
 | []=>some []
 | .int i::r=>match intsOf r with
  | some l=>some (i::l)
  | none=>none
 | _=>none
theorem jA_:∀ {ds:List D} {ns:List Int},intsOf ds=some ns->ds=ns.map PyData.int
 | [],ns,h=>by cases h;rfl
 | .int i::r,ns,h=>by
  dsimp only [intsOf] at h
  split at h
  ·rename_i l e;cases h;rw [jA_ e];rfl
  ·cases h
 | .none::_,_,h=>by cases h
 | .bool _::_,_,h=>by cases h
 | .str _::_,_,h=>by cases h
 | .list _::_,_,h=>by cases h
 | .tuple _::_,_,h=>by cases h
 | .dict _::_,_,h=>by cases h
theorem Jq_ (ns:List Int):intsOf (ns.map PyData.int)=some ns:=by
 induction ns with
 | nil=>rfl
 | cons n r ih=>simp [intsOf,ih]
theorem j1_ {K:Fg} {F:Hp}:∀ {vs:List V} {ns:List Int},RepL K F vs (ns.map PyData.int)->vs=ns.map V.int
 | _,[],h=>by cases h;rfl
 | _,n::r,h=>by
  cases h with
  | cons a b=>cases a;rw [j1_ b];rfl
theorem uF_:∀ {ns:List Int} {us:List Value},Vals (ns.map V.int) us->∃ ps:List (Int×Tok),us=ps.map (fun p=>Value.int p.1 p.2)/\ps.map Prod.fst=ns
 | [],_,h=>by cases h;exact ⟨[],rfl,rfl⟩
 | n::r,_,h=>by
  cases h with
  | cons a b =>
   obtain ⟨t,rfl⟩:=a
   obtain ⟨ps,rfl,e⟩:=uF_ b
   exact ⟨(n,t)::ps,rfl,by simp [e]⟩
noncomputable def maxL:List Int->Int
 | []=>0
 | n::r=>r.foldl max n
noncomputable def fMax:List D->Option D
 | [.list ds]=>match intsOf ds with
  | some (n::r)=>some (.int (maxL (n::r)))
  | _=>none
 | [.int i,.int j]=>some (.int (if j>i then j else i))
 | _=>none
def VY_ (K:Fg) (f:List Int->Option Int):List V->Hp->VK->Prop:=fun xs H Q=>∃ a ns i,xs=[.ref a]/\SqL K H a (ns.map V.int)/\f ns=some i/\Q (.int i) H
noncomputable def gMax:List Int->Option Int
 | []=>none
 | ns=>some (maxL ns)
theorem uI_ {ps:List (Int×Tok)} {i:Nat}:numAt ps.toArray i=(ps.map Prod.fst).getD i 0:=by
 unfold numAt
 rw [List.getElem?_toArray,List.getD_eq_getElem?_getD,List.getElem?_map]
theorem zfs_ {K:Fg}:yU_ K (fun xs H Q=>VY_ K gMax xs H Q\/∃ i j,xs=[.int i,.int j]/\Q (.int (if j>i then j else i)) H) fMax:=by
 intro G F σ H ρ xs ds res Q S o e k
 unfold fMax at e
 split at e
 ·rename_i es
  split at e
  case h_2=>cases e
  rename_i n r' hns
  cases e
  obtain ⟨v,r,rfl,ho,hr⟩:=zv_ o
  obtain rfl:=zL_ hr
  obtain ⟨a,vs,rfl,h1,h2⟩:=ho.list S.fh
  rw [jA_ hns] at h2
  rw [j1_ h2] at h1
  exact .inl ⟨a,_,_,rfl,h1,rfl,k _ F H (Same.refl _) S (show Rep K F _ _ from .int _)⟩
 ·cases e
  obtain ⟨v,r,rfl,ho,hr⟩:=zv_ o
  obtain ⟨v2,r2,rfl,ho2,hr2⟩:=zv_ hr
  obtain rfl:=zL_ hr2
  exact .inr ⟨_,_,by rw [ho.int,ho2.int],k _ F H (Same.refl _) S (show Rep K F _ _ from .int _)⟩
 ·cases e
theorem W3_ (r:List Int):∀ n:Int,n<=r.foldl max n/\(∀ i∈r,i<=r.foldl max n)/\(r.foldl max n=n\/r.foldl max n∈r):=by
 induction r with
 | nil=>intro n;exact ⟨Int.le_refl _,fun i hi=>(nomatch hi),.inl rfl⟩
 | cons a r ih =>
  intro n
  obtain ⟨h1,h2,h3⟩:=ih (max n a)
  rw [List.foldl_cons]
  refine ⟨by lia,fun i hi=>?_,?_⟩
  ·rcases List.mem_cons.mp hi with rfl|hi
   ·lia
   ·exact h2 i hi
  ·rcases h3 with h3|h3
   ·rw [h3]
    by_cases hna:n<=a
    ·right;rw [show max n a=a by lia];exact List.mem_cons_self
    ·left;lia
   ·right;exact List.mem_cons_of_mem _ h3
theorem UL_ {ns:List Int} (h:ns≠[]):(∀ i∈ns,i<=maxL ns)/\maxL ns∈ns:=by
 cases ns with
 | nil=>exact absurd rfl h
 | cons n r =>
  obtain ⟨h1,h2,h3⟩:=W3_ r n
  refine ⟨fun i hi=>?_,?_⟩
  ·rcases List.mem_cons.mp hi with rfl|hi
   ·exact h1
   ·exact h2 i hi
  ·rcases h3 with h3|h3
   ·show r.foldl max n∈_;rw [h3];exact List.mem_cons_self
   ·exact List.mem_cons_of_mem _ h3
theorem Xu_ {X:Cx} (hc:X.calm=true):CallR X (.builtin "max") (VY_ X.K gMax):=by
 intro pins s σ H xs us Q I r h0
 obtain ⟨a,ns,i,rfl,hq,e,q⟩:=h0
 obtain ⟨u,rfl,ru⟩:=Vals.one r
 cases ru
 obtain ⟨its,rv,pl,hz⟩:=I.list hq
 obtain ⟨ps,rfl,rfl⟩:=uF_ rv
 have hne:ps≠[]:=by rintro rfl;cases e
 have hne':ps.map Prod.fst≠[]:=by simpa using hne
 have ei:i=maxL (ps.map Prod.fst):=by
  cases hp:ps.map Prod.fst with
  | nil=>exact absurd hp hne'
  | cons n r=>rw [hp] at e;cases e;rfl
 subst ei
 have hl:s.heap.IsList a (intItems ps.toArray):=by
  have:=pl.isList
  unfold intItems
  simpa using this
 have hpos:0<ps.length:=List.length_pos_iff.mpr hne
 refine max_intList (I.ok.hd hc) hl (by simpa using hpos) fun v h' tk hv hk=>?_
 obtain ⟨t,rfl⟩:=intItems_at hv
 refine ⟨.int _,H,I.kept hk,⟨_,rfl⟩,?_⟩
 have b:=argBest_gt (numAt ps.toArray) (ps.toArray.size - 1)
 generalize argBest (fun i j=>decide (numAt ps.toArray i>numAt ps.toArray j)) (ps.toArray.size - 1)=m at b hv
 have hm:m<ps.length:=by
  have h0:=b.1
  simp at h0
  lia
 have hsp:=UL_ hne'
 have e1:numAt ps.toArray m=maxL (ps.map Prod.fst):=by
  refine Int.le_antisymm ?_ ?_
  ·refine hsp.1 _ ?_
   rw [uI_,List.getD_eq_getElem?_getD,List.getElem?_eq_getElem (by simpa using hm)]
   exact List.getElem_mem _
  ·obtain ⟨j,hj,ej⟩:=List.getElem_of_mem hsp.2
   have h0:=b.2 j (by simp at hj ⊢;lia)
   rw [uI_,List.getD_eq_getElem?_getD,List.getElem?_eq_getElem hj] at h0
   rw [<-ej]
   exact h0
 rw [e1]
 exact q
theorem zbT_ {kvs:List (List Key×V)} {es:List (D×D)} (h:es.map (·.1)=kvs.map (fun p=>keyT p.1)):isXe es=false:=by
 cases es with
 | nil=>rfl
 | cons e r =>
  cases kvs with
  | nil=>cases h
  | cons k ks =>
   obtain ⟨e1,e2⟩:=e
   simp only [List.map_cons,List.cons.injEq] at h
   rw [h.1]
   rfl
theorem zbU_ {kvs:List (Key×V)} {es:List (D×D)} (h:es.map (·.1)=kvs.map (fun p=>keyD p.1)):isXe es=false:=by
 cases es with
 | nil=>rfl
 | cons e r =>
  cases kvs with
  | nil=>cases h
  | cons k ks =>
   obtain ⟨e1,e2⟩:=e
   obtain ⟨k1,k2⟩:=k
   simp only [List.map_cons,List.cons.injEq] at h
   rw [h.1]
   cases k1<;>rfl
section
variable {K:Fg} {G:Gh} {F H:Hp} {σ:L2.St} {ρ ρ':En}
theorem _root_.L3.StOk.weak (S:StOk K G F σ H ρ) (hl:ρ'.length=ρ.length) (h:∀ (i:Nat) (av:AV),ρ'[i]? = some (some av)->ρ[i]? = some (some av)) (hp:∀ (i:Nat) (c:OC),ρ[i]? = some (some (AV.op c))->ρ'[i]? = some (some (AV.op c))):StOk K G F σ H ρ':=by
 have ow':∀ j c,own ρ' j c->own ρ j c:=fun j c q=>q.imp (h _ _) (h _ _)
 refine ⟨S.fh,S.oh,S.fo,S.ln.trans hl.symm,fun j d q=>S.fz j d (h _ _ q),fun j c q=>S.ow j c (ow' j c q),fun j k c e a h1 h2=>S.dj j k c e a (ow' j c h1) (ow' k e h2),fun j a q=>?_,fun j c q=>S.pq j c (h _ _ q),S.fb⟩
 obtain ⟨q1,c,q2⟩:=S.pp j a q
 exact ⟨q1,c,hp _ _ q2⟩
theorem uP_ {k:Nat} {i:Nat} {av:AV} (h:(ρ++List.replicate k none)[i]? = some (some av)):ρ[i]? = some (some av):=by
 by_cases hi:i<ρ.length
 ·rw [List.getElem?_append_left hi] at h;exact h
 ·rw [List.getElem?_append_right (Nat.not_lt.mp hi),List.getElem?_replicate] at h
  split at h<;>cases h
theorem _root_.L3.StOk.grow (S:StOk K G F σ H ρ) (k:Nat):StOk K G F (σ++List.replicate k none) H (ρ++List.replicate k none):=by
 have ap:∀ {i:Nat} {v:V},σ[i]? = some (some v)->(σ++List.replicate k none)[i]? = some (some v):=fun {i v} e=>by
  rw [List.getElem?_append_left (List.getElem?_eq_some_iff.mp e).1];exact e
 have apr:∀ {i:Nat} {v:AV},ρ[i]? = some (some v)->(ρ++List.replicate k none)[i]? = some (some v):=fun {i v} e=>by
  rw [List.getElem?_append_left (List.getElem?_eq_some_iff.mp e).1];exact e
 have ow':∀ i c,own (ρ++List.replicate k none) i c->own ρ i c:=fun i c h=>by
  rcases h with h|h
  ·exact .inl (uP_ h)
  ·exact .inr (uP_ h)
 refine ⟨S.fh,S.oh,S.fo,by simp [S.ln],fun i d h=>?_,fun i c h=>?_,fun i j c e a h1 h2 e1 e2=>?_,fun i a h=>?_,fun i c h=>S.pq i c (uP_ h),S.fb⟩
 ·obtain ⟨v,e,r⟩:=S.fz i d (uP_ h);exact ⟨v,ap e,r⟩
 ·obtain ⟨a,e,oa⟩:=S.ow i c (ow' i c h);exact ⟨a,ap e,oa⟩
 ·have o1:=ow' i c h1
  have o2:=ow' j e h2
  obtain ⟨a1,q1,_⟩:=S.ow i c o1
  obtain ⟨a2,q2,_⟩:=S.ow j e o2
  rw [ap q1] at e1;rw [ap q2] at e2
  injection e1 with e1;injection e2 with e2
  exact S.dj i j c e a o1 o2 (by rw [q1,e1]) (by rw [q2,e2])
 ·obtain ⟨e,c,q⟩:=S.pp i a h;exact ⟨ap e,c,apr q⟩
theorem _root_.L3.StOk.shrink (S:StOk K G F σ H ρ) {n:Nat} (hn:n<=ρ.length) (hp:∀ i a,G.P i=some a->i<n):StOk K G F (σ.take n) H (ρ.take n):=by
 have tk:∀ {i:Nat} {v:AV},(ρ.take n)[i]? = some (some v)->i<n/\ρ[i]? = some (some v):=fun {i v} e=>by
  have hi:i<n:=by
   have:=(List.getElem?_eq_some_iff.mp e).1
   rw [List.length_take] at this;lia
  rw [List.getElem?_take_of_lt hi] at e
  exact ⟨hi,e⟩
 have ow':∀ i c,own (ρ.take n) i c->i<n/\own ρ i c:=fun i c h=>by
  rcases h with h|h
  ·exact ⟨(tk h).1,.inl (tk h).2⟩
  ·exact ⟨(tk h).1,.inr (tk h).2⟩
 refine ⟨S.fh,S.oh,S.fo,by simp [S.ln],fun i d h=>?_,fun i c h=>?_,fun i j c e a h1 h2 e1 e2=>?_,fun i a h=>?_,fun i c h=>S.pq i c (tk h).2,S.fb⟩
 ·obtain ⟨v,e,r⟩:=S.fz i d (tk h).2;exact ⟨v,by rw [List.getElem?_take_of_lt (tk h).1];exact e,r⟩
 ·obtain ⟨a,e,oa⟩:=S.ow i c (ow' i c h).2;exact ⟨a,by rw [List.getElem?_take_of_lt (ow' i c h).1];exact e,oa⟩
 ·rw [List.getElem?_take_of_lt (ow' i c h1).1] at e1
  rw [List.getElem?_take_of_lt (ow' j e h2).1] at e2
  exact S.dj i j c e a (ow' i c h1).2 (ow' j e h2).2 e1 e2
 ·obtain ⟨e,c,q⟩:=S.pp i a h
  exact ⟨by rw [List.getElem?_take_of_lt (hp i a h)];exact e,c,by rw [List.getElem?_take_of_lt (hp i a h)];exact q⟩
end
theorem Z5_ {α:Type} {l l':List α} {n:Nat} (h:∀ j,j<n->l'[j]? = l[j]?) (hl:l.length=n):l'.take n=l:=by
 apply List.ext_getElem?
 intro i
 by_cases hi:i<n
 ·rw [List.getElem?_take_of_lt hi,h i hi]
 ·rw [List.getElem?_eq_none_iff.mpr (by rw [List.length_take];lia),List.getElem?_eq_none_iff.mpr (by lia)]
inductive Kd where
 | dead|f|o|p|t|k
@[reducible] noncomputable def SOf:List Kd->Type
 | []=>Unit
 | .dead::r=>SOf r
 | .f::r=>D×SOf r
 | .o::r=>List D×SOf r
 | .p::r=>List D×SOf r
 | .t::r=>List (D×D)×SOf r
 | .k::r=>List (D×D)×SOf r
noncomputable def rd:(sh:List Kd)->En->Option (SOf sh)
 | [],[]=>some ()
 | .dead::r,x::ρ=>match x with
  | some (.op _)=>none
  | _=>rd r ρ
 | .f::r,x::ρ=>match x with
  | some (.fz d)=>match rd r ρ with
   | some s=>some (d,s)
   | none=>none
  | _=>none
 | .o::r,x::ρ=>match x with
  | some (.ol (.l ds))=>match rd r ρ with
   | some s=>some (ds,s)
   | none=>none
  | _=>none
 | .p::r,x::ρ=>match x with
  | some (.op (.l ds))=>match rd r ρ with
   | some s=>some (ds,s)
   | none=>none
  | _=>none
 | .t::r,x::ρ=>match x with
  | some (.ol (.t ds))=>match rd r ρ with
   | some s=>some (ds,s)
   | none=>none
  | _=>none
 | .k::r,x::ρ=>match x with
  | some (.ol (.k ds))=>match rd r ρ with
   | some s=>some (ds,s)
   | none=>none
  | _=>none
 | _,_=>none
noncomputable def wr:(sh:List Kd)->SOf sh->En
 | [],_=>[]
 | .dead::r,s=>none::wr r s
 | .f::r,s=>some (.fz s.1)::wr r s.2
 | .o::r,s=>some (.ol (.l s.1))::wr r s.2
 | .p::r,s=>some (.op (.l s.1))::wr r s.2
 | .t::r,s=>some (.ol (.t s.1))::wr r s.2
 | .k::r,s=>some (.ol (.k s.1))::wr r s.2
def Wk (w ρ:En):Prop:=w.length=ρ.length/\(∀ (i:Nat) (av:AV),w[i]? = some (some av)->ρ[i]? = some (some av))/\(∀ (i:Nat) (c:OC),ρ[i]? = some (some (AV.op c))->w[i]? = some (some (AV.op c)))
theorem Zs_ {w ρ:En} {x:Option AV} (h:Wk w ρ):Wk (x::w) (x::ρ):=by
 refine ⟨congrArg (· + 1) h.1,fun i av q=>?_,fun i c q=>?_⟩
 ·cases i with
  | zero=>exact q
  | succ i=>exact h.2.1 i av q
 ·cases i with
  | zero=>exact q
  | succ i=>exact h.2.2 i c q
theorem zck_ {w ρ:En} {x:Option AV} (hx:∀ c,x≠some (AV.op c)) (h:Wk w ρ):Wk (none::w) (x::ρ):=by
 refine ⟨congrArg (· + 1) h.1,fun i av q=>?_,fun i c q=>?_⟩
 ·cases i with
  | zero=>cases q
  | succ i=>exact h.2.1 i av q
 ·cases i with
  | zero=>exact absurd (Option.some.inj q) (hx c)
  | succ i=>exact h.2.2 i c q
theorem JJ_:∀ (sh:List Kd) (ρ:En) (s:SOf sh),rd sh ρ=some s->Wk (wr sh s) ρ
 | [],[],s,h=>⟨rfl,fun i av q=>q,fun i c q=>q⟩
 | [],_::_,s,h=>by cases h
 | a::r,[],s,h=>by cases a<;>cases h
 | .dead::r,x::ρ,s,h=>by
  dsimp only [rd] at h
  split at h
  ·cases h
  ·rename_i hx
   exact zck_ hx (JJ_ r ρ s h)
 | .f::r,x::ρ,s,h=>by
  dsimp only [rd] at h
  split at h
  ·split at h
   ·rename_i s' e
    cases h
    exact Zs_ (JJ_ r ρ s' e)
   ·cases h
  ·cases h
 | .o::r,x::ρ,s,h=>by
  dsimp only [rd] at h
  split at h
  ·split at h
   ·rename_i s' e
    cases h
    exact Zs_ (JJ_ r ρ s' e)
   ·cases h
  ·cases h
 | .p::r,x::ρ,s,h=>by
  dsimp only [rd] at h
  split at h
  ·split at h
   ·rename_i s' e
    cases h
    exact Zs_ (JJ_ r ρ s' e)
   ·cases h
  ·cases h
 | .t::r,x::ρ,s,h=>by
  dsimp only [rd] at h
  split at h
  ·split at h
   ·rename_i s' e
    cases h
    exact Zs_ (JJ_ r ρ s' e)
   ·cases h
  ·cases h
 | .k::r,x::ρ,s,h=>by
  dsimp only [rd] at h
  split at h
  ·split at h
   ·rename_i s' e
    cases h
    exact Zs_ (JJ_ r ρ s' e)
   ·cases h
  ·cases h
theorem _root_.L3.StOk.rd {K:Fg} {G:Gh} {F H:Hp} {σ:L2.St} {ρ:En} {sh:List Kd} {s:SOf sh} (S:StOk K G F σ H ρ) (h:L4.rd sh ρ=some s):StOk K G F σ H (wr sh s):=by
 obtain ⟨h1,h2,h3⟩:=JJ_ sh ρ s h
 exact S.weak h1 h2 h3
noncomputable def rdk {S:Type} (sh:List Kd) (k:SOf sh->M S) (ρ:En):M S:=match rd sh ρ with
 | some s=>k s
 | none=>.bad
noncomputable abbrev Ev (S α:Type):=(Ex->En->M S)->(α->En->M S)->En->M S
structure KS (S:Type) where
 nx:En->M S
 rt:D->En->M S
 rl:List D->En->M S
 bk:En->M S
 ct:En->M S
 x:Ex->En->M S
def KOk {S:Type} (OK:M S->Prop):Prop:=¬ OK .bad
def XL {S:Type} (X:Cx) (OK:M S->Prop) (x:Ex->En->M S) (G:Gh):Prop:=∀ F ρ e,OK (x e ρ)->XW X G F ρ e
def AE {S:Type} (X:Cx) (e:Expr) (m:Ev S D):Prop :=
 ∀ (OK:M S->Prop) (x:Ex->En->M S) (k:D->En->M S) (G:Gh) (F:Hp) (σ:L2.St) (H:Hp) (ρ:En) (Q:VK),KOk OK->XL X OK x G->StOk X.K G F σ H ρ->OK (m x k ρ) ->
  (∀ d v F' H' ρ',Same F F'->StOk X.K G F' σ H' ρ'->Rep X.K F' v d->OK (k d ρ')->Q v H')->tSem X e σ H Q
def AEt {S:Type} (X:Cx) (e:Expr) (m:Ev S Bool):Prop :=
 ∀ (OK:M S->Prop) (x:Ex->En->M S) (k:Bool->En->M S) (G:Gh) (F:Hp) (σ:L2.St) (H:Hp) (ρ:En) (Q:Bool->Hp->Prop),KOk OK->XL X OK x G->StOk X.K G F σ H ρ->OK (m x k ρ) ->
  (∀ d F' H' ρ',Same F F'->StOk X.K G F' σ H' ρ'->OK (k d ρ')->Q d H')->QR_ X e σ H Q
def AEw {S:Type} (X:Cx) (e:Expr) (m:Ev S Bool):Prop :=
 ∀ (OK:M S->Prop) (x:Ex->En->M S) (k:Bool->En->M S) (G:Gh) (F:Hp) (σ:L2.St) (H:Hp) (ρ:En) (Q:Bool->Hp->Prop),KOk OK->XL X OK x G->StOk X.K G F σ H ρ->OK (m x k ρ) ->
  (∀ d F' H' ρ',Same F F'->StOk X.K G F' σ H' ρ'->OK (k d ρ')->Q d H')->QQ_ X e σ H Q
def AEb {S:Type} (X:Cx) (e:Expr) (m:Ev S Bool):Prop :=
 ∀ (OK:M S->Prop) (x:Ex->En->M S) (k:Bool->En->M S) (G:Gh) (F:Hp) (σ:L2.St) (H:Hp) (ρ:En) (Q:VK),KOk OK->XL X OK x G->StOk X.K G F σ H ρ->OK (m x k ρ) ->
  (∀ d F' H' ρ',Same F F'->StOk X.K G F' σ H' ρ'->OK (k d ρ')->Q (.bl d) H')->tSem X e σ H Q
def AEa {S:Type} (X:Cx) (es:List Expr) (m:Ev S (List D)):Prop :=
 ∀ (OK:M S->Prop) (x:Ex->En->M S) (k:List D->En->M S) (G:Gh) (F:Hp) (σ:L2.St) (H:Hp) (ρ:En) (Q:List V->Hp->Prop),KOk OK->XL X OK x G->StOk X.K G F σ H ρ->OK (m x k ρ) ->
  (∀ ds vs F' H' ρ',Same F F'->StOk X.K G F' σ H' ρ'->vs.length=es.length->RepL X.K F' vs ds->OK (k ds ρ')->Q vs H')->u8_ X es σ H Q
def AEl {S:Type} (X:Cx) (e:Expr) (m:Ev S (List D)):Prop :=
 ∀ (OK:M S->Prop) (x:Ex->En->M S) (k:List D->En->M S) (G:Gh) (F:Hp) (σ:L2.St) (H:Hp) (ρ:En) (Q:VK),KOk OK->XL X OK x G->StOk X.K G F σ H ρ->OK (m x k ρ) ->
  (∀ ds v F' H' ρ',Same F F'->StOk X.K G F' σ H' ρ'->Frs X.K G F' σ H' ρ' v (.l ds)->OK (k ds ρ')->Q v H')->tSem X e σ H Q
noncomputable def ePu {S α:Type} (p:Pu α):Ev S α:=fun x k ρ=>(p ρ).on (fun e=>x e ρ) (fun a=>k a ρ)
section
variable {S α:Type} {X:Cx} {OK:M S->Prop} {x:Ex->En->M S} {k:α->En->M S} {G:Gh} {F:Hp} {σ:L2.St} {ρ:En} {p:Pu α} {C:α->Hp->Hp->Prop}
theorem W.of (hO:KOk OK) (hX:XL X OK x G) (h:OK (ePu p x k ρ)) (w:∀ a F' H',Same F F'->StOk X.K G F' σ H' ρ->OK (k a ρ)->C a F' H'):W X G F σ ρ (p ρ) C:=by
 unfold ePu at h
 cases hp:p ρ with
 | ret a=>rw [hp] at h;exact fun F' H' s S'=>w a F' H' s S' h
 | exc e=>rw [hp] at h;exact hX F ρ e h
 | bad=>rw [hp] at h;exact hO h
end
section
variable {S:Type} {X:Cx} {e a b c:Expr} {es rest:List Expr} {p:Pu D} {pt:Pu Bool} {ps:Pu (List D)} {pos:Pos}
theorem zk_ (h:AP X e p):AE (S:=S) X e (ePu p):=fun OK x k G F σ H ρ Q hO hX St ok kk=>h G F σ H ρ Q St (W.of hO hX ok fun d F' H' s S' o v r=>kk d v F' H' ρ s S' r o)
theorem jT_ (h:AT X e pt):AEt (S:=S) X e (ePu pt):=fun OK x k G F σ H ρ Q hO hX St ok kk=>h G F σ H ρ Q St (W.of hO hX ok fun d F' H' s S' o=>kk d F' H' ρ s S' o)
theorem uq_ (h:AL X e ps):AEl (S:=S) X e (ePu ps):=fun OK x k G F σ H ρ Q hO hX St ok kk=>h G F σ H ρ Q St (W.of hO hX ok fun d F' H' s S' o v r=>kk d v F' H' ρ s S' r o)
noncomputable def eB (m:Ev S Bool):Ev S D:=fun x k ρ=>m x (fun b ρ1=>k (.bool b) ρ1) ρ
noncomputable def eZ (m:Ev S (List D)):Ev S D:=fun x k ρ=>m x (fun ds ρ1=>k (.list ds) ρ1) ρ
def eBin (f:D->D->Option D) (a b:Ev S D):Ev S D:=fun x k ρ=>a x (fun d ρ1=>b x (fun d2 ρ2=>(oM (f d d2)).on (fun e=>x e ρ2) (fun r=>k r ρ2)) ρ1) ρ
def zgj_ (f:D->D->Option Bool) (a b:Ev S D):Ev S Bool:=fun x k ρ=>a x (fun d ρ1=>b x (fun d2 ρ2=>(oM (f d d2)).on (fun e=>x e ρ2) (fun r=>k r ρ2)) ρ1) ρ
noncomputable def eNil:Ev S (List D):=fun _ k ρ=>k [] ρ
noncomputable def zhC_ (m:Ev S D) (ms:Ev S (List D)):Ev S (List D):=fun x k ρ=>m x (fun d ρ1=>ms x (fun ds ρ2=>k (d::ds) ρ2) ρ1) ρ
def zhD_ (f:List D->Option D) (ms:Ev S (List D)):Ev S D:=fun x k ρ=>ms x (fun ds ρ1=>(oM (f ds)).on (fun e=>x e ρ1) (fun r=>k r ρ1)) ρ
noncomputable def eAnd (a b:Ev S Bool):Ev S Bool:=fun x k ρ=>a x (fun t ρ1=>if t then b x k ρ1 else k false ρ1) ρ
theorem jK_ {α:Type} {OK:M S->Prop} (hO:KOk OK) {o:Option α} {x:Ex->M S} {k:α->M S} (h:OK ((oM o).on x k)):∃ a,o=some a/\OK (k a):=by
 cases o with
 | none=>exact (hO h).elim
 | some a=>exact ⟨a,rfl,h⟩
theorem zge_ {α:Type} {OK:M S->Prop} (hO:KOk OK) {ds:List α} {x:Ex->M S} {k:List α->M S} (h:OK ((fitM ds).on x k)):ds.length<=sizeLine/\OK (k ds):=by
 unfold fitM at h
 split at h
 ·exact ⟨by assumption,h⟩
 ·exact (hO h).elim
variable {ma mb m:Ev S D} {ta tb tc:Ev S Bool} {ms:Ev S (List D)}
theorem ae_b (h:AEb X e ta):AE X e (eB ta):=fun OK x k G F σ H ρ Q hO hX St ok kk=>h OK x _ G F σ H ρ Q hO hX St ok fun b F' H' ρ' s S' o=>kk _ _ F' H' ρ' s S' (.bl b) o
theorem ae_z (h:AEl X e ms):AE X e (eZ ms):=fun OK x k G F σ H ρ Q hO hX St ok kk=>h OK x _ G F σ H ρ Q hO hX St ok fun ds v F' H' ρ' s S' fr o=>by
 obtain ⟨F2,s2,S2,r2⟩:=S'.settle (v:=v) (ds:=ds) fr
 exact kk _ v F2 H' ρ' (s.trans s2) S2 r2 o
theorem J5_ {r:R2} {Q:VK} {OK:M S->Prop} {x:Ex->En->M S} {G:Gh} {F H:Hp} {σ:L2.St} {ρ:En} {f:D->D->En->M S} (ha:AE X a ma) (hb:AE X b mb) (hO:KOk OK) (hX:XL X OK x G) (St:StOk X.K G F σ H ρ)
  (ok:OK (ma x (fun d ρ1=>mb x (fun d2 ρ2=>f d d2 ρ2) ρ1) ρ)) (k:∀ u v dx dy F' H' ρ',Same F F'->StOk X.K G F' σ H' ρ'->Rep X.K F' u dx->Rep X.K F' v dy->OK (f dx dy ρ')->r u v H' Q):tOp r (tSem X a) (tSem X b) σ H Q :=
 ha OK x _ G F σ H ρ _ hO hX St ok fun d v F1 H1 ρ1 s1 S1 r1 o1=>hb OK x _ G F1 σ H1 ρ1 _ hO hX S1 o1 fun d2 u F2 H2 ρ2 s2 S2 r2 o2=>k v u d d2 F2 H2 ρ2 (s1.trans s2) S2 (r1.mono s2) r2 o2
theorem XN_ {op:Operator} {r:R2} {f:D->D->Option D} (ho:OpR X (binaryOp op) r) (hf:OpD X.K r f) (ha:AE X a ma) (hb:AE X b mb):AE X (.BinOp a op b pos) (eBin f ma mb) :=
 fun OK x k G F σ H ρ Q hO hX St ok kk=>sem (zeZ_ ho zn_ zn_) (J5_ ha hb hO hX St ok fun u v dx dy F' H' ρ' s S' r1 r2 o=>by
  obtain ⟨res,e,o'⟩:=jK_ hO o
  exact hf G F' σ H' ρ' u v dx dy res Q S' (.inl r1) (.inl r2) e fun w F2 H2 s2 S2 r3=>kk res w F2 H2 ρ' (s.trans s2) S2 r3 o')
theorem zhH_ {r:R2} {f:D->D->Option D} (hr:IxR X r) (hf:OpD X.K r f) (ha:AE X a ma) (hb:AE X b mb) (hs:Y2_ b):AE X (.Subscript a b pos) (eBin f ma mb) :=
 fun OK x k G F σ H ρ Q hO hX St ok kk=>sem (zfd_ hr zn_ zn_ hs) (J5_ ha hb hO hX St ok fun u v dx dy F' H' ρ' s S' r1 r2 o=>by
  obtain ⟨res,e,o'⟩:=jK_ hO o
  exact hf G F' σ H' ρ' u v dx dy res Q S' (.inl r1) (.inl r2) e fun w F2 H2 s2 S2 r3=>kk res w F2 H2 ρ' (s.trans s2) S2 r3 o')
theorem zea_ {op:CmpOp} {r:R2} {f:D->D->Option Bool} (ho:OpR X (compareOp op) r) (hf:OpB X.K r f) (ha:AE X a ma) (hb:AE X b mb) (hm:behindInMarks op b=false):AEb X (.Compare a [op] [b] pos) (zgj_ f ma mb) :=
 fun OK x k G F σ H ρ Q hO hX St ok kk=>sem (V9_ ho zn_ zn_ hm) (J5_ ha hb hO hX St ok fun u v dx dy F' H' ρ' s S' r1 r2 o=>by
  obtain ⟨res,e,o'⟩:=jK_ hO o
  exact hf G F' σ H' ρ' u v dx dy res Q S' (.inl r1) (.inl r2) e (kk res F' H' ρ' s S' o'))
theorem zdZ_ {op:CmpOp} {r:R2} {f:D->D->Option Bool} (ho:OpR X (compareOp op) r) (hf:OpB X.K r f) (ha:AE X a ma) (hb:AE X b mb) (hm:behindInMarks op b=false):AEt X (.Compare a [op] [b] pos) (zgj_ f ma mb) :=
 fun OK x k G F σ H ρ Q hO hX St ok kk=>semT (V3_ ho zn_ zn_ hm) (J5_ (Q:=fun x H'=>∃ k,x=.bl k/\Q k H') ha hb hO hX St ok fun u v dx dy F' H' ρ' s S' r1 r2 o=>by
  obtain ⟨res,e,o'⟩:=jK_ hO o
  exact hf G F' σ H' ρ' u v dx dy res _ S' (.inl r1) (.inl r2) e ⟨res,rfl,kk res F' H' ρ' s S' o'⟩)
theorem zM_:AEa (S:=S) X [] eNil:=fun OK x k G F σ H ρ Q hO hX St ok kk=>semA ZC_ (kk [] [] F H ρ (Same.refl _) St rfl .nil ok)
theorem zz_ (h:AE X e m) (hr:AEa X es ms) (hs:starEach (e::es) X.env=(false,eval e X.env)::starEach es X.env):AEa X (e::es) (zhC_ m ms) :=
 fun OK x k G F σ H ρ Q hO hX St ok kk=>semA (jU_ zn_ jk_ hs) (h OK x _ G F σ H ρ _ hO hX St ok fun d v F1 H1 ρ1 s1 S1 r1 o1 =>
  hr OK x _ G F1 σ H1 ρ1 _ hO hX S1 o1 fun ds vs F2 H2 ρ2 s2 S2 hl r2 o2=>kk (d::ds) (v::vs) F2 H2 ρ2 (s1.trans s2) S2 (by simp [hl]) (.cons (r1.mono s2) r2) o2)
theorem zbm_ (ha:AEt X a ta):AEw X (.BoolOp .And [a] pos) ta:=fun OK x k G F σ H ρ Q hO hX St ok kk=>semW (VZ_ ut_) (ha OK x k G F σ H ρ Q hO hX St ok kk)
theorem zdY_ (ha:AEt X a ta) (hb:AEw X (.BoolOp .And (b::rest) pos) tb):AEw X (.BoolOp .And (a::b::rest) pos) (eAnd ta tb) :=
 fun OK x k G F σ H ρ Q hO hX St ok kk=>semW (zbD_ ut_ Uy_) (ha OK x _ G F σ H ρ _ hO hX St ok fun t F1 H1 ρ1 s1 S1 o1=>by
  cases t with
  | true=>refine iteT ?_;exact hb OK x k G F1 σ H1 ρ1 Q hO hX S1 o1 fun d F2 H2 ρ2 s2 S2 o2=>kk d F2 H2 ρ2 (s1.trans s2) S2 o2
  | false=>refine iteF ?_;exact kk false F1 H1 ρ1 s1 S1 o1)
theorem zgB_ (h:AEw X e ta):AEt X e ta:=fun OK x k G F σ H ρ Q hO hX St ok kk=>semT (fun pins s σ H Q I h=>Uy_ _ pins s σ H Q I h) (h OK x k G F σ H ρ Q hO hX St ok kk)
theorem RepL.ors {K:Fg} {F H:Hp} {vs:List V} {ds:List D} (h:RepL K F vs ds):ORs K F H vs ds:=by
 induction vs generalizing ds with
 | nil=>cases h;exact .nil
 | cons v vs ih=>cases h with
  | cons a b=>exact .cons (.inl a) (ih b)
theorem Yh_ {x:Str} {p:Pos} {T:String} {r:List V->Hp->VK->Prop} {f:List D->Option D} (hc:CallR X (.type T) r) (hf:yU_ X.K r f) (hg:Gl X x) (hm:X.mg x=none) (hv:bootBuiltins x=some (.type T)) (ha:AEa X (e::es) ms)
  (hn:x ≠ "__name__") (hdb:(x==("__debug__" : Str))=false) (he:starEach (e::es) X.env=(false,eval e X.env)::starEach es X.env) (hpl:(backTo pos (starEach es X.env)).any (·.1)=false):AE X (.Call (.Name x p) (e::es) [] pos) (zhD_ f ms) :=
 fun OK y k G F σ H ρ Q hO hX St ok kk=>sem (ZB_ hc hg hm hv jk_ hn hdb he hpl) (ha OK y _ G F σ H ρ _ hO hX St ok fun ds vs F1 H1 ρ1 s1 S1 _ r1 o1=>by
  obtain ⟨res,e,o'⟩:=jK_ hO o1
  exact hf G F1 σ H1 ρ1 vs ds res Q S1 (RepL.ors r1) e fun w F2 H2 s2 S2 r3=>kk res w F2 H2 ρ1 (s1.trans s2) S2 r3 o')
end
structure Walk (K:Fg) (J:It) (ds:List D) (F:Hp):Prop where
 go:∀ (i:Nat) (G:Gh) (F2:Hp) (σ:L2.St) (H2:Hp) (ρ:En),Same F F2->StOk K G F2 σ H2 ρ->i<ds.length->J.go i H2
 yld:∀ (i:Nat) (G:Gh) (F2:Hp) (σ:L2.St) (H2:Hp) (ρ:En) (x:V) (H3:Hp) (d:D),Same F F2->StOk K G F2 σ H2 ρ->ds[i]? = some d->J.yld i H2 x H3->∃ F3,Same F2 F3/\StOk K G F3 σ H3 ρ/\Rep K F3 x d
 stop:∀ (G:Gh) (F2:Hp) (σ:L2.St) (H2:Hp) (ρ:En),Same F F2->StOk K G F2 σ H2 ρ->J.stop ds.length H2
theorem VD_ {K:Fg} {F:Hp} {a:Addr} {vs:List V} {ds:List D} (h:SqL K F a vs) (r:RepL K F vs ds):Walk K (Itl K a) ds F where
 go:=fun i G F2 σ H2 ρ s S hi=>by
  have hi':i<vs.length:=by rw [r.length];exact hi
  exact ⟨vs,vs[i],S.fh.seq (s.seq h),by simp [hi']⟩
 yld:=fun i G F2 σ H2 ρ x H3 d s S hd ⟨e,q⟩=>by
  subst e
  obtain ⟨v,e1,e2⟩:=r.get hd
  have:=q vs (S.fh.seq (s.seq h))
  rw [e1] at this
  cases this
  exact ⟨F2,Same.refl _,S,e2.mono s⟩
 stop:=fun G F2 σ H2 ρ s S=>⟨vs,S.fh.seq (s.seq h),by rw [r.length];exact Nat.le_refl _⟩
theorem XR_ {K:Fg} {F:Hp} {a:Addr} {vs:List V} {ds:List D} (h:SqT K F a vs) (r:RepL K F vs ds):Walk K (Itt K a) ds F where
 go:=fun i G F2 σ H2 ρ s S hi=>by
  have hi':i<vs.length:=by rw [r.length];exact hi
  exact ⟨vs,vs[i],zV_ S.fh (zV_ s h),by simp [hi']⟩
 yld:=fun i G F2 σ H2 ρ x H3 d s S hd ⟨e,q⟩=>by
  subst e
  obtain ⟨v,e1,e2⟩:=r.get hd
  have:=q vs (zV_ S.fh (zV_ s h))
  rw [e1] at this
  cases this
  exact ⟨F2,Same.refl _,S,e2.mono s⟩
 stop:=fun G F2 σ H2 ρ s S=>⟨vs,zV_ S.fh (zV_ s h),by rw [r.length];exact Nat.le_refl _⟩
noncomputable def yp_ (lo:Int) (n:Nat):List D:=(List.range n).map fun (i:Nat)=>PyData.int (lo+(i:Int))
theorem j7_ (lo:Int) (n:Nat):(yp_ lo n).length=n:=by simp [yp_]
theorem Z4_ {K:Fg} {F:Hp} (lo:Int) (n:Nat):Walk K (Itr lo n) (yp_ lo n) F where
 go:=fun i G F2 σ H2 ρ s S hi=>by rw [j7_] at hi;exact hi
 yld:=fun i G F2 σ H2 ρ x H3 d s S hd ⟨e,q⟩=>by
  subst e q
  have e':(yp_ lo n)[i]? = some d:=hd
  unfold yp_ at e'
  rw [List.getElem?_map] at e'
  have hi:i<n:=by
   have:=(List.getElem?_eq_some_iff.mp hd).1
   rw [j7_] at this;exact this
  rw [List.getElem?_range hi] at e'
  cases e'
  exact ⟨F2,Same.refl _,S,.int _⟩
 stop:=fun G F2 σ H2 ρ s S=>by rw [j7_];exact Nat.le_refl _
@[irreducible] noncomputable def y7_ (X:Cx) (tg iter:Expr):TI:=fun σ H R=>∀ (pins:List (Addr×Obj)) (s:Shared),Inv X pins σ H s->wpAny (model X.prog X.w) X.A (eval iter X.env) (fun v s1=>wpAny (model X.prog X.w) X.A (pyIter v) (PIE X pins σ tg R) X.xe s1) X.xe s
theorem UA_ {X:Cx} {tg e:Expr}:PI X tg e (y7_ X tg e):=fun pins s σ H R I h=>by unfold y7_ at h;exact h pins s I
theorem semI {X:Cx} {tg e:Expr} {σ:L2.St} {H:Hp} {R:It->Hp->Prop} {t:TI} (h:PI X tg e t) (q:t σ H R):y7_ X tg e σ H R:=by unfold y7_;exact fun pins s I=>h pins s σ H R I q
def AI (X:Cx) (tg e:Expr) (p:Pu (List D)):Prop :=
 ∀ (G:Gh) (F:Hp) (σ:L2.St) (H:Hp) (ρ:En) (R:It->Hp->Prop),StOk X.K G F σ H ρ->W X G F σ ρ (p ρ) (fun ds F' H'=>∀ J,Walk X.K J ds F'->R J H')->y7_ X tg e σ H R
def AEi {S:Type} (X:Cx) (tg e:Expr) (m:Ev S (List D)):Prop :=
 ∀ (OK:M S->Prop) (x:Ex->En->M S) (k:List D->En->M S) (G:Gh) (F:Hp) (σ:L2.St) (H:Hp) (ρ:En) (R:It->Hp->Prop),KOk OK->XL X OK x G->StOk X.K G F σ H ρ->OK (m x k ρ) ->
  (∀ ds J F' H' ρ',Same F F'->StOk X.K G F' σ H' ρ'->Walk X.K J ds F'->OK (k ds ρ')->R J H')->y7_ X tg e σ H R
theorem jJ_ {S:Type} {X:Cx} {tg e:Expr} {ps:Pu (List D)} (h:AI X tg e ps):AEi (S:=S) X tg e (ePu ps):=fun OK x k G F σ H ρ Q hO hX St ok kk=>h G F σ H ρ Q St (W.of hO hX ok fun d F' H' s S' o v r=>kk d v F' H' ρ s S' r o)
noncomputable def iSeq (K:Fg) (tl:TE):TI:=fun σ H R=>tl σ H fun x H1=>(∃ a,x=.ref a/\(∃ xs,SqL K H1 a xs)/\R (Itl K a) H1)\/∃ a,x=.ref a/\(∃ xs,SqT K H1 a xs)/\R (Itt K a) H1
theorem zeW_ {X:Cx} {tg l:Expr} {tl:TE} (hl:PE X l tl):PI X tg l (iSeq X.K tl):=by
 intro pins s σ H R I h
 refine thn (hl pins s σ H _ I h) fun v s1 ⟨x,H1,I1,r1,q1⟩=>?_
 rcases q1 with ⟨a,e,⟨xs,hq⟩,q⟩|⟨a,e,⟨xs,hq⟩,q⟩
 ·subst e
  cases r1
  obtain ⟨its,rv,p,hz⟩:=I1.list hq
  refine wpAny_pyIter_list p.isList ?_
  refine ⟨s1.heap.objs.size,[s1.heap.objs.size],_,_,H1,rfl,I1.kept (t':=s1.toks) fun b o e=>Heap.get?_push_of_some _ e,VF_ a _,⟨_,Heap.get?_push_size _ rfl,rfl,rfl⟩,fun b hb=>?_,q⟩
  have e:b=s1.heap.objs.size:=by simpa using hb
  subst e
  exact I1.fpOk (Nat.le_refl _) (I1.hok.fresh (Nat.le_refl _))
 ·subst e
  cases r1
  obtain ⟨its,rv,p,hz⟩:=I1.tuple hq
  refine wpAny_pyIter_tuple (show s1.heap.IsTuple a its.toArray from p) ?_
  refine ⟨s1.heap.objs.size,[s1.heap.objs.size],_,_,H1,rfl,I1.kept (t':=s1.toks) fun b o e=>Heap.get?_push_of_some _ e,QM_ a _,⟨_,Heap.get?_push_size _ rfl,rfl,rfl⟩,fun b hb=>?_,q⟩
  have e:b=s1.heap.objs.size:=by simpa using hb
  subst e
  exact I1.fpOk (Nat.le_refl _) (I1.hok.fresh (Nat.le_refl _))
noncomputable def seqD:D->Option (List D)
 | .list ds=>some ds
 | .tuple ds=>some ds
 | _=>none
def pIt (p:Pu D):Pu (List D):=fun ρ=>bd (p ρ) fun d=>oM (seqD d)
noncomputable def u9_ (i:Int):Bool:=decide (-(2^62)<=i)&&decide (i<2^62)
theorem jv_ {i:Int} (h:u9_ i=true) : -(2^62)<=i/\i<2^62:=by
 unfold u9_ at h
 simp only [Bool.and_eq_true,decide_eq_true_eq] at h
 exact h
noncomputable def zZ_:List D->Option (List D)
 | [.int j]=>if u9_ j then some (yp_ 0 j.toNat) else none
 | _=>none
noncomputable def yO_:List D->Option (List D)
 | [.int i,.int j]=>if u9_ i&&u9_ j then some (yp_ i (j - i).toNat) else none
 | _=>none
def zgi_ {S:Type} (f:List D->Option (List D)) (ms:Ev S (List D)):Ev S (List D):=fun x k ρ=>ms x (fun ds ρ1=>(oM (f ds)).on (fun e=>x e ρ1) (fun r=>k r ρ1)) ρ
section
variable {S:Type} {X:Cx} {tg e a b:Expr} {pp:Pu D} {ps:Pa (List D)} {m:Ev S D} {ms:Ev S (List D)} {p pos:Pos}
theorem XY_ {F H:Hp} {v:V} {d:D} {ds:List D} {R:It->Hp->Prop} (s:Same F H) (r:Rep X.K F v d) (hd:seqD d=some ds) (k:∀ J,Walk X.K J ds F->R J H) :
  (∃ a,v=.ref a/\(∃ xs,SqL X.K H a xs)/\R (Itl X.K a) H)\/∃ a,v=.ref a/\(∃ xs,SqT X.K H a xs)/\R (Itt X.K a) H:=by
 cases d with
 | list xs =>
  cases hd
  obtain ⟨a,vs,rfl,h1,h2⟩:=r.lst_inv
  exact .inl ⟨_,rfl,⟨_,s.seq h1⟩,k _ (VD_ h1 h2)⟩
 | tuple xs =>
  cases hd
  obtain ⟨a,vs,rfl,h1,h2⟩:=r.tup_inv
  exact .inr ⟨_,rfl,⟨_,SqT.of (s _ _ h1)⟩,k _ (XR_ (SqT.of h1) h2)⟩
 | _=>exact noS hd
theorem ZV_ (h:AP X e pp):AI X tg e (pIt pp):=fun G F σ H ρ R S w=>semI (zeW_ zn_) (h G F σ H ρ _ S (w.bind.imp fun d F1 H1 s1 S1 w1 v r1=>by
 obtain ⟨ds,hd,k⟩:=w1.opt
 exact XY_ S1.fh r1 hd (k F1 H1 (Same.refl _) S1)))
theorem Ux_ {F H:Hp} {vs:List V} {ds out:List D} {R:It->Hp->Prop} (r:RepL X.K F vs ds) (h:zZ_ ds=some out) (k:∀ J,Walk X.K J out F->R J H):∃ j,vs=[.int j] /\ -(2^62)<=j/\j<2^62/\R (Itr 0 j.toNat) H:=by
 unfold zZ_ at h
 split at h
 ·rename_i j
  split at h
  ·rename_i hs
   cases h
   obtain ⟨v,rfl,r1⟩:=r.one_inv
   obtain rfl:=r1.int_inv
   exact ⟨j,rfl,(jv_ hs).1,(jv_ hs).2,k _ (Z4_ 0 j.toNat)⟩
  ·cases h
 ·cases h
theorem VU_ {F H:Hp} {vs:List V} {ds out:List D} {R:It->Hp->Prop} (r:RepL X.K F vs ds) (h:yO_ ds=some out) (k:∀ J,Walk X.K J out F->R J H) :
  ∃ i j,vs=[.int i,.int j]/\(-(2^62)<=i/\i<2^62 /\ -(2^62)<=j/\j<2^62)/\R (Itr i (j - i).toNat) H:=by
 unfold yO_ at h
 split at h
 ·rename_i i j
  split at h
  ·rename_i hs
   cases h
   rw [Bool.and_eq_true] at hs
   obtain ⟨v,u,rfl,r1,r3⟩:=r.two_inv
   obtain rfl:=r1.int_inv
   obtain rfl:=r3.int_inv
   exact ⟨i,j,rfl,⟨(jv_ hs.1).1,(jv_ hs.1).2,(jv_ hs.2).1,(jv_ hs.2).2⟩,k _ (Z4_ i (j - i).toNat)⟩
  ·cases h
 ·cases h
theorem j4_ (hg:Gl X "range") (hm:X.mg "range" = none) (ha:AA X [a] ps) (hs:starEach [a] X.env=[(false,eval a X.env)]):AI X tg (.Call (.Name "range" p) [a] [] pos) (Jg_ zZ_ ps) :=
 fun G F σ H ρ R S w=>semI (UB_ hg hm jk_ hs) (ha G F σ H ρ _ _ _ S w fun ds vs F1 H1 s1 S1 _ r1 w1=>by
  obtain ⟨out,hd,k⟩:=w1.opt
  exact Ux_ r1 hd (k F1 H1 (Same.refl _) S1))
theorem XK_ (hg:Gl X "range") (hm:X.mg "range" = none) (ha:AA X [a,b] ps) (hs:starEach [a,b] X.env=[(false,eval a X.env),(false,eval b X.env)]) (hs2:starEach [b] X.env=[(false,eval b X.env)]):AI X tg (.Call (.Name "range" p) [a,b] [] pos) (Jg_ yO_ ps) :=
 fun G F σ H ρ R S w=>semI (V6_ hg hm jk_ hs hs2) (ha G F σ H ρ _ _ _ S w fun ds vs F1 H1 s1 S1 _ r1 w1=>by
  obtain ⟨out,hd,k⟩:=w1.opt
  exact VU_ r1 hd (k F1 H1 (Same.refl _) S1))
theorem Vy_ (hg:Gl X "range") (hm:X.mg "range" = none) (ha:AEa X [a] ms) (hs:starEach [a] X.env=[(false,eval a X.env)]):AEi X tg (.Call (.Name "range" p) [a] [] pos) (zgi_ zZ_ ms) :=
 fun OK x k G F σ H ρ R hO hX St ok kk=>semI (UB_ hg hm jk_ hs) (ha OK x _ G F σ H ρ _ hO hX St ok fun ds vs F1 H1 ρ1 s1 S1 _ r1 o1=>by
  obtain ⟨out,hd,o⟩:=jK_ hO o1
  exact Ux_ r1 hd fun J wk=>kk out J F1 H1 ρ1 s1 S1 wk o)
end
noncomputable abbrev Tg (S:Type):=D->(En->M S)->En->M S
noncomputable def Za_ (ρ:En) (i:Nat):Bool:=decide (i<ρ.length)&&(match ρ[i]? with
 | some (some (.op _))=>false
 | _=>true)
theorem jL_ {ρ:En} {i:Nat} (h:Za_ ρ i=true):i<ρ.length/\∀ c,ρ[i]? ≠ some (some (.op c)):=by
 unfold Za_ at h
 rw [Bool.and_eq_true] at h
 refine ⟨by simpa using h.1,fun c e=>?_⟩
 rw [e] at h
 exact absurd h.2 (by simp)
@[irreducible] noncomputable def QS_ (X:Cx) (tg:Expr):TG:=fun v σ H Q=>∀ (pins:List (Addr×Obj)) (s:Shared) (u:Value),Inv X pins σ H s->RelV v u->wpAny (model X.prog X.w) X.A (assign tg X.env u) (fun _ s'=>∃ σ' H',Inv X pins σ' H' s'/\Q σ' H') X.xe s
@[irreducible] noncomputable def Uj_ (X:Cx) (tgs:List Expr):TGs:=fun vs σ H Q=>∀ (pins:List (Addr×Obj)) (s:Shared) (us:List Value),Inv X pins σ H s->Vals vs us->wpAny (model X.prog X.w) X.A (assignInOrder ((assignEach tgs X.env).map (·.2)) us) (fun _ s'=>∃ σ' H',Inv X pins σ' H' s'/\Q σ' H') X.xe s
theorem ZA_ {X:Cx} {tg:Expr}:PG X tg (QS_ X tg):=fun pins s σ H v u Q I r h=>by unfold QS_ at h;exact h pins s u I r
theorem V7_ {X:Cx} {tgs:List Expr}:PGs X tgs (Uj_ X tgs):=fun pins s σ H vs us Q I r h=>by unfold Uj_ at h;exact h pins s us I r
theorem semG {X:Cx} {tg:Expr} {t:TG} {v:V} {σ:L2.St} {H:Hp} {Q:L2.St->Hp->Prop} (h:PG X tg t) (q:t v σ H Q):QS_ X tg v σ H Q:=by unfold QS_;exact fun pins s u I r=>h pins s σ H v u Q I r q
theorem zer_ {X:Cx} {tgs:List Expr} {t:TGs} {vs:List V} {σ:L2.St} {H:Hp} {Q:L2.St->Hp->Prop} (h:PGs X tgs t) (q:t vs σ H Q):Uj_ X tgs vs σ H Q:=by unfold Uj_;exact fun pins s us I r=>h pins s σ H vs us Q I r q
def AG {S:Type} (X:Cx) (n:Nat) (tg:Expr) (st:Tg S):Prop :=
 ∀ (OK:M S->Prop) (k:En->M S) (G:Gh) (F:Hp) (σ:L2.St) (H:Hp) (ρ:En) (v:V) (d:D) (Q:L2.St->Hp->Prop),KOk OK->StOk X.K G F σ H ρ->Rep X.K F v d->OK (st d k ρ) ->
  (∀ σ' ρ',StOk X.K G F σ' H ρ'->(∀ j,j<n->σ'[j]? = σ[j]? /\ ρ'[j]? = ρ[j]?)->σ'.length=σ.length->ρ'.length=ρ.length->OK (k ρ')->Q σ' H)->QS_ X tg v σ H Q
def AGs {S:Type} (X:Cx) (n:Nat) (tgs:List Expr) (st:List D->(En->M S)->En->M S):Prop :=
 ∀ (OK:M S->Prop) (k:En->M S) (G:Gh) (F:Hp) (σ:L2.St) (H:Hp) (ρ:En) (vs:List V) (ds:List D) (Q:L2.St->Hp->Prop),KOk OK->StOk X.K G F σ H ρ->RepL X.K F vs ds->OK (st ds k ρ) ->
  (∀ σ' ρ',StOk X.K G F σ' H ρ'->(∀ j,j<n->σ'[j]? = σ[j]? /\ ρ'[j]? = ρ[j]?)->σ'.length=σ.length->ρ'.length=ρ.length->OK (k ρ')->Q σ' H)->Uj_ X tgs vs σ H Q
noncomputable def gSet {S:Type} (i:Nat):Tg S:=fun d k ρ=>match Za_ ρ i with
 | true=>k (ρ.set i (some (.fz d)))
 | false=>.bad
noncomputable def zhy_ {S:Type}:List D->(En->M S)->En->M S
 | [],k,ρ=>k ρ
 | _,_,_=>.bad
noncomputable def zfY_ {S:Type} (t:Tg S) (ts:List D->(En->M S)->En->M S):List D->(En->M S)->En->M S
 | d::ds,k,ρ=>t d (fun ρ1=>ts ds k ρ1) ρ
 | [],_,_=>.bad
noncomputable def un2 {S:Type} (d:D) (k:D->D->M S):M S:=match d with
 | .tuple [a,b]=>k a b
 | _=>.bad
noncomputable def un3 {S:Type} (d:D) (k:D->D->D->M S):M S:=match d with
 | .tuple [a,b,c]=>k a b c
 | _=>.bad
noncomputable def zga_ {S:Type} (ts:List D->(En->M S)->En->M S):Tg S:=fun d k ρ=>un2 d fun a b=>ts [a,b] k ρ
noncomputable def zfZ_ {S:Type} (ts:List D->(En->M S)->En->M S):Tg S:=fun d k ρ=>un3 d fun a b c=>ts [a,b,c] k ρ
section
variable {S:Type} {X:Cx} {pos:Pos} {n:Nat}
theorem zt_ {i:Nat} {x:Str} (hn:n<=i) (hN:X.N.Nodup) (hi:X.N[i]? = some x) (hx:Loc X.env.scope x) (hf:X.fn x=true\/X.env.scope.names.lookup x=some .local):AG (S:=S) X n (.Name x pos) (gSet i):=by
 intro OK k G F σ H ρ v d Q hO S r ok kk
 unfold gSet at ok
 split at ok
 ·rename_i ho
  obtain ⟨hl,hop⟩:=jL_ ho
  refine semG (zcR_ hN hi hx hf) ?_
  exact kk _ _ (S.store hop hl (.inl ⟨d,rfl,r⟩)) (fun j hj=>⟨List.getElem?_set_ne (by lia),List.getElem?_set_ne (by lia)⟩) (by simp) (by simp) ok
 ·exact (hO ok).elim
theorem yS_:AGs (S:=S) X n [] zhy_:=by
 intro OK k G F σ H ρ vs ds Q hO S r ok kk
 cases ds with
 | nil =>
  cases r
  exact zer_ zcQ_ ⟨rfl,kk σ ρ S (fun _ _=>⟨rfl,rfl⟩) rfl rfl ok⟩
 | cons d ds=>exact (hO ok).elim
theorem zU_ {e:Expr} {es:List Expr} {st:Tg S} {sts:List D->(En->M S)->En->M S} (h1:AG X n e st) (h2:AGs X n es sts)
  (hs:(assignEach (e::es) X.env).map (·.2)=assign e X.env::(assignEach es X.env).map (·.2)):AGs X n (e::es) (zfY_ st sts):=by
 intro OK k G F σ H ρ vs ds Q hO S r ok kk
 cases ds with
 | nil=>exact (hO ok).elim
 | cons d ds =>
  cases r with
  | cons rv rr =>
   refine zer_ (zac_ ZA_ V7_ hs) ⟨_,_,rfl,?_⟩
   refine h1 OK _ G F σ H ρ _ d _ hO S rv ok fun σ1 ρ1 S1 kp1 l1 m1 o1=>?_
   exact h2 OK k G F σ1 H ρ1 _ ds _ hO S1 rr o1 fun σ2 ρ2 S2 kp2 l2 m2 o2=>kk σ2 ρ2 S2 (fun j hj=>⟨(kp2 j hj).1.trans (kp1 j hj).1,(kp2 j hj).2.trans (kp1 j hj).2⟩) (l2.trans l1) (m2.trans m1) o2
theorem XL_ {es:List Expr} {kk l:Nat} {sts:List D->(En->M S)->En->M S} {st:Tg S} (hc:X.calm=true) (h:AGs X n es sts) (hn:(assignEach es X.env).length=l) (hst:(assignEach es X.env).findIdx? (·.1)=none)
  (hw:∀ (OK:M S->Prop) d k ρ,KOk OK->OK (st d k ρ)->∃ ds,d=.tuple ds/\ds.length=l/\OK (sts ds k ρ)):AG X n (.Tuple es kk pos) st:=by
 intro OK k G F σ H ρ v d Q hO S r ok k2
 obtain ⟨ds,rfl,hl,ok⟩:=hw OK d k ρ hO ok
 cases r with
 | tup h1 h2 =>
  refine semG (zeX_ hc V7_ hn hst) ⟨_,_,rfl,SqT.of (S.fh _ _ h1),by rw [h2.length];exact hl,?_⟩
  exact h OK k G F σ H ρ _ ds _ hO S h2 ok k2
theorem ZW_ {es:List Expr} {kk:Nat} {sts:List D->(En->M S)->En->M S} (hc:X.calm=true) (h:AGs X n es sts) (hn:(assignEach es X.env).length=2) (hst:(assignEach es X.env).findIdx? (·.1)=none):AG X n (.Tuple es kk pos) (zga_ sts) :=
 XL_ hc h hn hst fun OK d k ρ hO o=>by
  unfold zga_ un2 at o
  split at o
  ·exact ⟨_,rfl,rfl,o⟩
  ·exact (hO o).elim
theorem zdX_ {es:List Expr} {kk:Nat} {sts:List D->(En->M S)->En->M S} (hc:X.calm=true) (h:AGs X n es sts) (hn:(assignEach es X.env).length=3) (hst:(assignEach es X.env).findIdx? (·.1)=none):AG X n (.Tuple es kk pos) (zfZ_ sts) :=
 XL_ hc h hn hst fun OK d k ρ hO o=>by
  unfold zfZ_ un3 at o
  split at o
  ·exact ⟨_,rfl,rfl,o⟩
  ·exact (hO o).elim
end
noncomputable abbrev SM (S:Type):=KS S->En->M S
structure EOk {S:Type} (X:Cx) (OK:M S->Prop) (K:KS S) (G:Gh) (F:Hp) (E:Ends):Prop where
 nx:∀ F' σ' H' ρ',Same F F'->StOk X.K G F' σ' H' ρ'->OK (K.nx ρ')->E.nx σ' H'
 rt:∀ F' σ' H' ρ' d v,Same F F'->StOk X.K G F' σ' H' ρ'->Rep X.K F' v d->OK (K.rt d ρ')->E.rt v H'
 rl:∀ F' σ' H' ρ' ds v,Same F F'->StOk X.K G F' σ' H' ρ'->Frs X.K G F' σ' H' ρ' v (.l ds)->OK (K.rl ds ρ')->E.rt v H'
 bk:∀ F' σ' H' ρ',Same F F'->StOk X.K G F' σ' H' ρ'->OK (K.bk ρ')->E.bk σ' H'
 ct:∀ F' σ' H' ρ',Same F F'->StOk X.K G F' σ' H' ρ'->OK (K.ct ρ')->E.ct σ' H'
theorem EOk.up {S:Type} {X:Cx} {OK:M S->Prop} {K:KS S} {G:Gh} {F F':Hp} {E:Ends} (h:EOk X OK K G F E) (s:Same F F'):EOk X OK K G F' E :=
 ⟨fun F2 σ' H' ρ' s2=>h.nx F2 σ' H' ρ' (s.trans s2),fun F2 σ' H' ρ' d v s2=>h.rt F2 σ' H' ρ' d v (s.trans s2),fun F2 σ' H' ρ' d v s2=>h.rl F2 σ' H' ρ' d v (s.trans s2),fun F2 σ' H' ρ' s2=>h.bk F2 σ' H' ρ' (s.trans s2),fun F2 σ' H' ρ' s2=>h.ct F2 σ' H' ρ' (s.trans s2)⟩
@[irreducible] noncomputable def JB_ (X:Cx) (st:Stmt):TS:=fun E σ H=>∀ (pins:List (Addr×Obj)) (s:Shared),Inv X pins σ H s->wpAny (model X.prog X.w) X.A (exec st X.env) (SP X pins E) X.xe s
@[irreducible] noncomputable def Uk_ (X:Cx) (sts:List Stmt):TS:=fun E σ H=>∀ (pins:List (Addr×Obj)) (s:Shared),Inv X pins σ H s->wpAny (model X.prog X.w) X.A (execs sts X.env) (SP X pins E) X.xe s
section
variable {X:Cx} {st:Stmt} {sts:List Stmt} {σ:L2.St} {H:Hp} {E:Ends} {t:TS}
theorem zbE_:PS X st (JB_ X st):=fun pins s σ H E I h=>by unfold JB_ at h;exact h pins s I
theorem j8_:PSs X sts (Uk_ X sts):=fun pins s σ H E I h=>by unfold Uk_ at h;exact h pins s I
theorem semS (h:PS X st t) (q:t E σ H):JB_ X st E σ H:=by unfold JB_;exact fun pins s I=>h pins s σ H E I q
theorem semB (h:PSs X sts t) (q:t E σ H):Uk_ X sts E σ H:=by unfold Uk_;exact fun pins s I=>h pins s σ H E I q
end
def AS {S:Type} (X:Cx) (st:Stmt) (m:SM S):Prop :=
 ∀ (OK:M S->Prop) (K:KS S) (G:Gh) (F:Hp) (σ:L2.St) (H:Hp) (ρ:En) (E:Ends),KOk OK->XL X OK K.x G->StOk X.K G F σ H ρ->OK (m K ρ)->EOk X OK K G F E->JB_ X st E σ H
def ASs {S:Type} (X:Cx) (st:List Stmt) (m:SM S):Prop :=
 ∀ (OK:M S->Prop) (K:KS S) (G:Gh) (F:Hp) (σ:L2.St) (H:Hp) (ρ:En) (E:Ends),KOk OK->XL X OK K.x G->StOk X.K G F σ H ρ->OK (m K ρ)->EOk X OK K G F E->Uk_ X st E σ H
section
variable {S:Type}
noncomputable def zgR_:SM S:=fun K ρ=>K.nx ρ
noncomputable def sSeq (m n:SM S):SM S:=fun K ρ=>m { K with nx:=fun ρ1=>n K ρ1 } ρ
noncomputable def sIf (c:Ev S Bool) (m n:SM S):SM S:=fun K ρ=>c K.x (fun b ρ1=>if b then m K ρ1 else n K ρ1) ρ
noncomputable def sTo (sh:List Kd) (m:SM S):SM S:=fun K ρ=>m { K with nx:=fun ρ1=>rdk sh (fun s=>K.nx (wr sh s)) ρ1 } ρ
noncomputable def sSet (i:Nat) (m:Ev S D):SM S:=fun K ρ=>m K.x (fun d ρ1=>match Za_ ρ1 i with
 | true=>K.nx (ρ1.set i (some (.fz d)))
 | false=>.bad) ρ
noncomputable def zeu_ (i:Nat) (m:Ev S (List D)):SM S:=fun K ρ=>m K.x (fun ds ρ1=>match Za_ ρ1 i with
 | true=>K.nx (ρ1.set i (some (.ol (.l ds))))
 | false=>.bad) ρ
noncomputable def sAsg (t:Tg S) (m:Ev S D):SM S:=fun K ρ=>m K.x (fun d ρ1=>t d K.nx ρ1) ρ
noncomputable def sRet (m:Ev S D):SM S:=fun K ρ=>m K.x K.rt ρ
noncomputable def zgQ_ (m:Ev S (List D)):SM S:=fun K ρ=>m K.x K.rl ρ
noncomputable def zgS_ (m:Ev S D):SM S:=fun K ρ=>m K.x (fun _ ρ1=>K.nx ρ1) ρ
noncomputable def sFrz (i:Nat) (m:SM S):SM S:=fun K ρ=>match ρ[i]? with
 | some (some (.ol c))=>m K (ρ.set i (some (.fz c.d)))
 | _=>.bad
noncomputable def setO (ρ:En) (i:Nat) (ds:List D):En:=match ρ[i]? with
 | some (some (.op _))=>ρ.set i (some (.op (.l ds)))
 | _=>ρ.set i (some (.ol (.l ds)))
def sMut (i:Nat) (f:List D->List D->Option (List D)) (ms:Ev S (List D)):SM S:=fun K ρ=>match ownL ρ i with
 | some _=>ms K.x (fun as ρ1=>match ownL ρ1 i with
  | some ds=>(oM (f ds as)).on (fun e=>K.x e ρ1) (fun ds'=>K.nx (setO ρ1 i ds'))
  | none=>.bad) ρ
 | none=>.bad
noncomputable def forC {T:Type} (step:T->D->(T->M S)->M S):List D->T->(T->M S)->M S
 | [],s,k=>k s
 | d::r,s,k=>step s d (fun s'=>forC step r s' k)
@[reducible] noncomputable def ZZ_ (sh:List Kd) (K:KS S) (kn:SOf sh->M S):KS S:={ K with
  nx:=fun ρ3=>rdk sh kn ρ3
  ct:=fun ρ3=>rdk sh kn ρ3
  bk:=fun ρ3=>rdk sh (fun s'=>K.nx (wr sh s')) ρ3 }
noncomputable def sFor (sh:List Kd) (it:Ev S (List D)) (t:Tg S) (mb:SM S):SM S:=fun K ρ=>it K.x (fun ds ρ1=>rdk sh (fun s=>forC (fun s d kn=>t d (fun ρ2=>mb (ZZ_ sh K kn) ρ2) (wr sh s)) ds s (fun s'=>K.nx (wr sh s'))) ρ1) ρ
noncomputable def zP_ {T:Type} (step:T->(T->M S)->M S):Nat->T->M S
 | 0,_=>.bad
 | n+1,s=>step s (fun s'=>zP_ step n s')
noncomputable def VP_ (sh:List Kd) (fuel:Nat) (c:Ev S Bool) (mb:SM S):SM S:=fun K ρ=>rdk sh (fun s=>zP_ (fun s kn=>c K.x (fun b ρ2=>if b then mb (ZZ_ sh K kn) ρ2 else rdk sh (fun s'=>K.nx (wr sh s')) ρ2) (wr sh s)) fuel s) ρ
end
theorem Zw_ (ρ:En) (i:Nat) (ds ds0:List D) (h:ownL ρ i=some ds0):setO ρ i ds=ρ.set i ((ρ[i]?.join).map fun | .op _=>.op (.l ds)|_=>.ol (.l ds)):=by
 unfold ownL at h
 unfold setO
 split at h
 ·rename_i q;rw [q];rfl
 ·rename_i q;rw [q];rfl
 ·cases h
theorem us_ {S:Type} {OK:M S->Prop} (hO:KOk OK) {sh:List Kd} {k:SOf sh->M S} {ρ:En} (h:OK (rdk sh k ρ)):∃ s,rd sh ρ=some s/\OK (k s):=by
 unfold rdk at h
 split at h
 ·rename_i s e;exact ⟨s,e,h⟩
 ·exact (hO h).elim
section
variable {S:Type} {X:Cx} {st:Stmt} {sts rest:List Stmt} {m n:SM S} {e c a b:Expr} {me:Ev S D} {mt:Ev S Bool} {ml:Ev S (List D)} {pos pos' tpos:Pos}
theorem jp_:ASs (S:=S) X [] zgR_:=fun OK K G F σ H ρ E hO hX St ok eo=>semB V4_ (eo.nx F σ H ρ (Same.refl _) St ok)
theorem zc_ (h1:AS X st m) (h2:ASs X rest n):ASs X (st::rest) (sSeq m n):=fun OK K G F σ H ρ E hO hX St ok eo =>
 semB (Qh_ zbE_ j8_) (h1 OK { K with nx:=fun ρ1=>n K ρ1 } G F σ H ρ _ hO hX St ok ⟨fun F' σ' H' ρ' s S' o=>h2 OK K G F' σ' H' ρ' E hO hX S' o (eo.up s),eo.rt,eo.rl,eo.bk,eo.ct⟩)
theorem zg_ (h1:AS X st m):ASs X [st] m:=fun OK K G F σ H ρ E hO hX St ok eo=>semB (zcI_ zbE_) (h1 OK K G F σ H ρ E hO hX St ok eo)
theorem Ze_ {A B:List Stmt} (hc:AEt X c mt) (ha:ASs X A m) (hb:ASs X B n):AS X (.If c A B pos) (sIf mt m n):=fun OK K G F σ H ρ E hO hX St ok eo =>
 semS (zhd_ ut_ j8_ j8_) (hc OK K.x _ G F σ H ρ _ hO hX St ok fun t F1 H1 ρ1 s1 S1 o1=>by
  cases t with
  | true=>exact ha OK K G F1 σ H1 ρ1 E hO hX S1 o1 (eo.up s1)
  | false=>exact hb OK K G F1 σ H1 ρ1 E hO hX S1 o1 (eo.up s1))
theorem zA_ {sh:List Kd} (h:AS X st m):AS X st (sTo sh m):=fun OK K G F σ H ρ E hO hX St ok eo =>
 h OK { K with nx:=fun ρ1=>rdk sh (fun s=>K.nx (wr sh s)) ρ1 } G F σ H ρ E hO hX St ok ⟨fun F' σ' H' ρ' s S' o=>by
  obtain ⟨s',e',o'⟩:=us_ hO o
  exact eo.nx F' σ' H' _ s (S'.rd e') o',eo.rt,eo.rl,eo.bk,eo.ct⟩
theorem Ye_ {i:Nat} (h:AS X st m):AS X st (sFrz i m):=fun OK K G F σ H ρ E hO hX St ok eo=>by
 unfold sFrz at ok
 split at ok
 ·rename_i ds q
  obtain ⟨a,ea,_⟩:=St.ow i _ (.inl q)
  obtain ⟨F2,s2,S2,_⟩:=St.settleC q ea
  exact h OK K G F2 σ H _ E hO hX S2 ok (eo.up s2)
 ·exact (hO ok).elim
theorem jd_ (he:AE X e me):AS X (.Return (some e) pos) (sRet me):=fun OK K G F σ H ρ E hO hX St ok eo =>
 semS (zbF_ zn_) (he OK K.x K.rt G F σ H ρ _ hO hX St ok fun d v F1 H1 ρ1 s1 S1 r1 o1=>eo.rt F1 σ H1 ρ1 d v s1 S1 r1 o1)
theorem XG_ (he:AEl X e ml):AS X (.Return (some e) pos) (zgQ_ ml):=fun OK K G F σ H ρ E hO hX St ok eo =>
 semS (zbF_ zn_) (he OK K.x K.rl G F σ H ρ _ hO hX St ok fun d v F1 H1 ρ1 s1 S1 r1 o1=>eo.rl F1 σ H1 ρ1 d v s1 S1 r1 o1)
theorem zJ_ {i:Nat} {x:Str} (hN:X.N.Nodup) (hi:X.N[i]? = some x) (hx:Loc X.env.scope x) (he:AE X e me) (hs:swapsWith e (some (.Name x pos')) pos.line X.env=pure false) (hf:X.fn x=true\/X.env.scope.names.lookup x=some .local) :
  AS X (.Assign [.Name x pos'] e pos) (sSet i me):=fun OK K G F σ H ρ E hO hX St ok eo =>
 semS (Je_ hN hi hx zn_ hs hf) (he OK K.x _ G F σ H ρ _ hO hX St ok fun d v F1 H1 ρ1 s1 S1 r1 o1=>by
  split at o1
  ·rename_i ho
   obtain ⟨hl,hop⟩:=jL_ ho
   exact eo.nx F1 _ H1 _ s1 (S1.store hop hl (.inl ⟨d,rfl,r1⟩)) o1
  ·exact (hO o1).elim)
theorem um_ {i:Nat} {x:Str} (hN:X.N.Nodup) (hi:X.N[i]? = some x) (hx:Loc X.env.scope x) (he:AEl X e ml) (hs:swapsWith e (some (.Name x pos')) pos.line X.env=pure false) (hf:X.fn x=true\/X.env.scope.names.lookup x=some .local) :
  AS X (.Assign [.Name x pos'] e pos) (zeu_ i ml):=fun OK K G F σ H ρ E hO hX St ok eo =>
 semS (Je_ hN hi hx zn_ hs hf) (he OK K.x _ G F σ H ρ _ hO hX St ok fun d v F1 H1 ρ1 s1 S1 r1 o1=>by
  split at o1
  ·rename_i ho
   obtain ⟨hl,hop⟩:=jL_ ho
   exact eo.nx F1 _ H1 _ s1 (S1.store hop hl (.inr ⟨.l d,rfl,r1⟩)) o1
  ·exact (hO o1).elim)
theorem zgw_ {tg:Expr} {t:Tg S} (he:AE X e me) (hg:AG X 0 tg t) (hs:swapsWithSole [tg] e pos.line X.env=pure false) (hw:swappedStores [tg] e X.env=pure none)
  (h1:(assignEach [tg] X.env).map (·.2)=[assign tg X.env]):AS X (.Assign [tg] e pos) (sAsg t me):=fun OK K G F σ H ρ E hO hX St ok eo =>
 semS (zbG_ zn_ ZA_ hs hw h1) (he OK K.x _ G F σ H ρ _ hO hX St ok fun d v F1 H1 ρ1 s1 S1 r1 o1 =>
  hg OK K.nx G F1 σ H1 ρ1 v d _ hO S1 r1 o1 fun σ' ρ' S' _ _ _ o'=>eo.nx F1 σ' H1 ρ' s1 S' o')
theorem zdR_ (he:AE X e me) (hs:swapsWith e none pos.line X.env=pure false):AS X (.Expr e pos) (zgS_ me):=fun OK K G F σ H ρ E hO hX St ok eo =>
 semS (JK_ zn_ hs) (he OK K.x _ G F σ H ρ _ hO hX St ok fun d v F1 H1 ρ1 s1 S1 r1 o1=>eo.nx F1 σ H1 ρ1 s1 S1 o1)
end
section
variable {S:Type} {X:Cx} {m n mb:SM S} {e c a b o:Expr} {me mi:Ev S D} {mt:Ev S Bool} {ml ms:Ev S (List D)} {pos pos' tpos apos cpos:Pos}
theorem zgv_ {tg iter:Expr} {body:List Stmt} {sh:List Kd} {t:Tg S} (hp:PassesOwn (model X.prog X.w) X.A X.env X.xe) (hc:X.calm=true) (hi:AEi X tg iter ml) (hg:AG X 0 tg t) (hb:ASs X body mb)
  (hs:∀ x,foldedSetIterable iter X.env x=pure x):AS X (.For tg iter body [] pos) (sFor sh ml t mb):=fun OK K G F σ H ρ E hO hX St ok eo =>
 semS (zeV_ hp hc UA_ ZA_ j8_ hs) (hi OK K.x _ G F σ H ρ _ hO hX St ok fun ds J F1 H1 ρ1 s1 S1 wk o1=>by
  obtain ⟨s0,e0,o0⟩:=us_ hO o1
  have S0:=S1.rd e0
  clear o1
  generalize hstep:(fun (s:SOf sh) d (kn:SOf sh->M S)=>t d (fun ρ2=>mb (ZZ_ sh K kn) ρ2) (wr sh s))=step at o0
  refine ⟨fun i m σ' H'=>∃ F' s,m=ds.length - i/\i<=ds.length/\Same F1 F'/\StOk X.K G F' σ' H' (wr sh s)/\OK (forC step (ds.drop i) s (fun s'=>K.nx (wr sh s'))),⟨ds.length,F1,s0,rfl,Nat.zero_le _,Same.refl _,S0,o0⟩,?_⟩
  rintro i m σ' H' ⟨F',s,rfl,hi,s2,S2,go⟩
  by_cases hlt:i<ds.length
  ·have ed:ds.drop i=ds[i]::ds.drop (i+1):=List.drop_eq_getElem_cons hlt
   rw [ed] at go
   dsimp only [forC] at go
   rw [<-hstep] at go
   have again:∀ F5 σ5 H5 ρ5,Same F' F5->StOk X.K G F5 σ5 H5 ρ5->OK (rdk sh (fun s'=>forC step (ds.drop (i+1)) s' fun s'=>K.nx (wr sh s')) ρ5) ->
     ∃ m',m'<ds.length - i/\∃ F' s,m'=ds.length - (i+1)/\i+1<=ds.length/\Same F1 F'/\StOk X.K G F' σ5 H5 (wr sh s)/\OK (forC step (ds.drop (i+1)) s (fun s'=>K.nx (wr sh s'))):=fun F5 σ5 H5 ρ5 s5 S5 o5=>by
    obtain ⟨s',e',o'⟩:=us_ hO o5
    exact ⟨ds.length - (i+1),by omega,F5,s',rfl,hlt,s2.trans s5,S5.rd e',o'⟩
   refine .inr ⟨wk.go i G F' σ' H' _ s2 S2 hlt,fun σ4 H4=>∃ m',m'<ds.length - i/\∃ F' s,m'=ds.length - (i+1)/\i+1<=ds.length/\Same F1 F'/\StOk X.K G F' σ4 H4 (wr sh s)/\OK (forC step (ds.drop (i+1)) s (fun s'=>K.nx (wr sh s'))),fun σ4 H4 h4=>h4,fun x H2 y=>?_⟩
   obtain ⟨F3,s3,S3,r3⟩:=wk.yld i G F' σ' H' _ x H2 ds[i] s2 S2 (by simp [hlt]) y
   refine hg OK _ G F3 σ' H2 (wr sh s) x ds[i] _ hO S3 r3 go fun σ3 ρ3 S4 _ _ _ o4=>?_
   rw [hstep] at o4
   refine hb OK (ZZ_ sh K fun s'=>forC step (ds.drop (i+1)) s' fun s'=>K.nx (wr sh s')) G F3 σ3 H2 ρ3 _ hO hX S4 o4 ⟨fun F5 σ5 H5 ρ5 s5 S5 o5=>?_,fun F5 σ5 H5 ρ5 d v s5=>eo.rt F5 σ5 H5 ρ5 d v ((s1.trans (s2.trans s3)).trans s5),fun F5 σ5 H5 ρ5 d v s5=>eo.rl F5 σ5 H5 ρ5 d v ((s1.trans (s2.trans s3)).trans s5),fun F5 σ5 H5 ρ5 s5 S5 o5=>?_,fun F5 σ5 H5 ρ5 s5 S5 o5=>?_⟩
   ·exact again F5 σ5 H5 ρ5 (s3.trans s5) S5 o5
   ·obtain ⟨s',e',o'⟩:=us_ hO o5
    exact eo.nx F5 σ5 H5 _ ((s1.trans (s2.trans s3)).trans s5) (S5.rd e') o'
   ·exact again F5 σ5 H5 ρ5 (s3.trans s5) S5 o5
  ·have ei:i=ds.length:=by omega
   subst ei
   rw [List.drop_length] at go
   exact .inl ⟨wk.stop G F' σ' H' _ s2 S2,eo.nx F' σ' H' _ (s1.trans s2) S2 go⟩)
theorem zbh_ {body:List Stmt} {sh:List Kd} {fuel:Nat} (hp:PassesOwn (model X.prog X.w) X.A X.env X.xe) (hc:AEt X c mt) (hb:ASs X body mb):AS X (.While c body [] pos) (VP_ sh fuel mt mb):=fun OK K G F σ H ρ E hO hX St ok eo =>
 semS (X8_ hp ut_ j8_) (by
  obtain ⟨s0,e0,o0⟩:=us_ hO ok
  have S0:=St.rd e0
  clear ok
  generalize hstep:(fun (s:SOf sh) (kn:SOf sh->M S)=>mt K.x (fun b ρ2=>if b then mb (ZZ_ sh K kn) ρ2 else rdk sh (fun s'=>K.nx (wr sh s')) ρ2) (wr sh s))=step at o0
  refine ⟨fun m σ' H'=>∃ F' s,Same F F'/\StOk X.K G F' σ' H' (wr sh s)/\OK (zP_ step m s),⟨fuel,F,s0,Same.refl _,S0,o0⟩,?_⟩
  rintro m σ' H' ⟨F',s,s2,S2,go⟩
  cases m with
  | zero=>exact (hO go).elim
  | succ m =>
   dsimp only [zP_] at go
   rw [<-hstep] at go
   refine hc OK K.x _ G F' σ' H' (wr sh s) _ hO hX S2 go fun t F1 H1 ρ1 s1 S1 o1=>?_
   cases t with
   | false =>
    obtain ⟨s',e',o'⟩:=us_ hO (show OK (rdk sh (fun s'=>K.nx (wr sh s')) ρ1) from o1)
    exact eo.nx F1 σ' H1 _ (s2.trans s1) (S1.rd e') o'
   | true =>
    have o1':OK (mb (ZZ_ sh K fun s'=>zP_ (fun (s:SOf sh) (kn:SOf sh->M S)=>mt K.x (fun b ρ2=>if b then mb (ZZ_ sh K kn) ρ2 else rdk sh (fun s'=>K.nx (wr sh s')) ρ2) (wr sh s)) m s') ρ1):=o1
    rw [hstep] at o1'
    have again:∀ F5 σ5 H5 ρ5,Same F1 F5->StOk X.K G F5 σ5 H5 ρ5->OK (rdk sh (fun s'=>zP_ step m s') ρ5)->∃ m',m'<m+1/\∃ F' s,Same F F'/\StOk X.K G F' σ5 H5 (wr sh s)/\OK (zP_ step m' s):=fun F5 σ5 H5 ρ5 s5 S5 o5=>by
     obtain ⟨s',e',o'⟩:=us_ hO o5
     exact ⟨m,Nat.lt_succ_self _,F5,s',(s2.trans s1).trans s5,S5.rd e',o'⟩
    refine iteT ⟨fun σ4 H4=>∃ m',m'<m+1/\∃ F' s,Same F F'/\StOk X.K G F' σ4 H4 (wr sh s)/\OK (zP_ step m' s),fun σ4 H4 h4=>h4,?_⟩
    refine hb OK (ZZ_ sh K fun s'=>zP_ step m s') G F1 σ' H1 ρ1 _ hO hX S1 o1' ⟨fun F5 σ5 H5 ρ5 s5 S5 o5=>again F5 σ5 H5 ρ5 s5 S5 o5,fun F5 σ5 H5 ρ5 d v s5=>eo.rt F5 σ5 H5 ρ5 d v ((s2.trans s1).trans s5),fun F5 σ5 H5 ρ5 d v s5=>eo.rl F5 σ5 H5 ρ5 d v ((s2.trans s1).trans s5),fun F5 σ5 H5 ρ5 s5 S5 o5=>?_,fun F5 σ5 H5 ρ5 s5 S5 o5=>again F5 σ5 H5 ρ5 s5 S5 o5⟩
    obtain ⟨s',e',o'⟩:=us_ hO o5
    exact eo.nx F5 σ5 H5 _ ((s2.trans s1).trans s5) (S5.rd e') o')
theorem jo_ {K:Fg} {G:Gh} {F H:Hp} {σ:L2.St} {ρ:En} {i:Nat} {ds:List D} (St:StOk K G F σ H ρ) (h:ownL ρ i=some ds):∃ a vs,σ[i]? = some (some (.ref a))/\H a=some (.lst vs)/\RepL K F vs ds:=by
 obtain ⟨a,ea,oa⟩:=St.ow i _ (Zj_ h)
 obtain ⟨vs,h1,h2⟩:=oa.he
 exact ⟨a,vs,ea,h1,h2⟩
theorem yI_ {K:Fg} {G:Gh} {F H:Hp} {σ:L2.St} {ρ:En} {i:Nat} {a:Addr} {ds ds':List D} {vs':List V} (St:StOk K G F σ H ρ) (h:ownL ρ i=some ds) (ha:σ[i]? = some (some (.ref a))) (r:RepL K F vs' ds') :
  StOk K G F σ (upd H a (.lst vs')) (setO ρ i ds'):=by
 rw [Zw_ ρ i ds' ds h]
 exact St.change (Zj_ h) ha (c':=.l ds') ⟨_,zi_,r⟩
noncomputable def mApp (ds as:List D):Option (List D):=match as with
 | [d]=>if ds.length<sizeLine then some (ds++[d]) else none
 | _=>none
theorem QF_ {i:Nat} {x:Str} (hN:X.N[i]? = some x) (hv:Vis X.env.scope x) (he:AEa X [e] ms)
  (hbase:attributeBase (.Name x pos') "append" X.env (eval (.Name x pos') X.env)=eval (.Name x pos') X.env)
  (hfew:((backTo cpos (starEach [e] X.env)).all (fun x=>!x.1)&&(backToKw cpos (keywordEach [] X.env)).all (fun x=>x.1.isSome)
   && decide ([e].length+([]:List Keyword).length+(if ([]:List Keyword).isEmpty then 0 else 1)<30))=true)
  (hline:(apos.endLine==cpos.line)=true) (hs:starEach [e] X.env=(false,eval e X.env)::starEach [] X.env) (hplain:(backTo cpos (starEach [] X.env)).any (·.1)=false)
  (hsw:swapsWith (.Call (.Attribute (.Name x pos') "append" apos) [e] [] cpos) none pos.line X.env=pure false) (hd:(x==("__debug__" : Str))=false:=by decide) (hcd:(x==("__classdict__" : Str))=false:=by decide) :
  AS X (.Expr (.Call (.Attribute (.Name x pos') "append" apos) [e] [] cpos) pos) (sMut i mApp ms):=fun OK K G F σ H ρ E hO hX St ok eo =>
 semS (JK_ (zff_ PySem.F.plainAttrs_list PySem.F.slot_list_append PySem.F.type_list_append Ws_ (uu_ hN hv hd hcd) jk_ hbase hfew hline hs hplain) hsw) (by
  unfold sMut at ok
  split at ok
  case h_2=>exact (hO ok).elim
  ·rename_i ds0 h0
   obtain ⟨a,vs0,ea,hh,_⟩:=jo_ St h0
   refine ⟨_,ea,.inl ⟨rfl,vs0,.inl (.inl hh)⟩,he OK K.x _ G F σ H ρ _ hO hX St ok fun as ws F1 H1 ρ1 s1 S1 _ r1 o1=>?_⟩
   split at o1
   ·rename_i ds hds
    obtain ⟨ds',hf,o2⟩:=jK_ hO o1
    obtain ⟨a',vs,ea',hh',rv⟩:=jo_ S1 hds
    rw [ea] at ea'
    injection ea' with ea';injection ea' with ea';injection ea' with ea'
    subst ea'
    unfold mApp at hf
    split at hf
    ·split at hf
     ·rename_i hz
      cases hf
      cases r1 with
      | cons ra rb =>
       cases rb
       refine ⟨a,vs,_,rfl,rfl,hh',by rw [rv.length];exact hz,?_⟩
       exact eo.nx F1 σ _ _ s1 (yI_ S1 hds ea (rv.append (.cons ra .nil))) o2
     ·cases hf
    ·cases hf
   ·exact (hO o1).elim)
end
theorem map_some_get {α:Type} {l:List α} {i:Nat} {x:α}:(l.map some)[i]? = some (some x)↔l[i]? = some x:=by
 rw [List.getElem?_map]
 cases l[i]? <;> simp
open Classical in
noncomputable def zs_ (G:Gh) (σ:L2.St) (ρ:En) (H:Hp) (ex:Option Addr):Hp:=fun b=>if (∃ (i:Nat) (c:OC),own ρ i c/\σ[i]? = some (some (V.ref b)))/\some b≠ex then H b else G.O b
noncomputable def setC (ρ:En) (j:Nat) (c:OC):En:=ρ.set j ((ρ[j]?.join).map fun | .op _=>.op c|_=>.ol c)
section
variable {K:Fg} {G:Gh} {F F' H H':Hp} {σ:L2.St} {ρ:En} {vs:List V} {ds:List D}
theorem z3_ {ex:Option Addr} (S:StOk K G F σ H ρ) {b:Addr} {o:HO} (h:G.O b=some o):zs_ G σ ρ H ex b=some o:=by
 unfold zs_
 rw [if_neg]
 ·exact h
 ·rintro ⟨⟨i,c,ho,e⟩,_⟩
  obtain ⟨a,e',oa⟩:=S.ow i c ho
  rw [e] at e'
  injection e' with e';injection e' with e';injection e' with e'
  subst e'
  rw [oa.no] at h;cases h
theorem ui_ {ex:Option Addr} {b:Addr} {i:Nat} {c:OC} (ho:own ρ i c) (e:σ[i]? = some (some (V.ref b))) (hx:some b≠ex):zs_ G σ ρ H ex b=H b:=by
 unfold zs_
 rw [if_pos ⟨⟨i,c,ho,e⟩,hx⟩]
theorem U1_ {ex:Option Addr} (S:StOk K G F σ H ρ):Same (zs_ G σ ρ H ex) H:=fun b o h=>by
 unfold zs_ at h
 split at h
 ·exact h
 ·exact S.oh b o h
theorem _root_.L3.Held.notup {K:Fg} {F H:Hp} {a:Addr} {c:OC} {o:HO} (h:Held K F H a c) (e:H a=some o):NoTE o:=by
 cases c with
 | l ds=>obtain ⟨vs,h1,_⟩:=h;rw [h1] at e;cases e;exact True.intro
 | t es=>obtain ⟨vs,h1,_⟩:=h;rw [h1] at e;cases e;exact True.intro
 | k es=>obtain ⟨vs,h1,_⟩:=h;rw [h1] at e;cases e;exact True.intro
theorem U2_ {ex:Option Addr} (S:StOk K G F σ H ρ):∀ b o,zs_ G σ ρ H ex b=some o->F b=none/\NoTE o:=fun b o h=>by
 unfold zs_ at h
 split at h
 ·rename_i hc
  obtain ⟨⟨i,c,ho,e⟩,_⟩:=hc
  obtain ⟨a,e',oa⟩:=S.ow i c ho
  rw [e] at e'
  injection e' with e';injection e' with e';injection e' with e'
  subst e'
  exact ⟨oa.nf,oa.he.notup h⟩
 ·exact S.fo b o h
theorem ZO_ {i:Nat} {av:AV} (h:((ds.map AV.fz).map some)[i]? = some (some av)):∃ d,av=.fz d/\ds[i]? = some d:=by
 rw [map_some_get,List.getElem?_map] at h
 cases q:ds[i]? with
 | none=>rw [q] at h;cases h
 | some d=>rw [q] at h;cases h;exact ⟨d,rfl,rfl⟩
theorem yr_ {i:Nat} {c:OC} (h:own ((ds.map AV.fz).map some) i c):False:=by
 rcases h with h|h<;>(obtain ⟨d,z,_⟩:=ZO_ h;cases z)
theorem jm_ (S:StOk K G F σ H ρ) (r:RepL K F vs ds):StOk K ⟨fun _=>none,zs_ G σ ρ H none,F⟩ F (vs.map some) H ((ds.map AV.fz).map some):=by
 refine ⟨S.fh,U1_ S,U2_ S,by simp [r.length],fun i d h=>?_,fun i c h=>(yr_ h).elim,fun i j c e a h=>(yr_ h).elim,fun i a h=>(nomatch h),fun i c h=>?_,Same.refl _⟩
 ·obtain ⟨d',z,e⟩:=ZO_ h
  cases z
  obtain ⟨v,e1,e2⟩:=r.get e
  exact ⟨v,map_some_get.mpr e1,e2⟩
 ·obtain ⟨d',z,e⟩:=ZO_ h;cases z
theorem uK_ {avs':List AV} (S:StOk K G F σ H ρ) (s1:Same F F') (S1:StOk K ⟨fun _=>none,zs_ G σ ρ H none,F⟩ F' (vs.map some) H' (avs'.map some)) :
  StOk K G F' σ H' ρ/\∀ v c,Frs K ⟨fun _=>none,zs_ G σ ρ H none,F⟩ F' (vs.map some) H' (avs'.map some) v c->Frs K G F' σ H' ρ v c:=by
 have oo:∀ b,zs_ G σ ρ H none b=none->G.O b=none:=fun b h=>by
  cases q:G.O b with
  | none=>rfl
  | some o=>rw [z3_ S q] at h;cases h
 refine ⟨⟨S1.fh,fun b o h=>S1.oh b o (z3_ S h),fun b o h=>S1.fo b o (z3_ S h),S.ln,fun i d h=>?_,fun i c h=>?_,S.dj,S.pp,S.pq,S.fb.trans s1⟩,fun v cc h=>?_⟩
 ·obtain ⟨v,e,r⟩:=S.fz i d h;exact ⟨v,e,r.mono s1⟩
 ·obtain ⟨a,e,oa⟩:=S.ow i c h
  obtain ⟨o,ho⟩:=oa.he.some
  have q:zs_ G σ ρ H none a=some o:=by rw [ui_ h e (by simp)];exact ho
  exact ⟨a,e,(S1.fo a o q).1,oa.no,(oa.he.mono s1).at (by rw [S1.oh a o q,ho])⟩
 ·obtain ⟨a,rfl,oa,_⟩:=h
  refine ⟨a,rfl,⟨oa.nf,oo a oa.no,oa.he⟩,fun i e ho q=>?_⟩
  obtain ⟨a',e',oa'⟩:=S.ow i e ho
  rw [q] at e'
  injection e' with e';injection e' with e';injection e' with e'
  subst e'
  obtain ⟨o,hh⟩:=oa'.he.some
  have:=oa.no
  rw [show (⟨fun _=>none,zs_ G σ ρ H none,F⟩:Gh).O a=zs_ G σ ρ H none a from rfl,ui_ ho q (by simp),hh] at this
  cases this
noncomputable def P1 (a:Addr):Nat->Option Addr
 | 0=>some a
 | _=>none
theorem Xp_ {j:Nat} {c:OC} {a:Addr} (S:StOk K G F σ H ρ) (hj:own ρ j c) (ha:σ[j]? = some (some (V.ref a))) (r:RepL K F vs ds) :
  StOk K ⟨P1 a,zs_ G σ ρ H (some a),F⟩ F ((V.ref a::vs).map some) H ((AV.op c::ds.map AV.fz).map some):=by
 obtain ⟨a',e',oa⟩:=S.ow j c hj
 rw [ha] at e'
 injection e' with e';injection e' with e';injection e' with e'
 subst e'
 have at0:∀ i d,own ((AV.op c::ds.map AV.fz).map some) i d->i=0/\d=c:=fun i d h=>by
  cases i with
  | zero=>rcases h with h|h<;>(simp at h);exact ⟨rfl,h.symm⟩
  | succ i=>exact (yr_ (ds:=ds) (i:=i) (c:=d) (by unfold own at h ⊢;simpa using h)).elim
 refine ⟨S.fh,U1_ S,U2_ S,by simp [r.length],fun i d h=>?_,fun i d h=>?_,fun i k d e b h1 h2 _ _=>?_,fun i b h=>?_,fun i d h=>?_,Same.refl _⟩
 ·cases i with
  | zero=>simp at h
  | succ i =>
   obtain ⟨d',z,e⟩:=ZO_ (ds:=ds) (i:=i) (av:=.fz d) (by simpa using h)
   cases z
   obtain ⟨v,e1,e2⟩:=r.get e
   exact ⟨v,by simpa using e1,e2⟩
 ·obtain ⟨rfl,rfl⟩:=at0 i d h
  refine ⟨a,rfl,oa.nf,?_,oa.he⟩
  show zs_ G σ ρ H (some a) a=none
  unfold zs_
  rw [if_neg (by simp)]
  exact oa.no
 ·rw [(at0 i d h1).1,(at0 k e h2).1]
 ·cases i with
  | zero=>cases h;exact ⟨rfl,c,rfl⟩
  | succ i=>cases h
 ·cases i with
  | zero=>exact ⟨a,rfl⟩
  | succ i =>
   obtain ⟨d',z,e⟩:=ZO_ (ds:=ds) (i:=i) (av:=.op d) (by simpa using h)
   cases z
theorem Vr_ {j:Nat} {c c':OC} {a:Addr} {l:List AV} (S:StOk K G F σ H ρ) (hj:own ρ j c) (ha:σ[j]? = some (some (V.ref a))) (s1:Same F F')
  (S1:StOk K ⟨P1 a,zs_ G σ ρ H (some a),F⟩ F' ((V.ref a::vs).map some) H' ((AV.op c'::l).map some)) :
  StOk K G F' σ H' (setC ρ j c')/\∀ v cc,Frs K ⟨P1 a,zs_ G σ ρ H (some a),F⟩ F' ((V.ref a::vs).map some) H' ((AV.op c'::l).map some) v cc->Frs K G F' σ H' (setC ρ j c') v cc:=by
 have oo:∀ b,zs_ G σ ρ H (some a) b=none->G.O b=none:=fun b h=>by
  cases q:G.O b with
  | none=>rfl
  | some o=>rw [z3_ S q] at h;cases h
 obtain ⟨a',e',oa⟩:=S.ow j c hj
 rw [ha] at e'
 injection e' with e';injection e' with e';injection e' with e'
 subst e'
 have hl:j<ρ.length:=by rcases hj with h|h<;>exact (List.getElem?_eq_some_iff.mp h).1
 generalize hav:((ρ[j]?.join).map fun (x:AV)=>match x with | .op _=>AV.op c'|_=>AV.ol c')=av
 have hset:setC ρ j c'=ρ.set j av:=by rw [<-hav];rfl
 rw [hset]
 have ne:∀ i,i≠j->(ρ.set j av)[i]? = ρ[i]?:=fun i hi=>List.getElem?_set_ne (Ne.symm hi)
 have atj:(ρ.set j av)[j]? = some av:=List.getElem?_set_self hl
 have kind:(ρ[j]? = some (some (.ol c))/\av=some (.ol c'))\/(ρ[j]? = some (some (.op c))/\av=some (.op c')):=by
  rcases hj with h|h
  ·exact .inl ⟨h,by rw [<-hav,h];rfl⟩
  ·exact .inr ⟨h,by rw [<-hav,h];rfl⟩
 have owni:∀ i e,own (ρ.set j av) i e->(i=j/\e=c')\/(i≠j/\own ρ i e):=fun i e h=>by
  by_cases hi:i=j
  ·subst hi
   unfold own at h
   rw [atj] at h
   rcases kind with ⟨_,k⟩|⟨_,k⟩<;>rw [k] at h<;>rcases h with h|h<;>cases h<;>exact .inl ⟨rfl,rfl⟩
  ·unfold own at h ⊢
   rw [ne i hi] at h
   exact .inr ⟨hi,h⟩
 have nea:∀ i e b,i≠j->own ρ i e->σ[i]? = some (some (V.ref b))->b≠a:=fun i e b hi ho q z=>by
  subst z
  exact hi (S.dj i j e c b ho hj q ha)
 have own1:OwnAt K ⟨P1 a,zs_ G σ ρ H (some a),F⟩ F' H' a c':=by
  obtain ⟨b,e1,ob⟩:=S1.ow 0 c' (.inr rfl)
  have:V.ref a=V.ref b:=by simpa using e1
  injection this with this
  subst this
  exact ob
 refine ⟨⟨S1.fh,fun b o h=>S1.oh b o (z3_ S h),fun b o h=>S1.fo b o (z3_ S h),by simpa using S.ln,fun i d h=>?_,fun i e h=>?_,fun i k d e b h1 h2=>?_,fun i b h=>?_,fun i d h=>?_,S.fb.trans s1⟩,fun v cc h=>?_⟩
 ·by_cases hi:i=j
  ·subst hi
   rw [atj] at h
   rcases kind with ⟨_,k⟩|⟨_,k⟩<;>rw [k] at h<;>cases h
  ·rw [ne i hi] at h
   obtain ⟨v,e,r⟩:=S.fz i d h;exact ⟨v,e,r.mono s1⟩
 ·rcases owni i e h with ⟨rfl,rfl⟩|⟨hi,ho⟩
  ·exact ⟨a,ha,own1.nf,oa.no,own1.he⟩
  ·obtain ⟨b,eb,ob⟩:=S.ow i e ho
   obtain ⟨o,hh⟩:=ob.he.some
   have q:zs_ G σ ρ H (some a) b=some o:=by rw [ui_ ho eb (fun z=>nea i e b hi ho eb (Option.some.inj z))];exact hh
   exact ⟨b,eb,(S1.fo b o q).1,ob.no,(ob.he.mono s1).at (by rw [S1.oh b o q,hh])⟩
 ·have f:∀ i e,own (ρ.set j av) i e->∃ d,own ρ i d:=fun i e h=>by
   rcases owni i e h with ⟨rfl,_⟩|⟨_,ho⟩
   ·exact ⟨c,hj⟩
   ·exact ⟨e,ho⟩
  exact S.dj i k _ _ b (f i d h1).choose_spec (f k e h2).choose_spec
 ·obtain ⟨q1,e,q2⟩:=S.pp i b h
  refine ⟨q1,?_⟩
  by_cases hi:i=j
  ·subst hi
   rcases kind with ⟨k1,k⟩|⟨k1,k⟩
   ·rw [k1] at q2;cases q2
   ·exact ⟨c',by rw [atj,k]⟩
  ·exact ⟨e,by rw [ne i hi];exact q2⟩
 ·by_cases hi:i=j
  ·subst hi
   rcases kind with ⟨k1,k⟩|⟨k1,k⟩
   ·rw [atj,k] at h;cases h
   ·exact S.pq i c k1
  ·rw [ne i hi] at h;exact S.pq i d h
 ·obtain ⟨b,rfl,ob,nn⟩:=h
  refine ⟨b,rfl,⟨ob.nf,oo b ob.no,ob.he⟩,fun i e ho q=>?_⟩
  rcases owni i e ho with ⟨rfl,_⟩|⟨hi,ho'⟩
  ·rw [ha] at q
   injection q with q;injection q with q;injection q with q
   subst q
   exact nn 0 c' (.inr rfl) rfl
  ·obtain ⟨b',eb,ob'⟩:=S.ow i e ho'
   rw [q] at eb
   injection eb with eb;injection eb with eb;injection eb with eb
   subst eb
   obtain ⟨o,hh⟩:=ob'.he.some
   have:=ob.no
   rw [show (⟨P1 a,zs_ G σ ρ H (some a),F⟩:Gh).O b=zs_ G σ ρ H (some a) b from rfl,ui_ ho' q (fun z=>nea i e b hi ho' q (Option.some.inj z)),hh] at this
   cases this
end
noncomputable abbrev fzs (ds:List D):En:=(ds.map AV.fz).map some
noncomputable def KD:KS D:=⟨fun _=>.ret .none,fun d _=>.ret d,fun _ _=>.bad,fun _=>.bad,fun _=>.bad,fun e _=>.exc e⟩
noncomputable def KL:KS (List D):=⟨fun _=>.bad,fun _ _=>.bad,fun ds _=>.ret ds,fun _=>.bad,fun _=>.bad,fun e _=>.exc e⟩
noncomputable def at0 {S:Type} (ρ:En) (k:List D->M S):M S:=match (ρ[0]? : Option (Option AV)) with
 | some (some (AV.op (OC.l f)))=>k f
 | _=>.bad
noncomputable def K1:KS (D×List D):=⟨fun ρ=>at0 ρ fun f=>.ret (.none,f),fun d ρ=>at0 ρ fun f=>.ret (d,f),fun _ _=>.bad,fun _=>.bad,fun _=>.bad,fun e _=>.exc e⟩
def EndM (K:Fg) (G:Gh) (E:XK) {α:Type} (m:M α) (C:α->Prop):Prop:=match m with
 | .ret a=>C a
 | .exc x=>∀ F' H' Cl dd,GOk G F' H'->XR K F' Cl dd x->E (.ref Cl) dd H'
 | .bad=>False
noncomputable def spD (K:Fg) (n:Nat) (mf:List D->M D):Sp:=fun vs H Q E=>∃ G F ds,vs.length=n/\StOk K G F (vs.map some) H (fzs ds)/\EndM K G E (mf ds) fun d=>∀ v F' H',Same F F'->StOk K G F' (vs.map some) H' (fzs ds)->Rep K F' v d->Q v H'
noncomputable def spL (K:Fg) (n:Nat) (mf:List D->M (List D)):Sp:=fun vs H Q E=>∃ G F ds,vs.length=n/\StOk K G F (vs.map some) H (fzs ds)/\EndM K G E (mf ds) fun d=>∀ v F' H',Same F F'->StOk K G F' (vs.map some) H' (fzs ds)->Frs K G F' (vs.map some) H' (fzs ds) v (.l d)->Q v H'
noncomputable def sp1 (K:Fg) (n:Nat) (mf:List D->List D->M (D×List D)):Sp:=fun vs H Q E=>∃ G F f ds,vs.length=n/\StOk K G F (vs.map some) H (some (.op (.l f))::fzs ds)/\EndM K G E (mf f ds) fun r =>
 ∀ v F' H',Same F F'->StOk K G F' (vs.map some) H' (some (.op (.l r.2))::fzs ds)->Rep K F' v r.1->Q v H'
section
variable {K:Fg} {G:Gh} {F F' H H':Hp} {vs:List V} {σ:L2.St} {ρ:En} {ds:List D}
theorem QE_ (S:StOk K G F (vs.map some) H (fzs ds)) (s1:Same F F') (S1:StOk K G F' σ H' ρ):StOk K G F' (vs.map some) H' (fzs ds):=by
 refine ⟨S1.fh,S1.oh,S1.fo,S.ln,fun i d q=>?_,fun i c q=>(yr_ q).elim,fun i j c e a q=>(yr_ q).elim,S.pp,S.pq,S1.fb⟩
 obtain ⟨v,e,r⟩:=S.fz i d q
 exact ⟨v,e,r.mono s1⟩
theorem XC_ {v:V} {c:OC} (S1:StOk K G F' σ H' ρ) (h:Frs K G F' σ H' ρ v c):Frs K G F' (vs.map some) H' (fzs ds) v c:=by
 obtain ⟨a,rfl,oa,_⟩:=h
 exact ⟨a,rfl,oa,fun i e q=>(yr_ q).elim⟩
theorem own1 {f:List D} {i:Nat} {c:OC} (h:own (some (.op (.l f))::fzs ds) i c):i=0/\c=.l f:=by
 cases i with
 | zero=>rcases h with h|h<;>simp at h;exact ⟨rfl,h.symm⟩
 | succ i=>exact (yr_ (ds:=ds) (i:=i) (c:=c) (by unfold own at h ⊢;simpa using h)).elim
theorem zca_ {f f':List D} (S:StOk K G F (vs.map some) H (some (.op (.l f))::fzs ds)) (s1:Same F F') (S1:StOk K G F' σ H' ρ) (h0:ρ[0]? = some (some (.op (.l f')))) :
  StOk K G F' (vs.map some) H' (some (.op (.l f'))::fzs ds)/\∀ v c,Frs K G F' σ H' ρ v c->Frs K G F' (vs.map some) H' (some (.op (.l f'))::fzs ds) v c:=by
 obtain ⟨a,ha⟩:=S1.pq 0 _ h0
 obtain ⟨e1,_⟩:=S1.pp 0 a ha
 obtain ⟨e2,_⟩:=S.pp 0 a ha
 obtain ⟨b,eb,ob⟩:=S1.ow 0 _ (.inr h0)
 rw [e1] at eb
 injection eb with eb;injection eb with eb;injection eb with eb
 subst eb
 have only:∀ i b,G.P i=some b->i=0:=fun i b h=>by
  obtain ⟨_,c,q⟩:=S.pp i b h
  exact (own1 (.inr q)).1
 refine ⟨⟨S1.fh,S1.oh,S1.fo,S.ln,fun i d q=>?_,fun i c q=>?_,fun i j c e b q1 q2 _ _=>?_,fun i b q=>?_,fun i c q=>?_,S1.fb⟩,fun v c h=>?_⟩
 ·cases i with
  | zero=>simp at q
  | succ i =>
   obtain ⟨v,e,r⟩:=S.fz (i+1) d (by simpa using q)
   exact ⟨v,e,r.mono s1⟩
 ·obtain ⟨rfl,rfl⟩:=own1 q
  exact ⟨a,e2,ob⟩
 ·rw [(own1 q1).1,(own1 q2).1]
 ·have:=only i b q
  subst this
  exact ⟨(S.pp 0 b q).1,_,rfl⟩
 ·obtain ⟨rfl,_⟩:=own1 (.inr q)
  exact ⟨a,ha⟩
 ·obtain ⟨b,rfl,ob2,nn⟩:=h
  refine ⟨b,rfl,ob2,fun i e q z=>?_⟩
  obtain ⟨rfl,rfl⟩:=own1 q
  rw [e2] at z
  injection z with z;injection z with z;injection z with z
  subst z
  exact nn 0 _ (.inr h0) e1
end
section
variable {P:Program} {w:World} {K:Fg} {mg:Str->Option Value} {base:Heap} {x qual:Str} {st:Stmt} {f:Addr} {fd:FuncData} {N ps:List Str} {k:Nat}
theorem JD_ {vs:List V} {ds:List D} {G:Gh} {F H:Hp} (hl:vs.length=ps.length) (S0:StOk K G F (vs.map some) H (fzs ds)):StOk K G F (L2.start N vs) H (fzs ds++List.replicate (N.length - ps.length) none):=by
 have e0:L2.start N vs=vs.map some++List.replicate (N.length - ps.length) none:=by unfold L2.start;rw [hl]
 rw [e0]
 exact S0.grow _
theorem fn_x {sp:Sp} (Fn:Fun K x qual st f fd) (S:FnScope N ps (zb_ st)) (len:∀ vs H Q E,sp vs H Q E->vs.length=ps.length)
  (hbody:∀ (cdv:Value) (A:Around) (outer:List Env) (s:Shared) (H:Hp) (vs:List V) (Q:VK) (E:XK),Room k (A.deeper (envOfC qual (zb_ st) s.heap.objs.size f cdv))->sp vs H Q E ->
   ∃ t,PSs (cxOf (CX1 P w) P w K mg base N qual (zb_ st) f cdv A outer s H E) (zo_ st) t/\t { nx:=fun _ H'=>Q .non H',rt:=Q } (start N vs) H):FnOk P w K mg base (CX1 P w) (k+1) f fd ps sp:=by
 obtain ⟨oc,od,kV,doc,pm,an,cdv,ct,osl,rfl,lk,hcd⟩:=Fn.ex
 exact zgc_ lk hcd S len fun A outer s H vs Q E hr hsp=>hbody cdv A outer s H vs Q E hr hsp
theorem zaW_ {α:Type} {C:α->Prop} {N:List Str} {qual:Str} {scope:Scope} {f:Addr} {cdv:Value} {A:Around} {outer:List Env} {s:Shared} {H F:Hp} {E:XK} {G:Gh} {ρ:En} {e:Ex} (h:EndM K G E (M.exc e:M α) C):XW (cxOf (CX1 P w) P w K mg base N qual scope f cdv A outer s H E) G F ρ e :=
 fun F' H' s' a Cl dd pins σ g _ I xs _ xr=>zdm_ I xs (h F' H' Cl dd g xr)
theorem uZ_ {mb:SM D} {mf:List D->M D} (Fn:Fun K x qual st f fd) (Sc:FnScope N ps (zb_ st))
  (hb:∀ (cdv:Value) (A:Around) (outer:List Env) (s:Shared) (H:Hp) (E:XK),Room k (A.deeper (envOfC qual (zb_ st) s.heap.objs.size f cdv)) ->
   ASs (cxOf (CX1 P w) P w K mg base N qual (zb_ st) f cdv A outer s H E) (zo_ st) mb)
  (hm:∀ ds,ds.length=ps.length->mf ds=mb KD (fzs ds++List.replicate (N.length - ps.length) none)):FnOk P w K mg base (CX1 P w) (k+1) f fd ps (spD K ps.length mf):=by
 refine fn_x Fn Sc (fun vs H Q E h=>?_) (fun cdv A outer s H vs Q E hr h=>?_)
 ·obtain ⟨_,_,_,h1,_⟩:=h;exact h1
 ·obtain ⟨G,F0,ds,h1,S0,e⟩:=h
  have hl:ds.length=ps.length:=by have:=S0.ln;simp at this;lia
  rw [hm ds hl] at e
  refine ⟨_,j8_,hb cdv A outer s H E hr (fun m=>EndM K G E m _) KD G F0 _ H _ _ (fun z=>z) (fun F ρ e z=>zaW_ z) (JD_ h1 S0) e ?_⟩
  exact ⟨fun F' σ' H' ρ' s S' o=>(by exact o .non F' H' s (QE_ S0 s S') .non),fun F' σ' H' ρ' d' v s S' r o=>(by exact o v F' H' s (QE_ S0 s S') r),fun F' σ' H' ρ' d' v s S' r o=>(o:False).elim,fun F' σ' H' ρ' s S' o=>(o:False).elim,fun F' σ' H' ρ' s S' o=>(o:False).elim⟩
theorem zgb_ {mb:SM (List D)} {mf:List D->M (List D)} (Fn:Fun K x qual st f fd) (Sc:FnScope N ps (zb_ st))
  (hb:∀ (cdv:Value) (A:Around) (outer:List Env) (s:Shared) (H:Hp) (E:XK),Room k (A.deeper (envOfC qual (zb_ st) s.heap.objs.size f cdv)) ->
   ASs (cxOf (CX1 P w) P w K mg base N qual (zb_ st) f cdv A outer s H E) (zo_ st) mb)
  (hm:∀ ds,ds.length=ps.length->mf ds=mb KL (fzs ds++List.replicate (N.length - ps.length) none)):FnOk P w K mg base (CX1 P w) (k+1) f fd ps (spL K ps.length mf):=by
 refine fn_x Fn Sc (fun vs H Q E h=>?_) (fun cdv A outer s H vs Q E hr h=>?_)
 ·obtain ⟨_,_,_,h1,_⟩:=h;exact h1
 ·obtain ⟨G,F0,ds,h1,S0,e⟩:=h
  have hl:ds.length=ps.length:=by have:=S0.ln;simp at this;lia
  rw [hm ds hl] at e
  refine ⟨_,j8_,hb cdv A outer s H E hr (fun m=>EndM K G E m _) KL G F0 _ H _ _ (fun z=>z) (fun F ρ e z=>zaW_ z) (JD_ h1 S0) e ?_⟩
  exact ⟨fun F' σ' H' ρ' s S' o=>(o:False).elim,fun F' σ' H' ρ' d' v s S' r o=>(o:False).elim,fun F' σ' H' ρ' d' v s S' r o=>(by exact o v F' H' s (QE_ S0 s S') (XC_ S' r)),fun F' σ' H' ρ' s S' o=>(o:False).elim,fun F' σ' H' ρ' s S' o=>(o:False).elim⟩
theorem zcd_ {S:Type} {ρ:En} {k:List D->M S} {K:Fg} {G:Gh} {E:XK} {C:S->Prop} (h:EndM K G E (at0 ρ k) C):∃ f,ρ[0]? = some (some (AV.op (OC.l f)))/\EndM K G E (k f) C:=by
 unfold at0 at h
 split at h
 ·rename_i f q;exact ⟨f,q,h⟩
 ·exact h.elim
theorem zcq_ {vs:List V} {ds g:List D} {G:Gh} {F H:Hp} (hl:vs.length=ps.length) (S0:StOk K G F (vs.map some) H (some (.op (.l g))::fzs ds)):StOk K G F (L2.start N vs) H (some (.op (.l g))::fzs ds++List.replicate (N.length - ps.length) none):=by
 have e0:L2.start N vs=vs.map some++List.replicate (N.length - ps.length) none:=by unfold L2.start;rw [hl]
 rw [e0]
 exact S0.grow _
theorem W4_ {mb:SM (D×List D)} {mf:List D->List D->M (D×List D)} (Fn:Fun K x qual st f fd) (Sc:FnScope N ps (zb_ st))
  (hb:∀ (cdv:Value) (A:Around) (outer:List Env) (s:Shared) (H:Hp) (E:XK),Room k (A.deeper (envOfC qual (zb_ st) s.heap.objs.size f cdv)) ->
   ASs (cxOf (CX1 P w) P w K mg base N qual (zb_ st) f cdv A outer s H E) (zo_ st) mb)
  (hm:∀ g ds,ds.length+1=ps.length->mf g ds=mb K1 (some (.op (.l g))::fzs ds++List.replicate (N.length - ps.length) none)):FnOk P w K mg base (CX1 P w) (k+1) f fd ps (sp1 K ps.length mf):=by
 refine fn_x Fn Sc (fun vs H Q E h=>?_) (fun cdv A outer s H vs Q E hr h=>?_)
 ·obtain ⟨_,_,_,_,h1,_⟩:=h;exact h1
 ·obtain ⟨G,F0,g,ds,h1,S0,e⟩:=h
  have hl:ds.length+1=ps.length:=by have:=S0.ln;simp at this;lia
  rw [hm g ds hl] at e
  refine ⟨_,j8_,hb cdv A outer s H E hr (fun m=>EndM K G E m _) K1 G F0 _ H _ _ (fun z=>z) (fun F ρ e z=>zaW_ z) (zcq_ h1 S0) e ?_⟩
  refine ⟨fun F' σ' H' ρ' s S' o=>?_,fun F' σ' H' ρ' d' v s S' rv o=>?_,fun F' σ' H' ρ' d' v s S' r o=>(o:False).elim,fun F' σ' H' ρ' s S' o=>(o:False).elim,fun F' σ' H' ρ' s S' o=>(o:False).elim⟩
  ·obtain ⟨f',q,e'⟩:=zcd_ o
   exact e' .non F' H' s (zca_ S0 s S' q).1 .non
  ·obtain ⟨f',q,e'⟩:=zcd_ o
   exact e' v F' H' s (zca_ S0 s S' q).1 rv
end
structure CF (P:Program) (w:World) (K:Fg) (mg:Str->Option Value) (base:Heap) (x:Str) (k:Nat) (sp:Sp):Prop where
 ex:∃ (f:Addr) (fd:FuncData) (ps:List Str),FnOk P w K mg base (CX1 P w) k f fd ps sp/\mg x=some (.ref f)/\PySem.W.keepIn K (.ref f)=true/\L2.Binds K fd ps []
noncomputable def pFnD (mf:List D->M D) (ps:Pa D):Pu D:=fun ρ=>ps (fun ds=>mf ds) ρ
noncomputable def pFnL (mf:List D->M (List D)) (ps:Pa (List D)):Pu (List D):=fun ρ=>ps (fun ds=>mf ds) ρ
section
variable {S:Type}
noncomputable def eFn1 (mf:List D->List D->M (D×List D)) (i:Nat) (ms:Ev S (List D)):Ev S D:=fun x k ρ=>ms x (fun ds ρ1=>match ownL ρ1 i with
 | some f=>(mf f ds).on (fun e=>x e ρ1) (fun r=>k r.1 (setO ρ1 i r.2))
 | none=>.bad) ρ
end
noncomputable def EX (X:Cx) (G:Gh) (σ:L2.St):XK:=fun c dd H'=>∃ x ρ F1 F' C,c=.ref C/\XW X G F1 ρ x/\GOk G F' H'/\FzOk X.K F' σ ρ/\XR X.K F' C dd x
theorem XS.older {H:Hp} {h:Heap} {lo lo':Nat} {e C:Addr} {dd:Option Addr} (xs:XS H h lo e C dd) (hl:lo'<=lo):XS H h lo' e C dd:=by
 obtain ⟨oe,vs,q,c,d,z,z1,k⟩:=xs.obj
 refine ⟨Nat.le_trans hl xs.yg,xs.trk,oe,vs,q,c,d,z,z1,k.imp id ?_⟩
 rintro ⟨T,oT,ts,k,ne,l,r⟩
 exact ⟨T,oT,ts,k,ne,Nat.le_trans hl l,r⟩
def Zr_ (X:Cx) (σ:L2.St) (E:XK):Prop:=∀ (pins:List (Addr×Obj)) (H:Hp) (s:Shared) (e:Value) (s':Shared),Inv X pins σ H s->CX1 X.prog X.w X.stack H s E e s'->X.xe e s'
theorem Wa_ {X:Cx} {G:Gh} {σ:L2.St}:Zr_ X σ (EX X G σ):=fun pins H s e s' I h=>by
 obtain ⟨a,C,dd,H',rfl,ho,hb,un,hk,xs,x,ρ,F1,F',C',ec,xw,g,fz,xr⟩:=h
 cases ec
 refine xw F' H' s' a C dd pins σ g fz (I.call' ho un hk hb fun b z=>absurd z (by simp)) (xs.older I.sz) (fun p hp z=>?_) xr
 exact absurd (Nat.lt_of_lt_of_le (Heap.lt_size (I.pin p hp).1) (xs.tb z).2.1) (Nat.lt_irrefl _)
theorem EX.of {X:Cx} {G:Gh} {F F' H' H:Hp} {σ:L2.St} {ρ:En} {x:Ex} {C:Addr} {dd:Option Addr} {ex:Option Addr} {p:Nat->Option Addr} (S:StOk X.K G F σ H ρ) (xw:XW X G F ρ x) (g:GOk ⟨p,zs_ G σ ρ H ex,F⟩ F' H') (xr:XR X.K F' C dd x):EX X G σ (.ref C) dd H' :=
 ⟨x,ρ,F,F',C,rfl,xw,⟨g.fh,fun b o h=>g.oh b o (z3_ S h),fun b o h=>g.fo b o (z3_ S h),S.fb.trans g.fb⟩,S.fzok g.fb,xr⟩
section
variable {X:Cx} {k:Nat} {f:Addr} {fd:FuncData} {ps:List Str} {sp:Sp} {E:XK} {x:Str} {p pos:Pos} {e:Expr} {es:List Expr} {σ:L2.St} {H:Hp} {Q:VK}
theorem zbA_ {pins:List (Addr×Obj)} {s:Shared} {us:List Value} {vs:List V} (F:FnOk X.prog X.w X.K X.mg X.base (CX1 X.prog X.w) k f fd ps sp) (hr:Room k X.A) (hb:L2.Binds X.K fd ps []) (hx:Zr_ X σ E)
  (I:Inv X pins σ H s) (r:Vals vs us) (h:sp vs H Q E):wpAny (model X.prog X.w) X.A (call (.ref f) us) (EP X pins σ Q) X.xe s:=by
 have hl:(us++[]).length=ps.length:=by rw [List.append_nil,<-r.length];exact F.len _ _ _ _ h
 have bb:=hb s us I.kIn hl
 rw [List.append_nil] at bb
 refine wpAny_call (codeAny_mono (F.run X.A X.stack s H ⟨us,[]⟩ us vs Q E hr I.env0 bb r h) fun r s' hq=>?_)
 cases r with
 | error e=>exact hx pins H s e s' I hq
 | ok fl =>
  cases fl with
  | ret u=>exact I.after hq
  | next=>exact False.elim hq
  | brk=>exact False.elim hq
  | cont=>exact False.elim hq
theorem JH_ (F:FnOk X.prog X.w X.K X.mg X.base (CX1 X.prog X.w) k f fd ps sp) (hr:Room k X.A) (hg:Gl X x) (hm:X.mg x=some (.ref f)) (hk:PySem.W.keepIn X.K (.ref f)=true) (hb:L2.Binds X.K fd ps []) (hx:Zr_ X σ E)
  (hdb:(x==("__debug__" : Str))=false) (he:starEach (e::es) X.env=(false,eval e X.env)::starEach es X.env) (hpl:(backTo pos (starEach es X.env)).any (·.1)=false)
  (h:u8_ X (e::es) σ H fun vs H1=>sp vs H1 Q E):tSem X (.Call (.Name x p) (e::es) [] pos) σ H Q:=by
 unfold tSem
 intro pins s I
 unfold u8_ at h
 refine wpAny_Call_Name_kw (ZH_ I hg hm ?_ hdb)
 refine PySem.W.callWith_K (h₀:=X.base) I.ok.mod.kin hk (thn (h pos pins s I) fun us s1 ⟨vs,H1,I1,r,q⟩=>⟨I1.kIn,?_⟩) he hpl
 exact zbA_ F hr hb hx I1 r q
end
section
variable {S:Type} {X:Cx} {k n:Nat} {mf:List D->M D} {ml:List D->M (List D)} {m1:List D->List D->M (D×List D)} {m1L:List D->List D->M (List D×List D)} {x:Str} {p pos pn:Pos} {e:Expr} {es:List Expr} {ps:Pa D} {pl:Pa (List D)} {ms:Ev S (List D)}
theorem Yf_ (C:CF X.prog X.w X.K X.mg X.base x k (spD X.K n mf)) (hr:Room k X.A) (hg:Gl X x) (ha:AA X (e::es) ps) (hn:(e::es).length=n)
  (hdb:(x==("__debug__" : Str))=false) (he:starEach (e::es) X.env=(false,eval e X.env)::starEach es X.env) (hpl:(backTo pos (starEach es X.env)).any (·.1)=false):AP X (.Call (.Name x p) (e::es) [] pos) (pFnD mf ps):=by
 obtain ⟨f,fd,pl,Fn,h1,h2,h3⟩:=C.ex
 intro G F σ H ρ Q St w
 refine JH_ Fn hr hg h1 h2 h3 (Wa_ (G:=G)) hdb he hpl ?_
 refine ha G F σ H ρ _ _ _ St w fun ds vs F1 H1 s1 S1 hl r1 w1=>?_
 show spD X.K n mf vs H1 Q (EX X G σ)
 cases hd:mf ds with
 | bad=>rw [hd] at w1;exact w1.elim
 | exc e =>
  rw [hd] at w1
  exact ⟨_,F1,ds,hl.trans hn,jm_ S1 r1,by rw [hd];exact fun F' H' Cl dd g xr=>EX.of S1 w1 g xr⟩
 | ret d =>
  rw [hd] at w1
  refine ⟨_,F1,ds,hl.trans hn,jm_ S1 r1,?_⟩
  rw [hd]
  intro v F2 H2 s2 S2 r2
  obtain ⟨S3,t3⟩:=uK_ (avs':=ds.map AV.fz) S1 s2 S2
  exact w1 F2 H2 s2 S3 v r2
theorem zdV_ (C:CF X.prog X.w X.K X.mg X.base x k (spL X.K n ml)) (hr:Room k X.A) (hg:Gl X x) (ha:AA X (e::es) pl) (hn:(e::es).length=n)
  (hdb:(x==("__debug__" : Str))=false) (he:starEach (e::es) X.env=(false,eval e X.env)::starEach es X.env) (hpl:(backTo pos (starEach es X.env)).any (·.1)=false):AL X (.Call (.Name x p) (e::es) [] pos) (pFnL ml pl):=by
 obtain ⟨f,fd,pz,Fn,h1,h2,h3⟩:=C.ex
 intro G F σ H ρ Q St w
 refine JH_ Fn hr hg h1 h2 h3 (Wa_ (G:=G)) hdb he hpl ?_
 refine ha G F σ H ρ _ _ _ St w fun ds vs F1 H1 s1 S1 hl r1 w1=>?_
 show spL X.K n ml vs H1 Q (EX X G σ)
 cases hd:ml ds with
 | bad=>rw [hd] at w1;exact w1.elim
 | exc e =>
  rw [hd] at w1
  exact ⟨_,F1,ds,hl.trans hn,jm_ S1 r1,by rw [hd];exact fun F' H' Cl dd g xr=>EX.of S1 w1 g xr⟩
 | ret d =>
  rw [hd] at w1
  refine ⟨_,F1,ds,hl.trans hn,jm_ S1 r1,?_⟩
  rw [hd]
  intro v F2 H2 s2 S2 r2
  obtain ⟨S3,t3⟩:=uK_ (avs':=ds.map AV.fz) S1 s2 S2
  exact w1 F2 H2 s2 S3 v (t3 v _ r2)
theorem VM_ {ρ:En} {i:Nat} {f g:List D} (h:ownL ρ i=some g):setO ρ i f=setC ρ i (.l f):=Zw_ ρ i f g h
theorem Vw_ {i:Nat} {y:Str} {OK:M S->Prop} {z:Ex->En->M S} {kk:List D->En->M S} {G:Gh} {F H:Hp} {σ:L2.St} {ρ:En} {Q:List V->Hp->Prop} (hN:X.N[i]? = some y) (hv:Vis X.env.scope y) (hd:(y==("__debug__" : Str))=false) (hcd:(y==("__classdict__" : Str))=false)
  (ha:AEa X es ms) (he:starEach (.Name y pn::es) X.env=(false,eval (.Name y pn) X.env)::starEach es X.env) (hO:KOk OK) (hX:XL X OK z G) (St:StOk X.K G F σ H ρ) (ok:OK (ms z (fun ds ρ1=>match ownL ρ1 i with|some f=>kk (.list f::ds) ρ1|none=>.bad) ρ))
  (h0:(ownL ρ i).isSome=true)
  (k2:∀ a f ds vs F' H' ρ',Same F F'->StOk X.K G F' σ H' ρ'->ownL ρ' i=some f->σ[i]? = some (some (V.ref a))->vs.length=es.length->RepL X.K F' vs ds->OK (kk (.list f::ds) ρ')->Q (.ref a::vs) H'):u8_ X (.Name y pn::es) σ H Q:=by
 obtain ⟨f0,hf0⟩:=Option.isSome_iff_exists.mp h0
 obtain ⟨a,_,ea,_,_⟩:=jo_ St hf0
 refine semA (jU_ (uu_ hN hv hd hcd) jk_ he) ⟨_,ea,?_⟩
 refine ha OK z _ G F σ H ρ _ hO hX St ok fun ds vs F1 H1 ρ1 s1 S1 hl r1 o1=>?_
 split at o1
 ·rename_i f hf
  exact k2 a f ds vs F1 H1 ρ1 s1 S1 hf ea hl r1 o1
 ·exact (hO o1).elim
noncomputable def ck {S α:Type} (i:Nat) (m:Ev S α):Ev S α:=fun x k ρ=>match (ownL ρ i).isSome with
 | true=>m x k ρ
 | false=>.bad
theorem Jv_ {K:Fg} {G:Gh} {F H:Hp} {σ:L2.St} {ρ:En} {vs:List V} {ds f:List D} {j:Nat} {a:Addr} (S:StOk K G F σ H ρ) (hj:ownL ρ j=some f) (ha:σ[j]? = some (some (V.ref a))) (r:RepL K F vs ds) :
  StOk K ⟨P1 a,zs_ G σ ρ H (some a),F⟩ F ((V.ref a::vs).map some) H (some (.op (.l f))::fzs ds):=Xp_ S (Zj_ hj) ha r
theorem ur_ {i:Nat} {y:Str} (C:CF X.prog X.w X.K X.mg X.base x k (sp1 X.K n m1)) (hr:Room k X.A) (hg:Gl X x) (hN:X.N[i]? = some y) (hv:Vis X.env.scope y) (ha:AEa X es ms) (hn:es.length+1=n)
  (hdb:(x==("__debug__" : Str))=false) (he:starEach (.Name y pn::es) X.env=(false,eval (.Name y pn) X.env)::starEach es X.env) (hpl:(backTo pos (starEach es X.env)).any (·.1)=false)
  (hd:(y==("__debug__" : Str))=false:=by decide) (hcd:(y==("__classdict__" : Str))=false:=by decide):AE X (.Call (.Name x p) (.Name y pn::es) [] pos) (ck i (eFn1 m1 i ms)):=by
 obtain ⟨f,fd,pl,Fn,h1,h2,h3⟩:=C.ex
 intro OK z kk G F σ H ρ Q hO hX St ok k2
 unfold ck at ok
 split at ok
 case h_2=>exact (hO ok).elim
 rename_i h0
 refine JH_ Fn hr hg h1 h2 h3 (Wa_ (G:=G)) hdb he hpl ?_
 refine Vw_ (OK:=OK) (z:=z) (kk:=fun l ρ1=>match l with | .list f::ds=>(m1 f ds).on (fun e=>z e ρ1) (fun r=>kk r.1 (setO ρ1 i r.2))|_=>.bad) hN hv hd hcd ha he hO hX St ok h0 fun a f ds vs F1 H1 ρ1 s1 S1 hf ea hl r1 o1=>?_
 have o1':OK ((m1 f ds).on (fun e=>z e ρ1) (fun r=>kk r.1 (setO ρ1 i r.2))):=o1
 show sp1 X.K n m1 (V.ref a::vs) H1 Q (EX X G σ)
 cases hd:m1 f ds with
 | bad=>rw [hd] at o1';exact (hO o1').elim
 | exc e =>
  rw [hd] at o1'
  exact ⟨_,F1,f,ds,by simp [hl];exact hn,Jv_ S1 hf ea r1,by rw [hd];exact fun F' H' Cl dd g xr=>EX.of S1 (hX F1 ρ1 e o1') g xr⟩
 | ret r =>
  rw [hd] at o1'
  refine ⟨_,F1,f,ds,by simp [hl];exact hn,Jv_ S1 hf ea r1,?_⟩
  rw [hd]
  intro v F2 H2 s2 S2 r2
  obtain ⟨S3,t3⟩:=Vr_ (c':=.l r.2) (l:=ds.map AV.fz) S1 (Zj_ hf) ea s2 S2
  rw [<-VM_ hf] at S3
  exact k2 r.1 v F2 H2 _ (s1.trans s2) S3 r2 o1'
end
theorem zh_ {k:Nat} {A:Around} (r:Room k A):A.units+1100<cLine:=by have:=r.un;lia
noncomputable def noX {S:Type} (m:M S):M S:=match m with
 | .ret s=>.ret s
 | _=>.bad
theorem yb_ {S:Type} (s:S):noX (M.ret s)=.ret s:=rfl
def jY_ (step:D->M (Option D)):List D->M (List D)
 | []=>.ret []
 | d::r=>bd (noX (step d)) fun o=>bd (jY_ step r) fun xs=>.ret (o.toList++xs)
theorem Qz_ {step:D->M (Option D)}:∀ {ds:List D} {e:Ex},jY_ step ds≠.exc e
 | [],e,h=>by cases h
 | d::r,e,h=>by
  unfold jY_ at h
  cases hs:step d with
  | ret o =>
   rw [hs,yb_,y3_] at h
   cases hr:jY_ step r with
   | ret xs=>rw [hr] at h;cases h
   | exc e'=>exact Qz_ hr
   | bad=>rw [hr] at h;cases h
  | exc e'=>rw [hs] at h;cases h
  | bad=>rw [hs] at h;cases h
def Wc_ (k:Nat) (it:Pu (List D)) (t:Tg (Option D)) (pt:Pu Bool) (pe:Pu D):Pu (List D):=fun ρ=>bd (it ρ) fun ds =>
 bd (jY_ (fun d=>t d (fun ρ1=>bd (pt ρ1) fun b=>if b then bd (pe ρ1) fun v=>.ret (some v) else .ret none) (ρ++List.replicate k none)) ds) fitM
def uU_ {T:Type} (step:T->D->M (Option D×T)):List D->T->M (List D×T)
 | [],s=>.ret ([],s)
 | d::r,s=>bd (noX (step s d)) fun p=>bd (uU_ step r p.2) fun q=>.ret (p.1.toList++q.1,q.2)
theorem Qx_ {T:Type} {step:T->D->M (Option D×T)}:∀ {ds:List D} {s:T} {e:Ex},uU_ step ds s≠.exc e
 | [],s,e,h=>by cases h
 | d::r,s,e,h=>by
  unfold uU_ at h
  cases hs:step s d with
  | ret o =>
   rw [hs,yb_,y3_] at h
   cases hr:uU_ step r o.2 with
   | ret xs=>rw [hr] at h;cases h
   | exc e'=>exact Qx_ hr
   | bad=>rw [hr] at h;cases h
  | exc e'=>rw [hs] at h;cases h
  | bad=>rw [hs] at h;cases h
noncomputable def zgh_ {S:Type} (sh:List Kd) (k:Nat) (it:Ev S (List D)) (t:Tg (Option D×SOf sh)) (et:Ev (Option D×SOf sh) Bool) (ee:Ev (Option D×SOf sh) D):Ev S (List D):=fun x kk ρ=>it x (fun ds ρ1=>rdk sh (fun s =>
 (uU_ (fun s d=>t d (fun ρ2=>et (fun e _=>.exc e) (fun b ρ3=>if b then ee (fun e _=>.exc e) (fun v ρ4=>rdk sh (fun s'=>.ret (some v,s')) (ρ4.take sh.length)) ρ3 else rdk sh (fun s'=>.ret (none,s')) (ρ3.take sh.length)) ρ2) (wr sh s++List.replicate k none)) ds s).on
  (fun e=>x e ρ1) (fun q=>(fitM q.1).on (fun e=>x e ρ1) (fun out=>kk out (wr sh q.2)))) ρ1) ρ
noncomputable def zhf_:Pu Bool:=fun _=>.ret true
def ATs (X:Cx) (ifs:List Expr) (p:Pu Bool):Prop :=
 ∀ (G:Gh) (F:Hp) (σ:L2.St) (H:Hp) (ρ:En) (Q:Bool->Hp->Prop),StOk X.K G F σ H ρ->W X G F σ ρ (p ρ) (fun d F' H'=>Q d H')->∀ (pins:List (Addr×Obj)) (s:Shared),Inv X pins σ H s ->
  wpAny (model X.prog X.w) X.A (forIn ifs true fun c r=>if r=true then do let ok <-isTrue c X.env (eval c X.env);pure (ForInStep.yield ok) else pure (ForInStep.yield r)) (TP X pins σ Q) X.xe s
theorem Ud_ {X:Cx}:ATs X [] zhf_:=fun G F σ H ρ Q S w pins s I=>zcH_ pins s σ H Q I (w F H (Same.refl _) S)
theorem zdM_ {X:Cx} {c:Expr} {p:Pu Bool} (h:AT X c p):ATs X [c] p:=fun G F σ H ρ Q S w pins s I=>zcG_ ut_ pins s σ H Q I (h G F σ H ρ Q S w)
def AEts {S:Type} (X:Cx) (ifs:List Expr) (m:Ev S Bool):Prop :=
 ∀ (OK:M S->Prop) (x:Ex->En->M S) (k:Bool->En->M S) (G:Gh) (F:Hp) (σ:L2.St) (H:Hp) (ρ:En) (Q:Bool->Hp->Prop),KOk OK->XL X OK x G->StOk X.K G F σ H ρ->OK (m x k ρ) ->
  (∀ d F' H' ρ',Same F F'->StOk X.K G F' σ H' ρ'->OK (k d ρ')->Q d H')->∀ (pins:List (Addr×Obj)) (s:Shared),Inv X pins σ H s ->
  wpAny (model X.prog X.w) X.A (forIn ifs true fun c r=>if r=true then do let ok <-isTrue c X.env (eval c X.env);pure (ForInStep.yield ok) else pure (ForInStep.yield r)) (TP X pins σ Q) X.xe s
theorem XM_ {S:Type} {X:Cx} {ifs:List Expr} {p:Pu Bool} (h:ATs X ifs p):AEts (S:=S) X ifs (ePu p):=fun OK x k G F σ H ρ Q hO hX St ok kk=>h G F σ H ρ Q St (W.of hO hX ok fun d F' H' s S' o=>kk d F' H' ρ s S' o)
theorem W.rets {X:Cx} {G:Gh} {F:Hp} {σ:L2.St} {ρ:En} {α:Type} {m:M α} {a:α} {C:α->Hp->Hp->Prop} (e:m=.ret a) (h:∀ F' H',Same F F'->StOk X.K G F' σ H' ρ->C a F' H'):W X G F σ ρ m C:=by subst e;exact h
theorem zbs_:∀ (sh:List Kd) (s:SOf sh),(wr sh s).length=sh.length:=by
 intro sh
 induction sh with
 | nil=>intro s;rfl
 | cons a r ih=>intro s;cases a<;>simp [wr,ih]
inductive CIv {τ:Type} (K:Fg) (G:Gh) (σ:L2.St) (k:Nat) (ds:List D) (F1:Hp) (en:τ->En) (go:Nat->τ->List D->Prop) (out:List D):Nat->Nat->List V->L2.St->Hp->Prop
 | mk {i:Nat} {vs:List V} {σ':L2.St} {H':Hp} (F':Hp) (acc rest:List D) (s:τ) (hi:i<=ds.length) (s2:Same F1 F') (S2:StOk K G F' σ' H' (en s)) (kp:∀ j,j<σ.length->σ'[j]? = σ[j]?) (hl:σ'.length=σ.length+k) (rp:RepL K F' vs acc) (g:go i s rest) (eo:out=acc++rest):CIv K G σ k ds F1 en go out i (ds.length - i) vs σ' H'
theorem CIv.on {τ:Type} {K:Fg} {G:Gh} {σ:L2.St} {k:Nat} {ds:List D} {F1:Hp} {en:τ->En} {go:Nat->τ->List D->Prop} {out:List D} {i:Nat} {vs:List V} {σ':L2.St} {H':Hp} (F':Hp) (acc rest:List D) (s:τ) (hi:i<ds.length) (s2:Same F1 F') (S2:StOk K G F' σ' H' (en s)) (kp:∀ j,j<σ.length->σ'[j]? = σ[j]?) (hl:σ'.length=σ.length+k) (rp:RepL K F' vs acc) (g:go (i+1) s rest) (eo:out=acc++rest):∃ m',m'<ds.length - i/\CIv K G σ k ds F1 en go out (i+1) m' vs σ' H' :=
 ⟨ds.length - (i+1),by lia,⟨F',acc,rest,s,hi,s2,S2,kp,hl,rp,g,eo⟩⟩
theorem Vo_ {step:D->M (Option D)} {d:D} {r rest:List D} (h:jY_ step (d::r)=.ret rest):∃ o rest',step d=.ret o/\jY_ step r=.ret rest'/\rest=o.toList++rest':=by
 unfold jY_ at h
 cases hs:step d with
 | bad=>rw [hs] at h;cases h
 | exc e=>rw [hs] at h;cases h
 | ret o =>
  rw [hs,yb_,y3_] at h
  cases hr:jY_ step r with
  | bad=>rw [hr] at h;cases h
  | exc e=>rw [hr] at h;cases h
  | ret rest'=>rw [hr,y3_] at h;cases h;exact ⟨o,rest',rfl,rfl,rfl⟩
theorem Vn_ {T:Type} {step:T->D->M (Option D×T)} {d:D} {r rest:List D} {s sf:T} (h:uU_ step (d::r) s=.ret (rest,sf)):∃ o sn rest',step s d=.ret (o,sn)/\uU_ step r sn=.ret (rest',sf)/\rest=o.toList++rest':=by
 unfold uU_ at h
 cases hs:step s d with
 | bad=>rw [hs] at h;cases h
 | exc e=>rw [hs] at h;cases h
 | ret o =>
  obtain ⟨o,sn⟩:=o
  rw [hs,yb_,y3_] at h
  cases hr:uU_ step r sn with
  | bad=>rw [hr] at h;cases h
  | exc e=>rw [hr] at h;cases h
  | ret q'=>obtain ⟨rest',sf'⟩:=q';rw [hr,y3_] at h;cases h;exact ⟨o,sn,rest',rfl,hr,rfl⟩
theorem Yb_ {A B:Type} {m:M A} {f:A->M B} {b:B} (h:bd m f=.ret b):∃ a,m=.ret a/\f a=.ret b:=by
 cases m with
 | bad=>cases h
 | exc e=>cases h
 | ret a=>exact ⟨a,rfl,h⟩
section
variable {X:Cx}
noncomputable def QU_ (X:Cx) (N':List Str) (scope:Scope) (tg:Expr):TG:=fun v σ H Q=>∀ cl s H0 fp C,QS_ (zu_ X N' scope cl s H0 fp C) tg v σ H Q
noncomputable def QT_ (X:Cx) (N':List Str) (scope:Scope) (ifs:List Expr):TT:=fun σ H Q=>∀ cl s0 H0 fp C,∀ (pins:List (Addr×Obj)) (s:Shared),Inv (zu_ X N' scope cl s0 H0 fp C) pins σ H s ->
  wpAny (model X.prog X.w) (zu_ X N' scope cl s0 H0 fp C).A (forIn ifs true fun c r=>if r=true then do let ok <-isTrue c (zu_ X N' scope cl s0 H0 fp C).env (eval c (zu_ X N' scope cl s0 H0 fp C).env);pure (ForInStep.yield ok) else pure (ForInStep.yield r)) (TP (zu_ X N' scope cl s0 H0 fp C) pins σ Q) (zu_ X N' scope cl s0 H0 fp C).xe s
noncomputable def QV_ (X:Cx) (N':List Str) (scope:Scope) (e:Expr):TE:=fun σ H Q=>∀ cl s H0 fp C,tSem (zu_ X N' scope cl s H0 fp C) e σ H Q
variable {elt tg iter:Expr} {ifs:List Expr} {scope:Scope} {pos:Pos} {N':List Str} {k:Nat}
theorem YX_ {it:Pu (List D)} {t:Tg (Option D)} {pt:Pu Bool} {pe:Pu D} {G:Gh} {F:Hp} {σ:L2.St} {H:Hp} {ρ:En} {Q:VK} (hi:AI X tg iter it)
  (hg:∀ cl s H fp C,AG (zu_ X N' scope cl s H fp C) X.N.length tg t) (ht:∀ cl s H fp C,ATs (zu_ X N' scope cl s H fp C) ifs pt) (he:∀ cl s H fp C,AP (zu_ X N' scope cl s H fp C) elt pe)
  (hσ:σ.length=X.N.length) (St:StOk X.K G F σ H ρ) (w:W X G F σ ρ (Wc_ k it t pt pe ρ) fun ds F' H'=>∀ v,Frs X.K G F' σ H' ρ v (.l ds)->Q v H') :
  XU_ (y7_ X tg iter) k (QU_ X N' scope tg) (QT_ X N' scope ifs) (QV_ X N' scope elt) σ H Q:=by
 refine hi G F σ H ρ _ St (w.bind.imp fun ds F1 H1 s1 S1 w1 J wk=>?_)
 have hP:∀ i a,G.P i=some a->i<σ.length:=fun i a h=>(List.getElem?_eq_some_iff.mp (S1.pp i a h).1).1
 have hln:σ.length=ρ.length:=S1.ln
 have wc:=w1.bind
 revert wc
 generalize hstep:(fun d=>t d (fun ρ1=>bd (pt ρ1) fun b=>if b then bd (pe ρ1) fun v=>.ret (some v) else .ret none) (ρ++List.replicate k none))=step
 intro wc
 cases hcc:jY_ step ds with
 | bad=>rw [hcc] at wc;exact wc.elim
 | exc e=>exact (Qz_ hcc).elim
 | ret out =>
  rw [hcc] at wc
  have wf:∀ F' H',Same F1 F'->StOk X.K G F' σ H' ρ->W X G F' σ ρ (fitM out) fun ds F' H'=>∀ v,Frs X.K G F' σ H' ρ v (.l ds)->Q v H':=wc
  have hfit:out.length<=sizeLine:=(wf F1 H1 (Same.refl _) S1).fit.1
  have fin:∀ F' H',Same F1 F'->StOk X.K G F' σ H' ρ->∀ v,Frs X.K G F' σ H' ρ v (.l out)->Q v H':=fun F' H' s' S'=>(wf F' H' s' S').fit.2 F' H' (Same.refl _) S'
  have grown:∀ {F' H' σ' ρ'},StOk X.K G F' σ' H' ρ'->(∀ j,j<σ.length->σ'[j]? = σ[j]? /\ ρ'[j]? = ρ[j]?)->σ'.length=σ.length+k->StOk X.K G F' σ' H' (ρ++List.replicate k none):=fun {F' H' σ' ρ'} S' kp hl=>by
   refine S'.weak (by have:=S'.ln;simp;lia) (fun i av q=>?_) (fun i c q=>?_)
   ·have q':=uP_ q
    have hi:i<σ.length:=by rw [hln];exact (List.getElem?_eq_some_iff.mp q').1
    rw [(kp i hi).2];exact q'
   ·obtain ⟨a,ha⟩:=S'.pq i c q
    have hi:=hP i a ha
    rw [List.getElem?_append_left (by lia),<-(kp i hi).2]
    exact q
  refine ⟨CIv X.K G σ k ds F1 (fun _:Unit=>ρ++List.replicate k none) (fun i _ rest=>jY_ step (ds.drop i)=.ret rest) out,
   ⟨_,⟨F1,[],out,(),Nat.zero_le _,Same.refl _,S1.grow k,fun j hj=>by rw [List.getElem?_append_left hj],by simp,.nil,hcc,rfl⟩⟩,?_⟩
  rintro i m vs σ' H' ⟨F',acc,rest,_,hi,s2,S2,kp,hlen,rp,go,eo⟩
  refine ⟨by rw [rp.length];rw [eo,List.length_append] at hfit;lia,?_⟩
  by_cases hlt:i<ds.length
  ·refine .inr ⟨wk.go i G F' σ' H' _ s2 S2 hlt,fun x H2 y cl s0 H0 fp C=>?_⟩
   obtain ⟨F3,s3,S3,r3⟩:=wk.yld i G F' σ' H' _ x H2 ds[i] s2 S2 (List.getElem?_eq_getElem hlt) y
   rw [List.drop_eq_getElem_cons hlt] at go
   obtain ⟨o,rest',hst,hr,er⟩:=Vo_ go
   subst er
   clear go
   rw [<-hstep] at hst
   refine hg cl s0 H0 fp C (fun m=>m=.ret o) _ G F3 σ' H2 _ x ds[i] _ (fun z=>nomatch z) S3 r3 hst fun σ3 ρ3 S4 kp3 hl3 ml3 o4=>?_
   have kp':∀ j,j<σ.length->σ3[j]? = σ[j]? /\ ρ3[j]? = ρ[j]?:=fun j hj=>⟨((kp3 j (by lia)).1).trans (kp j hj),by rw [(kp3 j (by lia)).2,List.getElem?_append_left (by lia)]⟩
   obtain ⟨b,hpt,o4⟩:=Yb_ o4
   intro cl s0 H0 fp C
   refine ht cl s0 H0 fp C G F3 σ3 H2 ρ3 _ S4 (W.rets hpt fun F5 H5 s5 S5=>?_)
   cases b with
   | true =>
    refine iteT ?_
    obtain ⟨v,hpe,o5⟩:=Yb_ (m:=pe ρ3) o4
    cases o5
    intro cl s0 H0 fp C
    refine he cl s0 H0 fp C G F5 σ3 H5 ρ3 _ S5 (W.rets hpe fun F6 H6 s6 S6 u ru=>?_)
    exact CIv.on F6 (acc++[v]) rest' () hlt (((s2.trans s3).trans s5).trans s6) (grown S6 kp' (by lia)) (fun j hj=>(kp' j hj).1) (by lia) ((rp.mono ((s3.trans s5).trans s6)).append (.cons ru .nil)) hr (by rw [eo];simp)
   | false =>
    refine iteF ?_
    have o4':(M.ret none:M (Option D))=M.ret o:=o4
    cases o4'
    exact CIv.on F5 acc rest' () hlt ((s2.trans s3).trans s5) (grown S5 kp' (by lia)) (fun j hj=>(kp' j hj).1) (by lia) (rp.mono (s3.trans s5)) hr (by rw [eo];simp)
  ·have ei:i=ds.length:=by lia
   subst ei
   rw [List.drop_length] at go
   cases go
   rw [List.append_nil] at eo
   subst eo
   refine .inl ⟨wk.stop G F' σ' H' _ s2 S2,fun p hp=>?_⟩
   have Ssh:=S2.shrink (n:=σ.length) (by simp;lia) hP
   have e1:σ'.take σ.length=σ:=Z5_ kp rfl
   have e2:(ρ++List.replicate k none).take σ.length=ρ:=by rw [hln,List.take_left]
   rw [e1,e2] at Ssh
   obtain ⟨S5,r5⟩:=Ssh.newLst hp rp
   exact fin F' _ s2 S5 _ r5
theorem zdW_ {it:Pu (List D)} {t:Tg (Option D)} {pt:Pu Bool} {pe:Pu D} (hc:X.calm=true) (Sc:CompOk X N' k scope) (hi:AI X tg iter it)
  (hg:∀ cl s H fp C,AG (zu_ X N' scope cl s H fp C) X.N.length tg t) (ht:∀ cl s H fp C,ATs (zu_ X N' scope cl s H fp C) ifs pt) (he:∀ cl s H fp C,AP (zu_ X N' scope cl s H fp C) elt pe)
  (hs:∀ x,foldedSetIterable iter X.env x=pure x):AL X (.ListComp elt [⟨tg,iter,ifs,0⟩] scope pos) (Wc_ k it t pt pe):=by
 intro G F σ H ρ Q St w;unfold tSem;intro pins s I
 refine V8_ (wi:=y7_ X tg iter) (g:=QU_ X N' scope tg) (tc:=QT_ X N' scope ifs) (te:=QV_ X N' scope elt) hc Sc (fun x hx hf=>I.ok.has x.1 (Sc.free x hx hf)) UA_
  (fun cl s H fp C pins s' σ H v u Q I r h=>ZA_ pins s' σ H v u Q I r (h cl _ _ fp C)) (fun cl s H fp C pins s' σ H Q I h=>h cl _ _ fp C pins s' I) (fun cl s H fp C pins s' σ H Q I h=>zn_ pins s' σ H Q I (h cl _ _ fp C)) hs pins s σ H Q I (YX_ hi hg ht he I.len St w)
theorem zaX_ {S:Type} {sh:List Kd} {it:Ev S (List D)} {t:Tg (Option D×SOf sh)} {et:Ev (Option D×SOf sh) Bool} {ee:Ev (Option D×SOf sh) D} {OK:M S->Prop} {x:Ex->En->M S} {kk:List D->En->M S} {G:Gh} {F:Hp} {σ:L2.St} {H:Hp} {ρ:En} {Q:VK} (hi:AEi X tg iter it)
  (hg:∀ cl s H fp C,AG (zu_ X N' scope cl s H fp C) X.N.length tg t) (ht:∀ cl s H fp C,AEts (zu_ X N' scope cl s H fp C) ifs et) (he:∀ cl s H fp C,AE (zu_ X N' scope cl s H fp C) elt ee)
  (hσ:σ.length=X.N.length) (hO:KOk OK) (hX:XL X OK x G) (St:StOk X.K G F σ H ρ) (ok:OK (zgh_ sh k it t et ee x kk ρ)) (k2:∀ ds v F' H' ρ',Same F F'->StOk X.K G F' σ H' ρ'->Frs X.K G F' σ H' ρ' v (.l ds)->OK (kk ds ρ')->Q v H') :
  XU_ (y7_ X tg iter) k (QU_ X N' scope tg) (QT_ X N' scope ifs) (QV_ X N' scope elt) σ H Q:=by
 refine hi OK x _ G F σ H ρ _ hO hX St ok fun ds J F1 H1 ρ1 s1 S1 wk o1=>?_
 obtain ⟨s0,e0,o0⟩:=us_ hO o1
 clear o1
 have S0:=S1.rd e0
 have hshl:sh.length=σ.length:=(zbs_ sh s0).symm.trans S0.ln.symm
 have hlen0:∀ s:SOf sh,(wr sh s).length=σ.length:=fun s=>(zbs_ sh s).trans hshl
 have hP:∀ i a,G.P i=some a->i<σ.length:=fun i a h=>(List.getElem?_eq_some_iff.mp (S1.pp i a h).1).1
 revert o0
 generalize hstep:(fun (s:SOf sh) d=>t d (fun ρ2=>et (fun e _=>.exc e) (fun b ρ3=>if b then ee (fun e _=>.exc e) (fun v ρ4=>rdk sh (fun s'=>.ret (some v,s')) (ρ4.take sh.length)) ρ3 else rdk sh (fun s'=>.ret (none,s')) (ρ3.take sh.length)) ρ2) (wr sh s++List.replicate k none))=step
 intro o0
 cases hcc:uU_ step ds s0 with
 | bad=>rw [hcc] at o0;exact (hO o0).elim
 | exc e=>exact (Qx_ hcc).elim
 | ret q =>
  obtain ⟨out,sf⟩:=q
  rw [hcc,zfq_] at o0
  obtain ⟨hfit,o0⟩:=zge_ hO o0
  have again:∀ {F' H' σ' ρ'} {s':SOf sh},StOk X.K G F' σ' H' ρ'->(∀ j,j<σ.length->σ'[j]? = σ[j]?)->σ'.length=σ.length+k->rd sh (ρ'.take sh.length)=some s'->StOk X.K G F' σ' H' (wr sh s'++List.replicate k none):=fun {F' H' σ' ρ' s'} S' kp hl e'=>by
   obtain ⟨h1,h2,h3⟩:=JJ_ sh _ s' e'
   have hρ':ρ'.length=σ.length+k:=by rw [<-S'.ln];exact hl
   refine S'.weak (by simp [hlen0];lia) (fun i av q=>?_) (fun i c q=>?_)
   ·have q':=uP_ q
    have:=h2 i av q'
    have hi:i<sh.length:=by
     have:=(List.getElem?_eq_some_iff.mp this).1
     rw [List.length_take] at this;lia
    rw [List.getElem?_take_of_lt hi] at this
    exact this
   ·obtain ⟨a,ha⟩:=S'.pq i c q
    have hi:=hP i a ha
    rw [List.getElem?_append_left (by rw [hlen0];exact hi)]
    exact h3 i c (by rw [List.getElem?_take_of_lt (by lia)];exact q)
  refine ⟨CIv X.K G σ k ds F1 (fun s=>wr sh s++List.replicate k none) (fun i s rest=>uU_ step (ds.drop i) s=.ret (rest,sf)) out,
   ⟨_,⟨F1,[],out,s0,Nat.zero_le _,Same.refl _,S0.grow k,fun j hj=>by rw [List.getElem?_append_left hj],by simp,.nil,hcc,rfl⟩⟩,?_⟩
  rintro i m vs σ' H' ⟨F',acc,rest,sc,hi,s2,S2,kp,hlen,rp,go,eo⟩
  refine ⟨by rw [rp.length];rw [eo,List.length_append] at hfit;lia,?_⟩
  by_cases hlt:i<ds.length
  ·refine .inr ⟨wk.go i G F' σ' H' _ s2 S2 hlt,fun x H2 y cl sx H0 fp C=>?_⟩
   obtain ⟨F3,s3,S3,r3⟩:=wk.yld i G F' σ' H' _ x H2 ds[i] s2 S2 (List.getElem?_eq_getElem hlt) y
   rw [List.drop_eq_getElem_cons hlt] at go
   obtain ⟨o,sn,rest',hst,hr,er⟩:=Vn_ go
   subst er
   clear go
   rw [<-hstep] at hst
   refine hg cl sx H0 fp C (fun m=>m=.ret (o,sn)) _ G F3 σ' H2 _ x ds[i] _ (fun z=>nomatch z) S3 r3 hst fun σ3 ρ3 S4 kp3 hl3 ml3 o4=>?_
   have kp':∀ j,j<σ.length->σ3[j]? = σ[j]?:=fun j hj=>((kp3 j (by lia)).1).trans (kp j hj)
   intro cl sx H0 fp C
   refine ht cl sx H0 fp C (fun m=>m=.ret (o,sn)) (fun e _=>.exc e) _ G F3 σ3 H2 ρ3 _ (fun z=>nomatch z) (fun F ρ e z=>nomatch z) S4 o4 fun b F5 H5 ρ5 s5 S5 o5=>?_
   cases b with
   | true =>
    refine iteT ?_
    intro cl sx H0 fp C
    refine he cl sx H0 fp C (fun m=>m=.ret (o,sn)) (fun e _=>.exc e) _ G F5 σ3 H5 ρ5 _ (fun z=>nomatch z) (fun F ρ e z=>nomatch z) S5 o5 fun v u F6 H6 ρ6 s6 S6 ru o6=>?_
    obtain ⟨s',e',o'⟩:=us_ (OK:=fun m=>m=.ret (o,sn)) (fun z=>nomatch z) o6
    cases o'
    exact CIv.on F6 (acc++[v]) rest' sn hlt (((s2.trans s3).trans s5).trans s6) (again S6 kp' (by lia) e') kp' (by lia) ((rp.mono ((s3.trans s5).trans s6)).append (.cons ru .nil)) hr (by rw [eo];simp)
   | false =>
    refine iteF ?_
    obtain ⟨s',e',o'⟩:=us_ (OK:=fun m=>m=.ret (o,sn)) (fun z=>nomatch z) o5
    cases o'
    exact CIv.on F5 acc rest' sn hlt ((s2.trans s3).trans s5) (again S5 kp' (by lia) e') kp' (by lia) (rp.mono (s3.trans s5)) hr (by rw [eo];simp)
  ·have ei:i=ds.length:=by lia
   subst ei
   rw [List.drop_length] at go
   cases go
   rw [List.append_nil] at eo
   subst eo
   refine .inl ⟨wk.stop G F' σ' H' _ s2 S2,fun p hp=>?_⟩
   have Ssh:=S2.shrink (n:=σ.length) (by simp [hlen0]) hP
   have e1:σ'.take σ.length=σ:=Z5_ kp rfl
   have e2:(wr sh sf++List.replicate k none).take σ.length=wr sh sf:=by rw [<-hlen0 sf,List.take_left]
   rw [e1,e2] at Ssh
   obtain ⟨S5,r5⟩:=Ssh.newLst hp rp
   exact k2 _ _ F' _ _ (s1.trans s2) S5 r5 o0
theorem QH_ {S:Type} {sh:List Kd} {it:Ev S (List D)} {t:Tg (Option D×SOf sh)} {et:Ev (Option D×SOf sh) Bool} {ee:Ev (Option D×SOf sh) D} (hc:X.calm=true) (Sc:CompOk X N' k scope) (hi:AEi X tg iter it)
  (hg:∀ cl s H fp C,AG (zu_ X N' scope cl s H fp C) X.N.length tg t) (ht:∀ cl s H fp C,AEts (zu_ X N' scope cl s H fp C) ifs et) (he:∀ cl s H fp C,AE (zu_ X N' scope cl s H fp C) elt ee)
  (hs:∀ x,foldedSetIterable iter X.env x=pure x):AEl X (.ListComp elt [⟨tg,iter,ifs,0⟩] scope pos) (zgh_ sh k it t et ee):=by
 intro OK x kk G F σ H ρ Q hO hX St ok k2;unfold tSem;intro pins s I
 refine V8_ (wi:=y7_ X tg iter) (g:=QU_ X N' scope tg) (tc:=QT_ X N' scope ifs) (te:=QV_ X N' scope elt) hc Sc (fun x hx hf=>I.ok.has x.1 (Sc.free x hx hf)) UA_
  (fun cl s H fp C pins s' σ H v u Q I r h=>ZA_ pins s' σ H v u Q I r (h cl _ _ fp C)) (fun cl s H fp C pins s' σ H Q I h=>h cl _ _ fp C pins s' I) (fun cl s H fp C pins s' σ H Q I h=>zn_ pins s' σ H Q I (h cl _ _ fp C)) hs pins s σ H Q I (zaX_ hi hg ht he I.len hO hX St ok k2)
theorem YZ_ {S:Type} {pos' spos:Pos} {i:Nat} {y:Str} {it:Pu (List D)} {t:Tg (Option D)} {pt:Pu Bool} {pe:Pu D}
  (hN:X.N.Nodup) (hy:X.N[i]? = some y) (hly:Loc X.env.scope y) (hfn:X.fn y=true\/X.env.scope.names.lookup y=some .local) (hc:X.calm=true) (Sc:CompOk X N' k scope) (hi:AI X tg iter it)
  (hg:∀ cl s H fp C,AG (zu_ X N' scope cl s H fp C) X.N.length tg t) (ht:∀ cl s H fp C,ATs (zu_ X N' scope cl s H fp C) ifs pt) (he:∀ cl s H fp C,AP (zu_ X N' scope cl s H fp C) elt pe)
  (hsw:swapsWith (.ListComp elt [⟨tg,iter,ifs,0⟩] scope pos) (some (.Name y pos')) spos.line X.env=pure true) (hs:∀ x,foldedSetIterable iter X.env x=pure x) :
  AS (S:=S) X (.Assign [.Name y pos'] (.ListComp elt [⟨tg,iter,ifs,0⟩] scope pos) spos) (zeu_ i (ePu (Wc_ k it t pt pe))):=by
 intro OK K G F σ H ρ E hO hX St ok eo;unfold JB_;intro pins s I
 refine Jd_ (wi:=y7_ X tg iter) (g:=QU_ X N' scope tg) (tc:=QT_ X N' scope ifs) (te:=QV_ X N' scope elt) hN hy hly hfn hc Sc (fun x hx hf=>I.ok.has x.1 (Sc.free x hx hf)) UA_
  (fun cl s H fp C pins s' σ H v u Q I r h=>ZA_ pins s' σ H v u Q I r (h cl _ _ fp C)) (fun cl s H fp C pins s' σ H Q I h=>h cl _ _ fp C pins s' I) (fun cl s H fp C pins s' σ H Q I h=>zn_ pins s' σ H Q I (h cl _ _ fp C)) hsw hs pins s σ H E I ?_
 refine YX_ hi hg ht he I.len St ?_
 refine W.of hO hX ok fun d F' H' s S' o v r=>?_
 have o':OK (match Za_ ρ i with|true=>K.nx (ρ.set i (some (.ol (.l d))))|false=>.bad):=o
 split at o'
 ·rename_i ho
  obtain ⟨hl,hop⟩:=jL_ ho
  exact eo.nx F' _ H' _ s (S'.store hop hl (.inr ⟨.l d,rfl,r⟩)) o'
 ·exact (hO o').elim
theorem Vx_ {S:Type} {pos' spos:Pos} {i:Nat} {y:Str} {it:Pu (List D)} {t:Tg (Option D)} {pt:Pu Bool} {pe:Pu D}
  (hN:X.N.Nodup) (hy:X.N[i]? = some y) (hly:Loc X.env.scope y) (hfn:X.fn y=true\/X.env.scope.names.lookup y=some .local) (hc:X.calm=true) (Sc:CompOk X N' k scope) (hi:AI X tg iter it)
  (hg:∀ cl s H fp C,AG (zu_ X N' scope cl s H fp C) X.N.length tg t) (ht:∀ cl s H fp C,ATs (zu_ X N' scope cl s H fp C) ifs pt) (he:∀ cl s H fp C,AP (zu_ X N' scope cl s H fp C) elt pe)
  (hsw:swapsWith (.ListComp elt [⟨tg,iter,ifs,0⟩] scope pos) (some (.Name y pos')) spos.line X.env=pure true) (hs:∀ x,foldedSetIterable iter X.env x=pure x) :
  AS (S:=S) X (.Assign [.Name y pos'] (.ListComp elt [⟨tg,iter,ifs,0⟩] scope pos) spos) (sSet i (ePu (pZ (Wc_ k it t pt pe)))):=by
 intro OK K G F σ H ρ E hO hX St ok eo;unfold JB_;intro pins s I
 refine Jd_ (wi:=y7_ X tg iter) (g:=QU_ X N' scope tg) (tc:=QT_ X N' scope ifs) (te:=QV_ X N' scope elt) hN hy hly hfn hc Sc (fun x hx hf=>I.ok.has x.1 (Sc.free x hx hf)) UA_
  (fun cl s H fp C pins s' σ H v u Q I r h=>ZA_ pins s' σ H v u Q I r (h cl _ _ fp C)) (fun cl s H fp C pins s' σ H Q I h=>h cl _ _ fp C pins s' I) (fun cl s H fp C pins s' σ H Q I h=>zn_ pins s' σ H Q I (h cl _ _ fp C)) hsw hs pins s σ H E I ?_
 refine YX_ hi hg ht he I.len St ?_
 have w:W X G F σ ρ (pZ (Wc_ k it t pt pe) ρ) (fun d F' H'=>∀ v,Rep X.K F' v d->WY_ i v σ H' E.nx):=W.of hO hX ok fun d F' H' s S' o v r=>by
  have o':OK (match Za_ ρ i with|true=>K.nx (ρ.set i (some (.fz d)))|false=>.bad):=o
  split at o'
  ·rename_i ho
   obtain ⟨hl,hop⟩:=jL_ ho
   exact eo.nx F' _ H' _ s (S'.store hop hl (.inl ⟨d,rfl,r⟩)) o'
  ·exact (hO o').elim
 refine w.bind.imp fun ds F' H' s1 S1 w1 v fr=>?_
 obtain ⟨F2,s2,S2,r2⟩:=S1.settle (v:=v) (ds:=ds) fr
 exact w1 F2 H' s2 S2 v r2
end
end L4
namespace HT
open PySem PySem.Spec PyProof.Rows
section
variable {prog:Program} {w:World} {A:Around} {E:Value->Shared->Prop} {s:Shared}
theorem getItem_tuple_all {t sl:Addr} {items:Array Value} {vl vu:Value} {lo hi:Option Int} {Q:Value->Shared->Prop} (ht:IsTup s.heap t items) (hs:s.heap.IsSliceOf sl vl vu .none) (pl:IsPart vl lo) (pu:IsPart vu hi)
  (hw:sIx items.size 0 lo=0/\sIx items.size items.size hi=items.size) (h:Q (.ref t) s):wpAny (model prog w) A (getItem (.ref t) (.ref sl)) Q E s:=by
 obtain ⟨os,hos,hcs,hds⟩:=id hs
 have hTs:s.TypeIs (.ref sl) "slice":=⟨os,hos,hcs⟩
 unfold getItem
 try with_reducible refine wpAny_holding ?_
 first|refine wpAny_bind (wpAny_pure ?_)|skip
 refine wpAny_bind (wpAny_sequenceKey ht.typeIs (by decide) ?_)
 refine wpAny_bind (wpAny_callSpecial?_slot (name:=Str.ofString "__getitem__") ht.typeIs PyProof.Rows.slot_tuple_getitem
  (wpAny_call_entry PyProof.Rows.slot_tuple_getitem ht.typeIs entry_tuple_getitem ?_ (args_tuple_getitem _ _)))
 show wpAny _ _ (Builtin.Tuple.tupleItemsOf (.ref t) >>= _) _ _ s
 refine wpAny_bind (tupleItemsOf_ ht ?_)
 refine wpAny_bind (wpAny_typeOf hTs ?_)
 rw [if_pos (by decide)]
 refine wpAny_bind (uo_ hs pl pu ?_)
 have hyes:((((sIx items.size 0 lo:Nat):Int)==0&&(1:Int)==1&&(sIx items.size items.size hi - sIx items.size 0 lo)==items.size)=true):=by
  rw [hw.1,hw.2]
  simp
 show wpAny _ _ (if (((sIx items.size 0 lo:Nat):Int)==0&&(1:Int)==1&&(sIx items.size items.size hi - sIx items.size 0 lo)==items.size)=true then _ else _) _ _ s
 rw [if_pos hyes]
 obtain ⟨o,ho,hc,n,hd⟩:=id ht
 have hex:∀ {Q':Bool->Shared->Prop},Q' true s->wpAny (model prog w) A.in1 (Builtin.Tuple.tupleIsExact (.ref t)) Q' E s:=fun {Q'} q=>by
  unfold Builtin.Tuple.tupleIsExact
  refine wpAny_bind (wpAny_typeOf ht.typeIs (wpAny_pure ?_))
  exact q
 first
  | exact wpAny_bind (hex (wpAny_bind (wpAny_rule (wpAny_pure ⟨_,rfl,wpAny_pure h⟩))))
  | exact wpAny_bind (wpAny_bind (hex (wpAny_bind (wpAny_rule (wpAny_pure (wpAny_pure ⟨_,rfl,wpAny_pure h⟩))))))
end
end HT
namespace L4
open PySem PySem.Spec PyProof.Rows L2 L3
noncomputable def cutD (ds:List D) (lo hi:Option Int):List D:=(ds.drop (HT.sIx ds.length 0 lo)).take (HT.sIx ds.length ds.length hi - HT.sIx ds.length 0 lo)
theorem Xj_ {K:Fg} {F:Hp} {vs:List V} {ds:List D} (r:RepL K F vs ds) (lo hi:Option Int):RepL K F (cutV vs lo hi) (cutD ds lo hi):=by
 unfold cutV cutD
 rw [r.length]
 exact (r.drop _).take _
def rSlA (K:Fg):V->Option Int->Option Int->Hp->VK->Prop:=fun x lo hi H Q=>∃ a xs,x=.ref a/\SqT K H a xs/\(HT.sIx xs.length 0 lo=0/\HT.sIx xs.length xs.length hi=xs.length)/\Q x H
theorem sl_tupA {X:Cx}:SlR X (rSlA X.K):=by
 intro pins s σ H x v vl vu lo hi sl Q I rx hs pl pu h
 obtain ⟨a,xs,rfl,hx,hw,q⟩:=h
 cases rx
 obtain ⟨its,r,ht,hz⟩:=I.tuple hx
 have hlen:its.toArray.size=xs.length:=by rw [List.size_toArray];exact r.length.symm
 refine ⟨"tuple",_,PyProof.Rows.slot_tuple_getitem.lookup,ht.typeIs,?_⟩
 exact HT.getItem_tuple_all ht hs pl pu (by rw [hlen];exact hw) ⟨.ref a,H,I,rfl,q⟩
noncomputable def pNoI:Pu (Option Int):=fun _=>.ret none
noncomputable def asI (d:D):M (Option Int):=match d with
 | .int i=>.ret (some i)
 | _=>.bad
def pInt (p:Pu D):Pu (Option Int):=fun ρ=>bd (p ρ) asI
noncomputable def fCut (d:D) (lo hi:Option Int):Option D:=match d with
 | .tuple ds=>some (.tuple (cutD ds lo hi))
 | .list ds=>some (.list (cutD ds lo hi))
 | _=>none
def zfi_ (p:Pu D) (l h:Pu (Option Int)):Pu D:=fun ρ=>bd (p ρ) fun d=>bd (l ρ) fun lo=>bd (h ρ) fun hi=>oM (fCut d lo hi)
def APo (X:Cx) (e:Option Expr) (p:Pu (Option Int)):Prop :=
 ∀ (G:Gh) (F:Hp) (σ:L2.St) (H:Hp) (ρ:En) (Q:Option Int->Hp->Prop),StOk X.K G F σ H ρ->W X G F σ ρ (p ρ) (fun d F' H'=>Q d H')->∀ (pins:List (Addr×Obj)) (s:Shared),Inv X pins σ H s ->
  wpAny (model X.prog X.w) X.A (evalPart e X.env) (fun u s'=>∃ o H',Inv X pins σ H' s'/\IsPart u o/\Q o H') X.xe s
noncomputable def zgI_ (X:Cx) (e:Option Expr):TO:=fun σ H Q=>∀ (pins:List (Addr×Obj)) (s:Shared),Inv X pins σ H s->wpAny (model X.prog X.w) X.A (evalPart e X.env) (fun u s'=>∃ o H',Inv X pins σ H' s'/\IsPart u o/\Q o H') X.xe s
theorem zbH_ {X:Cx} {e:Option Expr}:PO X e (zgI_ X e):=fun pins s σ H Q I h=>h pins s I
section
variable {X:Cx} {e:Expr} {lo hi:Option Expr} {p:Pu D} {pl ph:Pu (Option Int)} {pos p2:Pos}
theorem uR_:APo X none pNoI:=fun G F σ H ρ Q S w pins s I=>zcO_ pins s σ H Q I (w F H (Same.refl _) S)
theorem uQ_ (h:AP X e p):APo X (some e) (pInt p):=fun G F σ H ρ Q S w pins s I=>zcN_ zn_ pins s σ H Q I (h G F σ H ρ _ S (w.bind.imp fun d F1 H1 s1 S1 w1 v r=>by
 cases r with
 | int i=>exact ⟨i,rfl,w1 F1 H1 (Same.refl _) S1⟩
 | bl b=>exact w1.elim
 | non=>exact w1.elim
 | str i=>exact w1.elim
 | tup _ _=>exact w1.elim
 | lst _ _=>exact w1.elim
 | dct _ _ _=>exact w1.elim
 | dck _ _ _=>exact w1.elim
 | exc _ _ _ _ _=>exact w1.elim
 | fn _=>exact w1.elim))
theorem uS_ (he:AO X e p) (hl:APo X lo pl) (hh:APo X hi ph):AP X (.Subscript e (.Slice lo hi none p2) pos) (zfi_ p pl ph) :=
 fun G F σ H ρ Q S w=>sem (zae_ (sl_tup.or (sl_tupA.or zct_)) zn_ zbH_ zbH_) (he G F σ H ρ _ S (w.bind.imp fun d F1 H1 s1 S1 w1 x hx =>
  hl G F1 σ H1 ρ _ S1 (w1.bind.imp fun lo F2 H2 s2 S2 w2=>hh G F2 σ H2 ρ _ S2 (w2.bind.imp fun hi F3 H3 s3 S3 w3=>by
   obtain ⟨res,hr,k⟩:=w3.opt
   have ox:=(hx.mono (s2.trans s3)).or S3
   cases d<;>try (cases hr)
   ·obtain ⟨a,vs,rfl,h1,h2⟩:=ox.list S3.fh
    refine .inr (.inr ⟨a,vs,rfl,h1,fun q hq=>?_⟩)
    obtain ⟨S4,r4⟩:=S3.newLst hq (Xj_ h2 lo hi)
    obtain ⟨F5,s5,S5,r5⟩:=S4.settle r4
    exact k F5 _ s5 S5 _ r5
   ·rename_i ds
    obtain ⟨a,vs,rfl,h1,h2⟩:=ox.tuple S3.fh
    by_cases hw:HT.sIx vs.length 0 lo=0/\HT.sIx vs.length vs.length hi=vs.length
    ·refine .inr (.inl ⟨a,vs,rfl,h1,hw,k F3 H3 (Same.refl _) S3 _ ?_⟩)
     have:cutD ds lo hi=ds:=by
      unfold cutD
      rw [<-h2.length,hw.1,hw.2]
      simp [h2.length]
     rw [this]
     exact ox.tup'
    ·refine .inl ⟨a,vs,rfl,h1,hw,fun q hq=>?_⟩
     obtain ⟨s4,S4,r4⟩:=S3.newTup hq (Xj_ h2 lo hi)
     exact k _ _ s4 S4 _ r4))))
end
noncomputable def ZD_ (d e:D):Option Bool:=match d,e with
 | .bool a,.bool b=>some (a != b)
 | _,.none=>some (!isNone d)
 | _,_=>none
section
variable {X:Cx}
theorem zam_:OpR X (compareOp .IsNot) (rD2 X.K ZD_):=by
 intro pins s σ H x y v u Q I rx ry ⟨d,e,b,r1,r2,ho,q⟩
 unfold ZD_ at ho
 split at ho
 ·cases ho
  obtain rfl:=r1.bool_inv
  obtain rfl:=r2.bool_inv
  cases rx
  cases ry
  exact PyProof.Rows.isnot_bool ⟨.bl _,H,I,rfl,q⟩
 ·exact zal_ pins s σ H x y v u Q I rx ry ⟨d,.none,b,r1,r2,by rw [<-ho];rfl,q⟩
 ·cases ho
end
noncomputable def zaS_:List D->Option (List D)
 | [.list ds]=>some ds
 | [.tuple ds]=>some ds
 | _=>none
def zha_ (K:Fg):List V->Hp->VK->Prop:=fun xs H Q=>∃ p ys,xs=[.ref p]/\(SqL K H p ys\/SqT K H p ys)/\∀ l,H l=none->Q (.ref l) (upd H l (.lst ys))
theorem zde_ {K:Fg}:VC_ K (zha_ K) zaS_:=by
 intro G F σ H ρ xs ds res Q S o e k
 unfold zaS_ at e
 split at e
 ·cases e
  obtain ⟨v,r,rfl,ho,hr⟩:=zv_ o
  obtain rfl:=zL_ hr
  obtain ⟨a,vs,rfl,h1,h2⟩:=ho.list S.fh
  refine ⟨a,vs,rfl,.inl h1,fun l hl=>?_⟩
  obtain ⟨S2,r2⟩:=S.newLst hl h2
  exact k _ F _ (Same.refl _) S2 r2
 ·cases e
  obtain ⟨v,r,rfl,ho,hr⟩:=zv_ o
  obtain rfl:=zL_ hr
  obtain ⟨a,vs,rfl,h1,h2⟩:=ho.tuple S.fh
  refine ⟨a,vs,rfl,.inr h1,fun l hl=>?_⟩
  obtain ⟨S2,r2⟩:=S.newLst hl h2
  exact k _ F _ (Same.refl _) S2 r2
 ·cases e
noncomputable def fInt:List D->Option D
 | [.int i]=>some (.int i)
 | [.bool b]=>some (.int (if b then 1 else 0))
 | _=>none
theorem zft_ {K:Fg}:yU_ K (fun xs H Q=>(∃ i,xs=[.int i]/\Q (.int i) H)\/∃ k,xs=[.bl k]/\Q (.int (if k then 1 else 0)) H) fInt:=by
 intro G F σ H ρ xs ds res Q S o e k
 unfold fInt at e
 split at e
 ·cases e
  obtain ⟨v,r,rfl,ho,hr⟩:=zv_ o
  obtain rfl:=zL_ hr
  exact .inl ⟨_,by rw [ho.int],k _ F H (Same.refl _) S (.int _)⟩
 ·cases e
  obtain ⟨v,r,rfl,ho,hr⟩:=zv_ o
  obtain rfl:=zL_ hr
  exact .inr ⟨_,by rw [ho.bool],k _ F H (Same.refl _) S (.int _)⟩
 ·cases e
section
variable {S:Type}
noncomputable def putD (ds:List D) (j d:D):Option (List D):=match j with
 | .int k=>(ixN ds.length k).map fun q=>ds.set q d
 | _=>none
def sPut (i:Nat) (mi me:Ev S D):SM S:=fun K ρ=>me K.x (fun d ρ1=>match ownL ρ1 i with
 | some _=>mi K.x (fun j ρ2=>match ownL ρ2 i with
  | some ds=>(oM (putD ds j d)).on (fun e=>K.x e ρ2) (fun ds'=>K.nx (setO ρ2 i ds'))
  | none=>.bad) ρ1
 | none=>.bad) ρ
def zeA_ (i:Nat) (f:D->D->Option D) (mj me:Ev S D):SM S:=fun K ρ=>match ownL ρ i with
 | some _=>mj K.x (fun j ρ1=>match ownL ρ1 i with
  | some ds=>(oM (opIx (.list ds) j)).on (fun e=>K.x e ρ1) (fun x=>me K.x (fun d ρ2=>(oM (f x d)).on (fun e=>K.x e ρ2) (fun r=>match ownL ρ2 i with
   | some ds2=>(oM (putD ds2 j r)).on (fun e=>K.x e ρ2) (fun ds'=>K.nx (setO ρ2 i ds'))
   | none=>.bad)) ρ1)
  | none=>.bad) ρ
 | none=>.bad
def ipD (f:D->D->Option D) (K:Fg) (t:TIp):Prop:=∀ (x y:V) (dx dy r:D) (F H:Hp) (Q:VK),Rep K F x dx->Rep K F y dy->f dx dy=some r->(∀ v,Rep K F v r->Q v H)->t x y H Q
noncomputable def Wi_:D->D->Option D
 | .int i,.int j=>some (.int (i+j))
 | _,_=>none
theorem zdt_ {K:Fg}:ipD Wi_ K (ipI fun i j=>i+j):=fun x y dx dy r F H Q r1 r2 e k=>by
 cases dx<;>first|exact noS e|(cases dy<;>first|exact noS e|cases e)
 obtain rfl:=r1.int_inv;obtain rfl:=r2.int_inv
 exact ⟨_,_,rfl,rfl,k _ (.int _)⟩
theorem zds_ {K:Fg}:ipD Yt_ K (ipI fun i j=>i - j):=fun x y dx dy r F H Q r1 r2 e k=>by
 cases dx<;>first|exact noS e|(cases dy<;>first|exact noS e|cases e)
 obtain rfl:=r1.int_inv;obtain rfl:=r2.int_inv
 exact ⟨_,_,rfl,rfl,k _ (.int _)⟩
variable {X:Cx} {a b e:Expr} {mi me:Ev S D} {pos pos' tpos apos cpos:Pos} {ml:Ev S (List D)}
theorem Yd_ {i:Nat} {x:Str} (hN:X.N[i]? = some x) (hv:Vis X.env.scope x) (hi:AE X b mi) (he:AE X e me) (ha:∀ v,assign (.Subscript (.Name x pos') b tpos) X.env v=(do
   let ov <-holding [v] (eval (.Name x pos') X.env)
   let iv <-holding [v,ov] (eval b X.env)
   standAt tpos
   holding [v,ov,iv] (setItem ov iv v)
   release [v,ov,iv] []))
  (hs:swapsWithSole [.Subscript (.Name x pos') b tpos] e pos.line X.env=pure false) (hw:swappedStores [.Subscript (.Name x pos') b tpos] e X.env=pure none)
  (h1:(assignEach [.Subscript (.Name x pos') b tpos] X.env).map (·.2)=[assign (.Subscript (.Name x pos') b tpos) X.env])
  (hd:(x==("__debug__" : Str))=false:=by decide) (hcd:(x==("__classdict__" : Str))=false:=by decide):AS X (.Assign [.Subscript (.Name x pos') b tpos] e pos) (sPut i mi me):=fun OK K G F σ H ρ E hO hX St ok eo =>
 semS (zbG_ zn_ (zeY_ (uu_ hN hv hd hcd) zn_ set_list ha) hs hw h1) (he OK K.x _ G F σ H ρ _ hO hX St ok fun d v F1 H1 ρ1 s1 S1 r1 o1=>by
  split at o1
  case h_2=>exact (hO o1).elim
  rename_i ds0 hd0
  obtain ⟨a,vs0,ea,_,_⟩:=jo_ S1 hd0
  refine ⟨_,ea,hi OK K.x _ G F1 σ H1 ρ1 _ hO hX S1 o1 fun j u F2 H2 ρ2 s2 S2 r2 o2=>?_⟩
  split at o2
  case h_2=>exact (hO o2).elim
  rename_i ds hds
  obtain ⟨ds',hp,o3⟩:=jK_ hO o2
  obtain ⟨a',vs,ea',hh,rv⟩:=jo_ S2 hds
  rw [ea] at ea'
  injection ea' with ea';injection ea' with ea';injection ea' with ea'
  subst ea'
  unfold putD at hp
  split at hp
  ·rename_i k
   obtain ⟨q,hq,rfl⟩:=Option.map_eq_some_iff.mp hp
   obtain rfl:=r2.int_inv
   refine ⟨a,vs,k,q,rfl,rfl,hh,by rw [rv.length];exact hq,?_⟩
   exact eo.nx F2 σ _ _ (s1.trans s2) (yI_ S2 hds ea (RepL.set (r1.mono s2) q rv)) o3
  ·cases hp)
noncomputable def gIxL:V->V->Hp->VK->Prop:=fun x y H Q=>∃ p xs i v,x=.ref p/\y=.int i/\H p=some (.lst xs)/\atI xs i=some v/\Q v H
end
noncomputable def kindB (k:NameKind):Option NameKind->Bool
 | some k'=>k==k'
 | none=>false
noncomputable def Xl_ (N N':List Str) (k:Nat) (scope sc:Scope):Bool :=
 (scope.kind==.function)&&(N'.length==N.length+k)&&scope.names.all (fun y=>y.2 != .cell)&&scope.names.all (fun y=>y.2 != .local||kindB .local (scope.names.lookup y.1))
  && ((List.range N.length).all fun i=>match N'[i]? with
   | some x=>!(kindB .free (scope.names.lookup x)||kindB .local (scope.names.lookup x)||kindB .cell (scope.names.lookup x))||(N[i]? == some x&&kindB .free (scope.names.lookup x))
   | none=>true)
  && scope.names.all (fun y=>y.2 != .free||kindB .cell (sc.names.lookup y.1)||kindB .free (sc.names.lookup y.1))
theorem Zo_ {k:NameKind} {o:Option NameKind} (h:kindB k o=true):o=some k:=by
 cases o with
 | none=>cases h
 | some k'=>simp [kindB] at h;rw [h]
theorem zaE_ {k:NameKind} {o:Option NameKind} (h:o=some k):kindB k o=true:=by subst h;simp [kindB]
theorem uA_ {X:Cx} {N N':List Str} {k:Nat} {scope sc:Scope} (h:Xl_ N N' k scope sc=true) (hN:X.N=N) (hs:X.env.scope=sc):CompOk X N' k scope:=by
 subst hN hs
 simp only [Xl_,Bool.and_eq_true,List.all_eq_true,beq_iff_eq,Bool.or_eq_true,bne_iff_ne,ne_eq] at h
 obtain ⟨⟨⟨⟨⟨h1,h2⟩,h3⟩,h4⟩,h5⟩,h6⟩:=h
 refine ⟨h1,h2,fun y hy=>h3 y hy,fun y hy hl=>?_,fun i x hi hx _ hk=>?_,fun y hy hf=>?_⟩
 ·rcases h4 y hy with z|z
  ·exact absurd hl z
  ·exact Zo_ z
 ·have:=h5 i (List.mem_range.mpr hi)
  rw [hx] at this
  simp only [Bool.or_eq_true,Bool.not_eq_true',Bool.and_eq_true,beq_iff_eq] at this
  rcases this with z|⟨z1,z2⟩
  ·exfalso
   rcases hk with hk|hk|hk<;>simp [zaE_ hk] at z
  ·exact ⟨z1,Zo_ z2⟩
 ·rcases h6 y hy with (z|z)|z
  ·exact absurd hf z
  ·exact .inl (Zo_ z)
  ·exact .inr (Zo_ z)
theorem WA_ {K:Fg} {H:Hp} {a:Addr} {ns:List Int} {mf:List D->M D} (hS:SqL K H a (ns.map V.int)) (h:mf [.list (ns.map PyData.int)]=.ret (.bool true)):spD K 1 mf [.ref a] H (fun v _=>v=.bl true) fun _ _ _=>False:=by
 refine ⟨⟨fun _=>none,fun _=>none,H⟩,H,[.list (ns.map PyData.int)],rfl,⟨Same.refl _,fun b o z=>(nomatch z),fun b o z=>(nomatch z),rfl,fun i d z=>?_,fun i c z=>(yr_ (ds:=[.list (ns.map PyData.int)]) z).elim,fun i j c e a z=>(yr_ (ds:=[.list (ns.map PyData.int)]) z).elim,fun i a z=>(nomatch z),fun i c z=>?_,Same.refl _⟩,?_⟩
 ·obtain ⟨d',e,q⟩:=ZO_ (ds:=[.list (ns.map PyData.int)]) z
  cases e
  cases i with
  | zero=>simp at q;subst q;exact ⟨_,rfl,.lst hS (RepL.ints ns)⟩
  | succ i=>simp at q
 ·obtain ⟨d',e,q⟩:=ZO_ (ds:=[.list (ns.map PyData.int)]) z
  cases e
 ·rw [h]
  intro v F' H' s S' r
  cases r
  rfl
end L4
namespace HT
end HT
namespace L4
open PySem PySem.Spec PyProof.Rows L2 L3
section
variable {X:Cx} {a:Expr} {pa:Pu D} {pos:Pos} {ta:TE}
theorem zcS_ (ha:PE X a ta):PE X (.UnaryOp .Not a pos) (fun σ H Q=>ta σ H fun x H'=>∃ k,TruV X.K x H' k/\Q (.bl (!k)) H'):=by
 intro pins s σ H Q I h
 refine UnaryOp_ (thn (ha pins s σ H _ I h) fun v s1 ⟨x,H1,I1,r1,q1⟩=>?_)
 obtain ⟨k,q1,q2⟩:=q1
 exact not_of (thn (zbu_ pins s1 σ H1 x v (fun c H'=>Q (.bl (!c)) H') I1 r1 ⟨k,q1,q2⟩) fun c s2 ⟨H2,I2,q⟩=>⟨.bl (!c),H2,I2,rfl,q⟩)
theorem zed_ (ha:AO X a pa):AB X (.UnaryOp .Not a pos) (pNot (pTru pa)) :=
 fun G F σ H ρ Q S w=>sem (zcS_ zn_) (ha G F σ H ρ _ S (w.bind.bind.imp fun x F1 H1 s1 S1 w1 v hv=>by
  obtain ⟨bb,hb,k⟩:=w1.opt
  refine ⟨bb,?_,k F1 H1 (Same.refl _) S1 F1 H1 (Same.refl _) S1⟩
  have o:=hv.or S1
  cases x with
  | none=>rw [o.none];cases hb;exact rfl
  | bool i=>rw [o.bool];cases hb;exact rfl
  | int i=>rw [o.int];cases hb;exact rfl
  | str i =>
   rw [o.str]
   unfold truD at hb
   dsimp only at hb
   split at hb
   ·rename_i hl;cases hb;exact ⟨hl,rfl⟩
   ·cases hb
  | list ds=>obtain ⟨a,vs,rfl,h1,h2⟩:=o.list S1.fh;cases hb;exact .inl ⟨vs,h1,(jO_ h2).symm⟩
  | tuple ds=>obtain ⟨a,vs,rfl,h1,h2⟩:=o.tuple S1.fh;cases hb;exact .inr (.inl ⟨vs,h1,(jO_ h2).symm⟩)
  | dict ds=>cases hb))
end
noncomputable def isStar:Expr->Bool
 | .Starred _ _=>true
 | _=>false
theorem za_ {env:Env}:∀ {e:Expr} {es:List Expr},isStar e=false->starEach (e::es) env=(false,eval e env)::starEach es env:=by
 intro e es h
 cases e<;>first|rfl|cases h
noncomputable def forS {S T:Type}:(T->D->(T->M S)->M S)->List D->T->(T->M S)->M S:=Classical.choose (⟨@forC S T,rfl⟩:∃ f,f = @forC S T)
theorem uz_ {S T:Type} : @forS S T = @forC S T:=Classical.choose_spec (⟨@forC S T,rfl⟩:∃ f,f = @forC S T)
noncomputable def Y5_ {S T:Type}:(T->(T->M S)->M S)->Nat->T->M S:=Classical.choose (⟨@zP_ S T,rfl⟩:∃ f,f = @zP_ S T)
theorem Zt_ {S T:Type} : @Y5_ S T = @zP_ S T:=Classical.choose_spec (⟨@zP_ S T,rfl⟩:∃ f,f = @zP_ S T)
section
variable {S:Type}
noncomputable def zcx_ (sh:List Kd) (it:Ev S (List D)) (t:Tg S) (mb:SM S):SM S:=fun K ρ=>it K.x (fun ds ρ1=>rdk sh (fun s=>forS (fun s d kn=>t d (fun ρ2=>mb (ZZ_ sh K kn) ρ2) (wr sh s)) ds s (fun s'=>K.nx (wr sh s'))) ρ1) ρ
noncomputable def Yp_ (sh:List Kd) (fuel:Nat) (c:Ev S Bool) (mb:SM S):SM S:=fun K ρ=>rdk sh (fun s=>Y5_ (fun s kn=>c K.x (fun b ρ2=>if b then mb (ZZ_ sh K kn) ρ2 else rdk sh (fun s'=>K.nx (wr sh s')) ρ2) (wr sh s)) fuel s) ρ
theorem X0_ (sh:List Kd) (it:Ev S (List D)) (t:Tg S) (mb:SM S):zcx_ sh it t mb=sFor sh it t mb:=by
 unfold zcx_ sFor
 rw [uz_]
theorem QZ_ (sh:List Kd) (fuel:Nat) (c:Ev S Bool) (mb:SM S):Yp_ sh fuel c mb=VP_ sh fuel c mb:=by
 unfold Yp_ VP_
 rw [Zt_]
variable {X:Cx} {mb:SM S} {c:Expr} {mt:Ev S Bool} {ml:Ev S (List D)} {pos:Pos}
theorem jc_ {tg iter:Expr} {body:List Stmt} {sh:List Kd} {t:Tg S} (hp:PassesOwn (model X.prog X.w) X.A X.env X.xe) (hc:X.calm=true) (hi:AEi X tg iter ml) (hg:AG X 0 tg t) (hb:ASs X body mb)
  (hs:∀ x,foldedSetIterable iter X.env x=pure x):AS X (.For tg iter body [] pos) (zcx_ sh ml t mb):=by
 rw [X0_]
 exact zgv_ hp hc hi hg hb hs
theorem Yc_ {body:List Stmt} {sh:List Kd} {fuel:Nat} (hp:PassesOwn (model X.prog X.w) X.A X.env X.xe) (hc:AEt X c mt) (hb:ASs X body mb):AS X (.While c body [] pos) (Yp_ sh fuel mt mb):=by
 rw [QZ_]
 exact zbh_ hp hc hb
end
end L4
namespace HT
open PySem PySem.Spec PyProof.Rows
section
variable {prog:Program} {w:World} {A:Around} {E:Value->Shared->Prop} {s:Shared} {xs:Array (Int×Tok)} {l:Addr}
theorem max_intTup {Q:Value->Shared->Prop} (hh:A.handled=none) (hl:s.heap.IsTuple l (intItems xs)) (hne:0<xs.size)
  (h:∀ v h' tk,(intItems xs)[argBest (fun i j=>decide (numAt xs i>numAt xs j)) (xs.size - 1)]? = some v->(∀ b o,s.heap.get? b=some o->h'.get? b=some o)->Q v { s with heap:=h',toks:=tk }) :
  wpAny (model prog w) A (call (.builtin "max") [.ref l]) Q E s:=by
 have hlt:l<s.heap.objs.size:=by obtain ⟨_,e,_⟩:=hl;exact Heap.lt_size e
 refine call_max_walk (wpAny_pyIter_tuple hl ?_)
 refine ⟨_,_,_,_,_,_,_,rfl,Walks.tuple (A:=A.in1) hh _ l (Nat.ne_of_lt hlt) (intItems xs),⟨⟨_,Heap.get?_push_size _ rfl,rfl,rfl⟩,?_⟩,fun b hb=>?_,by simpa [intItems] using hne,CmpOf.ints_gt (numAt xs) (fun _ _=>intItems_at),fun v h' tk hP hk=>?_⟩
 ·obtain ⟨o,e,r⟩:=hl
  exact ⟨o,Heap.get?_push_of_some _ e,r⟩
 ·show b<(s.heap.push _).objs.size
  rw [Heap.size_push]
  rcases List.mem_cons.mp hb with rfl|hb
  ·exact Nat.lt_succ_self _
  ·rcases List.mem_cons.mp hb with rfl|hb
   ·exact Nat.lt_succ_of_lt hlt
   ·cases hb
 ·refine h v h' tk (by simpa [intItems] using hP) fun b o e=>hk b o (fun hm=>?_) (Heap.get?_push_of_some _ e)
  rcases List.mem_cons.mp hm with e1|hm
  ·exact absurd (e1▸Heap.lt_size e) (Nat.lt_irrefl _)
  ·cases hm
end
end HT
namespace L4
open PySem PySem.Spec PyProof.Rows L2 L3
noncomputable def zdC_:List D->Option D
 | [.tuple ds]=>match intsOf ds with
  | some (n::r)=>some (.int (maxL (n::r)))
  | _=>none
 | _=>none
def VX_ (K:Fg) (f:List Int->Option Int):List V->Hp->VK->Prop:=fun xs H Q=>∃ a ns i,xs=[.ref a]/\SqT K H a (ns.map V.int)/\f ns=some i/\Q (.int i) H
theorem zdc_ {K:Fg}:yU_ K (VX_ K gMax) zdC_:=by
 intro G F σ H ρ xs ds res Q S o e k
 unfold zdC_ at e
 split at e
 ·split at e
  ·rename_i hns
   cases e
   obtain ⟨v,r,rfl,ho,hr⟩:=zv_ o
   obtain rfl:=zL_ hr
   obtain ⟨a,vs,rfl,h1,h2⟩:=ho.tuple S.fh
   rw [jA_ hns] at h2
   rw [j1_ h2] at h1
   exact ⟨a,_,_,rfl,h1,rfl,k _ F H (Same.refl _) S (show Rep K F _ _ from .int _)⟩
  ·cases e
 ·cases e
theorem Xt_ {X:Cx} (hc:X.calm=true):CallR X (.builtin "max") (VX_ X.K gMax):=by
 intro pins s σ H xs us Q I r h0
 obtain ⟨a,ns,i,rfl,hq,e,q⟩:=h0
 obtain ⟨u,rfl,ru⟩:=Vals.one r
 cases ru
 obtain ⟨its,rv,pl,hz⟩:=I.tuple hq
 obtain ⟨ps,rfl,rfl⟩:=uF_ rv
 have hne:ps≠[]:=by rintro rfl;cases e
 have hne':ps.map Prod.fst≠[]:=by simpa using hne
 have ei:i=maxL (ps.map Prod.fst):=by
  cases hp:ps.map Prod.fst with
  | nil=>exact absurd hp hne'
  | cons n r=>rw [hp] at e;cases e;rfl
 subst ei
 have hl:s.heap.IsTuple a (intItems ps.toArray):=by
  have:s.heap.IsTuple a _:=pl
  unfold intItems
  simpa using this
 have hpos:0<ps.length:=List.length_pos_iff.mpr hne
 refine HT.max_intTup (I.ok.hd hc) hl (by simpa using hpos) fun v h' tk hv hk=>?_
 obtain ⟨t,rfl⟩:=intItems_at hv
 refine ⟨.int _,H,I.kept hk,⟨_,rfl⟩,?_⟩
 have b:=argBest_gt (numAt ps.toArray) (ps.toArray.size - 1)
 generalize argBest (fun i j=>decide (numAt ps.toArray i>numAt ps.toArray j)) (ps.toArray.size - 1)=m at b hv
 have hm:m<ps.length:=by
  have h0:=b.1
  simp at h0
  lia
 have hsp:=UL_ hne'
 have e1:numAt ps.toArray m=maxL (ps.map Prod.fst):=by
  refine Int.le_antisymm ?_ ?_
  ·refine hsp.1 _ ?_
   rw [uI_,List.getD_eq_getElem?_getD,List.getElem?_eq_getElem (by simpa using hm)]
   exact List.getElem_mem _
  ·obtain ⟨j,hj,ej⟩:=List.getElem_of_mem hsp.2
   have h0:=b.2 j (by simp at hj ⊢;lia)
   rw [uI_,List.getD_eq_getElem?_getD,List.getElem?_eq_getElem hj] at h0
   rw [<-ej]
   exact h0
 rw [e1]
 exact q
end L4
namespace PySem
end PySem
namespace L4
open PySem PySem.Spec PyProof.Rows L2 L3
theorem zak_ {X:Cx} {pins:List (Addr×Obj)} {σ:L2.St} {H:Hp} {s:Shared} {ch:List Addr} {x y:V} {x' y':Value} {t:Nat} {h2:Heap} (I:Inv X pins σ H s) (hf:∀ c∈ch,FpOk X pins H c) (ru:RelV x x') (ru2:RelV y y')
  (keep2:∀ c o,c∉ch->s.heap.get? c=some o->h2.get? c=some o) (tup2:h2.get? s.heap.objs.size=some { cls:=.type "tuple",data:=.seq #[x',y'] }) :
  Inv X pins σ (upd H s.heap.objs.size (.tup [x,y])) { s with heap:=h2,toks:=t }:=by
 have fr:=I.fresh
 have nit:∀ c o,H c=some o->c∉ch:=fun c o e m=>by rw [(hf c m).1] at e;cases e
 have hok:HOk X.prog X.w (upd H s.heap.objs.size (.tup [x,y])) h2:=fun c ob e=>by
  by_cases hb:c=s.heap.objs.size
  ·subst hb
   rw [zi_] at e
   cases e
   exact ⟨by show 2<=sizeLine;decide,[x',y'],.cons ru (.cons ru2 .nil),⟨_,tup2,rfl,_,rfl⟩,⟨_,tup2,rfl⟩⟩
  ·rw [zf_ hb] at e
   refine (I.hok c ob e).stay (fun c' v' hc' e'=>?_) (fun c' e'=>by rw [zf_ (zl_ e' fr)];exact e') fun c' ys e'=>by rw [zf_ (zl_ e' fr)];exact e'
   rcases hc' with z'|z'
   ·rw [z'] at e' ⊢;exact keep2 c v' (nit c ob e) e'
   ·exact keep2 c' v' (nit c' _ z') e'
 refine I.step (g':=s.gens) (d':=s.drawn) (t':=t) (h':=h2) (ch:=ch) (fun c hc=>?_) (fun c o _ _ hch e _=>keep2 c o hch e) (fun c o _ _ hch e _=>⟨o.slots,keep2 c o hch e⟩)
  (fun c o _ e n=>by rw [zf_ (Nat.ne_of_lt (Heap.lt_size e))];exact n) (fun c o hch e=>⟨o,keep2 c o hch e⟩)
  (fun c ys e=>by rw [zf_ (zl_ e fr)];exact e) (fun c o u' e=>by rw [zf_ (zl_ e fr)];exact e) (fun c ps e=>⟨#[],by rw [zf_ (zl_ e fr),e];simp⟩) (fun m hm=>?_) hok I.bare
 ·obtain ⟨f0,f1,f2,f3,f4,f5⟩:=hf c hc
  exact ⟨f3,f1,f4,f5⟩
 ·obtain ⟨o,es,ep,ho',r⟩:=hm
  exact ⟨o,es,ep,keep2 _ o (fun m=>(hf _ m).2.1 rfl) ho',r⟩
noncomputable def mExt (ds es:List D):Option (List D):=if decide (ds.length+es.length<=sizeLine) then some (ds++es) else none
section
variable {S:Type} {X:Cx} {e c:Expr} {ml:Ev S (List D)} {pos pos' apos cpos:Pos} {m:SM S}
theorem zdQ_ {i:Nat} {x:Str} (hN:X.N[i]? = some x) (hv:Vis X.env.scope x) (he:AEl X e ml)
  (hbase:attributeBase (.Name x pos') "extend" X.env (eval (.Name x pos') X.env)=eval (.Name x pos') X.env)
  (hfew:((backTo cpos (starEach [e] X.env)).all (fun x=>!x.1)&&(backToKw cpos (keywordEach [] X.env)).all (fun x=>x.1.isSome)
   && decide ([e].length+([]:List Keyword).length+(if ([]:List Keyword).isEmpty then 0 else 1)<30))=true)
  (hline:(apos.endLine==cpos.line)=true) (hs:starEach [e] X.env=(false,eval e X.env)::starEach [] X.env) (hplain:(backTo cpos (starEach [] X.env)).any (·.1)=false)
  (hsw:swapsWith (.Call (.Attribute (.Name x pos') "extend" apos) [e] [] cpos) none pos.line X.env=pure false) (hd:(x==("__debug__" : Str))=false:=by decide) (hcd:(x==("__classdict__" : Str))=false:=by decide) :
  AS X (.Expr (.Call (.Attribute (.Name x pos') "extend" apos) [e] [] cpos) pos) (sMut i mExt ml):=fun OK K G F σ H ρ E hO hX St ok eo =>
 semS (JK_ (zff_ PySem.F.plainAttrs_list PySem.F.slot_list_extend PySem.F.type_list_extend Wr_ (uu_ hN hv hd hcd) (jU_ zn_ ZC_ hs) hbase hfew hline hs hplain) hsw) (by
  unfold sMut at ok
  split at ok
  case h_2=>exact (hO ok).elim
  ·rename_i ds0 h0
   obtain ⟨a,vs0,ea,hh,_⟩:=jo_ St h0
   refine ⟨_,ea,.inl ⟨rfl,vs0,.inl (.inl hh)⟩,he OK K.x _ G F σ H ρ _ hO hX St ok fun es v F1 H1 ρ1 s1 S1 fr o1=>?_⟩
   split at o1
   ·rename_i ds hds
    obtain ⟨ds',hf,o2⟩:=jK_ hO o1
    obtain ⟨a',vs,ea',hh',rv⟩:=jo_ S1 hds
    rw [ea] at ea'
    injection ea' with ea';injection ea' with ea';injection ea' with ea'
    subst ea'
    obtain ⟨b,rfl,ob,_⟩:=fr
    obtain ⟨ws,g1,g2⟩:=ob.he
    unfold mExt at hf
    split at hf
    ·rename_i hz
     cases hf
     refine ⟨a,b,vs,ws,rfl,rfl,hh',g1,by rw [rv.length,g2.length];simpa using hz,?_⟩
     exact eo.nx F1 σ _ _ s1 (yI_ S1 hds ea (rv.append g2)) o2
    ·cases hf
   ·exact (hO o1).elim)
end
noncomputable def j3_:D->Bool
 | .int _=>true
 | .str _=>true
 | _=>false
noncomputable def jz_:D->Bool
 | .tuple ds=>ds.all j3_
 | _=>false
noncomputable def WJ_:D->D->Bool
 | .int i,.int j=>decide (i=j)
 | .str i,.str j=>decide (i=j)
 | _,_=>false
noncomputable def YE_:List D->List D->Bool
 | [],[]=>true
 | a::r,b::t=>WJ_ a b&&YE_ r t
 | _,_=>false
noncomputable def keyQ:D->D->Bool
 | .tuple a,.tuple b=>YE_ a b
 | a,b=>WJ_ a b
noncomputable def keyOk (es:List (D×D)) (k:D):Bool:=(jz_ k&&es.all fun p=>jz_ p.1)||(j3_ k&&es.all fun p=>j3_ p.1)
theorem YF_ {es:List (D×D)} {k:D} (h:keyOk es k=true):isXe es=false:=by
 unfold isXe
 split
 ·simp [keyOk,jz_,j3_] at h
 ·simp [keyOk,jz_,j3_] at h
 ·rfl
noncomputable def getE (es:List (D×D)) (k:D):Option D:=(es.find? fun p=>keyQ p.1 k).map (·.2)
noncomputable def putE (es:List (D×D)) (k d:D):List (D×D):=if es.any (fun p=>keyQ p.1 k) then es.map (fun p=>if keyQ p.1 k then (p.1,d) else p) else es++[(k,d)]
theorem Qq_ (a b:Key):WJ_ (keyD a) (keyD b)=decide (a=b):=by
 cases a<;>cases b<;>simp [WJ_,keyD]
theorem Qp_:∀ (a b:List Key),YE_ (a.map keyD) (b.map keyD)=decide (a=b)
 | [],[]=>by simp [YE_]
 | [],_::_=>by simp [YE_]
 | _::_,[]=>by simp [YE_]
 | x::xs,y::ys=>by
  simp only [List.map_cons,YE_,Qq_,Qp_ xs ys]
  by_cases h:x=y<;>by_cases g:xs=ys<;>simp [h,g]
theorem WI_ (a b:List Key):keyQ (keyT a) (keyT b)=decide (a=b):=Qp_ a b
theorem zbS_ (a b:Key):keyQ (keyD a) (keyD b)=decide (a=b):=by
 have h:keyQ (keyD a) (keyD b)=WJ_ (keyD a) (keyD b):=by cases a<;>cases b<;>rfl
 rw [h];exact Qq_ a b
theorem yv_ {d:D} (h:j3_ d=true):∃ k,d=keyD k:=by
 cases d<;>first|exact ⟨.inl _,rfl⟩|exact ⟨.inr _,rfl⟩|cases h
theorem Jo_:∀ {ds:List D},ds.all j3_=true->∃ k:List Key,ds=k.map keyD
 | [],_=>⟨[],rfl⟩
 | d::ds,h=>by
  rw [List.all_cons,Bool.and_eq_true] at h
  obtain ⟨k,rfl⟩:=yv_ h.1
  obtain ⟨ks,rfl⟩:=Jo_ h.2
  exact ⟨k::ks,rfl⟩
theorem yu_ {d:D} (h:jz_ d=true):∃ k,d=keyT k:=by
 cases d<;>first|cases h|skip
 obtain ⟨k,rfl⟩:=Jo_ h
 exact ⟨k,rfl⟩
theorem zaJ_ (k:Key):j3_ (keyD k)=true:=by cases k<;>rfl
theorem zaG_ (k:List Key):jz_ (keyT k)=true:=by
 unfold keyT jz_
 simp [zaJ_]
theorem zaH_ (k:Key):jz_ (keyD k)=false:=by cases k<;>rfl
theorem zaI_ (k:List Key):j3_ (keyT k)=false:=rfl
section
variable {K:Fg} {F H:Hp} {v:V}
theorem Zg_ {k:Key} (r:Rep K F v (keyD k)):v=kV k:=by
 cases k with
 | inl i=>cases (show Rep K F v (.int i) from r);rfl
 | inr i=>cases (show Rep K F v (.str i) from r);rfl
theorem Uu_:∀ {vs:List V} {k:List Key},RepL K F vs (k.map keyD)->vs=k.map kV
 | _,[],r=>by rw [List.map_nil] at r;cases r;rfl
 | _,k::ks,r=>by
  rw [List.map_cons] at r
  cases r with
  | cons a b=>rw [Zg_ a,Uu_ b];rfl
theorem Zf_ {k:List Key} (r:Rep K F v (keyT k)):∃ b,v=.ref b/\F b=some (.tup (k.map kV)):=by
 unfold keyT at r
 cases r with
 | tup h1 h2=>rw [Uu_ h2] at h1;exact ⟨_,rfl,h1⟩
def DT (K:Fg) (F H:Hp) (a:Addr) (es:List (D×D)):Prop:=∃ kvs,H a=some (.dT kvs)/\es.map (·.1)=kvs.map (fun p=>keyT p.1)/\RepL K F (kvs.map (·.2)) (es.map (·.2))
def DK (K:Fg) (F H:Hp) (a:Addr) (es:List (D×D)):Prop:=∃ kvs,H a=some (.dK kvs)/\es.map (·.1)=kvs.map (fun p=>keyD p.1)/\RepL K F (kvs.map (·.2)) (es.map (·.2))
theorem OR.dict {es:List (D×D)} (s:Same F H) (h:OR K F H v (.dict es)) (hx:isXe es=false):∃ a,v=.ref a/\(DT K F H a es\/DK K F H a es):=by
 rcases h with h|⟨a,c,e,e2,h1⟩
 ·cases h with
  | dct h1 h2 h3=>exact ⟨_,rfl,.inl ⟨_,s _ _ h1,h2,h3⟩⟩
  | dck h1 h2 h3=>exact ⟨_,rfl,.inr ⟨_,s _ _ h1,h2,h3⟩⟩
  | exc _ _ _ _ _=>cases hx
  | fn _=>cases hx
 ·cases c<;>cases e2
  ·exact ⟨a,e,.inl h1⟩
  ·exact ⟨a,e,.inr h1⟩
theorem YM_ {κ:Type} [DecidableEq κ] {kd:κ->D} (inj:∀ a b,keyQ (kd a) (kd b)=decide (a=b)) (k:κ):∀ {kvs:List (κ×V)} {es:List (D×D)},es.map (·.1)=kvs.map (fun p=>kd p.1)->RepL K F (kvs.map (·.2)) (es.map (·.2)) ->
  (∃ d v,getE es (kd k)=some d/\valV kvs k=some v/\Rep K F v d)\/(getE es (kd k)=none/\valV kvs k=none)
 | [],[],_,_=>.inr ⟨rfl,rfl⟩
 | [],_::_,e,_=>by simp at e
 | _::_,[],e,_=>by simp at e
 | p::kvs,q::es,e,r=>by
  simp only [List.map_cons,List.cons.injEq] at e
  cases r with
  | cons r1 r2 =>
   unfold getE valV
   rw [List.find?_cons,List.find?_cons,e.1,inj]
   by_cases h:p.1=k
   ·simp only [h,decide_true]
    exact .inl ⟨_,_,rfl,rfl,r1⟩
   ·simp only [h,decide_false]
    exact YM_ inj k e.2 r2
theorem V0_ {κ:Type} [DecidableEq κ] {kd:κ->D} (inj:∀ a b,keyQ (kd a) (kd b)=decide (a=b)) (k:κ) {d:D} (rv:Rep K F v d):∀ {kvs:List (κ×V)} {es:List (D×D)},es.map (·.1)=kvs.map (fun p=>kd p.1)->RepL K F (kvs.map (·.2)) (es.map (·.2)) ->
  (putE es (kd k) d).map (·.1)=(putK kvs k v).map (fun p=>kd p.1)/\RepL K F ((putK kvs k v).map (·.2)) ((putE es (kd k) d).map (·.2)):=by
 intro kvs es e r
 have any:∀ {kvs:List (κ×V)} {es:List (D×D)},es.map (·.1)=kvs.map (fun p=>kd p.1)->(es.any fun p=>keyQ p.1 (kd k))=kvs.any fun p=>decide (p.1=k):=by
  intro kvs
  induction kvs with
  | nil=>intro es e;cases es with
   | nil=>rfl
   | cons _ _=>simp at e
  | cons p kvs ih=>intro es e;cases es with
   | nil=>simp at e
   | cons q es =>
    simp only [List.map_cons,List.cons.injEq] at e
    rw [List.any_cons,List.any_cons,ih e.2,e.1,inj]
 have mp:∀ {kvs:List (κ×V)} {es:List (D×D)},es.map (·.1)=kvs.map (fun p=>kd p.1)->RepL K F (kvs.map (·.2)) (es.map (·.2)) ->
   (es.map fun p=>if keyQ p.1 (kd k) then (p.1,d) else p).map (·.1)=(kvs.map fun p=>if p.1=k then (p.1,v) else p).map (fun p=>kd p.1) /\
   RepL K F ((kvs.map fun p=>if p.1=k then (p.1,v) else p).map (·.2)) ((es.map fun p=>if keyQ p.1 (kd k) then (p.1,d) else p).map (·.2)):=by
  intro kvs
  induction kvs with
  | nil=>intro es e r;cases es with
   | nil=>exact ⟨rfl,.nil⟩
   | cons _ _=>simp at e
  | cons p kvs ih=>intro es e r;cases es with
   | nil=>simp at e
   | cons q es =>
    simp only [List.map_cons,List.cons.injEq] at e
    cases r with
    | cons r1 r2 =>
     obtain ⟨i1,i2⟩:=ih e.2 r2
     simp only [List.map_cons,e.1,inj]
     by_cases h:p.1=k
     ·simp only [h,decide_true,if_true,List.cons.injEq]
      exact ⟨⟨trivial,i1⟩,.cons rv i2⟩
     ·simp only [h,decide_false,if_false,List.cons.injEq]
      exact ⟨⟨by simpa using e.1,i1⟩,.cons r1 i2⟩
 unfold putE putK
 rw [any e]
 by_cases h:(kvs.any fun p=>decide (p.1=k))=true
 ·rw [if_pos h,if_pos h];exact mp e r
 ·rw [if_neg h,if_neg h]
  refine ⟨by simp [e],?_⟩
  rw [List.map_append,List.map_append]
  exact r.append (.cons rv .nil)
end
def QJ_ (H:Hp) (a:Addr):Prop:=H a=some (.dT [])\/H a=some (.dK [])
theorem Jt_ {X:Cx} {pins:List (Addr×Obj)} {σ:L2.St} {H:Hp} {s:Shared} {a:Addr} (I:Inv X pins σ H s) (h:QJ_ H a) :
  s.heap.DictOfH (tupleKind (zC_ X.prog X.w)) a []/\s.heap.DictOf (zC_ X.prog X.w) a []/\(a==sysModules)=false:=by
 rcases h with h|h
 ·obtain ⟨z,y,xs,kt,o,es,ep,h1,h2,h3,h4,h5,h6⟩:=Xd_ I.hok h
  cases kt
  have e0:es = #[]:=by
   have:es.toList=[]:=h4
   exact Array.toList_inj.mp this
  subst e0
  exact ⟨⟨o,_,ep,h1,h2,h3,rfl,(fun x hx=>by simp at hx),List.nodup_nil⟩,⟨o,_,ep,h1,h2,h3,fun e he=>by simp at he,.nil,List.nodup_nil⟩,y⟩
 ·obtain ⟨z,y,vs,kv,o,es,ep,h1,h2,h3,h4,h5,h6⟩:=zdG_ I.hok h
  cases kv
  have e0:es = #[]:=by
   have:es.toList=[]:=by
    generalize es.toList=l at h5
    cases h5
    rfl
   exact Array.toList_inj.mp this
  subst e0
  exact ⟨⟨o,_,ep,h1,h2,h3,rfl,(fun x hx=>by simp at hx),List.nodup_nil⟩,⟨o,_,ep,h1,h2,h3,fun e he=>by simp at he,.nil,List.nodup_nil⟩,y⟩
theorem DT.empty {K:Fg} {F H:Hp} {a:Addr} (h:DT K F H a []):QJ_ H a:=by
 obtain ⟨kvs,h1,h2,_⟩:=h
 cases kvs with
 | nil=>exact .inl h1
 | cons _ _=>simp at h2
theorem DK.empty {K:Fg} {F H:Hp} {a:Addr} (h:DK K F H a []):QJ_ H a:=by
 obtain ⟨kvs,h1,h2,_⟩:=h
 cases kvs with
 | nil=>exact .inr h1
 | cons _ _=>simp at h2
def KeyV (H:Hp) (y:V):Prop:=(∃ k,y=kV k)\/∃ (b:Addr) (ks:List Key),y=.ref b/\H b=some (.tup (ks.map kV))
def DAsk (H:Hp) (a:Addr) (y:V) (o:Option V):Prop:=DGet H a y o\/(QJ_ H a/\KeyV H y/\o=none)
theorem XF_ {K:Fg} {F H:Hp} {a:Addr} {y:V} {es:List (D×D)} {k:D} (s:Same F H) (h:DT K F H a es\/DK K F H a es) (r:Rep K F y k) (hk:keyOk es k=true) :
  (∃ d v,getE es k=some d/\DAsk H a y (some v)/\Rep K F v d)\/(getE es k=none/\DAsk H a y none):=by
 unfold keyOk at hk
 rw [Bool.or_eq_true,Bool.and_eq_true,Bool.and_eq_true] at hk
 have kT:jz_ k=true->KeyV H y:=fun h=>by
  obtain ⟨ks,rfl⟩:=yu_ h
  obtain ⟨b,rfl,hb⟩:=Zf_ r
  exact .inr ⟨b,ks,rfl,s _ _ hb⟩
 have kK:j3_ k=true->KeyV H y:=fun h=>by
  obtain ⟨ks,rfl⟩:=yv_ h
  exact .inl ⟨ks,Zg_ r⟩
 cases es with
 | nil =>
  refine .inr ⟨rfl,.inr ⟨?_,?_,rfl⟩⟩
  ·rcases h with h|h
   ·exact h.empty
   ·exact h.empty
  ·rcases hk with hk|hk
   ·exact kT hk.1
   ·exact kK hk.1
 | cons p es =>
  rcases h with ⟨kvs,h1,h2,h3⟩|⟨kvs,h1,h2,h3⟩
  ·rcases hk with ⟨hk,_⟩|⟨_,hk⟩
   ·obtain ⟨ks,rfl⟩:=yu_ hk
    obtain ⟨b,rfl,hb⟩:=Zf_ r
    rcases YM_ WI_ ks h2 h3 with ⟨d,v,e1,e2,e3⟩|⟨e1,e2⟩
    ·exact .inl ⟨d,v,e1,.inl (e2▸DGet.t h1 (s _ _ hb)),e3⟩
    ·exact .inr ⟨e1,.inl (e2▸DGet.t h1 (s _ _ hb))⟩
   ·exfalso
    cases kvs with
    | nil=>simp at h2
    | cons q kvs =>
     simp only [List.map_cons,List.cons.injEq] at h2
     rw [List.all_cons,h2.1,zaI_,Bool.false_and] at hk
     cases hk
  ·rcases hk with ⟨_,hk⟩|⟨hk,_⟩
   ·exfalso
    cases kvs with
    | nil=>simp at h2
    | cons q kvs =>
     simp only [List.map_cons,List.cons.injEq] at h2
     rw [List.all_cons,h2.1,zaH_,Bool.false_and] at hk
     cases hk
   ·obtain ⟨ks,rfl⟩:=yv_ hk
    obtain rfl:=Zg_ r
    rcases YM_ zbS_ ks h2 h3 with ⟨d,v,e1,e2,e3⟩|⟨e1,e2⟩
    ·exact .inl ⟨d,v,e1,.inl (e2▸DGet.k h1),e3⟩
    ·exact .inr ⟨e1,.inl (e2▸DGet.k h1)⟩
section
variable {X:Cx} {pins:List (Addr×Obj)} {σ:L2.St} {H:Hp} {s:Shared} {a:Addr} {y d:V} {u r:Value} {o:Option V} {A:Around} {E:Value->Shared->Prop}
theorem zee_ {Q:Value->Shared->Prop} (hu:A.units+1<cLine) (I:Inv X pins σ H s) (g:DAsk H a y o) (ry:RelV y u) (h:∀ s',Inv X pins σ H s'->Q (.bool (!o.isSome)) s') :
  wpAny (model X.prog X.w) A (compareOp .NotIn u (.ref a)) Q E s:=by
 rcases g with g|⟨e,k,rfl⟩
 ·exact zdH_ hu I g ry h
 ·obtain ⟨h1,h2,hd⟩:=Jt_ I e
  rcases k with ⟨k,rfl⟩|⟨b,ks,rfl,hb⟩
  ·exact wpAny_notIn_of (YH_ ry) hd h2.mapOf (h _ (I.tok _))
  ·cases (show u=Value.ref b from ry)
   exact wpAny_notIn_heap (tupleKind_room_in1 hu) (y1_ I.hok hb) hd h1 (h _ (I.tok _))
theorem zgC_ {Q:Value->Shared->Prop} (hu:A.units+1<cLine) (I:Inv X pins σ H s) (g:DAsk H a y o) (ry:RelV y u) (h:∀ w' s',Inv X pins σ H s'->RelV (o.getD .non) w'->Q w' s') :
  wpAny (model X.prog X.w) A (call (.builtin "dict.get") [.ref a,u]) Q E s:=by
 rcases g with g|⟨e,k,rfl⟩
 ·exact zgl_ hu I g ry h
 ·obtain ⟨h1,h2,hd⟩:=Jt_ I e
  rcases k with ⟨k,rfl⟩|⟨b,ks,rfl,hb⟩
  ·exact call_meetsIn PySem.F.slot_dict_get h2.typeIs PySem.F.entry_dict_get (PySem.F.args_dict_get_2 _ _) (meets_dict_get (zC_ X.prog X.w) a (YH_ ry) hd) ⟨_,h2.mapOf,h _ _ (I.tok _) rfl⟩
  ·cases (show u=Value.ref b from ry)
   exact call_meetsIn PySem.F.slot_dict_get h1.typeIs PySem.F.entry_dict_get (PySem.F.args_dict_get_2 _ _) (meetsH_dict_get (tupleKind (zC_ X.prog X.w)) a b hd) ⟨tupleKind_room_in1 hu,ks,[],y1_ I.hok hb,h1,h _ _ (I.tok _) rfl⟩
theorem DT.isD {K:Fg} {F:Hp} {es:List (D×D)} (h:DT K F H a es\/DK K F H a es):IsD H a:=by
 rcases h with ⟨kvs,h1,_⟩|⟨kvs,h1,_⟩
 ·exact .inr ⟨_,.inl h1⟩
 ·exact .inl ⟨_,.inl h1⟩
end
noncomputable def Xi_:D->D->Option D
 | .dict es,k=>if keyOk es k then some ((getE es k).getD .none) else none
 | _,_=>none
noncomputable def j9_ (d c:D):Option Bool:=match c with
 | .dict es=>if keyOk es d then some (!(getE es d).isSome) else none
 | _=>yJ_ d c
noncomputable def zO_ (x y:D):Option D:=match x with
 | .dict es=>if keyOk es y then getE es y else none
 | _=>opIx x y
noncomputable def Xc_:List D->Option D
 | [.dict es]=>if isXe es then none else some (.int es.length)
 | l=>fLen l
def zfk_ (po pe:Pu D):Pu D:=fun ρ=>bd (po ρ) fun d=>bd (noX (pe ρ)) fun k=>oM (Xi_ d k)
theorem W.nx {X:Cx} {G:Gh} {F:Hp} {σ:L2.St} {ρ:En} {α:Type} {m:M α} {C:α->Hp->Hp->Prop} (h:W X G F σ ρ (noX m) C):W X G F σ ρ m C:=by
 cases m with
 | ret a=>exact h
 | exc x=>exact h.elim
 | bad=>exact h.elim
noncomputable def zem_ (td ty:TE):TE:=fun σ H Q=>td σ H fun x H1=>∃ a,x=.ref a/\IsD H1 a/\ty σ H1 fun y H2=>∃ o,DAsk H2 a y o/\Q (o.getD .non) H2
section
variable {X:Cx} {o e f:Expr} {apos cpos:Pos} {td ty tx:TE}
theorem zai_ (hu:X.A.units+1<cLine) (ho:PE X o td) (he:PE X e ty) (m:M1 X o "get" apos e cpos):PE X (.Call (.Attribute o "get" apos) [e] [] cpos) (zem_ td ty):=by
 intro pins s σ H Q I h
 refine wpAny_Call_method m.base m.few m.line PySem.F.plainAttrs_dict PySem.F.slot_dict_get PySem.F.type_dict_get (thn (ho pins s σ H _ I h) fun u s1 ⟨x,H1,I1,rx,a,ex,d,q1⟩=>?_)
 subst ex
 obtain rfl:u=Value.ref a:=rx
 obtain ⟨t1,t2,_⟩:=zfR_ I1 d
 refine ⟨t1,t2,?_⟩
 rw [m.trees]
 refine Calls.callWith_builtin rfl (Calls.evalArgs_plain (Calls.spliced_cons (thn (he pins s1 σ H1 _ I1 q1) fun iv s2 ⟨y,H2,I2,ry,ov,g,q2⟩=>Calls.spliced_nil ?_)))
 exact zgC_ hu I2 g ry fun w' s3 I3 rw'=>⟨_,H2,I3,rw',q2⟩
end
section
variable {X:Cx} {o e f:Expr} {apos cpos pos:Pos} {po pe pf:Pu D}
theorem zbk_ (hu:X.A.units+1100<cLine) (ho:AO X o po) (he:AP X e pe) (m:M1 X o "get" apos e cpos):AP X (.Call (.Attribute o "get" apos) [e] [] cpos) (zfk_ po pe) :=
 fun G F σ H ρ Q S w=>sem (zai_ (by lia) zn_ zn_ m) (ho G F σ H ρ _ S (w.bind.imp fun d F1 H1 s1 S1 w1 v hv=>by
  have hd:∃ es,d=.dict es/\isXe es=false:=by
   cases hk:pe ρ with
   | ret k =>
    rw [hk] at w1;simp only [yb_,y3_] at w1
    obtain ⟨res,e,_⟩:=w1.opt
    cases d with
    | dict es =>
     dsimp only [Xi_] at e
     split at e
     ·rename_i hk;exact ⟨es,rfl,YF_ hk⟩
     ·cases e
    | _=>cases e
   | exc x=>rw [hk] at w1;exact w1.elim
   | bad=>rw [hk] at w1;exact w1.elim
  obtain ⟨es,rfl,hnx⟩:=hd
  obtain ⟨a,rfl,hh⟩:=(hv.or S1).dict S1.fh hnx
  refine ⟨a,rfl,DT.isD hh,he G F1 σ H1 ρ _ S1 (w1.bind.nx.imp fun k F2 H2 s2 S2 w2 y hy=>?_)⟩
  obtain ⟨res,e,kk⟩:=w2.opt
  dsimp only [Xi_] at e
  split at e
  case isFalse=>cases e
  rename_i hk
  cases e
  obtain ⟨a',ea,hh3⟩:=((hv.mono s2).or S2).dict S2.fh hnx
  cases ea
  rcases XF_ S2.fh hh3 hy hk with ⟨d,v,e1,g,r⟩|⟨e1,g⟩
  ·refine ⟨some v,g,?_⟩
   rw [e1] at kk
   exact kk F2 H2 (Same.refl _) S2 v r
  ·refine ⟨none,g,?_⟩
   rw [e1] at kk
   exact kk F2 H2 (Same.refl _) S2 .non .non))
end
noncomputable def rDin (neg:Bool):R2:=fun x y H Q=>∃ a o,y=.ref a/\DAsk H a x o/\Q (.bl (if neg then !o.isSome else o.isSome)) H
noncomputable def VV_ (K:Fg):R2:=fun x y H Q=>rD2 K yJ_ x y H Q\/rDin true x y H Q
noncomputable def rDIx:R2:=fun x y H Q=>∃ a v,x=.ref a/\DGet H a y (some v)/\Q v H
noncomputable def rIxA (K:Fg):R2:=fun x y H Q=>rIx K x y H Q\/rDIx x y H Q
section
variable {X:Cx}
theorem Jh_ (hu:X.A.units+1100<cLine):OpR X (compareOp .NotIn) (VV_ X.K):=OpR.or (We_ hu) (by
 intro pins s σ H x y v u Q I rx ry ⟨a,o,e,g,q⟩
 subst e
 obtain rfl:u=Value.ref a:=ry
 exact zee_ (by lia) I g rx fun s' I'=>⟨.bl _,H,I',rfl,q⟩)
theorem zdq_ (hu:X.A.units+1100<cLine):IxR X rDIx:=by
 intro value slice pins s σ H x y v u Q I rx ry ⟨a,w,e,g,q⟩ hs
 subst e
 obtain rfl:v=Value.ref a:=rx
 have hT:s.TypeIs (.ref a) "dict":=YV_ I g
 unfold subscriptTail
 refine wpAny_bind ?_
 rw [getitemInPython_of_ne hT.not_modules]
 refine wpAny_bind (wpAny_specialOf hT PySem.F.slot_dict_getitem.lookup ?_)
 have h₂:wpAny (model X.prog X.w) X.A (getItem (.ref a) u) (EP X pins σ Q) X.xe s:=Xg_ (by lia) I g ry fun w' s3 I3 rw'=>⟨w,H,I3,rw',q⟩
 have fin:wpAny (model X.prog X.w) X.A (subscripted slice false (.ref a) u) (fun r s₃=>wpAny (model X.prog X.w) X.A (letTemporaryGo value (.ref a) r >>= fun _=>pure r) (EP X pins σ Q) X.xe s₃) X.xe s:=by
  rw [hs]
  exact wpAny_operating (wpAny_mono h₂ (fun r s₃ h₃=>wpAny_bind (wpAny_letTemporaryGo (wpAny_pure h₃))) fun _ _ x=>x)
 first
  | exact wpAny_pure (wpAny_bind fin)
  | exact wpAny_bind (wpAny_pure (wpAny_bind fin))
  | exact wpAny_bind fin
theorem zH_ (hu:X.A.units+1100<cLine):IxR X (rIxA X.K):=IxR.or zfO_ (zdq_ hu)
theorem UN_ {K:Fg} {F H:Hp} {y:V} {es:List (D×D)} {k:D} (h:OR K F H y k) (hk:keyOk es k=true):Rep K F y k:=by
 rcases h with h|⟨a,c,e,e2,h1⟩
 ·exact h
 ·exfalso
  subst e2
  unfold keyOk at hk
  cases c<;>simp [OC.d,jz_,j3_] at hk
theorem UD_ {K:Fg}:OpB K (VV_ K) j9_:=by
 intro G F σ H ρ x y dx dy res Q S ox oy e k
 unfold j9_ at e
 split at e
 ·rename_i es
  split at e
  case isFalse=>cases e
  rename_i hk
  cases e
  obtain ⟨a,rfl,hh⟩:=oy.dict S.fh (YF_ hk)
  rcases XF_ S.fh hh (UN_ ox hk) hk with ⟨d,v,e1,g,r⟩|⟨e1,g⟩
  ·exact .inr ⟨a,_,rfl,g,by rw [e1] at k;exact k⟩
  ·exact .inr ⟨a,_,rfl,g,by rw [e1] at k;exact k⟩
 ·exact .inl (ZE_ G F σ H ρ x y dx dy res Q S ox oy e k)
theorem zG_ {K:Fg}:OpD K (rIxA K) zO_:=by
 intro G F σ H ρ x y dx dy res Q S ox oy e k
 unfold zO_ at e
 split at e
 ·rename_i es
  split at e
  case isFalse=>cases e
  rename_i hk
  obtain ⟨a,rfl,hh⟩:=ox.dict S.fh (YF_ hk)
  rcases XF_ S.fh hh (UN_ oy hk) hk with ⟨d,v,e1,g,r⟩|⟨e1,g⟩
  ·rw [e1] at e
   cases e
   rcases g with g|⟨_,_,z⟩
   ·exact .inr ⟨a,v,rfl,g,k v F H (Same.refl _) S r⟩
   ·cases z
  ·rw [e1] at e;cases e
 ·exact .inl (zhj_ G F σ H ρ x y dx dy res Q S ox oy e k)
end
noncomputable def ownD (ρ:En) (i:Nat):Option (Bool×List (D×D)):=match ρ[i]? with
 | some (some (.ol (.t es)))=>some (true,es)
 | some (some (.ol (.k es)))=>some (false,es)
 | _=>none
noncomputable def ocD (t:Bool) (es:List (D×D)):OC:=if t then .t es else .k es
theorem Qj_ {ρ:En} {i:Nat} {t:Bool} {es:List (D×D)} (h:ownD ρ i=some (t,es)):ρ[i]? = some (some (.ol (ocD t es))):=by
 unfold ownD at h
 split at h
 ·rename_i q;cases h;exact q
 ·rename_i q;cases h;exact q
 ·cases h
noncomputable def keyOf (t:Bool) (k:D):Bool:=if t then jz_ k else j3_ k
noncomputable def dPut (t:Bool) (es:List (D×D)) (k d:D):Option (List (D×D)):=if keyOf t k&&decide (es.length<sizeLine) then some (putE es k d) else none
section
variable {S:Type}
noncomputable def zez_ (t:Bool) (i:Nat):SM S:=fun K ρ=>match Za_ ρ i with
 | true=>K.nx (ρ.set i (some (.ol (ocD t []))))
 | false=>.bad
def zey_ (i:Nat) (mi me:Ev S D):SM S:=fun K ρ=>me K.x (fun d ρ1=>match ownD ρ1 i with
 | some _=>mi K.x (fun j ρ2=>match ownD ρ2 i with
  | some (t,es)=>(oM (dPut t es j d)).on (fun e=>K.x e ρ2) (fun es'=>K.nx (ρ2.set i (some (.ol (ocD t es')))))
  | none=>.bad) ρ1
 | none=>.bad) ρ
variable {X:Cx} {b e:Expr} {mi me:Ev S D} {pos pos' tpos:Pos}
theorem Y0_ (t:Bool) {i:Nat} {x:Str} (hN:X.N.Nodup) (hi:X.N[i]? = some x) (hx:Loc X.env.scope x) (hs:swapsWith (.Dict [] [] tpos) (some (.Name x pos')) pos.line X.env=pure false) (hf:X.fn x=true\/X.env.scope.names.lookup x=some .local) :
  AS (S:=S) X (.Assign [.Name x pos'] (.Dict [] [] tpos) pos) (zez_ t i):=fun OK K G F σ H ρ E hO hX St ok eo=>by
 unfold zez_ at ok
 split at ok
 case h_2=>exact (hO ok).elim
 rename_i ho
 obtain ⟨hl,hop⟩:=jL_ ho
 cases t with
 | true=>exact semS (Je_ hN hi hx zag_ hs hf) fun p hp=>eo.nx F _ _ _ (Same.refl _) ((St.lay (o:=.dT []) hp).store hop hl (.inr ⟨.t [],rfl,p,rfl,⟨St.fh.free hp,St.oh.free hp,[],zi_,rfl,.nil⟩,St.fresh_ne hp⟩)) ok
 | false=>exact semS (Je_ hN hi hx zah_ hs hf) fun p hp=>eo.nx F _ _ _ (Same.refl _) ((St.lay (o:=.dK []) hp).store hop hl (.inr ⟨.k [],rfl,p,rfl,⟨St.fh.free hp,St.oh.free hp,[],zi_,rfl,.nil⟩,St.fresh_ne hp⟩)) ok
theorem Ug_ (hu:X.A.units+1100<cLine) {i:Nat} {x:Str} (hN:X.N[i]? = some x) (hv:Vis X.env.scope x) (hi:AE X b mi) (he:AE X e me)
  (hs:swapsWith e (some (.Subscript (.Name x pos') b tpos)) pos.line X.env=pure false)
  (hd:(x==("__debug__" : Str))=false:=by decide) (hcd:(x==("__classdict__" : Str))=false:=by decide):AS X (.Assign [.Subscript (.Name x pos') b tpos] e pos) (zey_ i mi me):=fun OK K G F σ H ρ E hO hX St ok eo =>
 semS (zcK_ (by lia) (uu_ hN hv hd hcd) zn_ zn_ hs) (he OK K.x _ G F σ H ρ _ hO hX St ok fun d v F1 H1 ρ1 s1 S1 r1 o1=>by
  split at o1
  case h_2=>exact (hO o1).elim
  rename_i te0 hd0
  obtain ⟨t0,es0⟩:=te0
  obtain ⟨a,ea,_⟩:=S1.ow i _ (.inl (Qj_ hd0))
  refine ⟨_,ea,hi OK K.x _ G F1 σ H1 ρ1 _ hO hX S1 o1 fun j u F2 H2 ρ2 s2 S2 r2 o2=>?_⟩
  split at o2
  case h_2=>exact (hO o2).elim
  rename_i t es hds
  obtain ⟨es',hp,o3⟩:=jK_ hO o2
  have hown:=Qj_ hds
  obtain ⟨a',ea',oa⟩:=S2.ow i _ (.inl hown)
  rw [ea] at ea'
  injection ea' with ea';injection ea' with ea';injection ea' with ea'
  subst ea'
  unfold dPut at hp
  split at hp
  case isFalse=>cases hp
  rename_i hc
  cases hp
  rw [Bool.and_eq_true,decide_eq_true_eq] at hc
  cases t with
  | true =>
   obtain ⟨ks,rfl⟩:=yu_ hc.1
   obtain ⟨b,rfl,hb⟩:=Zf_ r2
   obtain ⟨kvs,h1,h2,h3⟩:=(show Held X.K F2 H2 a (.t es) from oa.he)
   obtain ⟨p1,p2⟩:=V0_ WI_ ks (r1.mono s2) h2 h3
   have hlen:kvs.length=es.length:=by have:=congrArg List.length h2;simpa using this.symm
   refine ⟨a,_,rfl,DPut.t h1 (S2.fh _ _ hb) (by lia),eo.nx F2 σ _ _ (s1.trans s2) ?_ o3⟩
   have:=S2.change (.inl hown) ea (c':=.t (putE es (keyT ks) d)) (o:=.dT (putK kvs ks v)) ⟨_,zi_,p1,p2⟩
   rw [hown] at this
   exact this
  | false =>
   obtain ⟨ks,rfl⟩:=yv_ hc.1
   obtain rfl:=Zg_ r2
   obtain ⟨kvs,h1,h2,h3⟩:=(show Held X.K F2 H2 a (.k es) from oa.he)
   obtain ⟨p1,p2⟩:=V0_ zbS_ ks (r1.mono s2) h2 h3
   have hlen:kvs.length=es.length:=by have:=congrArg List.length h2;simpa using this.symm
   refine ⟨a,_,rfl,DPut.k h1 (by lia),eo.nx F2 σ _ _ (s1.trans s2) ?_ o3⟩
   have:=S2.change (.inl hown) ea (c':=.k (putE es (keyD ks) d)) (o:=.dK (putK kvs ks v)) ⟨_,zi_,p1,p2⟩
   rw [hown] at this
   exact this)
end
end L4
namespace HT
open PySem PyProof.Rows
end HT
namespace L4
open PySem PySem.Spec PyProof.Rows L2 L3
noncomputable def y8_ (x y:D):Option Bool:=match x,y with
 | .tuple a,.tuple b=>match intsOf a,intsOf b with
  | some m,some n=>some (HT.lexLt m n)
  | _,_=>none
 | x,y=>opLt x y
noncomputable def rLtA (K:Fg):R2:=fun x y H Q=>rI0 (fun i j=>.bl (decide (i<j))) x y H Q\/rLtT K x y H Q
theorem Wg_ {X:Cx} (hu:X.A.units+1100<cLine):OpR X (compareOp .Lt) (rLtA X.K):=OpR.or zhh_ (zfp_ (by lia))
theorem Wj_ {K:Fg}:OpB K (rLtA K) y8_:=by
 intro G F σ H ρ x y dx dy res Q S ox oy e k
 unfold y8_ at e
 split at e
 ·rename_i a b
  split at e
  ·rename_i m n hm hn
   cases e
   obtain ⟨p,vs,rfl,h1,h2⟩:=ox.tuple S.fh
   obtain ⟨q,us,rfl,g1,g2⟩:=oy.tuple S.fh
   rw [jA_ hm] at h2
   rw [jA_ hn] at g2
   rw [j1_ h2] at h1
   rw [j1_ g2] at g1
   exact .inr ⟨p,q,m,n,rfl,rfl,h1,g1,k⟩
  ·cases e
 ·exact .inl (zhi_ G F σ H ρ x y dx dy res Q S ox oy e k)
end L4
namespace PySem
open Sem (wp)
open AutoSeq1 (wpAny_loadPart')
section
variable {prog:Program} {w:World} {A:Around} {E:Value->Shared->Prop} {s:Shared}
theorem ZF_ {it t:Addr} {i:Nat} {items} {x:Value} {Q:Value->Shared->Prop} (hit:s.heap.IsTupleIter it t i)
  (ht:s.heap.IsTuple t items) (hx:items[i]? = some x)
  (hQ:∀ h',h'.IsTupleIter it t (i+1)->Heap.SameBut it s.heap h'->Q x { s with heap:=h' }) :
  wpAny (model prog w) A (Builtin.SmallTypes.nextOf (.ref it)) Q E s:=by
 obtain ⟨o,ho,hc,hd⟩:=id hit
 obtain ⟨ol,hol,_,nl,hdl⟩:=ht
 unfold Builtin.SmallTypes.nextOf
 refine wpAny_bind (wpAny_callSpecial?_slot (name:=Str.ofString "__next__") hit.typeIs F.slot_tuple_iterator_next
  (wpAny_call_entry F.slot_tuple_iterator_next hit.typeIs F.entry_tuple_iterator_next ?_ (F.args_tuple_iterator_next_1 _)))
 show wpAny _ _ (field (.ref it) 0 >>= _) _ _ s
 refine wpAny_bind (wpAny_field ho hd (x:=.ref t) rfl ?_)
 show wpAny _ _ (if (Value.ref t==Value.none)=true then _ else _) _ _ s
 rw [if_neg (show ¬ ((Value.ref t==Value.none)=true) from Bool.false_ne_true)]
 show wpAny _ _ (field (.ref it) 1 >>= _) _ _ s
 refine wpAny_bind (wpAny_field ho hd (x:=.int i 0) rfl ?_)
 show wpAny _ _ (seqItems? (.ref t) >>= _) _ _ s
 refine wpAny_bind (wpAny_seqItems hol hdl ?_)
 simp only [Int.toNat_natCast,hx]
 refine wpAny_bind (wpAny_setField ho hd (by simp) (wpAny_pure ⟨x,rfl,wpAny_pure (hQ _ ?_ (Heap.SameBut.update ..))⟩))
 exact ⟨_,Heap.get?_update_self _ ho (Obj.isFreed_of_fields (Obj.data_mapFields hd _)),(Obj.cls_mapFields ..).trans hc,by
  rw [Obj.data_mapFields hd];simp [rawInt]⟩
theorem uX_ {it t:Addr} {i:Nat} {items} {Q:Value->Shared->Prop} (hh:A.handled=none)
  (hit:s.heap.IsTupleIter it t i) (ht:s.heap.IsTuple t items) (hx:items[i]? = none)
  (hE:∀ h' e,Heap.ExtBut it s.heap h'->(∃ o,h'.get? e=some o/\o.cls=.type "StopIteration")->E (.ref e) { s with heap:=h' }) :
  wpAny (model prog w) A (Builtin.SmallTypes.nextOf (.ref it)) Q E s:=by
 obtain ⟨o,ho,hc,hd⟩:=id hit
 obtain ⟨ol,hol,_,nl,hdl⟩:=ht
 unfold Builtin.SmallTypes.nextOf
 refine wpAny_bind (wpAny_callSpecial?_slot (name:=Str.ofString "__next__") hit.typeIs F.slot_tuple_iterator_next
  (wpAny_call_entry F.slot_tuple_iterator_next hit.typeIs F.entry_tuple_iterator_next ?_ (F.args_tuple_iterator_next_1 _)))
 show wpAny _ _ (field (.ref it) 0 >>= _) _ _ s
 refine wpAny_bind (wpAny_field ho hd (x:=.ref t) rfl ?_)
 show wpAny _ _ (if (Value.ref t==Value.none)=true then _ else _) _ _ s
 rw [if_neg (show ¬ ((Value.ref t==Value.none)=true) from Bool.false_ne_true)]
 show wpAny _ _ (field (.ref it) 1 >>= _) _ _ s
 refine wpAny_bind (wpAny_field ho hd (x:=.int i 0) rfl ?_)
 show wpAny _ _ (seqItems? (.ref t) >>= _) _ _ s
 refine wpAny_bind (wpAny_seqItems hol hdl ?_)
 simp only [Int.toNat_natCast,hx]
 refine wpAny_bind (wpAny_rule (wpAny_bind (wpAny_setField ho hd (by simp) ?_)))
 first
  | (show wpAny _ _ (newExc (.type "StopIteration") [] >>= _) _ _ _
     refine wpAny_bind ?_
     simp only [newExc,newTuple]
     refine wpAny_bind (wpAny_newObj_type ?_ (by size_fits))
     refine wpAny_bind (m:=firstArgMember _ _) (wpAny_of_eq (a:=Value.none) (by first|rfl|(simp only [firstArgMember];rfl)) ?_)
     refine wpAny_newObj_type ?_ (by size_fits)
     simp only [raiseNew]
     refine wpAny_bind (wpAny_handled ?_)
     first|rw [show A.in1.handled=none from hh]|rw [hh]
     refine wpAny_bind (wpAny_pure (wpAny_throw ?_))
     exact hE _ _ (((Heap.SameBut.update ..).extBut.push _).push _) ⟨_,Heap.get?_push_size _ rfl,rfl⟩)
  | (refine wpAny_bind (wpAny_letGo ?_)
     show wpAny _ _ (newExc (.type "StopIteration") [] >>= _) _ _ _
     refine wpAny_bind ?_
     simp only [newExc,newTuple]
     refine wpAny_bind (wpAny_newObj_type ?_ (by size_fits))
     refine wpAny_bind (m:=firstArgMember _ _) (wpAny_of_eq (a:=Value.none) (by first|rfl|(simp only [firstArgMember];rfl)) ?_)
     refine wpAny_newObj_type ?_ (by size_fits)
     simp only [raiseNew]
     refine wpAny_bind (wpAny_handled ?_)
     first|rw [show A.in1.handled=none from hh]|rw [hh]
     refine wpAny_bind (wpAny_pure (wpAny_throw ?_))
     exact hE _ _ (((Heap.SameBut.update ..).extBut.push _).push _) ⟨_,Heap.get?_push_size _ rfl,rfl⟩)
end
theorem UW_ {prog:Program} {w:World} {A:Around} (hh:A.handled=none) (it l:Addr) (hne:l≠it) (items:Array Value) :
  Draws prog w A it [it,l] items.size (fun i v=>items[i]? = some v) (fun i h=>h.IsTupleIter it l i/\h.IsTuple l items) where
 live:=fun _ _ st=>let ⟨o,ho,_⟩:=st.1;⟨o,ho⟩
 frame:=fun _ _ _ st hk=>⟨st.1.at fun o e=>hk it (by simp) o e,by obtain ⟨o,e,r⟩:=st.2;exact ⟨o,hk l (by simp) o e,r⟩⟩
 item:=fun i s Q E hi st hQ=>by
  refine ZF_ st.1 st.2 (x:=items[i]) (by simp [hi]) fun h' hit' hs'=>?_
  exact hQ _ h' s.toks (by simp [hi]) ⟨hit',st.2.extBut hs'.extBut hne⟩ hs'
 done:=fun s Q E st hE=>uX_ hh st.1 st.2 (by simp) hE
set_option maxHeartbeats 1000000 in
theorem ZG_ (l:Addr) (items:Array Value) (n:Nat) (dct:Option Addr) (sl:Array (Option Value)) :
  Meets (Builtin.«enumerate.__new__» ⟨[.type "enumerate",.ref l],[]⟩) (fun _ R s=>s.heap.get? l=some { cls:=.type "tuple",dict:=dct,data:=.seq items n,slots:=sl } /\
   R (.ok (.ret (.ref (s.heap.push { cls:=.type "tuple_iterator",data:=.fields #[.ref l,.int 0 0] }).objs.size)))
    { s with heap:=(s.heap.push { cls:=.type "tuple_iterator",data:=.fields #[.ref l,.int 0 0] }).push { cls:=.type "enumerate",data:=.fields #[.none,.bool false,.ref s.heap.objs.size,rawInt 0,.none,.none] } }) :=
 .of_wp fun prog w A R s h=>by
  obtain ⟨hp,g,d,tk,os⟩:=s;obtain ⟨hl,h⟩:=h
  have hsub:=sub_enumerate
  have hL:Heap.IsTuple (Shared.heap ⟨hp,g,d,tk,os⟩) l items:=⟨_,hl,rfl,n,rfl⟩
  wp_walk using wpAny_loadPart' hl
  refine wpAny_stack_any fun st=>wpAny_pure ?_
  split
  ·rename_i c _ _ _ _ _
   cases (c==Value.type "enumerate")
   ·wp_walk using wpAny_loadPart' hl,wpAny_pyIter_tuple hL
    exact ⟨_,rfl,h⟩
   ·wp_walk using wpAny_loadPart' hl,wpAny_pyIter_tuple hL
    exact ⟨_,rfl,h⟩
  ·wp_walk using wpAny_loadPart' hl,wpAny_pyIter_tuple hL
   exact ⟨_,rfl,h⟩
section
variable {prog:Program} {w:World} {A:Around} {E:Value->Shared->Prop} {s:Shared}
theorem ZR_ {l:Addr} {items:Array Value} {Q:Value->Shared->Prop} (hL:s.heap.IsTuple l items)
  (h:∀ h',IsEnum h' (s.heap.objs.size+1) s.heap.objs.size 0 .none->h'.IsTupleIter s.heap.objs.size l 0->h'.objs.size=s.heap.objs.size+2 ->
   (∀ b o,s.heap.get? b=some o->h'.get? b=some o)->Q (.ref (s.heap.objs.size+1)) { s with heap:=h' }) :
  wpAny (model prog w) A (call (.type "enumerate") [.ref l]) Q E s:=by
 obtain ⟨⟨c,dct,dt,sl⟩,hl,hc,n,hd⟩:=hL
 replace hc:c=.type "tuple":=hc
 replace hd:dt=.seq items n:=hd
 subst hc hd
 refine callType_new F.called_enumerate (by decide) (F.typeCall_enumerate_1 _) (F.newCall_enumerate_1 _) (fun obj=>F.args_object_init_2 obj _) F.entry_enumerate_new
  (ZG_ l items n dct sl) ⟨hl,?_⟩
 have hz:(s.heap.push { cls:=.type "tuple_iterator",data:=.fields #[.ref l,.int 0 0] }).objs.size=s.heap.objs.size+1:=Heap.size_push ..
 show _/\_
 rw [hz]
 have he:IsEnum ((s.heap.push { cls:=.type "tuple_iterator",data:=.fields #[.ref l,.int 0 0] }).push
   { cls:=.type "enumerate",data:=.fields #[.none,.bool false,.ref s.heap.objs.size,rawInt 0,.none,.none] }) (s.heap.objs.size+1) s.heap.objs.size 0 .none:=by
  have:=Heap.get?_push_size (s.heap.push { cls:=.type "tuple_iterator",data:=.fields #[.ref l,.int 0 0] })
   (o:={ cls:=.type "enumerate",data:=.fields #[.none,.bool false,.ref s.heap.objs.size,rawInt 0,.none,.none] }) rfl
  rw [hz] at this;exact this
 refine ⟨⟨_,he,rfl⟩,h _ he ⟨_,Heap.get?_push_of_some _ (Heap.get?_push_size _ rfl),rfl,rfl⟩ (by rw [Heap.size_push,hz]) fun b o x=>Heap.get?_push_of_some _ (Heap.get?_push_of_some _ x)⟩
end
end PySem
namespace L3
open PySem PySem.Spec PyProof.Rows L2 L4
noncomputable def Ite (K:Fg) (a:Addr):It :=
 ⟨fun i H=>∃ xs x,SqT K H a xs/\xs[i]? = some x,fun i H y H'=>∃ p x,(∀ xs,SqT K H a xs->xs[i]? = some x)/\H p=none/\y=.ref p/\H'=upd H p (.tup [.int i,x]),fun i H=>∃ xs,SqT K H a xs/\xs.length<=i⟩
theorem Qv_ {X:Cx} {pins:List (Addr×Obj)} {σ:L2.St} {H:Hp} {s:Shared} {e it:Addr} {i:Nat} {x:V} {x':Value} {tk:Nat} {h2:Heap} (I:Inv X pins σ H s) (fe:FpOk X pins H e) (ft:FpOk X pins H it) (ru:RelV x x')
  (keep2:∀ b o,b≠e->b≠it->s.heap.get? b=some o->h2.get? b=some o) (tup2:h2.get? s.heap.objs.size=some { cls:=.type "tuple",data:=.seq #[.int i tk,x'] }) :
  Inv X pins σ (upd H s.heap.objs.size (.tup [.int i,x])) { s with heap:=h2,toks:=tk+1 }:=by
 refine zak_ (ch:=[e,it]) I (fun c hc=>?_) (⟨tk,rfl⟩:RelV (.int i) (.int i tk)) ru (fun b o hch q=>keep2 b o (fun z=>hch (by rw [z];exact List.mem_cons_self)) (fun z=>hch (by rw [z];exact List.mem_cons_of_mem _ List.mem_cons_self)) q) tup2
 rcases List.mem_cons.mp hc with rfl|hb
 ·exact fe
 ·rw [List.mem_singleton.mp hb];exact ft
theorem VG_ {P:Program} {w:World} {K:Fg} {elts:List Expr} {x1:Nat} {pos:Pos} (a it e:Addr) (hai:a≠it) (hei:e≠it) (hea:e≠a) :
  Turn P w K (.Tuple elts x1 pos) (Ite K a) [e,it] e (fun i h=>(∃ old,IsEnum h e it i old)/\h.IsTupleIter it a i) where
 mem:=by simp
 obj:=fun i h st b hb=>by
  obtain ⟨⟨old,he⟩,o,e1,c,d⟩:=st
  rcases List.mem_cons.mp hb with rfl|hb
  ·exact ⟨_,he,fun v z=>nomatch z⟩
  ·rw [List.mem_singleton.mp hb]
   exact ⟨o,e1,fun v z=>by rw [d] at z;cases z⟩
 keep:=fun i h h' st k=>by
  obtain ⟨⟨old,he⟩,ht⟩:=st
  exact ⟨⟨old,k e (by simp) _ he⟩,ht.at fun o e=>k it (by simp) o e⟩
 item:=by
  intro X hP hw hK hc i pins s σ H E I hf st hg
  subst hP hw hK
  obtain ⟨xs,x,hq,hx⟩:=hg
  obtain ⟨its,rv,p,hz⟩:=I.tuple hq
  obtain ⟨u,hu,ru⟩:=rv.get hx
  obtain ⟨⟨old,he⟩,ht⟩:=st
  have D:=UW_ (prog:=X.prog) (w:=X.w) (A:=X.A.in1) (I.ok.hd hc) it a hai its.toArray
  have hi:i<its.toArray.size:=by simpa using (List.getElem?_eq_some_iff.mp hu).1
  have fe:=hf e (by simp)
  have ft:=hf it (by simp)
  refine wpAny_pyNext_enum_itemD D he ⟨ht,show s.heap.IsTuple a its.toArray from p⟩ hi hei (by simp [hei,hea]) fun x' h' tk hP ho hs' hT hsz hk=>?_
  have ex:x'=u:=by
   have:its.toArray[i]? = some x':=hP
   rw [List.getElem?_toArray,hu] at this
   exact (Option.some.inj this).symm
  subst ex
  refine ⟨_,rfl,wpAny_letOwnedTupleGo_enum ho fun h2 he2 sb2=>?_⟩
  have hpe:s.heap.objs.size≠e:=Nat.ne_of_gt (Heap.lt_size he)
  have hpi:s.heap.objs.size≠it:=by obtain ⟨o,e1,_⟩:=ht;exact Nat.ne_of_gt (Heap.lt_size e1)
  have keep2:∀ b o,b≠e->b≠it->s.heap.get? b=some o->h2.get? b=some o:=fun b o h1 h2' q=>(sb2.2 b h1).trans (hk b o h1 h2' q)
  have tup2:h2.get? s.heap.objs.size=some { cls:=.type "tuple",data:=.seq #[.int i tk,x'] }:=(sb2.2 _ hpe).trans hT
  have I1:Inv X pins σ (upd H s.heap.objs.size (.tup [.int i,x])) { s with heap:=h2,toks:=tk+1 }:=Qv_ I fe ft ru keep2 tup2
  refine ⟨.ref s.heap.objs.size,_,I1,rfl,⟨_,x,fun ys hy=>by rw [I.tuple_inj hy hq];exact hx,I.fresh,rfl,rfl⟩,⟨⟨_,by simpa using he2⟩,?_⟩,fun b hb=>?_⟩
  ·obtain ⟨o,e1,r⟩:=hs'.1
   exact ⟨o,(sb2.2 it (Ne.symm hei)).trans e1,r⟩
  ·rcases List.mem_cons.mp hb with rfl|hb
   ·rw [zf_ (Ne.symm hpe)];exact fe.1
   ·rw [List.mem_singleton.mp hb,zf_ (Ne.symm hpi)];exact ft.1
 done:=by
  intro X hP hw hK hc i pins s σ H E I hf st hg
  subst hP hw hK
  obtain ⟨xs,hq,hx⟩:=hg
  obtain ⟨its,rv,p,hz⟩:=I.tuple hq
  obtain ⟨⟨old,he⟩,ht⟩:=st
  obtain ⟨g0,g1,g2,g3,g4,g5⟩:=hf it (by simp)
  have hl:=rv.length
  have D:=UW_ (prog:=X.prog) (w:=X.w) (A:=X.A.in1) (I.ok.hd hc) it a hai its.toArray
  have hT:s.TypeIs (.ref e) "enumerate":=⟨_,he,rfl⟩
  unfold pyNext
  refine wpAny_bind (wpAny_attempt (wpAny_callSpecial?_slot (name:=Str.ofString "__next__") hT F.slot_enumerate_next
   (wpAny_call_entry F.slot_enumerate_next hT F.entry_enumerate_next ?_ (F.args_enumerate_next_1 _))))
  show wpAny _ _ (field (.ref e) 2 >>= _) _ _ _
  refine wpAny_bind (wpAny_field he rfl (x:=.ref it) rfl ?_)
  refine wpAny_bind (uX_ (I.ok.hd hc) ht (show s.heap.IsTuple a its.toArray from p) (by simp;lia) fun h' x he' hx'=>?_)
  obtain ⟨o,ho,hcl⟩:=hx'
  refine wpAny_bind (wpAny_isInstance (T := "StopIteration") (b:=true) ⟨o,ho,hcl⟩ isSubtype_stop ?_)
  exact wpAny_pure ⟨rfl,I.turned (t':=s.toks) (fun b o hb e=>he' b o hb e) g0 g1 g3 g4 g5⟩
 self:=fun _ _ _ _ _ st h=>by
  obtain ⟨⟨old,he⟩,ht⟩:=st
  exact wpAny_pyIter_enum he h
noncomputable def yd_ (ds:List D):List D:=ds.zipIdx.map fun p=>PyData.tuple [.int (p.2:Int),p.1]
theorem jP_ (ds:List D):(yd_ ds).length=ds.length:=by simp [yd_]
theorem VE_ {K:Fg} {F:Hp} {a:Addr} {vs:List V} {ds:List D} (h:SqT K F a vs) (r:RepL K F vs ds):Walk K (Ite K a) (yd_ ds) F where
 go:=fun i G F2 σ H2 ρ s S hi=>by
  have hi':i<vs.length:=by rw [r.length];rw [jP_] at hi;exact hi
  exact ⟨vs,vs[i],zV_ S.fh (zV_ s h),by simp [hi']⟩
 yld:=fun i G F2 σ H2 ρ x H3 d s S hd ⟨p,y,hy,hp,hx,hH⟩=>by
  subst hx hH
  unfold yd_ at hd
  rw [List.getElem?_map,List.getElem?_zipIdx] at hd
  cases q:ds[i]? with
  | none=>rw [q] at hd;cases hd
  | some d' =>
   rw [q] at hd
   simp at hd
   subst hd
   obtain ⟨v,e1,e2⟩:=r.get q
   have:=hy vs (zV_ S.fh (zV_ s h))
   rw [e1] at this
   cases this
   obtain ⟨s2,S2,r2⟩:=S.newTup hp (RepL.cons (Rep.int (i:Int)) (RepL.cons (e2.mono s) RepL.nil))
   exact ⟨_,s2,S2,r2⟩
 stop:=fun G F2 σ H2 ρ s S=>⟨vs,zV_ S.fh (zV_ s h),by rw [r.length,jP_];exact Nat.le_refl _⟩
noncomputable def zhu_ (K:Fg) (tl:TA):TI:=fun σ H R=>tl σ H fun xs H1=>∃ a,xs=[.ref a]/\(∃ ys,SqT K H1 a ys)/\R (Ite K a) H1
theorem zcP_ {X:Cx} {e:Expr} {tl:TA} {elts:List Expr} {x1:Nat} {tp p pos:Pos} (hg:Gl X "enumerate") (hm:X.mg "enumerate" = none) (ha:PA X [e] tl) (hs:starEach [e] X.env=[(false,eval e X.env)]) :
  PI X (.Tuple elts x1 tp) (.Call (.Name "enumerate" p) [e] [] pos) (zhu_ X.K tl):=by
 intro pins s σ H R I h
 refine wpAny_Call_Name_kw (ZI_ I hg hm (show bootBuiltins "enumerate" = some (.type "enumerate") by decide +kernel) ?_ (by decide) (by decide))
 refine PyProof.Rows.callWith_type1 (thn (ha pos pins s σ H _ I h) fun us s1 ⟨vs,H1,I1,r1,q1⟩=>?_) hs rfl
 obtain ⟨a,rfl,⟨ys,hq⟩,q⟩:=q1
 obtain ⟨u,rfl,ru⟩:=L2.Vals.one r1
 cases ru
 obtain ⟨its,rv,pt,hz⟩:=I1.tuple hq
 have alt:a<s1.heap.objs.size:=by obtain ⟨o,e1,_⟩:=pt;exact Heap.lt_size e1
 refine ZR_ (show s1.heap.IsTuple a its.toArray from pt) fun h' he ht hsz hk=>?_
 refine wpAny_pyIter_enum (s:={ s1 with heap:=h' }) he ?_
 refine ⟨s1.heap.objs.size+1,[s1.heap.objs.size+1,s1.heap.objs.size],_,_,H1,rfl,I1.kept (t':=s1.toks) hk,VG_ a s1.heap.objs.size (s1.heap.objs.size+1) (Nat.ne_of_lt alt) (Nat.succ_ne_self _) (Nat.ne_of_gt (Nat.lt_succ_of_lt alt)),⟨⟨_,he⟩,ht⟩,fun b hb=>?_,q⟩
 rcases List.mem_cons.mp hb with rfl|hb
 ·exact I1.fpOk (Nat.le_succ _) (I1.hok.fresh (Nat.le_succ _))
 ·rw [List.mem_singleton.mp hb]
  exact I1.fpOk (Nat.le_refl _) (I1.hok.fresh (Nat.le_refl _))
end L3
namespace L4
open PySem PySem.Spec PyProof.Rows L2 L3
noncomputable def Z2_:List D->Option (List D)
 | [.tuple ds]=>some (yd_ ds)
 | _=>none
section
variable {X:Cx} {tg e:Expr} {p pos tp:Pos} {elts:List Expr} {x1:Nat}
theorem zdE_ {F H:Hp} {vs:List V} {ds out:List D} {R:It->Hp->Prop} (s:Same F H) (r:RepL X.K F vs ds) (h:Z2_ ds=some out) (k:∀ J,Walk X.K J out F->R J H) :
  ∃ a,vs=[.ref a]/\(∃ ys,SqT X.K H a ys)/\R (Ite X.K a) H:=by
 unfold Z2_ at h
 split at h
 ·cases h
  obtain ⟨v,rfl,r1⟩:=r.one_inv
  obtain ⟨a,vs,rfl,a1,a2⟩:=r1.tup_inv
  exact ⟨_,rfl,⟨_,SqT.of (s _ _ a1)⟩,k _ (VE_ (SqT.of a1) a2)⟩
 ·cases h
theorem Y1_ {ps:Pa (List D)} (hg:Gl X "enumerate") (hm:X.mg "enumerate" = none) (ha:AA X [e] ps) (hs:starEach [e] X.env=[(false,eval e X.env)]):AI X (.Tuple elts x1 tp) (.Call (.Name "enumerate" p) [e] [] pos) (Jg_ Z2_ ps) :=
 fun G F σ H ρ R S w=>semI (zcP_ hg hm jk_ hs) (ha G F σ H ρ _ _ _ S w fun ds vs F1 H1 s1 S1 _ r1 w1=>by
  obtain ⟨out,hd,k⟩:=w1.opt
  exact zdE_ S1.fh r1 hd (k F1 H1 (Same.refl _) S1))
end
noncomputable def Gh.add (G:Gh) (p:Addr) (o:HO):Gh:={ G with O:=upd G.O p o }
theorem _root_.L3.StOk.hold {K:Fg} {G:Gh} {F H:Hp} {σ:L2.St} {ρ:En} (S:StOk K G F σ H ρ) {p:Addr} {o:HO} (hp:H p=some o) (fp:F p=none) (ne:∀ (i:Nat) (e:OC),own ρ i e->σ[i]? ≠ some (some (V.ref p))) (nt:NoTE o:=by exact True.intro):StOk K (Gh.add G p o) F σ H ρ:=by
 refine ⟨S.fh,fun b u e=>?_,fun b u e=>?_,S.ln,S.fz,fun i c h=>?_,S.dj,S.pp,S.pq,S.fb⟩
 ·by_cases hb:b=p
  ·subst hb
   rw [show (Gh.add G b o).O b=some o from zi_] at e
   cases e;exact hp
  ·rw [show (Gh.add G p o).O b=G.O b from zf_ hb] at e
   exact S.oh b u e
 ·by_cases hb:b=p
  ·subst hb
   rw [show (Gh.add G b o).O b=some o from zi_] at e
   cases e
   exact ⟨fp,nt⟩
  ·rw [show (Gh.add G p o).O b=G.O b from zf_ hb] at e
   exact S.fo b u e
 ·obtain ⟨a,e,oa⟩:=S.ow i c h
  refine ⟨a,e,oa.nf,?_,oa.he⟩
  have:a≠p:=fun z=>ne i c h (by rw [e,z])
  exact (show (Gh.add G p o).O a=G.O a from zf_ this).trans oa.no
theorem _root_.L3.StOk.unhold {K:Fg} {G:Gh} {F H:Hp} {σ:L2.St} {ρ:En} {p:Addr} {o:HO} (hn:G.O p=none) (S:StOk K (Gh.add G p o) F σ H ρ) :
  StOk K G F σ H ρ/\H p=some o/\F p=none/\∀ (i:Nat) (e:OC),own ρ i e->σ[i]? ≠ some (some (V.ref p)):=by
 have at_p:(Gh.add G p o).O p=some o:=zi_
 have at_b:∀ b,b≠p->(Gh.add G p o).O b=G.O b:=fun b hb=>zf_ hb
 have nb:∀ b u,G.O b=some u->b≠p:=fun b u e z=>by rw [z,hn] at e;cases e
 refine ⟨⟨S.fh,fun b u e=>S.oh b u ((at_b b (nb b u e)).trans e),fun b u e=>S.fo b u ((at_b b (nb b u e)).trans e),S.ln,S.fz,fun i c h=>?_,S.dj,S.pp,S.pq,S.fb⟩,S.oh p o at_p,(S.fo p o at_p).1,fun i c h e=>?_⟩
 ·obtain ⟨a,e,oa⟩:=S.ow i c h
  have:a≠p:=fun z=>by have:=oa.no;rw [z,at_p] at this;cases this
  exact ⟨a,e,oa.nf,(at_b a this).symm.trans oa.no,oa.he⟩
 ·obtain ⟨a,e',oa⟩:=S.ow i c h
  rw [e] at e'
  injection e' with e';injection e' with e';injection e' with e'
  have:=oa.no
  rw [<-e',at_p] at this
  cases this
theorem zaN_ {X:Cx}:PGet X gIxL:=by
 intro pins s σ H x y v u Q I rx ry h
 obtain ⟨p,xs,i,z,rfl,rfl,hq,he,q⟩:=h
 cases rx
 obtain ⟨t,rfl⟩:=ry
 obtain ⟨its,r,pl,hz⟩:=I.list (SqL.of hq)
 obtain ⟨j,h1,h2,h3,h4,h5⟩:=Uf_ he
 obtain ⟨w,ew,rw'⟩:=r.get h2
 have hl:=r.length
 have hn:=y0_
 have fin:EP X pins σ Q w s:=⟨z,H,I,rw',q⟩
 by_cases h0:0<=i
 ·have hj:i.toNat=j:=by
   rw [seqIndex_of h0 h5] at h1
   exact Option.some.inj h1
  exact wpAny_getItem_list pl.isList h0 (by lia) (by rw [hj];simpa using ew) fin
 ·have hj:(i+(its.toArray.size:Int)).toNat=j:=by
   rw [seqIndex_neg (by lia) h4] at h1
   rw [List.size_toArray,<-hl]
   exact Option.some.inj h1
  exact wpAny_getItem_list_neg pl.isList (by lia) (by rw [List.size_toArray]<;>lia) (by lia) (by rw [hj];simpa using ew) fin
section
variable {S:Type} {X:Cx} {b e:Expr} {mj me:Ev S D} {pos pos' tpos:Pos}
theorem XI_ {i:Nat} {x:Str} {op:Operator} {t:TIp} {f:D->D->Option D} (hN:X.N[i]? = some x) (hv:Vis X.env.scope x) (ho:PIp X op t) (hf:ipD f X.K t) (hj:AE X b mj) (he:AE X e me)
  (ha:∀ ov iv new,augStore b ov iv new=(do holding [new,ov,iv] (setItem ov iv new);release [new,ov,iv] [];pure .next))
  (hd:(x==("__debug__" : Str))=false:=by decide) (hcd:(x==("__classdict__" : Str))=false:=by decide):AS X (.AugAssign (.Subscript (.Name x pos') b tpos) op e pos) (zeA_ i f mj me):=fun OK K G F σ H ρ E hO hX St ok eo =>
 semS (zcL_ (uu_ hN hv hd hcd) zn_ zaN_ zn_ ho set_list ha) (by
  unfold zeA_ at ok
  split at ok
  case h_2=>exact (hO ok).elim
  rename_i ds0 hd0
  obtain ⟨a,vs0,ea,_,_⟩:=jo_ St hd0
  refine ⟨_,ea,hj OK K.x _ G F σ H ρ _ hO hX St ok fun j u F1 H1 ρ1 s1 S1 r1 o1=>?_⟩
  split at o1
  case h_2=>exact (hO o1).elim
  rename_i ds hds
  obtain ⟨a',vs,ea',hh,rv⟩:=jo_ S1 hds
  rw [ea] at ea'
  injection ea' with ea';injection ea' with ea';injection ea' with ea'
  subst ea'
  obtain ⟨dx,hx,o2⟩:=jK_ hO o1
  have hint:∃ k,j=.int k:=by
   cases j<;>first|exact ⟨_,rfl⟩|cases hx
  obtain ⟨k,rfl⟩:=hint
  cases r1
  obtain ⟨v,ev,rvv⟩:=YY_ rv (show atI ds k=some dx from hx)
  refine ⟨a,vs,k,v,rfl,rfl,hh,ev,?_⟩
  refine he OK K.x _ G F1 σ H1 ρ1 _ hO hX S1 o2 fun d w F2 H2 ρ2 s2 S2 r2 o3=>?_
  obtain ⟨r,er,o4⟩:=jK_ hO o3
  refine hf v w dx d r F2 H2 _ (rvv.mono s2) r2 er fun z rz=>?_
  split at o4
  case h_2=>exact (hO o4).elim
  rename_i ds2 hds2
  obtain ⟨a2,vs2,ea2,hh2,rv2⟩:=jo_ S2 hds2
  rw [ea] at ea2
  injection ea2 with ea2;injection ea2 with ea2;injection ea2 with ea2
  subst ea2
  obtain ⟨ds',hp,o5⟩:=jK_ hO o4
  unfold putD at hp
  obtain ⟨q,hq,rfl⟩:=Option.map_eq_some_iff.mp hp
  refine ⟨a,vs2,k,q,rfl,rfl,hh2,by rw [rv2.length];exact hq,?_⟩
  exact eo.nx F2 σ _ _ (s1.trans s2) (yI_ S2 hds2 ea (RepL.set rz q rv2)) o5)
end
end L4
namespace HT
open PySem PySem.Spec PyProof.Rows
end HT
namespace L4
open PySem PySem.Spec PyProof.Rows L2 L3
noncomputable def zaR_:List D->Option D
 | [.tuple ds]=>zdC_ [.tuple ds]
 | l=>fMax l
def zeK_ (K:Fg):List V->Hp->VK->Prop:=fun xs H Q=>VX_ K gMax xs H Q\/(VY_ K gMax xs H Q\/∃ i j,xs=[.int i,.int j]/\Q (.int (if j>i then j else i)) H)
theorem Xv_ {X:Cx} (hc:X.calm=true):CallR X (.builtin "max") (zeK_ X.K):=CallR.or (Xt_ hc) ((Xu_ hc).or (Xw_ hc))
theorem zdd_ {K:Fg}:yU_ K (zeK_ K) zaR_:=by
 intro G F σ H ρ xs ds res Q S o e k
 unfold zaR_ at e
 split at e
 ·exact .inl (zdc_ G F σ H ρ xs _ res Q S o e k)
 ·exact .inr (zfs_ G F σ H ρ xs ds res Q S o e k)
end L4
namespace L4
open PySem PySem.Spec PyProof.Rows L2 L3 PySem.W
section
variable {prog:Program} {w:World} {A:Around} {E:Value->Shared->Prop} {K:Frag} {C D fI:Addr} {h:Heap} {g:Array GenState} {d:Drawn} {t:Nat} {os:OsState} {rest:List Value}
noncomputable abbrev newX (h:Heap) (C:Addr) (rest:List Value):Heap:=(h.push { cls:=.type "tuple",data:=.seq rest.toArray }).push { cls:=.ref C,data:=.fields #[.ref h.objs.size,.none,.none,.none,.bool false,.none] }
theorem UH_ {b:Addr} {o:Obj} (q:h.get? b=some o):(newX h C rest).get? b=some o:=Heap.get?_push_of_some _ (Heap.get?_push_of_some _ q)
theorem Wq_:(newX h C rest).get? (h.objs.size+1)=some { cls:=.ref C,data:=.fields #[.ref h.objs.size,.none,.none,.none,.bool false,.none] }:=by
 have z:=Heap.get?_push_size (h.push { cls:=.type "tuple",data:=.seq rest.toArray }) (o:={ cls:=.ref C,data:=.fields #[.ref h.objs.size,.none,.none,.none,.bool false,.none] }) rfl
 rwa [Heap.size_push] at z
theorem UM_ (X:K.In h) (c:XC K C D fI) {Q:Fin->Shared->Prop} (hz:rest.length<=sizeLine)
  (hq:wpAny (model prog w) A (call (.ref fI) (.ref (h.objs.size+1)::rest)) (fun r s'=>r=.none/\Q (.done (.ret (.ref (h.objs.size+1)))) s') E ⟨newX h C rest,g,d,t,os⟩) :
  wpAny (model prog w) A (Builtin.«type.__call__» ⟨.ref C::rest,[]⟩) Q E ⟨h,g,d,t,os⟩:=by
 obtain ⟨nm,q,N,bs,sn,sub,ab,col,dd,k0,k1,k2,k3,k5,lk⟩:=c.obj
 have hC:=X _ _ lk
 have T:OwnTail h bmV (.ref D::bmV):=tail_of_in X c.tl
 have B:=F.excBase_ValueError
 repeat (first|with_reducible refine wpAny_loadPart_at hC ?_|with_reducible refine wpAny_madeBy_exc hC ?_|wp_step)
 refine codeAny_call_builtin_code (Code.quiet_builtin _ B.quiet) (wpAny_check_new_subT B T hC (codeAny_exc_new_subT B T hC ?_ hz))
 show wpAny _ _ _ _ _ _
 have X1:K.In (newX h C rest):=X.keeps fun b o z=>UH_ z
 have LI:=looks_findIn (M:=model prog w) X1 c.ini
 have LB:=bind_fn (M:=model prog w) X1 (.ref (h.objs.size+1)) c.fn
 have hC1:=UH_ (rest:=rest) (C:=C) hC
 have yes:(Value.ref C::.ref D::bmV).contains (.ref C)=true:=by simp
 unfold isInstance
 repeat (first|with_reducible refine wpAny_loadPart_at Wq_ ?_|(with_reducible refine wpAny_isSubtype_exc hC1 ?_;rw [yes])|wp_step)
 show wpAny _ _ (typeLookup (.ref C) _) _ _ _
 refine LI.at ?_
 refine wpAny_holding (wpAny_bind (LB.at ?_))
 refine wpAny_bind (wpAny_mono hq (fun r s' z=>?_) fun _ _ z=>z)
 obtain ⟨rfl,z⟩:=z
 wp_walk
 exact z
theorem call_exc (X:K.In h) (c:XC K C D fI) {Q:Value->Shared->Prop} (hz:rest.length<=sizeLine)
  (hq:wpAny (model prog w) (A.under (.builtin "type.__call__" ⟨.ref C::rest,[]⟩)) (call (.ref fI) (.ref (h.objs.size+1)::rest)) (fun r s'=>r=.none/\Q (.ref (h.objs.size+1)) s') E ⟨newX h C rest,g,d,t,os⟩) :
  wpAny (model prog w) A (call (.ref C) rest) Q E ⟨h,g,d,t,os⟩:=by
 obtain ⟨nm,q,N,bs,sn,sub,ab,col,dd,k0,k1,k2,k3,k5,lk⟩:=c.obj
 have hC:=X _ _ lk
 have f1:=tc_lookup
 have f2:=tc_bind (.ref C)
 have ty:(⟨h,g,d,t,os⟩:Shared).TypeIs (.ref C) "type":=⟨_,hC,rfl⟩
 refine wpAny_call (codeAny_of_tree ?_)
 show wpAny _ _ (callAny (.ref C) _) _ _ _
 repeat (any_goals (first|assumption|with_reducible refine wpAny_loadPart_at hC ?_|wp_step))
 refine ⟨rfl,codeAny_call_builtin_at (Code.quiet_builtin _ (by decide +kernel)) entry_typeCall (wpAny_check_type_call_sub hC (UM_ X c hz ?_))⟩
 exact hq
end
end L4
namespace L4
open PySem PySem.Spec PyProof.Rows L2 L3
def XN (e C:Addr) (dd:Option Addr):Heap->Prop:=fun h=>∃ oe vs,h.get? e=some oe/\oe.cls=.ref C/\oe.dict=dd/\oe.data=.fields vs/\1<vs.size/\vs[1]? = some .none
section
variable {P:Program} {w:World} {h h':Heap} {e C dx:Addr} {dd:Option Addr} {H:Hp} {fs:List (Str×V)}
theorem XN.ok {H':Hp} (x:XN e C dd h):ObjOk P w H' h e (.ext (XN e C dd)):=by
 obtain ⟨oe,vs,q,r⟩:=x
 exact ⟨⟨oe,vs,q,r⟩,⟨oe,q⟩,fun h1 h2 ⟨o,vs,z,r⟩ k=>⟨o,vs,k o z,r⟩⟩
end
noncomputable def spI (C:Addr) (fl:List Str):Sp:=fun vs H Q _=>∃ e args,vs=.ref e::args/\args.length=fl.length/\H e=some (.ext (XN e C none)) /\
 ((fl=[]/\Q .non H)\/(fl≠[]/\∀ dx,H dx=none->dx≠e->Q .non (upd (upd H dx (.ext (XD dx (fl.zip args)))) e (.ext (XN e C (some dx))))))
section
variable {P:Program} {w:World} {K:Fg} {mg:Str->Option Value} {base:Heap} {qual:Str} {st:Stmt} {f:Addr} {fd:FuncData} {k:Nat} {C D:Addr} {f1 f2 q1 q2 self:Str} {a1 a2 a3 a4 b1 b2 b3 b4:Pos}
theorem zhq_ (Fn:Fun K "__init__" qual st f fd) (Sc:FnScope [self] [self] (zb_ st)) (hb:zo_ st=[.Pass a1]):FnOk P w K mg base (CX1 P w) (k+1) f fd [self] (spI C []):=by
 refine fn_x Fn Sc (fun vs H Q E h=>?_) (fun cdv A outer s H vs Q E hr h=>?_)
 ·obtain ⟨e,args,rfl,hl,_⟩:=h;simp at hl ⊢;exact hl
 ·obtain ⟨e,args,rfl,hl,he,h⟩:=h
  rcases h with ⟨_,h⟩|⟨h,_⟩
  ·rw [hb]
   exact ⟨_,Qh_ zcJ_ V4_,h⟩
  ·exact absurd rfl h
end
section
variable {M:Model} {A:Around} {E:Value->Shared->Prop} {s:Shared} {env:Env} {K:Fg} {C D fI:Addr}
theorem Yr_ {x:Sem Value} {Q:Flow->Shared->Prop} (c:XC K C D fI) (hh:A.handled=none)
  (h:wpAny M A x (fun v s1=>∃ e oe vs,v=.ref e/\K.In s1.heap/\s1.heap.get? e=some oe/\oe.cls=.ref C/\oe.data=.fields vs/\vs[1]? = some .none/\E (.ref e) s1) E s) :
  wpAny M A (raiseStmt env (some x) none) Q E s:=by
 obtain ⟨nm,q,N,bs,sn,sub,ab,col,dd,k0,k1,k2,k3,k5,lk⟩:=c.obj
 have isB:(Value.ref C::.ref D::bmV).contains (.type "BaseException")=true:=by rfl
 unfold raiseStmt
 refine wpAny_bind (wpAny_mono h (fun v s1 z=>?_) fun _ _ z=>z)
 obtain ⟨e,oe,vs,rfl,X,he,hc,hd,h1,hE⟩:=z
 obtain ⟨hp,g,d,t,os⟩:=s1
 have hC:=X _ _ lk
 repeat (first|(with_reducible refine wpAny_loadPart_at he ?_;rw [hc])|with_reducible refine wpAny_loadPart_at hC ?_|(with_reducible refine wpAny_isSubtype_exc hC ?_;rw [isB])|with_reducible refine wpAny_field he hd h1 ?_|wp_step)
 exact wpAny_raiseNew_none hh hE
end
def MadeX (H H':Hp) (e C:Addr) (fl:List Str) (vs:List V) (dd:Option Addr):Prop :=
 (fl=[]/\dd=none/\H'=upd H e (.ext (XN e C none)))\/(fl≠[]/\∃ dx,dd=some dx/\H dx=none/\dx≠e/\H'=upd (upd (upd H e (.ext (XN e C none))) dx (.ext (XD dx (fl.zip vs)))) e (.ext (XN e C (some dx))))
section
variable {X:Cx} {pins:List (Addr×Obj)} {σ:L2.St} {H:Hp} {s:Shared} {C D fI:Addr} {fd:FuncData} {ps fl:List Str} {k:Nat} {us:List Value} {vs:List V} {Q:Value->Shared->Prop} {E:Value->Shared->Prop}
theorem zaK_ (I:Inv X pins σ H s):Inv X pins σ (upd H (s.heap.objs.size+1) (.ext (XN (s.heap.objs.size+1) C none))) { s with heap:=newX s.heap C us }:=by
 have I1:=I.kept (h':=s.heap.push { cls:=.type "tuple",data:=.seq us.toArray }) (t':=s.toks) fun b u q=>Heap.get?_push_of_some _ q
 refine I1.laid (a:=s.heap.objs.size+1) (t':=s.toks) (h':=newX s.heap C us) (fun b u q=>Heap.get?_push_of_some _ q) (Nat.le_of_eq (Heap.size_push _ _)) ?_
 exact XN.ok ⟨_,_,Wq_,rfl,rfl,rfl,(show 1<6 from by decide),rfl⟩
theorem VQ_ (c:XC X.K C D fI) (Fn:FnOk X.prog X.w X.K X.mg X.base (CX1 X.prog X.w) k fI fd ps (spI C fl)) (hr:Room (k+1) X.A) (hb:L2.Binds X.K fd ps []) (I:Inv X pins σ H s) (r:Vals vs us) (hl:vs.length=fl.length) (hz:us.length<=sizeLine)
  (h:∀ e dd H' s',s.heap.objs.size<=e->Inv X pins σ H' s'->MadeX H H' e C fl vs dd->H' e=some (.ext (XN e C dd))->Q (.ref e) s'):wpAny (model X.prog X.w) X.A (call (.ref C) us) Q E s:=by
 have I2:=zaK_ (C:=C) (us:=us) I
 have hn:H (s.heap.objs.size+1)=none:=I.hok.fresh (Nat.le_succ _)
 obtain ⟨hp,g,d,t,os⟩:=s
 have sp:∀ E',spI C fl (V.ref (hp.objs.size+1)::vs) (upd H (hp.objs.size+1) (.ext (XN (hp.objs.size+1) C none))) (fun v H'=>v=.non/\∃ dd,MadeX H H' (hp.objs.size+1) C fl vs dd/\H' (hp.objs.size+1)=some (.ext (XN (hp.objs.size+1) C dd))) E':=by
  intro E'
  refine ⟨_,vs,rfl,hl,zi_,?_⟩
  by_cases z:fl=[]
  ·exact .inl ⟨z,rfl,none,.inl ⟨z,rfl,rfl⟩,zi_⟩
  ·exact .inr ⟨z,fun dx q ne=>⟨rfl,some dx,.inr ⟨z,dx,rfl,by rw [zf_ ne] at q;exact q,ne,rfl⟩,zi_⟩⟩
 have r2:Vals (V.ref (hp.objs.size+1)::vs) (Value.ref (hp.objs.size+1)::us):=.cons rfl r
 have hl2:((Value.ref (hp.objs.size+1)::us)++[]).length=ps.length:=by
  have e:=r2.length
  rw [Fn.len _ _ _ _ (sp fun _ _ _=>False)] at e
  rw [List.append_nil]
  exact e.symm
 refine call_exc I.kIn c hz (wpAny_call (codeAny_mono (Fn.run _ X.stack _ _ ⟨Value.ref (hp.objs.size+1)::us,[]⟩ (Value.ref (hp.objs.size+1)::us) _ _ (fun _ _ _=>False) (hr.make C us []) (I2.env0.make C us []) (by
  have:=hb _ (Value.ref (hp.objs.size+1)::us) I2.kIn hl2
  rw [List.append_nil] at this
  exact this) r2 (sp _)) fun r s' q=>?_))
 cases r with
 | error e=>obtain ⟨_,_,_,_,_,_,_,_,_,_,z⟩:=q;exact z.elim
 | ok fl' =>
  cases fl' with
  | ret u =>
   obtain ⟨v,H',I3,rv,ev,dd,mk,he⟩:=I2.after q
   subst ev
   exact ⟨rv,h _ dd H' s' (Nat.le_succ _) I3 mk he⟩
  | next=>exact False.elim q
  | brk=>exact False.elim q
  | cont=>exact False.elim q
end
structure CCl (P:Program) (w:World) (K:Fg) (mg:Str->Option Value) (base:Heap) (x:Str) (k:Nat) (fl:List Str):Prop where
 ex:∃ C D fI fd ps,XC K C D fI/\FnOk P w K mg base (CX1 P w) k fI fd ps (spI C fl)/\L2.Binds K fd ps []/\mg x=some (.ref C)/\XQ K C x/\PySem.W.keepIn K (.ref C)=true/\(∀ f∈fl,zch_ K C f)/\PySem.W.exmOne K (.ref C) (.ref C)=some true
noncomputable def zcw_ {S:Type} (x:Str):SM S:=fun K ρ=>K.x ⟨x,[]⟩ ρ
theorem zci_ {K:Fg} {F:Hp}:∀ {fl:List Str} {vs:List V} {ds:List D},RepL K F vs ds->fl.length=vs.length->Paired (fun (p:Str×V) (q:Str×D)=>p.1=q.1/\Rep K F p.2 q.2) (fl.zip vs) (fl.zip ds)
:=by
 intro fl vs ds r h
 induction vs generalizing fl ds with
 | nil=>cases r;rw [List.zip_nil_right,List.zip_nil_right];exact .nil
 | cons v vs ih=>cases r with
  | cons a b=>cases fl with
   | nil=>cases h
   | cons f fl=>exact .cons ⟨rfl,a⟩ (ih b (Nat.succ.inj h))
section
variable {X:Cx} {pins:List (Addr×Obj)} {σ:L2.St} {H H':Hp} {s:Shared} {e C:Addr} {dd:Option Addr} {fl:List Str} {vs:List V} {ds:List D} {G:Gh} {F:Hp} {ρ:En} {x:Str}
theorem X5_ (I:Inv X pins σ H' s) (hs:X.s₀.heap.objs.size<=e) (hn:H e=none) (mk:MadeX H H' e C fl vs dd) (he:H' e=some (.ext (XN e C dd))) (St:StOk X.K G F σ H ρ) (r:RepL X.K F vs ds) (hl:fl.length=vs.length)
  (hc:XQ X.K C x) (xw:XW X G F ρ ⟨x,fl.zip ds⟩):X.xe (.ref e) s:=by
 obtain ⟨⟨oe,ws,q1,q2,q3,q4,q5,q6⟩,_⟩:=I.hok e _ he
 have I2:Inv X pins σ (upd H' e (.ext (XO e C dd))) s:=by
  have:=I.write (x:=e) (e:=e) (o:=.ext (XO e C dd)) (h':=s.heap) (t':=s.toks) (by rw [he];exact True.intro) (.inl rfl) (fun b u _ z=>z) ⟨_,q1⟩ (XO.ok ⟨oe,q1,q2,q3,by unfold PySem.W.notCls;rw [q4]⟩)
  exact this
 have low:∀ b u,b≠e->H b=some u->upd H' e (.ext (XO e C dd)) b=some u:=fun b u ne z=>by
  rw [zf_ ne]
  rcases mk with ⟨_,_,rfl⟩|⟨_,dx,_,hd,_,rfl⟩
  ·rw [zf_ ne];exact z
  ·rw [zf_ ne,zf_ (fun y=>by subst y;rw [hd] at z;cases z),zf_ ne];exact z
 have ne:∀ b u,H b=some u->b≠e:=fun b u z y=>by subst y;rw [hn] at z;cases z
 have xs:XS (upd H' e (.ext (XO e C dd))) s.heap X.s₀.heap.objs.size e C dd:=⟨hs,zi_,oe,ws,q1,q2,q3,q4,q5,.inl q6⟩
 have nt:∀ b,¬ TbOf s.heap e b:=fun b ⟨oe',vs',z1,z2,z3⟩=>by
  rw [q1] at z1;cases z1
  rw [q4] at z2;cases z2
  rw [q6] at z3;cases z3
 have fh0:Same F (upd H' e (.ext (XO e C dd))):=fun b u z=>low b u (ne b u (St.fh b u z)) (St.fh b u z)
 have oh0:Same G.O (upd H' e (.ext (XO e C dd))):=fun b u z=>low b u (ne b u (St.oh b u z)) (St.oh b u z)
 rcases mk with ⟨z,rfl,_⟩|⟨z,dx,rfl,hd,nx,rfl⟩
 ·subst z
  refine xw F _ s e C none pins σ ⟨fh0,oh0,St.fo,St.fb⟩ (St.fzok (Same.refl _)) I2 xs (fun p _=>nt p.1) ⟨hc,[],.inl ⟨rfl,rfl⟩,.nil⟩
 ·have fd:F dx=none:=St.fh.free hd
  have od:G.O dx=none:=St.oh.free hd
  have sm:Same F (upd F dx (.ext (XD dx (fl.zip vs)))):=ji_ fd
  refine xw (upd F dx (.ext (XD dx (fl.zip vs)))) _ s e C (some dx) pins σ ⟨fun b u z=>?_,oh0,fun b u z=>?_,St.fb.trans sm⟩ (St.fzok sm) I2 xs (fun p _=>nt p.1) ⟨hc,_,.inr ⟨dx,rfl,zi_⟩,zci_ (r.mono sm) hl⟩
  ·by_cases y:b=dx
   ·subst y
    rw [zi_] at z
    cases z
    rw [zf_ nx,zf_ nx,zi_]
   ·rw [zf_ y] at z
    exact fh0 b u z
  ·rw [zf_ (zl_ z od)]
   exact St.fo b u z
end
section
variable {S:Type} {X:Cx} {k:Nat} {x:Str} {fl:List Str} {p cpos pos:Pos} {e:Expr} {es:List Expr} {ms:Ev S (List D)}
theorem XH_ (C:CCl X.prog X.w X.K X.mg X.base x k []) (hr:Room (k+1) X.A) (hg:Gl X x) (hdb:(x==("__debug__" : Str))=false) :
  AS (S:=S) X (.Raise (some (.Call (.Name x p) [] [] cpos)) none pos) (zcw_ x):=by
 obtain ⟨Cl,D,fI,fd,ps,c,Fn,hb,hm,hc,kp,_⟩:=C.ex
 intro OK K G F σ H ρ E hO hX St ok eo
 unfold JB_
 intro pins s I
 rw [arm_exec_Raise]
 refine wpAny_bind (wpAny_standAt (Yr_ c hr.hd ?_))
 refine wpAny_bind (wpAny_mono (wpAny_Call_Name_kw (ZH_ I hg hm (PySem.W.callWith_K0 I.kIn kp (Q:=fun v s1=>∃ e oe vs,v=.ref e/\X.K.In s1.heap/\s1.heap.get? e=some oe/\oe.cls=.ref Cl/\oe.data=.fields vs/\vs[1]? = some .none/\X.xe (.ref e) s1) ?_) hdb)) (fun v s3 z=>wpAny_bind (wpAny_standAt (wpAny_pure z))) fun _ _ z=>z)
 refine VQ_ (vs:=[]) (us:=[]) c Fn hr hb I .nil rfl (Nat.zero_le _) fun a dd H2 s2 hs I2 mk hh=>?_
 obtain ⟨⟨oe,ws,q1,q2,q3,q4,q5,q6⟩,_⟩:=I2.hok a _ hh
 exact ⟨a,oe,ws,rfl,I2.kIn,q1,q2,q4,q6,X5_ (fl:=[]) (ds:=[]) I2 (Nat.le_trans I.sz hs) (I.hok.fresh hs) mk hh St .nil rfl hc (hX F ρ _ ok)⟩
end
section
variable {prog:Program} {w:World} {A:Around} {E:Value->Shared->Prop} {s:Shared} {env:Env} {K:Fg} {e C:Addr}
theorem WW_ {t:Expr} {n:Str} {b0:Stmt} {suite:List Stmt} {pos:Pos} {rest:List ExceptHandler} {Q:Flow->Shared->Prop}
  (h:wpAny (model prog w) (A.mark (some (.ref e))) (eval t env) (fun c s1=>K.In s1.heap/\PySem.W.exmOne K (.ref C) c=some true/\(∃ oe,s1.heap.get? e=some oe/\oe.cls=.ref C) /\
   wpAny (model prog w) (A.mark (some (.ref e))) (setFlight (.ref e) none) (fun _ s2=>wpAny (model prog w) (A.mark (some (.ref e))) (storeName env n (.ref e)) (fun _ s3 =>
    wpAny (model prog w) (A.mark (some (.ref e))) (execs (b0::suite) env) (fun f s4=>wpAny (model prog w) A (do bindName env n .none;unbindBehindTheSuite env n pos) (fun _ s5=>Q f s5) E s4) (fun _ _=>False) s3) (fun _ _=>False) s2) (fun _ _=>False) s1) (fun _ _=>False) s) :
  wpAny (model prog w) A (handleBy (.ref e) env (.ExceptHandler (some t) (some n) (b0::suite) pos::rest)) Q E s:=by
 refine wpAny_handleBy_cons (codeAny_handlers_test (wpAny_mono h (fun c s1 z=>?_) fun _ _ z=>z.elim)) (fun z=>nomatch z)
 obtain ⟨X,hx,⟨oe,he,hc⟩,k⟩:=z
 have LT:PySem.W.Looks (model prog w) s1.heap (typeOf (.ref e)) (.ref C):=hc▸(PySem.W.Looks.ld he).andThen .now
 obtain ⟨hp,g,d,tk,os⟩:=s1
 refine (PySem.W.exm_one (M:=model prog w) X LT hx).at ?_
 refine codeAny_handlers_suite_as (wpAny_mono k (fun _ s2 k2=>wpAny_mono k2 (fun _ s3 k3=>wpAny_mono k3 (fun f s4 k4=>k4) fun _ _ z=>z.elim) fun _ _ z=>z.elim) fun _ _ z=>z.elim)
theorem name_goes {n:Str} {pos:Pos} {m:Str->Option Value} {Q:Unit->Shared->Prop} (hl:env.kindOf n=some .local) (hn:s.heap.Ns env.locals m) (hk:env.scope.kind=.function)
  (k:∀ h' v t',h'.Ns env.locals (fun y=>if y=n then v else m y)->Heap.SameBut env.locals s.heap h'->Q () { s with heap:=h',toks:=t' }):wpAny (model prog w) A (do bindName env n .none;unbindBehindTheSuite env n pos) Q E s:=by
 have hc:(env.scope.kind==.class||(env.scope.kind==.module&&env.locals != env.globals))=false:=by rw [hk];rfl
 refine wpAny_bind (wpAny_bindName (wpAny_storeName_local hl hn (fun h1 n1 b1=>?_) hc))
 simp only [unbindBehindTheSuite,unbindName]
 refine wpAny_onRaise (wpAny_bind (wpAny_point (wpAny_bind ?_)))
 unfold deleteName
 simp only [hl,hc]
 rw [if_neg (by decide)]
 refine wpAny_bind (wpAny_nsDel_keeps n1 fun h2 v n2 b2=>?_)
 simp only [if_true,Option.isSome_some,Bool.not_true,Bool.false_eq_true,if_false]
 refine wpAny_pure (wpAny_point (k h2 v _ ?_ (b1.trans b2)))
 refine (show (fun y=>if y=n then v else if y=n then some Value.none else m y)=(fun y=>if y=n then v else m y) from ?_)▸n2
 funext y
 by_cases q:y=n
 ·rw [if_pos q,if_pos q]
 ·rw [if_neg q,if_neg q,if_neg q]
end
section
variable {X:Cx} {pins:List (Addr×Obj)} {σ:L2.St} {H:Hp} {s:Shared} {j:Nat} {n:Str} {A:Around} {E:Value->Shared->Prop}
theorem zdu_ {pos:Pos} {Q:Unit->Shared->Prop} (I:Inv X pins σ H s) (hN:X.N.Nodup) (hj:X.N[j]? = some n) (hl:X.env.kindOf n=some .local)
  (k:∀ s',Inv X pins (σ.set j none) H s'->Q () s'):wpAny (model X.prog X.w) A (do bindName X.env n .none;unbindBehindTheSuite X.env n pos) Q E s:=by
 obtain ⟨m,hn,hv⟩:=id I.loc
 refine name_goes hl hn I.ok.kind fun h' v t' n1 b1=>k _ ?_
 have neL:∀ b o,X.s₀.heap.get? b=some o->b≠X.env.locals:=fun b o q=>Nat.ne_of_lt (Nat.lt_of_lt_of_le (Heap.lt_size q) I.ok.above)
 refine ⟨I.ok,I.os,I.bare,⟨fun b o q z hb hx=>?_,fun b o q z hb hx=>?_,I.base.free,fun b o q hx=>?_,I.base.tups,I.base.frzs,I.base.tbls⟩,⟨_,n1,fun i x u q1 q2 q3=>?_⟩,fun x c q=>?_,I.free,I.freeC,fun p hp=>?_,fun b o q=>?_,by simpa using I.len⟩
 ·exact (b1.2 b (neL b o q)).trans (I.base.keep b o q z hb hx)
 ·obtain ⟨sl,r⟩:=I.base.slot b o q z hb hx
  exact ⟨sl,(b1.2 b (neL b o q)).trans r⟩
 ·obtain ⟨o',r⟩:=I.base.there b o q hx
  exact ⟨o',(b1.2 b (neL b o q)).trans r⟩
 ·have ne:i≠j:=fun z=>by
   subst z
   have hi:i<σ.length:=by rw [I.len];exact (List.getElem?_eq_some_iff.mp q1).1
   rw [List.getElem?_set_self hi] at q2
   cases q2
  rw [List.getElem?_set_ne (Ne.symm ne)] at q2
  obtain ⟨w',r,l⟩:=hv i x u q1 q2 q3
  refine ⟨w',r,?_⟩
  rcases l with ⟨l1,l2⟩|⟨l1,c,l2,l3⟩
  ·refine .inl ⟨l1,?_⟩
   have nx:x≠n:=fun z=>by subst z;exact ne (JU_ hN q1 hj)
   show (if x=n then v else m x)=_
   rw [if_neg nx];exact l2
  ·refine .inr ⟨l1,c,l2,?_⟩
   obtain ⟨oc,g1,g2⟩:=l3
   exact ⟨oc,(b1.2 c (I.cne x c l2)).trans g1,g2⟩
 ·obtain ⟨v',oc,g1,g2⟩:=I.cell x c q
  exact ⟨v',oc,(b1.2 c (I.cne x c q)).trans g1,g2⟩
 ·obtain ⟨g1,g2,g3,g4⟩:=I.pin p hp
  exact ⟨(b1.2 p.1 g3).trans g1,g2,g3,g4⟩
 ·refine (I.hok b o q).stay (fun c u hc r=>(b1.2 c ?_).trans r) (fun _ r=>r) fun _ _ r=>r
  rintro rfl
  rcases hc with z|z
  ·rw [<-z,I.free] at q;cases q
  ·rw [I.free] at z;cases z
noncomputable abbrev cau (X:Cx) (e:Addr):Cx:={ X with A:=X.A.mark (some (.ref e)),calm:=false,xe:=fun _ _=>False }
theorem U0_ {e:Addr} (I:Inv X pins σ H s):Inv (cau X e) pins σ H s :=
 ⟨⟨I.ok.mod,I.ok.kind,I.ok.glob,I.ok.blt,I.ok.above,I.ok.inj,I.ok.has,I.ok.cab,(fun z=>nomatch z),I.ok.frames,I.ok.stk,I.ok.exf,I.ok.bs,I.ok.bsz,I.ok.noex,I.ok.exfs,I.ok.funs,I.ok.frf⟩,I.os,I.bare,I.base,I.loc,I.cell,I.free,I.freeC,I.pin,I.hok,I.len⟩
theorem Vq_ {e:Addr} (h:X.calm=true->X.A.handled=none) (I:Inv (cau X e) pins σ H s):Inv X pins σ H s :=
 ⟨⟨I.ok.mod,I.ok.kind,I.ok.glob,I.ok.blt,I.ok.above,I.ok.inj,I.ok.has,I.ok.cab,h,I.ok.frames,I.ok.stk,I.ok.exf,I.ok.bs,I.ok.bsz,I.ok.noex,I.ok.exfs,I.ok.funs,I.ok.frf⟩,I.os,I.bare,I.base,I.loc,I.cell,I.free,I.freeC,I.pin,I.hok,I.len⟩
end
section
variable {M:Model} {A:Around} {E:Value->Shared->Prop} {s:Shared} {e C:Addr} {dd:Option Addr} {H:Hp} {lo:Nat}
theorem flight_again {Q:Unit->Shared->Prop} (fs:List Addr) (xs:XS H s.heap lo e C dd) (k:∀ h',Mv fs s.heap h' e->XS H h' lo e C dd->Q () { s with heap:=h' }):wpAny M A (setFlight (.ref e) none) Q E s:=by
 obtain ⟨oe,vs,he,hc,hdd,hd,hz,tb⟩:=xs.obj
 simp only [setFlight]
 rcases tb with tb|⟨T,oT,ts,tb,hTe,hTl,hTn,hT,hTd,t3⟩
 ·refine wpAny_bind (wpAny_field he hd tb ?_)
  rw [if_neg (by decide)]
  exact wpAny_pure (k s.heap ⟨fun _ _ q _ _ _=>q,fun b o q _ _=>⟨o.slots,q⟩,fun b o q=>⟨o,q⟩⟩ xs)
 ·refine wpAny_bind (wpAny_field he hd tb ?_)
  rw [if_pos (by simp)]
  have z3:3<ts.size:=(Array.getElem?_eq_some_iff.mp t3).1
  have isT:TbOf s.heap e T:=⟨oe,vs,he,hd,tb⟩
  have off:∀ b,b≠T->(s.heap.update T (Obj.mapFields (·.setIfInBounds 3 ((none:Option Addr).elim Value.none fun f=>rawInt f)))).get? b=s.heap.get? b:=fun b hb=>Heap.get?_update_other _ _ (Ne.symm hb)
  have T0:(s.heap.update T (Obj.mapFields (·.setIfInBounds 3 ((none:Option Addr).elim Value.none fun f=>rawInt f)))).get? T=some (oT.mapFields (·.setIfInBounds 3 ((none:Option Addr).elim Value.none fun f=>rawInt f))):=Heap.get?_update_self _ hT (Obj.isFreed_of_fields (Obj.data_mapFields hTd _))
  have nt:∀ b,¬ TbOf s.heap e b->b≠T:=fun b z q=>z (q▸isT)
  refine wpAny_setField hT hTd z3 (k _ ⟨fun b o q _ _ z=>(off b (nt b z)).trans q,fun b o q _ z=>⟨o.slots,(off b (nt b z)).trans q⟩,fun b o q=>?_⟩ ⟨xs.yg,xs.trk,oe,vs,(off e (Ne.symm hTe)).trans he,hc,hdd,hd,hz,.inr ⟨T,_,_,tb,hTe,hTl,hTn,T0,Obj.data_mapFields hTd _,by simp [z3]⟩⟩)
  by_cases z:b=T
  ·subst z;exact ⟨_,T0⟩
  ·exact ⟨o,(off b z).trans q⟩
end
theorem _root_.L3.StOk.setdead {K:Fg} {G:Gh} {F H:Hp} {σ:L2.St} {ρ:En} (S:StOk K G F σ H ρ) {j:Nat} (hj:∀ av,ρ[j]? ≠ some (some av)) (u:Option V):StOk K G F (σ.set j u) H ρ:=by
 have ne:∀ i av,ρ[i]? = some (some av)->i≠j:=fun i av q z=>by subst z;exact hj av q
 have at_:∀ i av,ρ[i]? = some (some av)->(σ.set j u)[i]? = σ[i]?:=fun i av q=>List.getElem?_set_ne (Ne.symm (ne i av q))
 have ao:∀ i c,own ρ i c->(σ.set j u)[i]? = σ[i]?:=fun i c q=>by rcases q with q|q<;>exact at_ i _ q
 refine ⟨S.fh,S.oh,S.fo,by simpa using S.ln,fun i d q=>by rw [at_ i _ q];exact S.fz i d q,fun i c q=>by rw [ao i c q];exact S.ow i c q,fun i k c e a q1 q2 z1 z2=>?_,fun i a q=>?_,S.pq,S.fb⟩
 ·rw [ao i c q1] at z1
  rw [ao k e q2] at z2
  exact S.dj i k c e a q1 q2 z1 z2
 ·obtain ⟨z1,c,z2⟩:=S.pp i a q
  exact ⟨by rw [at_ i _ z2];exact z1,c,z2⟩
theorem av {X:Cx} (i:Nat) {x:Str} {pos:Pos} (hN:X.N[i]? = some x:=by rfl) (hv:Vis X.env.scope x:=by first|exact Or.inl rfl|exact Or.inr (Or.inl rfl)|exact Or.inr (Or.inr rfl))
  (hd:(x==("__debug__" : Str))=false:=by decide) (hcd:(x==("__classdict__" : Str))=false:=by decide):AP X (.Name x pos) (pVar i):=zgx_ hN hv hd hcd
end L4
namespace L3
open PySem PySem.Spec PyProof.Rows L2 L4
theorem uG_ {K:Fg} {F F':Hp} {a:Addr} {vs:List V} (s:Same F F') (h:SqL K F a vs):SqL K F' a vs:=s.seq h
noncomputable def Itel (K:Fg) (a:Addr):It :=
 ⟨fun i H=>∃ xs x,SqL K H a xs/\xs[i]? = some x,fun i H y H'=>∃ p x,(∀ xs,SqL K H a xs->xs[i]? = some x)/\H p=none/\y=.ref p/\H'=upd H p (.tup [.int i,x]),fun i H=>∃ xs,SqL K H a xs/\xs.length<=i⟩
theorem QO_ {P:Program} {w:World} {K:Fg} {elts:List Expr} {x1:Nat} {pos:Pos} (a it e:Addr) (hai:a≠it) (hei:e≠it) (hea:e≠a) :
  Turn P w K (.Tuple elts x1 pos) (Itel K a) [e,it] e (fun i h=>(∃ old,IsEnum h e it i old)/\h.IsListIter it a i) where
 mem:=by simp
 obj:=fun i h st b hb=>by
  obtain ⟨⟨old,he⟩,o,e1,c,d⟩:=st
  rcases List.mem_cons.mp hb with rfl|hb
  ·exact ⟨_,he,fun v z=>nomatch z⟩
  ·rw [List.mem_singleton.mp hb]
   exact ⟨o,e1,fun v z=>by rw [d] at z;cases z⟩
 keep:=fun i h h' st k=>by
  obtain ⟨⟨old,he⟩,ht⟩:=st
  exact ⟨⟨old,k e (by simp) _ he⟩,ht.at fun o e=>k it (by simp) o e⟩
 item:=by
  intro X hP hw hK hc i pins s σ H E I hf st hg
  subst hP hw hK
  obtain ⟨xs,x,hq,hx⟩:=hg
  obtain ⟨its,rv,p,hz⟩:=I.list hq
  obtain ⟨u,hu,ru⟩:=rv.get hx
  obtain ⟨⟨old,he⟩,ht⟩:=st
  have D:=Draws.list (prog:=X.prog) (w:=X.w) (A:=X.A.in1) (I.ok.hd hc) it a hai its.toArray
  have hi:i<its.toArray.size:=by simpa using (List.getElem?_eq_some_iff.mp hu).1
  have fe:=hf e (by simp)
  have ft:=hf it (by simp)
  refine wpAny_pyNext_enum_itemD D he ⟨ht,p.isList⟩ hi hei (by simp [hei,hea]) fun x' h' tk hP ho hs' hT hsz hk=>?_
  have ex:x'=u:=by
   have:its.toArray[i]? = some x':=hP
   rw [List.getElem?_toArray,hu] at this
   exact (Option.some.inj this).symm
  subst ex
  refine ⟨_,rfl,wpAny_letOwnedTupleGo_enum ho fun h2 he2 sb2=>?_⟩
  have hpe:s.heap.objs.size≠e:=Nat.ne_of_gt (Heap.lt_size he)
  have hpi:s.heap.objs.size≠it:=by obtain ⟨o,e1,_⟩:=ht;exact Nat.ne_of_gt (Heap.lt_size e1)
  have keep2:∀ b o,b≠e->b≠it->s.heap.get? b=some o->h2.get? b=some o:=fun b o h1 h2' q=>(sb2.2 b h1).trans (hk b o h1 h2' q)
  have tup2:h2.get? s.heap.objs.size=some { cls:=.type "tuple",data:=.seq #[.int i tk,x'] }:=(sb2.2 _ hpe).trans hT
  have I1:Inv X pins σ (upd H s.heap.objs.size (.tup [.int i,x])) { s with heap:=h2,toks:=tk+1 }:=Qv_ I fe ft ru keep2 tup2
  refine ⟨.ref s.heap.objs.size,_,I1,rfl,⟨_,x,fun ys hy=>by rw [I.list_inj hy hq];exact hx,I.fresh,rfl,rfl⟩,⟨⟨_,by simpa using he2⟩,?_⟩,fun b hb=>?_⟩
  ·obtain ⟨o,e1,r⟩:=hs'.1
   exact ⟨o,(sb2.2 it (Ne.symm hei)).trans e1,r⟩
  ·rcases List.mem_cons.mp hb with rfl|hb
   ·rw [zf_ (Ne.symm hpe)];exact fe.1
   ·rw [List.mem_singleton.mp hb,zf_ (Ne.symm hpi)];exact ft.1
 done:=by
  intro X hP hw hK hc i pins s σ H E I hf st hg
  subst hP hw hK
  obtain ⟨xs,hq,hx⟩:=hg
  obtain ⟨its,rv,p,hz⟩:=I.list hq
  obtain ⟨⟨old,he⟩,ht⟩:=st
  obtain ⟨g0,g1,g2,g3,g4,g5⟩:=hf it (by simp)
  have hl:=rv.length
  have D:=Draws.list (prog:=X.prog) (w:=X.w) (A:=X.A.in1) (I.ok.hd hc) it a hai its.toArray
  have hT:s.TypeIs (.ref e) "enumerate":=⟨_,he,rfl⟩
  unfold pyNext
  refine wpAny_bind (wpAny_attempt (wpAny_callSpecial?_slot (name:=Str.ofString "__next__") hT F.slot_enumerate_next
   (wpAny_call_entry F.slot_enumerate_next hT F.entry_enumerate_next ?_ (F.args_enumerate_next_1 _))))
  show wpAny _ _ (field (.ref e) 2 >>= _) _ _ _
  refine wpAny_bind (wpAny_field he rfl (x:=.ref it) rfl ?_)
  refine wpAny_bind (wpAny_nextOf_list_end (I.ok.hd hc) ht p.isList (by simp;lia) fun h' x he' hx'=>?_)
  obtain ⟨o,ho,hcl⟩:=hx'
  refine wpAny_bind (wpAny_isInstance (T := "StopIteration") (b:=true) ⟨o,ho,hcl⟩ isSubtype_stop ?_)
  exact wpAny_pure ⟨rfl,I.turned (t':=s.toks) (fun b o hb e=>he' b o hb e) g0 g1 g3 g4 g5⟩
 self:=fun _ _ _ _ _ st h=>by
  obtain ⟨⟨old,he⟩,ht⟩:=st
  exact wpAny_pyIter_enum he h
theorem QK_ {K:Fg} {F:Hp} {a:Addr} {vs:List V} {ds:List D} (h:SqL K F a vs) (r:RepL K F vs ds):Walk K (Itel K a) (yd_ ds) F where
 go:=fun i G F2 σ H2 ρ s S hi=>by
  have hi':i<vs.length:=by rw [r.length];rw [jP_] at hi;exact hi
  exact ⟨vs,vs[i],uG_ S.fh (uG_ s h),by simp [hi']⟩
 yld:=fun i G F2 σ H2 ρ x H3 d s S hd ⟨p,y,hy,hp,hx,hH⟩=>by
  subst hx hH
  unfold yd_ at hd
  rw [List.getElem?_map,List.getElem?_zipIdx] at hd
  cases q:ds[i]? with
  | none=>rw [q] at hd;cases hd
  | some d' =>
   rw [q] at hd
   simp at hd
   subst hd
   obtain ⟨v,e1,e2⟩:=r.get q
   have:=hy vs (uG_ S.fh (uG_ s h))
   rw [e1] at this
   cases this
   obtain ⟨s2,S2,r2⟩:=S.newTup hp (RepL.cons (Rep.int (i:Int)) (RepL.cons (e2.mono s) RepL.nil))
   exact ⟨_,s2,S2,r2⟩
 stop:=fun G F2 σ H2 ρ s S=>⟨vs,uG_ S.fh (uG_ s h),by rw [r.length,jP_];exact Nat.le_refl _⟩
noncomputable def zfU_ (K:Fg) (tl:TA):TI:=fun σ H R=>tl σ H fun xs H1=>∃ a,xs=[.ref a]/\(∃ ys,SqL K H1 a ys)/\R (Itel K a) H1
theorem zab_ {X:Cx} {e:Expr} {tl:TA} {elts:List Expr} {x1:Nat} {tp p pos:Pos} (hg:Gl X "enumerate") (hm:X.mg "enumerate" = none) (ha:PA X [e] tl) (hs:starEach [e] X.env=[(false,eval e X.env)]) :
  PI X (.Tuple elts x1 tp) (.Call (.Name "enumerate" p) [e] [] pos) (zfU_ X.K tl):=by
 intro pins s σ H R I h
 refine wpAny_Call_Name_kw (ZI_ I hg hm (show bootBuiltins "enumerate" = some (.type "enumerate") by decide +kernel) ?_ (by decide) (by decide))
 refine PyProof.Rows.callWith_type1 (thn (ha pos pins s σ H _ I h) fun us s1 ⟨vs,H1,I1,r1,q1⟩=>?_) hs rfl
 obtain ⟨a,rfl,⟨ys,hq⟩,q⟩:=q1
 obtain ⟨u,rfl,ru⟩:=L2.Vals.one r1
 cases ru
 obtain ⟨its,rv,pt,hz⟩:=I1.list hq
 have alt:a<s1.heap.objs.size:=by obtain ⟨o,e1,_⟩:=pt.isList;exact Heap.lt_size e1
 refine call_enumerate_list pt.isList fun h' he ht hsz hk=>?_
 refine wpAny_pyIter_enum (s:={ s1 with heap:=h' }) he ?_
 refine ⟨s1.heap.objs.size+1,[s1.heap.objs.size+1,s1.heap.objs.size],_,_,H1,rfl,I1.kept (t':=s1.toks) hk,QO_ a s1.heap.objs.size (s1.heap.objs.size+1) (Nat.ne_of_lt alt) (Nat.succ_ne_self _) (Nat.ne_of_gt (Nat.lt_succ_of_lt alt)),⟨⟨_,he⟩,ht⟩,fun b hb=>?_,q⟩
 rcases List.mem_cons.mp hb with rfl|hb
 ·exact I1.fpOk (Nat.le_succ _) (I1.hok.fresh (Nat.le_succ _))
 ·rw [List.mem_singleton.mp hb]
  exact I1.fpOk (Nat.le_refl _) (I1.hok.fresh (Nat.le_refl _))
end L3
namespace L4
open PySem PySem.Spec PyProof.Rows L2 L3
noncomputable def UV_:List D->Option (List D)
 | [.list ds]=>some (yd_ ds)
 | _=>none
section
variable {X:Cx} {tg e:Expr} {p pos tp:Pos} {elts:List Expr} {x1:Nat}
theorem zaV_ {F H:Hp} {vs:List V} {ds out:List D} {R:It->Hp->Prop} (s:Same F H) (r:RepL X.K F vs ds) (h:UV_ ds=some out) (k:∀ J,Walk X.K J out F->R J H) :
  ∃ a,vs=[.ref a]/\(∃ ys,SqL X.K H a ys)/\R (Itel X.K a) H:=by
 unfold UV_ at h
 split at h
 ·cases h
  obtain ⟨v,rfl,r1⟩:=r.one_inv
  obtain ⟨a,vs,rfl,a1,a2⟩:=r1.lst_inv
  exact ⟨_,rfl,⟨_,s.seq a1⟩,k _ (QK_ a1 a2)⟩
 ·cases h
theorem zbl_ {ps:Pa (List D)} (hg:Gl X "enumerate") (hm:X.mg "enumerate" = none) (ha:AA X [e] ps) (hs:starEach [e] X.env=[(false,eval e X.env)]):AI X (.Tuple elts x1 tp) (.Call (.Name "enumerate" p) [e] [] pos) (Jg_ UV_ ps) :=
 fun G F σ H ρ R S w=>semI (zab_ hg hm jk_ hs) (ha G F σ H ρ _ _ _ S w fun ds vs F1 H1 s1 S1 _ r1 w1=>by
  obtain ⟨out,hd,k⟩:=w1.opt
  exact zaV_ S1.fh r1 hd (k F1 H1 (Same.refl _) S1))
end
end L4
namespace TS
open PySem PyProof.Rows
noncomputable def kr (rk:Value->Int) (xs:Array Keyed) (i:Nat):Int:=(xs[i]?.map fun p=>rk p.1).getD 0
def Asc (rk:Value->Int) (xs:Array Keyed) (lo hi:Nat):Prop:=∀ i j:Nat,lo<=i->i<=j->j<hi->kr rk xs i<=kr rk xs j
def Dsc (rk:Value->Int) (xs:Array Keyed) (lo hi:Nat):Prop:=∀ i j:Nat,lo<=i->i<=j->j<hi->kr rk xs j<=kr rk xs i
def Cmps (prog:Program) (w:World) (A:Around) (s:Shared) (κ:SortKind) (rk:Value->Int) (a₀:Array Keyed):Prop :=
 ∀ x y,x∈a₀.toList->y∈a₀.toList->∀ (E:Value->Shared->Prop) (Q:Bool->Shared->Prop),Q (decide (rk x.1<rk y.1)) s->wpAny (model prog w) A (keyLt' κ x.1 y.1) Q E s
noncomputable abbrev Runs:=Array (Nat×Nat×Nat)
structure SB (κ:SortKind) (a₀:Array Keyed) (lo:Nat) (old:Array Keyed) (P:Runs) (st:SortSt):Prop where
 pm:(arrOf st).Perm a₀
 kd:kindOf st=κ
 fl:failedOf st=none
 kp:∀ i,i<lo->(arrOf st)[i]? = old[i]?
 pe:pendingOf st=P
section
variable {prog:Program} {w:World} {A:Around} {E:Value->Shared->Prop} {s:Shared} {κ:SortKind} {rk:Value->Int} {a₀ old:Array Keyed} {lo:Nat} {P:Runs}
theorem SB.sz {st:SortSt} (h:SB κ a₀ lo old P st):(arrOf st).size=a₀.size:=h.pm.size_eq
theorem SB.to {st:SortSt} (h:SB κ a₀ lo old P st) {xs:Array Keyed} (hp:xs.Perm (arrOf st)) (hk:∀ i,i<lo->xs[i]? = (arrOf st)[i]?):SB κ a₀ lo old P (setArr st xs) :=
 ⟨hp.trans h.pm,h.kd,h.fl,fun i hi=>(hk i hi).trans (h.kp i hi),h.pe⟩
theorem SB.mem {st:SortSt} (h:SB κ a₀ lo old P st) {i:Nat} {p:Keyed} (e:(arrOf st)[i]? = some p):p∈a₀.toList :=
 (Array.perm_iff_toList_perm.mp h.pm).mem_iff.mp (by
  obtain ⟨hl,e⟩:=Array.getElem?_eq_some_iff.mp e
  rw [<-e];simp)
theorem jh_ {xs:Array Keyed} {i:Nat} {p:Keyed} (e:xs[i]? = some p):kr rk xs i=rk p.1:=by unfold kr;rw [e];rfl
theorem ZJ_ {xs ys:Array Keyed} {i j:Nat} (e:xs[i]? = ys[j]?):kr rk xs i=kr rk ys j:=by unfold kr;rw [e]
theorem js_ {xs:Array Keyed} {i:Nat} {p:Keyed} {st:SortSt} {Q:Keyed->SortSt->Prop} (e:xs[i]? = some p) (q:Q p st):wpS (model prog w) A E s (elem' xs i) Q st:=by
 rw [elem'_eq,e];exact wpS_pure q
theorem Wy_ {x y:Keyed} {st:SortSt} {Q:Option Bool->SortSt->Prop} (hC:Cmps prog w A s κ rk a₀) (hk:kindOf st=κ) (hx:x∈a₀.toList) (hy:y∈a₀.toList) (q:Q (some (decide (rk x.1<rk y.1))) st) :
  wpS (model prog w) A E s (lt' x y) Q st:=by
 rw [lt'_eq]
 refine wpS_bind (wpS_get ?_)
 rw [hk]
 refine wpS_bind (wpS_lift (wpAny_attempt (hC x y hx hy _ _ ⟨rfl,?_⟩)))
 exact wpS_pure q
theorem XE_ {i j:Nat} {st:SortSt} {Q:Option Bool->SortSt->Prop} (hC:Cmps prog w A s κ rk a₀) (h:SB κ a₀ lo old P st) (hi:i<a₀.size) (hj:j<a₀.size) (q:Q (some (decide (kr rk (arrOf st) i<kr rk (arrOf st) j))) st) :
  wpS (model prog w) A E s (ltAt' i j) Q st:=by
 have e1:(arrOf st)[i]? = some ((arrOf st)[i]'(by rw [h.sz];exact hi)):=Array.getElem?_eq_getElem _
 have e2:(arrOf st)[j]? = some ((arrOf st)[j]'(by rw [h.sz];exact hj)):=Array.getElem?_eq_getElem _
 rw [ltAt'_eq]
 refine wpS_bind (wpS_get ?_)
 refine wpS_bind (js_ e1 (wpS_bind (js_ e2 ?_)))
 refine Wy_ hC h.kd (h.mem e1) (h.mem e2) ?_
 rw [jh_ e1,jh_ e2] at q
 exact q
theorem Qe_ {st:SortSt} {i j:Nat} {Q:Unit->SortSt->Prop} (q:Q () (setArr st (mirror (arrOf st) i j ((j - i) / 2)))):wpS (model prog w) A E s (reverseSlice' i j) Q st:=by
 rw [reverseSlice'_eq]
 exact wpS_modify q
theorem WE_ {xs:Array Keyed} {i j:Nat} (hj:j<=xs.size) (k:Nat):kr rk (mirror xs i j ((j - i) / 2)) k=if i<=k/\k<j then kr rk xs (i+j - 1 - k) else kr rk xs k:=by
 have e:=getElem?_mirror_all (i:=i) hj k
 split
 ·rename_i c;rw [if_pos c] at e;exact ZJ_ e
 ·rename_i c;rw [if_neg c] at e;exact ZJ_ e
theorem Zl_ {xs:Array Keyed} {i j lo:Nat} (hj:j<=xs.size) (hl:lo<=i):∀ k,k<lo->(mirror xs i j ((j - i) / 2))[k]? = xs[k]?:=fun k hk=>by
 rw [getElem?_mirror_all hj k,if_neg (by omega)]
theorem JV_ {xs:Array Keyed} {i j:Nat} (hj:j<=xs.size) (e:∀ k,i<=k->k<j->kr rk xs k=kr rk xs (j - 1)) (k:Nat):kr rk (mirror xs i j ((j - i) / 2)) k=kr rk xs k:=by
 rw [WE_ hj]
 split
 ·rename_i c;rw [e k c.1 c.2,e _ (by omega) (by omega)]
 ·rfl
noncomputable abbrev Asl:=Option (Option Nat)×Nat
noncomputable abbrev Dsl:=Option (Option Nat)×Nat×Nat
noncomputable def upW (lo a z:Nat):StateT SortSt Sem Asl:=forIn [a:z] ((none,a):Asl) fun _ c=>do
 match <-ltAt' (lo+c.snd) (lo+c.snd - 1) with
 | some b=>if b=true then pure (ForInStep.done (none,c.snd)) else pure (ForInStep.yield (none,c.snd+1))
 | _=>pure (ForInStep.done (some none,c.snd))
noncomputable def endW (lo n z:Nat):StateT SortSt Sem (Option Nat):=do
 reverseSlice' lo (lo+n)
 let c <-upW lo n z
 match c.fst with
 | some r=>pure r
 | none=>pure (some c.snd)
noncomputable def dnW (lo n z:Nat):StateT SortSt Sem Dsl:=forIn [n:z] ((none,n,0):Dsl) fun _ c=>do
 match <-ltAt' (lo+c.snd.fst) (lo+c.snd.fst - 1) with
 | some b =>
  if b=true then
   if c.snd.snd>0 then do
    reverseSlice' (lo+c.snd.fst - (c.snd.snd+1)) (lo+c.snd.fst)
    pure (ForInStep.yield (none,c.snd.fst+1,0))
   else pure (ForInStep.yield (none,c.snd.fst+1,0))
  else do
   match <-ltAt' (lo+c.snd.fst - 1) (lo+c.snd.fst) with
   | some g=>if g=true then pure (ForInStep.done (none,c.snd.fst,c.snd.snd)) else pure (ForInStep.yield (none,c.snd.fst+1,c.snd.snd+1))
   | _=>pure (ForInStep.done (some none,c.snd.fst,c.snd.snd))
 | _=>pure (ForInStep.done (some none,c.snd.fst,c.snd.snd))
noncomputable def Xb_ (lo n z:Nat):StateT SortSt Sem (Option Nat):=do
 liftM (rule "list.sort.descending-run")
 let c <-dnW lo (n+1) z
 match c.fst with
 | some r=>pure r
 | none =>
  if c.snd.snd>0 then do
   reverseSlice' (lo+c.snd.fst - (c.snd.snd+1)) (lo+c.snd.fst)
   endW lo c.snd.fst z
  else endW lo c.snd.fst z
theorem zeC_ (lo z:Nat):countRun' lo z=(do
  let c <-upW lo 1 z
  match c.fst with
  | some r=>pure r
  | none =>
   if (c.snd==z)=true then pure (some c.snd)
   else if c.snd>1 then do
    match <-ltAt' lo (lo+c.snd - 1) with
    | some b=>if b=true then pure (some c.snd) else do
      reverseSlice' lo (lo+c.snd)
      Xb_ lo c.snd z
    | _=>pure none
   else Xb_ lo c.snd z):=by
 rw [countRun'_eq]
 unfold Xb_ endW dnW upW
 dsimp only
 have tl:∀ (x:StateT SortSt Sem Asl),(x >>= fun c3=>match c3.fst with|some r=>pure r|none=>pure (some c3.snd):StateT SortSt Sem (Option Nat))=(x >>= fun c3=>match c3.fst with|none=>pure (some c3.snd)|some r=>pure r):=fun x=>by
  congr 1;funext c3;rcases c3 with ⟨_|r3,n3⟩<;>rfl
 congr 1
 funext c
 rcases c with ⟨_|r,n⟩
 ·dsimp only
  split
  ·rfl
  ·split
   ·congr 1
    funext x
    cases x with
    | none=>rfl
    | some b =>
     dsimp only
     split
     ·rfl
     ·congr 1;funext _;congr 1;funext _;congr 1;funext c2
      rcases c2 with ⟨_|r2,n2,q2⟩
      ·dsimp only
       split
       ·congr 1;funext _;congr 1;funext _;congr 1;funext c3;rcases c3 with ⟨_|r3,n3⟩<;>rfl
       ·congr 1;funext _;congr 1;funext c3;rcases c3 with ⟨_|r3,n3⟩<;>rfl
      ·rfl
   ·congr 1;funext _;congr 1;funext c2
    rcases c2 with ⟨_|r2,n2,q2⟩
    ·dsimp only
     split
     ·congr 1;funext _;congr 1;funext _;congr 1;funext c3;rcases c3 with ⟨_|r3,n3⟩<;>rfl
     ·congr 1;funext _;congr 1;funext c3;rcases c3 with ⟨_|r3,n3⟩<;>rfl
    ·rfl
 ·rfl
end
section
variable {prog:Program} {w:World} {A:Around} {E:Value->Shared->Prop} {s:Shared} {κ:SortKind} {rk:Value->Int} {a₀ old:Array Keyed} {lo:Nat} {P:Runs}
theorem Asc.snoc {xs:Array Keyed} {lo m:Nat} (h:Asc rk xs lo (lo+m)) (h1:1<=m) (q:¬ kr rk xs (lo+m)<kr rk xs (lo+m - 1)):Asc rk xs lo (lo+(m+1)):=fun i j hi hij hj=>by
 by_cases c:j<lo+m
 ·exact h i j hi hij c
 ·by_cases c2:i=j
  ·subst c2;exact Int.le_refl _
  ·have e:j=lo+m:=by lia
   subst e
   have:=h i (lo+m - 1) hi (by lia) (by lia)
   lia
theorem zeg_ {st:SortSt} {a z:Nat} {Q:Asl->SortSt->Prop} (hC:Cmps prog w A s κ rk a₀) (hz:lo+z<=a₀.size) (h1:1<=a) (ha:a<=z) (h:SB κ a₀ lo old P st) (ho:Asc rk (arrOf st) lo (lo+a))
  (q:∀ n,a<=n->n<=z->Asc rk (arrOf st) lo (lo+n)->(n=z\/kr rk (arrOf st) (lo+n)<kr rk (arrOf st) (lo+n - 1))->Q (none,n) st):wpS (model prog w) A E s (upW lo a z) Q st:=by
 refine wpS_forRange (I:=fun x c st'=>st'=st/\c=(none,x)/\Asc rk (arrOf st) lo (lo+x)) (fun x c st' hx hxz I=>?_) (fun c st' I=>?_) ⟨rfl,rfl,ho⟩
 ·obtain ⟨rfl,rfl,o⟩:=I
  refine wpS_bind (XE_ hC h (by dsimp only;lia) (by dsimp only;lia) ?_)
  dsimp only
  by_cases c:kr rk (arrOf st') (lo+x)<kr rk (arrOf st') (lo+x - 1)
  ·rw [decide_eq_true c]
   exact wpS_pure (q x hx (by lia) o (.inr c))
  ·rw [decide_eq_false c]
   exact wpS_pure ⟨rfl,rfl,o.snoc (by lia) c⟩
 ·obtain ⟨rfl,rfl,o⟩:=I
  have e:max a z=z:=by lia
  rw [e] at o ⊢
  exact q z ha (Nat.le_refl _) o (.inl rfl)
def Run (κ:SortKind) (rk:Value->Int) (a₀ old:Array Keyed) (lo z:Nat) (P:Runs) (m:Nat) (st:SortSt):Prop:=SB κ a₀ lo old P st/\1<=m/\m<=z/\Asc rk (arrOf st) lo (lo+m)
theorem zbZ_ {st:SortSt} {n z:Nat} {Q:Option Nat->SortSt->Prop} (hC:Cmps prog w A s κ rk a₀) (hz:lo+z<=a₀.size) (h1:1<=n) (hn:n<=z) (h:SB κ a₀ lo old P st) (ho:Dsc rk (arrOf st) lo (lo+n))
  (q:∀ m st',Run κ rk a₀ old lo z P m st'->Q (some m) st'):wpS (model prog w) A E s (endW lo n z) Q st:=by
 have hl:lo+n<=(arrOf st).size:=by rw [h.sz];lia
 have h':=h.to (mirror_perm (arrOf st) lo (lo+n) ((lo+n - lo) / 2)) (Zl_ hl (Nat.le_refl _))
 unfold endW
 refine wpS_bind (Qe_ (wpS_bind (zeg_ hC hz h1 hn h' (fun i j hi hij hj=>?_) fun m m1 m2 o _=>wpS_pure (q m _ ⟨h',by lia,m2,o⟩))))
 show kr rk (mirror (arrOf st) lo (lo+n) _) i<=kr rk (mirror (arrOf st) lo (lo+n) _) j
 rw [WE_ hl,WE_ hl,if_pos ⟨hi,by lia⟩,if_pos ⟨by lia,hj⟩]
 exact ho _ _ (by lia) (by lia) (by lia)
theorem Dsc.snoc {xs ys:Array Keyed} {lo m:Nat} (h:Dsc rk xs lo (lo+m)) (h1:1<=m) (e:∀ k,kr rk ys k=kr rk xs k) (q:kr rk xs (lo+m)<=kr rk xs (lo+m - 1)):Dsc rk ys lo (lo+(m+1)):=fun i j hi hij hj=>by
 rw [e,e]
 by_cases c:j<lo+m
 ·exact h i j hi hij c
 ·by_cases c2:i=j
  ·subst c2;exact Int.le_refl _
  ·have e:j=lo+m:=by lia
   subst e
   have:=h i (lo+m - 1) hi (by lia) (by lia)
   lia
def Flat (rk:Value->Int) (xs:Array Keyed) (lo m q:Nat):Prop:=q+1<=m/\∀ k,lo+m - (q+1)<=k->k<lo+m->kr rk xs k=kr rk xs (lo+m - 1)
theorem zhE_ {st:SortSt} {n z:Nat} {Q:Dsl->SortSt->Prop} (hC:Cmps prog w A s κ rk a₀) (hz:lo+z<=a₀.size) (h1:1<=n) (hn:n<=z) (h:SB κ a₀ lo old P st) (ho:Dsc rk (arrOf st) lo (lo+n))
  (q:∀ m r st',SB κ a₀ lo old P st'->n<=m->m<=z->Dsc rk (arrOf st') lo (lo+m)->Flat rk (arrOf st') lo m r->Q (none,m,r) st'):wpS (model prog w) A E s (dnW lo n z) Q st:=by
 refine wpS_forRange (I:=fun x c st'=>∃ r,c=(none,x,r)/\SB κ a₀ lo old P st'/\Dsc rk (arrOf st') lo (lo+x)/\Flat rk (arrOf st') lo x r) (fun x c st' hx hxz I=>?_) (fun c st' I=>?_) ⟨0,rfl,h,ho,by lia,fun k k1 k2=>by congr 1;lia⟩
 ·obtain ⟨r,rfl,h',o,fl⟩:=I
  have hl:lo+x<=(arrOf st').size:=by rw [h'.sz];lia
  refine wpS_bind (XE_ hC h' (by dsimp only;lia) (by dsimp only;lia) ?_)
  dsimp only
  by_cases c:kr rk (arrOf st') (lo+x)<kr rk (arrOf st') (lo+x - 1)
  ·rw [decide_eq_true c]
   rw [if_pos rfl]
   split
   ·rename_i hr
    have hr':0<r:=hr
    have hfl:∀ k,lo+x - (r+1)<=k->k<lo+x->kr rk (arrOf st') k=kr rk (arrOf st') (lo+x - 1):=fl.2
    have kp:=JV_ (rk:=rk) hl hfl
    have fl1:=fl.1
    refine wpS_bind (Qe_ (wpS_pure ⟨0,rfl,h'.to (mirror_perm _ _ _ _) (Zl_ hl (by lia)),o.snoc (by lia) kp (by lia),by lia,fun k k1 k2=>by congr 1;lia⟩))
   ·exact wpS_pure ⟨0,rfl,h',o.snoc (by lia) (fun _=>rfl) (by lia),by lia,fun k k1 k2=>by congr 1;lia⟩
  ·rw [decide_eq_false c]
   rw [if_neg (by decide)]
   refine wpS_bind (XE_ hC h' (by lia) (by lia) ?_)
   by_cases c2:kr rk (arrOf st') (lo+x - 1)<kr rk (arrOf st') (lo+x)
   ·rw [decide_eq_true c2]
    exact wpS_pure (q x r st' h' hx (by lia) o fl)
   ·rw [decide_eq_false c2]
    refine wpS_pure ⟨r+1,rfl,h',o.snoc (by lia) (fun _=>rfl) (by lia),by have:=fl.1;lia,fun k k1 k2=>?_⟩
    have e:kr rk (arrOf st') (lo+x)=kr rk (arrOf st') (lo+x - 1):=by lia
    rw [show lo+(x+1) - 1=lo+x by lia,e]
    by_cases c3:k=lo+x
    ·rw [c3];exact e
    ·exact fl.2 k (by lia) (by lia)
 ·obtain ⟨r,rfl,h',o,fl⟩:=I
  have e:max n z=z:=by lia
  rw [e] at o fl ⊢
  exact q z r st' h' hn (Nat.le_refl _) o fl
theorem Xa_ {st:SortSt} {n z:Nat} {Q:Option Nat->SortSt->Prop} (hC:Cmps prog w A s κ rk a₀) (hz:lo+z<=a₀.size) (hn:n+1<=z) (h:SB κ a₀ lo old P st) (ho:Dsc rk (arrOf st) lo (lo+(n+1)))
  (q:∀ m st',Run κ rk a₀ old lo z P m st'->Q (some m) st'):wpS (model prog w) A E s (Xb_ lo n z) Q st:=by
 unfold Xb_
 refine wpS_bind (wpS_lift (wpAny_rule ⟨rfl,wpS_bind (zhE_ hC hz (by lia) hn h ho fun m r st' h' m1 m2 o fl=>?_)⟩))
 dsimp only
 have hl:lo+m<=(arrOf st').size:=by rw [h'.sz];lia
 have fl1:=fl.1
 split
 ·have kp:=JV_ (rk:=rk) hl fl.2
  refine wpS_bind (Qe_ (zbZ_ hC hz (by lia) m2 (h'.to (mirror_perm _ _ _ _) (Zl_ hl (by lia))) (fun i j hi hij hj=>?_) q))
  show kr rk (mirror (arrOf st') _ _ _) j<=kr rk (mirror (arrOf st') _ _ _) i
  rw [kp,kp]
  exact o i j hi hij hj
 ·exact zbZ_ hC hz (by lia) m2 h' o q
theorem zeB_ {st:SortSt} {z:Nat} {Q:Option Nat->SortSt->Prop} (hC:Cmps prog w A s κ rk a₀) (hz:lo+z<=a₀.size) (h1:1<=z) (h:SB κ a₀ lo old P st)
  (q:∀ m st',Run κ rk a₀ old lo z P m st'->Q (some m) st'):wpS (model prog w) A E s (countRun' lo z) Q st:=by
 rw [zeC_]
 refine wpS_bind (zeg_ hC hz (Nat.le_refl 1) h1 h (fun i j hi hij hj=>by rw [show i=j by lia];exact Int.le_refl _) fun n n1 n2 o e=>?_)
 dsimp only
 by_cases c:n=z
 ·rw [if_pos (by simpa using c)]
  exact wpS_pure (q n st ⟨h,n1,n2,o⟩)
 ·rw [if_neg (by simpa using c)]
  have lt:=e.resolve_left c
  split
  ·refine wpS_bind (XE_ hC h (by lia) (by lia) ?_)
   by_cases c2:kr rk (arrOf st) lo<kr rk (arrOf st) (lo+n - 1)
   ·rw [decide_eq_true c2]
    exact wpS_pure (q n st ⟨h,n1,n2,o⟩)
   ·rw [decide_eq_false c2]
    dsimp only
    rw [if_neg (by decide)]
    have hl:lo+n<=(arrOf st).size:=by rw [h.sz];lia
    have fl:∀ k,lo<=k->k<lo+n->kr rk (arrOf st) k=kr rk (arrOf st) (lo+n - 1):=fun k k1 k2=>by
     have a1:=o lo k (Nat.le_refl _) k1 k2
     have a2:=o k (lo+n - 1) k1 (by lia) (by lia)
     lia
    have kp:=JV_ (rk:=rk) hl fl
    have dd:Dsc rk (arrOf st) lo (lo+n):=fun i j hi hij hj=>by rw [fl i hi (by lia),fl j (by lia) hj];exact Int.le_refl _
    exact wpS_bind (Qe_ (Xa_ hC hz (by lia) (h.to (mirror_perm _ _ _ _) (Zl_ hl (Nat.le_refl _))) (dd.snoc n1 kp (by lia)) q))
  ·have e1:n=1:=by lia
   subst e1
   have dd:Dsc rk (arrOf st) lo (lo+1):=fun i j hi hij hj=>by rw [show i=j by lia];exact Int.le_refl _
   exact Xa_ hC hz (by lia) h (dd.snoc (Nat.le_refl _) (fun _=>rfl) (by lia)) q
theorem zbR_ {xs:Array Keyed} {src d:Nat} (hs:src<xs.size) (hd:d<=src) (k:Nat):kr rk (bubble xs src d) k=if k=src - d then kr rk xs src else if src - d<k/\k<=src then kr rk xs (k - 1) else kr rk xs k:=by
 have e:=getElem?_bubble hs d hd k
 split
 ·rename_i c;rw [if_pos c] at e;exact ZJ_ e
 ·rename_i c
  rw [if_neg c] at e
  split
  ·rename_i c2;rw [if_pos c2] at e;exact ZJ_ e
  ·rename_i c2;rw [if_neg c2] at e;exact ZJ_ e
theorem zgq_ {st:SortSt} {n ok:Nat} {Q:Bool->SortSt->Prop} (hC:Cmps prog w A s κ rk a₀) (hn:lo+n<=a₀.size) (hk:ok<=n) (h:SB κ a₀ lo old P st) (ho:Asc rk (arrOf st) lo (lo+ok))
  (q:∀ st',SB κ a₀ lo old P st'->Asc rk (arrOf st') lo (lo+n)->Q true st'):wpS (model prog w) A E s (binarySort' lo n ok) Q st:=by
 rw [binarySort'_eq]
 refine wpS_bind (wpS_mono (wpS_forRange (I:=fun k c st'=>c=(none,())/\SB κ a₀ lo old P st'/\Asc rk (arrOf st') lo (lo+min k n))
  (Q:=fun c st'=>c=(none,())/\SB κ a₀ lo old P st'/\Asc rk (arrOf st') lo (lo+n)) (fun k c st' hk1 hkn I=>?_) (fun c st' I=>?_) ⟨rfl,h,fun i j hi hij hj=>?_⟩) fun c st' I=>?_)
 ·obtain ⟨rfl,h',o⟩:=I
  rw [show min k n=k by lia] at o
  have hsz:lo+k<(arrOf st').size:=by rw [h'.sz];lia
  refine wpS_bind (wpS_mono (wpS_forRange (I:=fun x c st2=>st2=st'/\∃ l r,c=(none,l,r)/\l<=r/\r<=k/\r - l<=k - x /\
    (∀ i,i<l->kr rk (arrOf st') (lo+i)<=kr rk (arrOf st') (lo+k))/\(∀ i,r<=i->i<k->kr rk (arrOf st') (lo+k)<kr rk (arrOf st') (lo+i)))
   (Q:=fun c st2=>st2=st'/\∃ l r,c=(none,l,r)/\l<=k/\(∀ i,i<l->kr rk (arrOf st') (lo+i)<=kr rk (arrOf st') (lo+k))/\(∀ i,l<=i->i<k->kr rk (arrOf st') (lo+k)<kr rk (arrOf st') (lo+i)))
   (fun x c st2 _ hx J=>?_) (fun c st2 J=>?_) ⟨rfl,0,k,rfl,by lia,by lia,by lia,fun i hi=>by lia,fun i i1 i2=>by lia⟩) fun c st2 J=>?_)
  ·obtain ⟨rfl,l,r,rfl,lr,rk',sz,b1,b2⟩:=J
   dsimp only
   by_cases c:l>=r
   ·rw [if_pos c]
    exact wpS_pure ⟨rfl,l,r,rfl,by lia,b1,fun i i1 i2=>b2 i (by lia) i2⟩
   ·rw [if_neg c]
    refine wpS_bind (XE_ hC h' (by lia) (by lia) ?_)
    by_cases c2:kr rk (arrOf st2) (lo+k)<kr rk (arrOf st2) (lo+(l+r) / 2)
    ·rw [decide_eq_true c2]
     refine wpS_pure ⟨rfl,l,(l+r) / 2,rfl,by lia,by lia,by lia,b1,fun i i1 i2=>?_⟩
     have:=o (lo+(l+r) / 2) (lo+i) (by lia) (by lia) (by lia)
     lia
    ·rw [decide_eq_false c2]
     refine wpS_pure ⟨rfl,(l+r) / 2+1,r,rfl,by lia,by lia,by lia,fun i i1=>?_,b2⟩
     have:=o (lo+i) (lo+(l+r) / 2) (by lia) (by lia) (by lia)
     lia
  ·obtain ⟨rfl,l,r,rfl,lr,rk',sz,b1,b2⟩:=J
   exact ⟨rfl,l,r,rfl,by lia,b1,fun i i1 i2=>b2 i (by lia) i2⟩
  ·obtain ⟨rfl,l,r,rfl,lk,b1,b2⟩:=J
   show wpS _ _ _ _ (moveDown' (lo+k) (lo+l) >>= fun _=>pure (ForInStep.yield (none,()))) _ _
   rw [moveDown'_eq]
   have ed:lo+k - (lo+k - (lo+l))=lo+l:=by lia
   refine wpS_bind (wpS_modify (wpS_pure ⟨rfl,h'.to (bubble_perm _ _ _) (fun i hi=>?_),fun i j hi hij hj=>?_⟩))
   ·rw [getElem?_bubble hsz _ (by lia),if_neg (by lia),if_neg (by lia)]
   ·rw [show min (k+1) n=k+1 by lia] at hj
    show kr rk (bubble (arrOf st2) (lo+k) (lo+k - (lo+l))) i<=kr rk (bubble (arrOf st2) (lo+k) (lo+k - (lo+l))) j
    rw [zbR_ hsz (by lia),zbR_ hsz (by lia),ed]
    have t1:∀ i,lo<=i->i<lo+l->kr rk (arrOf st2) i<=kr rk (arrOf st2) (lo+k):=fun i i1 i2=>by
     have:=b1 (i - lo) (by lia)
     rwa [show lo+(i - lo)=i by lia] at this
    have t2:∀ i,lo+l<=i->i<lo+k->kr rk (arrOf st2) (lo+k)<kr rk (arrOf st2) i:=fun i i1 i2=>by
     have:=b2 (i - lo) (by lia) (by lia)
     rwa [show lo+(i - lo)=i by lia] at this
    split
    ·split
     ·exact Int.le_refl _
     ·split
      ·exact Int.le_of_lt (t2 _ (by lia) (by lia))
      ·lia
    ·split
     ·split
      ·lia
      ·split
       ·exact o _ _ (by lia) (by lia) (by lia)
       ·lia
     ·split
      ·exact t1 _ hi (by lia)
      ·split
       ·exact o _ _ (by lia) (by lia) (by lia)
       ·exact o _ _ (by lia) (by lia) (by lia)
 ·obtain ⟨rfl,h',o⟩:=I
  rw [show min (max (max ok 1) n) n=n by lia] at o
  exact ⟨rfl,h',o⟩
 ·by_cases c:ok=0
  ·rw [show i=j by lia];exact Int.le_refl _
  ·exact ho i j hi hij (by lia)
 ·obtain ⟨rfl,h',o⟩:=I
  exact wpS_pure (q st' h' o)
end
noncomputable abbrev SM':=StateT SortSt Sem
noncomputable def gal (bey:Nat->SM' (Option Bool)) (n at0:Nat):SM' (Option Nat):=do
 let mut u:=0
 let mut o:=1
 let mut l:=0
 let mut h:=0
 let some b0 <-bey at0|return none
 if b0 then
  let z:=n - at0
  for _ in [0:n] do
   if o>=z then break
   let some b <-bey (at0+o)|return none
   if !b then break
   u:=o
   o:=2*o+1
  l:=at0+u+1
  h:=at0+min o z
 else
  let z:=at0+1
  for _ in [0:n] do
   if o>=z then break
   let some b <-bey (at0 - o)|return none
   if b then break
   u:=o
   o:=2*o+1
  l:=at0+1 - min o z
  h:=at0 - u
 for _ in [0:n] do
  if l>=h then break
  let m:=l+(h - l) / 2
  let some b <-bey m|return none
  if b then l:=m+1 else h:=m
 return some h
noncomputable def uf_:Bool->Keyed->Array Keyed->Nat->Nat->Nat->SM' (Option Nat):=sortPriv% PySem.Builtin.gallop
theorem UQ_ (left:Bool) (key:Keyed) (arr:Array Keyed) (base n at0:Nat):uf_ left key arr base n at0=gal (fun i=>do
  let x <-elem' arr (base+i)
  if left then lt' x key else return (<-lt' key x).map (!·)) n at0:=rfl
section
variable {prog:Program} {w:World} {A:Around} {E:Value->Shared->Prop} {s:Shared}
theorem WX_ {bey:Nat->SM' (Option Bool)} {B:Nat->Prop} [DecidablePred B] {n:Nat} {st:SortSt} {Q:Option (Option Nat)×Nat×Nat->SortSt->Prop} {l h:Nat}
  (hb:∀ i,i<n->∀ Q:Option Bool->SortSt->Prop,Q (some (decide (B i))) st->wpS (model prog w) A E s (bey i) Q st) (mono:∀ i j,i<=j->j<n->B j->B i)
  (lh:l<=h) (hn:h<=n) (b1:∀ i,i<l->B i) (b2:∀ i,h<=i->i<n->¬ B i) (q:∀ l k,k<=n->(∀ i,i<k->B i)->(∀ i,k<=i->i<n->¬ B i)->Q (none,l,k) st) :
  wpS (model prog w) A E s (forIn [0:n] ((none,l,h):Option (Option Nat)×Nat×Nat) fun _ c =>
   if c.snd.fst>=c.snd.snd then pure (ForInStep.done (none,c.snd.fst,c.snd.snd))
   else do
    match <-bey (c.snd.fst+(c.snd.snd - c.snd.fst) / 2) with
    | some b=>if b=true then pure (ForInStep.yield (none,c.snd.fst+(c.snd.snd - c.snd.fst) / 2+1,c.snd.snd)) else pure (ForInStep.yield (none,c.snd.fst,c.snd.fst+(c.snd.snd - c.snd.fst) / 2))
    | _=>pure (ForInStep.done (some none,c.snd.fst,c.snd.snd))) Q st:=by
 refine wpS_forRange (I:=fun x c st'=>st'=st/\∃ l h,c=(none,l,h)/\l<=h/\h<=n/\h - l<=n - x/\(∀ i,i<l->B i)/\(∀ i,h<=i->i<n->¬ B i)) (fun x c st' _ hx I=>?_) (fun c st' I=>?_) ⟨rfl,l,h,rfl,lh,hn,by omega,b1,b2⟩
 ·obtain ⟨rfl,l,h,rfl,lh,hn,sz,b1,b2⟩:=I
  dsimp only
  split
  ·exact wpS_pure (q l h hn (fun i hi=>b1 i (by omega)) b2)
  ·rename_i c
   refine wpS_bind (hb _ (by omega) _ ?_)
   by_cases d:B (l+(h - l) / 2)
   ·rw [decide_eq_true d]
    exact wpS_pure ⟨rfl,_,h,rfl,by omega,hn,by omega,fun i hi=>mono i _ (by omega) (by omega) d,b2⟩
   ·rw [decide_eq_false d]
    exact wpS_pure ⟨rfl,l,_,rfl,by omega,by omega,by omega,b1,fun i i1 i2 e=>d (mono _ i i1 i2 e)⟩
 ·obtain ⟨rfl,l,h,rfl,lh,hn,sz,b1,b2⟩:=I
  exact q l h hn (fun i hi=>b1 i (by omega)) b2
theorem zbV_ {bey:Nat->SM' (Option Bool)} {B:Nat->Prop} [DecidablePred B] {n at0:Nat} {st:SortSt} {Q:Option Nat->SortSt->Prop}
  (hb:∀ i,i<n->∀ Q:Option Bool->SortSt->Prop,Q (some (decide (B i))) st->wpS (model prog w) A E s (bey i) Q st) (mono:∀ i j,i<=j->j<n->B j->B i) (h0:at0<n)
  (q:∀ k,k<=n->(∀ i,i<k->B i)->(∀ i,k<=i->i<n->¬ B i)->Q (some k) st):wpS (model prog w) A E s (gal bey n at0) Q st:=by
 unfold gal
 dsimp only
 refine wpS_bind (hb at0 h0 _ ?_)
 by_cases d:B at0
 ·rw [decide_eq_true d]
  dsimp only
  rw [if_pos rfl]
  refine wpS_bind (wpS_mono (wpS_forRange (I:=fun x c st'=>st'=st/\∃ u o,c=(none,u,o)/\u<o/\x<o/\at0+u<n/\B (at0+u))
   (Q:=fun c st'=>st'=st/\∃ u o,c=(none,u,o)/\u<o/\at0+u<n/\B (at0+u)/\(at0+o<n->¬ B (at0+o))) (fun x c st' _ hx I=>?_) (fun c st' I=>?_) ⟨rfl,0,1,rfl,by omega,by omega,h0,d⟩) fun c st' I=>?_)
  ·obtain ⟨rfl,u,o,rfl,uo,xo,un,bu⟩:=I
   dsimp only
   split
   ·exact wpS_pure ⟨rfl,u,o,rfl,uo,un,bu,fun z=>by omega⟩
   ·rename_i c
    refine wpS_bind (hb _ (by omega) _ ?_)
    by_cases e:B (at0+o)
    ·rw [decide_eq_true e]
     exact wpS_pure ⟨rfl,o,2*o+1,rfl,by omega,by omega,by omega,e⟩
    ·rw [decide_eq_false e]
     exact wpS_pure ⟨rfl,u,o,rfl,uo,un,bu,fun _=>e⟩
  ·obtain ⟨rfl,u,o,rfl,uo,xo,un,bu⟩:=I
   exact ⟨rfl,u,o,rfl,uo,un,bu,fun z=>by omega⟩
  ·obtain ⟨rfl,u,o,rfl,uo,un,bu,bo⟩:=I
   dsimp only
   refine wpS_bind (WX_ hb mono (by omega) (by omega) (fun i hi=>mono i _ (by omega) un bu) (fun i i1 i2 e=>?_) fun l k k1 k2 k3=>wpS_pure (q k k1 k2 k3))
   by_cases z:at0+o<n
   ·exact bo z (mono _ i (by omega) i2 e)
   ·omega
 ·rw [decide_eq_false d]
  dsimp only
  rw [if_neg (by decide)]
  refine wpS_bind (wpS_mono (wpS_forRange (I:=fun x c st'=>st'=st/\∃ u o,c=(none,u,o)/\u<o/\x<o/\u<=at0/\¬ B (at0 - u))
   (Q:=fun c st'=>st'=st/\∃ u o,c=(none,u,o)/\u<o/\u<=at0/\¬ B (at0 - u)/\(o<=at0->B (at0 - o))) (fun x c st' _ hx I=>?_) (fun c st' I=>?_) ⟨rfl,0,1,rfl,by omega,by omega,by omega,d⟩) fun c st' I=>?_)
  ·obtain ⟨rfl,u,o,rfl,uo,xo,un,bu⟩:=I
   dsimp only
   split
   ·exact wpS_pure ⟨rfl,u,o,rfl,uo,un,bu,fun z=>by omega⟩
   ·rename_i c
    refine wpS_bind (hb _ (by omega) _ ?_)
    by_cases e:B (at0 - o)
    ·rw [decide_eq_true e]
     exact wpS_pure ⟨rfl,u,o,rfl,uo,un,bu,fun _=>e⟩
    ·rw [decide_eq_false e]
     exact wpS_pure ⟨rfl,o,2*o+1,rfl,by omega,by omega,by omega,e⟩
  ·obtain ⟨rfl,u,o,rfl,uo,xo,un,bu⟩:=I
   exact ⟨rfl,u,o,rfl,uo,un,bu,fun z=>by omega⟩
  ·obtain ⟨rfl,u,o,rfl,uo,un,bu,bo⟩:=I
   dsimp only
   refine wpS_bind (WX_ hb mono (by omega) (by omega) (fun i hi=>?_) (fun i i1 i2 e=>bu (mono _ i i1 i2 e)) fun l k k1 k2 k3=>wpS_pure (q k k1 k2 k3))
   by_cases z:o<=at0
   ·exact mono i _ (by omega) (by omega) (bo z)
   ·omega
variable {κ:SortKind} {rk:Value->Int} {a₀:Array Keyed}
theorem yM_ {key:Keyed} {arr:Array Keyed} {base n at0:Nat} {st:SortSt} {Q:Option Nat->SortSt->Prop} (hC:Cmps prog w A s κ rk a₀) (hk:kindOf st=κ) (hm:key∈a₀.toList) (hz:base+n<=arr.size) (ha:∀ p∈arr.toList,p∈a₀.toList)
  (ho:Asc rk arr base (base+n)) (h0:at0<n) (q:∀ k,k<=n->(∀ i,i<k->kr rk arr (base+i)<rk key.1)->(∀ i,k<=i->i<n->rk key.1<=kr rk arr (base+i))->Q (some k) st) :
  wpS (model prog w) A E s (uf_ true key arr base n at0) Q st:=by
 rw [UQ_]
 refine zbV_ (B:=fun i=>kr rk arr (base+i)<rk key.1) (fun i hi Q q=>?_) (fun i j ij jn b=>?_) h0 fun k k1 k2 k3=>q k k1 k2 fun i i1 i2=>Int.not_lt.mp (k3 i i1 i2)
 ·have e:arr[base+i]? = some (arr[base+i]'(by omega)):=Array.getElem?_eq_getElem _
  refine wpS_bind (js_ e ?_)
  rw [if_pos rfl]
  refine Wy_ hC hk (ha _ (by simp)) hm ?_
  rw [jh_ e] at q
  exact q
 ·have:=ho (base+i) (base+j) (by omega) (by omega) (by omega)
  omega
theorem yL_ {key:Keyed} {arr:Array Keyed} {base n at0:Nat} {st:SortSt} {Q:Option Nat->SortSt->Prop} (hC:Cmps prog w A s κ rk a₀) (hk:kindOf st=κ) (hm:key∈a₀.toList) (hz:base+n<=arr.size) (ha:∀ p∈arr.toList,p∈a₀.toList)
  (ho:Asc rk arr base (base+n)) (h0:at0<n) (q:∀ k,k<=n->(∀ i,i<k->kr rk arr (base+i)<=rk key.1)->(∀ i,k<=i->i<n->rk key.1<kr rk arr (base+i))->Q (some k) st) :
  wpS (model prog w) A E s (uf_ false key arr base n at0) Q st:=by
 rw [UQ_]
 refine zbV_ (B:=fun i=>¬ rk key.1<kr rk arr (base+i)) (fun i hi Q q=>?_) (fun i j ij jn b=>?_) h0 fun k k1 k2 k3=>q k k1 (fun i hi=>Int.not_lt.mp (k2 i hi)) fun i i1 i2=>Classical.not_not.mp (k3 i i1 i2)
 ·have e:arr[base+i]? = some (arr[base+i]'(by omega)):=Array.getElem?_eq_getElem _
  refine wpS_bind (js_ e ?_)
  rw [if_neg (by decide)]
  refine wpS_bind (Wy_ hC hk hm (ha _ (by simp)) (wpS_pure ?_))
  rw [jh_ e] at q
  have e2:(some (decide (rk key.1<rk (arr[base+i]'(by omega)).1))).map (!·)=some (decide (¬ rk key.1<rk (arr[base+i]'(by omega)).1)):=by
   generalize rk (arr[base+i]'(by omega)).1=x
   rw [Option.map_some]
   congr 1
   by_cases c:rk key.1<x
   ·rw [decide_eq_true c,decide_eq_false (fun z=>z c)];rfl
   ·rw [decide_eq_false c,decide_eq_true c];rfl
  rw [e2]
  exact q
 ·have:=ho (base+i) (base+j) (by omega) (by omega) (by omega)
  omega
end
noncomputable def setG:Nat->SM' Unit:=sortPriv% PySem.Builtin.setMinGallop
theorem zcu_ (g:Nat):setG g=modify fun c=>SortSt.mk' (kindOf c) (arrOf c) (pendingOf c) g (failedOf c):=rfl
noncomputable def JW_:Array Keyed->Array Keyed->SM' (Array Keyed):=sortPriv% PySem.Builtin.mergeLo
noncomputable def JX_:Array Keyed->Array Keyed->SM' (Array Keyed):=sortPriv% PySem.Builtin.mergeHi
noncomputable abbrev W1:=Option (Array Keyed)×Array Keyed×Nat×Nat×Nat×Nat
noncomputable abbrev W2:=Option (Array Keyed)×Array Keyed×Nat×Nat×Nat×Nat×Nat
noncomputable abbrev W0:=Option (Array Keyed)×Array Keyed×Nat×Nat×Nat
section
variable (a b:Array Keyed)
noncomputable def fA (out:Array Keyed) (i j:Nat):Array Keyed:=out++a.extract i a.size++b.extract j b.size
noncomputable def fB (out:Array Keyed) (i j:Nat):Array Keyed:=out++b.extract j b.size++a.extract i a.size
noncomputable def lS (g:Nat) (out:Array Keyed) (i j p q:Nat):SM' (ForInStep W1):=do
 let x <-elem' b j
 let y <-elem' a i
 match <-lt' x y with
 | some t =>
  if t=true then do
   let x <-elem' b j
   if (j+1==b.size)=true then pure (.done (some (fA a b (out.push x) i (j+1)),out.push x,i,j+1,0,q+1))
   else if q+1>=g then pure (.done (none,out.push x,i,j+1,0,q+1))
   else pure (.yield (none,out.push x,i,j+1,0,q+1))
  else do
   let y <-elem' a i
   if (i+1+1==a.size)=true then pure (.done (some (fB a b (out.push y) (i+1) j),out.push y,i+1,j,p+1,0))
   else if p+1>=g then pure (.done (none,out.push y,i+1,j,p+1,0))
   else pure (.yield (none,out.push y,i+1,j,p+1,0))
 | _=>pure (.done (some (fA a b out i j),out,i,j,p,q))
noncomputable def l3 (out:Array Keyed) (i j g p q:Nat):SM' (ForInStep W2):=do
 let y <-elem' a i
 if (i+1+1==a.size)=true then pure (.done (some (fB a b (out.push y) (i+1) j),out.push y,i+1,j,g,p,q))
 else if (decide (p<7)&&decide (q<7))=true then pure (.done (none,out.push y,i+1,j,g,p,q))
 else pure (.yield (none,out.push y,i+1,j,g,p,q))
noncomputable def l2 (out:Array Keyed) (i j g p q:Nat):SM' (ForInStep W2):=do
 let y <-elem' a i
 match <-uf_ true y b j (b.size - j) 0 with
 | some k =>
  if k>0 then
   if (j+k==b.size)=true then pure (.done (some (fA a b (out++b.extract j (j+k)) i (j+k)),out++b.extract j (j+k),i,j+k,g,p,k))
   else l3 a b (out++b.extract j (j+k)) i (j+k) g p k
  else l3 a b out i j g p k
 | _=>pure (.done (some (fA a b out i j),out,i,j,g,p,q))
noncomputable def l1 (out:Array Keyed) (i j g p q:Nat):SM' (ForInStep W2):=do
 let x <-elem' b j
 if (j+1==b.size)=true then pure (.done (some (fA a b (out.push x) i (j+1)),out.push x,i,j+1,g,p,q))
 else l2 a b (out.push x) i (j+1) g p q
noncomputable def l0 (out:Array Keyed) (i j g p q:Nat):SM' (ForInStep W2):=do
 setG g
 let x <-elem' b j
 match <-uf_ false x a i (a.size - i) 0 with
 | some k =>
  if k>0 then
   if (i+k+1==a.size)=true then pure (.done (some (fB a b (out++a.extract i (i+k)) (i+k) j),out++a.extract i (i+k),i+k,j,g,k,q))
   else if (i+k==a.size)=true then pure (.done (some (fA a b (out++a.extract i (i+k)) (i+k) j),out++a.extract i (i+k),i+k,j,g,k,q))
   else l1 a b (out++a.extract i (i+k)) (i+k) j g k q
  else l1 a b out i j g k q
 | _=>pure (.done (some (fA a b out i j),out,i,j,g,p,q))
noncomputable def lT (out:Array Keyed) (i j g:Nat):SM' (ForInStep W0):=do
 let c <-forIn [0:a.size+b.size] ((none,out,i,j,0,0):W1) fun _ c=>lS a b g c.2.1 c.2.2.1 c.2.2.2.1 c.2.2.2.2.1 c.2.2.2.2.2
 match c.1 with
 | some r=>pure (.done (some r,c.2.1,c.2.2.1,c.2.2.2.1,g))
 | none=>do
  liftM (rule "list.sort.gallop")
  let d <-forIn [0:a.size+b.size] ((none,c.2.1,c.2.2.1,c.2.2.2.1,g+1,c.2.2.2.2.1,c.2.2.2.2.2):W2) fun _ c =>
   if c.2.2.2.2.1>1 then l0 a b c.2.1 c.2.2.1 c.2.2.2.1 (c.2.2.2.2.1 - 1) c.2.2.2.2.2.1 c.2.2.2.2.2.2
   else l0 a b c.2.1 c.2.2.1 c.2.2.2.1 c.2.2.2.2.1 c.2.2.2.2.2.1 c.2.2.2.2.2.2
  match d.1 with
  | some r=>pure (.done (some r,d.2.1,d.2.2.1,d.2.2.2.1,d.2.2.2.2.1))
  | none=>do
   setG (d.2.2.2.2.1+1)
   pure (.yield (none,d.2.1,d.2.2.1,d.2.2.2.1,d.2.2.2.2.1+1))
theorem Q5_:JW_ a b=(do
  liftM (rule "list.sort.merge-lo")
  let x <-elem' b 0
  if (1==b.size)=true then pure (fA a b #[x] 0 1)
  else if (0+1==a.size)=true then pure (fB a b #[x] 0 1)
  else do
   let st <-get
   let c <-forIn [0:a.size+b.size] ((none,#[x],0,1,gallopOf st):W0) fun _ c=>lT a b c.2.1 c.2.2.1 c.2.2.2.1 c.2.2.2.2
   match c.1 with
   | some r=>pure r
   | none=>liftM (unsupported "internal:list.sort.merge-bound" : Sem (Array Keyed))):=by
 kernel_rfl
noncomputable def hA (out:Array Keyed) (i j:Nat):Array Keyed:=a.extract 0 i++b.extract 0 j++out.reverse
noncomputable def hB (out:Array Keyed) (i j:Nat):Array Keyed:=b.extract 0 j++a.extract 0 i++out.reverse
noncomputable abbrev V1:=Option (Array Keyed)×Nat×Nat×Array Keyed×Nat×Nat
noncomputable abbrev V2:=Option (Array Keyed)×Nat×Nat×Array Keyed×Nat×Nat×Nat
noncomputable abbrev V0:=Option (Array Keyed)×Nat×Nat×Array Keyed×Nat
noncomputable def hS (g:Nat) (i j:Nat) (out:Array Keyed) (p q:Nat):SM' (ForInStep V1):=do
 let x <-elem' b (j - 1)
 let y <-elem' a (i - 1)
 match <-lt' x y with
 | some t =>
  if t=true then do
   let y <-elem' a (i - 1)
   if (i - 1==0)=true then pure (.done (some (hA a b (out.push y) (i - 1) j),i - 1,j,out.push y,p+1,0))
   else if p+1>=g then pure (.done (none,i - 1,j,out.push y,p+1,0))
   else pure (.yield (none,i - 1,j,out.push y,p+1,0))
  else do
   let x <-elem' b (j - 1)
   if (j - 1==1)=true then pure (.done (some (hB a b (out.push x) i (j - 1)),i,j - 1,out.push x,0,q+1))
   else if q+1>=g then pure (.done (none,i,j - 1,out.push x,0,q+1))
   else pure (.yield (none,i,j - 1,out.push x,0,q+1))
 | _=>pure (.done (some (hA a b out i j),i,j,out,p,q))
noncomputable def h3 (i j:Nat) (out:Array Keyed) (g p q:Nat):SM' (ForInStep V2):=do
 let y <-elem' a (i - 1)
 if (i - 1==0)=true then pure (.done (some (hA a b (out.push y) (i - 1) j),i - 1,j,out.push y,g,p,q))
 else if (decide (p<7)&&decide (q<7))=true then pure (.done (none,i - 1,j,out.push y,g,p,q))
 else pure (.yield (none,i - 1,j,out.push y,g,p,q))
noncomputable def h2 (i j:Nat) (out:Array Keyed) (g p q:Nat):SM' (ForInStep V2):=do
 let y <-elem' a (i - 1)
 match <-uf_ true y b 0 j (j - 1) with
 | some x =>
  if j - x>0 then
   if (x==1)=true then pure (.done (some (hB a b (out++(b.extract x j).reverse) i x),i,x,out++(b.extract x j).reverse,g,p,j - x))
   else if (x==0)=true then pure (.done (some (hA a b (out++(b.extract x j).reverse) i x),i,x,out++(b.extract x j).reverse,g,p,j - x))
   else h3 a b i x (out++(b.extract x j).reverse) g p (j - x)
  else h3 a b i j out g p (j - x)
 | _=>pure (.done (some (hA a b out i j),i,j,out,g,p,q))
noncomputable def h1 (i j:Nat) (out:Array Keyed) (g p q:Nat):SM' (ForInStep V2):=do
 let x <-elem' b (j - 1)
 if (j - 1==1)=true then pure (.done (some (hB a b (out.push x) i (j - 1)),i,j - 1,out.push x,g,p,q))
 else h2 a b i (j - 1) (out.push x) g p q
noncomputable def h0 (i j:Nat) (out:Array Keyed) (g p q:Nat):SM' (ForInStep V2):=do
 setG g
 let x <-elem' b (j - 1)
 match <-uf_ false x a 0 i (i - 1) with
 | some x =>
  if i - x>0 then
   if (x==0)=true then pure (.done (some (hA a b (out++(a.extract x i).reverse) x j),x,j,out++(a.extract x i).reverse,g,i - x,q))
   else h1 a b x j (out++(a.extract x i).reverse) g (i - x) q
  else h1 a b i j out g (i - x) q
 | _=>pure (.done (some (hA a b out i j),i,j,out,g,p,q))
noncomputable def hT (i j:Nat) (out:Array Keyed) (g:Nat):SM' (ForInStep V0):=do
 let c <-forIn [0:a.size+b.size] ((none,i,j,out,0,0):V1) fun _ c=>hS a b g c.2.1 c.2.2.1 c.2.2.2.1 c.2.2.2.2.1 c.2.2.2.2.2
 match c.1 with
 | some r=>pure (.done (some r,c.2.1,c.2.2.1,c.2.2.2.1,g))
 | none=>do
  liftM (rule "list.sort.gallop")
  let d <-forIn [0:a.size+b.size] ((none,c.2.1,c.2.2.1,c.2.2.2.1,g+1,c.2.2.2.2.1,c.2.2.2.2.2):V2) fun _ c =>
   if c.2.2.2.2.1>1 then h0 a b c.2.1 c.2.2.1 c.2.2.2.1 (c.2.2.2.2.1 - 1) c.2.2.2.2.2.1 c.2.2.2.2.2.2
   else h0 a b c.2.1 c.2.2.1 c.2.2.2.1 c.2.2.2.2.1 c.2.2.2.2.2.1 c.2.2.2.2.2.2
  match d.1 with
  | some r=>pure (.done (some r,d.2.1,d.2.2.1,d.2.2.2.1,d.2.2.2.2.1))
  | none=>do
   setG (d.2.2.2.2.1+1)
   pure (.yield (none,d.2.1,d.2.2.1,d.2.2.2.1,d.2.2.2.2.1+1))
theorem Q7_:JX_ a b=(do
  liftM (rule "list.sort.merge-hi")
  let x <-elem' a (a.size - 1)
  if (a.size - 1==0)=true then pure (hA a b #[x] (a.size - 1) b.size)
  else if (b.size==1)=true then pure (hB a b #[x] (a.size - 1) b.size)
  else do
   let st <-get
   let c <-forIn [0:a.size+b.size] ((none,a.size - 1,b.size,#[x],gallopOf st):V0) fun _ c=>hT a b c.2.1 c.2.2.1 c.2.2.2.1 c.2.2.2.2
   match c.1 with
   | some r=>pure r
   | none=>liftM (unsupported "internal:list.sort.merge-bound" : Sem (Array Keyed))):=by
 kernel_rfl
end
section
variable {rk:Value->Int}
abbrev Le (rk:Value->Int) (x y:Keyed):Prop:=rk x.1<=rk y.1
structure Gd (rk:Value->Int) (T O A B:List Keyed):Prop where
 so:O.Pairwise (Le rk)
 sa:A.Pairwise (Le rk)
 sb:B.Pairwise (Le rk)
 ah:∀ x∈O,∀ y,y∈A\/y∈B->Le rk x y
 pm:(O++(A++B)).Perm T
def Srt (rk:Value->Int) (T r:List Keyed):Prop:=r.Pairwise (Le rk)/\r.Perm T
theorem Gd.a {T O S A B:List Keyed} (h:Gd rk T O (S++A) B) (hs:∀ x∈S,∀ y∈B,Le rk x y):Gd rk T (O++S) A B:=by
 have sa:=List.pairwise_append.mp h.sa
 refine ⟨List.pairwise_append.mpr ⟨h.so,sa.1,fun x hx y hy=>h.ah x hx y (.inl (List.mem_append_left _ hy))⟩,sa.2.1,h.sb,fun x hx y hy=>?_,by simpa [List.append_assoc] using h.pm⟩
 rcases List.mem_append.mp hx with hx|hx
 ·exact h.ah x hx y (hy.imp (List.mem_append_right _) id)
 ·rcases hy with hy|hy
  ·exact sa.2.2 x hx y hy
  ·exact hs x hx y hy
theorem Gd.flip {T O A B:List Keyed} (h:Gd rk T O A B):Gd rk T O B A :=
 ⟨h.so,h.sb,h.sa,fun x hx y hy=>h.ah x hx y hy.symm,((List.perm_append_comm (l₁:=B)).append_left O).trans h.pm⟩
theorem Gd.b {T O S A B:List Keyed} (h:Gd rk T O A (S++B)) (hs:∀ x∈S,∀ y∈A,Le rk x y):Gd rk T (O++S) A B:=(h.flip.a hs).flip
theorem Gd.fa {T O A B:List Keyed} (h:Gd rk T O A B) (hs:∀ x∈A,∀ y∈B,Le rk x y):Srt rk T (O++A++B):=by
 refine ⟨?_,by rw [List.append_assoc];exact h.pm⟩
 rw [List.append_assoc]
 exact List.pairwise_append.mpr ⟨h.so,List.pairwise_append.mpr ⟨h.sa,h.sb,hs⟩,fun x hx y hy=>h.ah x hx y (List.mem_append.mp hy)⟩
theorem Gd.fb {T O A B:List Keyed} (h:Gd rk T O A B) (hs:∀ x∈B,∀ y∈A,Le rk x y):Srt rk T (O++B++A):=h.flip.fa hs
abbrev Ga (rk:Value->Int) (T:List Keyed) (a b out:Array Keyed) (i j:Nat):Prop:=Gd rk T out.toList (a.toList.drop i) (b.toList.drop j)
theorem zdF_ {a:Array Keyed} {i:Nat} (h:i<a.size):a.toList.drop i=[a[i]]++a.toList.drop (i+1):=by
 rw [List.drop_eq_getElem_cons (by simpa using h)]
 simp
theorem zaY_ {a:Array Keyed} {i k:Nat}:a.toList.drop i=(a.extract i (i+k)).toList++a.toList.drop (i+k):=by
 rw [Array.toList_extract,List.extract_eq_take_drop,Nat.add_sub_cancel_left,<-List.drop_drop,List.take_append_drop]
theorem Zn_ {a:Array Keyed} {i:Nat} {x:Keyed} (h:x∈a.toList.drop i):∃ t,i<=t/\t<a.size/\kr rk a t=rk x.1:=by
 obtain ⟨n,hn,e⟩:=List.mem_iff_getElem.mp h
 have hl:i+n<a.size:=by
  rw [List.length_drop] at hn
  have:a.toList.length=a.size:=Array.length_toList
  lia
 refine ⟨i+n,by lia,hl,jh_ ?_⟩
 rw [List.getElem_drop] at e
 rw [Array.getElem?_eq_getElem hl,<-e]
 simp
theorem zdj_ {a:Array Keyed} {i k:Nat} {x:Keyed} (h:x∈(a.extract i (i+k)).toList):∃ t,i<=t/\t<i+k/\t<a.size/\kr rk a t=rk x.1:=by
 obtain ⟨n,hn,e⟩:=List.mem_iff_getElem.mp h
 have hn':n<(a.extract i (i+k)).size:=by rw [<-Array.length_toList];exact hn
 rw [Array.size_extract] at hn'
 refine ⟨i+n,by lia,by lia,by lia,jh_ ?_⟩
 rw [Array.getElem?_eq_getElem (by lia),<-e]
 simp
theorem uO_ {a:Array Keyed} (h:Asc rk a 0 a.size):a.toList.Pairwise (Le rk):=by
 rw [List.pairwise_iff_getElem]
 intro i j hi hj hij
 have hi':i<a.size:=by simpa using hi
 have hj':j<a.size:=by simpa using hj
 have:=h i j (Nat.zero_le _) (Nat.le_of_lt hij) hj'
 rw [jh_ (Array.getElem?_eq_getElem hi'),jh_ (Array.getElem?_eq_getElem hj')] at this
 simpa using this
theorem YT_ (a b out:Array Keyed) (i j:Nat):(fA a b out i j).toList=out.toList++a.toList.drop i++b.toList.drop j:=by
 unfold fA
 rw [Array.toList_append,Array.toList_append,Array.toList_extract,Array.toList_extract,List.extract_eq_take_drop,List.extract_eq_take_drop,List.take_of_length_le (by simp),List.take_of_length_le (by simp)]
theorem zdD_ (a b out:Array Keyed) (i j:Nat):(fB a b out i j).toList=out.toList++b.toList.drop j++a.toList.drop i:=YT_ b a out j i
end
section
variable {prog:Program} {w:World} {A:Around} {E:Value->Shared->Prop} {s:Shared} {κ:SortKind} {rk:Value->Int} {a₀:Array Keyed}
structure Two (rk:Value->Int) (a₀ a b:Array Keyed):Prop where
 sa:Asc rk a 0 a.size
 sb:Asc rk b 0 b.size
 ma:∀ p∈a.toList,p∈a₀.toList
 mb:∀ p∈b.toList,p∈a₀.toList
 na:1<=a.size
 nb:1<=b.size
 lo:∀ i,i<a.size->kr rk b 0<=kr rk a i
 hi:∀ j,j<b.size->kr rk b j<=kr rk a (a.size - 1)
structure S0 (κ:SortKind) (X:Array Keyed) (P:Runs) (st:SortSt):Prop where
 kd:kindOf st=κ
 ar:arrOf st=X
 pe:pendingOf st=P
 fl:failedOf st=none
variable {a b X:Array Keyed} {P:Runs}
structure Mid (rk:Value->Int) (a b out:Array Keyed) (i j:Nat):Prop where
 g:Ga rk (a.toList++b.toList) a b out i j
 hi:i+2<=a.size
 hj:j+1<=b.size
def Res (κ:SortKind) (rk:Value->Int) (a b X:Array Keyed) (P:Runs) (r:Array Keyed) (st:SortSt):Prop:=S0 κ X P st/\Srt rk (a.toList++b.toList) r.toList
theorem Ga.pb {T:List Keyed} {out:Array Keyed} {i j:Nat} (g:Ga rk T a b out i j) (hj:j<b.size) (h:∀ t,i<=t->t<a.size->kr rk b j<=kr rk a t):Ga rk T a b (out.push b[j]) i (j+1):=by
 have g':Gd rk T out.toList (a.toList.drop i) (b.toList.drop j):=g
 rw [zdF_ hj] at g'
 show Gd rk T (out.push b[j]).toList _ _
 rw [Array.toList_push]
 refine g'.b fun x hx y hy=>?_
 obtain ⟨t,t1,t2,e⟩:=Zn_ (rk:=rk) hy
 rw [List.mem_singleton.mp hx]
 have:=h t t1 t2
 rw [e,jh_ (Array.getElem?_eq_getElem hj)] at this
 exact this
theorem Ga.pa {T:List Keyed} {out:Array Keyed} {i j:Nat} (g:Ga rk T a b out i j) (hi:i<a.size) (h:∀ t,j<=t->t<b.size->kr rk a i<=kr rk b t):Ga rk T a b (out.push a[i]) (i+1) j :=
 Gd.flip (Ga.pb (a:=b) (b:=a) (i:=j) (j:=i) (Gd.flip g) hi h)
theorem Ga.eb {T:List Keyed} {out:Array Keyed} {i j k:Nat} (g:Ga rk T a b out i j) (h:∀ t u,j<=t->t<j+k->i<=u->u<a.size->kr rk b t<=kr rk a u):Ga rk T a b (out++b.extract j (j+k)) i (j+k):=by
 have g':Gd rk T out.toList (a.toList.drop i) (b.toList.drop j):=g
 rw [zaY_ (a:=b) (i:=j) (k:=k)] at g'
 show Gd rk T (out++b.extract j (j+k)).toList _ _
 rw [Array.toList_append]
 refine g'.b fun x hx y hy=>?_
 obtain ⟨t,t1,t2,_,e⟩:=zdj_ (rk:=rk) hx
 obtain ⟨u,u1,u2,e2⟩:=Zn_ (rk:=rk) hy
 have:=h t u t1 t2 u1 u2
 rw [e,e2] at this
 exact this
theorem Ga.ea {T:List Keyed} {out:Array Keyed} {i j k:Nat} (g:Ga rk T a b out i j) (h:∀ t u,i<=t->t<i+k->j<=u->u<b.size->kr rk a t<=kr rk b u):Ga rk T a b (out++a.extract i (i+k)) (i+k) j :=
 Gd.flip (Ga.eb (a:=b) (b:=a) (i:=j) (j:=i) (Gd.flip g) h)
theorem Ga.eB {T:List Keyed} {out:Array Keyed} {i j:Nat} (g:Ga rk T a b out i j) (hj:b.size<=j):Srt rk T (fA a b out i j).toList:=by
 rw [YT_]
 refine Gd.fa g fun x _ y hy=>?_
 rw [List.drop_eq_nil_of_le (by simpa using hj)] at hy
 cases hy
theorem Ga.eA {T:List Keyed} {out:Array Keyed} {i j:Nat} (g:Ga rk T a b out i j) (hi:a.size<=i):Srt rk T (fA a b out i j).toList:=by
 rw [YT_]
 refine Gd.fa g fun x hx y _=>?_
 rw [List.drop_eq_nil_of_le (by simpa using hi)] at hx
 cases hx
theorem Ga.eL {T:List Keyed} {out:Array Keyed} {i j:Nat} (g:Ga rk T a b out i j) (tw:Two rk a₀ a b) (hi:i+1=a.size):Srt rk T (fB a b out i j).toList:=by
 rw [zdD_]
 refine Gd.fb g fun x hx y hy=>?_
 obtain ⟨t,t1,t2,e⟩:=Zn_ (rk:=rk) hx
 obtain ⟨u,u1,u2,e2⟩:=Zn_ (rk:=rk) hy
 have:=tw.hi t t2
 rw [e,show a.size - 1=u by lia,e2] at this
 exact this
theorem JG_ {g:Nat} {st:SortSt} {Q:Unit->SortSt->Prop} (h:S0 κ X P st) (q:∀ st',S0 κ X P st'->Q () st'):wpS (model prog w) A E s (setG g) Q st:=by
 rw [zcu_]
 exact wpS_modify (q _ ⟨h.kd,h.ar,h.pe,h.fl⟩)
theorem zhn_ {g:Nat} {out:Array Keyed} {i j p q:Nat} {st:SortSt} {Q:ForInStep W1->SortSt->Prop} (hC:Cmps prog w A s κ rk a₀) (tw:Two rk a₀ a b) (h:S0 κ X P st) (m:Mid rk a b out i j)
  (q1:∀ r o i j p q,Res κ rk a b X P r st->Q (.done (some r,o,i,j,p,q)) st) (q2:∀ o i' j' p q,Mid rk a b o i' j'->i'+j'=i+j+1->Q (.done (none,o,i',j',p,q)) st/\Q (.yield (none,o,i',j',p,q)) st) :
  wpS (model prog w) A E s (lS a b g out i j p q) Q st:=by
 have hi:=m.hi
 have hj:=m.hj
 have ea:a[i]? = some (a[i]'(by lia)):=Array.getElem?_eq_getElem _
 have eb:b[j]? = some (b[j]'(by lia)):=Array.getElem?_eq_getElem _
 unfold lS
 refine wpS_bind (js_ eb (wpS_bind (js_ ea (wpS_bind (Wy_ hC h.kd (tw.mb _ (by simp)) (tw.ma _ (by simp)) ?_)))))
 by_cases c:rk (b[j]'(by lia)).1<rk (a[i]'(by lia)).1
 ·rw [decide_eq_true c]
  dsimp only
  rw [if_pos rfl]
  have g':=Ga.pb m.g (show j<b.size by lia) fun t t1 t2=>by
   have:=tw.sa i t (Nat.zero_le _) t1 t2
   rw [jh_ ea] at this
   rw [jh_ eb]
   lia
  refine wpS_bind (js_ eb ?_)
  split
  ·rename_i z
   have z':j+1=b.size:=by simpa using z
   exact wpS_pure (q1 _ _ _ _ _ _ ⟨h,g'.eB (by lia)⟩)
  ·rename_i z
   have z':j+1≠b.size:=by simpa using z
   have:=q2 (out.push (b[j]'(by lia))) i (j+1) 0 (q+1) ⟨g',hi,by lia⟩ (by lia)
   split
   ·exact wpS_pure this.1
   ·exact wpS_pure this.2
 ·rw [decide_eq_false c]
  dsimp only
  rw [if_neg (by decide)]
  have g':=Ga.pa m.g (show i<a.size by lia) fun t t1 t2=>by
   have:=tw.sb j t (Nat.zero_le _) t1 t2
   rw [jh_ eb] at this
   rw [jh_ ea]
   lia
  refine wpS_bind (js_ ea ?_)
  split
  ·rename_i z
   have z':i+1+1=a.size:=by simpa using z
   exact wpS_pure (q1 _ _ _ _ _ _ ⟨h,g'.eL tw z'⟩)
  ·rename_i z
   have z':i+1+1≠a.size:=by simpa using z
   have:=q2 (out.push (a[i]'(by lia))) (i+1) j (p+1) 0 ⟨g',by lia,hj⟩ (by lia)
   split
   ·exact wpS_pure this.1
   ·exact wpS_pure this.2
end
section
variable {prog:Program} {w:World} {A:Around} {E:Value->Shared->Prop} {s:Shared} {κ:SortKind} {rk:Value->Int} {a₀ a b X:Array Keyed} {P:Runs}
structure Lp (κ:SortKind) (rk:Value->Int) (a b X:Array Keyed) (P:Runs) (n:Nat) (Q:ForInStep W2->SortSt->Prop):Prop where
 r:∀ r o i j g p q st,Res κ rk a b X P r st->Q (.done (some r,o,i,j,g,p,q)) st
 d:∀ o i j g p q st,Mid rk a b o i j->n<=i+j->S0 κ X P st->Q (.done (none,o,i,j,g,p,q)) st
 y:∀ o i j g p q st,Mid rk a b o i j->n<=i+j->S0 κ X P st->Q (.yield (none,o,i,j,g,p,q)) st
theorem zfG_ {out:Array Keyed} {i j g p q n:Nat} {st:SortSt} {Q:ForInStep W2->SortSt->Prop} (tw:Two rk a₀ a b) (h:S0 κ X P st) (m:Mid rk a b out i j) (hn:n<=i+j) (ha:∀ t,j<=t->t<b.size->kr rk a i<=kr rk b t) (L:Lp κ rk a b X P n Q) :
  wpS (model prog w) A E s (l3 a b out i j g p q) Q st:=by
 have hi:=m.hi
 have hj:=m.hj
 have ea:a[i]? = some (a[i]'(by lia)):=Array.getElem?_eq_getElem _
 unfold l3
 have g':=Ga.pa m.g (show i<a.size by lia) ha
 refine wpS_bind (js_ ea ?_)
 split
 ·rename_i z
  have z':i+1+1=a.size:=by simpa using z
  exact wpS_pure (L.r _ _ _ _ _ _ _ _ ⟨h,g'.eL tw z'⟩)
 ·rename_i z
  have z':i+1+1≠a.size:=by simpa using z
  split
  ·exact wpS_pure (L.d _ _ _ _ _ _ _ ⟨g',by lia,hj⟩ (by lia) h)
  ·exact wpS_pure (L.y _ _ _ _ _ _ _ ⟨g',by lia,hj⟩ (by lia) h)
theorem zho_ {out:Array Keyed} {i j g p q n:Nat} {st:SortSt} {Q:ForInStep W2->SortSt->Prop} (hC:Cmps prog w A s κ rk a₀) (tw:Two rk a₀ a b) (h:S0 κ X P st) (m:Mid rk a b out i j) (hn:n<=i+j) (L:Lp κ rk a b X P n Q) :
  wpS (model prog w) A E s (l2 a b out i j g p q) Q st:=by
 have hi:=m.hi
 have hj:=m.hj
 have ea:a[i]? = some (a[i]'(by lia)):=Array.getElem?_eq_getElem _
 unfold l2
 refine wpS_bind (js_ ea (wpS_bind (yM_ hC h.kd (tw.ma _ (by simp)) (by lia) tw.mb (fun x y hx hxy hy=>tw.sb x y (Nat.zero_le _) hxy (by lia)) (by lia) fun k k1 k2 k3=>?_)))
 rw [<-jh_ (rk:=rk) ea] at k2 k3
 have rest:∀ t,j+k<=t->t<b.size->kr rk a i<=kr rk b t:=fun t t1 t2=>by
  have:=k3 (t - j) (by lia) (by lia)
  rwa [show j+(t - j)=t by lia] at this
 dsimp only
 split
 ·have g':=Ga.eb (k:=k) m.g fun t u t1 t2 u1 u2=>by
   have h1:=k2 (t - j) (by lia)
   rw [show j+(t - j)=t by lia] at h1
   have h2:=tw.sa i u (Nat.zero_le _) u1 u2
   lia
  split
  ·rename_i z
   have z':j+k=b.size:=by simpa using z
   exact wpS_pure (L.r _ _ _ _ _ _ _ _ ⟨h,g'.eB (by lia)⟩)
  ·rename_i z
   have z':j+k≠b.size:=by simpa using z
   exact zfG_ tw h ⟨g',hi,by lia⟩ (by lia) rest L
 ·have k0:k=0:=by lia
  subst k0
  exact zfG_ tw h m hn (fun t t1 t2=>rest t (by lia) t2) L
theorem zfH_ {out:Array Keyed} {i j g p q n:Nat} {st:SortSt} {Q:ForInStep W2->SortSt->Prop} (hC:Cmps prog w A s κ rk a₀) (tw:Two rk a₀ a b) (h:S0 κ X P st) (m:Mid rk a b out i j) (hn:n<=i+j) (hb:∀ t,i<=t->t<a.size->kr rk b j<=kr rk a t) (L:Lp κ rk a b X P n Q) :
  wpS (model prog w) A E s (l1 a b out i j g p q) Q st:=by
 have hi:=m.hi
 have hj:=m.hj
 have eb:b[j]? = some (b[j]'(by lia)):=Array.getElem?_eq_getElem _
 unfold l1
 have g':=Ga.pb m.g (show j<b.size by lia) hb
 refine wpS_bind (js_ eb ?_)
 split
 ·rename_i z
  have z':j+1=b.size:=by simpa using z
  exact wpS_pure (L.r _ _ _ _ _ _ _ _ ⟨h,g'.eB (by lia)⟩)
 ·rename_i z
  have z':j+1≠b.size:=by simpa using z
  exact zho_ hC tw h ⟨g',hi,by lia⟩ (by lia) L
theorem zfI_ {out:Array Keyed} {i j g p q n:Nat} {st:SortSt} {Q:ForInStep W2->SortSt->Prop} (hC:Cmps prog w A s κ rk a₀) (tw:Two rk a₀ a b) (h:S0 κ X P st) (m:Mid rk a b out i j) (hn:n<=i+j) (L:Lp κ rk a b X P n Q) :
  wpS (model prog w) A E s (l0 a b out i j g p q) Q st:=by
 have hi:=m.hi
 have hj:=m.hj
 have eb:b[j]? = some (b[j]'(by lia)):=Array.getElem?_eq_getElem _
 unfold l0
 refine wpS_bind (JG_ h fun st' h'=>?_)
 refine wpS_bind (js_ eb (wpS_bind (yL_ hC h'.kd (tw.mb _ (by simp)) (by lia) tw.ma (fun x y hx hxy hy=>tw.sa x y (Nat.zero_le _) hxy (by lia)) (by lia) fun k k1 k2 k3=>?_)))
 rw [<-jh_ (rk:=rk) eb] at k2 k3
 have rest:∀ t,i+k<=t->t<a.size->kr rk b j<=kr rk a t:=fun t t1 t2=>by
  have:=k3 (t - i) (by lia) (by lia)
  rw [show i+(t - i)=t by lia] at this
  lia
 dsimp only
 split
 ·have g':=Ga.ea (k:=k) m.g fun t u t1 t2 u1 u2=>by
   have h1:=k2 (t - i) (by lia)
   rw [show i+(t - i)=t by lia] at h1
   have h2:=tw.sb j u (Nat.zero_le _) u1 u2
   lia
  split
  ·rename_i z
   have z':i+k+1=a.size:=by simpa using z
   exact wpS_pure (L.r _ _ _ _ _ _ _ _ ⟨h',g'.eL tw z'⟩)
  ·rename_i z
   have z':i+k+1≠a.size:=by simpa using z
   split
   ·rename_i y
    have y':i+k=a.size:=by simpa using y
    exact wpS_pure (L.r _ _ _ _ _ _ _ _ ⟨h',g'.eA (by lia)⟩)
   ·rename_i y
    have y':i+k≠a.size:=by simpa using y
    exact zfH_ hC tw h' ⟨g',by lia,hj⟩ (by lia) rest L
 ·have k0:k=0:=by lia
  subst k0
  exact zfH_ hC tw h' m hn (fun t t1 t2=>rest t (by lia) t2) L
theorem zhm_ {out:Array Keyed} {i j g:Nat} {st:SortSt} {Q:ForInStep W0->SortSt->Prop} (hC:Cmps prog w A s κ rk a₀) (tw:Two rk a₀ a b) (h:S0 κ X P st) (m:Mid rk a b out i j)
  (q1:∀ r o i j g st,Res κ rk a b X P r st->Q (.done (some r,o,i,j,g)) st) (q2:∀ o i' j' g st,Mid rk a b o i' j'->i+j+1<=i'+j'->S0 κ X P st->Q (.yield (none,o,i',j',g)) st) :
  wpS (model prog w) A E s (lT a b out i j g) Q st:=by
 unfold lT
 have hz:1<=a.size+b.size:=by have:=tw.na;lia
 refine wpS_bind (wpS_mono (wpS_forRange (I:=fun x c st'=>st'=st/\∃ o i' j' p q,c=(none,o,i',j',p,q)/\Mid rk a b o i' j'/\i'+j'=i+j+x)
  (Q:=fun c st'=>st'=st/\((∃ r o i' j' p q,c=(some r,o,i',j',p,q)/\Res κ rk a b X P r st)\/∃ o i' j' p q,c=(none,o,i',j',p,q)/\Mid rk a b o i' j'/\i+j+1<=i'+j'))
  (fun x c st' _ hx I=>?_) (fun c st' I=>?_) ⟨rfl,out,i,j,0,0,rfl,m,rfl⟩) fun c st' I=>?_)
 ·obtain ⟨rfl,o,i',j',p,q,rfl,m',e⟩:=I
  dsimp only
  exact zhn_ hC tw h m' (fun r o i j p q hr=>⟨rfl,.inl ⟨r,o,i,j,p,q,rfl,hr⟩⟩) fun o i2 j2 p q m2 e2=>⟨⟨rfl,.inr ⟨o,i2,j2,p,q,rfl,m2,by lia⟩⟩,⟨rfl,o,i2,j2,p,q,rfl,m2,by lia⟩⟩
 ·obtain ⟨rfl,o,i',j',p,q,rfl,m',e⟩:=I
  exact ⟨rfl,.inr ⟨o,i',j',p,q,rfl,m',by lia⟩⟩
 ·obtain ⟨rfl,⟨r,o,i',j',p,q,rfl,hr⟩|⟨o,i',j',p,q,rfl,m',e⟩⟩:=I
  ·exact wpS_pure (q1 _ _ _ _ _ _ hr)
  ·dsimp only
   refine wpS_bind (wpS_lift (wpAny_rule ⟨rfl,?_⟩))
   refine wpS_bind (wpS_mono (wpS_forRange (I:=fun x c st'=>S0 κ X P st'/\∃ o i' j' g p q,c=(none,o,i',j',g,p,q)/\Mid rk a b o i' j'/\i+j+1<=i'+j')
    (Q:=fun c st'=>(∃ r o i' j' g p q,c=(some r,o,i',j',g,p,q)/\Res κ rk a b X P r st')\/(S0 κ X P st'/\∃ o i' j' g p q,c=(none,o,i',j',g,p,q)/\Mid rk a b o i' j'/\i+j+1<=i'+j'))
    (fun x c st2 _ hx I=>?_) (fun c st2 I=>.inr I) ⟨h,o,i',j',g+1,p,q,rfl,m',e⟩) fun c st2 I=>?_)
   ·obtain ⟨h2,o,i2,j2,g2,p,q,rfl,m2,e2⟩:=I
    dsimp only
    split
    ·exact zfI_ hC tw h2 m2 e2 ⟨fun r o i j g p q st hr=>.inl ⟨r,o,i,j,g,p,q,rfl,hr⟩,fun o i j g p q st m e h=>.inr ⟨h,o,i,j,g,p,q,rfl,m,e⟩,fun o i j g p q st m e h=>⟨h,o,i,j,g,p,q,rfl,m,e⟩⟩
    ·exact zfI_ hC tw h2 m2 e2 ⟨fun r o i j g p q st hr=>.inl ⟨r,o,i,j,g,p,q,rfl,hr⟩,fun o i j g p q st m e h=>.inr ⟨h,o,i,j,g,p,q,rfl,m,e⟩,fun o i j g p q st m e h=>⟨h,o,i,j,g,p,q,rfl,m,e⟩⟩
   ·rcases I with ⟨r,o,i2,j2,g2,p,q,rfl,hr⟩|⟨h2,o,i2,j2,g2,p,q,rfl,m2,e2⟩
    ·exact wpS_pure (q1 _ _ _ _ _ _ hr)
    ·exact wpS_bind (JG_ h2 fun st3 h3=>wpS_pure (q2 _ _ _ _ _ m2 e2 h3))
theorem Q4_ {st:SortSt} {Q:Array Keyed->SortSt->Prop} (hC:Cmps prog w A s κ rk a₀) (tw:Two rk a₀ a b) (h:S0 κ X P st) (q:∀ r st',Res κ rk a b X P r st'->Q r st'):wpS (model prog w) A E s (JW_ a b) Q st:=by
 have na:=tw.na
 have nb:=tw.nb
 have eb:b[0]? = some (b[0]'(by lia)):=Array.getElem?_eq_getElem _
 rw [Q5_]
 have g0:Ga rk (a.toList++b.toList) a b #[] 0 0:=⟨.nil,by simpa using uO_ tw.sa,by simpa using uO_ tw.sb,(fun x hx=>by simp at hx),by simp⟩
 have g1:=Ga.pb g0 (show 0<b.size by lia) fun t _ t2=>tw.lo t t2
 refine wpS_bind (wpS_lift (wpAny_rule ⟨rfl,wpS_bind (js_ eb ?_)⟩))
 split
 ·rename_i z
  have z':1=b.size:=by simpa using z
  exact wpS_pure (q _ _ ⟨h,g1.eB (by lia)⟩)
 ·rename_i z
  have z':1≠b.size:=by simpa using z
  split
  ·rename_i y
   have y':0+1=a.size:=by simpa using y
   exact wpS_pure (q _ _ ⟨h,g1.eL tw y'⟩)
  ·rename_i y
   have y':0+1≠a.size:=by simpa using y
   refine wpS_bind (wpS_get ?_)
   refine wpS_bind (wpS_mono (wpS_forRange (I:=fun x c st'=>S0 κ X P st'/\∃ o i j g,c=(none,o,i,j,g)/\Mid rk a b o i j/\x+1<=i+j)
    (Q:=fun c st'=>∃ r o i j g,c=(some r,o,i,j,g)/\Res κ rk a b X P r st') (fun x c st' _ hx I=>?_) (fun c st' I=>?_) ⟨h,_,0,1,_,rfl,⟨g1,by lia,by lia⟩,by lia⟩) fun c st' I=>?_)
   ·obtain ⟨h',o,i,j,g,rfl,m,e⟩:=I
    dsimp only
    exact zhm_ hC tw h' m (fun r o i j g st hr=>⟨r,o,i,j,g,rfl,hr⟩) fun o i2 j2 g st m2 e2 h2=>⟨h2,o,i2,j2,g,rfl,m2,by lia⟩
   ·obtain ⟨h',o,i,j,g,rfl,m,e⟩:=I
    have:=m.hi
    have:=m.hj
    lia
   ·obtain ⟨r,o,i,j,g,rfl,hr⟩:=I
    exact wpS_pure (q _ _ hr)
end
section
variable {rk:Value->Int}
structure Gh (rk:Value->Int) (T A B O:List Keyed):Prop where
 so:O.Pairwise (Le rk)
 sa:A.Pairwise (Le rk)
 sb:B.Pairwise (Le rk)
 ah:∀ x∈O,∀ y,y∈A\/y∈B->Le rk y x
 pm:((A++B)++O).Perm T
theorem Gh.flip {T O A B:List Keyed} (h:Gh rk T A B O):Gh rk T B A O :=
 ⟨h.so,h.sb,h.sa,fun x hx y hy=>h.ah x hx y hy.symm,((List.perm_append_comm (l₁:=B)).append_right O).trans h.pm⟩
theorem Gh.b {T O S A B:List Keyed} (h:Gh rk T A (B++S) O) (hs:∀ x∈S,∀ y∈A,Le rk y x):Gh rk T A B (S++O):=by
 have sb:=List.pairwise_append.mp h.sb
 refine ⟨List.pairwise_append.mpr ⟨sb.2.1,h.so,fun x hx y hy=>h.ah y hy x (.inr (List.mem_append_right _ hx))⟩,h.sa,sb.1,fun x hx y hy=>?_,by simpa [List.append_assoc] using h.pm⟩
 rcases List.mem_append.mp hx with hx|hx
 ·rcases hy with hy|hy
  ·exact hs x hx y hy
  ·exact sb.2.2 y hy x hx
 ·exact h.ah x hx y (hy.imp id (List.mem_append_left _))
theorem Gh.fa {T O A B:List Keyed} (h:Gh rk T A B O) (hs:∀ x∈A,∀ y∈B,Le rk x y):Srt rk T (A++B++O) :=
 ⟨List.pairwise_append.mpr ⟨List.pairwise_append.mpr ⟨h.sa,h.sb,hs⟩,h.so,fun x hx y hy=>h.ah y hy x (List.mem_append.mp hx)⟩,h.pm⟩
abbrev Gq (rk:Value->Int) (T:List Keyed) (a b out:Array Keyed) (i j:Nat):Prop:=Gh rk T (a.toList.take i) (b.toList.take j) out.toList.reverse
theorem zcn_ {a:Array Keyed} {i:Nat} (h:i<a.size):a.toList.take (i+1)=a.toList.take i++[a[i]]:=by
 rw [List.take_succ_eq_append_getElem (by simpa using h)]
 simp
theorem XS_ {a:Array Keyed} {x i:Nat} (h:x<=i):a.toList.take i=a.toList.take x++(a.extract x i).toList:=by
 rw [Array.toList_extract,List.extract_eq_take_drop]
 have e:i=x+(i - x):=by lia
 conv=>lhs;rw [e,List.take_add]
theorem Zm_ {a:Array Keyed} {i:Nat} {x:Keyed} (h:x∈a.toList.take i):∃ t,t<i/\t<a.size/\kr rk a t=rk x.1:=by
 obtain ⟨n,hn,e⟩:=List.mem_iff_getElem.mp h
 have hl:n<i/\n<a.size:=by
  rw [List.length_take] at hn
  have:a.toList.length=a.size:=Array.length_toList
  lia
 refine ⟨n,hl.1,hl.2,jh_ ?_⟩
 rw [List.getElem_take] at e
 rw [Array.getElem?_eq_getElem hl.2,<-e]
 simp
theorem JY_ {a:Array Keyed} {i x:Nat} {p:Keyed} (h:p∈(a.extract x i).toList):∃ t,x<=t/\t<i/\t<a.size/\kr rk a t=rk p.1:=by
 obtain ⟨n,hn,e⟩:=List.mem_iff_getElem.mp h
 have hn':n<(a.extract x i).size:=by rw [<-Array.length_toList];exact hn
 rw [Array.size_extract] at hn'
 refine ⟨x+n,by lia,by lia,by lia,jh_ ?_⟩
 rw [Array.getElem?_eq_getElem (by lia),<-e]
 simp
theorem YL_ (a b out:Array Keyed) (i j:Nat):(hA a b out i j).toList=a.toList.take i++b.toList.take j++out.toList.reverse:=by
 unfold hA
 rw [Array.toList_append,Array.toList_append,Array.toList_extract,Array.toList_extract,List.extract_eq_take_drop,List.extract_eq_take_drop,Array.toList_reverse]
 simp
end
section
variable {prog:Program} {w:World} {A:Around} {E:Value->Shared->Prop} {s:Shared} {κ:SortKind} {rk:Value->Int} {a₀ a b X:Array Keyed} {P:Runs}
theorem Gq.pb {T:List Keyed} {out:Array Keyed} {i j:Nat} (g:Gq rk T a b out i (j+1)) (hj:j<b.size) (h:∀ t,t<i->t<a.size->kr rk a t<=kr rk b j):Gq rk T a b (out.push b[j]) i j:=by
 have g':Gh rk T (a.toList.take i) (b.toList.take (j+1)) out.toList.reverse:=g
 rw [zcn_ hj] at g'
 show Gh rk T _ _ (out.push b[j]).toList.reverse
 rw [Array.toList_push,List.reverse_append]
 refine g'.b fun x hx y hy=>?_
 obtain ⟨t,t1,t2,e⟩:=Zm_ (rk:=rk) hy
 rw [List.mem_singleton.mp hx]
 have:=h t t1 t2
 rw [e,jh_ (Array.getElem?_eq_getElem hj)] at this
 exact this
theorem Gq.pa {T:List Keyed} {out:Array Keyed} {i j:Nat} (g:Gq rk T a b out (i+1) j) (hi:i<a.size) (h:∀ t,t<j->t<b.size->kr rk b t<=kr rk a i):Gq rk T a b (out.push a[i]) i j :=
 Gh.flip (Gq.pb (a:=b) (b:=a) (i:=j) (j:=i) (Gh.flip g) hi h)
theorem Gq.eb {T:List Keyed} {out:Array Keyed} {i j x:Nat} (g:Gq rk T a b out i j) (hx:x<=j) (h:∀ t u,x<=t->t<j->u<i->u<a.size->kr rk a u<=kr rk b t):Gq rk T a b (out++(b.extract x j).reverse) i x:=by
 have g':Gh rk T (a.toList.take i) (b.toList.take j) out.toList.reverse:=g
 rw [XS_ (a:=b) hx] at g'
 show Gh rk T _ _ (out++(b.extract x j).reverse).toList.reverse
 rw [Array.toList_append,List.reverse_append,Array.toList_reverse,List.reverse_reverse]
 refine g'.b fun x hx y hy=>?_
 obtain ⟨t,t1,t2,_,e⟩:=JY_ (rk:=rk) hx
 obtain ⟨u,u1,u2,e2⟩:=Zm_ (rk:=rk) hy
 have:=h t u t1 t2 u1 u2
 rw [e,e2] at this
 exact this
theorem Gq.ea {T:List Keyed} {out:Array Keyed} {i j x:Nat} (g:Gq rk T a b out i j) (hx:x<=i) (h:∀ t u,x<=t->t<i->u<j->u<b.size->kr rk b u<=kr rk a t):Gq rk T a b (out++(a.extract x i).reverse) x j :=
 Gh.flip (Gq.eb (a:=b) (b:=a) (i:=j) (j:=i) (Gh.flip g) hx h)
theorem Gq.eA {T:List Keyed} {out:Array Keyed} {j:Nat} (g:Gq rk T a b out 0 j):Srt rk T (hA a b out 0 j).toList:=by
 rw [YL_]
 refine Gh.fa g fun x hx y _=>?_
 rw [List.take_zero] at hx
 cases hx
theorem Gq.eZ {T:List Keyed} {out:Array Keyed} {i j:Nat} (g:Gq rk T a b out i j) (hi:i=0):Srt rk T (hA a b out i j).toList:=by
 subst hi
 exact g.eA
theorem Gq.eB {T:List Keyed} {out:Array Keyed} {i:Nat} (g:Gq rk T a b out i 0):Srt rk T (hA a b out i 0).toList:=by
 rw [YL_]
 refine Gh.fa g fun x _ y hy=>?_
 rw [List.take_zero] at hy
 cases hy
theorem Gq.eF {T:List Keyed} {out:Array Keyed} {i:Nat} (g:Gq rk T a b out i 1) (tw:Two rk a₀ a b):Srt rk T (hB a b out i 1).toList:=by
 show Srt rk T (hA b a out 1 i).toList
 rw [YL_]
 refine Gh.fa (Gh.flip g) fun x hx y hy=>?_
 obtain ⟨t,t1,t2,e⟩:=Zm_ (rk:=rk) hx
 obtain ⟨u,u1,u2,e2⟩:=Zm_ (rk:=rk) hy
 have:=tw.lo u u2
 rw [e2,show 0=t by lia,e] at this
 exact this
structure Mih (rk:Value->Int) (a b out:Array Keyed) (i j:Nat):Prop where
 g:Gq rk (a.toList++b.toList) a b out i j
 hi:1<=i
 hj:2<=j
 ia:i<=a.size
 jb:j<=b.size
theorem zhw_ {g:Nat} {out:Array Keyed} {i j p q:Nat} {st:SortSt} {Q:ForInStep V1->SortSt->Prop} (hC:Cmps prog w A s κ rk a₀) (tw:Two rk a₀ a b) (h:S0 κ X P st) (m:Mih rk a b out i j)
  (q1:∀ r i j o p q,Res κ rk a b X P r st->Q (.done (some r,i,j,o,p,q)) st) (q2:∀ i' j' o p q,Mih rk a b o i' j'->i'+j'+1=i+j->Q (.done (none,i',j',o,p,q)) st/\Q (.yield (none,i',j',o,p,q)) st) :
  wpS (model prog w) A E s (hS a b g i j out p q) Q st:=by
 obtain ⟨gg,hi,hj,ia,jb⟩:=m
 obtain ⟨i,rfl⟩:∃ k,i=k+1:=⟨i - 1,by lia⟩
 obtain ⟨j,rfl⟩:∃ k,j=k+1:=⟨j - 1,by lia⟩
 have ea:a[i]? = some (a[i]'(by lia)):=Array.getElem?_eq_getElem _
 have eb:b[j]? = some (b[j]'(by lia)):=Array.getElem?_eq_getElem _
 unfold hS
 rw [Nat.add_sub_cancel,Nat.add_sub_cancel]
 refine wpS_bind (js_ eb (wpS_bind (js_ ea (wpS_bind (Wy_ hC h.kd (tw.mb _ (by simp)) (tw.ma _ (by simp)) ?_)))))
 by_cases c:rk (b[j]'(by lia)).1<rk (a[i]'(by lia)).1
 ·rw [decide_eq_true c]
  dsimp only
  rw [if_pos rfl]
  have g':=Gq.pa gg (show i<a.size by lia) fun t t1 t2=>by
   have:=tw.sb t j (Nat.zero_le _) (by lia) (by lia)
   rw [jh_ eb] at this
   rw [jh_ ea]
   lia
  refine wpS_bind (js_ ea ?_)
  split
  ·rename_i z
   have z':i=0:=by simpa using z
   subst z'
   exact wpS_pure (q1 _ _ _ _ _ _ ⟨h,g'.eA⟩)
  ·rename_i z
   have z':i≠0:=by simpa using z
   have:=q2 i (j+1) (out.push (a[i]'(by lia))) (p+1) 0 ⟨g',by lia,hj,by lia,jb⟩ (by lia)
   split
   ·exact wpS_pure this.1
   ·exact wpS_pure this.2
 ·rw [decide_eq_false c]
  dsimp only
  rw [if_neg (by decide)]
  have g':=Gq.pb gg (show j<b.size by lia) fun t t1 t2=>by
   have:=tw.sa t i (Nat.zero_le _) (by lia) (by lia)
   rw [jh_ ea] at this
   rw [jh_ eb]
   lia
  refine wpS_bind (js_ eb ?_)
  split
  ·rename_i z
   have z':j=1:=by simpa using z
   subst z'
   exact wpS_pure (q1 _ _ _ _ _ _ ⟨h,g'.eF tw⟩)
  ·rename_i z
   have z':j≠1:=by simpa using z
   have:=q2 (i+1) j (out.push (b[j]'(by lia))) 0 (q+1) ⟨g',hi,by lia,ia,by lia⟩ (by lia)
   split
   ·exact wpS_pure this.1
   ·exact wpS_pure this.2
structure Lq (κ:SortKind) (rk:Value->Int) (a b X:Array Keyed) (P:Runs) (n:Nat) (Q:ForInStep V2->SortSt->Prop):Prop where
 r:∀ r i j o g p q st,Res κ rk a b X P r st->Q (.done (some r,i,j,o,g,p,q)) st
 d:∀ i j o g p q st,Mih rk a b o i j->i+j<=n->S0 κ X P st->Q (.done (none,i,j,o,g,p,q)) st
 y:∀ i j o g p q st,Mih rk a b o i j->i+j<=n->S0 κ X P st->Q (.yield (none,i,j,o,g,p,q)) st
theorem zfV_ {out:Array Keyed} {i j g p q n:Nat} {st:SortSt} {Q:ForInStep V2->SortSt->Prop} (tw:Two rk a₀ a b) (h:S0 κ X P st) (m:Mih rk a b out i j) (hn:i+j<=n) (ha:∀ t,t<j->t<b.size->kr rk b t<=kr rk a (i - 1)) (L:Lq κ rk a b X P n Q) :
  wpS (model prog w) A E s (h3 a b i j out g p q) Q st:=by
 obtain ⟨gg,hi,hj,ia,jb⟩:=m
 obtain ⟨i,rfl⟩:∃ k,i=k+1:=⟨i - 1,by lia⟩
 have ea:a[i]? = some (a[i]'(by lia)):=Array.getElem?_eq_getElem _
 unfold h3
 rw [Nat.add_sub_cancel] at ha ⊢
 have g':=Gq.pa gg (show i<a.size by lia) ha
 refine wpS_bind (js_ ea ?_)
 split
 ·rename_i z
  have z':i=0:=by simpa using z
  subst z'
  exact wpS_pure (L.r _ _ _ _ _ _ _ _ ⟨h,g'.eA⟩)
 ·rename_i z
  have z':i≠0:=by simpa using z
  split
  ·exact wpS_pure (L.d _ _ _ _ _ _ _ ⟨g',by lia,hj,by lia,jb⟩ (by lia) h)
  ·exact wpS_pure (L.y _ _ _ _ _ _ _ ⟨g',by lia,hj,by lia,jb⟩ (by lia) h)
theorem zhx_ {out:Array Keyed} {i j g p q n:Nat} {st:SortSt} {Q:ForInStep V2->SortSt->Prop} (hC:Cmps prog w A s κ rk a₀) (tw:Two rk a₀ a b) (h:S0 κ X P st) (m:Mih rk a b out i j) (hn:i+j<=n) (L:Lq κ rk a b X P n Q) :
  wpS (model prog w) A E s (h2 a b i j out g p q) Q st:=by
 obtain ⟨gg,hi,hj,ia,jb⟩:=id m
 have ea:a[i - 1]? = some (a[i - 1]'(by lia)):=Array.getElem?_eq_getElem _
 unfold h2
 refine wpS_bind (js_ ea (wpS_bind (yM_ hC h.kd (tw.ma _ (by simp)) (by lia) tw.mb (fun x y hx hxy hy=>tw.sb x y (Nat.zero_le _) hxy (by lia)) (by lia) fun x k1 k2 k3=>?_)))
 rw [<-jh_ (rk:=rk) ea] at k2 k3
 simp only [Nat.zero_add] at k2 k3
 have rest:∀ t,t<x->t<b.size->kr rk b t<=kr rk a (i - 1):=fun t t1 t2=>Int.le_of_lt (k2 t t1)
 dsimp only
 split
 ·have g':=Gq.eb (x:=x) gg k1 fun t u t1 t2 u1 u2=>by
   have h1:=k3 t t1 t2
   have h2:=tw.sa u (i - 1) (Nat.zero_le _) (by lia) (by lia)
   lia
  split
  ·rename_i z
   have z':x=1:=by simpa using z
   subst z'
   exact wpS_pure (L.r _ _ _ _ _ _ _ _ ⟨h,g'.eF tw⟩)
  ·rename_i z
   have z':x≠1:=by simpa using z
   split
   ·rename_i y
    have y':x=0:=by simpa using y
    subst y'
    exact wpS_pure (L.r _ _ _ _ _ _ _ _ ⟨h,g'.eB⟩)
   ·rename_i y
    have y':x≠0:=by simpa using y
    exact zfV_ tw h ⟨g',hi,by lia,ia,by lia⟩ (by lia) rest L
 ·have k0:x=j:=by lia
  subst k0
  exact zfV_ tw h m hn rest L
theorem zfW_ {out:Array Keyed} {i j g p q n:Nat} {st:SortSt} {Q:ForInStep V2->SortSt->Prop} (hC:Cmps prog w A s κ rk a₀) (tw:Two rk a₀ a b) (h:S0 κ X P st) (m:Mih rk a b out i j) (hn:i+j<=n) (hb:∀ t,t<i->t<a.size->kr rk a t<=kr rk b (j - 1)) (L:Lq κ rk a b X P n Q) :
  wpS (model prog w) A E s (h1 a b i j out g p q) Q st:=by
 obtain ⟨gg,hi,hj,ia,jb⟩:=m
 obtain ⟨j,rfl⟩:∃ k,j=k+1:=⟨j - 1,by lia⟩
 have eb:b[j]? = some (b[j]'(by lia)):=Array.getElem?_eq_getElem _
 unfold h1
 rw [Nat.add_sub_cancel] at hb ⊢
 have g':=Gq.pb gg (show j<b.size by lia) hb
 refine wpS_bind (js_ eb ?_)
 split
 ·rename_i z
  have z':j=1:=by simpa using z
  subst z'
  exact wpS_pure (L.r _ _ _ _ _ _ _ _ ⟨h,g'.eF tw⟩)
 ·rename_i z
  have z':j≠1:=by simpa using z
  exact zhx_ hC tw h ⟨g',hi,by lia,ia,by lia⟩ (by lia) L
theorem zfX_ {out:Array Keyed} {i j g p q n:Nat} {st:SortSt} {Q:ForInStep V2->SortSt->Prop} (hC:Cmps prog w A s κ rk a₀) (tw:Two rk a₀ a b) (h:S0 κ X P st) (m:Mih rk a b out i j) (hn:i+j<=n) (L:Lq κ rk a b X P n Q) :
  wpS (model prog w) A E s (h0 a b i j out g p q) Q st:=by
 obtain ⟨gg,hi,hj,ia,jb⟩:=id m
 have eb:b[j - 1]? = some (b[j - 1]'(by lia)):=Array.getElem?_eq_getElem _
 unfold h0
 refine wpS_bind (JG_ h fun st' h'=>?_)
 refine wpS_bind (js_ eb (wpS_bind (yL_ hC h'.kd (tw.mb _ (by simp)) (by lia) tw.ma (fun x y hx hxy hy=>tw.sa x y (Nat.zero_le _) hxy (by lia)) (by lia) fun x k1 k2 k3=>?_)))
 rw [<-jh_ (rk:=rk) eb] at k2 k3
 simp only [Nat.zero_add] at k2 k3
 have rest:∀ t,t<x->t<a.size->kr rk a t<=kr rk b (j - 1):=fun t t1 t2=>k2 t t1
 dsimp only
 split
 ·have g':=Gq.ea (x:=x) gg k1 fun t u t1 t2 u1 u2=>by
   have h1:=k3 t t1 t2
   have h2:=tw.sb u (j - 1) (Nat.zero_le _) (by lia) (by lia)
   lia
  split
  ·rename_i z
   have z':x=0:=by simpa using z
   subst z'
   exact wpS_pure (L.r _ _ _ _ _ _ _ _ ⟨h',g'.eA⟩)
  ·rename_i z
   have z':x≠0:=by simpa using z
   exact zfW_ hC tw h' ⟨g',by lia,hj,by lia,jb⟩ (by lia) rest L
 ·have k0:x=i:=by lia
  subst k0
  exact zfW_ hC tw h' m hn rest L
theorem zhv_ {out:Array Keyed} {i j g:Nat} {st:SortSt} {Q:ForInStep V0->SortSt->Prop} (hC:Cmps prog w A s κ rk a₀) (tw:Two rk a₀ a b) (h:S0 κ X P st) (m:Mih rk a b out i j)
  (q1:∀ r i j o g st,Res κ rk a b X P r st->Q (.done (some r,i,j,o,g)) st) (q2:∀ i' j' o g st,Mih rk a b o i' j'->i'+j'+1<=i+j->S0 κ X P st->Q (.yield (none,i',j',o,g)) st) :
  wpS (model prog w) A E s (hT a b i j out g) Q st:=by
 unfold hT
 have hz:1<=a.size+b.size:=by have:=tw.na;lia
 refine wpS_bind (wpS_mono (wpS_forRange (I:=fun x c st'=>st'=st/\∃ i' j' o p q,c=(none,i',j',o,p,q)/\Mih rk a b o i' j'/\i'+j'+x=i+j)
  (Q:=fun c st'=>st'=st/\((∃ r i' j' o p q,c=(some r,i',j',o,p,q)/\Res κ rk a b X P r st)\/∃ i' j' o p q,c=(none,i',j',o,p,q)/\Mih rk a b o i' j'/\i'+j'+1<=i+j))
  (fun x c st' _ hx I=>?_) (fun c st' I=>?_) ⟨rfl,i,j,out,0,0,rfl,m,rfl⟩) fun c st' I=>?_)
 ·obtain ⟨rfl,i',j',o,p,q,rfl,m',e⟩:=I
  dsimp only
  exact zhw_ hC tw h m' (fun r i j o p q hr=>⟨rfl,.inl ⟨r,i,j,o,p,q,rfl,hr⟩⟩) fun i2 j2 o p q m2 e2=>⟨⟨rfl,.inr ⟨i2,j2,o,p,q,rfl,m2,by lia⟩⟩,⟨rfl,i2,j2,o,p,q,rfl,m2,by lia⟩⟩
 ·obtain ⟨rfl,i',j',o,p,q,rfl,m',e⟩:=I
  exact ⟨rfl,.inr ⟨i',j',o,p,q,rfl,m',by lia⟩⟩
 ·obtain ⟨rfl,⟨r,i',j',o,p,q,rfl,hr⟩|⟨i',j',o,p,q,rfl,m',e⟩⟩:=I
  ·exact wpS_pure (q1 _ _ _ _ _ _ hr)
  ·dsimp only
   refine wpS_bind (wpS_lift (wpAny_rule ⟨rfl,?_⟩))
   refine wpS_bind (wpS_mono (wpS_forRange (I:=fun x c st'=>S0 κ X P st'/\∃ i' j' o g p q,c=(none,i',j',o,g,p,q)/\Mih rk a b o i' j'/\i'+j'<=i+j - 1)
    (Q:=fun c st'=>(∃ r i' j' o g p q,c=(some r,i',j',o,g,p,q)/\Res κ rk a b X P r st')\/(S0 κ X P st'/\∃ i' j' o g p q,c=(none,i',j',o,g,p,q)/\Mih rk a b o i' j'/\i'+j'<=i+j - 1))
    (fun x c st2 _ hx I=>?_) (fun c st2 I=>.inr I) ⟨h,i',j',o,g+1,p,q,rfl,m',by lia⟩) fun c st2 I=>?_)
   ·obtain ⟨h2,i2,j2,o,g2,p,q,rfl,m2,e2⟩:=I
    dsimp only
    split
    ·exact zfX_ hC tw h2 m2 e2 ⟨fun r i j o g p q st hr=>.inl ⟨r,i,j,o,g,p,q,rfl,hr⟩,fun i j o g p q st m e h=>.inr ⟨h,i,j,o,g,p,q,rfl,m,e⟩,fun i j o g p q st m e h=>⟨h,i,j,o,g,p,q,rfl,m,e⟩⟩
    ·exact zfX_ hC tw h2 m2 e2 ⟨fun r i j o g p q st hr=>.inl ⟨r,i,j,o,g,p,q,rfl,hr⟩,fun i j o g p q st m e h=>.inr ⟨h,i,j,o,g,p,q,rfl,m,e⟩,fun i j o g p q st m e h=>⟨h,i,j,o,g,p,q,rfl,m,e⟩⟩
   ·rcases I with ⟨r,i2,j2,o,g2,p,q,rfl,hr⟩|⟨h2,i2,j2,o,g2,p,q,rfl,m2,e2⟩
    ·exact wpS_pure (q1 _ _ _ _ _ _ hr)
    ·have:=m.hi
     have e3:i2+j2+1<=i+j:=by lia
     exact wpS_bind (JG_ h2 fun st3 h3=>wpS_pure (q2 _ _ _ _ _ m2 e3 h3))
theorem Q6_ {st:SortSt} {Q:Array Keyed->SortSt->Prop} (hC:Cmps prog w A s κ rk a₀) (tw:Two rk a₀ a b) (h:S0 κ X P st) (q:∀ r st',Res κ rk a b X P r st'->Q r st'):wpS (model prog w) A E s (JX_ a b) Q st:=by
 have na:=tw.na
 have nb:=tw.nb
 have ea:a[a.size - 1]? = some (a[a.size - 1]'(by lia)):=Array.getElem?_eq_getElem _
 rw [Q7_]
 have ta:a.toList.take (a.size - 1+1)=a.toList:=List.take_of_length_le (by simp;lia)
 have tb:b.toList.take b.size=b.toList:=List.take_of_length_le (by simp)
 have g0:Gq rk (a.toList++b.toList) a b #[] (a.size - 1+1) b.size:=⟨by simp,by rw [ta];exact uO_ tw.sa,by rw [tb];exact uO_ tw.sb,(fun x hx=>by simp at hx),by rw [ta,tb];simp⟩
 have g1:=Gq.pa g0 (show a.size - 1<a.size by lia) fun t _ t2=>tw.hi t t2
 refine wpS_bind (wpS_lift (wpAny_rule ⟨rfl,wpS_bind (js_ ea ?_)⟩))
 split
 ·rename_i z
  have z':a.size - 1=0:=by simpa using z
  exact wpS_pure (q _ _ ⟨h,g1.eZ z'⟩)
 ·rename_i z
  have z':a.size - 1≠0:=by simpa using z
  split
  ·rename_i y
   have y':b.size=1:=by simpa using y
   rw [y'] at g1 ⊢
   exact wpS_pure (q _ _ ⟨h,g1.eF tw⟩)
  ·rename_i y
   have y':b.size≠1:=by simpa using y
   refine wpS_bind (wpS_get ?_)
   refine wpS_bind (wpS_mono (wpS_forRange (I:=fun x c st'=>S0 κ X P st'/\∃ i j o g,c=(none,i,j,o,g)/\Mih rk a b o i j/\i+j+x+1<=a.size+b.size)
    (Q:=fun c st'=>∃ r i j o g,c=(some r,i,j,o,g)/\Res κ rk a b X P r st') (fun x c st' _ hx I=>?_) (fun c st' I=>?_) ⟨h,a.size - 1,b.size,_,_,rfl,⟨g1,by lia,by lia,by lia,by lia⟩,by lia⟩) fun c st' I=>?_)
   ·obtain ⟨h',i,j,o,g,rfl,m,e⟩:=I
    dsimp only
    exact zhv_ hC tw h' m (fun r i j o g st hr=>⟨r,i,j,o,g,rfl,hr⟩) fun i2 j2 o g st m2 e2 h2=>⟨h2,i2,j2,o,g,rfl,m2,by lia⟩
   ·obtain ⟨h',i,j,o,g,rfl,m,e⟩:=I
    have:=m.hi
    have:=m.hj
    lia
   ·obtain ⟨r,i,j,o,g,rfl,hr⟩:=I
    exact wpS_pure (q _ _ hr)
end
noncomputable def putAll (l:List Keyed) (at0 k:Nat) (xs:Array Keyed):Array Keyed:=(l.zipIdx k).foldl (fun a p=>a.setIfInBounds (at0+p.2) p.1) xs
theorem Zz_ (at0:Nat):∀ (l:List Keyed) (k:Nat) (xs:Array Keyed),at0+k+l.length<=xs.size->∀ t,(putAll l at0 k xs)[t]? = if at0+k<=t/\t<at0+k+l.length then l[t - (at0+k)]? else xs[t]?
 | [],k,xs,_,t=>by
  show xs[t]? = _
  rw [if_neg (by rw [List.length_nil];lia)]
 | p::l,k,xs,h,t=>by
  rw [List.length_cons] at h
  show (putAll l at0 (k+1) (xs.setIfInBounds (at0+k) p))[t]? = _
  rw [Zz_ at0 l (k+1) _ (by rw [Array.size_setIfInBounds];lia),List.length_cons,Array.getElem?_setIfInBounds]
  by_cases c:t=at0+k
  ·subst c
   rw [if_neg (by lia),if_pos rfl,if_pos (by lia),if_pos (by lia),Nat.sub_self]
   rfl
  ·by_cases c2:at0+(k+1)<=t/\t<at0+(k+1)+l.length
   ·rw [if_pos c2,if_pos (by lia),show t - (at0+k)=(t - (at0+(k+1)))+1 by lia]
    rfl
   ·rw [if_neg c2,if_neg (fun z=>c z.symm),if_neg (by lia)]
theorem Zy_ {l:List Keyed} {at0:Nat} {xs:Array Keyed} (h:at0+l.length<=xs.size):(putAll l at0 0 xs).toList=xs.toList.take at0++(l++xs.toList.drop (at0+l.length)):=by
 apply List.ext_getElem?
 intro t
 have e:=Zz_ at0 l 0 xs (by lia) t
 rw [Array.getElem?_toList,e]
 have hl:xs.toList.length=xs.size:=Array.length_toList
 by_cases c:t<at0
 ·rw [if_neg (by lia),List.getElem?_append_left (by rw [List.length_take];lia),List.getElem?_take_of_lt c,Array.getElem?_toList]
 ·rw [List.getElem?_append_right (by rw [List.length_take];lia),List.length_take,show min at0 xs.toList.length=at0 by lia]
  by_cases c2:t<at0+l.length
  ·rw [if_pos (by lia),List.getElem?_append_left (by lia),Nat.add_zero]
  ·rw [if_neg (by lia),List.getElem?_append_right (by lia),List.getElem?_drop,Array.getElem?_toList]
   congr 1
   lia
section
variable {rk:Value->Int}
theorem uY_ {xs:Array Keyed} {a e t:Nat} (h:a+t<e) (he:e<=xs.size):kr rk (xs.extract a e) t=kr rk xs (a+t):=by
 refine ZJ_ ?_
 rw [Array.getElem?_extract,if_pos (by lia)]
noncomputable def Cov:List (Nat×Nat×Nat)->Nat->Nat->Prop
 | [],lo,hi=>lo=hi
 | (s,n,_)::r,lo,hi=>s=lo/\1<=n/\Cov r (lo+n) hi
theorem Cov.split:∀ {L R:List (Nat×Nat×Nat)} {lo hi:Nat},Cov (L++R) lo hi->∃ m,Cov L lo m/\Cov R m hi
 | [],_,lo,_,h=>⟨lo,rfl,h⟩
 | (s,n,_)::L,R,lo,hi,h=>by
  obtain ⟨h1,h2,h3⟩:=h
  obtain ⟨m,h4,h5⟩:=Cov.split (L:=L) h3
  exact ⟨m,⟨h1,h2,h4⟩,h5⟩
theorem Cov.join:∀ {L R:List (Nat×Nat×Nat)} {lo m hi:Nat},Cov L lo m->Cov R m hi->Cov (L++R) lo hi
 | [],_,lo,_,_,h,h'=>by cases h;exact h'
 | (s,n,_)::L,R,lo,m,hi,h,h'=>⟨h.1,h.2.1,Cov.join (L:=L) h.2.2 h'⟩
theorem Cov.le:∀ {L:List (Nat×Nat×Nat)} {lo hi:Nat},Cov L lo hi->lo+L.length<=hi
 | [],lo,_,h=>by cases h;simp
 | (s,n,_)::L,lo,hi,h=>by
  obtain ⟨_,h2,h3⟩:=h
  have:=Cov.le h3
  rw [List.length_cons]
  lia
theorem Cov.mem:∀ {L:List (Nat×Nat×Nat)} {lo hi:Nat} {x:Nat×Nat×Nat},Cov L lo hi->x∈L->lo<=x.1/\x.1+x.2.1<=hi
 | (s,n,_)::L,lo,hi,x,h,hx=>by
  obtain ⟨h1,h2,h3⟩:=h
  rcases List.mem_cons.mp hx with rfl|hx
  ·have:=Cov.le h3
   exact ⟨by dsimp only;lia,by dsimp only;lia⟩
  ·have:=Cov.mem h3 hx
   exact ⟨by lia,this.2⟩
structure Rn (κ:SortKind) (rk:Value->Int) (a₀:Array Keyed) (hi:Nat) (st:SortSt):Prop where
 pm:(arrOf st).Perm a₀
 kd:kindOf st=κ
 fl:failedOf st=none
 cv:Cov (pendingOf st).toList 0 hi
 so:∀ x∈(pendingOf st).toList,Asc rk (arrOf st) x.1 (x.1+x.2.1)
 le:hi<=a₀.size
variable {prog:Program} {w:World} {A:Around} {E:Value->Shared->Prop} {s:Shared} {κ:SortKind} {a₀:Array Keyed}
theorem zcj_ {σ:Type} {M:Model} {c st:σ} {Q:PUnit->σ->Prop} (h:Q ⟨⟩ c):wpS M A E s (set c:StateT σ Sem PUnit) Q st:=by
 unfold wpS;rw [StateT.run_set];exact wpAny_pure ⟨rfl,h⟩
theorem Q8_ (i:Nat):mergeAt' i=(do
  let st <-get
  match ((pendingOf st)[i]?,(pendingOf st)[i+1]?) with
  | (some (sa,na,pw),some (sb,nb,_))=>do
   set (setPending st (((pendingOf st).setIfInBounds i (sa,na+nb,pw)).eraseIdxIfInBounds (i+1)))
   let x <-elem' (arrOf st) sb
   match <-uf_ false x (arrOf st) sa na 0 with
   | some k =>
    if (na - k==0)=true then pure true
    else do
     let y <-elem' (arrOf st) (sa+k+(na - k) - 1)
     match <-uf_ true y (arrOf st) sb nb (nb - 1) with
     | some n =>
      if (n==0)=true then pure true
      else if na - k<=n then do
       let r <-JW_ ((arrOf st).extract (sa+k) sb) ((arrOf st).extract sb (sb+n))
       modify fun c=>setArr c (putAll r.toList (sa+k) 0 (arrOf c))
       pure (failedOf (<-get)).isNone
      else do
       let r <-JX_ ((arrOf st).extract (sa+k) sb) ((arrOf st).extract sb (sb+n))
       modify fun c=>setArr c (putAll r.toList (sa+k) 0 (arrOf c))
       pure (failedOf (<-get)).isNone
     | _=>pure false
   | _=>pure false
  | _=>liftM (unsupported "internal:list.sort.pending" : Sem Bool)):=by
 kernel_rfl
end
section
variable {rk:Value->Int} {prog:Program} {w:World} {A:Around} {E:Value->Shared->Prop} {s:Shared} {κ:SortKind} {a₀:Array Keyed}
theorem zdT_ {P:Runs} {i:Nat} (h:i+1<P.size):∃ L x y R,P.toList=L++x::y::R/\L.length=i/\P[i]? = some x/\P[i+1]? = some y:=by
 have h':i+1<P.toList.length:=by simpa using h
 refine ⟨P.toList.take i,P[i],P[i+1],P.toList.drop (i+2),?_,by rw [List.length_take];lia,Array.getElem?_eq_getElem _,Array.getElem?_eq_getElem _⟩
 have e1:P.toList.drop i=P[i]::P.toList.drop (i+1):=by rw [List.drop_eq_getElem_cons (by lia)];simp
 have e2:P.toList.drop (i+1)=P[i+1]::P.toList.drop (i+2):=by rw [List.drop_eq_getElem_cons h'];simp
 rw [<-e2,<-e1,List.take_append_drop]
theorem zcl_ {P:Runs} {i:Nat} {L R:List (Nat×Nat×Nat)} {x y z:Nat×Nat×Nat} (e:P.toList=L++x::y::R) (hl:L.length=i):((P.setIfInBounds i z).eraseIdxIfInBounds (i+1)).toList=L++z::R:=by
 have hs:i+1<P.size:=by
  rw [<-Array.length_toList,e]
  simp
  lia
 have hs2:i+1<(P.setIfInBounds i z).size:=by rw [Array.size_setIfInBounds];exact hs
 unfold Array.eraseIdxIfInBounds
 rw [dif_pos hs2,Array.toList_eraseIdx,Array.toList_setIfInBounds,e,<-hl]
 rw [List.set_append_right _ _ (Nat.le_refl _),Nat.sub_self,List.set_cons_zero,List.eraseIdx_append_of_length_le (by lia),Nat.add_sub_cancel_left]
 rfl
theorem zaC_ {xs ys:Array Keyed} {sa m sb n hi:Nat} (h1:sa<=m) (h2:m<=sb) (h3:sb<=n) (h4:n<=hi) (oa:Asc rk xs sa sb) (ob:Asc rk xs sb hi)
  (k1:∀ t,t<m->kr rk ys t=kr rk xs t) (k2:∀ t,n<=t->kr rk ys t=kr rk xs t) (om:Asc rk ys m n) (mem:∀ t,m<=t->t<n->∃ u,m<=u/\u<n/\kr rk ys t=kr rk xs u)
  (lo:∀ t,sa<=t->t<m->sb<hi->kr rk xs t<=kr rk xs sb) (up:∀ t,n<=t->t<hi->m<sb->kr rk xs (sb - 1)<=kr rk xs t) (lu:∀ t u,sa<=t->t<m->n<=u->u<hi->kr rk xs t<=kr rk xs u):Asc rk ys sa hi:=fun i j hi' hij hj=>by
 have pm:∀ t u,sa<=t->t<m->m<=u->u<n->kr rk xs t<=kr rk xs u:=fun t u a1 a2 a3 a4=>by
  by_cases c:u<sb
  ·exact oa t u a1 (by lia) c
  ·have:=lo t a1 a2 (by lia)
   have:=ob sb u (Nat.le_refl _) (by lia) (by lia)
   lia
 have pu:∀ t u,m<=t->t<n->n<=u->u<hi->kr rk xs t<=kr rk xs u:=fun t u a1 a2 a3 a4=>by
  by_cases c:t<sb
  ·have:=oa t (sb - 1) (by lia) (by lia) (by lia)
   have:=up u a3 a4 (by lia)
   lia
  ·exact ob t u (by lia) (by lia) a4
 by_cases c1:i<m
 ·rw [k1 i c1]
  by_cases c2:j<m
  ·rw [k1 j c2];exact oa i j hi' hij (by lia)
  ·by_cases c3:j<n
   ·obtain ⟨u,u1,u2,e⟩:=mem j (by lia) c3
    rw [e];exact pm i u hi' c1 u1 u2
   ·rw [k2 j (by lia)]
    exact lu i j hi' c1 (by lia) hj
 ·by_cases c3:j<n
  ·exact om i j (by lia) hij c3
  ·rw [k2 j (by lia)]
   by_cases c4:i<n
   ·obtain ⟨u,u1,u2,e⟩:=mem i (by lia) c4
    rw [e];exact pu u j u1 u2 (by lia) hj
   ·rw [k2 i (by lia)];exact ob i j (by lia) hij hj
theorem Ww_ {xs:Array Keyed} {i:Nat} {p:Keyed} (h:xs.Perm a₀) (e:xs[i]? = some p):p∈a₀.toList :=
 (Array.perm_iff_toList_perm.mp h).mem_iff.mp (by
  obtain ⟨hl,e⟩:=Array.getElem?_eq_some_iff.mp e
  rw [<-e];simp)
theorem YB_ {xs:Array Keyed} (h:xs.Perm a₀):∀ p∈xs.toList,p∈a₀.toList:=fun p hp=>(Array.perm_iff_toList_perm.mp h).mem_iff.mp hp
theorem Wv_ {xs:Array Keyed} {a e:Nat} (h:xs.Perm a₀):∀ p∈(xs.extract a e).toList,p∈a₀.toList:=fun p hp=>by
 rw [Array.toList_extract,List.extract_eq_take_drop] at hp
 exact YB_ h p (List.mem_of_mem_drop (List.mem_of_mem_take hp))
theorem W8_ {st st':SortSt} {hi i sa na pw sb nb pb k n:Nat} {L R:List (Nat×Nat×Nat)} {r:Array Keyed} (h:Rn κ rk a₀ hi st) (e:(pendingOf st).toList=L++(sa,na,pw)::(sb,nb,pb)::R) (hl:L.length=i)
  (hk:k<=na) (hn:n<=nb) (kR1:∀ t,t<k->kr rk (arrOf st) (sa+t)<=kr rk (arrOf st) sb) (kL2:∀ t,n<=t->t<nb->k<na->kr rk (arrOf st) (sb - 1)<=kr rk (arrOf st) (sb+t)) (hnn:k=na->n=0)
  (hr:Srt rk (((arrOf st).extract (sa+k) sb).toList++((arrOf st).extract sb (sb+n)).toList) r.toList)
  (e1:arrOf st'=putAll r.toList (sa+k) 0 (arrOf st)) (e2:pendingOf st'=((pendingOf st).setIfInBounds i (sa,na+nb,pw)).eraseIdxIfInBounds (i+1)) (e3:kindOf st'=κ) (e4:failedOf st'=none) :
  Rn κ rk a₀ hi st'/\(pendingOf st').size+1=(pendingOf st).size/\∀ t,hi<=t->(arrOf st')[t]? = (arrOf st)[t]?:=by
 have cv:=h.cv
 rw [e] at cv
 obtain ⟨m0,c1,c2⟩:=Cov.split cv
 obtain ⟨rfl,na1,rfl,nb1,c3⟩:=c2
 have hsz:(arrOf st).size=a₀.size:=h.pm.size_eq
 have lhi:=Cov.le c3
 have hle:=h.le
 have oa:Asc rk (arrOf st) sa (sa+na):=h.so (sa,na,pw) (by rw [e];simp)
 have ob:Asc rk (arrOf st) (sa+na) (sa+na+nb):=h.so (sa+na,nb,pb) (by rw [e];simp)
 have rl:r.toList.length=(na - k)+n:=by
  rw [hr.2.length_eq,List.length_append,Array.length_toList,Array.length_toList,Array.size_extract,Array.size_extract]
  lia
 have fits:sa+k+r.toList.length<=(arrOf st).size:=by lia
 have at_:∀ t,(arrOf st')[t]? = if sa+k<=t/\t<sa+na+n then r.toList[t - (sa+k)]? else (arrOf st)[t]?:=fun t=>by
  rw [e1,Zz_ _ _ _ _ (by lia),rl]
  simp only [Nat.add_zero]
  congr 1
  rw [show sa+k+(na - k+n)=sa+na+n by lia]
 have kin:∀ t,¬ (sa+k<=t/\t<sa+na+n)->kr rk (arrOf st') t=kr rk (arrOf st) t:=fun t ht=>ZJ_ (by rw [at_,if_neg ht])
 have seg:((arrOf st).extract (sa+k) (sa+na)).toList++((arrOf st).extract (sa+na) (sa+na+n)).toList=((arrOf st).toList.drop (sa+k)).take (na - k+n):=by
  rw [Array.toList_extract,Array.toList_extract,List.extract_eq_take_drop,List.extract_eq_take_drop,List.take_add,List.drop_drop]
  congr 2
  ·lia
  ·lia
  ·congr 1;lia
 have perm:(arrOf st').Perm (arrOf st):=by
  rw [Array.perm_iff_toList_perm,e1,Zy_ fits]
  have e5:(arrOf st).toList=(arrOf st).toList.take (sa+k)++(((arrOf st).toList.drop (sa+k)).take (na - k+n)++(arrOf st).toList.drop (sa+k+r.toList.length)):=by
   rw [rl]
   generalize sa+k=u
   rw [<-List.drop_drop,List.take_append_drop,List.take_append_drop]
  conv=>rhs;rw [e5]
  exact (List.Perm.append_left _ ((hr.2.trans (by rw [seg])).append_right _))
 have krr:∀ t,sa+k<=t->t<sa+na+n->∃ hh:t - (sa+k)<r.toList.length,kr rk (arrOf st') t=rk (r.toList[t - (sa+k)]'hh).1:=fun t t1 t2=>by
  refine ⟨by lia,jh_ ?_⟩
  rw [at_,if_pos ⟨t1,t2⟩,List.getElem?_eq_getElem]
 have asc:Asc rk (arrOf st') sa (sa+na+nb):=by
  refine zaC_ (m:=sa+k) (sb:=sa+na) (n:=sa+na+n) (by lia) (by lia) (by lia) (by lia) oa ob (fun t ht=>kin t (by lia)) (fun t ht=>kin t (by lia)) ?_ ?_ ?_ ?_ ?_
  ·intro i j a1 a2 a3
   obtain ⟨p1,q1⟩:=krr i a1 (by lia)
   obtain ⟨p2,q2⟩:=krr j (by lia) a3
   rw [q1,q2]
   by_cases c:i=j
   ·subst c;exact Int.le_refl _
   ·exact List.pairwise_iff_getElem.mp hr.1 _ _ p1 p2 (by lia)
  ·intro t t1 t2
   obtain ⟨p1,q1⟩:=krr t t1 t2
   have hm:=hr.2.mem_iff.mp (List.getElem_mem p1)
   rcases List.mem_append.mp hm with hm|hm
   ·obtain ⟨u,u1,u2,_,eu⟩:=JY_ (rk:=rk) hm
    exact ⟨u,u1,by lia,by rw [q1,eu]⟩
   ·obtain ⟨u,u1,u2,_,eu⟩:=JY_ (rk:=rk) hm
    exact ⟨u,by lia,u2,by rw [q1,eu]⟩
  ·intro t t1 t2 _
   have:=kR1 (t - sa) (by lia)
   rwa [show sa+(t - sa)=t by lia] at this
  ·intro t t1 t2 t3
   have:=kL2 (t - (sa+na)) (by lia) (by lia) (by lia)
   rwa [show sa+na+(t - (sa+na))=t by lia] at this
  ·intro t u t1 t2 u1 u2
   have:=kR1 (t - sa) (by lia)
   rw [show sa+(t - sa)=t by lia] at this
   have:=ob (sa+na) u (Nat.le_refl _) (by lia) u2
   lia
 have pl:(pendingOf st').toList=L++(sa,na+nb,pw)::R:=by rw [e2];exact zcl_ e hl
 refine ⟨⟨perm.trans h.pm,e3,e4,?_,fun x hx=>?_,hle⟩,?_,fun t ht=>by rw [at_,if_neg (by lia)]⟩
 ·rw [pl]
  exact Cov.join c1 ⟨rfl,by lia,by rw [<-Nat.add_assoc];exact c3⟩
 ·rw [pl] at hx
  rcases List.mem_append.mp hx with hx|hx
  ·have o:=h.so x (by rw [e];exact List.mem_append_left _ hx)
   have:=Cov.mem c1 hx
   exact fun i j a1 a2 a3=>by rw [kin i (by lia),kin j (by lia)];exact o i j a1 a2 a3
  ·rcases List.mem_cons.mp hx with rfl|hx
   ·dsimp only
    rw [<-Nat.add_assoc];exact asc
   ·have o:=h.so x (by rw [e];exact List.mem_append_right _ (List.mem_cons_of_mem _ (List.mem_cons_of_mem _ hx)))
    have:=Cov.mem c3 hx
    exact fun i j a1 a2 a3=>by rw [kin i (by lia),kin j (by lia)];exact o i j a1 a2 a3
 ·rw [<-Array.length_toList,<-Array.length_toList,pl,e]
  simp
  lia
theorem Jl_ {st:SortSt} {hi i:Nat} {Q:Bool->SortSt->Prop} (hC:Cmps prog w A s κ rk a₀) (h:Rn κ rk a₀ hi st) (hi2:i+1<(pendingOf st).size)
  (q:∀ st',Rn κ rk a₀ hi st'->(pendingOf st').size+1=(pendingOf st).size->(∀ t,hi<=t->(arrOf st')[t]? = (arrOf st)[t]?)->Q true st'):wpS (model prog w) A E s (mergeAt' i) Q st:=by
 obtain ⟨L,⟨sa,na,pw⟩,⟨sb,nb,pb⟩,R,e,hl,g1,g2⟩:=zdT_ hi2
 have cv:=h.cv
 rw [e] at cv
 obtain ⟨m0,c1,c2⟩:=Cov.split cv
 obtain ⟨rfl,na1,rfl,nb1,c3⟩:=c2
 have hsz:(arrOf st).size=a₀.size:=h.pm.size_eq
 have lhi:=Cov.le c3
 have hle:=h.le
 have oa:Asc rk (arrOf st) sa (sa+na):=h.so (sa,na,pw) (by rw [e];simp)
 have ob:Asc rk (arrOf st) (sa+na) (sa+na+nb):=h.so (sa+na,nb,pb) (by rw [e];simp)
 rw [Q8_]
 refine wpS_bind (wpS_get ?_)
 rw [g1,g2]
 dsimp only
 refine wpS_bind (zcj_ ?_)
 have s0:S0 κ (arrOf st) (((pendingOf st).setIfInBounds i (sa,na+nb,pw)).eraseIdxIfInBounds (i+1)) (setPending st (((pendingOf st).setIfInBounds i (sa,na+nb,pw)).eraseIdxIfInBounds (i+1))):=⟨h.kd,rfl,rfl,h.fl⟩
 have ex:(arrOf st)[sa+na]? = some ((arrOf st)[sa+na]'(by lia)):=Array.getElem?_eq_getElem _
 refine wpS_bind (js_ ex (wpS_bind (yL_ hC s0.kd (Ww_ h.pm ex) (by lia) (YB_ h.pm) oa (by lia) fun k k1 k2 k3=>?_)))
 rw [<-jh_ (rk:=rk) ex] at k2 k3
 dsimp only
 split
 ·rename_i z
  have z':na - k=0:=by simpa using z
  have ek:k=na:=by lia
  subst ek
  have f:=W8_ (st':=setPending st (((pendingOf st).setIfInBounds i (sa,k+nb,pw)).eraseIdxIfInBounds (i+1))) (r:=#[]) (n:=0) h e hl k1 (Nat.zero_le _) k2 (fun t _ _ z=>absurd z (Nat.lt_irrefl _)) (fun _=>rfl) ⟨.nil,by simp [Array.toList_extract,List.extract_eq_take_drop]⟩ rfl rfl h.kd h.fl
  exact wpS_pure (q _ f.1 f.2.1 f.2.2)
 ·rename_i z
  have z':na - k≠0:=by simpa using z
  have ey:(arrOf st)[sa+k+(na - k) - 1]? = some ((arrOf st)[sa+k+(na - k) - 1]'(by lia)):=Array.getElem?_eq_getElem _
  refine wpS_bind (js_ ey (wpS_bind (yM_ hC s0.kd (Ww_ h.pm ey) (by lia) (YB_ h.pm) ob (by lia) fun n n1 n2 n3=>?_)))
  rw [<-jh_ (rk:=rk) ey,show sa+k+(na - k) - 1=sa+na - 1 by lia] at n2 n3
  have kL2:∀ t,n<=t->t<nb->k<na->kr rk (arrOf st) (sa+na - 1)<=kr rk (arrOf st) (sa+na+t):=fun t a1 a2 _=>n3 t a1 a2
  dsimp only
  split
  ·rename_i y
   have y':n=0:=by simpa using y
   subst y'
   have f:=W8_ (st':=setPending st (((pendingOf st).setIfInBounds i (sa,na+nb,pw)).eraseIdxIfInBounds (i+1))) (r:=(arrOf st).extract (sa+k) (sa+na)) (n:=0) h e hl k1 (Nat.zero_le _) k2 kL2 (fun z=>by lia) ⟨?_,by simp [Array.toList_extract,List.extract_eq_take_drop]⟩ ?_ rfl h.kd h.fl
   ·exact wpS_pure (q _ f.1 f.2.1 f.2.2)
   ·refine uO_ fun i j a1 a2 a3=>?_
    rw [Array.size_extract] at a3
    rw [uY_ (by lia) (by lia),uY_ (by lia) (by lia)]
    exact oa _ _ (by lia) (by lia) (by lia)
   ·show arrOf st=_
    apply Array.ext'
    rw [Zy_ (by rw [Array.length_toList,Array.size_extract];lia),Array.length_toList,Array.size_extract,Array.toList_extract,List.extract_eq_take_drop]
    rw [show min (sa+na) (arrOf st).size - (sa+k)=sa+na - (sa+k) by lia]
    generalize sa+na - (sa+k)=v
    generalize sa+k=u
    rw [<-List.drop_drop,List.take_append_drop,List.take_append_drop]
  ·rename_i y
   have y':n≠0:=by simpa using y
   have tw:Two rk a₀ ((arrOf st).extract (sa+k) (sa+na)) ((arrOf st).extract (sa+na) (sa+na+n)):=by
    have z1:((arrOf st).extract (sa+k) (sa+na)).size=na - k:=by rw [Array.size_extract];lia
    have z2:((arrOf st).extract (sa+na) (sa+na+n)).size=n:=by rw [Array.size_extract];lia
    refine ⟨fun i j a1 a2 a3=>?_,fun i j a1 a2 a3=>?_,Wv_ h.pm,Wv_ h.pm,by lia,by lia,fun i a1=>?_,fun j a1=>?_⟩
    ·rw [uY_ (by lia) (by lia),uY_ (by lia) (by lia)]
     exact oa _ _ (by lia) (by lia) (by lia)
    ·rw [uY_ (by lia) (by lia),uY_ (by lia) (by lia)]
     exact ob _ _ (by lia) (by lia) (by lia)
    ·rw [uY_ (by lia) (by lia),uY_ (by lia) (by lia)]
     have:=k3 (k+i) (by lia) (by lia)
     rw [<-Nat.add_assoc] at this
     rw [Nat.add_zero]
     lia
    ·rw [z1,uY_ (by lia) (by lia),uY_ (by lia) (by lia)]
     have:=n2 j (by lia)
     rw [show sa+k+(na - k - 1)=sa+na - 1 by lia]
     lia
   have last:∀ (r:Array Keyed) (st2:SortSt),Res κ rk ((arrOf st).extract (sa+k) (sa+na)) ((arrOf st).extract (sa+na) (sa+na+n)) (arrOf st) (((pendingOf st).setIfInBounds i (sa,na+nb,pw)).eraseIdxIfInBounds (i+1)) r st2 ->
     wpS (model prog w) A E s (do modify fun c=>setArr c (putAll r.toList (sa+k) 0 (arrOf c));pure (failedOf (<-get)).isNone) Q st2:=fun r st2 hr=>by
    refine wpS_bind (wpS_modify (wpS_bind (wpS_get (wpS_pure ?_))))
    have f:=W8_ (st':=setArr st2 (putAll r.toList (sa+k) 0 (arrOf st2))) (r:=r) (n:=n) h e hl k1 n1 k2 kL2 (fun z=>by lia) hr.2 (by show putAll _ _ _ (arrOf st2)=_;rw [hr.1.ar]) hr.1.pe hr.1.kd hr.1.fl
    have ef:(failedOf (setArr st2 (putAll r.toList (sa+k) 0 (arrOf st2)))).isNone=true:=by
     show (failedOf st2).isNone=true
     rw [hr.1.fl];rfl
    rw [ef]
    exact q _ f.1 f.2.1 f.2.2
   split
   ·exact wpS_bind (Q4_ hC tw s0 last)
   ·exact wpS_bind (Q6_ hC tw s0 last)
end
noncomputable abbrev Cu:=Option Unit×Unit
noncomputable def colW (pw:Nat):SM' (ForInStep Cu):=do
 let st <-get
 match (if (pendingOf st).size>1 then (pendingOf st)[(pendingOf st).size - 2]? else none) with
 | some (_,_,o) =>
  if o<=pw then pure (.done (none,()))
  else do
   let b <-mergeAt' ((pendingOf st).size - 2)
   if (!b)=true then pure (.done (some (),())) else pure (.yield (none,()))
 | _=>pure (.done (none,()))
noncomputable def addW (lo n:Nat):SM' (ForInStep (Option Unit×Nat)):=do
 modify fun c=>setPending c ((pendingOf c).push (lo,n,0))
 pure (.yield (none,lo+n))
noncomputable def X6_ (z lo n:Nat):SM' (ForInStep (Option Unit×Nat)):=do
 let st <-get
 match (pendingOf st).back? with
 | some (s1,n1,_)=>do
  let c <-forIn [0:z] ((none,()):Cu) fun _ _=>colW (power' z (2*s1+n1) (2*s1+n1+n1+n) z)
  match c.1 with
  | some r=>pure (.done (some r,lo))
  | none=>do
   modify fun c=>setPending c ((pendingOf c).modify ((pendingOf c).size - 1) fun x=>(x.1,x.2.1,power' z (2*s1+n1) (2*s1+n1+n1+n) z))
   addW lo n
 | _=>addW lo n
noncomputable def WC_ (P:Runs):Nat:=if ((if P.size - 2>0 then P[P.size - 2 - 1]?.map (·.2.1) else none).any (· < (P[P.size - 2+1]?.elim 0 (·.2.1))))=true then P.size - 2 - 1 else P.size - 2
noncomputable def zfF_:SM' (ForInStep Cu):=do
 let st <-get
 if (pendingOf st).size<=1 then pure (.done (none,()))
 else do
  let b <-mergeAt' (WC_ (pendingOf st))
  if (!b)=true then pure (.done (some (),())) else pure (.yield (none,()))
theorem zcs_:sortRuns'=(do
  let st <-get
  let c <-forIn [0:(arrOf st).size] ((none,0):Option Unit×Nat) fun _ c =>
   if c.2>=(arrOf st).size then pure (.done (none,c.2))
   else do
    match <-countRun' c.2 ((arrOf st).size - c.2) with
    | some f =>
     if f<minRun' (arrOf st).size (arrOf st).size 0 then do
      liftM (rule "list.sort.binary-insertion")
      let b <-binarySort' c.2 (min ((arrOf st).size - c.2) (minRun' (arrOf st).size (arrOf st).size 0)) f
      if (!b)=true then pure (.done (some (),c.2))
      else X6_ (arrOf st).size c.2 (min ((arrOf st).size - c.2) (minRun' (arrOf st).size (arrOf st).size 0))
     else X6_ (arrOf st).size c.2 f
    | _=>pure (.done (some (),c.2))
  match c.1 with
  | some r=>pure r
  | none=>do
   let c <-forIn [0:(arrOf st).size] ((none,()):Cu) fun _ _=>zfF_
   match c.1 with
   | some r=>pure r
   | none=>pure ()):=by
 kernel_rfl
section
variable {rk:Value->Int} {prog:Program} {w:World} {A:Around} {E:Value->Shared->Prop} {s:Shared} {κ:SortKind} {a₀:Array Keyed}
def Rp (κ:SortKind) (rk:Value->Int) (a₀:Array Keyed) (lo n:Nat) (st:SortSt):Prop:=Rn κ rk a₀ lo st/\1<=n/\lo+n<=a₀.size/\Asc rk (arrOf st) lo (lo+n)
theorem zcf_ {st:SortSt} {lo n:Nat} {Q:ForInStep (Option Unit×Nat)->SortSt->Prop} (h:Rp κ rk a₀ lo n st) (q:∀ st',Rn κ rk a₀ (lo+n) st'->Q (.yield (none,lo+n)) st'):wpS (model prog w) A E s (addW lo n) Q st:=by
 obtain ⟨r,n1,le,o⟩:=h
 unfold addW
 refine wpS_bind (wpS_modify (wpS_pure (q _ ⟨r.pm,r.kd,r.fl,?_,fun x hx=>?_,le⟩)))
 ·show Cov ((pendingOf st).push (lo,n,0)).toList 0 (lo+n)
  rw [Array.toList_push]
  exact Cov.join r.cv ⟨rfl,n1,rfl⟩
 ·have hx':x∈((pendingOf st).push (lo,n,0)).toList:=hx
  rw [Array.toList_push] at hx'
  rcases List.mem_append.mp hx' with hx|hx
  ·exact r.so x hx
  ·rw [List.mem_singleton.mp hx];exact o
theorem Cov.mod {f:Nat×Nat×Nat->Nat×Nat×Nat} (hf:∀ x,(f x).1=x.1/\(f x).2.1=x.2.1):∀ (L:List (Nat×Nat×Nat)) (i lo hi:Nat),Cov L lo hi->Cov (L.modify i f) lo hi
 | [],i,lo,hi,h=>by simpa using h
 | (a,n,p)::L,0,lo,hi,h=>by
  rw [List.modify_zero_cons]
  obtain ⟨h1,h2⟩:=hf (a,n,p)
  generalize f (a,n,p)=y at h1 h2
  obtain ⟨b,m,r⟩:=y
  dsimp only at h1 h2
  subst h1 h2
  exact h
 | (a,n,p)::L,i+1,lo,hi,h=>by
  rw [List.modify_succ_cons]
  exact ⟨h.1,h.2.1,Cov.mod hf L i _ _ h.2.2⟩
theorem Wu_ {f:Nat×Nat×Nat->Nat×Nat×Nat} (hf:∀ x,(f x).1=x.1/\(f x).2.1=x.2.1):∀ (L:List (Nat×Nat×Nat)) (i:Nat) (x:Nat×Nat×Nat),x∈L.modify i f->∃ y∈L,x.1=y.1/\x.2.1=y.2.1
 | [],i,x,h=>by simp at h
 | y::L,0,x,h=>by
  rw [List.modify_zero_cons] at h
  rcases List.mem_cons.mp h with rfl|h
  ·exact ⟨y,List.mem_cons_self,hf y⟩
  ·exact ⟨x,List.mem_cons_of_mem _ h,rfl,rfl⟩
 | y::L,i+1,x,h=>by
  rw [List.modify_succ_cons] at h
  rcases List.mem_cons.mp h with rfl|h
  ·exact ⟨x,List.mem_cons_self,rfl,rfl⟩
  ·obtain ⟨z,hz,e⟩:=Wu_ hf L i x h
   exact ⟨z,List.mem_cons_of_mem _ hz,e⟩
theorem V2_ {st:SortSt} {z lo n:Nat} {Q:ForInStep (Option Unit×Nat)->SortSt->Prop} (hC:Cmps prog w A s κ rk a₀) (h:Rp κ rk a₀ lo n st) (q:∀ st',Rn κ rk a₀ (lo+n) st'->Q (.yield (none,lo+n)) st'):wpS (model prog w) A E s (X6_ z lo n) Q st:=by
 unfold X6_
 refine wpS_bind (wpS_get ?_)
 split
 ·refine wpS_bind (wpS_mono (wpS_forRange (I:=fun x c st'=>c=(none,())/\Rp κ rk a₀ lo n st') (Q:=fun c st'=>c=(none,())/\Rp κ rk a₀ lo n st') (fun x c st' _ _ I=>?_) (fun c st' I=>I) ⟨rfl,h⟩) fun c st' I=>?_)
  ·obtain ⟨rfl,r,n1,le,o⟩:=I
   unfold colW
   refine wpS_bind (wpS_get ?_)
   split
   ·rename_i g
    split
    ·exact wpS_pure ⟨rfl,r,n1,le,o⟩
    ·have hs:(pendingOf st').size>1:=by
      rcases Nat.lt_or_ge 1 (pendingOf st').size with c|c
      ·exact c
      ·rw [if_neg (by lia)] at g;cases g
     refine wpS_bind (Jl_ hC r (by lia) fun st2 r2 _ k2=>?_)
     refine wpS_pure ⟨rfl,r2,n1,le,fun i j a1 a2 a3=>?_⟩
     rw [ZJ_ (k2 i a1),ZJ_ (k2 j (by lia))]
     exact o i j a1 a2 a3
   ·exact wpS_pure ⟨rfl,r,n1,le,o⟩
  ·obtain ⟨rfl,r,n1,le,o⟩:=I
   dsimp only
   refine wpS_bind (wpS_modify (zcf_ ⟨⟨r.pm,r.kd,r.fl,?_,fun x hx=>?_,r.le⟩,n1,le,o⟩ q))
   ·show Cov ((pendingOf st').modify _ _).toList 0 lo
    rw [Array.toList_modify]
    refine Cov.mod ?_ _ _ _ _ r.cv
    exact fun _=>⟨rfl,rfl⟩
   ·have hx':x∈((pendingOf st').modify _ _).toList:=hx
    rw [Array.toList_modify] at hx'
    have mm:=fun (c:Nat)=>Wu_ (f:=fun x=>(x.1,x.2.1,c)) (fun _=>⟨rfl,rfl⟩) (pendingOf st').toList ((pendingOf st').size - 1) x
    obtain ⟨y,hy,e1,e2⟩:=mm _ hx'
    rw [e1,e2]
    exact r.so y hy
 ·exact zcf_ h q
theorem WB_ {P:Runs} (h:1<P.size):WC_ P+1<P.size:=by
 unfold WC_
 by_cases d:P.size - 2>0
 ·split<;>split<;>omega
 ·rw [if_neg d,if_neg (by simp)]
  omega
theorem zcr_ {st:SortSt} {Q:Unit->SortSt->Prop} (hC:Cmps prog w A s κ rk a₀) (h2:1<=a₀.size) (h:Rn κ rk a₀ 0 st) (q:∀ st',(arrOf st').Perm a₀->failedOf st'=none->Asc rk (arrOf st') 0 a₀.size->Q () st'):wpS (model prog w) A E s sortRuns' Q st:=by
 rw [zcs_]
 refine wpS_bind (wpS_get ?_)
 have hsz:(arrOf st).size=a₀.size:=h.pm.size_eq
 rw [hsz]
 refine wpS_bind (wpS_mono (wpS_forRange (I:=fun x c st'=>∃ lo,c=(none,lo)/\Rn κ rk a₀ lo st'/\(x<=lo\/lo=a₀.size)) (Q:=fun c st'=>c=(none,a₀.size)/\Rn κ rk a₀ a₀.size st') (fun x c st' _ hx I=>?_) (fun c st' I=>?_) ⟨0,rfl,h,.inl (Nat.le_refl _)⟩) fun c st' I=>?_)
 ·obtain ⟨lo,rfl,r,hl⟩:=I
  have rle:=r.le
  dsimp only
  split
  ·have e:lo=a₀.size:=by lia
   subst e
   exact wpS_pure ⟨rfl,r⟩
  ·rename_i c
   have sb:SB κ a₀ lo (arrOf st') (pendingOf st') st':=⟨r.pm,r.kd,r.fl,fun _ _=>rfl,rfl⟩
   have back:∀ st2 n,SB κ a₀ lo (arrOf st') (pendingOf st') st2->1<=n->lo+n<=a₀.size->Asc rk (arrOf st2) lo (lo+n)->Rp κ rk a₀ lo n st2:=fun st2 n b n1 n2 o=>by
    refine ⟨⟨b.pm,b.kd,b.fl,by rw [b.pe];exact r.cv,fun x hx=>?_,r.le⟩,n1,n2,o⟩
    rw [b.pe] at hx
    have m:=Cov.mem r.cv hx
    have o:=r.so x hx
    exact fun i j a1 a2 a3=>by rw [ZJ_ (b.kp i (by lia)),ZJ_ (b.kp j (by lia))];exact o i j a1 a2 a3
   refine wpS_bind (zeB_ hC (by lia) (by lia) sb fun m st2 ⟨b2,m1,m2,o2⟩=>?_)
   dsimp only
   split
   ·refine wpS_bind (wpS_lift (wpAny_rule ⟨rfl,wpS_bind (zgq_ hC (by lia) (by lia) b2 o2 fun st3 b3 o3=>?_)⟩))
    rw [if_neg (by decide)]
    exact V2_ hC (back st3 _ b3 (by lia) (by lia) o3) fun st4 r4=>⟨_,rfl,r4,.inl (by lia)⟩
   ·exact V2_ hC (back st2 _ b2 m1 (by lia) o2) fun st4 r4=>⟨_,rfl,r4,.inl (by lia)⟩
 ·obtain ⟨lo,rfl,r,hl⟩:=I
  have:=r.le
  have e:lo=a₀.size:=by lia
  subst e
  exact ⟨rfl,r⟩
 ·obtain ⟨rfl,r⟩:=I
  dsimp only
  have hp:(pendingOf st').size<=a₀.size:=by
   have:=Cov.le r.cv
   rw [Array.length_toList] at this
   lia
  refine wpS_bind (wpS_mono (wpS_forRange (I:=fun x c st2=>c=(none,())/\Rn κ rk a₀ a₀.size st2/\(pendingOf st2).size+x<=a₀.size+1) (Q:=fun c st2=>c=(none,())/\Rn κ rk a₀ a₀.size st2/\(pendingOf st2).size<=1) (fun x c st2 _ hx I=>?_) (fun c st2 I=>?_) ⟨rfl,r,by lia⟩) fun c st2 I=>?_)
  ·obtain ⟨rfl,r2,sz⟩:=I
   unfold zfF_
   refine wpS_bind (wpS_get ?_)
   split
   ·rename_i c;exact wpS_pure ⟨rfl,r2,c⟩
   ·rename_i c
    refine wpS_bind (Jl_ hC r2 (WB_ (by lia)) fun st3 r3 z3 _=>?_)
    exact wpS_pure ⟨rfl,r3,by lia⟩
  ·obtain ⟨rfl,r2,sz⟩:=I
   exact ⟨rfl,r2,by lia⟩
  ·obtain ⟨rfl,r2,sz⟩:=I
   dsimp only
   refine wpS_pure (q st2 r2.pm r2.fl ?_)
   have cv:=r2.cv
   have so:=r2.so
   have hl:(pendingOf st2).toList.length<=1:=by rw [Array.length_toList];exact sz
   match hP:(pendingOf st2).toList,hl,cv,so with
   | [],_,cv,_=>have:0=a₀.size:=cv;lia
   | [(a,n,p)],_,cv,so =>
    obtain ⟨rfl,_,e⟩:=cv
    have e':0+n=a₀.size:=e
    have:=so (0,n,p) List.mem_cons_self
    dsimp only at this
    rw [e'] at this
    exact this
   | _::_::_,hl,_,_=>simp at hl
end
noncomputable def mid (s:Shared) (a:Addr) (vs:List Value):Shared:={ s with heap:=((s.heap.update a (Obj.mapSeq fun _=>#[])).push (seqObj "tuple" vs.toArray 0)).push (seqObj "list" #[] 0) }
section
variable {prog:Program} {w:World} {A:Around} {E:Value->Shared->Prop} {s:Shared} {κ:SortKind} {rk:Value->Int}
theorem zax_ {a:Addr} {vs:List Value} {n:Nat} {P:Fin->Shared->Prop} (ho:s.heap.get? a=some (seqObj "list" vs.toArray n)) (hz:vs.length<=sizeLine)
  (hk:2<=vs.length->∀ Q:SortKind->Shared->Prop,Q κ (mid s a vs)->wpAny (model prog w) A (keyKind' vs.toArray) Q E (mid s a vs)) (hC:2<=vs.length->Cmps prog w A (mid s a vs) κ rk (pairsOf vs))
  (h:∀ out:Array Value,out.toList.Perm vs->out.toList.Pairwise (fun x y=>rk x<=rk y)->P (.done (.ret .none)) { s with heap:=sortedHeap s.heap a vs out }):wpAny (model prog w) A (Builtin.«list.sort» ⟨[.ref a],[]⟩) P E s:=by
 have hlt:=Heap.lt_size ho
 obtain ⟨ep,ho1⟩:∃ ep,(s.heap.update a (Obj.mapSeq fun _=>#[])).get? a=some (seqObj "list" #[] ep):=⟨_,get?_update_seq ho fun _=>#[]⟩
 have ho2:(mid s a vs).heap.get? a=some (seqObj "list" #[] ep):=by
  unfold mid
  dsimp only
  rw [Heap.get?_push_ne,Heap.get?_push_ne]
  ·exact ho1
  ·rw [Heap.size_update];exact Nat.ne_of_lt hlt
  ·rw [size_push',Heap.size_update];exact Nat.ne_of_lt (Nat.lt_succ_of_lt hlt)
 rw [list_sort_plain]
 refine wpAny_bind (listItems_at ho rfl (wpAny_bind (listUpdate_at ho rfl (wpAny_bind (seqEpoch_at ho1 rfl (wpAny_bind (wpAny_newTuple (wpAny_bind (wpAny_newList (wpAny_holding ?_)))))))  (by simpa using hz) (Nat.zero_le _))))
 have mem:∀ p∈(pairsOf vs).toList,p.1=p.2/\p.1∈vs:=fun p hp=>by
  rw [pairsOf_toList] at hp
  exact mem_zip_self hp
 have fin:∀ c:SortSt,(arrOf c).Perm (pairsOf vs)->Asc rk (arrOf c) 0 (arrOf c).size->P (.done (.ret .none)) { s with heap:=sortedHeap s.heap a vs ((arrOf c).map (·.2)) }:=fun c hp ha=>by
  have hp':=Array.perm_iff_toList_perm.mp hp
  have e:((arrOf c).map (·.2)).toList=(arrOf c).toList.map (·.1):=by
   rw [Array.toList_map]
   exact List.map_congr_left fun p q=>(mem p (hp'.mem_iff.mp q)).1.symm
  refine h _ ?_ ?_
  ·rw [e]
   have:=hp'.map (·.1)
   rwa [pairsOf_toList,List.map_fst_zip (Nat.le_refl _)] at this
  ·rw [e,List.pairwise_map]
   exact uO_ ha
 have size2:∀ c:SortSt,(arrOf c).Perm (pairsOf vs)->((arrOf c).map (·.2)).size<=sizeLine+1:=fun c hp=>by
  rw [Array.size_map,hp.size_eq,pairsOf_size];lia
 have vz:vs.toArray.size=vs.length:=List.size_toArray ..
 show wpAny (model prog w) A _ P E (mid s a vs)
 by_cases c:vs.length<2
 ·rw [if_pos (by rw [vz];exact c),if_pos (by rw [vz];exact c)]
  refine wpAny_bind (wpAny_pure ?_)
  dsimp only
  rw [StateT.run_pure]
  refine wpAny_bind (wpAny_pure (wpAny_bind (seqEpoch_at ho2 rfl (wpAny_bind (listUpdate_at ho2 rfl ?_ (Nat.zero_le _) (size2 (SortSt.mk' general' (vs.toArray.zip vs.toArray) #[] 7 none) (Array.Perm.refl _)))))))
  rw [if_neg (by simp)]
  refine wpAny_pure (fin (SortSt.mk' general' (vs.toArray.zip vs.toArray) #[] 7 none) (Array.Perm.refl _) fun i j _ ij hj=>?_)
  have hj':j<(pairsOf vs).size:=hj
  rw [pairsOf_size] at hj'
  rw [show i=j by lia]
  exact Int.le_refl _
 ·rw [if_neg (by rw [vz];exact c),if_neg (by rw [vz];exact c)]
  refine wpAny_bind (hk (by lia) _ ?_)
  have so:=zcr_ (E:=E) (hC (by lia)) (by rw [pairsOf_size];lia) (st:=SortSt.mk' κ (vs.toArray.zip vs.toArray) #[] 7 none) (Q:=fun _ c=>(arrOf c).Perm (pairsOf vs)/\failedOf c=none/\Asc rk (arrOf c) 0 (pairsOf vs).size)
   ⟨Array.Perm.refl _,rfl,rfl,rfl,(fun x hx=>by cases hx),Nat.zero_le _⟩ (fun c a1 a2 a3=>⟨a1,a2,a3⟩)
  refine wpAny_bind (wpAny_mono so (fun r s' ⟨e,a1,a2,a3⟩=>?_) fun _ _ e=>e)
  subst e
  obtain ⟨⟨⟩,c⟩:=r
  dsimp only at a1 a2 a3 ⊢
  refine wpAny_bind (seqEpoch_at ho2 rfl (wpAny_bind (listUpdate_at ho2 rfl ?_ (Nat.zero_le _) (size2 c a1))))
  rw [a2]
  dsimp only
  rw [if_neg (by simp)]
  exact wpAny_pure (fin c a1 (by rw [a1.size_eq];exact a3))
theorem zdI_ {l:Addr} {o:Obj} {n:Nat} {vs:List Value} {Q:List Value->Shared->Prop} (ho:s.heap.get? l=some o) (hc:o.cls=.type "list" \/ o.cls=.type "tuple") (hd:o.data=.seq vs.toArray n) (hz:vs.length<=sizeLine)
  (h:Q vs { s with heap:=(s.heap.push (seqObj "list" #[] 0)).update s.heap.objs.size (Obj.mapSeq (· ++ vs.toArray)) }):wpAny (model prog w) A (collect (.ref l)) Q E s:=by
 have ho':(s.heap.push (seqObj "list" #[] 0)).get? l=some o:=Heap.get?_push_of_some _ ho
 have e0:(s.heap.push (seqObj "list" #[] 0)).get? s.heap.objs.size=some (seqObj "list" #[] 0):=Heap.get?_push_size _ rfl
 unfold collect
 refine wpAny_bind (wpAny_runValue (codeAny_builtin entry_proto_collect' ?_))
 show wpAny (model prog w) _ (newList [] >>= fun x=>again (.builtin "list.__iadd__" ⟨[x,.ref l],[]⟩)) _ _ s
 refine wpAny_bind (wpAny_newList (wpAny_pure ⟨Code.quiet_builtin _ (by decide +kernel),codeAny_builtin entry_list_iadd' ?_⟩))
 show wpAny (model prog w) _ (Builtin.List.listExtendWith (.ref s.heap.objs.size) (.ref l) (.ref s.heap.objs.size)) _ _ { s with heap:=s.heap.push (seqObj "list" #[] 0) }
 unfold Builtin.List.listExtendWith
 have sz:(((· ++ vs.toArray):Array Value->Array Value) #[]).size<=sizeLine+1:=by
  show (#[]++vs.toArray).size<=_
  rw [Array.size_append,List.size_toArray]
  simp only [List.size_toArray,List.length_nil]
  lia
 have tail:wpAny (model prog w) A (do
   let o <-load s.heap.objs.size
   match o.data with
   | .seq xs _=>pure xs.toList
   | _=>unsupported "internal:collect") Q E { s with heap:=(s.heap.push (seqObj "list" #[] 0)).update s.heap.objs.size (Obj.mapSeq (· ++ vs.toArray)) }:=by
  refine wpAny_bind (wpAny_load (get?_update_seq e0 _) ?_)
  show wpAny (model prog w) A (pure ((#[]:Array Value)++vs.toArray).toList) Q E _
  rw [show ((#[]:Array Value)++vs.toArray).toList=vs by simp]
  exact wpAny_pure h
 rcases hc with hc|hc
 ·refine wpAny_bind (wpAny_typeOf (T := "list") ⟨o,ho',hc⟩ ?_)
  rw [if_pos (by rw [show (Value.type "list" == Value.type "list")=true from rfl];simp)]
  refine wpAny_bind (listItems_at ho' hd (wpAny_bind (listItems_at (xs:=#[]) (n:=0) e0 rfl ?_)))
  rw [if_neg (by simp)]
  exact wpAny_bind (listUpdate_at (xs:=#[]) (n:=0) e0 rfl (wpAny_pure tail) (Nat.zero_le _) sz)
 ·refine wpAny_bind (wpAny_typeOf (T := "tuple") ⟨o,ho',hc⟩ ?_)
  rw [if_pos (by rw [show (Value.type "tuple" == Value.type "tuple")=true from rfl];simp)]
  refine wpAny_bind (listItems_at ho' hd (wpAny_bind (listItems_at (xs:=#[]) (n:=0) e0 rfl ?_)))
  rw [if_neg (by simp)]
  exact wpAny_bind (listUpdate_at (xs:=#[]) (n:=0) e0 rfl (wpAny_pure tail) (Nat.zero_le _) sz)
noncomputable def uT_ (s:Shared) (vs:List Value):Shared:={ s with heap:=s.heap.push (seqObj "list" vs.toArray 0) }
theorem Z7_ {x:Value} {Q:Value->Shared->Prop} (col:∀ (E':Value->Shared->Prop) (Q':List Value->Shared->Prop),(∀ vs s2,(vs.length<=sizeLine/\∃ (κ:SortKind) (rk:Value->Int),
   (2<=vs.length->∀ (E':Value->Shared->Prop) (Q:SortKind->Shared->Prop),Q κ (mid (uT_ s2 vs) s2.heap.objs.size vs)->wpAny (model prog w) A.in1.in1 (keyKind' vs.toArray) Q E' (mid (uT_ s2 vs) s2.heap.objs.size vs)) /\
   (2<=vs.length->Cmps prog w A.in1.in1 (mid (uT_ s2 vs) s2.heap.objs.size vs) κ rk (pairsOf vs)) /\
   ∀ out:Array Value,out.toList.Perm vs->out.toList.Pairwise (fun x y=>rk x<=rk y)->Q (.ref s2.heap.objs.size) { s2 with heap:=sortedHeap (uT_ s2 vs).heap s2.heap.objs.size vs out })->Q' vs s2)->wpAny (model prog w) A.in1 (collect x) Q' E' s) :
  wpAny (model prog w) A (call (.builtin "sorted") [x]) Q E s:=by
 refine Calls.call_function_entry kind_sorted plain_sorted entry_sorted (args_sorted1 _) ?_
 unfold Builtin.«sorted»
 refine wpAny_bind (m:=checkCount "sorted" 1 1 _) (wpAny_pure (wpAny_bind (col _ _ fun vs s2 ⟨hz,κ,rk,hk,hC,h⟩=>wpAny_bind (wpAny_newList ?_))))
 have hg:(uT_ s2 vs).heap.get? s2.heap.objs.size=some (seqObj "list" vs.toArray 0):=Heap.get?_push_size _ rfl
 show wpAny _ _ _ _ _ (uT_ s2 vs)
 exact wpAny_bind (wpAny_holding (wpAny_call_entry slot_list_sort ⟨_,hg,rfl⟩ entry_list_sort (zax_ hg hz (fun c=>hk c _) hC fun out a1 a2=>⟨_,rfl,wpAny_pure ⟨_,rfl,h out a1 a2⟩⟩) (args_list_sort _)))
theorem Un_ {h:Heap} {a:Addr} {vs:List Value} {out:Array Value} {b:Addr} {o:Obj} (hab:b≠a) (e:h.get? b=some o):(sortedHeap h a vs out).get? b=some o:=by
 have hlt:b<h.objs.size:=Heap.lt_size e
 unfold sortedHeap
 rw [Heap.get?_update_ne _ _ _ _ hab,Heap.get?_push_ne _ _ _ (by rw [size_push',Heap.size_update];exact Nat.ne_of_lt (Nat.lt_succ_of_lt hlt)),Heap.get?_push_ne _ _ _ (by rw [Heap.size_update];exact Nat.ne_of_lt hlt),Heap.get?_update_ne _ _ _ _ hab]
 exact e
theorem QY_ {h:Heap} {a:Addr} {vs:List Value} {out:Array Value} {n:Nat} (ho:h.get? a=some (seqObj "list" vs.toArray n)):∃ e,(sortedHeap h a vs out).get? a=some (seqObj "list" out e):=by
 have hlt:a<h.objs.size:=Heap.lt_size ho
 obtain ⟨ep,e1⟩:∃ ep,(h.update a (Obj.mapSeq fun _=>#[])).get? a=some (seqObj "list" #[] ep):=⟨_,get?_update_seq ho fun _=>#[]⟩
 unfold sortedHeap
 refine ⟨_,get?_update_seq (n:=ep) (xs:=#[]) ?_ fun _=>out⟩
 rw [Heap.get?_push_ne _ _ _ (by rw [size_push',Heap.size_update];exact Nat.ne_of_lt (Nat.lt_succ_of_lt hlt)),Heap.get?_push_ne _ _ _ (by rw [Heap.size_update];exact Nat.ne_of_lt hlt)]
 exact e1
theorem zdi_ {vs:List Value} {b:Addr} {o:Obj} (e:s.heap.get? b=some o):(mid (uT_ s vs) s.heap.objs.size vs).heap.get? b=some o:=by
 have hlt:b<s.heap.objs.size:=Heap.lt_size e
 unfold mid uT_
 dsimp only
 rw [Heap.get?_push_ne _ _ _ (by rw [size_push',Heap.size_update,size_push'];exact Nat.ne_of_lt (Nat.lt_succ_of_lt (Nat.lt_succ_of_lt hlt))),Heap.get?_push_ne _ _ _ (by rw [Heap.size_update,size_push'];exact Nat.ne_of_lt (Nat.lt_succ_of_lt hlt)),Heap.get?_update_ne _ _ _ _ (Nat.ne_of_lt hlt)]
 exact Heap.get?_push_of_some _ e
end
end TS
namespace L4
open PySem PySem.Spec PyProof.Rows L2 L3
section
open HT
theorem Wx_:∀ a:List Int,lexLt a a=false
 | []=>rfl
 | x::a=>by rw [lexLt_cons,if_pos rfl];exact Wx_ a
theorem zaw_:∀ {a b c:List Int},lexLt a b=true->lexLt b c=true->lexLt a c=true
 | [],[],_,h,_=>by cases h
 | [],_::_,[],_,h=>by cases h
 | [],_::_,_::_,_,_=>rfl
 | _::_,[],_,h,_=>by cases h
 | _::_,_::_,[],_,h=>by cases h
 | x::a,y::b,z::c,h1,h2=>by
  rw [lexLt_cons] at h1 h2 ⊢
  by_cases e1:x=y
  ·by_cases e2:y=z
   ·rw [if_pos e1] at h1;rw [if_pos e2] at h2;rw [if_pos (e1.trans e2)]
    exact zaw_ h1 h2
   ·rw [if_neg e2,decide_eq_true_eq] at h2
    rw [if_neg (by omega),decide_eq_true_eq];omega
  ·rw [if_neg e1,decide_eq_true_eq] at h1
   by_cases e2:y=z
   ·rw [if_neg (by omega),decide_eq_true_eq];omega
   ·rw [if_neg e2,decide_eq_true_eq] at h2
    rw [if_neg (by omega),decide_eq_true_eq];omega
theorem Qn_:∀ {a b:List Int},lexLt a b=false->lexLt b a=false->a=b
 | [],[],_,_=>rfl
 | [],_::_,h,_=>by cases h
 | _::_,[],_,h=>by cases h
 | x::a,y::b,h1,h2=>by
  rw [lexLt_cons] at h1 h2
  by_cases e:x=y
  ·rw [if_pos e] at h1;rw [if_pos e.symm] at h2
   rw [e,Qn_ h1 h2]
  ·rw [if_neg e,decide_eq_false_iff_not] at h1
   rw [if_neg (fun z=>e z.symm),decide_eq_false_iff_not] at h2
   omega
theorem zhl_ {a b:List Int} (h:lexLt a b=true):lexLt b a=false:=by
 cases q:lexLt b a with
 | false=>rfl
 | true=>have:=zaw_ h q;rw [Wx_] at this;cases this
end
theorem Xk_ {α:Type} {p q:α->Bool} {l:List α} {x:α} (h:∀ y∈l,p y=true->q y=true) (hx:x∈l) (h1:p x=false) (h2:q x=true):l.countP p<l.countP q:=by
 induction l with
 | nil=>cases hx
 | cons y l ih =>
  have hm:∀ z∈l,p z=true->q z=true:=fun z hz=>h z (List.mem_cons_of_mem _ hz)
  have le:l.countP p<=l.countP q:=List.countP_mono_left hm
  rw [List.countP_cons,List.countP_cons]
  rcases List.mem_cons.mp hx with rfl|hx
  ·rw [h1,h2];simp;omega
  ·have:=ih hm hx
   have hy:=h y List.mem_cons_self
   cases e:p y with
   | false=>simp;omega
   | true=>rw [hy e];simp;omega
noncomputable def rankOf {α:Type} (l:List α) (k:α->List Int) (x:α):Int:=(l.countP fun u=>HT.lexLt (k u) (k x):Nat)
theorem Yq_ {α:Type} {l:List α} {k:α->List Int} {x y:α} (hx:x∈l) (hy:y∈l):decide (rankOf l k x<rankOf l k y)=HT.lexLt (k x) (k y):=by
 have up:∀ x y,x∈l->HT.lexLt (k x) (k y)=true->rankOf l k x<rankOf l k y:=fun x y hx h=>by
  have:=Xk_ (p:=fun u=>HT.lexLt (k u) (k x)) (q:=fun u=>HT.lexLt (k u) (k y)) (l:=l) (fun z _ hz=>zaw_ hz h) hx (Wx_ _) h
  unfold rankOf;omega
 cases e:HT.lexLt (k x) (k y) with
 | true=>exact decide_eq_true (up x y hx e)
 | false =>
  rw [decide_eq_false_iff_not]
  intro z
  cases e2:HT.lexLt (k y) (k x) with
  | true=>have:=up y x hy e2;omega
  | false =>
   have ek:=Qn_ e e2
   unfold rankOf at z
   rw [ek] at z
   omega
noncomputable def Qs_:D->Bool
 | .tuple ds=>match intsOf ds with
  | some (_::_)=>true
  | _=>false
 | _=>false
noncomputable def WP_:D->Bool
 | .int _=>true
 | _=>false
noncomputable def z7_ (ds:List D):Bool:=ds.all WP_||ds.all Qs_
noncomputable def keyD:D->List Int
 | .int i=>[i]
 | .tuple ds=>(intsOf ds).getD []
 | _=>[]
noncomputable def leK (x y:D):Bool:=!HT.lexLt (keyD y) (keyD x)
noncomputable def z5_ (ds:List D):List D:=ds.mergeSort leK
theorem je_ (ds:List D):(z5_ ds).Perm ds:=List.mergeSort_perm ds leK
theorem zfB_ (x y z:D) (h1:leK x y=true) (h2:leK y z=true):leK x z=true:=by
 unfold leK at *
 rw [Bool.not_eq_true'] at *
 cases e:HT.lexLt (keyD z) (keyD x) with
 | false=>rfl
 | true =>
  exfalso
  cases e2:HT.lexLt (keyD x) (keyD y) with
  | true=>have:=zaw_ e e2;rw [h2] at this;cases this
  | false=>rw [Qn_ e2 h1,h2] at e;cases e
theorem zdn_ (x y:D):(leK x y||leK y x)=true:=by
 unfold leK
 cases e:HT.lexLt (keyD y) (keyD x) with
 | false=>rfl
 | true=>rw [zhl_ e];rfl
theorem yV_ (ds:List D):(z5_ ds).Pairwise fun x y=>leK x y=true:=List.pairwise_mergeSort zfB_ zdn_ ds
theorem Uo_ {R:D->D->Prop}:∀ {a b:List D},(∀ x∈b,∀ y∈b,R x y->R y x->x=y)->a.Perm b->a.Pairwise R->b.Pairwise R->a=b
 | [],b,_,hp,_,_=>by simpa using hp.symm.eq_nil
 | x::r,b,hR,hp,ha,hb=>by
  cases b with
  | nil=>exact absurd hp.length_eq (by simp)
  | cons y t =>
   rw [List.pairwise_cons] at ha hb
   have hx:x∈y::t:=hp.mem_iff.mp List.mem_cons_self
   have hy:y∈x::r:=hp.mem_iff.mpr List.mem_cons_self
   have e:x=y:=by
    rcases List.mem_cons.mp hx with e|hx'
    ·exact e
    ·rcases List.mem_cons.mp hy with e|hy'
     ·exact e.symm
     ·exact hR x hx y List.mem_cons_self (ha.1 y hy') (hb.1 x hx')
   subst e
   rw [Uo_ (fun x hx y hy=>hR x (List.mem_cons_of_mem _ hx) y (List.mem_cons_of_mem _ hy)) (List.Perm.cons_inv hp) ha.2 hb.2]
theorem yx_ {d:D} (h:Qs_ d=true):∃ n r,d=.tuple ((n::r).map PyData.int):=by
 unfold Qs_ at h
 split at h
 ·rename_i ds
  split at h
  ·rename_i n r e;exact ⟨n,r,by rw [jA_ e]⟩
  ·cases h
 ·cases h
theorem yw_ {d:D} (h:WP_ d=true):∃ n,d=.int n:=by
 cases d<;>first|exact ⟨_,rfl⟩|cases h
theorem zdp_ {ds:List D} (h:z7_ ds=true):∀ x∈ds,∀ y∈ds,keyD x=keyD y->x=y:=fun x hx y hy e=>by
 unfold z7_ at h
 rw [Bool.or_eq_true,List.all_eq_true,List.all_eq_true] at h
 rcases h with h|h
 ·obtain ⟨n,rfl⟩:=yw_ (h x hx)
  obtain ⟨m,rfl⟩:=yw_ (h y hy)
  have e':[n]=[m]:=e
  injection e' with e'
  rw [e']
 ·obtain ⟨n,r,rfl⟩:=yx_ (h x hx)
  obtain ⟨m,t,rfl⟩:=yx_ (h y hy)
  have kt:∀ l:List Int,keyD (.tuple (l.map PyData.int))=l:=fun l=>by
   show (intsOf (l.map PyData.int)).getD []=l
   rw [Jq_];rfl
  rw [kt,kt] at e
  rw [e]
theorem JE_ {ds r:List D} (h:z7_ ds=true) (hp:r.Perm ds) (hs:r.Pairwise fun x y=>leK x y=true):r=z5_ ds :=
 Uo_ (fun x hx y hy h1 h2=>zdp_ h x ((je_ ds).mem_iff.mp hx) y ((je_ ds).mem_iff.mp hy) (by
  unfold leK at h1 h2
  rw [Bool.not_eq_true'] at h1 h2
  exact Qn_ h2 h1)) (hp.trans (je_ ds).symm) hs (yV_ ds)
theorem zad_ {α β:Type} {f:α->β}:∀ {out:List β} {l:List α},out.Perm (l.map f)->∃ l':List α,l'.Perm l/\l'.map f=out:=by
 intro out l h
 generalize e:l.map f=m at h
 induction h generalizing l with
 | nil =>
  cases l with
  | nil=>exact ⟨[],.refl _,rfl⟩
  | cons y l=>cases e
 | @cons x a b hp ih =>
  cases l with
  | nil=>cases e
  | cons y l =>
   rw [List.map_cons] at e
   injection e with e1 e2
   obtain ⟨l',h1,h2⟩:=ih e2
   exact ⟨y::l',h1.cons y,by rw [List.map_cons,h2,e1]⟩
 | @swap x y a =>
  match l,e with
  | u::v::l,e =>
   rw [List.map_cons,List.map_cons] at e
   injection e with e1 e2
   injection e2 with e2 e3
   exact ⟨v::u::l,.swap _ _ _,by rw [List.map_cons,List.map_cons,e1,e2,e3]⟩
 | @trans a b c h1 h2 ih1 ih2 =>
  obtain ⟨l1,p1,q1⟩:=ih2 e
  obtain ⟨l2,p2,q2⟩:=ih1 q1
  exact ⟨l2,p2.trans p1,q2⟩
end L4
namespace L4
open PySem PySem.Spec PyProof.Rows L2 L3 TS
theorem YG_ {prog:Program} {w:World} {A:Around} {s:Shared} {b fin:Bool} {Q:Bool->Shared->Prop}:∀ {vs us:List Value} {ns ms:List Int} (i:Nat),IntsAre vs ns->IntsAre us ms->fin=decide (vs.length<us.length)->Q (HT.lexLt ns ms) s ->
  PySem.W.KatLex prog w A b fin Q (vs.zip us) i s:=by
 intro vs us ns ms i h1 h2 e q
 induction h1 generalizing us ms i with
 | nil=>cases h2<;>(subst e;exact q)
 | cons x t h1 ih=>cases h2 with
  | nil=>subst e;exact q
  | cons y u h2 =>
   rw [List.zip_cons_cons]
   refine PySem.W.kat_cons (wpAny_eqBool_int ?_)
   rw [HT.lexLt_cons] at q
   by_cases c:x=y
   ·rw [if_pos c] at q
    rw [show (x==y)=true by simpa using c]
    exact PySem.W.kat_yes (ih (i+1) h2 (by rw [e];simp) q)
   ·rw [if_neg c] at q
    rw [show (x==y)=false by simpa using c]
    refine PySem.W.kat_no ?_
    cases hb:(b&&i==0) with
    | true=>exact oneLt_int q
    | false=>exact PySem.W.kat_one _ _ (lt_int q)
theorem triples {K:Fg} {F:Hp}:∀ {vs:List V} {ds:List D} {its:List Value},RepL K F vs ds->Vals vs its->∃ L:List (V×D×Value),L.map (·.1)=vs/\L.map (·.2.1)=ds/\L.map (·.2.2)=its/\∀ t∈L,Rep K F t.1 t.2.1/\RelV t.1 t.2.2:=by
 intro vs ds its h r
 induction vs generalizing ds its with
 | nil=>cases h;cases r;exact ⟨[],rfl,rfl,rfl,fun _ h=>by cases h⟩
 | cons v vs ih=>cases h with
  | cons h t=>cases r with
   | cons r rr =>
    obtain ⟨L,e1,e2,e3,e4⟩:=ih t rr
    refine ⟨(_,_,_)::L,by rw [List.map_cons,e1],by rw [List.map_cons,e2],by rw [List.map_cons,e3],fun x hx=>?_⟩
    rcases List.mem_cons.mp hx with rfl|hx
    ·exact ⟨h,r⟩
    ·exact e4 x hx
theorem Y7_ {K:Fg} {F:Hp}:∀ {L:List (V×D×Value)},(∀ t∈L,Rep K F t.1 t.2.1/\RelV t.1 t.2.2)->RepL K F (L.map (·.1)) (L.map (·.2.1))/\Vals (L.map (·.1)) (L.map (·.2.2))
 | [],_=>⟨.nil,.nil⟩
 | x::L,h=>by
  obtain ⟨h1,h2⟩:=h x List.mem_cons_self
  obtain ⟨h3,h4⟩:=Y7_ (L:=L) fun t ht=>h t (List.mem_cons_of_mem _ ht)
  exact ⟨.cons h1 h3,.cons h2 h4⟩
def zcD_ (K:Fg):List V->Hp->VK->Prop:=fun xs H Q=>∃ (G:Gh) (F:Hp) (σ:L2.St) (ρ:En) (x:V) (d:D) (ds:List D),xs=[x]/\StOk K G F σ H ρ/\OR K F H x d/\seqD d=some ds/\z7_ ds=true /\
 ∀ l vs,H l=none->RepL K F vs (z5_ ds)->Q (.ref l) (upd H l (.lst vs))
noncomputable def zaP_:List D->Option (List D)
 | [d]=>match seqD d with
  | some ds=>if z7_ ds then some (z5_ ds) else none
  | none=>none
 | _=>none
theorem zaz_ {ds:List D} (h:z7_ ds=true):PyData.canLayAll0 ds=true:=by
 have all:∀ l:List D,(∀ d∈l,d.canLay0=true)->PyData.canLayAll0 l=true:=by
  intro l
  induction l with
  | nil=>intro _;simp [PyData.canLayAll0]
  | cons a l ih =>
   intro h
   simp only [PyData.canLayAll0,Bool.and_eq_true]
   exact ⟨h a List.mem_cons_self,ih fun d hd=>h d (List.mem_cons_of_mem _ hd)⟩
 refine all ds fun d hd=>?_
 unfold z7_ at h
 rw [Bool.or_eq_true,List.all_eq_true,List.all_eq_true] at h
 rcases h with h|h
 ·obtain ⟨n,rfl⟩:=yw_ (h d hd)
  simp [PyData.canLay0]
 ·obtain ⟨n,r,rfl⟩:=yx_ (h d hd)
  simp only [PyData.canLay0]
  refine all _ fun d hd=>?_
  obtain ⟨m,_,rfl⟩:=List.mem_map.mp hd
  simp [PyData.canLay0]
theorem ZL_ {h:Heap}:∀ {vs:List Value} {ns:List Int} {as:List Addr},ReadsAll h vs (ns.map PyData.int) as->IntsAre vs ns
 | _,[],_,r=>by rw [List.map_nil] at r;cases r;exact .nil
 | _,n::ns,_,r=>by
  rw [List.map_cons] at r
  cases r with
  | cons a b =>
   cases a with
   | int i t=>exact .cons n t (ZL_ b)
theorem all_ints:∀ {ds:List D},ds.all WP_=true->∃ ns:List Int,ds=ns.map PyData.int
 | [],_=>⟨[],rfl⟩
 | d::ds,h=>by
  rw [List.all_cons,Bool.and_eq_true] at h
  obtain ⟨n,rfl⟩:=yw_ h.1
  obtain ⟨ns,rfl⟩:=all_ints h.2
  exact ⟨n::ns,rfl⟩
theorem Up_ {X:Cx} {pins:List (Addr×Obj)} {σ σ':L2.St} {H F:Hp} {s:Shared} {G:Gh} {ρ:En} {vs:List V} {ds:List D} {its:List Value} {Q:VK} (I:Inv X pins σ H s) (S:StOk X.K G F σ' H ρ) (rl:RepL X.K F vs ds) (rv:Vals vs its) (hz:vs.length<=sizeLine) (hok:z7_ ds=true)
  (k:∀ l vs,H l=none->RepL X.K F vs (z5_ ds)->Q (.ref l) (upd H l (.lst vs))):its.length<=sizeLine/\∃ (κ:SortKind) (rk:Value->Int),
   (2<=its.length->∀ (E':Value->Shared->Prop) (Q:SortKind->Shared->Prop),Q κ (mid (uT_ s its) s.heap.objs.size its)->wpAny (model X.prog X.w) X.A.in1.in1 (keyKind' its.toArray) Q E' (mid (uT_ s its) s.heap.objs.size its)) /\
   (2<=its.length->Cmps X.prog X.w X.A.in1.in1 (mid (uT_ s its) s.heap.objs.size its) κ rk (pairsOf its)) /\
   ∀ out:Array Value,out.toList.Perm its->out.toList.Pairwise (fun x y=>rk x<=rk y)->EP X pins σ Q (.ref s.heap.objs.size) { s with heap:=sortedHeap (uT_ s its).heap s.heap.objs.size its out }:=by
 have lay:=zaz_ hok
 have I1:Inv X pins σ H (mid (uT_ s its) s.heap.objs.size its):=I.kept (t':=s.toks) fun b o e=>zdi_ e
 obtain ⟨as,ra⟩:=(z8_ I1).2 (rl.mono S.fh) lay rv
 generalize hs1:mid (uT_ s its) s.heap.objs.size its=s1 at I1 ra
 have emap:its.map (SeqAt.readOf s1.heap)=ds:=SeqAt.readsAll_map ds _ _ lay ra
 let kf:Value->List Int:=fun v=>keyD (SeqAt.readOf s1.heap v)
 have hmem:∀ x,x∈(pairsOf its).toList->x.1∈its:=fun x hx=>by
  rw [pairsOf_toList] at hx
  exact (mem_zip_self hx).2
 have hzl:its.length<=sizeLine:=by rw [<-rv.length];exact hz
 have fin:∀ out:Array Value,out.toList.Perm its->out.toList.Pairwise (fun x y=>rankOf its kf x<=rankOf its kf y)->EP X pins σ Q (.ref s.heap.objs.size) { s with heap:=sortedHeap (uT_ s its).heap s.heap.objs.size its out }:=fun out o1 o2=>by
  obtain ⟨L,e1,e2,e3,e4⟩:=triples rl rv
  rw [<-e3] at o1
  obtain ⟨L',p1,p2⟩:=zad_ o1
  have e4':∀ t∈L',Rep X.K F t.1 t.2.1/\RelV t.1 t.2.2:=fun t ht=>e4 t (p1.mem_iff.mp ht)
  have rd:∀ t∈L',SeqAt.readOf s1.heap t.2.2=t.2.1:=fun t ht=>by
   obtain ⟨a1,a2⟩:=e4' t ht
   have:t.2.1∈ds:=by rw [<-e2];exact List.mem_map.mpr ⟨t,p1.mem_iff.mp ht,rfl⟩
   have al:∀ l:List D,PyData.canLayAll0 l=true->∀ d∈l,d.canLay0=true:=by
    intro l
    induction l with
    | nil=>intro _ d hd;cases hd
    | cons a l ih =>
     intro h d hd
     simp only [PyData.canLayAll0,Bool.and_eq_true] at h
     rcases List.mem_cons.mp hd with rfl|hd
     ·exact h.1
     ·exact ih h.2 d hd
   have hcl:=al ds lay _ this
   obtain ⟨bs,rb⟩:=(z8_ I1).1 (a1.mono S.fh) hcl a2
   exact SeqAt.readOf_eq hcl rb
  obtain ⟨u1,u2⟩:=Y7_ e4'
  have es:L'.map (·.2.1)=z5_ ds:=by
   refine JE_ hok (by rw [<-e2];exact p1.map _) ?_
   rw [<-p2,List.pairwise_map] at o2
   rw [List.pairwise_map]
   refine List.Pairwise.imp_of_mem (fun {x y} hx hy h=>?_) o2
   have mx:x.2.2∈its:=by rw [<-e3];exact List.mem_map.mpr ⟨x,p1.mem_iff.mp hx,rfl⟩
   have my:y.2.2∈its:=by rw [<-e3];exact List.mem_map.mpr ⟨y,p1.mem_iff.mp hy,rfl⟩
   have q:=Yq_ (k:=kf) my mx
   rw [decide_eq_false (by lia)] at q
   show (!HT.lexLt (keyD y.2.1) (keyD x.2.1))=true
   rw [<-rd x hx,<-rd y hy]
   show (!HT.lexLt (kf y.2.2) (kf x.2.2))=true
   rw [<-q];rfl
  rw [es] at u1
  rw [p2] at u2
  obtain ⟨ep,he⟩:=QY_ (out:=out) (show (uT_ s its).heap.get? s.heap.objs.size=some (seqObj "list" its.toArray 0) from Heap.get?_push_size _ rfl)
  refine ⟨.ref s.heap.objs.size,upd H s.heap.objs.size (.lst (L'.map (·.1))),I.laid (t':=s.toks) (fun b o q=>Un_ (Nat.ne_of_lt (Heap.lt_size q)) (Heap.get?_push_of_some _ q)) (Nat.le_refl _) ⟨?_,out.toList,ep,u2,?_⟩,rfl,k _ _ (I.hok.fresh (Nat.le_refl _)) u1⟩
  ·rw [u2.length,<-p2,List.length_map,p1.length_eq,<-List.length_map (f:=fun t:V×D×Value=>t.2.2),e3];exact hzl
  ·exact he
 have hok':=hok
 unfold z7_ at hok'
 rw [Bool.or_eq_true] at hok'
 rcases hok' with hI|hT
 ·obtain ⟨ns,rfl⟩:=all_ints hI
  have ia:IntsAre its ns:=ZL_ ra
  have kfi:∀ {m:Int} {t:Tok},kf (.int m t)=[m]:=fun {m t}=>by
   show keyD (SeqAt.readOf s1.heap (.int m t))=[m]
   rw [SeqAt.readOf_eq (d:=.int m) (by simp [PyData.canLay0]) (.int m t)]
   rfl
  refine ⟨hzl,oneType',rankOf its kf,fun h2 E' Q' q=>?_,fun h2 x y hx hy E' Q' q=>?_,fin⟩
  ·match its,ia,h2,q with
   | v1::v2::rest,ia,_,q =>
    rw [keyKind_ints ia]
    exact wpAny_pure q
  ·have hx':=hmem x hx
   have hy':=hmem y hy
   rw [Yq_ hx' hy'] at q
   obtain ⟨m1,t1,e1⟩:=ia.all _ hx'
   obtain ⟨m2,t2,e2⟩:=ia.all _ hy'
   rw [e1,e2] at q ⊢
   rw [kfi,kfi] at q
   rw [keyLt'_oneType]
   refine oneLt_int ?_
   have:HT.lexLt [m1] [m2]=decide (m1<m2):=by
    rw [HT.lexLt_cons]
    split
    ·rename_i e;rw [e];simp [HT.lexLt_nil_nil]
    ·rfl
   rw [this] at q
   exact q
 ·rw [List.all_eq_true] at hT
  have each:∀ v∈its,∃ (a:Addr) (o:Obj) (xs:List Value) (n:Nat) (m:Int) (ms:List Int),v=.ref a/\s1.heap.get? a=some o/\o.cls=.type "tuple" /\ o.data=.seq xs.toArray n/\IntsAre xs (m::ms)/\kf v=m::ms:=fun v hv=>by
   obtain ⟨dv,bs,rd,hl,_⟩:=SeqAt.readsAll_mem ds its _ lay ra v hv
   have er:=SeqAt.readOf_eq hl rd
   have hin:dv∈ds:=by rw [<-emap,<-er];exact List.mem_map.mpr ⟨v,hv,rfl⟩
   obtain ⟨m,ms,rfl⟩:=yx_ (hT dv hin)
   cases rd with
   | tuple g1 g2 g3 g4 =>
    rename_i a o vs' n
    refine ⟨a,o,vs'.toList,n,m,ms,rfl,g1,g2,by rw [g3],ZL_ g4,?_⟩
    show keyD (SeqAt.readOf s1.heap (.ref a))=_
    rw [er]
    show (intsOf ((m::ms).map PyData.int)).getD []=_
    rw [Jq_];rfl
  refine ⟨hzl,tuples' true,rankOf its kf,fun h2 E' Q' q=>?_,fun h2 x y hx hy E' Q' q=>?_,fin⟩
  ·have fs:∀ l:List Value,(∀ v∈l,v∈its)->∃ fs:List Value,PySem.W.KatTups s1.heap l fs/\fs.length=l.length/\∀ v∈fs,∃ i t,v=.int i t:=by
    intro l
    induction l with
    | nil=>intro _;exact ⟨[],trivial,rfl,fun _ h=>by cases h⟩
    | cons v l ih =>
     intro hl
     obtain ⟨fs,f1,f2,f3⟩:=ih fun v hv=>hl v (List.mem_cons_of_mem _ hv)
     obtain ⟨a,o,xs,n,m,ms,rfl,g1,g2,g3,g4,_⟩:=each v (hl v List.mem_cons_self)
     cases g4 with
     | cons _ t g5 =>
      refine ⟨.int m t::fs,PySem.W.KatTups.cons g1 g2 g3 (by simp) f1,by simp [f2],fun v hv=>?_⟩
      rcases List.mem_cons.mp hv with rfl|hv
      ·exact ⟨_,_,rfl⟩
      ·exact f3 v hv
   obtain ⟨fs,f1,f2,f3⟩:=fs its fun _ h=>h
   refine PySem.W.kat_kind f1 (by lia) (T:=.type "int") (fun v hv=>?_) rfl q
   obtain ⟨i,t,rfl⟩:=f3 v hv
   exact PySem.W.Looks.now
  ·have hx':=hmem x hx
   have hy':=hmem y hy
   rw [Yq_ hx' hy'] at q
   obtain ⟨a1,o1,xs1,n1,m1,ms1,e1,g1,g2,g3,g4,g5⟩:=each _ hx'
   obtain ⟨a2,o2,xs2,n2,m2,ms2,e2,k1,k2,k3,k4,k5⟩:=each _ hy'
   rw [g5,k5] at q
   rw [e1,e2]
   refine PySem.W.kat_lt g1 g3 k1 k3 ?_
   have:=YG_ (prog:=X.prog) (w:=X.w) (A:=X.A.in1.in1) (b:=true) (Q:=Q') 0 g4 k4 rfl q
   simpa using this
theorem Xo_ {X:Cx}:CallR X (.builtin "sorted") (zcD_ X.K):=by
 intro pins s σ H xs us Q I r h0
 obtain ⟨G,F,σ',ρ,x,d,ds,rfl,S,ho,hd,hok,k⟩:=h0
 obtain ⟨u,rfl,ru⟩:=L2.Vals.one r
 have hseq:∃ (p:Addr) (o:Obj) (n:Nat) (vs:List V) (its:List Value),u=.ref p/\s.heap.get? p=some o/\(o.cls=.type "list" \/ o.cls=.type "tuple")/\o.data=.seq its.toArray n/\Vals vs its/\vs.length<=sizeLine/\RepL X.K F vs ds:=by
  cases d with
  | list es =>
   cases hd
   obtain ⟨a,vs,rfl,h1,h2⟩:=ho.list S.fh
   cases ru
   obtain ⟨its,rv,pl,hz⟩:=I.list h1
   obtain ⟨o,e1,e2,n,e3⟩:=pl.isList
   exact ⟨a,o,n,vs,its,rfl,e1,.inl e2,e3,rv,hz,h2⟩
  | tuple es =>
   cases hd
   obtain ⟨a,vs,rfl,h1,h2⟩:=ho.tuple S.fh
   cases ru
   obtain ⟨its,rv,⟨o,e1,e2,n,e3⟩,hz⟩:=I.tuple h1
   exact ⟨a,o,n,vs,its,rfl,e1,.inr e2,e3,rv,hz,h2⟩
  | _=>cases hd
 obtain ⟨p,o,n,vs,its,rfl,hp,hcl,hdat,rv,hz,rl⟩:=hseq
 have I2:Inv X pins σ H { s with heap:=(s.heap.push (seqObj "list" #[] 0)).update s.heap.objs.size (Obj.mapSeq (· ++ its.toArray)) }:=I.kept (t':=s.toks) fun b o e=>by
  have hlt:b<s.heap.objs.size:=Heap.lt_size e
  rw [Heap.get?_update_ne _ _ _ _ (Nat.ne_of_lt hlt)]
  exact Heap.get?_push_of_some _ e
 exact Z7_ fun E' Q' q=>zdI_ hp hcl hdat (by rw [<-rv.length];exact hz) (q _ _ (Up_ I2 S rl rv hz hok k))
theorem zcZ_ {K:Fg}:VC_ K (zcD_ K) zaP_:=by
 intro G F σ H ρ xs ds res Q S o e k
 unfold zaP_ at e
 split at e
 ·rename_i d
  split at e
  ·rename_i es hes
   split at e
   ·rename_i hok
    cases e
    obtain ⟨v,r,rfl,ho,hr⟩:=zv_ o
    obtain rfl:=zL_ hr
    refine ⟨G,F,σ,ρ,v,d,es,rfl,S,ho,hes,hok,fun l vs hl rp=>?_⟩
    obtain ⟨S2,r2⟩:=S.newLst hl rp
    exact k _ F _ (Same.refl _) S2 r2
   ·cases e
  ·cases e
 ·cases e
end L4
namespace TS
open PySem PyProof.Rows
def DR (h:Heap) (d:Addr) (es:Array DictEntry) (ep:Nat):Prop:=∃ o,h.get? d=some o/\o.ExactDict/\o.data=.dict es ep
theorem DR.ty {s:Shared} {d:Addr} {es:Array DictEntry} {ep:Nat} (x:DR s.heap d es ep):s.TypeIs (.ref d) "dict":=let ⟨o,e,c,_⟩:=x;⟨o,e,c.1⟩
theorem DR.kp {h h':Heap} {d:Addr} {es:Array DictEntry} {ep:Nat} (x:DR h d es ep) (k:∀ o,h.get? d=some o->h'.get? d=some o):DR h' d es ep:=let ⟨o,e,r⟩:=x;⟨o,k o e,r⟩
section
variable {prog:Program} {w:World} {A:Around} {E:Value->Shared->Prop} {s:Shared} {d it:Addr} {es:Array DictEntry} {ep i:Nat}
theorem zdr_ {Q:Value->Shared->Prop} (lo:(d==sysModules)=false) (x:DR s.heap d es ep) (q:Q (.ref s.heap.objs.size) { s with heap:=s.heap.push { cls:=.type "dict_keyiterator",data:=.fields #[.ref d,.int 0 0,.int es.size 0,.int ep 0] } }) :
  wpAny (model prog w) A (pyIter (.ref d)) Q E s:=by
 obtain ⟨o,e1,e2,e3⟩:=id x
 refine wpAny_pyIter_slot x.ty F.slot_dict_iter (wpAny_call_entry F.slot_dict_iter x.ty F.entry_dict_iter ?_ (F.args_dict_iter_1 _))
 unfold Builtin.«dict.__iter__»
 refine wpAny_bind ?_
 unfold Builtin.Dict.dictSlotNone
 refine wpAny_bind (wpAny_notOrdered_dict x.ty (show wpAny (model prog w) _ (pure (Value.ref d)) _ _ s from wpAny_pure ?_))
 refine (show wpAny (model prog w) _ (Builtin.Dict.showsAll d >>= _) _ _ s from ?_)
 unfold Builtin.Dict.showsAll
 rw [if_neg (by rw [lo];decide)]
 refine wpAny_bind (wpAny_pure (wpAny_bind (wpAny_dictEntries e1 e3 (wpAny_bind (wpAny_dictEpoch e1 e3 (wpAny_bind (wpAny_newObj_type (wpAny_pure ⟨_,rfl, "dict_keyiterator",_,⟨_,Heap.get?_push_size _ rfl,rfl⟩,F.slot_dict_keyiterator_next.lookup,?_⟩))))))))
 simpa [rawInt] using q
theorem Wp_ {n:Nat} {Q:Option Value->Shared->Prop} (hit:s.heap.IsKeyIter it d i es.size ep) (x:DR s.heap d es ep)
  (q1:∀ (hi:i<es.size) (h':Heap),h'.IsKeyIter it d (i+1) es.size ep->Heap.SameBut it s.heap h'->Q (some es[i].key) { s with heap:=h' })
  (q2:es.size<=i->A.handled=none/\∀ h',Heap.ExtBut it s.heap h'->Q none { s with heap:=h' }):wpAny (model prog w) A (pyNext (.ref it)) Q E s:=by
 obtain ⟨o,ho,hc,hd⟩:=id hit
 obtain ⟨od,f1,f2,f3⟩:=id x
 have T:=hit.typeIs
 have no:Builtin.Dict_items.ownsTuple "dict_keyiterator" = false:=by decide
 have pos:¬ ((i:Int)<0):=by lia
 unfold pyNext
 refine wpAny_bind (wpAny_attempt (wpAny_callSpecial?_slot (name:=Str.ofString "__next__") T F.slot_dict_keyiterator_next (wpAny_call_entry F.slot_dict_keyiterator_next T F.entry_dict_keyiterator_next ?_ (F.args_dict_keyiterator_next_1 _))))
 refine wpAny_bind (wpAny_pure (wpAny_bind (wpAny_bind (wpAny_bind (wpAny_typeNameOfWhole_keyiter T (wpAny_pure (wpAny_bind (wpAny_fieldsOf ho hd ?_))))))))
 simp only [no,Bool.false_eq_true,if_false]
 refine (show wpAny (model prog w) _ (if (Value.ref d==Value.none)=true then _ else _) _ _ s from ?_)
 rw [if_neg (show ¬ ((Value.ref d==Value.none)=true) from fun z=>Bool.noConfusion z)]
 refine wpAny_bind (wpAny_pure (wpAny_bind (wpAny_dictEntries f1 f3 ?_)))
 rw [if_neg (by simp)]
 refine wpAny_bind (wpAny_pure (wpAny_bind (wpAny_dictEpoch f1 f3 ?_)))
 rw [if_neg (by simp)]
 refine wpAny_pure ?_
 by_cases hi:i<es.size
 ·simp only [pos,if_false,Int.toNat_natCast,Array.getElem?_eq_getElem hi]
  refine wpAny_bind (wpAny_bind (wpAny_typeNameOfWhole_keyiter T (wpAny_pure (wpAny_bind (wpAny_isOneOf_keyiter T ?_)))))
  refine (show wpAny (model prog w) _ (setField (.ref it) 1 (rawInt ((i:Int)+1)) >>= _) _ _ s from wpAny_bind (wpAny_setField ho hd (by simp) ?_))
  have hit':(s.heap.update it (Obj.mapFields (·.setIfInBounds 1 (rawInt ((i:Int)+1))))).IsKeyIter it d (i+1) es.size ep :=
   ⟨_,Heap.get?_update_self _ ho (Obj.isFreed_of_fields (Obj.data_mapFields hd _)),(Obj.cls_mapFields ..).trans hc,by rw [Obj.data_mapFields hd];simp [rawInt]⟩
  refine wpAny_bind (wpAny_holding (wpAny_bind (wpAny_isOneOf_keyiter (s:={ s with heap:=s.heap.update it (Obj.mapFields (·.setIfInBounds 1 (rawInt ((i:Int)+1)))) }) hit'.typeIs ?_)))
  refine (show wpAny (model prog w) _ (pure es[i].key) _ _ _ from wpAny_pure (wpAny_pure ⟨_,rfl,wpAny_pure (q1 hi _ hit' (Heap.SameBut.update ..))⟩))
 ·obtain ⟨hh,q⟩:=q2 (by lia)
  simp only [pos,if_false,Int.toNat_natCast,Array.getElem?_eq_none (show es.size<=i by lia)]
  refine wpAny_bind (wpAny_bind (wpAny_typeNameOfWhole_keyiter T (wpAny_pure ?_)))
  refine (show wpAny (model prog w) _ (setField (.ref it) 0 .none >>= _) _ _ s from wpAny_bind (wpAny_setField ho hd (by simp) ?_))
  refine (show wpAny (model prog w) _ (newExc (.type "StopIteration") [] >>= _) _ _ _ from wpAny_bind ?_)
  simp only [newExc,newTuple]
  refine wpAny_bind (wpAny_newObj_type ?_ (by size_fits))
  refine wpAny_bind (m:=firstArgMember _ _) (wpAny_of_eq (a:=Value.none) (by first|rfl|(simp only [firstArgMember];rfl)) ?_)
  refine wpAny_newObj_type ?_ (by size_fits)
  simp only [raiseNew]
  refine wpAny_bind (wpAny_handled ?_)
  rw [show A.in1.handled=none from hh]
  refine wpAny_bind (wpAny_pure (wpAny_throw ?_))
  refine wpAny_bind (wpAny_isInstance (T := "StopIteration") (b:=true) (by exact ⟨_,Heap.get?_push_size _ rfl,rfl⟩) isSubtype_stop ?_)
  exact wpAny_pure (q _ (((Heap.SameBut.update ..).extBut.push _).push _))
theorem Qd_ (lo:(d==sysModules)=false):PySem.W.KdlSrc prog w "dict" d d es.size (fun i v=>∃ e,es[i]? = some e/\v=e.key) (fun h=>DR h d es ep) where
 type:=fun _ x=>x.ty
 there:=fun h x=>let ⟨_,e,_⟩:=x;⟨Heap.lt_size e,Heap.lt_size e⟩
 keep:=fun _ _ x k=>x.kp fun o e=>k d (.inl rfl) o e
 notList:=by decide
 notTuple:=by decide
 hint:=fun _ _ _ _ x q=>PySem.W.kdl_hint_dict x.ty q
 iter:=fun A s hh x=>by
  have hne:d≠s.heap.objs.size:=by obtain ⟨_,e,_⟩:=x;exact Nat.ne_of_lt (Heap.lt_size e)
  refine ⟨_,fun i h=>h.IsKeyIter s.heap.objs.size d i es.size ep/\DR h d es ep,fun E Q q=>zdr_ lo x q,⟨?_,?_,?_,?_,?_⟩,⟨_,Heap.get?_push_size _ rfl,rfl,rfl⟩,x.kp fun o e=>Heap.get?_push_of_some _ e⟩
  ·intro b hb
   rw [List.mem_singleton.mp hb]
   exact List.mem_cons_self
  ·intro i h h' st k
   exact ⟨st.1.at fun o e=>k _ List.mem_cons_self o e,st.2.kp fun o e=>k d (by simp) o e⟩
  ·intro i s1 Q E hi st q
   refine Wp_ (n:=0) st.1 st.2 (fun hi h' a1 a2=>q _ h' s1.toks ⟨_,Array.getElem?_eq_getElem hi,rfl⟩ ⟨a1,st.2.kp fun o e=>a2.extBut d o hne e⟩ fun b o hb e=>a2.extBut b o (fun z=>hb (by simp [z])) e) fun z=>absurd hi (by lia)
  ·intro s1 Q E st q
   exact Wp_ (n:=0) st.1 st.2 (fun hi=>absurd hi (Nat.lt_irrefl _)) fun _=>⟨hh,fun h' a=>q h' s1.toks fun b o hb e=>a b o (fun z=>hb (by simp [z])) e⟩
  ·intro i s1 Q E st q
   exact wpAny_pyIter_keyiter st.1 q
end
end TS
namespace L4
open PySem PySem.Spec PyProof.Rows L2 L3 TS
theorem _root_.L3.StOk.seeT {K:Fg} {G:Gh} {F H:Hp} {σ:L2.St} {ρ:En} (S:StOk K G F σ H ρ) {b:Addr} {vs:List V} {ds:List D} (hb:H b=some (.tup vs)) (r:RepL K F vs ds):∃ F',Same F F'/\StOk K G F' σ H ρ/\Rep K F' (.ref b) (.tuple ds):=by
 cases e:F b with
 | some o =>
  have:=S.fh b o e
  rw [hb] at this
  cases this
  exact ⟨F,Same.refl _,S,.tup e r⟩
 | none =>
  have og:G.O b=none:=by
   cases q:G.O b with
   | none=>rfl
   | some o =>
    have:=S.oh b o q
    rw [hb] at this
    cases this
    exact ((S.fo b _ q).2:False).elim
  refine ⟨upd F b (.tup vs),ji_ e,S.freeze hb e og (fun i c ho z=>?_),.tup zi_ (r.mono (ji_ e))⟩
  obtain ⟨a,e1,oa⟩:=S.ow i c ho
  rw [z] at e1
  injection e1 with e1;injection e1 with e1;injection e1 with e1
  subst e1
  exact (oa.he.notup hb:False)
theorem zcB_ {K:Fg} {F:Hp}:∀ k:Key,Rep K F (kV k) (L3.keyD k)
 | .inl i=>.int i
 | .inr x=>.str x
theorem JI_ {K:Fg} {F:Hp}:∀ ks:List Key,RepL K F (ks.map kV) (ks.map L3.keyD)
 | []=>.nil
 | k::ks=>.cons (zcB_ k) (JI_ ks)
theorem XZ_ {K:Fg} {G:Gh} {H:Hp} {σ:L2.St} {ρ:En}:∀ {kvs:List (List Key×V)} {xs:List (List Key×Addr×Value)} {F:Hp},KT H kvs xs->StOk K G F σ H ρ ->
  ∃ F',Same F F'/\StOk K G F' σ H ρ/\RepL K F' (xs.map fun q=>V.ref q.2.1) (kvs.map fun p=>keyT p.1)/\Vals (xs.map fun q=>V.ref q.2.1) (xs.map fun q=>Value.ref q.2.1):=by
 intro kvs xs F r S
 induction r generalizing F with
 | nil=>exact ⟨F,Same.refl _,S,.nil,.nil⟩
 | @cons p q ps qs h t ih =>
  obtain ⟨h1,h2,h3⟩:=h
  obtain ⟨F1,s1,S1,r1⟩:=S.seeT h2 (JI_ p.1)
  obtain ⟨F2,s2,S2,r2,v2⟩:=ih S1
  exact ⟨F2,s1.trans s2,S2,.cons (r1.mono s2) r2,.cons rfl v2⟩
theorem X2_ {P:Program} {w:World} {k:Key} {u:Value} (r:(zC_ P w).is k u=true):RelV (kV k) u:=by
 rcases zF_ (k:=k) (v:=u) r with ⟨i,t,rfl,rfl⟩|⟨i,t,rfl,rfl⟩
 ·exact ⟨t,rfl⟩
 ·exact ⟨t,rfl⟩
theorem QL_ {P:Program} {w:World}:∀ {es:List DictEntry} {vs:List (Key×Value)},Pairs (zC_ P w) es vs->Vals (vs.map fun p=>kV p.1) (es.map (·.key)):=by
 intro es vs r
 induction r with
 | nil=>exact .nil
 | cons a b _ ih=>exact .cons (X2_ a) ih
theorem zdo_ {κ:Type} {kvs:List (κ×V)} {vs:List (κ×Value)} (r:KV kvs vs):Vals (kvs.map (·.2)) (vs.map (·.2))/\kvs.map (·.1)=vs.map (·.1):=by
 unfold KV at r
 induction r with
 | nil=>exact ⟨.nil,rfl⟩
 | cons h t ih=>exact ⟨.cons h.2 ih.1,by rw [List.map_cons,List.map_cons,h.1,ih.2]⟩
theorem UX_ {X:Cx} {pins:List (Addr×Obj)} {σ σ':L2.St} {H F:Hp} {s:Shared} {G:Gh} {ρ:En} {x:V} {es:List (D×D)} (I:Inv X pins σ H s) (S:StOk X.K G F σ' H ρ) (ho:OR X.K F H x (.dict es)) (hnx:isXe es=false) :
  ∃ a F' vs ds ep,x=.ref a/\Same F F'/\StOk X.K G F' σ' H ρ/\(a==sysModules)=false/\DR s.heap a ds ep/\ds.size<=sizeLine/\vs.length=ds.size/\Vals vs (ds.toList.map (·.key))/\RepL X.K F' vs (es.map (·.1)):=by
 obtain ⟨a,rfl,⟨kvs,h1,h2,h3⟩|⟨kvs,h1,h2,h3⟩⟩:=ho.dict S.fh hnx
 ·obtain ⟨z,y,xs,kt,o,ds,ep,e1,e2,e3,e4,_⟩:=Xd_ I.hok h1
  obtain ⟨F',s1,S1,r1,v1⟩:=XZ_ kt S
  have el:ds.size=kvs.length:=by
   rw [<-Array.length_toList,e4,List.length_map]
   have:=r1.length
   rw [List.length_map,List.length_map] at this
   exact this
  refine ⟨a,F',_,ds,ep,rfl,s1,S1,y,⟨o,e1,e2,e3⟩,by lia,?_,?_,by rw [h2];exact r1⟩
  ·rw [List.length_map,el]
   have:=r1.length
   rw [List.length_map,List.length_map] at this
   exact this
  ·rw [e4,List.map_map]
   exact v1
 ·obtain ⟨z,y,vs,kv,o,ds,ep,e1,e2,e3,e4,e5,_⟩:=zdG_ I.hok h1
  obtain ⟨_,ek⟩:=zdo_ kv
  have vp:=QL_ e5
  have el:ds.size=kvs.length:=by
   have:=vp.length
   simp only [List.length_map,Array.length_toList] at this
   have e:=congrArg List.length ek
   rw [List.length_map,List.length_map] at e
   lia
  refine ⟨a,F,kvs.map fun p=>kV p.1,ds,ep,rfl,Same.refl _,S,y,⟨o,e1,e2,e3⟩,by lia,by rw [List.length_map];lia,?_,?_⟩
  ·have e:=congrArg (List.map kV) ek
   rw [List.map_map,List.map_map] at e
   have e':kvs.map (fun p=>kV p.1)=vs.map (fun p=>kV p.1):=e
   rw [e']
   exact vp
  ·rw [h2]
   have e:kvs.map (fun p=>kV p.1)=(kvs.map (·.1)).map kV:=by rw [List.map_map];rfl
   have e':kvs.map (fun p=>L3.keyD p.1)=(kvs.map (·.1)).map L3.keyD:=by rw [List.map_map];rfl
   rw [e,e']
   exact JI_ _
theorem Jn_ {ds:Array DictEntry} {acc:Array Value} (h:ItemsOf (fun i v=>∃ e,ds[i]? = some e/\v=e.key) acc ds.size):acc.toList=ds.toList.map (·.key):=by
 apply List.ext_getElem?
 intro j
 rw [Array.getElem?_toList,List.getElem?_map,Array.getElem?_toList]
 cases q:acc[j]? with
 | some v =>
  obtain ⟨e,e1,rfl⟩:=h.2 j v q
  rw [e1];rfl
 | none =>
  have:ds.size<=j:=by rw [<-h.1];exact Array.getElem?_eq_none_iff.mp q
  rw [Array.getElem?_eq_none this];rfl
def VW_ (K:Fg):List V->Hp->VK->Prop:=fun xs H Q=>∃ (G:Gh) (F:Hp) (σ:L2.St) (ρ:En) (x:V) (es:List (D×D)),xs=[x]/\StOk K G F σ H ρ/\OR K F H x (.dict es)/\isXe es=false /\
 ∀ l vs F',H l=none->Same F F'->StOk K G F' σ H ρ->RepL K F' vs (es.map (·.1))->Q (.ref l) (upd H l (.lst vs))
theorem Vs_ {X:Cx} (hc:X.calm=true):CallR X (.type "list") (VW_ X.K):=by
 intro pins s σ H xs us Q I r h0
 obtain ⟨G,F,σ',ρ,x,es,rfl,S,ho,hnx,k⟩:=h0
 obtain ⟨u,rfl,ru⟩:=L2.Vals.one r
 obtain ⟨a,F',vs,ds,ep,rfl,s1,S1,lo,dr,hz,hl,rv,rl⟩:=UX_ I S ho hnx
 cases ru
 refine PySem.W.kdl_call (Qd_ lo) (I.ok.hd hc) dr hz fun h' tk acc c kp e it=>?_
 refine ⟨.ref s.heap.objs.size,upd H s.heap.objs.size (.lst vs),I.laid (t':=tk) kp (Nat.le_refl _) ⟨by rw [hl];exact hz,acc.toList,c,by rw [Jn_ it];exact rv,by rw [Array.toArray_toList];exact e⟩,rfl,k _ _ _ (I.hok.fresh (Nat.le_refl _)) s1 S1 rl⟩
noncomputable def u2_:List D->Option (List D)
 | [.dict es]=>if isXe es then none else some (es.map (·.1))
 | l=>zaS_ l
theorem yR_ {X:Cx} (hc:X.calm=true):CallR X (.type "list") (fun xs H Q=>(∃ p ys,xs=[.ref p]/\(SqL X.K H p ys\/SqT X.K H p ys)/\∀ l,H l=none->Q (.ref l) (upd H l (.lst ys)))\/VW_ X.K xs H Q):=CallR.or U3_ (Vs_ hc)
theorem JQ_ {K:Fg}:VC_ K (fun xs H Q=>(∃ p ys,xs=[.ref p]/\(SqL K H p ys\/SqT K H p ys)/\∀ l,H l=none->Q (.ref l) (upd H l (.lst ys)))\/VW_ K xs H Q) u2_:=by
 intro G F σ H ρ xs ds res Q S o e k
 by_cases hd:∃ es,ds=[.dict es]
 ·obtain ⟨es,rfl⟩:=hd
  cases hnx:isXe es with
  | true=>simp [u2_,hnx] at e
  | false =>
  have e:some (es.map (·.1))=some res:=by simpa [u2_,hnx] using e
  cases e
  obtain ⟨v,r,rfl,ho,hr⟩:=zv_ o
  obtain rfl:=zL_ hr
  refine .inr ⟨G,F,σ,ρ,v,es,rfl,S,ho,hnx,fun l vs F' hl s1 S1 rp=>?_⟩
  obtain ⟨S2,r2⟩:=S1.newLst hl rp
  exact k _ F' _ s1 S2 r2
 ·have e':zaS_ ds=some res:=by
   rw [<-e]
   unfold u2_
   split
   ·rename_i es;exact absurd ⟨es,rfl⟩ hd
   ·rfl
  exact .inl (zde_ G F σ H ρ xs ds res Q S o e' k)
theorem zbd_ {prog:Program} {w:World} {A:Around} {E:Value->Shared->Prop} {s:Shared} {T:String} {r d:Addr} {n:Nat} {P:Nat->Value->Prop} {OK:Heap->Prop} {Q:List Value->Shared->Prop} (K:PySem.W.KdlSrc prog w T r d n P OK) (hh:A.handled=none) (hok:OK s.heap) (hn:n<=sizeLine)
  (q:∀ h' tk acc,(∀ b o,s.heap.get? b=some o->h'.get? b=some o)->ItemsOf P acc n->Q acc.toList { s with heap:=h',toks:=tk }):wpAny (model prog w) A (collect (.ref r)) Q E s:=by
 have hlt:=K.there _ hok
 have e0:(s.heap.push (seqObj "list" #[] 0)).get? s.heap.objs.size=some (seqObj "list" #[] 0):=Heap.get?_push_size _ rfl
 have key:∀ R:Result->Shared->Prop,(∀ h' tk acc c,(∀ b o,s.heap.get? b=some o->h'.get? b=some o)->h'.get? s.heap.objs.size=some { cls:=.type "list",dict:=none,data:=.seq acc c,slots:=#[] }->ItemsOf P acc n->R (.ok (.ret (.ref s.heap.objs.size))) { s with heap:=h',toks:=tk }) ->
   codeAny (model prog w) A (.builtin "proto.collect" ⟨[.ref r],[]⟩) R s:=fun R hR=>by
  refine codeAny_builtin entry_proto_collect' ?_
  rw [Around.under_plainId PySem.F.plain_proto_collect _]
  show wpAny (model prog w) A.in1 (newList [] >>= fun x=>again (.builtin "list.__iadd__" ⟨[x,.ref r],[]⟩)) _ _ s
  refine wpAny_bind (wpAny_newList (wpAny_pure ⟨Code.quiet_builtin _ (by decide +kernel),codeAny_builtin entry_list_iadd' ?_⟩))
  rw [Around.under_plainId PySem.F.plain_list_iadd _]
  show wpAny (model prog w) A.in1 (Builtin.List.listExtendWith (.ref s.heap.objs.size) (.ref r) (.ref s.heap.objs.size)) _ _ { s with heap:=s.heap.push (seqObj "list" #[] 0) }
  exact PySem.W.kdl_extend (s:={ s with heap:=s.heap.push (seqObj "list" #[] 0) }) K hh (K.keep _ _ hok fun b _ o e=>Heap.get?_push_of_some _ e) _ (Nat.ne_of_gt hlt.1) (Nat.ne_of_gt hlt.2) _ 0 e0 (fun h' tk acc c kp e it=>hR h' tk acc c (fun b o z=>kp b o (Nat.ne_of_lt (Heap.lt_size z)) (Heap.get?_push_of_some _ z)) e it) hn
 unfold collect
 refine wpAny_bind (wpAny_runValue (key _ fun h' tk acc c kp e it=>?_))
 show wpAny (model prog w) A (load s.heap.objs.size >>= _) _ _ _
 exact wpAny_bind (wpAny_load e (wpAny_pure (q h' tk acc kp it)))
def zbC_ (K:Fg):List V->Hp->VK->Prop:=fun xs H Q=>zcD_ K xs H Q\/∃ (G:Gh) (F:Hp) (σ:L2.St) (ρ:En) (x:V) (es:List (D×D)),xs=[x]/\StOk K G F σ H ρ/\OR K F H x (.dict es)/\isXe es=false/\z7_ (es.map (·.1))=true /\
 ∀ l vs F',H l=none->Same F F'->StOk K G F' σ H ρ->RepL K F' vs (z5_ (es.map (·.1)))->Q (.ref l) (upd H l (.lst vs))
theorem yQ_ {X:Cx} (hc:X.calm=true):CallR X (.builtin "sorted") (zbC_ X.K):=by
 intro pins s σ H xs us Q I r h0
 rcases h0 with h0|⟨G,F,σ',ρ,x,es,rfl,S,ho,hnx,hok,k⟩
 ·exact Xo_ pins s σ H xs us Q I r h0
 obtain ⟨u,rfl,ru⟩:=L2.Vals.one r
 obtain ⟨a,F',vs,ds,ep,rfl,s1,S1,lo,dr,hz,hl,rv,rl⟩:=UX_ I S ho hnx
 cases ru
 refine Z7_ fun E' Q' q=>zbd_ (Qd_ lo) (I.ok.hd hc) dr hz fun h' tk acc kp it=>q _ _ ?_
 have I2:Inv X pins σ H { s with heap:=h',toks:=tk }:=I.kept (t':=tk) kp
 refine Up_ I2 S1 rl (by rw [Jn_ it];exact rv) (by rw [hl];exact hz) hok fun l vs hl rp=>k l vs F' hl s1 S1 rp
noncomputable def u1_:List D->Option (List D)
 | [.dict es]=>if isXe es then none else if z7_ (es.map (·.1)) then some (z5_ (es.map (·.1))) else none
 | l=>zaP_ l
theorem JP_ {K:Fg}:VC_ K (zbC_ K) u1_:=by
 intro G F σ H ρ xs ds res Q S o e k
 by_cases hd:∃ es,ds=[.dict es]
 ·obtain ⟨es,rfl⟩:=hd
  cases hnx:isXe es with
  | true=>simp [u1_,hnx] at e
  | false =>
  have e':(if z7_ (es.map (·.1)) then some (z5_ (es.map (·.1))) else none)=some res:=by simpa [u1_,hnx] using e
  split at e'
  ·rename_i hok
   cases e'
   obtain ⟨v,r,rfl,ho,hr⟩:=zv_ o
   obtain rfl:=zL_ hr
   refine .inr ⟨G,F,σ,ρ,v,es,rfl,S,ho,hnx,hok,fun l vs F' hl s1 S1 rp=>?_⟩
   obtain ⟨S2,r2⟩:=S1.newLst hl rp
   exact k _ F' _ s1 S2 r2
  ·cases e'
 ·have e':zaP_ ds=some res:=by
   rw [<-e]
   unfold u1_
   split
   ·rename_i es;exact absurd ⟨es,rfl⟩ hd
   ·rfl
  exact .inl (zcZ_ G F σ H ρ xs ds res Q S o e' k)
end L4
namespace L4
open PySem PySem.Spec PyProof.Rows L2 L3
theorem lenS {α:Type} {us:List α} {n:Nat} (h:us.length=n+1):∃ a r,us=a::r/\r.length=n:=by
 cases us with
 | nil=>exact absurd h (Nat.succ_ne_zero n).symm
 | cons a r=>exact ⟨a,r,rfl,Nat.succ.inj h⟩
theorem len1 {α:Type} {us:List α} (h:us.length=1):∃ a0,us=[a0]:=by
 obtain ⟨a0,r,rfl,h0⟩:=lenS h
 obtain rfl:=List.eq_nil_of_length_eq_zero h0
 exact ⟨a0,rfl⟩
theorem len2 {α:Type} {us:List α} (h:us.length=2):∃ a0 a1,us=[a0,a1]:=by
 obtain ⟨a0,r,rfl,h0⟩:=lenS h
 obtain ⟨a1,rfl⟩:=len1 h0
 exact ⟨a0,a1,rfl⟩
theorem len3 {α:Type} {us:List α} (h:us.length=3):∃ a0 a1 a2,us=[a0,a1,a2]:=by
 obtain ⟨a0,r,rfl,h0⟩:=lenS h
 obtain ⟨a1,a2,rfl⟩:=len2 h0
 exact ⟨a0,a1,a2,rfl⟩
theorem bnd1 {K:Fg} {x qual:Str} {st:Stmt} {f:Addr} {fd:FuncData} {p0:Str} (F:Fun K x qual st f fd)
  (h:∀ (kV doc pm:Value) (an:Option Addr) (cdv ct:Value) (u0:Value),bindArgs (PySem.W.fnOf x qual (zr_ st) (zo_ st) (zb_ st) .none kV doc pm an cdv ct) ⟨[u0],[]⟩=pure (List.zip [p0] [u0])):Binds K fd [p0] [] :=
 F.binds fun a b c d e g us hl=>by obtain ⟨u0,rfl⟩:=len1 hl;exact h a b c d e g u0
theorem bnd2 {K:Fg} {x qual:Str} {st:Stmt} {f:Addr} {fd:FuncData} {p0 p1:Str} (F:Fun K x qual st f fd)
  (h:∀ (kV doc pm:Value) (an:Option Addr) (cdv ct:Value) (u0 u1:Value),bindArgs (PySem.W.fnOf x qual (zr_ st) (zo_ st) (zb_ st) .none kV doc pm an cdv ct) ⟨[u0,u1],[]⟩=pure (List.zip [p0,p1] [u0,u1])):Binds K fd [p0,p1] [] :=
 F.binds fun a b c d e g us hl=>by obtain ⟨u0,u1,rfl⟩:=len2 hl;exact h a b c d e g u0 u1
theorem bnd3 {K:Fg} {x qual:Str} {st:Stmt} {f:Addr} {fd:FuncData} {p0 p1 p2:Str} (F:Fun K x qual st f fd)
  (h:∀ (kV doc pm:Value) (an:Option Addr) (cdv ct:Value) (u0 u1 u2:Value),bindArgs (PySem.W.fnOf x qual (zr_ st) (zo_ st) (zb_ st) .none kV doc pm an cdv ct) ⟨[u0,u1,u2],[]⟩=pure (List.zip [p0,p1,p2] [u0,u1,u2])):Binds K fd [p0,p1,p2] [] :=
 F.binds fun a b c d e g us hl=>by obtain ⟨u0,u1,u2,rfl⟩:=len3 hl;exact h a b c d e g u0 u1 u2
theorem yn_ {K:Fg} {F:Hp}:∀ {vs:List V} {ds:List D},RepL K F vs ds->RepL K F vs.dropLast ds.dropLast
 | _,_,.nil=>.nil
 | _,_,.cons h .nil=>.nil
 | _,_,.cons h (.cons h2 t)=>by
  rw [List.dropLast_cons₂,List.dropLast_cons₂]
  exact .cons h (yn_ (.cons h2 t))
section
variable {S:Type}
@[reducible] noncomputable def zgg_:Ev S (List D):=fun _ k=>k []
end
noncomputable def y2_ (tb:List (Str×Bool)):D->Option Bool
 | .dict ((.none,.str c)::_)=>tb.lookup c
 | _=>none
def Wb_ (tb:List (Str×Bool)) (p:Pu D):Pu Bool:=fun ρ=>bd (p ρ) fun d=>oM (y2_ tb d)
noncomputable def Inst1 (K:Fg) (cv:Value):List (Str×Bool)->Prop
 | []=>True
 | (c,b)::r=>(∃ C,PySem.W.nsIn K mainGlobals c=some (some (.ref C))/\PySem.W.kitOne K (.ref C) cv=some b)/\Inst1 K cv r
noncomputable def InstT (K:Fg) (its:List Value):List (Str×Bool)->Prop
 | []=>True
 | (c,b)::r=>(∃ C,PySem.W.nsIn K mainGlobals c=some (some (.ref C))/\PySem.W.kitAny K (.ref C) its=some b)/\InstT K its r
theorem Inst1.at {K:Fg} {cv:Value}:∀ {tb:List (Str×Bool)} {c:Str} {b:Bool} {C:Addr},Inst1 K cv tb->tb.lookup c=some b->PySem.W.nsIn K mainGlobals c=some (some (.ref C))->PySem.W.kitOne K (.ref C) cv=some b
 | (d,b')::r,c,b,C,h,l,n=>by
  rw [List.lookup_cons] at l
  cases q:c==d with
  | true =>
   rw [q] at l
   cases l
   have:c=d:=by simpa using q
   subst this
   obtain ⟨⟨C',n',k⟩,_⟩:=h
   rw [n] at n'
   cases n'
   exact k
  | false=>rw [q] at l;exact Inst1.at h.2 l n
theorem InstT.at {K:Fg} {its:List Value}:∀ {tb:List (Str×Bool)} {c:Str} {b:Bool} {C:Addr},InstT K its tb->tb.lookup c=some b->PySem.W.nsIn K mainGlobals c=some (some (.ref C))->PySem.W.kitAny K (.ref C) its=some b
 | (d,b')::r,c,b,C,h,l,n=>by
  rw [List.lookup_cons] at l
  cases q:c==d with
  | true =>
   rw [q] at l
   cases l
   have:c=d:=by simpa using q
   subst this
   obtain ⟨⟨C',n',k⟩,_⟩:=h
   rw [n] at n'
   cases n'
   exact k
  | false=>rw [q] at l;exact InstT.at h.2 l n
theorem zbY_ {K:Fg} {F:Hp} {v:V} {c:Str} {es:List (D×D)} (r:Rep K F v (.dict ((.none,.str c)::es))):∃ a C dd fv,v=.ref a/\F a=some (.ext (XO a C dd))/\XQ K C c/\FX F dd fv/\es.map (·.1)=fv.map (fun p=>.str p.1)/\RepL K F (fv.map (·.2)) (es.map (·.2)):=by
 cases r with
 | dct _ h _=>exact absurd (zbT_ h) (by simp [isXe])
 | dck _ h _=>exact absurd (zbU_ h) (by simp [isXe])
 | exc h1 q fx h2 h3=>exact ⟨_,_,_,_,rfl,h1,q,fx,h2,h3⟩
theorem FX.xat {F H:Hp} {a C:Addr} {dd:Option Addr} {fv:List (Str×V)} (s:Same F H) (h1:F a=some (.ext (XO a C dd))) (fx:FX F dd fv):XAt H a C dd:=⟨s _ _ h1,fun dx z=>by
 rcases fx with ⟨z',_⟩|⟨dx',z',y⟩
 ·rw [z'] at z;cases z
 ·rw [z'] at z;cases z;exact ⟨_,s _ _ y⟩⟩
def zeO_ (K:Fg) (tb:List (Str×Bool)) (vc:V):List V->Hp->VK->Prop:=fun xs H Q=>∃ v d b,xs=[v,vc]/\Rep K H v d/\y2_ tb d=some b/\Q (.bl b) H
def zeN_ (K:Fg) (tb:List (Str×Bool)) (vcs:List V):List V->Hp->VK->Prop:=fun xs H Q=>∃ v p d b,xs=[v,.ref p]/\H p=some (.tup vcs)/\Rep K H v d/\y2_ tb d=some b/\Q (.bl b) H
theorem UP_ {tb:List (Str×Bool)} {d:D} {b:Bool} (h:y2_ tb d=some b):∃ c es,d=.dict ((.none,.str c)::es)/\tb.lookup c=some b:=by
 unfold y2_ at h
 split at h
 ·exact ⟨_,_,rfl,h⟩
 ·cases h
theorem Vv_ {X:Cx} {tb:List (Str×Bool)} {vc:V} {cv:Value} (hv:RelV vc cv) (hu:∀ u,RelV vc u->u=cv) (ht:Inst1 X.K cv tb):CallR X (.builtin "isinstance") (zeO_ X.K tb vc):=by
 intro pins s σ H xs us Q I r h
 obtain ⟨v,d,b,rfl,rp,hb,q⟩:=h
 obtain ⟨u,w,rfl,ru,rw'⟩:=vals2 r
 have:=hu w rw'
 subst this
 obtain ⟨c,es,rfl,hl⟩:=UP_ hb
 obtain ⟨a,C,dd,fv,rfl,h1,xq,fx,_,_⟩:=zbY_ rp
 cases ru
 obtain ⟨D,fI,xc⟩:=xq.xc
 exact Vi_ I xc xq.kc (fx.xat (Same.refl _) h1) (ht.at hl xq.ns) fun tk=>⟨.bl _,H,I.tok tk,rfl,q⟩
theorem Vu_ {X:Cx} {tb:List (Str×Bool)} {vcs:List V} {its:List Value} (hu:∀ us,Vals vcs us->us=its) (ht:InstT X.K its tb):CallR X (.builtin "isinstance") (zeN_ X.K tb vcs):=by
 intro pins s σ H xs us Q I r h
 obtain ⟨v,p,d,b,rfl,hp,rp,hb,q⟩:=h
 obtain ⟨u,w,rfl,ru,rw'⟩:=vals2 r
 cases rw'
 obtain ⟨c,es,rfl,hl⟩:=UP_ hb
 obtain ⟨a,C,dd,fv,rfl,h1,xq,fx,_,_⟩:=zbY_ rp
 cases ru
 obtain ⟨D,fI,xc⟩:=xq.xc
 obtain ⟨its',rv,⟨o,e1,e2,n',e3⟩,hz⟩:=I.tuple (SqT.of hp)
 have:=hu its' rv
 subst this
 obtain ⟨cl,d1,da,sl⟩:=o
 dsimp only at e2 e3
 subst e2 e3
 exact YJ_ I xc xq.kc (fx.xat (Same.refl _) h1) e1 (ht.at hl xq.ns) fun tk=>⟨.bl _,H,I.tok tk,rfl,q⟩
noncomputable def tCs:List V->TA
 | []=>tNil
 | v::r=>zel_ (tC v) (tCs r)
theorem zbx_ {σ:L2.St} {H:Hp}:∀ {vs:List V} {Q:List V->Hp->Prop},Q vs H->tCs vs σ H Q
 | [],Q,h=>h
 | v::r,Q,h=>by
  show tCs r σ H fun ys H2=>Q (v::ys) H2
  exact zbx_ h
section
variable {X:Cx} {e t:Expr} {ts:List Expr} {p:Pu D} {pos p1 p2:Pos} {tb:List (Str×Bool)} {x1:ExprContext}
theorem QI_ {vc:V} {cv:Value} (hv:RelV vc cv) (hu:∀ u,RelV vc u->u=cv) (htb:Inst1 X.K cv tb) (hg:Gl X "isinstance") (hm:X.mg "isinstance" = none) (ht:PE X t (tC vc)) (ha:AP X e p) (hs:starEach [e,t] X.env=(false,eval e X.env)::starEach [t] X.env) (hs2:starEach [t] X.env=(false,eval t X.env)::starEach [] X.env)
  (hpl:(backTo pos (starEach [t] X.env)).any (·.1)=false):AB X (.Call (.Name "isinstance" p1) [e,t] [] pos) (Wb_ tb p) :=
 fun G F σ H ρ Q S w=>sem (Zi_ (Vv_ hv hu htb) hg hm (by decide +kernel) (jU_ zn_ (jU_ ht ZC_ hs2) hs) (by decide) (by decide) hs hpl) (ha G F σ H ρ _ S (w.bind.imp fun d F1 H1 s1 S1 w1 v hv=>by
  obtain ⟨b,hb,k⟩:=w1.opt
  exact ⟨v,d,b,rfl,hv.mono S1.fh,hb,k F1 H1 (Same.refl _) S1⟩))
end
section
variable {X:Cx} {e:Expr} {ts:List Expr} {p:Pu D} {pos p1 p2:Pos} {tb:List (Str×Bool)}
theorem zbo_ {vcs:List V} {its:List Value} {x1} (hu:∀ us,Vals vcs us->us=its) (htb:InstT X.K its tb) (hg:Gl X "isinstance") (hm:X.mg "isinstance" = none) (ht:PA X ts (tCs vcs)) (hl:vcs.length<=1000) (ha:AP X e p)
  (hs:starEach [e,.Tuple ts x1 p2] X.env=(false,eval e X.env)::starEach [.Tuple ts x1 p2] X.env) (hs2:starEach [.Tuple ts x1 p2] X.env=(false,eval (.Tuple ts x1 p2) X.env)::starEach [] X.env)
  (hpl:(backTo pos (starEach [.Tuple ts x1 p2] X.env)).any (·.1)=false):AB X (.Call (.Name "isinstance" p1) [e,.Tuple ts x1 p2] [] pos) (Wb_ tb p) :=
 fun G F σ H ρ Q S w=>sem (Zi_ (Vu_ hu htb) hg hm (by decide +kernel) (jU_ zn_ (jU_ (zbI_ ht) ZC_ hs2) hs) (by decide) (by decide) hs hpl) (ha G F σ H ρ _ S (w.bind.imp fun d F1 H1 s1 S1 w1 v hv=>by
  obtain ⟨b,hb,k⟩:=w1.opt
  refine zbx_ ⟨Qo_ hl,fun q hq=>?_⟩
  have S2:=S1.lay (o:=.tup vcs) hq
  exact ⟨v,q,d,b,rfl,zi_,hv.mono S2.fh,hb,k F1 _ (Same.refl _) S2⟩))
end
noncomputable abbrev _root_.L2.Cx.wishP (X:Cx) (E:Value->Shared->Prop) (pn:List (Addr×Obj)):Cx:={ X with xe:=E,pn:=pn }
section
variable {X:Cx} {pins pins':List (Addr×Obj)} {σ:L2.St} {H:Hp} {s:Shared} {E:Value->Shared->Prop}
theorem _root_.L2.Inv.wishP (I:Inv X pins σ H s) (E:Value->Shared->Prop):Inv (X.wishP E (X.pn++pins)) [] σ H s :=
 ⟨⟨I.ok.mod,I.ok.kind,I.ok.glob,I.ok.blt,I.ok.above,I.ok.inj,I.ok.has,I.ok.cab,I.ok.hd,I.ok.frames,I.ok.stk,I.ok.exf,I.ok.bs,I.ok.bsz,I.ok.noex,I.ok.exfs,I.ok.funs,I.ok.frf⟩,I.os,I.bare,I.base,I.loc,I.cell,I.free,I.freeC,fun p hp=>I.pin p (by simpa using hp),I.hok,I.len⟩
theorem _root_.L2.Inv.unwishP (I:Inv (X.wishP E (X.pn++pins)) pins' σ H s):Inv X pins σ H s :=
 ⟨⟨I.ok.mod,I.ok.kind,I.ok.glob,I.ok.blt,I.ok.above,I.ok.inj,I.ok.has,I.ok.cab,I.ok.hd,I.ok.frames,I.ok.stk,I.ok.exf,I.ok.bs,I.ok.bsz,I.ok.noex,I.ok.exfs,I.ok.funs,I.ok.frf⟩,I.os,I.bare,I.base,I.loc,I.cell,I.free,I.freeC,fun p hp=>I.pin p (List.mem_append_left _ hp),I.hok,I.len⟩
theorem QX_ {Dd:Ends} {f:Flow} {s':Shared} (h:SP (X.wishP E (X.pn++pins)) [] Dd f s'):SP X pins Dd f s':=by
 cases f with
 | next=>obtain ⟨σ',H',I,q⟩:=h;exact ⟨σ',H',I.unwishP,q⟩
 | brk=>obtain ⟨σ',H',I,q⟩:=h;exact ⟨σ',H',I.unwishP,q⟩
 | cont=>obtain ⟨σ',H',I,q⟩:=h;exact ⟨σ',H',I.unwishP,q⟩
 | ret u=>obtain ⟨v,σ',H',I,r,q⟩:=h;exact ⟨v,σ',H',I.unwishP,r,q⟩
end
theorem _root_.L3.StOk.reB {K:Fg} {G:Gh} {F H B:Hp} {σ:L2.St} {ρ:En} (S:StOk K { G with B:=B } F σ H ρ) (h:Same G.B F):StOk K G F σ H ρ :=
 ⟨S.fh,S.oh,S.fo,S.ln,S.fz,fun i c q=>by obtain ⟨a,e,oa⟩:=S.ow i c q;exact ⟨a,e,oa.nf,oa.no,oa.he⟩,S.dj,S.pp,S.pq,h⟩
theorem _root_.L3.StOk.toB {K:Fg} {G:Gh} {F H:Hp} {σ:L2.St} {ρ:En} (S:StOk K G F σ H ρ):StOk K { G with B:=F } F σ H ρ :=
 ⟨S.fh,S.oh,S.fo,S.ln,S.fz,fun i c q=>by obtain ⟨a,e,oa⟩:=S.ow i c q;exact ⟨a,e,oa.nf,oa.no,oa.he⟩,S.dj,S.pp,S.pq,Same.refl _⟩
noncomputable def noOp (ρ:En):Bool:=ρ.all fun x=>match x with
 | some (.op _)=>false
 | _=>true
noncomputable def JO_ (sh:List Kd):Bool:=sh.all fun k=>match k with
 | .f=>true
 | .dead=>true
 | _=>false
theorem JN_:∀ {sh:List Kd} {s:SOf sh} {i:Nat} {av:AV},JO_ sh=true->(wr sh s)[i]? = some (some av)->∃ d,av=.fz d
 | [],s,i,av,_,q=>by simp [wr] at q
 | .f::r,s,0,av,h,q=>by simp [wr] at q;exact ⟨_,q.symm⟩
 | .f::r,s,i+1,av,h,q=>JN_ (sh:=r) (s:=s.2) (i:=i) (by simpa [JO_] using h) (by simpa [wr] using q)
 | .dead::r,s,0,av,h,q=>by simp [wr] at q
 | .dead::r,s,i+1,av,h,q=>JN_ (sh:=r) (s:=s) (i:=i) (by simpa [JO_] using h) (by simpa [wr] using q)
 | .o::r,s,i,av,h,q=>by simp [JO_] at h
 | .p::r,s,i,av,h,q=>by simp [JO_] at h
 | .t::r,s,i,av,h,q=>by simp [JO_] at h
 | .k::r,s,i,av,h,q=>by simp [JO_] at h
noncomputable def Q3_ {S:Type} (cs:List Str) (c:Str) (m:M S):M S:=match cs.contains c with
 | true=>m
 | false=>.bad
def tryE {S A B:Type} (m:M (A ⊕ (Ex×B))) (k:A->M S) (h:Ex->B->M S):M S:=bd m fun r=>match r with
 | .inl a=>k a
 | .inr p=>h p.1 p.2
noncomputable def onX {S T:Type} (h:Ex->M T) (m:M S) (k:S->M T):M T:=m.on h k
noncomputable def KB (sh shx:List Kd):KS (SOf sh ⊕ (Ex×SOf shx)):=⟨rdk sh fun s=>.ret (.inl s),fun _ _=>.bad,fun _ _=>.bad,fun _=>.bad,fun _=>.bad,fun ex ρ=>rdk shx (fun s=>.ret (.inr (ex,s))) ρ⟩
noncomputable def KH {S:Type} (j:Nat) (K:KS S):KS S:=⟨fun ρ=>K.nx (ρ.set j none),fun _ _=>.bad,fun _ _=>.bad,fun _=>.bad,fun _=>.bad,fun _ _=>.bad⟩
noncomputable def sTry {S:Type} (j:Nat) (cs:List Str) (sh shx:List Kd) (mb:SM (SOf sh ⊕ (Ex×SOf shx))) (mh:SM S):SM S:=fun K ρ=>match noOp ρ with
 | true=>tryE (mb (KB sh shx) ρ) (fun s=>K.nx (wr sh s)) fun ex s=>Q3_ cs ex.cls (mh (KH j K) ((wr shx s).set j (some (.fz (encX ex)))))
 | false=>.bad
noncomputable def HandL (K:Fg) (hv:Value):List Str->Prop
 | []=>True
 | c::r=>(∃ C,PySem.W.nsIn K mainGlobals c=some (some (.ref C))/\PySem.W.exmOne K (.ref C) hv=some true)/\HandL K hv r
theorem HandL.at {K:Fg} {hv:Value}:∀ {cs:List Str} {c:Str} {C:Addr},HandL K hv cs->cs.contains c=true->PySem.W.nsIn K mainGlobals c=some (some (.ref C))->PySem.W.exmOne K (.ref C) hv=some true
 | d::r,c,C,h,l,n=>by
  rw [List.contains_cons,Bool.or_eq_true] at l
  rcases l with q|q
  ·have:c=d:=by simpa using q
   subst this
   obtain ⟨⟨C',n',k⟩,_⟩:=h
   rw [n] at n'
   cases n'
   exact k
  ·exact HandL.at h.2 q n
section
variable {S:Type} {X:Cx} {j:Nat} {x n:Str} {b0:Stmt} {body suite:List Stmt} {pC ph pos:Pos} {cs:List Str} {sh shx:List Kd} {hv:Value} {mb:SM (SOf sh ⊕ (Ex×SOf shx))} {mh:SM S}
theorem zgu_ (hmx:X.mg x=some hv) (hgx:Gl X x) (hcs:HandL X.K hv cs) (hb:∀ E pn,ASs (X.wishP E pn) body mb) (hh:∀ a,ASs (cau X a) (b0::suite) mh) (hF:JO_ shx=true)
  (hN:X.N.Nodup) (hj:X.N[j]? = some n) (hnl:X.env.scope.names.lookup n=some .local) (stk:X.stack=X.env::X.outer) (frm:X.env.frame=some X.env.locals) (hdx:(x==("__debug__" : Str))=false) :
  AS X (.Try body [.ExceptHandler (some (.Name x pC)) (some n) (b0::suite) ph] [] [] pos) (sTry j cs sh shx mb mh):=by
 intro OK K G F σ H ρ E hO hX St ok eo
 unfold sTry at ok
 cases hq:noOp ρ with
 | false=>rw [hq] at ok;exact (hO ok).elim
 | true =>
 rw [hq] at ok
 dsimp only at ok
 have noP:∀ i a,G.P i≠some a:=fun i a z=>by
  obtain ⟨_,c,q⟩:=St.pp i a z
  unfold noOp at hq
  have:=List.all_eq_true.mp hq _ (List.mem_of_getElem? q)
  cases this
 unfold JB_
 intro pins s I
 rw [arm_exec_Try]
 refine wpAny_bind (wpAny_standAt (wpAny_tryStmt_except ?_))
 generalize hXE:(fun (e:Value) (s1:Shared)=>wpAny (model X.prog X.w) X.A (noteFrame e X.env) (fun _ s2=>wpAny (model X.prog X.w) X.A (setFlight e none) (fun _ s3=>wpAny (model X.prog X.w) X.A (handleBy e X.env [.ExceptHandler (some (.Name x pC)) (some n) (b0::suite) ph]) (SP X pins E) X.xe s3) X.xe s2) X.xe s1)=XE
 let E1:Ends:={ nx:=E.nx,rt:=fun _ _=>False,bk:=fun _ _=>False,ct:=fun _ _=>False }
 let OK1:M (SOf sh ⊕ (Ex×SOf shx))->Prop:=fun m=>OK (tryE m (fun s=>K.nx (wr sh s)) fun ex s=>Q3_ cs ex.cls (mh (KH j K) ((wr shx s).set j (some (.fz (encX ex))))))
 have hO1:KOk OK1:=fun z=>hO z
 have bsem:Uk_ (X.wishP XE (X.pn++pins)) body E1 σ H:=by
  refine hb XE (X.pn++pins) OK1 (KB sh shx) { G with B:=F } F σ H ρ E1 hO1 ?_ St.toB ok ⟨?_,fun F' σ' H' ρ' d v s S' r o=>(hO1 o).elim,fun F' σ' H' ρ' d v s S' r o=>(hO1 o).elim,fun F' σ' H' ρ' s S' o=>(hO1 o).elim,fun F' σ' H' ρ' s S' o=>(hO1 o).elim⟩
  ·
   intro F1 ρ1 ex o1
   intro F' H' s' a C dd pins' σ' g fz I' xs hp xr
   have o2:OK1 (rdk shx (fun s=>.ret (.inr (ex,s))) ρ1):=o1
   unfold rdk at o2
   cases hr:rd shx ρ1 with
   | none=>rw [hr] at o2;exact (hO1 o2).elim
   | some sx =>
   rw [hr] at o2
   have o3:OK (Q3_ cs ex.cls (mh (KH j K) ((wr shx sx).set j (some (.fz (encX ex)))))):=o2
   unfold Q3_ at o3
   cases hc:cs.contains ex.cls with
   | false=>rw [hc] at o3;exact (hO o3).elim
   | true =>
   rw [hc] at o3
   dsimp only at o3
   have I2:Inv X pins σ' H' s':=I'.unwishP
   have hlo:X.s₀.heap.objs.size<=X.s₀.heap.objs.size:=Nat.le_refl _
   have hp2:∀ p∈X.pn++pins,¬ TbOf s'.heap a p.1:=fun p q=>hp p (List.mem_append_left _ q)
   show XE (.ref a) s'
   subst hXE
   refine Ql_ (lo:=X.s₀.heap.objs.size) (base:=X.base) (env:=X.env) (outer:=X.outer) (L:=X.env.locals) (P:=X.prog) (w:=X.w) (I2.ok.frames.trans (congrArg some stk)) (stk▸I2.stack) frm I2.hok xs fun h3 m3 xs3 tn=>?_
   have I3:Inv X pins σ' H' { s' with heap:=h3 }:=Inv.mv I2 (by rw [stk];exact m3) xs xs3 hlo hp2 s'.toks
   have hp3:∀ p∈X.pn++pins,¬ TbOf h3 a p.1:=fun p q z=>absurd (Nat.lt_of_lt_of_le (Heap.lt_size (I2.pin p q).1) (tn _ z)) (Nat.lt_irrefl _)
   refine WW_ (K:=X.K) (C:=C) (ZH_ (X:=cau X a) (U0_ I3) hgx hmx ⟨I3.kIn,hcs.at hc xr.1.ns,?_,?_⟩ hdx)
   ·obtain ⟨oe,_,q1,q2,_⟩:=xs3.obj
    exact ⟨oe,q1,q2⟩
   refine flight_again (s:={ s' with heap:=h3 }) (frs X.stack) xs3 fun h4 m4 xs4=>?_
   have I4:Inv X pins σ' H' { s' with heap:=h4 }:=Inv.mv (s:={ s' with heap:=h3 }) I3 m4 xs3 xs4 hlo hp3 s'.toks
   refine JC_ I4 hN hj (.inl hnl) (v:=.ref a) rfl (fun s5 I5=>?_) (.inr hnl)
   have oa:G.O a=none:=by
    cases q:G.O a with
    | none=>rfl
    | some o =>
     have h1:=g.oh a o q
     rw [xs.trk] at h1
     cases h1
     exact ((g.fo a _ q).2:False).elim
   obtain ⟨F2,sm2,fh2,fo2,ra⟩:∃ F2,Same F' F2/\Same F2 H'/\(∀ b o,G.O b=some o->F2 b=none/\NoTE o)/\Rep X.K F2 (.ref a) (encX ex):=by
    cases q:F' a with
    | some o =>
     have h1:=g.fh a o q
     rw [xs.trk] at h1
     cases h1
     exact ⟨F',Same.refl _,g.fh,g.fo,xr.rep q⟩
    | none =>
     have sm:=ji_ (F:=F') (o:=.ext (XO a C dd)) q
     refine ⟨upd F' a (.ext (XO a C dd)),sm,fun b u z=>?_,fun b u z=>?_,(xr.mono sm).rep zi_⟩
     ·by_cases y:b=a
      ·subst y;rw [zi_] at z;cases z;exact xs.trk
      ·rw [zf_ y] at z;exact g.fh b u z
     ·rw [zf_ (zl_ z oa)];exact g.fo b u z
   have FB:Same F F':=g.fb
   have hjl:j<σ'.length:=by rw [I2.len];exact (List.getElem?_eq_some_iff.mp hj).1
   obtain ⟨wl,w1,w2⟩:=JJ_ shx ρ1 sx hr
   have hjr:j<(wr shx sx).length:=by rw [wl,<-fz.ln];exact hjl
   have only:∀ i av,((wr shx sx).set j (some (.fz (encX ex))))[i]? = some (some av)->∃ d,av=AV.fz d:=fun i av q=>by
    by_cases y:i=j
    ·rw [y,List.getElem?_set_self hjr] at q;injection q with q;injection q with q;exact ⟨_,q.symm⟩
    ·rw [List.getElem?_set_ne (Ne.symm y)] at q;exact JN_ hF q
   have noown:∀ i c,¬ own ((wr shx sx).set j (some (.fz (encX ex)))) i c:=fun i c q=>by
    rcases q with q|q<;>(obtain ⟨d,z⟩:=only i _ q;cases z)
   have S3:StOk X.K G F2 (σ'.set j (some (V.ref a))) H' ((wr shx sx).set j (some (.fz (encX ex)))):=by
    refine ⟨fh2,g.oh,fo2,by simp [wl,fz.ln],fun i d q=>?_,fun i c q=>(noown i c q).elim,fun i k c e b q=>(noown i c q).elim,fun i b z=>(noP i b z).elim,fun i c q=>?_,(St.fb.trans FB).trans sm2⟩
    ·by_cases y:i=j
     ·rw [y,List.getElem?_set_self hjr] at q
      injection q with q;injection q with q;injection q with q
      rw [<-q,y]
      exact ⟨_,List.getElem?_set_self hjl,ra⟩
     ·rw [List.getElem?_set_ne (Ne.symm y)] at q
      obtain ⟨v,e1,r1⟩:=fz.fz i d (w1 i _ q)
      exact ⟨v,by rw [List.getElem?_set_ne (Ne.symm y)];exact e1,r1.mono sm2⟩
    ·obtain ⟨d,z⟩:=only i _ q;cases z
   have suite':=hh a OK (KH j K) G F2 _ H' _ { nx:=fun σ6 H6=>∃ F6 ρ6,Same F2 F6/\StOk X.K G F6 σ6 H6 ρ6/\OK (K.nx (ρ6.set j none)),rt:=fun _ _=>False,bk:=fun _ _=>False,ct:=fun _ _=>False } hO (fun _ _ _ z=>(hO z).elim) S3 o3
    ⟨fun F6 σ6 H6 ρ6 s6 S6 o6=>⟨F6,ρ6,s6,S6,o6⟩,fun F' σ' H' ρ' d v s S' r o=>(hO o).elim,fun F' σ' H' ρ' d v s S' r o=>(hO o).elim,fun F' σ' H' ρ' s S' o=>(hO o).elim,fun F' σ' H' ρ' s S' o=>(hO o).elim⟩
   unfold Uk_ at suite'
   refine wpAny_mono (suite' pins s5 (U0_ I5)) (fun f s6 z=>?_) fun _ _ z=>z
   cases f with
   | next =>
    obtain ⟨σ6,H6,I6,F6,ρ6,s6,S6,o6⟩:=z
    refine zdu_ (Vq_ I2.ok.hd I6) hN hj hnl fun s7 I7=>⟨σ6.set j none,H6,I7,?_⟩
    have S7:StOk X.K G F6 σ6 H6 (ρ6.set j none):=by
     refine S6.weak (by simp) (fun i av q=>?_) (fun i c q=>?_)
     ·by_cases y:i=j
      ·rw [y,List.getElem?_set] at q
       simp at q
      ·rw [List.getElem?_set_ne (Ne.symm y)] at q;exact q
     ·obtain ⟨b,z⟩:=S6.pq i c q
      exact (noP i b z).elim
    refine eo.nx F6 _ H6 (ρ6.set j none) ((FB.trans sm2).trans s6) (S7.setdead (fun av q=>?_) none) o6
    rw [List.getElem?_set] at q
    simp at q
   | brk=>obtain ⟨_,_,_,z⟩:=z;exact z.elim
   | cont=>obtain ⟨_,_,_,z⟩:=z;exact z.elim
   | ret u=>obtain ⟨_,_,_,_,_,z⟩:=z;exact z.elim
  ·intro F' σ' H' ρ' s1 S' o
   have o2:OK1 (rdk sh (fun s=>.ret (.inl s)) ρ'):=o
   unfold rdk at o2
   cases hr:rd sh ρ' with
   | none=>rw [hr] at o2;exact (hO1 o2).elim
   | some sx =>
   rw [hr] at o2
   have S2:StOk X.K G F' σ' H' ρ':=S'.reB (St.fb.trans s1)
   exact eo.nx F' σ' H' (wr sh sx) s1 (S2.rd hr) o2
 unfold Uk_ at bsem
 refine wpAny_mono (bsem [] s (I.wishP XE)) (fun f s1 z=>?_) fun e s1 z=>by subst hXE;exact z
 have z2:=QX_ z
 cases f with
 | next=>exact wpAny_execs_nil z2
 | brk=>obtain ⟨_,_,_,z⟩:=z2;exact z.elim
 | cont=>obtain ⟨_,_,_,z⟩:=z2;exact z.elim
 | ret u=>obtain ⟨_,_,_,_,_,z⟩:=z2;exact z.elim
end
theorem X3_ {a:Addr}:∀ u,RelV (.ref a) u->u=.ref a:=fun u h=>h
theorem Uv_:∀ {Cs:List Addr} (us:List Value),Vals (Cs.map V.ref) us->us=Cs.map Value.ref
 | [],us,h=>by cases h;rfl
 | C::r,us,h=>by
  rw [List.map_cons] at h
  cases h with
  | cons a b=>rw [Uv_ _ b];cases a;rfl
noncomputable def MgL (mg:Str->Option Value):List Str->List Addr->Prop
 | [],[]=>True
 | c::r,C::t=>mg c=some (.ref C)/\MgL mg r t
 | _,_=>False
inductive NamesOf (X:Cx):List Str->List Expr->Prop
 | nil:NamesOf X [] []
 | cons {c:Str} {p:Pos} {cs:List Str} {ts:List Expr} (hg:Gl X c) (hd:(c==("__debug__" : Str))=false) (hs:starEach (.Name c p::ts) X.env=(false,eval (.Name c p) X.env)::starEach ts X.env) (r:NamesOf X cs ts):NamesOf X (c::cs) (.Name c p::ts)
theorem Qi_ {X:Cx}:∀ {cs:List Str} {ts:List Expr} {Cs:List Addr},NamesOf X cs ts->MgL X.mg cs Cs->PA X ts (tCs (Cs.map V.ref))
 | _,_,[],.nil,_=>ZC_
 | _,_,C::Cs,.nil,h=>h.elim
 | _,_,[],.cons _ _ _ _,h=>h.elim
 | _,_,C::Cs,.cons hg hd hs r,h=>jU_ (Ys_ hg h.1 (show RelV (.ref C) (.ref C) from rfl) hd) (Qi_ r h.2) hs
theorem Wt_ {mg:Str->Option Value}:∀ {cs:List Str} {Cs:List Addr},MgL mg cs Cs->Cs.length=cs.length
 | [],[],_=>rfl
 | [],_::_,h=>h.elim
 | _::_,[],h=>h.elim
 | _::_,_::_,h=>by simp [Wt_ h.2]
section
variable {X:Cx} {e:Expr} {ts:List Expr} {p:Pu D} {pos p1 p2:Pos} {tb:List (Str×Bool)}
theorem zbp_ {c:Str} (h:∃ C,X.mg c=some (.ref C)/\Inst1 X.K (.ref C) tb) (hgc:Gl X c) (hm:X.mg "isinstance" = none) (hg:Gl X "isinstance") (ha:AP X e p) (hs:starEach [e,.Name c p2] X.env=(false,eval e X.env)::starEach [.Name c p2] X.env) (hs2:starEach [.Name c p2] X.env=(false,eval (.Name c p2) X.env)::starEach [] X.env)
  (hpl:(backTo pos (starEach [.Name c p2] X.env)).any (·.1)=false) (hd:(c==("__debug__" : Str))=false):AB X (.Call (.Name "isinstance" p1) [e,.Name c p2] [] pos) (Wb_ tb p):=by
 obtain ⟨C,h1,h2⟩:=h
 exact QI_ (vc:=.ref C) rfl X3_ h2 hg hm (Ys_ hgc h1 rfl hd) ha hs hs2 hpl
theorem zbn_ {c:Str} {T:String} (h:Inst1 X.K (.type T) tb) (hgc:Gl X c) (hmc:X.mg c=none) (hb:bootBuiltins c=some (.type T)) (hm:X.mg "isinstance" = none) (hg:Gl X "isinstance") (ha:AP X e p) (hs:starEach [e,.Name c p2] X.env=(false,eval e X.env)::starEach [.Name c p2] X.env) (hs2:starEach [.Name c p2] X.env=(false,eval (.Name c p2) X.env)::starEach [] X.env)
  (hpl:(backTo pos (starEach [.Name c p2] X.env)).any (·.1)=false) (hn:c ≠ "__name__") (hd:(c==("__debug__" : Str))=false):AB X (.Call (.Name "isinstance" p1) [e,.Name c p2] [] pos) (Wb_ tb p) :=
 QI_ (vc:=.ty T) rfl (fun u h=>h) h hg hm (zcU_ hgc hmc hb rfl hn hd) ha hs hs2 hpl
theorem XO_ {cs:List Str} {x1} (h:∃ Cs,MgL X.mg cs Cs/\InstT X.K (Cs.map Value.ref) tb) (hn:NamesOf X cs ts) (hl:cs.length<=1000) (hm:X.mg "isinstance" = none) (hg:Gl X "isinstance") (ha:AP X e p)
  (hs:starEach [e,.Tuple ts x1 p2] X.env=(false,eval e X.env)::starEach [.Tuple ts x1 p2] X.env) (hs2:starEach [.Tuple ts x1 p2] X.env=(false,eval (.Tuple ts x1 p2) X.env)::starEach [] X.env)
  (hpl:(backTo pos (starEach [.Tuple ts x1 p2] X.env)).any (·.1)=false):AB X (.Call (.Name "isinstance" p1) [e,.Tuple ts x1 p2] [] pos) (Wb_ tb p):=by
 obtain ⟨Cs,h1,h2⟩:=h
 exact zbo_ (vcs:=Cs.map V.ref) Uv_ h2 hg hm (Qi_ hn h1) (by rw [List.length_map,Wt_ h1];exact hl) ha hs hs2 hpl
end
section
variable {S:Type} {X:Cx} {j:Nat} {x n:Str} {b0:Stmt} {body suite:List Stmt} {pC ph pos:Pos} {cs:List Str} {sh shx:List Kd} {mb:SM (SOf sh ⊕ (Ex×SOf shx))} {mh:SM S}
theorem zdO_ (h:∃ hv,X.mg x=some hv/\HandL X.K hv cs) (hgx:Gl X x) (hb:∀ E pn,ASs (X.wishP E pn) body mb) (hh:∀ a,ASs (cau X a) (b0::suite) mh) (hF:JO_ shx=true)
  (hN:X.N.Nodup) (hj:X.N[j]? = some n) (hnl:X.env.scope.names.lookup n=some .local) (stk:X.stack=X.env::X.outer) (frm:X.env.frame=some X.env.locals) (hdx:(x==("__debug__" : Str))=false) :
  AS X (.Try body [.ExceptHandler (some (.Name x pC)) (some n) (b0::suite) ph] [] [] pos) (sTry j cs sh shx mb mh):=by
 obtain ⟨hv,h1,h2⟩:=h
 exact zgu_ h1 hgx h2 hb hh hF hN hj hnl stk frm hdx
end
theorem zgG_ {K:Fg} {C:Addr} (h:(["bool", "int", "str", "list", "tuple", "dict"].all fun T=>PySem.W.kitOne K (.ref C) (.type T)==some false)=true):∀ T,tyOk T=true->PySem.W.kitOne K (.ref C) (.type T)=some false:=fun T hT=>by
 have h':∀ T∈["bool", "int", "str", "list", "tuple", "dict"],PySem.W.kitOne K (.ref C) (.type T)=some false:=fun T q=>by
  have:=List.all_eq_true.mp h T q
  simpa using this
 apply h'
 simp only [tyOk,Bool.or_eq_true,beq_iff_eq] at hT
 rcases hT with ((((rfl|rfl)|rfl)|rfl)|rfl)|rfl<;>simp
noncomputable def gMin:List Int->Option Int
 | []=>none
 | n::r=>some (r.foldl min n)
noncomputable def zaQ_:List D->Option D
 | [.list ds]=>match intsOf ds with
  | some ns=>(gMin ns).map PyData.int
  | none=>none
 | l=>zdB_ l
theorem W2_ (r:List Int):∀ n:Int,r.foldl min n<=n/\(∀ i∈r,r.foldl min n<=i)/\(r.foldl min n=n\/r.foldl min n∈r):=by
 induction r with
 | nil=>intro n;exact ⟨Int.le_refl _,fun i hi=>(nomatch hi),.inl rfl⟩
 | cons a r ih =>
  intro n
  obtain ⟨h1,h2,h3⟩:=ih (min n a)
  rw [List.foldl_cons]
  refine ⟨by lia,fun i hi=>?_,?_⟩
  ·rcases List.mem_cons.mp hi with rfl|hi
   ·lia
   ·exact h2 i hi
  ·rcases h3 with h3|h3
   ·rw [h3]
    by_cases hna:a<=n
    ·right;rw [show min n a=a by lia];exact List.mem_cons_self
    ·left;lia
   ·right;exact List.mem_cons_of_mem _ h3
theorem UR_ {ns:List Int} {i:Int} (h:gMin ns=some i):(∀ j∈ns,i<=j)/\i∈ns:=by
 cases ns with
 | nil=>cases h
 | cons n r =>
  cases h
  obtain ⟨h1,h2,h3⟩:=W2_ r n
  refine ⟨fun i hi=>?_,?_⟩
  ·rcases List.mem_cons.mp hi with rfl|hi
   ·exact h1
   ·exact h2 i hi
  ·rcases h3 with h3|h3
   ·rw [h3];exact List.mem_cons_self
   ·exact List.mem_cons_of_mem _ h3
theorem Xq_ {X:Cx} (hc:X.calm=true):CallR X (.builtin "min") (VY_ X.K gMin):=by
 intro pins s σ H xs us Q I r h0
 obtain ⟨a,ns,i,rfl,hq,e,q⟩:=h0
 obtain ⟨u,rfl,ru⟩:=Vals.one r
 cases ru
 obtain ⟨its,rv,pl,hz⟩:=I.list hq
 obtain ⟨ps,rfl,rfl⟩:=uF_ rv
 have hne:ps≠[]:=by rintro rfl;cases e
 have hl:s.heap.IsList a (intItems ps.toArray):=by
  have:=pl.isList
  unfold intItems
  simpa using this
 have hpos:0<ps.length:=List.length_pos_iff.mpr hne
 refine min_intList (I.ok.hd hc) hl (by simpa using hpos) fun v h' tk hv hk=>?_
 obtain ⟨t,rfl⟩:=intItems_at hv
 refine ⟨.int _,H,I.kept hk,⟨_,rfl⟩,?_⟩
 have b:=argBest_lt (numAt ps.toArray) (ps.toArray.size - 1)
 generalize argBest (fun i j=>decide (numAt ps.toArray i<numAt ps.toArray j)) (ps.toArray.size - 1)=m at b hv
 have hm:m<ps.length:=by
  have h0:=b.1
  simp at h0
  lia
 have hsp:=UR_ e
 have e1:numAt ps.toArray m=i:=by
  refine Int.le_antisymm ?_ ?_
  ·obtain ⟨j,hj,ej⟩:=List.getElem_of_mem hsp.2
   have h0:=b.2 j (by simp at hj ⊢;lia)
   rw [uI_ (i:=j),List.getD_eq_getElem?_getD,List.getElem?_eq_getElem hj] at h0
   rw [<-ej]
   exact h0
  ·refine hsp.1 _ ?_
   rw [uI_,List.getD_eq_getElem?_getD,List.getElem?_eq_getElem (by simpa using hm)]
   exact List.getElem_mem _
 rw [e1]
 exact q
def zeJ_ (K:Fg):List V->Hp->VK->Prop:=fun xs H Q=>VY_ K gMin xs H Q\/∃ i j,xs=[.int i,.int j]/\Q (.int (if j<i then j else i)) H
theorem Xr_ {X:Cx} (hc:X.calm=true):CallR X (.builtin "min") (zeJ_ X.K):=(Xq_ hc).or (Xs_ hc)
theorem zda_ {K:Fg}:yU_ K (zeJ_ K) zaQ_:=by
 intro G F σ H ρ xs ds res Q S o e k
 unfold zaQ_ at e
 split at e
 ·rename_i es
  split at e
  case h_2=>cases e
  rename_i ns hns
  obtain ⟨i,hi,rfl⟩:=Option.map_eq_some_iff.mp e
  obtain ⟨v,r,rfl,ho,hr⟩:=zv_ o
  obtain rfl:=zL_ hr
  obtain ⟨a,vs,rfl,h1,h2⟩:=ho.list S.fh
  rw [jA_ hns] at h2
  rw [j1_ h2] at h1
  exact .inl ⟨a,ns,_,rfl,h1,hi,k _ F H (Same.refl _) S (show Rep K F _ _ from .int _)⟩
 ·exact .inr (zdb_ G F σ H ρ xs ds res Q S o e k)
section
variable {prog:Program} {w:World} {A:Around} {E:Value->Shared->Prop} {s:Shared}
theorem Q9_ (d:Addr) (hd:(d==sysModules)=false) :
  MeetsIn prog w (Builtin.«dict.__len__» ⟨[.ref d],[]⟩) (fun _ R s=>∃ o es ep,s.heap.get? d=some o/\o.data=.dict es ep/\R (.ok (.ret (.int es.size s.toks))) { s with toks:=s.toks+1 }) :=
 .of_wp fun A R s ⟨o,es,ep,ho,hdat,h⟩=>by
  show wpAny _ _ (dictSize d >>= _) _ _ s
  unfold dictSize
  refine wpAny_bind (wpAny_bind (wpAny_dictEntries ho hdat (wpAny_pure ?_)))
  show wpAny _ _ (Builtin.Dict.pendingCount d >>= _) _ _ s
  refine wpAny_bind (wpAny_pendingCount_other hd ?_)
  refine wpAny_ret_mkInt ?_
  rw [Nat.add_zero];exact h
theorem Vt_ {d:Addr} {o:Obj} {es:Array DictEntry} {ep:Nat} {Q:Value->Shared->Prop} (hd:(d==sysModules)=false) (ho:s.heap.get? d=some o) (hc:o.cls=.type "dict") (hdat:o.data=.dict es ep) (hfit:(es.size:Int)<2^63)
  (h:Q (.int es.size (s.toks+1)) { s with toks:=s.toks+1+1 }):wpAny (model prog w) A (call (.builtin "len") [.ref d]) Q E s:=by
 have ty:s.TypeIs (.ref d) "dict":=⟨o,ho,hc⟩
 refine Calls.call_function_entry kind_len plain_len entry_len (args_len1 _) ?_
 unfold Builtin.«len»
 refine wpAny_bind (m:=oneArg "len" _) (wpAny_pure ?_)
 refine wpAny_bind (m:=callSpecial? (.ref d) (Str.ofString "__len__")) (wpAny_callSpecial?_slot (name:=Str.ofString "__len__") ty F.slot_dict_len
  (call_meetsIn F.slot_dict_len ty F.entry_dict_len (F.args_dict_len_1 _) (Q9_ d hd) ⟨o,es,ep,ho,hdat,?_⟩))
 show wpAny _ _ _ _ _ { s with toks:=s.toks+1 }
 refine wpAny_bind (wpAny_holding (wpAny_pure ?_))
 refine wpAny_bind (wpAny_letGo ?_)
 show wpAny _ _ (if ((es.size:Nat):Int)<0 then _ else _) _ _ _
 rw [if_neg (by lia)]
 show wpAny _ _ (if ((es.size:Nat):Int)>=2^63 then _ else _) _ _ _
 rw [if_neg (by lia)]
 exact wpAny_bind (wpAny_mkInt (wpAny_pure ⟨_,rfl,h⟩))
end
def zeL_:List V->Hp->VK->Prop:=fun xs H Q=>∃ a n,xs=[.ref a]/\((∃ kvs,H a=some (.dT kvs)/\n=kvs.length)\/∃ kvs,H a=some (.dK kvs)/\n=kvs.length)/\Q (.int (n:Nat)) H
theorem Xx_ {X:Cx}:CallR X (.builtin "len") zeL_:=by
 intro pins s σ H xs us Q I r h0
 obtain ⟨a,n,rfl,hd,q⟩:=h0
 obtain ⟨u,rfl,ru⟩:=L2.Vals.one r
 cases ru
 rcases hd with ⟨kvs,e,rfl⟩|⟨kvs,e,rfl⟩
 ·obtain ⟨z,lo,xs,kt,o,es,ep,h1,h2,h3,h4,_⟩:=Xd_ I.hok e
  have el:es.size=kvs.length:=by
   rw [<-Array.length_toList,h4,List.length_map]
   exact (Paired.length kt).symm
  refine Vt_ lo h1 h2.1 h3 (by rw [el];rw [sizeLine_eq] at z;lia) ?_
  rw [el]
  exact ⟨.int _,H,I.tok _,⟨_,rfl⟩,q⟩
 ·exact zhF_ I (.inl e) fun t s' I'=>⟨.int _,H,I',⟨_,rfl⟩,q⟩
def zeM_ (K:Fg):List V->Hp->VK->Prop:=fun xs H Q=>rLen K xs H Q\/zeL_ xs H Q
theorem U6_ {X:Cx}:CallR X (.builtin "len") (zeM_ X.K):=CallR.or ja_ Xx_
theorem Wk_ {K:Fg}:yU_ K (zeM_ K) Xc_:=by
 intro G F σ H ρ xs ds res Q S o e k
 unfold Xc_ at e
 split at e
 ·rename_i es
  split at e
  ·cases e
  ·rename_i nx
   cases e
   obtain ⟨v,r,rfl,ho,hr⟩:=zv_ o
   obtain rfl:=zL_ hr
   obtain ⟨a,rfl,hh⟩:=ho.dict S.fh (by simpa using nx)
   refine .inr ⟨a,es.length,rfl,?_,k _ F H (Same.refl _) S (.int _)⟩
   rcases hh with ⟨kvs,h1,h2,_⟩|⟨kvs,h1,h2,_⟩
   ·exact .inl ⟨kvs,h1,by have:=congrArg List.length h2;simpa using this⟩
   ·exact .inr ⟨kvs,h1,by have:=congrArg List.length h2;simpa using this⟩
 ·exact .inl (yq_ G F σ H ρ xs ds res Q S o e k)
noncomputable def mClr (ds as:List D):Option (List D):=match as with
 | []=>some []
 | _=>none
noncomputable def zev_ {S:Type} (i j:Nat):SM S:=fun K ρ=>match ownL ρ i with
 | some ds=>match ds.getLast? with
  | some d=>match Za_ (setO ρ i ds.dropLast) j with
   | true=>K.nx ((setO ρ i ds.dropLast).set j (some (.fz d)))
   | false=>.bad
  | none=>.bad
 | none=>.bad
section
variable {S:Type} {X:Cx} {pos pos' apos cpos ypos:Pos}
theorem zbi_ {i:Nat} {x:Str} (hN:X.N[i]? = some x) (hv:Vis X.env.scope x)
  (hbase:attributeBase (.Name x pos') "clear" X.env (eval (.Name x pos') X.env)=eval (.Name x pos') X.env) (hline:(apos.endLine==cpos.line)=true)
  (hsw:swapsWith (.Call (.Attribute (.Name x pos') "clear" apos) [] [] cpos) none pos.line X.env=pure false) (hd:(x==("__debug__" : Str))=false:=by decide) (hcd:(x==("__classdict__" : Str))=false:=by decide) :
  AS X (.Expr (.Call (.Attribute (.Name x pos') "clear" apos) [] [] cpos) pos) (sMut (S:=S) i mClr zgg_):=fun OK K G F σ H ρ E hO hX St ok eo =>
 semS (JK_ (zbJ_ PySem.F.plainAttrs_list PySem.F.slot_list_clear PySem.F.type_list_clear zat_ (uu_ hN hv hd hcd) hbase hline) hsw) (by
  unfold sMut at ok
  split at ok
  case h_2=>exact (hO ok).elim
  ·rename_i ds0 h0
   obtain ⟨a,vs0,ea,hh,rv⟩:=jo_ St h0
   unfold zgg_ at ok
   dsimp only at ok
   split at ok
   ·rename_i ds hds
    rw [h0] at hds
    cases hds
    obtain ⟨ds',hf,o2⟩:=jK_ hO ok
    cases hf
    refine ⟨_,ea,.inl ⟨rfl,vs0,.inl (.inl hh)⟩,a,vs0,rfl,rfl,hh,?_⟩
    exact eo.nx F σ _ _ (Same.refl _) (yI_ St h0 ea .nil) o2
   ·exact (hO ok).elim)
theorem zdP_ {i j:Nat} {x y:Str} (hN:X.N[i]? = some x) (hv:Vis X.env.scope x) (hnd:X.N.Nodup) (hj:X.N[j]? = some y) (hy:Loc X.env.scope y) (hij:i≠j)
  (hbase:attributeBase (.Name x pos') "pop" X.env (eval (.Name x pos') X.env)=eval (.Name x pos') X.env) (hline:(apos.endLine==cpos.line)=true)
  (hsw:swapsWith (.Call (.Attribute (.Name x pos') "pop" apos) [] [] cpos) (some (.Name y ypos)) pos.line X.env=pure false) (hf:X.fn y=true\/X.env.scope.names.lookup y=some .local) (hd:(x==("__debug__" : Str))=false:=by decide) (hcd:(x==("__classdict__" : Str))=false:=by decide) :
  AS X (.Assign [.Name y ypos] (.Call (.Attribute (.Name x pos') "pop" apos) [] [] cpos) pos) (zev_ (S:=S) i j):=fun OK K G F σ H ρ E hO hX St ok eo =>
 semS (Je_ hnd hj hy (zbJ_ PySem.F.plainAttrs_list PySem.F.slot_list_pop PySem.F.type_list_pop zfx_ (uu_ hN hv hd hcd) hbase hline) hsw hf) (by
  unfold zev_ at ok
  split at ok
  case h_2=>exact (hO ok).elim
  rename_i ds0 h0
  split at ok
  case h_2=>exact (hO ok).elim
  rename_i d hdl
  split at ok
  case h_2=>exact (hO ok).elim
  rename_i hset
  obtain ⟨hl,hop⟩:=jL_ hset
  obtain ⟨a,vs0,ea,hh,rv⟩:=jo_ St h0
  have hlen:vs0.length=ds0.length:=rv.length
  rw [List.getLast?_eq_getElem?] at hdl
  obtain ⟨u,hu,ru⟩:=rv.get hdl
  refine ⟨_,ea,.inl ⟨rfl,vs0,.inl (.inl hh)⟩,a,vs0,u,rfl,rfl,hh,by rw [hlen];exact hu,?_⟩
  exact eo.nx F _ _ _ (Same.refl _) ((yI_ St h0 ea (yn_ rv)).store hop hl (.inl ⟨d,rfl,ru⟩)) ok)
end
noncomputable def fnD (f:Str):D:=.dict [(.bool true,.str f)]
noncomputable def fnQ (d:D) (f:Str):Bool:=match d with
 | .dict [(.bool true,.str g)]=>g==f
 | _=>false
theorem zgd_ {d:D} {f:Str} (h:fnQ d f=true):d=fnD f:=by
 unfold fnQ at h
 split at h
 ·rename_i g;have:g=f:=by simpa using h
  subst this;rfl
 ·cases h
theorem zhB_ {K:Fg} {F:Hp} {v:V} {f:Str} (r:Rep K F v (fnD f)):∃ a,v=.ref a/\PySem.W.nsIn K mainGlobals f=some (some (.ref a)):=by
 unfold fnD at r
 cases r with
 | dct _ h _=>exact absurd (zbT_ h) (by simp [isXe])
 | dck _ h _=>exact absurd (zbU_ h) (by simp [isXe])
 | fn h=>exact ⟨_,rfl,h⟩
theorem zbj_ {X:Cx} {f:Str} {p:Pos} (h:∃ a,X.mg f=some (.ref a)/\PySem.W.nsIn X.K mainGlobals f=some (some (.ref a))) (hg:Gl X f) (hd:(f==("__debug__" : Str))=false):AP X (.Name f p) (pCon (fnD f)):=by
 obtain ⟨a,h1,h2⟩:=h
 exact fun G F σ H ρ Q S w=>sem (Ys_ (v:=.ref a) hg h1 rfl hd) (w F H (Same.refl _) S _ (.fn h2))
noncomputable def pFnV (i:Nat) (f:Str) (mf:List D->M D) (ps:Pa D):Pu D:=fun ρ=>match ρ[i]? with
 | some (some (.fz d))=>match fnQ d f with
  | true=>ps (fun ds=>mf ds) ρ
  | false=>.bad
 | _=>.bad
theorem zgz_ {X:Cx} {k n i:Nat} {mf:List D->M D} {x f:Str} {p pos:Pos} {e:Expr} {es:List Expr} {ps:Pa D} (C:CF X.prog X.w X.K X.mg X.base f k (spD X.K n mf)) (hr:Room k X.A) (hN:X.N[i]? = some x) (hv:Vis X.env.scope x) (ha:AA X (e::es) ps) (hn:(e::es).length=n)
  (he:starEach (e::es) X.env=(false,eval e X.env)::starEach es X.env) (hpl:(backTo pos (starEach es X.env)).any (·.1)=false) (hd:(x==("__debug__" : Str))=false:=by decide) (hcd:(x==("__classdict__" : Str))=false:=by decide):AP X (.Call (.Name x p) (e::es) [] pos) (pFnV i f mf ps):=by
 obtain ⟨fa,fd,pl,Fn,h1,h2,h3⟩:=C.ex
 intro G F σ H ρ Q St w
 unfold pFnV at w
 split at w
 case h_2=>exact w.elim
 rename_i d hd0
 split at w
 case h_2=>exact w.elim
 rename_i hq
 obtain rfl:=zgd_ hq
 obtain ⟨v,hv0,rv⟩:=St.fz i _ hd0
 obtain ⟨a,ea,hns⟩:=zhB_ rv
 subst ea
 unfold tSem
 intro pins s I
 have hm:=PySem.W.mg_of I.kIn (I.mod.glob.keeps I.bk) hns
 rw [hm] at h1
 cases h1
 have arg:u8_ X (e::es) σ H fun vs H1=>spD X.K n mf vs H1 Q (EX X G σ):=by
  refine ha G F σ H ρ _ _ _ St w fun ds vs F1 H1 s1 S1 hl r1 w1=>?_
  cases hdm:mf ds with
  | bad=>rw [hdm] at w1;exact w1.elim
  | exc e =>
   rw [hdm] at w1
   exact ⟨_,F1,ds,hl.trans hn,jm_ S1 r1,by rw [hdm];exact fun F' H' Cl dd g xr=>EX.of S1 w1 g xr⟩
  | ret d =>
   rw [hdm] at w1
   refine ⟨_,F1,ds,hl.trans hn,jm_ S1 r1,?_⟩
   rw [hdm]
   intro v F2 H2 s2 S2 r2
   obtain ⟨S3,t3⟩:=uK_ (avs':=ds.map AV.fz) S1 s2 S2
   exact w1 F2 H2 s2 S3 v r2
 unfold u8_ at arg
 refine wpAny_Call_Name_kw (thn (uu_ (X:=X) hN hv hd hcd pins s σ H (fun u H'=>u=.ref fa/\H'=H) I ⟨_,hv0,rfl,rfl⟩) fun u s1 ⟨y,H1,I1,ry,e1,e2⟩=>?_)
 subst e1 e2
 cases ry
 refine PySem.W.callWith_K (h₀:=X.base) I1.ok.mod.kin h2 (thn (arg pos pins s1 I1) fun us s2 ⟨vs,H2,I2,r,q⟩=>⟨I2.kIn,?_⟩) he hpl
 exact zbA_ Fn hr h3 Wa_ I2 r q
structure FunV (K:Fg) (x qual:Str) (st:Stmt) (f:Addr) (fd:FuncData) (T:Addr):Prop where
 ex:∃ (oc:Value) (od:Option Addr) (kV doc pm:Value) (an:Option Addr) (cdv ct:Value) (osl:Array (Option Value)),
  fd=PySem.W.fnOf x qual (zr_ st) (zo_ st) (zb_ st) (.ref T) kV doc pm an cdv ct/\K.lookup f=some ⟨oc,od,.func fd,osl⟩/\PySem.W.codeIn K cdv qual=true
 kp:PySem.W.keepIn K (.ref f)=true
section
variable {P:Program} {w:World} {K:Fg} {mg:Str->Option Value} {base:Heap} {x qual:Str} {st:Stmt} {f T:Addr} {fd:FuncData} {N ps:List Str} {k:Nat}
theorem zdw_ {oc:Value} {od an:Option Addr} {osl:Array (Option Value)} {kV doc pm cdv ct:Value} (l:K.lookup f=some ⟨oc,od,.func (PySem.W.fnOf x qual (zr_ st) (zo_ st) (zb_ st) (.ref T) kV doc pm an cdv ct),osl⟩)
  (c:PySem.W.codeIn K cdv qual=true) (k:PySem.W.keepIn K (.ref f)=true):FunV K x qual st f (PySem.W.fnOf x qual (zr_ st) (zo_ st) (zb_ st) (.ref T) kV doc pm an cdv ct) T:=⟨⟨oc,od,kV,doc,pm,an,cdv,ct,osl,rfl,l,c⟩,k⟩
theorem zhA_ {sp:Sp} (Fn:FunV K x qual st f fd T) (S:FnScope N ps (zb_ st)) (len:∀ vs H Q E,sp vs H Q E->vs.length=ps.length)
  (hbody:∀ (cdv:Value) (A:Around) (outer:List Env) (s:Shared) (H:Hp) (vs:List V) (Q:VK) (E:XK),Room k (A.deeper (envOfC qual (zb_ st) s.heap.objs.size f cdv))->sp vs H Q E ->
   ∃ t,PSs (cxOf (CX1 P w) P w K mg base N qual (zb_ st) f cdv A outer s H E) (zo_ st) t/\t { nx:=fun _ H'=>Q .non H',rt:=Q } (start N vs) H):FnOk P w K mg base (CX1 P w) (k+1) f fd ps sp:=by
 obtain ⟨oc,od,kV,doc,pm,an,cdv,ct,osl,rfl,lk,hcd⟩:=Fn.ex
 exact zgc_ lk hcd S len fun A outer s H vs Q E hr hsp=>hbody cdv A outer s H vs Q E hr hsp
theorem zdz_ {mb:SM (List D)} {mf:List D->M (List D)} (Fn:FunV K x qual st f fd T) (Sc:FnScope N ps (zb_ st))
  (hb:∀ (cdv:Value) (A:Around) (outer:List Env) (s:Shared) (H:Hp) (E:XK),Room k (A.deeper (envOfC qual (zb_ st) s.heap.objs.size f cdv)) ->
   ASs (cxOf (CX1 P w) P w K mg base N qual (zb_ st) f cdv A outer s H E) (zo_ st) mb)
  (hm:∀ ds,ds.length=ps.length->mf ds=mb KL (fzs ds++List.replicate (N.length - ps.length) none)):FnOk P w K mg base (CX1 P w) (k+1) f fd ps (spL K ps.length mf):=by
 refine zhA_ Fn Sc (fun vs H Q E h=>?_) (fun cdv A outer s H vs Q E hr h=>?_)
 ·obtain ⟨_,_,_,h1,_⟩:=h;exact h1
 ·obtain ⟨G,F0,ds,h1,S0,e⟩:=h
  have hl:ds.length=ps.length:=by have:=S0.ln;simp at this;lia
  rw [hm ds hl] at e
  refine ⟨_,j8_,hb cdv A outer s H E hr (fun m=>EndM K G E m _) KL G F0 _ H _ _ (fun z=>z) (fun F ρ e z=>zaW_ z) (JD_ h1 S0) e ?_⟩
  exact ⟨fun F' σ' H' ρ' s S' o=>(o:False).elim,fun F' σ' H' ρ' d' v s S' r o=>(o:False).elim,fun F' σ' H' ρ' d' v s S' r o=>(by exact o v F' H' s (QE_ S0 s S') (XC_ S' r)),fun F' σ' H' ρ' s S' o=>(o:False).elim,fun F' σ' H' ρ' s S' o=>(o:False).elim⟩
end
structure CFd (P:Program) (w:World) (K:Fg) (mg:Str->Option Value) (base:Heap) (x:Str) (k:Nat) (sp:Sp) (i:Int):Prop where
 ex:∃ (f:Addr) (fd:FuncData) (ps:List Str) (u:Value),FnOk P w K mg base (CX1 P w) k f fd ps sp/\mg x=some (.ref f)/\PySem.W.keepIn K (.ref f)=true/\L2.Binds K fd ps [u]/\RelV (.int i) u
noncomputable def zhg_ (ml:List D->M (List D)) (i:Int) (ps:Pa (List D)):Pu (List D):=fun ρ=>ps (fun ds=>ml (ds++[.int i])) ρ
section
variable {X:Cx} {k:Nat} {f:Addr} {fd:FuncData} {ps:List Str} {sp:Sp} {E:XK} {x:Str} {p pos:Pos} {e:Expr} {es:List Expr} {σ:L2.St} {H:Hp} {Q:VK} {i:Int} {u:Value}
theorem VN_ (F:FnOk X.prog X.w X.K X.mg X.base (CX1 X.prog X.w) k f fd ps sp) (hr:Room k X.A) (hg:Gl X x) (hm:X.mg x=some (.ref f)) (hk:PySem.W.keepIn X.K (.ref f)=true) (hb:L2.Binds X.K fd ps [u]) (hu:RelV (.int i) u) (hx:Zr_ X σ E)
  (hdb:(x==("__debug__" : Str))=false) (he:starEach (e::es) X.env=(false,eval e X.env)::starEach es X.env) (hpl:(backTo pos (starEach es X.env)).any (·.1)=false)
  (h:u8_ X (e::es) σ H fun vs H1=>sp (vs++[.int i]) H1 Q E):tSem X (.Call (.Name x p) (e::es) [] pos) σ H Q:=by
 unfold tSem
 intro pins s I
 unfold u8_ at h
 refine wpAny_Call_Name_kw (ZH_ I hg hm ?_ hdb)
 refine PySem.W.callWith_K (h₀:=X.base) I.ok.mod.kin hk (thn (h pos pins s I) fun us s1 ⟨vs,H1,I1,r,q⟩=>⟨I1.kIn,?_⟩) he hpl
 have r2:Vals (vs++[.int i]) (us++[u]):=r.append (.cons hu .nil)
 have hl:(us++[u]).length=ps.length:=by rw [<-r2.length];exact F.len _ _ _ _ q
 refine wpAny_call (codeAny_mono (F.run X.A X.stack s1 H1 ⟨us,[]⟩ (us++[u]) (vs++[.int i]) Q E hr I1.env0 (hb s1 us I1.kIn hl) r2 q) fun r s' hq=>?_)
 cases r with
 | error e=>exact hx pins H1 s1 e s' I1 hq
 | ok fl =>
  cases fl with
  | ret u=>exact I1.after hq
  | next=>exact False.elim hq
  | brk=>exact False.elim hq
  | cont=>exact False.elim hq
end
section
variable {X:Cx} {k n:Nat} {mf:List D->M D} {ml:List D->M (List D)} {x:Str} {p pos:Pos} {e:Expr} {es:List Expr} {ps:Pa D} {pl:Pa (List D)} {i:Int}
theorem Ut_ {K:Fg} {F:Hp} {vs:List V} {ds:List D} (r:RepL K F vs ds):RepL K F (vs++[.int i]) (ds++[.int i]):=r.append (.cons (.int i) .nil)
theorem zce_ (C:CFd X.prog X.w X.K X.mg X.base x k (spL X.K n ml) i) (hr:Room k X.A) (hg:Gl X x) (ha:AA X (e::es) pl) (hn:(e::es).length+1=n)
  (hdb:(x==("__debug__" : Str))=false) (he:starEach (e::es) X.env=(false,eval e X.env)::starEach es X.env) (hpl:(backTo pos (starEach es X.env)).any (·.1)=false):AL X (.Call (.Name x p) (e::es) [] pos) (zhg_ ml i pl):=by
 obtain ⟨f,fd,pz,u,Fn,h1,h2,h3,hu⟩:=C.ex
 intro G F σ H ρ Q St w
 refine VN_ Fn hr hg h1 h2 h3 hu (Wa_ (G:=G)) hdb he hpl ?_
 refine ha G F σ H ρ _ _ _ St w fun ds vs F1 H1 s1 S1 hl r1 w1=>?_
 show spL X.K n ml (vs++[.int i]) H1 Q (EX X G σ)
 have hz:(vs++[V.int i]).length=n:=by rw [List.length_append,hl];exact hn
 cases hd:ml (ds++[.int i]) with
 | bad=>rw [hd] at w1;exact w1.elim
 | exc e =>
  rw [hd] at w1
  exact ⟨_,F1,ds++[.int i],hz,jm_ S1 (Ut_ r1),by rw [hd];exact fun F' H' Cl dd g xr=>EX.of S1 w1 g xr⟩
 | ret d =>
  rw [hd] at w1
  refine ⟨_,F1,ds++[.int i],hz,jm_ S1 (Ut_ r1),?_⟩
  rw [hd]
  intro v F2 H2 s2 S2 r2
  obtain ⟨S3,t3⟩:=uK_ (avs':=(ds++[PyData.int i]).map AV.fz) S1 s2 S2
  exact w1 F2 H2 s2 S3 v (t3 v _ r2)
end
section
variable {X:Cx} {pins:List (Addr×Obj)} {σ:L2.St} {H:Hp} {s:Shared} {a b:Addr} {v:V} {u r:Value} {A:Around} {E:Value->Shared->Prop} {k:List Key}
theorem Xh_ {kvs:List (List Key×V)} {Q:Unit->Shared->Prop} (hu:A.units+1<cLine) (I:Inv X pins σ H s) (e:H a=some (.dT kvs)) (eb:H b=some (.tup (k.map kV))) (rv:RelV v r) (l:kvs.length<sizeLine)
  (h:∀ s',Inv X pins σ (upd H a (.dT (putK kvs k v))) s'->Q () s'):wpAny (model X.prog X.w) A (dictSet a (.ref b) r) Q E s:=by
 obtain ⟨z,hd,xs,rel,dd⟩:=Xd_ I.hok e
 have hz:xs.length<=sizeLine:=by rw [<-Paired.length rel];exact z
 have hl:(putK kvs k v).length<=sizeLine:=by have:=yc_ kvs k v;lia
 refine wpAny_dictSet_heap (hsz:=hz) (show (tupleKind (zC_ X.prog X.w)).room A from by first|exact hu|exact Nat.lt_of_le_of_lt (Nat.le_refl _) hu|(show A.units<cLine;lia)) (y1_ I.hok eb) dd fun h' dd' hs=>h _ ?_
 obtain ⟨q,es,ep,hq,h2,h3,h4,_,h5⟩:=dd'
 refine YW_ I (by rw [e];exact True.intro) hs ⟨q,hq⟩ ⟨hl,hd,_,(rel.put k eb rv).keeps fun c ys ec=>?_,q,es,ep,hq,h2,h3,h4,h5⟩
 rw [zf_ (zfu_ ec e (fun z=>nomatch z))]
 exact ec
end
noncomputable def zgL_ (tk tv:TE):TE:=fun σ H Q=>∀ p,H p=none->tk σ (upd H p (.dT [])) fun x H1=>tv σ H1 fun y H2=>∃ b k,x=.ref b/\H2 b=some (.tup (k.map kV))/\H2 p=some (.dT [])/\Q (.ref p) (upd H2 p (.dT [(k,y)]))
theorem zcT_ {X:Cx} {pos:Pos} {ke ve:Expr} {tk tv:TE} (hu:X.A.units+1<cLine) (hk:PE X ke tk) (hv:PE X ve tv):PE X (.Dict [some ke] [ve] pos) (zgL_ tk tv):=by
 intro pins s σ H Q I q
 have hn:=I.hok.fresh (Nat.le_refl s.heap.objs.size)
 have I1:=I.laid (a:=s.heap.objs.size) (o:=.dT []) (h':=s.heap.push { cls:=.type "dict",data:=.dict #[] }) (t':=s.toks) (fun _ _ q=>Heap.get?_push_of_some _ q) (Nat.le_refl _) (Qw_ s.heap I.big)
 refine wpAny_Dict_any rfl rfl (by simp) (by simp) ?_
 have pp:=X9_ (pos:=pos) hk hv (zcM_ (X:=X) (pos:=pos))
 let R:List (V×V)->Hp->Prop:=fun ps H2=>match ps with
  | [(x,y)]=>∃ b k,x=.ref b/\H2 b=some (.tup (k.map kV))/\H2 s.heap.objs.size=some (.dT [])/\Q (.ref s.heap.objs.size) (upd H2 s.heap.objs.size (.dT [(k,y)]))
  | _=>False
 refine thn (pp pins _ σ _ R I1 (q _ hn)) fun ws s2 ⟨ps,H2,I2,rel,hR⟩=>?_
 rcases ps with _|⟨⟨x,y⟩,_|⟨p2,r2⟩⟩
 ·exact (show False from hR).elim
 ·obtain ⟨b,k,ex,hb,hp,q2⟩:=hR
  subst ex
  cases rel with
  | @cons _ wq _ _ h t =>
   cases t
   obtain ⟨w1,w2⟩:=wq
   obtain ⟨rx,ry⟩:=h
   dsimp only at rx ry
   cases rx
   show wpAny _ _ (storeAll s.heap.objs.size [(Value.ref b,w2)]) _ _ _
   unfold storeAll
   simp only [List.forIn_cons,List.forIn_nil]
   refine wpAny_bind (wpAny_bind (Xh_ hu I2 hp hb ry (by decide) fun s3 I3=>wpAny_pure (wpAny_pure ⟨.ref s.heap.objs.size,_,I3,rfl,q2⟩)))
 ·exact (show False from hR).elim
theorem _root_.L3.StOk.relay {K:Fg} {G:Gh} {F H:Hp} {σ:L2.St} {ρ:En} (S:StOk K G F σ H ρ) {p:Addr} {o:HO} (fp:F p=none) (op:G.O p=none) (ne:∀ (i:Nat) (e:OC),own ρ i e->σ[i]? ≠ some (some (V.ref p))):StOk K G F σ (upd H p o) ρ:=by
 refine ⟨j0_ S.fh fp,j0_ S.oh op,S.fo,S.ln,S.fz,fun i c h=>?_,S.dj,S.pp,S.pq,S.fb⟩
 obtain ⟨a,e,oa⟩:=S.ow i c h
 exact ⟨a,e,oa.nf,oa.no,oa.he.at (zf_ fun z=>ne i c h (by rw [e,z]))⟩
noncomputable def Q2_ {S:Type} (d:D) (m:M S):M S:=match jz_ d with
 | true=>m
 | false=>.bad
def zex_ {S:Type} (i:Nat) (pk pv:Pu D):SM S:=fun K ρ=>bd (noX (pk ρ)) fun kd=>bd (noX (pv ρ)) fun d=>match Za_ ρ i with
 | true=>Q2_ kd (K.nx (ρ.set i (some (.ol (.t [(kd,d)])))))
 | false=>.bad
theorem zdS_ {S:Type} {X:Cx} {i:Nat} {x:Str} {ke ve:Expr} {pk pv:Pu D} {pos pos' tpos:Pos} (hu:X.A.units+1100<cLine) (hN:X.N.Nodup) (hi:X.N[i]? = some x) (hx:Loc X.env.scope x) (hk:AP X ke pk) (hv:AP X ve pv) (hs:swapsWith (.Dict [some ke] [ve] tpos) (some (.Name x pos')) pos.line X.env=pure false) (hf:X.fn x=true\/X.env.scope.names.lookup x=some .local) :
  AS (S:=S) X (.Assign [.Name x pos'] (.Dict [some ke] [ve] tpos) pos) (zex_ i pk pv):=fun OK K G F σ H ρ E hO hX St ok eo=>by
 unfold zex_ at ok
 cases e1:pk ρ with
 | bad=>rw [e1] at ok;exact (hO ok).elim
 | exc e=>rw [e1] at ok;exact (hO ok).elim
 | ret kd =>
 cases e2:pv ρ with
 | bad=>rw [e1,e2] at ok;exact (hO ok).elim
 | exc e=>rw [e1,e2] at ok;exact (hO ok).elim
 | ret d =>
 rw [e1,e2] at ok
 have ok:OK (match Za_ ρ i with|true=>Q2_ kd (K.nx (ρ.set i (some (.ol (.t [(kd,d)])))))|false=>.bad):=ok
 cases hq:Za_ ρ i with
 | false=>rw [hq] at ok;exact (hO ok).elim
 | true =>
 rw [hq] at ok
 have ok:OK (Q2_ kd (K.nx (ρ.set i (some (.ol (.t [(kd,d)])))))):=ok
 unfold Q2_ at ok
 cases hq1:jz_ kd with
 | false=>rw [hq1] at ok;exact (hO ok).elim
 | true =>
 rw [hq1] at ok
 obtain ⟨hl,hop⟩:=jL_ hq
 obtain ⟨ks,rfl⟩:=yu_ hq1
 refine semS (Je_ hN hi hx (zcT_ (by lia) zn_ zn_) hs hf) fun p hp=>?_
 have fp:=St.fh.free hp
 have op:=St.oh.free hp
 have S1:=(St.lay (o:=.dT []) hp).hold (p:=p) (o:=.dT []) zi_ fp (St.fresh_ne hp)
 refine hk _ F σ _ ρ _ S1 ?_
 rw [e1]
 intro F1 H1 s1 S2 kx rx
 refine hv _ F1 σ H1 ρ _ S2 ?_
 rw [e2]
 intro F2 H2 s2 S3 y ry
 obtain ⟨S4,hp2,fp2,ne2⟩:=S3.unhold op
 obtain ⟨b,rfl,hb⟩:=Zf_ (rx.mono s2)
 refine ⟨b,ks,rfl,S4.fh _ _ hb,hp2,?_⟩
 refine eo.nx F2 _ _ _ (s1.trans s2) ((S4.relay (o:=.dT [(ks,y)]) fp2 op ne2).store hop hl (.inr ⟨.t [(keyT ks,d)],rfl,p,rfl,⟨fp2,op,[(ks,y)],zi_,rfl,.cons ry .nil⟩,ne2⟩)) ok
noncomputable def onFn {S:Type} (d:D) (f:Str) (m:M S):M S:=match fnQ d f with
 | true=>m
 | false=>.bad
noncomputable def zbM_ {S:Type} (ds:List D) (k:D->M S):M S:=match ds.getLast? with
 | some d=>k d
 | none=>.bad
def DfT (K:Fg) (T:Addr) (i:Int):Prop:=∃ (o:Obj) (n:Nat) (u:Value),K.lookup T=some o/\o.data=.seq #[u] n/\RelV (.int i) u
section
variable {K:Fg} {x qual:Str} {st:Stmt} {f T:Addr} {fd:FuncData} {ps:List Str} {i:Int}
theorem FunV.binds0 (F:FunV K x qual st f fd T) (hT:DfT K T i) (h:∀ (kV doc pm:Value) (an:Option Addr) (cdv ct:Value) (us:List Value) (u:Value),us.length=ps.length->∃ k:Option (Array Value)->Sem (List (Str×Value)),bindArgs (PySem.W.fnOf x qual (zr_ st) (zo_ st) (zb_ st) (.ref T) kV doc pm an cdv ct) ⟨us,[]⟩=seqItems? (.ref T) >>= k/\k (some #[u])=pure (ps.zip us)):L2.Binds K fd ps []:=by
 obtain ⟨oc,od,kV,doc,pm,an,cdv,ct,osl,rfl,lk,hcd⟩:=F.ex
 obtain ⟨o,n,u,h1,h2,h3⟩:=hT
 intro s us X hl
 rw [List.append_nil] at hl ⊢
 obtain ⟨k,e1,e2⟩:=h kV doc pm an cdv ct us u hl
 exact PySem.W.binds_K X rfl h1 h2 e1 e2
theorem FunV.binds1 (F:FunV K x qual st f fd T) (hT:DfT K T i) (h:∀ (kV doc pm:Value) (an:Option Addr) (cdv ct:Value) (us:List Value) (u:Value),us.length+1=ps.length->∃ k:Option (Array Value)->Sem (List (Str×Value)),bindArgs (PySem.W.fnOf x qual (zr_ st) (zo_ st) (zb_ st) (.ref T) kV doc pm an cdv ct) ⟨us,[]⟩=seqItems? (.ref T) >>= k/\k (some #[u])=pure (ps.zip (us++[u]))):L2.Binds K fd ps [hT.choose_spec.choose_spec.choose]:=by
 obtain ⟨oc,od,kV,doc,pm,an,cdv,ct,osl,rfl,lk,hcd⟩:=F.ex
 have h1:=hT.choose_spec.choose_spec.choose_spec.1
 have h2:=hT.choose_spec.choose_spec.choose_spec.2.1
 intro s us X hl
 obtain ⟨k,e1,e2⟩:=h kV doc pm an cdv ct us hT.choose_spec.choose_spec.choose (by simpa using hl)
 exact PySem.W.binds_K X rfl h1 h2 e1 e2
end
end L4
set_option maxHeartbeats 8000000
namespace K30
open PySem PySem.Spec PyProof.Rows L2 L3 L4
noncomputable section
noncomputable def top (i:Nat):Stmt:=PySem.Challenge.pw_passersby_k30_what_comes.main.body.getD i (.Pass ⟨0,0,0,0⟩)
structure BN (mg:Str->Option Value):Prop where
 range:mg "range" = none
 len:mg "len" = none
 tuple:mg "tuple" = none
 list:mg "list" = none
 max:mg "max" = none
 min:mg "min" = none
 sum:mg "sum" = none
 abs:mg "abs" = none
 repr:mg "repr" = none
 enumerate:mg "enumerate" = none
 isinstance:mg "isinstance" = none
 all:mg "all" = none
 any:mg "any" = none
 int:mg "int" = none
 str:mg "str" = none
 bool:mg "bool" = none
 zip:mg "zip" = none
 sorted:mg "sorted" = none
 set:mg "set" = none
 dict:mg "dict" = none
 reversed:mg "reversed" = none
 ValueError:mg "ValueError" = none
structure KX (K:Fg) (mg:Str->Option Value):Prop where
 t_NoCrowd_NoLine_NoMeeting_NoPaper_NoRule_NoText:∃ Cs,MgL mg ["NoCrowd", "NoLine", "NoMeeting", "NoPaper", "NoRule", "NoText"] Cs/\InstT K (Cs.map Value.ref) [("TooMany",false)]
 i_TooMany:∃ C,mg "TooMany" = some (.ref C)/\Inst1 K (.ref C) [("TooMany",true)]
 i_ValueError:Inst1 K (.type "ValueError") [("TooMany",true)]
 h_PassError:∃ hv,mg "PassError" = some hv/\HandL K hv ["TooMany"]
 f_law_ask:∃ a,mg "_law_ask" = some (.ref a)/\PySem.W.nsIn K mainGlobals "_law_ask" = some (some (.ref a))
structure KN (mg:Str->Option Value):Prop where
 non:True
section
variable {P:Program} {w:World} {K:Fg} {mg:Str->Option Value} {base:Heap}
noncomputable def zdK_ (s:Stmt):List Stmt:=match s with
 | .ClassDef _ _ _ b _ _ _ _ _ _ _=>b
 | _=>[]
noncomputable abbrev zN_:Stmt:=(zdK_ (top 5)).getD 0 (.Pass ⟨0,0,0,0⟩)
theorem Zx_:FnScope ["self"] ["self"] (zb_ zN_):=⟨rfl,rfl,rfl,by decide +kernel,rfl,by decide +kernel,by decide +kernel⟩
theorem Vp_ {Cl D f:Addr} {fd:FuncData} (Fn:Fun K "__init__" "TooMany.__init__" zN_ f fd) (c:XC K Cl D f) (hm:mg "TooMany" = some (.ref Cl)) (hc:XQ K Cl "TooMany") (kp:PySem.W.keepIn K (.ref Cl)=true) (na:∀ f∈([]:List Str),zch_ K Cl f) (ex:PySem.W.exmOne K (.ref Cl) (.ref Cl)=some true):CCl P w K mg base "TooMany" 1 [] :=
 ⟨Cl,D,f,fd,["self"],c,zhq_ (k:=0) Fn Zx_ rfl,(bnd1 Fn fun _ _ _ _ _ _ _=>rfl),hm,hc,kp,na,ex⟩
noncomputable abbrev j6_:Stmt:=top 10
noncomputable abbrev zbr_:List Str:=["crowd", "meeting", "wanted"]
theorem sc_can_be:FnScope zbr_ ["crowd", "meeting"] (zb_ j6_):=⟨rfl,rfl,rfl,by decide +kernel,rfl,by decide +kernel,by decide +kernel⟩
def yF_ (gak:D) (gaq:D):M D :=
 bd (bd (bd (oM (zO_ gaq (.int 0))) fun x1=>bd (oM (zO_ gaq (.int 1))) fun x2=>oM (opEq x1 x2)) fun b3=>if b3 then .ret (.int 2) else .ret (.int 1)) fun x4=>bd (bd (bd (bd (bd (oM (zO_ gaq (.int 0))) fun x5=>oM (zO_ gak x5)) fun x6=>oM (opGe x6 x4)) fun b9=>if b9 then bd (bd (oM (zO_ gaq (.int 1))) fun x7=>oM (zO_ gak x7)) fun x8=>oM (opGe x8 x4) else .ret false) fun b10=>.ret (.bool b10)) fun x11=>.ret x11
noncomputable def yt_:List D->M D:=fun l=>match l with
 | [gak,gaq]=>yF_ gak gaq
 | _=>.bad
set_option maxHeartbeats 4000000 in
theorem W7_ {f:Addr} {fd:FuncData} (Fn:Fun K "can_be" "can_be" j6_ f fd) (B:BN mg) (Kn:KN mg) (Kx:KX K mg):FnOk P w K mg base (CX1 P w) 1 f fd ["crowd", "meeting"] (spD K 2 yt_) :=
 uZ_ (k:=0) Fn sc_can_be (fun cdv A outer s H E hr =>
 (zc_ (zA_ (sh:=[.f,.f,.f]) (zJ_ (i:=2) sc_can_be.nd rfl (by first|exact Or.inl rfl|exact Or.inr rfl) (zk_ (zdU_ (jb_ (Wf_ (zh_ hr)) ZE_ (ao (jn_ (zH_ (zh_ hr)) zG_ (ao (av 1)) (ao ze_) (fun _ _=>rfl))) (ao (jn_ (zH_ (zh_ hr)) zG_ (ao (av 1)) (ao ze_) (fun _ _=>rfl))) rfl) ze_ ze_)) rfl (.inl rfl)))
  (zg_ (jd_ (zk_ (ap_b (XQ_ (XP_ zan_ zap_ (ao (jn_ (zH_ (zh_ hr)) zG_ (ao (av 0)) (ao (jn_ (zH_ (zh_ hr)) zG_ (ao (av 1)) (ao ze_) (fun _ _=>rfl))) (fun _ _=>rfl))) (ao (av 2)) rfl) (zcg_ (XP_ zan_ zap_ (ao (jn_ (zH_ (zh_ hr)) zG_ (ao (av 0)) (ao (jn_ (zH_ (zh_ hr)) zG_ (ao (av 1)) (ao ze_) (fun _ _=>rfl))) (fun _ _=>rfl))) (ao (av 2)) rfl)))))))))
 (fun ds hl=>match ds,hl with | [gak,gaq],_=>by kernel_rfl)
theorem Wn_ {f:Addr} {fd:FuncData} (Fn:Fun K "can_be" "can_be" j6_ f fd) (hmg:mg "can_be" = some (.ref f)) (B:BN mg) (Kn:KN mg) (Kx:KX K mg):CF P w K mg base "can_be" 1 (spD K 2 yt_) :=
 ⟨f,fd,["crowd", "meeting"],W7_ Fn B Kn Kx,hmg,Fn.kp,(bnd2 Fn fun _ _ _ _ _ _ _ _=>rfl)⟩
noncomputable abbrev j5_:Stmt:=top 11
noncomputable abbrev zbq_:List Str:=["crowd", "meeting", "numbers", "room"]
theorem sc_led_to:FnScope zbq_ ["crowd", "meeting"] (zb_ j5_):=⟨rfl,rfl,rfl,by decide +kernel,rfl,by decide +kernel,by decide +kernel⟩
def yg_ (gaF:List D):M D :=
 bd (oM (u0_ [(PyData.list gaF)])) fun x8=>.ret x8
def ye_ (gaF:List D) (d_:D) (kn9:List D×Unit->M D):M D :=
 bd (oM (opIx (PyData.list gaF) d_)) fun x10=>bd (oM (Wi_ x10 (.int 1))) fun x11=>bd (oM (putD gaF d_ x11)) fun l12=>kn9 (l12,())
def yh_ (gbF:D) (gaF:List D):M D :=
 bd (bd (bd (asI (.int 2)) fun lo5=>oM (fCut gbF lo5 none)) fun x6=>oM (seqD x6)) fun l7=>forS (fun s13 d14 kn=>ye_ s13.1 d14 kn) l7 (gaF,()) (fun s13=>yg_ s13.1)
def yf_ (gbF:D) (gaF:List D) (d_:D) (kn15:D×List D×Unit->M D):M D :=
 bd (oM (opIx (PyData.list gaF) d_)) fun x16=>bd (oM (Yt_ x16 (.int 1))) fun x17=>bd (oM (putD gaF d_ x17)) fun l18=>kn15 (gbF,l18,())
def yC_ (gak:D) (gaq:D):M D :=
 bd (oM (u2_ [gak])) fun l1=>bd (bd (bd (asI (.int 2)) fun hi2=>oM (fCut gaq none hi2)) fun x3=>oM (seqD x3)) fun l4=>forS (fun s19 d20 kn=>yf_ s19.1 s19.2.1 d20 kn) l4 (gaq,l1,()) (fun s19=>yh_ s19.1 s19.2.1)
noncomputable def ys_:List D->M D:=fun l=>match l with
 | [gak,gaq]=>yC_ gak gaq
 | _=>.bad
set_option maxHeartbeats 4000000 in
theorem W5_ {f:Addr} {fd:FuncData} (Fn:Fun K "led_to" "led_to" j5_ f fd) (B:BN mg) (Kn:KN mg) (Kx:KX K mg):FnOk P w K mg base (CX1 P w) 1 f fd ["crowd", "meeting"] (spD K 2 ys_) :=
 uZ_ (k:=0) Fn sc_led_to (fun cdv A outer s H E hr =>
 (zc_ (zA_ (sh:=[.dead,.f,.o,.dead]) (um_ (i:=2) sc_led_to.nd rfl (by first|exact Or.inl rfl|exact Or.inr rfl) (uq_ (ZU_ (yR_ rfl) JQ_ rfl B.list (by decide +kernel) (zj_ (ao (av 0)) zq_ (za_ rfl)) (by decide) (by decide) rfl rfl)) rfl (.inl rfl)))
  (zc_ (jc_ (sh:=[.dead,.f,.o,.dead]) PassesOwn.leaving rfl (jJ_ (ZV_ (uS_ (ao (av 1)) uR_ (uQ_ ze_)))) (zt_ (i:=3) (Nat.zero_le _) sc_led_to.nd rfl (by first|exact Or.inl rfl|exact Or.inr rfl) (.inl rfl))
  (zg_ (XI_ (i:=2) rfl (by first|exact Or.inl rfl|exact Or.inr (Or.inl rfl)|exact Or.inr (Or.inr rfl)) zfS_ zds_ (zk_ (av 3)) (zk_ ze_) (fun _ _ _=>rfl))) (fun _=>rfl))
  (zc_ (jc_ (sh:=[.dead,.dead,.o,.dead]) PassesOwn.leaving rfl (jJ_ (ZV_ (uS_ (ao (av 1)) (uQ_ ze_) uR_))) (zt_ (i:=3) (Nat.zero_le _) sc_led_to.nd rfl (by first|exact Or.inl rfl|exact Or.inr rfl) (.inl rfl))
  (zg_ (XI_ (i:=2) rfl (by first|exact Or.inl rfl|exact Or.inr (Or.inl rfl)|exact Or.inr (Or.inr rfl)) zfT_ zdt_ (zk_ (av 3)) (zk_ ze_) (fun _ _ _=>rfl))) (fun _=>rfl))
  (zg_ (jd_ (zk_ (uE_ zT_ uH_ rfl B.tuple (by decide +kernel) (zj_ (zD_ (i:=2) rfl (by first|exact Or.inl rfl|exact Or.inr (Or.inl rfl)|exact Or.inr (Or.inr rfl))) zq_ (za_ rfl)) (by decide) (by decide) rfl rfl))))))))
 (fun ds hl=>match ds,hl with | [gak,gaq],_=>by kernel_rfl)
theorem Wl_ {f:Addr} {fd:FuncData} (Fn:Fun K "led_to" "led_to" j5_ f fd) (hmg:mg "led_to" = some (.ref f)) (B:BN mg) (Kn:KN mg) (Kx:KX K mg):CF P w K mg base "led_to" 1 (spD K 2 ys_) :=
 ⟨f,fd,["crowd", "meeting"],W5_ Fn B Kn Kx,hmg,Fn.kp,(bnd2 Fn fun _ _ _ _ _ _ _ _=>rfl)⟩
noncomputable abbrev jf_:Stmt:=top 12
noncomputable abbrev VA_:List Str:=["rule", "pairs", "number", "meeting"]
theorem sc_pairs_of:FnScope VA_ ["rule"] (zb_ jf_):=⟨rfl,rfl,rfl,by decide +kernel,rfl,by decide +kernel,by decide +kernel⟩
noncomputable def Ua_ (gan:List (D×D)):M D :=
 .ret (PyData.dict gan)
def yB_ (gan:List (D×D)) (d_:D) (kn3:List (D×D)×Unit->M D):M D :=
 un2 d_ fun y4 y5=>bd (bd (asI (.int 2)) fun hi6=>oM (fCut y5 none hi6)) fun x7=>bd (oM (dPut true gan x7 y4)) fun l8=>kn3 (l8,())
def uL_ (gaE:D):M D :=
 bd (bd (oM (zO_ gaE (.int 2))) fun x1=>oM (Z2_ [x1])) fun l2=>forS (fun s9 d10 kn=>yB_ s9.1 d10 kn) l2 ([],()) (fun s9=>Ua_ s9.1)
noncomputable def ub_:List D->M D:=fun l=>match l with
 | [gaE]=>uL_ gaE
 | _=>.bad
set_option maxHeartbeats 4000000 in
theorem YP_ {f:Addr} {fd:FuncData} (Fn:Fun K "pairs_of" "pairs_of" jf_ f fd) (B:BN mg) (Kn:KN mg) (Kx:KX K mg):FnOk P w K mg base (CX1 P w) 1 f fd ["rule"] (spD K 1 ub_) :=
 uZ_ (k:=0) Fn sc_pairs_of (fun cdv A outer s H E hr =>
 (zc_ (zA_ (sh:=[.f,.t,.dead,.dead]) (Y0_ true (i:=1) sc_pairs_of.nd rfl (by first|exact Or.inl rfl|exact Or.inr rfl) rfl (.inl rfl)))
  (zc_ (jc_ (sh:=[.dead,.t,.dead,.dead]) PassesOwn.leaving rfl (jJ_ (Y1_ rfl B.enumerate (zd_ (jn_ (zH_ (zh_ hr)) zG_ (ao (av 0)) (ao ze_) (fun _ _=>rfl)) zp_ (za_ rfl)) rfl)) (ZW_ rfl (zU_ (zt_ (i:=2) (Nat.zero_le _) sc_pairs_of.nd rfl (by first|exact Or.inl rfl|exact Or.inr rfl) (.inl rfl)) (zU_ (zt_ (i:=3) (Nat.zero_le _) sc_pairs_of.nd rfl (by first|exact Or.inl rfl|exact Or.inr rfl) (.inl rfl)) yS_ rfl) rfl) rfl rfl)
  (zg_ (Ug_ (zh_ hr) (i:=1) rfl (by first|exact Or.inl rfl|exact Or.inr (Or.inl rfl)|exact Or.inr (Or.inr rfl)) (zk_ (uS_ (ao (av 3)) uR_ (uQ_ ze_))) (zk_ (av 2)) rfl)) (fun _=>rfl))
  (zg_ (Ye_ (i:=1) (jd_ (zk_ (av 1))))))))
 (fun ds hl=>match ds,hl with | [gaE],_=>by kernel_rfl)
theorem Yv_ {f:Addr} {fd:FuncData} (Fn:Fun K "pairs_of" "pairs_of" jf_ f fd) (hmg:mg "pairs_of" = some (.ref f)) (B:BN mg) (Kn:KN mg) (Kx:KX K mg):CF P w K mg base "pairs_of" 1 (spD K 1 ub_) :=
 ⟨f,fd,["rule"],YP_ Fn B Kn Kx,hmg,Fn.kp,(bnd1 Fn fun _ _ _ _ _ _ _=>rfl)⟩
noncomputable abbrev z0_:Stmt:=top 13
noncomputable abbrev Jw_:List Str:=["rule", "pairs", "crowd", "meets", "rooms", "leads", "place", "a", "b", "number"]
theorem sc_leads_at:FnScope Jw_ ["rule", "pairs", "crowd"] (zb_ z0_):=⟨rfl,rfl,rfl,by decide +kernel,rfl,by decide +kernel,by decide +kernel⟩
noncomputable abbrev N_leads_at_0:List Str:=["rule", "pairs", "crowd", "meets", "rooms", "leads", "place", "a", "b", "number", "room", "many"]
theorem ux_:N_leads_at_0.Nodup:=by decide +kernel
noncomputable def Ub_ (gan:D) (gaT:D) (gaU:D) (gaZ:D) (gar:List D):M D :=
 .ret (PyData.list gar)
noncomputable def yE_ (kn10:D×D×D×D×List D×Unit->M D) (gan:D) (gaT:D) (gaU:D) (gaZ:D) (gar:List D) (v_a:D):M D :=
 kn10 (gan,gaT,gaU,gaZ,gar,())
def uj_ (kn10:D×D×D×D×List D×Unit->M D) (gan:D) (gaT:D) (gaU:D) (gaZ:D) (gar:List D) (v_a:D) (d_:D) (kn16:D×D×D×D×List D×D×Unit->M D):M D :=
 bd (oM (Xi_ gan (.tuple [v_a,d_]))) fun x17=>bd (bd (oM (ZD_ x17 .none)) fun b20=>if b20 then bd (bd (oM (zO_ gaU x17)) fun x18=>yF_ gaT x18) fun x19=>oM (truD x19) else .ret false) fun b21=>if b21 then
  bd (bd (bd (oM (zO_ gaU x17)) fun x22=>yC_ gaT x22) fun x23=>.ret (.tuple [x17,x23])) fun x24=>bd (oM (mApp gar [x24])) fun l25=>kn16 (gan,gaT,gaU,gaZ,l25,v_a,())
  else
  kn16 (gan,gaT,gaU,gaZ,gar,v_a,())
def yD_ (gan:D) (gaT:D) (gaU:D) (gaZ:D) (gar:List D) (d_:D) (kn10:D×D×D×D×List D×Unit->M D):M D :=
 un2 d_ fun y11 y12=>bd (bd (bd (asI y11) fun lo13=>oM (fCut gaZ lo13 none)) fun x14=>oM (seqD x14)) fun l15=>forS (fun s26 d27 kn=>uj_ kn10 s26.1 s26.2.1 s26.2.2.1 s26.2.2.2.1 s26.2.2.2.2.1 s26.2.2.2.2.2.1 d27 kn) l15 (gan,gaT,gaU,gaZ,gar,y12,()) (fun s26=>yE_ kn10 s26.1 s26.2.1 s26.2.2.1 s26.2.2.2.1 s26.2.2.2.2.1 s26.2.2.2.2.2.1)
def uM_ (gaE:D) (gbK:D) (gak:D):M D :=
 bd (oM (zO_ gaE (.int 2))) fun x1=>bd (bd (bd (oM (Z2_ [gak])) fun l6=>bd (jY_ (fun d2=>un2 d2 fun y3 y4=>bd (oM (opGt y4 (.int 0))) fun b5=>if b5 then .ret (some y3) else .ret none) l6) fitM) fun l7=>.ret (PyData.list l7)) fun x8=>bd (oM (UV_ [x8])) fun l9=>forS (fun s28 d29 kn=>yD_ s28.1 s28.2.1 s28.2.2.1 s28.2.2.2.1 s28.2.2.2.2.1 d29 kn) l9 (gbK,gak,x1,x8,[],()) (fun s28=>Ub_ s28.1 s28.2.1 s28.2.2.1 s28.2.2.2.1 s28.2.2.2.2.1)
noncomputable def uc_:List D->M D:=fun l=>match l with
 | [gaE,gbK,gak]=>uM_ gaE gbK gak
 | _=>.bad
set_option maxHeartbeats 4000000 in
theorem YQ_ {f:Addr} {fd:FuncData} (Fn:Fun K "leads_at" "leads_at" z0_ f fd) (B:BN mg) (Kn:KN mg) (Kx:KX K mg) (gbc:CF P w K mg base "can_be" 1 (spD K 2 yt_)) (gbd:CF P w K mg base "led_to" 1 (spD K 2 ys_)):FnOk P w K mg base (CX1 P w) 2 f fd ["rule", "pairs", "crowd"] (spD K 3 uc_) :=
 uZ_ (k:=1) Fn sc_leads_at (fun cdv A outer s H E hr =>
 (zc_ (zA_ (sh:=[.dead,.f,.f,.f,.dead,.dead,.dead,.dead,.dead,.dead]) (zJ_ (i:=3) sc_leads_at.nd rfl (by first|exact Or.inl rfl|exact Or.inr rfl) (zk_ (jn_ (zH_ (zh_ hr)) zG_ (ao (av 0)) (ao ze_) (fun _ _=>rfl))) rfl (.inl rfl)))
  (zc_ (zA_ (sh:=[.dead,.f,.f,.f,.f,.dead,.dead,.dead,.dead,.dead]) (Vx_ (i:=4) sc_leads_at.nd rfl (by first|exact Or.inl rfl|exact Or.inr rfl) (.inl rfl) (N':=N_leads_at_0) (k:=2) rfl (uA_ (N:=Jw_) (sc:=(zb_ z0_)) (by decide +kernel) rfl rfl) (Y1_ rfl B.enumerate (zd_ (av 2) zp_ (za_ rfl)) rfl) (fun cl s' H' fp C'=>(ZW_ rfl (zU_ (zt_ (i:=10) (show 10<=10 by decide) ux_ rfl (by first|exact Or.inl rfl|exact Or.inr rfl) (.inr rfl)) (zU_ (zt_ (i:=11) (show 10<=11 by decide) ux_ rfl (by first|exact Or.inl rfl|exact Or.inr rfl) (.inr rfl)) yS_ rfl) rfl) rfl rfl)) (fun cl s' H' fp C'=>(zdM_ (jb_ Wh_ Wm_ (ao (av 11)) (ao ze_) rfl))) (fun cl s' H' fp C'=>(av 10)) rfl (fun _=>rfl)))
  (zc_ (zA_ (sh:=[.dead,.f,.f,.f,.f,.o,.dead,.dead,.dead,.dead]) (um_ (i:=5) sc_leads_at.nd rfl (by first|exact Or.inl rfl|exact Or.inr rfl) (uq_ (u7_ zp_ (by decide +kernel))) rfl (.inl rfl)))
  (zc_ (jc_ (sh:=[.dead,.f,.f,.f,.f,.o,.dead,.dead,.dead,.dead]) PassesOwn.leaving rfl (jJ_ (zbl_ rfl B.enumerate (zd_ (av 4) zp_ (za_ rfl)) rfl)) (ZW_ rfl (zU_ (zt_ (i:=6) (Nat.zero_le _) sc_leads_at.nd rfl (by first|exact Or.inl rfl|exact Or.inr rfl) (.inl rfl)) (zU_ (zt_ (i:=7) (Nat.zero_le _) sc_leads_at.nd rfl (by first|exact Or.inl rfl|exact Or.inr rfl) (.inl rfl)) yS_ rfl) rfl) rfl rfl)
  (zg_ (jc_ (sh:=[.dead,.f,.f,.f,.f,.o,.dead,.f,.dead,.dead]) PassesOwn.leaving rfl (jJ_ (ZV_ (uS_ (ao (av 4)) (uQ_ (av 6)) uR_))) (zt_ (i:=8) (Nat.zero_le _) sc_leads_at.nd rfl (by first|exact Or.inl rfl|exact Or.inr rfl) (.inl rfl))
  (zc_ (zA_ (sh:=[.dead,.f,.f,.f,.f,.o,.dead,.f,.dead,.f]) (zJ_ (i:=9) sc_leads_at.nd rfl (by first|exact Or.inl rfl|exact Or.inr rfl) (zk_ (zbk_ (zh_ hr) (ao (av 1)) (y4_ (zd_ (av 7) (zd_ (av 8) zp_ (za_ rfl)) (za_ rfl)) (by decide +kernel)) ⟨rfl,rfl,rfl,rfl⟩)) rfl (.inl rfl)))
  (zg_ (Ze_ (jT_ (zdN_ (zcb_ (jb_ zam_ ZE_ (ao (av 9)) (ao zgy_) rfl) (XD_ (zcc_ (ao (Yf_ gbc (hr.mono (by decide)) rfl (zd_ (av 2) (zd_ (jn_ (zH_ (zh_ hr)) zG_ (ao (av 3)) (ao (av 9)) (fun _ _=>rfl)) zp_ (za_ rfl)) (za_ rfl)) rfl (by decide) rfl rfl)) (fun _=>rfl))))))
  (zg_ (QF_ (i:=5) rfl (by first|exact Or.inl rfl|exact Or.inr (Or.inl rfl)|exact Or.inr (Or.inr rfl)) (zz_ (zk_ (y4_ (zd_ (av 9) (zd_ (Yf_ gbd (hr.mono (by decide)) rfl (zd_ (av 2) (zd_ (jn_ (zH_ (zh_ hr)) zG_ (ao (av 3)) (ao (av 9)) (fun _ _=>rfl)) zp_ (za_ rfl)) (za_ rfl)) rfl (by decide) rfl rfl) zp_ (za_ rfl)) (za_ rfl)) (by decide +kernel))) zM_ (za_ rfl)) rfl rfl rfl rfl rfl rfl))
  jp_))) (fun _=>rfl))) (fun _=>rfl))
  (zg_ (Ye_ (i:=5) (jd_ (zk_ (av 5))))))))))
 (fun ds hl=>match ds,hl with | [gaE,gbK,gak],_=>by kernel_rfl)
theorem Yw_ {f:Addr} {fd:FuncData} (Fn:Fun K "leads_at" "leads_at" z0_ f fd) (hmg:mg "leads_at" = some (.ref f)) (B:BN mg) (Kn:KN mg) (Kx:KX K mg) (gbc:CF P w K mg base "can_be" 1 (spD K 2 yt_)) (gbd:CF P w K mg base "led_to" 1 (spD K 2 ys_)):CF P w K mg base "leads_at" 2 (spD K 3 uc_) :=
 ⟨f,fd,["rule", "pairs", "crowd"],YQ_ Fn B Kn Kx gbc gbd,hmg,Fn.kp,(bnd3 Fn fun _ _ _ _ _ _ _ _ _=>rfl)⟩
noncomputable abbrev zQ_:Stmt:=top 16
noncomputable abbrev Yj_:List Str:=["rule", "crowd", "limit", "pairs", "leads", "known", "found", "here", "lead"]
theorem sc_leads_from:FnScope Yj_ ["rule", "crowd", "limit"] (zb_ zQ_):=⟨rfl,rfl,rfl,by decide +kernel,rfl,by decide +kernel,by decide +kernel⟩
noncomputable def uB_ (gbe:D) (gaV:D) (gan:D) (gar:List (D×D)) (gaW:List (D×D)) (gaM:List D):M D :=
 .ret (PyData.dict gar)
noncomputable def ZS_ (kn2:D×D×D×List (D×D)×List (D×D)×List D×Unit->M D) (gbe:D) (gaV:D) (gan:D) (gar:List (D×D)) (gaW:List (D×D)) (gaM:List D):M D :=
 kn2 (gbe,gaV,gan,gar,gaW,gaM,())
def jD_ (kn2:D×D×D×List (D×D)×List (D×D)×List D×Unit->M D) (gbe:D) (gaV:D) (gan:D) (gar:List (D×D)) (gaW:List (D×D)) (gaM:List D) (d_:D) (kn14:D×D×D×List (D×D)×List (D×D)×List D×Unit->M D):M D :=
 bd (bd (oM (zO_ d_ (.int 1))) fun x15=>oM (j9_ x15 (PyData.dict gaW))) fun b16=>if b16 then
  bd (oM (zO_ d_ (.int 1))) fun x17=>bd (oM (dPut true gaW x17 (.bool true))) fun l18=>bd (oM (zO_ d_ (.int 1))) fun x19=>bd (oM (mApp gaM [x19])) fun l20=>kn14 (gbe,gaV,gan,gar,l18,l20,())
  else
  kn14 (gbe,gaV,gan,gar,gaW,gaM,())
def zw_ (gbe:D) (gaV:D) (gan:D) (gar:List (D×D)) (gaW:List (D×D)) (gaM:List D) (kn2:D×D×D×List (D×D)×List (D×D)×List D×Unit->M D):M D :=
 bd (bd (oM (Xc_ [(PyData.dict gar)])) fun x3=>bd (oM (fLen [(PyData.list gaM)])) fun x4=>oM (y8_ x3 x4)) fun b5=>if b5 then
  bd (bd (oM (fLen [(PyData.list gaM)])) fun x6=>oM (opGt x6 gaV)) fun b7=>if b7 then
  .exc ⟨"TooMany",[]⟩
  else
  bd (bd (oM (Xc_ [(PyData.dict gar)])) fun x8=>oM (zO_ (PyData.list gaM) x8)) fun x9=>bd (uM_ gbe gan x9) fun x10=>bd (oM (dPut true gar x9 x10)) fun l11=>bd (bd (oM (zO_ (PyData.dict l11) x9)) fun x12=>oM (seqD x12)) fun l13=>forS (fun s21 d22 kn=>jD_ kn2 s21.1 s21.2.1 s21.2.2.1 s21.2.2.2.1 s21.2.2.2.2.1 s21.2.2.2.2.2.1 d22 kn) l13 (gbe,gaV,gan,l11,gaW,gaM,()) (fun s21=>ZS_ kn2 s21.1 s21.2.1 s21.2.2.1 s21.2.2.2.1 s21.2.2.2.2.1 s21.2.2.2.2.2.1)
  else uB_ gbe gaV gan gar gaW gaM
def z4_ (gaE:D) (gak:D) (gaX:D):M D :=
 bd (uL_ gaE) fun x1=>Q2_ gak (Y5_ (fun s23 kn=>zw_ s23.1 s23.2.1 s23.2.2.1 s23.2.2.2.1 s23.2.2.2.2.1 s23.2.2.2.2.2.1 kn) 10000 (gaE,gaX,x1,[],[(gak,(.bool true))],[gak],()))
noncomputable def z9_:List D->M D:=fun l=>match l with
 | [gaE,gak,gaX]=>z4_ gaE gak gaX
 | _=>.bad
set_option maxHeartbeats 4000000 in
theorem J0_ {f:Addr} {fd:FuncData} (Fn:Fun K "leads_from" "leads_from" zQ_ f fd) (B:BN mg) (Kn:KN mg) (Kx:KX K mg) (gaP:CF P w K mg base "pairs_of" 1 (spD K 1 ub_)) (gaQ:CF P w K mg base "leads_at" 2 (spD K 3 uc_)) (X_TooMany:CCl P w K mg base "TooMany" 1 []):FnOk P w K mg base (CX1 P w) 3 f fd ["rule", "crowd", "limit"] (spD K 3 z9_) :=
 uZ_ (k:=2) Fn sc_leads_from (fun cdv A outer s H E hr =>
 (zc_ (zA_ (sh:=[.f,.f,.f,.f,.dead,.dead,.dead,.dead,.dead]) (zJ_ (i:=3) sc_leads_from.nd rfl (by first|exact Or.inl rfl|exact Or.inr rfl) (zk_ (Yf_ gaP (hr.mono (by decide)) rfl (zd_ (av 0) zp_ (za_ rfl)) rfl (by decide) rfl rfl)) rfl (.inl rfl)))
  (zc_ (zA_ (sh:=[.f,.f,.f,.f,.t,.dead,.dead,.dead,.dead]) (Y0_ true (i:=4) sc_leads_from.nd rfl (by first|exact Or.inl rfl|exact Or.inr rfl) rfl (.inl rfl)))
  (zc_ (zA_ (sh:=[.f,.f,.f,.f,.t,.t,.dead,.dead,.dead]) (zdS_ (i:=5) (zh_ hr) sc_leads_from.nd rfl (by first|exact Or.inl rfl|exact Or.inr rfl) (av 1) Yg_ rfl (.inl rfl)))
  (zc_ (zA_ (sh:=[.f,.dead,.f,.f,.t,.t,.o,.dead,.dead]) (um_ (i:=6) sc_leads_from.nd rfl (by first|exact Or.inl rfl|exact Or.inr rfl) (uq_ (u7_ (zd_ (av 1) zp_ (za_ rfl)) (by decide +kernel))) rfl (.inl rfl)))
  (zc_ (Yc_ (sh:=[.f,.dead,.f,.f,.t,.t,.o,.dead,.dead]) (fuel:=10000) PassesOwn.leaving (jT_ (jb_ (Wg_ (zh_ hr)) Wj_ (ao (zy_ U6_ Wk_ rfl B.len PySem.boot_len (zj_ (zD_ (i:=4) rfl (by first|exact Or.inl rfl|exact Or.inr (Or.inl rfl)|exact Or.inr (Or.inr rfl))) zq_ (za_ rfl)) (by decide) (by decide) rfl rfl)) (ao (zy_ ja_ yq_ rfl B.len PySem.boot_len (zj_ (zD_ (i:=6) rfl (by first|exact Or.inl rfl|exact Or.inr (Or.inl rfl)|exact Or.inr (Or.inr rfl))) zq_ (za_ rfl)) (by decide) (by decide) rfl rfl)) rfl))
  (zc_ (Ze_ (jT_ (jb_ Wh_ Wm_ (ao (zy_ ja_ yq_ rfl B.len PySem.boot_len (zj_ (zD_ (i:=6) rfl (by first|exact Or.inl rfl|exact Or.inr (Or.inl rfl)|exact Or.inr (Or.inr rfl))) zq_ (za_ rfl)) (by decide) (by decide) rfl rfl)) (ao (av 2)) rfl))
  (zg_ (XH_ X_TooMany (hr.mono (by decide)) rfl (by decide)))
  jp_)
  (zc_ (zA_ (sh:=[.f,.dead,.f,.f,.t,.t,.o,.f,.dead]) (zJ_ (i:=7) sc_leads_from.nd rfl (by first|exact Or.inl rfl|exact Or.inr rfl) (zk_ (jn_ (zH_ (zh_ hr)) zG_ (zD_ (i:=6) rfl (by first|exact Or.inl rfl|exact Or.inr (Or.inl rfl)|exact Or.inr (Or.inr rfl))) (ao (zy_ U6_ Wk_ rfl B.len PySem.boot_len (zj_ (zD_ (i:=4) rfl (by first|exact Or.inl rfl|exact Or.inr (Or.inl rfl)|exact Or.inr (Or.inr rfl))) zq_ (za_ rfl)) (by decide) (by decide) rfl rfl)) (fun _ _=>rfl))) rfl (.inl rfl)))
  (zc_ (zA_ (sh:=[.f,.dead,.f,.f,.t,.t,.o,.f,.dead]) (Ug_ (zh_ hr) (i:=4) rfl (by first|exact Or.inl rfl|exact Or.inr (Or.inl rfl)|exact Or.inr (Or.inr rfl)) (zk_ (av 7)) (zk_ (Yf_ gaQ (hr.mono (by decide)) rfl (zd_ (av 0) (zd_ (av 3) (zd_ (av 7) zp_ (za_ rfl)) (za_ rfl)) (za_ rfl)) rfl (by decide) rfl rfl)) rfl))
  (zg_ (jc_ (sh:=[.f,.dead,.f,.f,.t,.t,.o,.dead,.dead]) PassesOwn.leaving rfl (jJ_ (ZV_ (jn_ (zH_ (zh_ hr)) zG_ (zD_ (i:=4) rfl (by first|exact Or.inl rfl|exact Or.inr (Or.inl rfl)|exact Or.inr (Or.inr rfl))) (ao (av 7)) (fun _ _=>rfl)))) (zt_ (i:=8) (Nat.zero_le _) sc_leads_from.nd rfl (by first|exact Or.inl rfl|exact Or.inr rfl) (.inl rfl))
  (zg_ (Ze_ (jT_ (jb_ (Jh_ (zh_ hr)) UD_ (ao (jn_ (zH_ (zh_ hr)) zG_ (ao (av 8)) (ao ze_) (fun _ _=>rfl))) (zD_ (i:=5) rfl (by first|exact Or.inl rfl|exact Or.inr (Or.inl rfl)|exact Or.inr (Or.inr rfl))) rfl))
  (zc_ (zA_ (sh:=[.f,.dead,.f,.f,.t,.t,.o,.dead,.f]) (Ug_ (zh_ hr) (i:=5) rfl (by first|exact Or.inl rfl|exact Or.inr (Or.inl rfl)|exact Or.inr (Or.inr rfl)) (zk_ (jn_ (zH_ (zh_ hr)) zG_ (ao (av 8)) (ao ze_) (fun _ _=>rfl))) (zk_ Yg_) rfl))
  (zg_ (QF_ (i:=6) rfl (by first|exact Or.inl rfl|exact Or.inr (Or.inl rfl)|exact Or.inr (Or.inr rfl)) (zz_ (zk_ (jn_ (zH_ (zh_ hr)) zG_ (ao (av 8)) (ao ze_) (fun _ _=>rfl))) zM_ (za_ rfl)) rfl rfl rfl rfl rfl rfl)))
  jp_)) (fun _=>rfl)))))))
  (zg_ (Ye_ (i:=4) (jd_ (zk_ (av 4)))))))))))
 (fun ds hl=>match ds,hl with | [gaE,gak,gaX],_=>by kernel_rfl)
theorem JR_ {f:Addr} {fd:FuncData} (Fn:Fun K "leads_from" "leads_from" zQ_ f fd) (hmg:mg "leads_from" = some (.ref f)) (B:BN mg) (Kn:KN mg) (Kx:KX K mg) (gaP:CF P w K mg base "pairs_of" 1 (spD K 1 ub_)) (gaQ:CF P w K mg base "leads_at" 2 (spD K 3 uc_)) (X_TooMany:CCl P w K mg base "TooMany" 1 []):CF P w K mg base "leads_from" 3 (spD K 3 z9_) :=
 ⟨f,fd,["rule", "crowd", "limit"],J0_ Fn B Kn Kx gaP gaQ X_TooMany,hmg,Fn.kp,(bnd3 Fn fun _ _ _ _ _ _ _ _ _=>rfl)⟩
noncomputable abbrev yW_:Stmt:=top 15
noncomputable abbrev zgD_:List Str:=["rule", "crowd", "limit"]
theorem zcv_:FnScope zgD_ ["rule", "crowd", "limit"] (zb_ yW_):=⟨rfl,rfl,rfl,by decide +kernel,rfl,by decide +kernel,by decide +kernel⟩
def u3_ (gaE:D) (gak:D) (gaX:D):M (List D) :=
 bd (bd (bd (bd (z4_ gaE gak gaX) fun x1=>oM (u2_ [x1])) fun l2=>.ret (PyData.list l2)) fun x3=>oM (u1_ [x3])) fun l4=>.ret l4
noncomputable def jy_:List D->M (List D):=fun l=>match l with
 | [gaE,gak,gaX]=>u3_ gaE gak gaX
 | _=>.bad
set_option maxHeartbeats 4000000 in
theorem W6_ {f T:Addr} {fd:FuncData} (Fn:FunV K "come" "come" yW_ f fd T) (hT:DfT K T 1000) (B:BN mg) (Kn:KN mg) (Kx:KX K mg) (gas:CF P w K mg base "leads_from" 3 (spD K 3 z9_)):FnOk P w K mg base (CX1 P w) 4 f fd ["rule", "crowd", "limit"] (spL K 3 jy_) :=
 zdz_ (k:=3) Fn zcv_ (fun cdv A outer s H E hr =>
 (zg_ (XG_ (uq_ (Uh_ (yQ_ rfl) JP_ rfl B.sorted (by decide +kernel) (zj_ (ao (ap_z (ZU_ (yR_ rfl) JQ_ rfl B.list (by decide +kernel) (zj_ (ao (Yf_ gas (hr.mono (by decide)) rfl (zd_ (av 0) (zd_ (av 1) (zd_ (av 2) zp_ (za_ rfl)) (za_ rfl)) (za_ rfl)) rfl (by decide) rfl rfl)) zq_ (za_ rfl)) (by decide) (by decide) rfl rfl))) zq_ (za_ rfl)) (by decide) (by decide) rfl rfl)))))
 (fun ds hl=>match ds,hl with | [gaE,gak,gaX],_=>by kernel_rfl)
theorem zdf_ {f T:Addr} {fd:FuncData} (Fn:FunV K "come" "come" yW_ f fd T) (hT:DfT K T 1000) (hmg:mg "come" = some (.ref f)) (B:BN mg) (Kn:KN mg) (Kx:KX K mg) (gas:CF P w K mg base "leads_from" 3 (spD K 3 z9_)):CF P w K mg base "come" 4 (spL K 3 jy_) :=
 ⟨f,fd,["rule", "crowd", "limit"],W6_ Fn hT B Kn Kx gas,hmg,Fn.kp,(Fn.binds0 hT fun _ _ _ _ _ _ us u hl=>by obtain ⟨a,b,c,rfl⟩:=len3 hl;exact ⟨_,rfl,rfl⟩)⟩
theorem zdh_ {f T:Addr} {fd:FuncData} (Fn:FunV K "come" "come" yW_ f fd T) (hT:DfT K T 1000) (hmg:mg "come" = some (.ref f)) (B:BN mg) (Kn:KN mg) (Kx:KX K mg) (gas:CF P w K mg base "leads_from" 3 (spD K 3 z9_)):CFd P w K mg base "come" 4 (spL K 3 jy_) 1000 :=
 ⟨f,fd,["rule", "crowd", "limit"],hT.choose_spec.choose_spec.choose,W6_ Fn hT B Kn Kx gas,hmg,Fn.kp,(Fn.binds1 hT fun _ _ _ _ _ _ us u hl=>by obtain ⟨a,b,rfl⟩:=len2 (Nat.succ.inj hl);exact ⟨_,rfl,rfl⟩),hT.choose_spec.choose_spec.choose_spec.2.2⟩
noncomputable abbrev zX_:Stmt:=top 18
noncomputable abbrev Y3_:List Str:=["_law_script", "_law_at", "_law_cell"]
theorem sc__law_feed:FnScope Y3_ ["_law_script", "_law_at"] (zb_ zX_):=⟨rfl,rfl,rfl,by decide +kernel,rfl,by decide +kernel,by decide +kernel⟩
def jj_ (gbf:D):M (List D) :=
 bd (bd (bd (oM (zaR_ [(.int 0),gbf])) fun x14=>bd (bd (bd (bd (oM (zao_ (.int 10) (.int 18))) fun x11=>oM (opGe gbf x11)) fun b12=>.ret (.bool b12)) fun x13=>oM (fInt [x13])) fun x15=>oM (up_ x14 x15)) fun x16=>.ret [gbf,x16,(.int 0)]) fun l17=>.ret l17
def ul_ (gaj:D) (ga2:D):M (List D) :=
 bd (oM (up_ (.int 31) ga2)) fun x1=>bd (bd (oM (fLen [gaj])) fun x2=>oM (opGt x2 (.int 0))) fun b3=>if b3 then
  bd (bd (bd (bd (oM (fLen [gaj])) fun x4=>oM (JM_ ga2 x4)) fun x5=>oM (zO_ gaj x5)) fun x8=>bd (bd (bd (oM (fLen [gaj])) fun x6=>oM (Yu_ ga2 x6)) fun x7=>oM (up_ (.int 7919) x7)) fun x9=>oM (ua_ x8 x9)) fun x10=>jj_ x10
  else
  jj_ x1
noncomputable def jN_:List D->M (List D):=fun l=>match l with
 | [gaj,ga2]=>ul_ gaj ga2
 | _=>.bad
set_option maxHeartbeats 4000000 in
theorem UT_ {f:Addr} {fd:FuncData} (Fn:Fun K "_law_feed" "_law_feed" zX_ f fd) (B:BN mg) (Kn:KN mg) (Kx:KX K mg):FnOk P w K mg base (CX1 P w) 1 f fd ["_law_script", "_law_at"] (spL K 2 jN_) :=
 zgb_ (k:=0) Fn sc__law_feed (fun cdv A outer s H E hr =>
 (zc_ (zA_ (sh:=[.f,.f,.f]) (zJ_ (i:=2) sc__law_feed.nd rfl (by first|exact Or.inl rfl|exact Or.inr rfl) (zk_ (zE_ yY_ yZ_ (ao ze_) (ao (av 1)))) rfl (.inl rfl)))
  (zc_ (zA_ (sh:=[.dead,.dead,.f]) (Ze_ (jT_ (jb_ Wh_ Wm_ (ao (zy_ ja_ yq_ rfl B.len PySem.boot_len (zj_ (ao (av 0)) zq_ (za_ rfl)) (by decide) (by decide) rfl rfl)) (ao ze_) rfl))
  (zg_ (zJ_ (i:=2) sc__law_feed.nd rfl (by first|exact Or.inl rfl|exact Or.inr rfl) (zk_ (zE_ jx_ uw_ (ao (jn_ (zH_ (zh_ hr)) zG_ (ao (av 0)) (ao (zE_ Jj_ Jk_ (ao (av 1)) (ao (zy_ ja_ yq_ rfl B.len PySem.boot_len (zj_ (ao (av 0)) zq_ (za_ rfl)) (by decide) (by decide) rfl rfl)))) (fun _ _=>rfl))) (ao (zE_ yY_ yZ_ (ao ze_) (ao (zE_ JL_ Qk_ (ao (av 1)) (ao (zy_ ja_ yq_ rfl B.len PySem.boot_len (zj_ (ao (av 0)) zq_ (za_ rfl)) (by decide) (by decide) rfl rfl)))))))) rfl (.inl rfl)))
  jp_))
  (zg_ (XG_ (uq_ (u7_ (zd_ (av 2) (zd_ (zE_ yY_ yZ_ (ao (zy_ (Xv_ rfl) zdd_ rfl B.max (by decide +kernel) (zj_ (ao ze_) (zj_ (ao (av 2)) zq_ (za_ rfl)) (za_ rfl)) (by decide) (by decide) rfl rfl)) (ao (uE_ Xy_ zft_ rfl B.int (by decide +kernel) (zj_ (ao (ap_b (XP_ zan_ zap_ (ao (av 2)) (ao (zE_ zfo_ zfr_ (ao ze_) (ao ze_))) rfl))) zq_ (za_ rfl)) (by decide) (by decide) rfl rfl))) (zd_ ze_ zp_ (za_ rfl)) (za_ rfl)) (za_ rfl)) (by decide +kernel))))))))
 (fun ds hl=>match ds,hl with | [gaj,ga2],_=>by kernel_rfl)
theorem UF_ {f:Addr} {fd:FuncData} (Fn:Fun K "_law_feed" "_law_feed" zX_ f fd) (hmg:mg "_law_feed" = some (.ref f)) (B:BN mg) (Kn:KN mg) (Kx:KX K mg):CF P w K mg base "_law_feed" 1 (spL K 2 jN_) :=
 ⟨f,fd,["_law_script", "_law_at"],UT_ Fn B Kn Kx,hmg,Fn.kp,(bnd2 Fn fun _ _ _ _ _ _ _ _=>rfl)⟩
noncomputable abbrev zY_:Stmt:=top 19
noncomputable abbrev Y4_:List Str:=["_law_feed_here", "_law_many", "_law_turn", "_law_left", "_law_here", "_law_mixed"]
theorem sc__law_draw:FnScope Y4_ ["_law_feed_here", "_law_many"] (zb_ zY_):=⟨rfl,rfl,rfl,by decide +kernel,rfl,by decide +kernel,by decide +kernel⟩
def zm_ (gag:List D) (gaK:D):M (D×List D) :=
 bd (oM (zO_ (PyData.list gag) (.int 2))) fun x1=>bd (oM (ua_ x1 (.int 1))) fun x2=>bd (oM (putD gag (.int 2) x2)) fun l3=>bd (oM (zO_ (PyData.list l3) (.int 1))) fun x4=>bd (oM (opGt x4 (.int 0))) fun b5=>if b5 then
  bd (oM (Yu_ x4 gaK)) fun x6=>bd (oM (putD l3 (.int 1) x6)) fun l7=>bd (oM (JM_ x4 gaK)) fun x8=>.ret (x8,l7)
  else
  bd (bd (bd (bd (oM (zO_ (PyData.list l3) (.int 0))) fun x9=>oM (JM_ x9 (.int 2147483647))) fun x11=>bd (bd (oM (up_ (.int 31) x1)) fun x10=>oM (up_ x10 x1)) fun x12=>oM (ua_ x11 x12)) fun x13=>oM (ua_ x13 (.int 1))) fun x14=>bd (bd (bd (bd (oM (up_ (.int 40) x1)) fun x15=>oM (ua_ (.int 48271) x15)) fun x16=>oM (up_ x14 x16)) fun x17=>oM (JM_ x17 (.int 2147483629))) fun x18=>bd (bd (bd (bd (bd (bd (oM (Yu_ x18 (.int 11))) fun x19=>oM (up_ x19 (.int 69621))) fun x20=>oM (ua_ x20 x1)) fun x21=>oM (JM_ x21 (.int 998244353))) fun x22=>oM (Yu_ x22 (.int 7))) fun x23=>oM (JM_ x23 gaK)) fun x24=>.ret (x24,l3)
noncomputable def z2_:List D->List D->M (D×List D):=fun gag l=>match l with
 | [gaK]=>zm_ gag gaK
 | _=>.bad
set_option maxHeartbeats 4000000 in
theorem UU_ {f:Addr} {fd:FuncData} (Fn:Fun K "_law_draw" "_law_draw" zY_ f fd) (B:BN mg) (Kn:KN mg) (Kx:KX K mg):FnOk P w K mg base (CX1 P w) 1 f fd ["_law_feed_here", "_law_many"] (sp1 K 2 z2_) :=
 W4_ (k:=0) Fn sc__law_draw (fun cdv A outer s H E hr =>
 (zc_ (zA_ (sh:=[.p,.f,.f,.dead,.dead,.dead]) (zJ_ (i:=2) sc__law_draw.nd rfl (by first|exact Or.inl rfl|exact Or.inr rfl) (zk_ (jn_ (zH_ (zh_ hr)) zG_ (zD_ (i:=0) rfl (by first|exact Or.inl rfl|exact Or.inr (Or.inl rfl)|exact Or.inr (Or.inr rfl))) (ao ze_) (fun _ _=>rfl))) rfl (.inl rfl)))
  (zc_ (zA_ (sh:=[.p,.f,.f,.dead,.dead,.dead]) (Yd_ (i:=0) rfl (by first|exact Or.inl rfl|exact Or.inr (Or.inl rfl)|exact Or.inr (Or.inr rfl)) (zk_ ze_) (zk_ (zE_ jx_ uw_ (ao (av 2)) (ao ze_))) (fun _=>rfl) rfl rfl rfl))
  (zc_ (zA_ (sh:=[.p,.f,.f,.f,.dead,.dead]) (zJ_ (i:=3) sc__law_draw.nd rfl (by first|exact Or.inl rfl|exact Or.inr rfl) (zk_ (jn_ (zH_ (zh_ hr)) zG_ (zD_ (i:=0) rfl (by first|exact Or.inl rfl|exact Or.inr (Or.inl rfl)|exact Or.inr (Or.inr rfl))) (ao ze_) (fun _ _=>rfl))) rfl (.inl rfl)))
  (zc_ (Ze_ (jT_ (jb_ Wh_ Wm_ (ao (av 3)) (ao ze_) rfl))
  (zc_ (zA_ (sh:=[.p,.f,.dead,.f,.dead,.dead]) (Yd_ (i:=0) rfl (by first|exact Or.inl rfl|exact Or.inr (Or.inl rfl)|exact Or.inr (Or.inr rfl)) (zk_ ze_) (zk_ (zE_ JL_ Qk_ (ao (av 3)) (ao (av 1)))) (fun _=>rfl) rfl rfl rfl))
  (zg_ (jd_ (zk_ (zE_ Jj_ Jk_ (ao (av 3)) (ao (av 1)))))))
  jp_)
  (zc_ (zA_ (sh:=[.p,.f,.f,.dead,.f,.dead]) (zJ_ (i:=4) sc__law_draw.nd rfl (by first|exact Or.inl rfl|exact Or.inr rfl) (zk_ (zE_ jx_ uw_ (ao (zE_ jx_ uw_ (ao (zE_ Jj_ Jk_ (ao (jn_ (zH_ (zh_ hr)) zG_ (zD_ (i:=0) rfl (by first|exact Or.inl rfl|exact Or.inr (Or.inl rfl)|exact Or.inr (Or.inr rfl))) (ao ze_) (fun _ _=>rfl))) (ao ze_))) (ao (zE_ yY_ yZ_ (ao (zE_ yY_ yZ_ (ao ze_) (ao (av 2)))) (ao (av 2)))))) (ao ze_))) rfl (.inl rfl)))
  (zc_ (zA_ (sh:=[.p,.f,.f,.dead,.dead,.f]) (zJ_ (i:=5) sc__law_draw.nd rfl (by first|exact Or.inl rfl|exact Or.inr rfl) (zk_ (zE_ Jj_ Jk_ (ao (zE_ yY_ yZ_ (ao (av 4)) (ao (zE_ jx_ uw_ (ao ze_) (ao (zE_ yY_ yZ_ (ao ze_) (ao (av 2)))))))) (ao ze_))) rfl (.inl rfl)))
  (zg_ (jd_ (zk_ (zE_ Jj_ Jk_ (ao (zE_ JL_ Qk_ (ao (zE_ Jj_ Jk_ (ao (zE_ jx_ uw_ (ao (zE_ yY_ yZ_ (ao (zE_ JL_ Qk_ (ao (av 5)) (ao ze_))) (ao ze_))) (ao (av 2)))) (ao ze_))) (ao ze_))) (ao (av 1)))))))))))))
 (fun g ds hl=>match ds,hl with | [gaK],_=>by kernel_rfl)
theorem UG_ {f:Addr} {fd:FuncData} (Fn:Fun K "_law_draw" "_law_draw" zY_ f fd) (hmg:mg "_law_draw" = some (.ref f)) (B:BN mg) (Kn:KN mg) (Kx:KX K mg):CF P w K mg base "_law_draw" 1 (sp1 K 2 z2_) :=
 ⟨f,fd,["_law_feed_here", "_law_many"],UU_ Fn B Kn Kx,hmg,Fn.kp,(bnd2 Fn fun _ _ _ _ _ _ _ _=>rfl)⟩
noncomputable abbrev zK_:Stmt:=top 20
noncomputable abbrev yi_:List Str:=["_law_feed_here", "_law_most", "_law_rooms", "_law_sorts", "_law_starts", "_law_says", "_law_often", "_law_meets", "_law_a", "_law_b", "_law_c", "_law_d"]
theorem sc__law_rule:FnScope yi_ ["_law_feed_here", "_law_most"] (zb_ zK_):=⟨rfl,rfl,rfl,by decide +kernel,rfl,by decide +kernel,by decide +kernel⟩
noncomputable abbrev N__law_rule_0:List Str:=["_law_feed_here", "_law_most", "_law_rooms", "_law_sorts", "_law_starts", "_law_says", "_law_often", "_law_meets", "_law_a", "_law_b", "_law_c", "_law_d", "_law_sort"]
theorem Zc_:N__law_rule_0.Nodup:=by decide +kernel
noncomputable abbrev N__law_rule_1:List Str:=["_law_feed_here", "_law_most", "_law_rooms", "_law_sorts", "_law_starts", "_law_says", "_law_often", "_law_meets", "_law_a", "_law_b", "_law_c", "_law_d", "_law_room"]
theorem Zb_:N__law_rule_1.Nodup:=by decide +kernel
def u6_ (gae:List D) (gam:D) (gao:D) (gaA:D) (gat:D) (gau:List D):M (D×List D) :=
 bd (bd (oM (u0_ [(PyData.list gau)])) fun x23=>.ret (.tuple [gam,gao,x23,gaA])) fun x24=>.ret (x24,gae)
noncomputable def u5_ (kn25:List D×D×D×D×D×List D×Unit->M (D×List D)) (gae:List D) (gam:D) (gao:D) (gaA:D) (gat:D) (gau:List D) (gbg:D):M (D×List D) :=
 kn25 (gae,gam,gao,gaA,gat,gau,())
def u4_ (kn25:List D×D×D×D×D×List D×Unit->M (D×List D)) (gae:List D) (gam:D) (gao:D) (gaA:D) (gat:D) (gau:List D) (gbg:D) (d_:D) (kn27:List D×D×D×D×D×List D×D×Unit->M (D×List D)):M (D×List D) :=
 bd (zm_ gae gam) fun r28=>bd (zm_ r28.2 gam) fun r29=>bd (zm_ r29.2 gat) fun r30=>bd (oM (opEq r30.1 (.int 0))) fun b31=>if b31 then bd (bd (bd (oM (u1_ [(PyData.list [r28.1,r29.1])])) fun l32=>.ret (PyData.list l32)) fun x33=>oM (opNe x33 (PyData.list [gbg,d_]))) fun b34=>if b34 then
  bd (oM (mApp gau [(.tuple [gbg,d_,r28.1,r29.1])])) fun l35=>kn27 (r30.2,gam,gao,gaA,gat,l35,gbg,())
  else
  kn27 (r30.2,gam,gao,gaA,gat,gau,gbg,()) else kn27 (r30.2,gam,gao,gaA,gat,gau,gbg,())
def jZ_ (gae:List D) (gam:D) (gao:D) (gaA:D) (gat:D) (gau:List D) (d_:D) (kn25:List D×D×D×D×D×List D×Unit->M (D×List D)):M (D×List D) :=
 bd (oM (yO_ [d_,gam])) fun l26=>forS (fun s36 d37 kn=>u4_ kn25 s36.1 s36.2.1 s36.2.2.1 s36.2.2.2.1 s36.2.2.2.2.1 s36.2.2.2.2.2.1 s36.2.2.2.2.2.2.1 d37 kn) l26 (gae,gam,gao,gaA,gat,gau,d_,()) (fun s36=>u5_ kn25 s36.1 s36.2.1 s36.2.2.1 s36.2.2.2.1 s36.2.2.2.2.1 s36.2.2.2.2.2.1 s36.2.2.2.2.2.2.1)
def uk_ (gag:List D) (gaB:D):M (D×List D) :=
 bd (zm_ gag gaB) fun r1=>bd (oM (ua_ (.int 1) r1.1)) fun x2=>bd (zm_ r1.2 (.int 5)) fun r3=>bd (oM (zO_ (PyData.list [(.int 1),(.int 2),(.int 2),(.int 3),(.int 4)]) r3.1)) fun x4=>bd (oM (zZ_ [x4])) fun l5=>bd (uU_ (fun s6 d7=>bd (zm_ s6.1 s6.2.1) fun r8=>.ret (some r8.1,(r8.2,s6.2.1,s6.2.2.1,()))) l5 (r3.2,x2,x4,())) fun r9=>bd (fitM r9.1) fun l10=>bd (oM (u0_ [(PyData.list l10)])) fun x11=>bd (oM (zZ_ [r9.2.2.1])) fun l12=>bd (uU_ (fun s13 d14=>bd (zm_ s13.1 (.int 2)) fun r15=>bd (oM (opEq r15.1 (.int 1))) fun b16=>.ret (some (.bool b16),(r15.2,s13.2.1,s13.2.2.1,()))) l12 (r9.2.1,r9.2.2.1,x11,())) fun r17=>bd (fitM r17.1) fun l18=>bd (oM (u0_ [(PyData.list l18)])) fun x19=>bd (zm_ r17.2.1 (.int 3)) fun r20=>bd (oM (ua_ (.int 1) r20.1)) fun x21=>bd (oM (zZ_ [r17.2.2.1])) fun l22=>forS (fun s38 d39 kn=>jZ_ s38.1 s38.2.1 s38.2.2.1 s38.2.2.2.1 s38.2.2.2.2.1 s38.2.2.2.2.2.1 d39 kn) l22 (r20.2,r17.2.2.1,r17.2.2.2.1,x19,x21,[],()) (fun s38=>u6_ s38.1 s38.2.1 s38.2.2.1 s38.2.2.2.1 s38.2.2.2.2.1 s38.2.2.2.2.2.1)
noncomputable def jM_:List D->List D->M (D×List D):=fun gag l=>match l with
 | [gaB]=>uk_ gag gaB
 | _=>.bad
set_option maxHeartbeats 4000000 in
theorem US_ {f:Addr} {fd:FuncData} (Fn:Fun K "_law_rule" "_law_rule" zK_ f fd) (B:BN mg) (Kn:KN mg) (Kx:KX K mg) (gah:CF P w K mg base "_law_draw" 1 (sp1 K 2 z2_)):FnOk P w K mg base (CX1 P w) 2 f fd ["_law_feed_here", "_law_most"] (sp1 K 2 jM_) :=
 W4_ (k:=1) Fn sc__law_rule (fun cdv A outer s H E hr =>
 (zc_ (zA_ (sh:=[.p,.dead,.f,.dead,.dead,.dead,.dead,.dead,.dead,.dead,.dead,.dead]) (zJ_ (i:=2) sc__law_rule.nd rfl (by first|exact Or.inl rfl|exact Or.inr rfl) (XN_ jx_ uw_ (zk_ ze_) (ur_ (i:=0) gah (hr.mono (by decide)) rfl rfl (by first|exact Or.inl rfl|exact Or.inr (Or.inl rfl)|exact Or.inr (Or.inr rfl)) (zz_ (zk_ (av 1)) zM_ (za_ rfl)) rfl (by decide) rfl rfl)) rfl (.inl rfl)))
  (zc_ (zA_ (sh:=[.p,.dead,.f,.f,.dead,.dead,.dead,.dead,.dead,.dead,.dead,.dead]) (zJ_ (i:=3) sc__law_rule.nd rfl (by first|exact Or.inl rfl|exact Or.inr rfl) (zhH_ (zH_ (zh_ hr)) zG_ (zk_ (ap_z (u7_ (zd_ ze_ (zd_ ze_ (zd_ ze_ (zd_ ze_ (zd_ ze_ zp_ (za_ rfl)) (za_ rfl)) (za_ rfl)) (za_ rfl)) (za_ rfl)) (by decide +kernel)))) (ur_ (i:=0) gah (hr.mono (by decide)) rfl rfl (by first|exact Or.inl rfl|exact Or.inr (Or.inl rfl)|exact Or.inr (Or.inr rfl)) (zz_ (zk_ ze_) zM_ (za_ rfl)) rfl (by decide) rfl rfl) (fun _ _=>rfl)) rfl (.inl rfl)))
  (zc_ (zA_ (sh:=[.p,.dead,.f,.dead,.f,.dead,.dead,.dead,.dead,.dead,.dead,.dead]) (zJ_ (i:=4) sc__law_rule.nd rfl (by first|exact Or.inl rfl|exact Or.inr rfl) (Yh_ zT_ uH_ rfl B.tuple (by decide +kernel) (zz_ (ae_z (QH_ (sh:=[.p,.dead,.f,.f,.dead,.dead,.dead,.dead,.dead,.dead,.dead,.dead]) (N':=N__law_rule_0) (k:=1) rfl (uA_ (N:=yi_) (sc:=(zb_ zK_)) (by decide +kernel) rfl rfl) (jJ_ (j4_ rfl B.range (zd_ (av 3) zp_ (za_ rfl)) rfl)) (fun cl s' H' fp C'=>(zt_ (i:=12) (show 12<=12 by decide) Zc_ rfl (by first|exact Or.inl rfl|exact Or.inr rfl) (.inr rfl))) (fun cl s' H' fp C'=>(XM_ Ud_)) (fun cl s' H' fp C'=>(ur_ (i:=0) gah (hr.mono (by decide)) rfl rfl (by first|exact Or.inl rfl|exact Or.inr (Or.inl rfl)|exact Or.inr (Or.inr rfl)) (zz_ (zk_ (av 2)) zM_ (za_ rfl)) rfl (by decide) rfl rfl)) (fun _=>rfl))) zM_ (za_ rfl)) (by decide) (by decide) rfl rfl) rfl (.inl rfl)))
  (zc_ (zA_ (sh:=[.p,.dead,.f,.dead,.f,.f,.dead,.dead,.dead,.dead,.dead,.dead]) (zJ_ (i:=5) sc__law_rule.nd rfl (by first|exact Or.inl rfl|exact Or.inr rfl) (Yh_ zT_ uH_ rfl B.tuple (by decide +kernel) (zz_ (ae_z (QH_ (sh:=[.p,.dead,.f,.dead,.f,.dead,.dead,.dead,.dead,.dead,.dead,.dead]) (N':=N__law_rule_1) (k:=1) rfl (uA_ (N:=yi_) (sc:=(zb_ zK_)) (by decide +kernel) rfl rfl) (jJ_ (j4_ rfl B.range (zd_ (av 2) zp_ (za_ rfl)) rfl)) (fun cl s' H' fp C'=>(zt_ (i:=12) (show 12<=12 by decide) Zb_ rfl (by first|exact Or.inl rfl|exact Or.inr rfl) (.inr rfl))) (fun cl s' H' fp C'=>(XM_ Ud_)) (fun cl s' H' fp C'=>(ae_b (zea_ (Wf_ (zh_ hr)) ZE_ (ur_ (i:=0) gah (hr.mono (by decide)) rfl rfl (by first|exact Or.inl rfl|exact Or.inr (Or.inl rfl)|exact Or.inr (Or.inr rfl)) (zz_ (zk_ ze_) zM_ (za_ rfl)) rfl (by decide) rfl rfl) (zk_ ze_) rfl))) (fun _=>rfl))) zM_ (za_ rfl)) (by decide) (by decide) rfl rfl) rfl (.inl rfl)))
  (zc_ (zA_ (sh:=[.p,.dead,.f,.dead,.f,.f,.f,.dead,.dead,.dead,.dead,.dead]) (zJ_ (i:=6) sc__law_rule.nd rfl (by first|exact Or.inl rfl|exact Or.inr rfl) (XN_ jx_ uw_ (zk_ ze_) (ur_ (i:=0) gah (hr.mono (by decide)) rfl rfl (by first|exact Or.inl rfl|exact Or.inr (Or.inl rfl)|exact Or.inr (Or.inr rfl)) (zz_ (zk_ ze_) zM_ (za_ rfl)) rfl (by decide) rfl rfl)) rfl (.inl rfl)))
  (zc_ (zA_ (sh:=[.p,.dead,.f,.dead,.f,.f,.f,.o,.dead,.dead,.dead,.dead]) (um_ (i:=7) sc__law_rule.nd rfl (by first|exact Or.inl rfl|exact Or.inr rfl) (uq_ (u7_ zp_ (by decide +kernel))) rfl (.inl rfl)))
  (zc_ (jc_ (sh:=[.p,.dead,.f,.dead,.f,.f,.f,.o,.dead,.dead,.dead,.dead]) PassesOwn.leaving rfl (jJ_ (j4_ rfl B.range (zd_ (av 2) zp_ (za_ rfl)) rfl)) (zt_ (i:=8) (Nat.zero_le _) sc__law_rule.nd rfl (by first|exact Or.inl rfl|exact Or.inr rfl) (.inl rfl))
  (zg_ (jc_ (sh:=[.p,.dead,.f,.dead,.f,.f,.f,.o,.f,.dead,.dead,.dead]) PassesOwn.leaving rfl (jJ_ (XK_ rfl B.range (zd_ (av 8) (zd_ (av 2) zp_ (za_ rfl)) (za_ rfl)) rfl rfl)) (zt_ (i:=9) (Nat.zero_le _) sc__law_rule.nd rfl (by first|exact Or.inl rfl|exact Or.inr rfl) (.inl rfl))
  (zc_ (zA_ (sh:=[.p,.dead,.f,.dead,.f,.f,.f,.o,.f,.f,.f,.dead]) (zJ_ (i:=10) sc__law_rule.nd rfl (by first|exact Or.inl rfl|exact Or.inr rfl) (ur_ (i:=0) gah (hr.mono (by decide)) rfl rfl (by first|exact Or.inl rfl|exact Or.inr (Or.inl rfl)|exact Or.inr (Or.inr rfl)) (zz_ (zk_ (av 2)) zM_ (za_ rfl)) rfl (by decide) rfl rfl) rfl (.inl rfl)))
  (zc_ (zA_ (sh:=[.p,.dead,.f,.dead,.f,.f,.f,.o,.f,.f,.f,.f]) (zJ_ (i:=11) sc__law_rule.nd rfl (by first|exact Or.inl rfl|exact Or.inr rfl) (ur_ (i:=0) gah (hr.mono (by decide)) rfl rfl (by first|exact Or.inl rfl|exact Or.inr (Or.inl rfl)|exact Or.inr (Or.inr rfl)) (zz_ (zk_ (av 2)) zM_ (za_ rfl)) rfl (by decide) rfl rfl) rfl (.inl rfl)))
  (zg_ (Ze_ (zgB_ (zdY_ (zdZ_ (Wf_ (zh_ hr)) ZE_ (ur_ (i:=0) gah (hr.mono (by decide)) rfl rfl (by first|exact Or.inl rfl|exact Or.inr (Or.inl rfl)|exact Or.inr (Or.inr rfl)) (zz_ (zk_ (av 6)) zM_ (za_ rfl)) rfl (by decide) rfl rfl) (zk_ ze_) rfl) (zbm_ (jT_ (jb_ (Ji_ (zh_ hr)) ZE_ (ao (ap_z (Uh_ (yQ_ rfl) JP_ rfl B.sorted (by decide +kernel) (zj_ (ao (ap_z (u7_ (zd_ (av 10) (zd_ (av 11) zp_ (za_ rfl)) (za_ rfl)) (by decide +kernel)))) zq_ (za_ rfl)) (by decide) (by decide) rfl rfl))) (ao (ap_z (u7_ (zd_ (av 8) (zd_ (av 9) zp_ (za_ rfl)) (za_ rfl)) (by decide +kernel)))) rfl)))))
  (zg_ (QF_ (i:=7) rfl (by first|exact Or.inl rfl|exact Or.inr (Or.inl rfl)|exact Or.inr (Or.inr rfl)) (zz_ (zk_ (y4_ (zd_ (av 8) (zd_ (av 9) (zd_ (av 10) (zd_ (av 11) zp_ (za_ rfl)) (za_ rfl)) (za_ rfl)) (za_ rfl)) (by decide +kernel))) zM_ (za_ rfl)) rfl rfl rfl rfl rfl rfl))
  jp_)))) (fun _=>rfl))) (fun _=>rfl))
  (zg_ (jd_ (zk_ (y4_ (zd_ (av 2) (zd_ (av 4) (zd_ (uE_ zT_ uH_ rfl B.tuple (by decide +kernel) (zj_ (zD_ (i:=7) rfl (by first|exact Or.inl rfl|exact Or.inr (Or.inl rfl)|exact Or.inr (Or.inr rfl))) zq_ (za_ rfl)) (by decide) (by decide) rfl rfl) (zd_ (av 5) zp_ (za_ rfl)) (za_ rfl)) (za_ rfl)) (za_ rfl)) (by decide +kernel)))))))))))))
 (fun g ds hl=>match ds,hl with | [gaB],_=>by kernel_rfl)
theorem UE_ {f:Addr} {fd:FuncData} (Fn:Fun K "_law_rule" "_law_rule" zK_ f fd) (hmg:mg "_law_rule" = some (.ref f)) (B:BN mg) (Kn:KN mg) (Kx:KX K mg) (gah:CF P w K mg base "_law_draw" 1 (sp1 K 2 z2_)):CF P w K mg base "_law_rule" 2 (sp1 K 2 jM_) :=
 ⟨f,fd,["_law_feed_here", "_law_most"],US_ Fn B Kn Kx gah,hmg,Fn.kp,(bnd2 Fn fun _ _ _ _ _ _ _ _=>rfl)⟩
noncomputable abbrev zR_:Stmt:=top 21
noncomputable abbrev Yk_:List Str:=["_law_rule_here", "_law_crowd_here", "_law_found", "_law_number", "_law_meeting", "_law_left", "_law_room"]
theorem sc__law_steps:FnScope Yk_ ["_law_rule_here", "_law_crowd_here"] (zb_ zR_):=⟨rfl,rfl,rfl,by decide +kernel,rfl,by decide +kernel,by decide +kernel⟩
noncomputable def ZT_ (gaf:D) (gab:List D):M D :=
 .ret (PyData.list gab)
def jH_ (kn3:D×List D×Unit->M D) (gaf:D) (gab:List D) (gaw:D) (gav:List D):M D :=
 bd (bd (oM (u0_ [(PyData.list gav)])) fun x15=>.ret (.tuple [gaw,x15])) fun x16=>bd (oM (mApp gab [x16])) fun l17=>kn3 (gaf,l17,())
def jE_ (kn3:D×List D×Unit->M D) (gaf:D) (gab:List D) (gaw:D) (gav:List D) (d_:D) (kn18:D×List D×D×List D×Unit->M D):M D :=
 bd (bd (oM (zO_ (PyData.list gav) d_)) fun x19=>oM (ua_ x19 (.int 1))) fun x20=>bd (oM (putD gav d_ x20)) fun l21=>kn18 (gaf,gab,gaw,l21,())
def jI_ (kn3:D×List D×Unit->M D) (gaf:D) (gab:List D) (gaw:D) (gaY:D) (gav:List D):M D :=
 bd (bd (oM (zaQ_ [(PyData.list gav)])) fun x10=>oM (opGe x10 (.int 0))) fun b11=>if b11 then
  bd (bd (bd (asI (.int 2)) fun lo12=>oM (fCut gaY lo12 none)) fun x13=>oM (seqD x13)) fun l14=>forS (fun s22 d23 kn=>jE_ kn3 s22.1 s22.2.1 s22.2.2.1 s22.2.2.2.1 d23 kn) l14 (gaf,gab,gaw,gav,()) (fun s22=>jH_ kn3 s22.1 s22.2.1 s22.2.2.1 s22.2.2.2.1)
  else
  kn3 (gaf,gab,())
def jF_ (kn3:D×List D×Unit->M D) (gaf:D) (gab:List D) (gaw:D) (gaY:D) (gav:List D) (d_:D) (kn24:D×List D×D×D×List D×Unit->M D):M D :=
 bd (bd (oM (zO_ (PyData.list gav) d_)) fun x25=>oM (Yt_ x25 (.int 1))) fun x26=>bd (oM (putD gav d_ x26)) fun l27=>kn24 (gaf,gab,gaw,gaY,l27,())
def jG_ (gaf:D) (gab:List D) (d_:D) (kn3:D×List D×Unit->M D):M D :=
 un2 d_ fun y4 y5=>bd (oM (u2_ [gaf])) fun l6=>bd (bd (bd (asI (.int 2)) fun hi7=>oM (fCut y5 none hi7)) fun x8=>oM (seqD x8)) fun l9=>forS (fun s28 d29 kn=>jF_ kn3 s28.1 s28.2.1 s28.2.2.1 s28.2.2.2.1 s28.2.2.2.2.1 d29 kn) l9 (gaf,gab,y4,y5,l6,()) (fun s28=>jI_ kn3 s28.1 s28.2.1 s28.2.2.1 s28.2.2.2.1 s28.2.2.2.2.1)
def jR_ (gad:D) (gai:D):M D :=
 bd (bd (oM (zO_ gad (.int 2))) fun x1=>oM (Z2_ [x1])) fun l2=>forS (fun s30 d31 kn=>jG_ s30.1 s30.2.1 d31 kn) l2 (gai,[],()) (fun s30=>ZT_ s30.1 s30.2.1)
noncomputable def jq_:List D->M D:=fun l=>match l with
 | [gad,gai]=>jR_ gad gai
 | _=>.bad
set_option maxHeartbeats 4000000 in
theorem J1_ {f:Addr} {fd:FuncData} (Fn:Fun K "_law_steps" "_law_steps" zR_ f fd) (B:BN mg) (Kn:KN mg) (Kx:KX K mg):FnOk P w K mg base (CX1 P w) 1 f fd ["_law_rule_here", "_law_crowd_here"] (spD K 2 jq_) :=
 uZ_ (k:=0) Fn sc__law_steps (fun cdv A outer s H E hr =>
 (zc_ (zA_ (sh:=[.f,.f,.o,.dead,.dead,.dead,.dead]) (um_ (i:=2) sc__law_steps.nd rfl (by first|exact Or.inl rfl|exact Or.inr rfl) (uq_ (u7_ zp_ (by decide +kernel))) rfl (.inl rfl)))
  (zc_ (jc_ (sh:=[.dead,.f,.o,.dead,.dead,.dead,.dead]) PassesOwn.leaving rfl (jJ_ (Y1_ rfl B.enumerate (zd_ (jn_ (zH_ (zh_ hr)) zG_ (ao (av 0)) (ao ze_) (fun _ _=>rfl)) zp_ (za_ rfl)) rfl)) (ZW_ rfl (zU_ (zt_ (i:=3) (Nat.zero_le _) sc__law_steps.nd rfl (by first|exact Or.inl rfl|exact Or.inr rfl) (.inl rfl)) (zU_ (zt_ (i:=4) (Nat.zero_le _) sc__law_steps.nd rfl (by first|exact Or.inl rfl|exact Or.inr rfl) (.inl rfl)) yS_ rfl) rfl) rfl rfl)
  (zc_ (zA_ (sh:=[.dead,.f,.o,.f,.f,.o,.dead]) (um_ (i:=5) sc__law_steps.nd rfl (by first|exact Or.inl rfl|exact Or.inr rfl) (uq_ (ZU_ (yR_ rfl) JQ_ rfl B.list (by decide +kernel) (zj_ (ao (av 1)) zq_ (za_ rfl)) (by decide) (by decide) rfl rfl)) rfl (.inl rfl)))
  (zc_ (jc_ (sh:=[.dead,.f,.o,.f,.f,.o,.dead]) PassesOwn.leaving rfl (jJ_ (ZV_ (uS_ (ao (av 4)) uR_ (uQ_ ze_)))) (zt_ (i:=6) (Nat.zero_le _) sc__law_steps.nd rfl (by first|exact Or.inl rfl|exact Or.inr rfl) (.inl rfl))
  (zg_ (Yd_ (i:=5) rfl (by first|exact Or.inl rfl|exact Or.inr (Or.inl rfl)|exact Or.inr (Or.inr rfl)) (zk_ (av 6)) (zk_ (zE_ zbK_ zbN_ (ao (jn_ (zH_ (zh_ hr)) zG_ (zD_ (i:=5) rfl (by first|exact Or.inl rfl|exact Or.inr (Or.inl rfl)|exact Or.inr (Or.inr rfl))) (ao (av 6)) (fun _ _=>rfl))) (ao ze_))) (fun _=>rfl) rfl rfl rfl)) (fun _=>rfl))
  (zg_ (Ze_ (jT_ (jb_ zan_ zap_ (ao (zy_ (Xr_ rfl) zda_ rfl B.min (by decide +kernel) (zj_ (zD_ (i:=5) rfl (by first|exact Or.inl rfl|exact Or.inr (Or.inl rfl)|exact Or.inr (Or.inr rfl))) zq_ (za_ rfl)) (by decide) (by decide) rfl rfl)) (ao ze_) rfl))
  (zc_ (jc_ (sh:=[.dead,.f,.o,.f,.dead,.o,.dead]) PassesOwn.leaving rfl (jJ_ (ZV_ (uS_ (ao (av 4)) (uQ_ ze_) uR_))) (zt_ (i:=6) (Nat.zero_le _) sc__law_steps.nd rfl (by first|exact Or.inl rfl|exact Or.inr rfl) (.inl rfl))
  (zg_ (Yd_ (i:=5) rfl (by first|exact Or.inl rfl|exact Or.inr (Or.inl rfl)|exact Or.inr (Or.inr rfl)) (zk_ (av 6)) (zk_ (zE_ jx_ uw_ (ao (jn_ (zH_ (zh_ hr)) zG_ (zD_ (i:=5) rfl (by first|exact Or.inl rfl|exact Or.inr (Or.inl rfl)|exact Or.inr (Or.inr rfl))) (ao (av 6)) (fun _ _=>rfl))) (ao ze_))) (fun _=>rfl) rfl rfl rfl)) (fun _=>rfl))
  (zg_ (QF_ (i:=2) rfl (by first|exact Or.inl rfl|exact Or.inr (Or.inl rfl)|exact Or.inr (Or.inr rfl)) (zz_ (zk_ (y4_ (zd_ (av 3) (zd_ (uE_ zT_ uH_ rfl B.tuple (by decide +kernel) (zj_ (zD_ (i:=5) rfl (by first|exact Or.inl rfl|exact Or.inr (Or.inl rfl)|exact Or.inr (Or.inr rfl))) zq_ (za_ rfl)) (by decide) (by decide) rfl rfl) zp_ (za_ rfl)) (za_ rfl)) (by decide +kernel))) zM_ (za_ rfl)) rfl rfl rfl rfl rfl rfl)))
  jp_)))) (fun _=>rfl))
  (zg_ (Ye_ (i:=2) (jd_ (zk_ (av 2))))))))
 (fun ds hl=>match ds,hl with | [gad,gai],_=>by kernel_rfl)
theorem JS_ {f:Addr} {fd:FuncData} (Fn:Fun K "_law_steps" "_law_steps" zR_ f fd) (hmg:mg "_law_steps" = some (.ref f)) (B:BN mg) (Kn:KN mg) (Kx:KX K mg):CF P w K mg base "_law_steps" 1 (spD K 2 jq_) :=
 ⟨f,fd,["_law_rule_here", "_law_crowd_here"],J1_ Fn B Kn Kx,hmg,Fn.kp,(bnd2 Fn fun _ _ _ _ _ _ _ _=>rfl)⟩
noncomputable abbrev z1_:Stmt:=top 22
noncomputable abbrev Jx_:List Str:=["_law_rule_here", "_law_crowd_here", "_law_found", "_law_line", "_law_here"]
theorem sc__law_all:FnScope Jx_ ["_law_rule_here", "_law_crowd_here"] (zb_ z1_):=⟨rfl,rfl,rfl,by decide +kernel,rfl,by decide +kernel,by decide +kernel⟩
noncomputable abbrev N__law_all_0:List Str:=["_law_rule_here", "_law_crowd_here", "_law_found", "_law_line", "_law_here", "_law_number", "_law_later"]
theorem uy_:N__law_all_0.Nodup:=by decide +kernel
noncomputable def yG_ (gaa:D) (gab:List (D×D)) (gaL:List D):M D :=
 .ret (PyData.dict gab)
def jt_ (gaa:D) (gab:List (D×D)) (gaL:List D) (kn1:D×List (D×D)×List D×Unit->M D):M D :=
 bd (oM (opNe (PyData.list gaL) (PyData.list []))) fun b2=>if b2 then
  zbM_ gaL fun x3=>bd (oM (j9_ x3 (PyData.dict gab))) fun b4=>if b4 then
  bd (jR_ gaa x3) fun x5=>bd (oM (dPut true gab x3 x5)) fun l6=>bd (bd (bd (oM (zO_ (PyData.dict l6) x3)) fun x7=>oM (seqD x7)) fun l11=>bd (jY_ (fun d8=>un2 d8 fun y9 y10=>.ret (some y10)) l11) fitM) fun l12=>bd (oM (mExt (List.dropLast gaL) l12)) fun l13=>kn1 (gaa,l6,l13,())
  else
  kn1 (gaa,gab,(List.dropLast gaL),())
  else yG_ gaa gab gaL
noncomputable def uN_ (gad:D) (gai:D):M D :=
 Y5_ (fun s14 kn=>jt_ s14.1 s14.2.1 s14.2.2.1 kn) 10000 (gad,[],[gai],())
noncomputable def ue_:List D->M D:=fun l=>match l with
 | [gad,gai]=>uN_ gad gai
 | _=>.bad
set_option maxHeartbeats 4000000 in
theorem YS_ {f:Addr} {fd:FuncData} (Fn:Fun K "_law_all" "_law_all" z1_ f fd) (B:BN mg) (Kn:KN mg) (Kx:KX K mg) (gaI:CF P w K mg base "_law_steps" 1 (spD K 2 jq_)):FnOk P w K mg base (CX1 P w) 2 f fd ["_law_rule_here", "_law_crowd_here"] (spD K 2 ue_) :=
 uZ_ (k:=1) Fn sc__law_all (fun cdv A outer s H E hr =>
 (zc_ (zA_ (sh:=[.f,.f,.t,.dead,.dead]) (Y0_ true (i:=2) sc__law_all.nd rfl (by first|exact Or.inl rfl|exact Or.inr rfl) rfl (.inl rfl)))
  (zc_ (zA_ (sh:=[.f,.dead,.t,.o,.dead]) (um_ (i:=3) sc__law_all.nd rfl (by first|exact Or.inl rfl|exact Or.inr rfl) (uq_ (u7_ (zd_ (av 1) zp_ (za_ rfl)) (by decide +kernel))) rfl (.inl rfl)))
  (zc_ (Yc_ (sh:=[.f,.dead,.t,.o,.dead]) (fuel:=10000) PassesOwn.leaving (jT_ (jb_ (Ji_ (zh_ hr)) ZE_ (zD_ (i:=3) rfl (by first|exact Or.inl rfl|exact Or.inr (Or.inl rfl)|exact Or.inr (Or.inr rfl))) (ao (ap_z (u7_ zp_ (by decide +kernel)))) rfl))
  (zc_ (zA_ (sh:=[.f,.dead,.t,.o,.f]) (zdP_ (i:=3) (j:=4) rfl (by first|exact Or.inl rfl|exact Or.inr (Or.inl rfl)|exact Or.inr (Or.inr rfl)) sc__law_all.nd rfl (by first|exact Or.inl rfl|exact Or.inr rfl) (by decide) rfl rfl rfl (.inl rfl)))
  (zg_ (Ze_ (jT_ (jb_ (Jh_ (zh_ hr)) UD_ (ao (av 4)) (zD_ (i:=2) rfl (by first|exact Or.inl rfl|exact Or.inr (Or.inl rfl)|exact Or.inr (Or.inr rfl))) rfl))
  (zc_ (zA_ (sh:=[.f,.dead,.t,.o,.f]) (Ug_ (zh_ hr) (i:=2) rfl (by first|exact Or.inl rfl|exact Or.inr (Or.inl rfl)|exact Or.inr (Or.inr rfl)) (zk_ (av 4)) (zk_ (Yf_ gaI (hr.mono (by decide)) rfl (zd_ (av 0) (zd_ (av 4) zp_ (za_ rfl)) (za_ rfl)) rfl (by decide) rfl rfl)) rfl))
  (zg_ (zdQ_ (i:=3) rfl (by first|exact Or.inl rfl|exact Or.inr (Or.inl rfl)|exact Or.inr (Or.inr rfl)) (uq_ (zdW_ (N':=N__law_all_0) (k:=2) rfl (uA_ (N:=Jx_) (sc:=(zb_ z1_)) (by decide +kernel) rfl rfl) (ZV_ (jn_ (zH_ (zh_ hr)) zG_ (zD_ (i:=2) rfl (by first|exact Or.inl rfl|exact Or.inr (Or.inl rfl)|exact Or.inr (Or.inr rfl))) (ao (av 4)) (fun _ _=>rfl))) (fun cl s' H' fp C'=>(ZW_ rfl (zU_ (zt_ (i:=5) (show 5<=5 by decide) uy_ rfl (by first|exact Or.inl rfl|exact Or.inr rfl) (.inr rfl)) (zU_ (zt_ (i:=6) (show 5<=6 by decide) uy_ rfl (by first|exact Or.inl rfl|exact Or.inr rfl) (.inr rfl)) yS_ rfl) rfl) rfl rfl)) (fun cl s' H' fp C'=>Ud_) (fun cl s' H' fp C'=>(av 6)) (fun _=>rfl))) rfl rfl rfl rfl rfl rfl)))
  jp_))))
  (zg_ (Ye_ (i:=2) (jd_ (zk_ (av 2)))))))))
 (fun ds hl=>match ds,hl with | [gad,gai],_=>by kernel_rfl)
theorem Yy_ {f:Addr} {fd:FuncData} (Fn:Fun K "_law_all" "_law_all" z1_ f fd) (hmg:mg "_law_all" = some (.ref f)) (B:BN mg) (Kn:KN mg) (Kx:KX K mg) (gaI:CF P w K mg base "_law_steps" 1 (spD K 2 jq_)):CF P w K mg base "_law_all" 2 (spD K 2 ue_) :=
 ⟨f,fd,["_law_rule_here", "_law_crowd_here"],YS_ Fn B Kn Kx gaI,hmg,Fn.kp,(bnd2 Fn fun _ _ _ _ _ _ _ _=>rfl)⟩
noncomputable abbrev zI_:Stmt:=top 23
noncomputable abbrev y6_:List Str:=["_law_feed_here", "_law_rule_here", "_law_most", "_law_found", "_law_hand", "_law_room"]
theorem sc__law_crowd:FnScope y6_ ["_law_feed_here", "_law_rule_here", "_law_most"] (zb_ zI_):=⟨rfl,rfl,rfl,by decide +kernel,rfl,by decide +kernel,by decide +kernel⟩
noncomputable abbrev N__law_crowd_0:List Str:=["_law_feed_here", "_law_rule_here", "_law_most", "_law_found", "_law_hand", "_law_room ", "_law_room"]
theorem yK_:N__law_crowd_0.Nodup:=by decide +kernel
def uD_ (gae:List D) (gaa:D) (gab:List D):M (D×List D) :=
 bd (oM (u0_ [(PyData.list gab)])) fun x8=>.ret (x8,gae)
def uC_ (gae:List D) (gaa:D) (gab:List D) (d_:D) (kn9:List D×D×List D×Unit->M (D×List D)):M (D×List D) :=
 bd (oM (zO_ gaa (.int 0))) fun x10=>bd (zm_ gae x10) fun r11=>bd (bd (oM (zO_ (PyData.list gab) r11.1)) fun x12=>oM (ua_ x12 (.int 1))) fun x13=>bd (oM (putD gab r11.1 x13)) fun l14=>kn9 (r11.2,gaa,l14,())
def jS_ (gag:List D) (gad:D) (gaB:D):M (D×List D) :=
 bd (bd (bd (oM (zO_ gad (.int 0))) fun x1=>oM (zZ_ [x1])) fun l3=>bd (jY_ (fun d2=>.ret (some (.int 0))) l3) fitM) fun l4=>bd (zm_ gag gaB) fun r5=>bd (oM (ua_ (.int 1) r5.1)) fun x6=>bd (oM (zZ_ [x6])) fun l7=>forS (fun s15 d16 kn=>uC_ s15.1 s15.2.1 s15.2.2.1 d16 kn) l7 (r5.2,gad,l4,()) (fun s15=>uD_ s15.1 s15.2.1 s15.2.2.1)
noncomputable def jr_:List D->List D->M (D×List D):=fun gag l=>match l with
 | [gad,gaB]=>jS_ gag gad gaB
 | _=>.bad
set_option maxHeartbeats 4000000 in
theorem J2_ {f:Addr} {fd:FuncData} (Fn:Fun K "_law_crowd" "_law_crowd" zI_ f fd) (B:BN mg) (Kn:KN mg) (Kx:KX K mg) (gah:CF P w K mg base "_law_draw" 1 (sp1 K 2 z2_)):FnOk P w K mg base (CX1 P w) 2 f fd ["_law_feed_here", "_law_rule_here", "_law_most"] (sp1 K 3 jr_) :=
 W4_ (k:=1) Fn sc__law_crowd (fun cdv A outer s H E hr =>
 (zc_ (zA_ (sh:=[.p,.f,.f,.o,.dead,.dead]) (YZ_ (i:=3) sc__law_crowd.nd rfl (by first|exact Or.inl rfl|exact Or.inr rfl) (.inl rfl) (N':=N__law_crowd_0) (k:=1) rfl (uA_ (N:=y6_) (sc:=(zb_ zI_)) (by decide +kernel) rfl rfl) (j4_ rfl B.range (zd_ (jn_ (zH_ (zh_ hr)) zG_ (ao (av 1)) (ao ze_) (fun _ _=>rfl)) zp_ (za_ rfl)) rfl) (fun cl s' H' fp C'=>(zt_ (i:=6) (show 6<=6 by decide) yK_ rfl (by first|exact Or.inl rfl|exact Or.inr rfl) (.inr rfl))) (fun cl s' H' fp C'=>Ud_) (fun cl s' H' fp C'=>ze_) rfl (fun _=>rfl)))
  (zc_ (jc_ (sh:=[.p,.f,.dead,.o,.dead,.dead]) PassesOwn.leaving rfl (Vy_ rfl B.range (zz_ (XN_ jx_ uw_ (zk_ ze_) (ur_ (i:=0) gah (hr.mono (by decide)) rfl rfl (by first|exact Or.inl rfl|exact Or.inr (Or.inl rfl)|exact Or.inr (Or.inr rfl)) (zz_ (zk_ (av 2)) zM_ (za_ rfl)) rfl (by decide) rfl rfl)) zM_ (za_ rfl)) rfl) (zt_ (i:=4) (Nat.zero_le _) sc__law_crowd.nd rfl (by first|exact Or.inl rfl|exact Or.inr rfl) (.inl rfl))
  (zc_ (zA_ (sh:=[.p,.f,.dead,.o,.dead,.f]) (zJ_ (i:=5) sc__law_crowd.nd rfl (by first|exact Or.inl rfl|exact Or.inr rfl) (ur_ (i:=0) gah (hr.mono (by decide)) rfl rfl (by first|exact Or.inl rfl|exact Or.inr (Or.inl rfl)|exact Or.inr (Or.inr rfl)) (zz_ (zk_ (jn_ (zH_ (zh_ hr)) zG_ (ao (av 1)) (ao ze_) (fun _ _=>rfl))) zM_ (za_ rfl)) rfl (by decide) rfl rfl) rfl (.inl rfl)))
  (zg_ (Yd_ (i:=3) rfl (by first|exact Or.inl rfl|exact Or.inr (Or.inl rfl)|exact Or.inr (Or.inr rfl)) (zk_ (av 5)) (zk_ (zE_ jx_ uw_ (ao (jn_ (zH_ (zh_ hr)) zG_ (zD_ (i:=3) rfl (by first|exact Or.inl rfl|exact Or.inr (Or.inl rfl)|exact Or.inr (Or.inr rfl))) (ao (av 5)) (fun _ _=>rfl))) (ao ze_))) (fun _=>rfl) rfl rfl rfl))) (fun _=>rfl))
  (zg_ (jd_ (zk_ (uE_ zT_ uH_ rfl B.tuple (by decide +kernel) (zj_ (zD_ (i:=3) rfl (by first|exact Or.inl rfl|exact Or.inr (Or.inl rfl)|exact Or.inr (Or.inr rfl))) zq_ (za_ rfl)) (by decide) (by decide) rfl rfl)))))))
 (fun g ds hl=>match ds,hl with | [gad,gaB],_=>by kernel_rfl)
theorem JT_ {f:Addr} {fd:FuncData} (Fn:Fun K "_law_crowd" "_law_crowd" zI_ f fd) (hmg:mg "_law_crowd" = some (.ref f)) (B:BN mg) (Kn:KN mg) (Kx:KX K mg) (gah:CF P w K mg base "_law_draw" 1 (sp1 K 2 z2_)):CF P w K mg base "_law_crowd" 2 (sp1 K 3 jr_) :=
 ⟨f,fd,["_law_feed_here", "_law_rule_here", "_law_most"],J2_ Fn B Kn Kx gah,hmg,Fn.kp,(bnd3 Fn fun _ _ _ _ _ _ _ _ _=>rfl)⟩
noncomputable abbrev jg_:Stmt:=top 25
noncomputable abbrev VB_:List Str:=["_law_things", "_law_rule_here", "_law_crowd_here", "_law_limit"]
theorem sc__law_ask:FnScope VB_ ["_law_things"] (zb_ jg_):=⟨rfl,rfl,rfl,by decide +kernel,rfl,by decide +kernel,by decide +kernel⟩
def jw_ (gap:D):M D :=
 un3 gap fun y1 y2 y3=>bd (bd (u3_ y1 y2 y3) fun l4=>.ret (PyData.list l4)) fun x5=>.ret x5
noncomputable def ud_:List D->M D:=fun l=>match l with
 | [gap]=>jw_ gap
 | _=>.bad
set_option maxHeartbeats 4000000 in
theorem YR_ {f:Addr} {fd:FuncData} (Fn:Fun K "_law_ask" "_law_ask" jg_ f fd) (B:BN mg) (Kn:KN mg) (Kx:KX K mg) (gbb:CF P w K mg base "come" 4 (spL K 3 jy_)) (D_come:CFd P w K mg base "come" 4 (spL K 3 jy_) 1000):FnOk P w K mg base (CX1 P w) 5 f fd ["_law_things"] (spD K 1 ud_) :=
 uZ_ (k:=4) Fn sc__law_ask (fun cdv A outer s H E hr =>
 (zc_ (zA_ (sh:=[.dead,.f,.f,.f]) (zgw_ (zk_ (av 0)) (zdX_ rfl (zU_ (zt_ (i:=1) (Nat.zero_le _) sc__law_ask.nd rfl (by first|exact Or.inl rfl|exact Or.inr rfl) (.inl rfl)) (zU_ (zt_ (i:=2) (Nat.zero_le _) sc__law_ask.nd rfl (by first|exact Or.inl rfl|exact Or.inr rfl) (.inl rfl)) (zU_ (zt_ (i:=3) (Nat.zero_le _) sc__law_ask.nd rfl (by first|exact Or.inl rfl|exact Or.inr rfl) (.inl rfl)) yS_ rfl) rfl) rfl) rfl rfl) rfl rfl rfl))
  (zg_ (jd_ (zk_ (ap_z (zdV_ gbb (hr.mono (by decide)) rfl (zd_ (av 1) (zd_ (av 2) (zd_ (av 3) zp_ (za_ rfl)) (za_ rfl)) (za_ rfl)) rfl (by decide) rfl rfl)))))))
 (fun ds hl=>match ds,hl with | [gap],_=>by kernel_rfl)
theorem Yx_ {f:Addr} {fd:FuncData} (Fn:Fun K "_law_ask" "_law_ask" jg_ f fd) (hmg:mg "_law_ask" = some (.ref f)) (B:BN mg) (Kn:KN mg) (Kx:KX K mg) (gbb:CF P w K mg base "come" 4 (spL K 3 jy_)) (D_come:CFd P w K mg base "come" 4 (spL K 3 jy_) 1000):CF P w K mg base "_law_ask" 5 (spD K 1 ud_) :=
 ⟨f,fd,["_law_things"],YR_ Fn B Kn Kx gbb D_come,hmg,Fn.kp,(bnd1 Fn fun _ _ _ _ _ _ _=>rfl)⟩
noncomputable abbrev zB_:Stmt:=top 24
noncomputable abbrev ZX_:List Str:=["_law_ask_here", "_law_things", "_law_found", "e", "_law_strange"]
theorem sc__law_too_many:FnScope ZX_ ["_law_ask_here", "_law_things"] (zb_ zB_):=⟨rfl,rfl,rfl,by decide +kernel,rfl,by decide +kernel,by decide +kernel⟩
noncomputable def jQ_ (gab:D):M D :=
 .ret gab
def zS_ (gaH:D) (gap:D):M D :=
 tryE (A:=D×Unit) (B:=Unit) (onX (fun e_=>.ret (.inr (e_,(())))) (onFn gaH "_law_ask" (jw_ gap)) fun x1=>.ret (.inl ((.bool false),()))) (fun s4=>jQ_ s4.1) (fun e2 s3=>Q3_ ["TooMany"] e2.cls (onX (fun _=>.bad) (bd (oM (y2_ [("TooMany",false)] (encX e2))) fun b5=>.ret (.bool b5)) fun x6=>onX (fun _=>.bad) (bd (bd (oM (y2_ [("TooMany",true)] (encX e2))) fun b9=>if b9 then bd (oM (y2_ [("TooMany",true)] (encX e2))) fun b8=>if b8 then bd (oM (truD x6)) fun b7=>.ret (!b7) else .ret false else .ret false) fun b10=>.ret (.bool b10)) fun x11=>jQ_ x11))
noncomputable def zW_:List D->M D:=fun l=>match l with
 | [gaH,gap]=>zS_ gaH gap
 | _=>.bad
set_option maxHeartbeats 4000000 in
theorem Zd_ {f:Addr} {fd:FuncData} (Fn:Fun K "_law_too_many" "_law_too_many" zB_ f fd) (B:BN mg) (Kn:KN mg) (Kx:KX K mg) (gaR:CF P w K mg base "_law_ask" 5 (spD K 1 ud_)):FnOk P w K mg base (CX1 P w) 6 f fd ["_law_ask_here", "_law_things"] (spD K 2 zW_) :=
 uZ_ (k:=5) Fn sc__law_too_many (fun cdv A outer s H E hr =>
 (zc_ (zA_ (sh:=[.f,.f,.f,.dead,.dead]) (zJ_ (i:=2) sc__law_too_many.nd rfl (by first|exact Or.inl rfl|exact Or.inr rfl) (zk_ Yg_) rfl (.inl rfl)))
  (zc_ (zA_ (sh:=[.dead,.dead,.f,.dead,.dead]) (zdO_ (j:=3) (sh:=[.dead,.dead,.f,.dead,.dead]) (shx:=[.dead,.dead,.dead,.dead,.dead]) Kx.h_PassError rfl (fun _ _=>(zg_ (zdR_ (zk_ (zgz_ (i:=0) (f := "_law_ask") gaR (hr.mono (by decide)) rfl (by first|exact Or.inl rfl|exact Or.inr (Or.inl rfl)|exact Or.inr (Or.inr rfl)) (zd_ (av 1) zp_ (za_ rfl)) rfl rfl rfl)) rfl))) (fun _=>(zc_ (zA_ (sh:=[.dead,.dead,.dead,.f,.f]) (zJ_ (i:=4) sc__law_too_many.nd rfl (by first|exact Or.inl rfl|exact Or.inr rfl) (zk_ (ap_b (XO_ Kx.t_NoCrowd_NoLine_NoMeeting_NoPaper_NoRule_NoText (.cons rfl (by decide) (za_ rfl) (.cons rfl (by decide) (za_ rfl) (.cons rfl (by decide) (za_ rfl) (.cons rfl (by decide) (za_ rfl) (.cons rfl (by decide) (za_ rfl) (.cons rfl (by decide) (za_ rfl) .nil)))))) (by decide) B.isinstance rfl (av 3) rfl rfl rfl))) rfl (.inl rfl)))
  (zg_ (zJ_ (i:=2) sc__law_too_many.nd rfl (by first|exact Or.inl rfl|exact Or.inr rfl) (zk_ (ap_b (XQ_ (zbp_ Kx.i_TooMany rfl B.isinstance rfl (av 3) rfl rfl rfl (by decide)) (XQ_ (zbn_ Kx.i_ValueError rfl B.ValueError (by decide +kernel) B.isinstance rfl (av 3) rfl rfl rfl (by decide) (by decide)) (zcg_ (zed_ (ao (av 4)))))))) rfl (.inl rfl))))) (by decide) sc__law_too_many.nd rfl rfl rfl rfl (by decide)))
  (zg_ (jd_ (zk_ (av 2)))))))
 (fun ds hl=>match ds,hl with | [gaH,gap],_=>by kernel_rfl)
theorem y9_ {f:Addr} {fd:FuncData} (Fn:Fun K "_law_too_many" "_law_too_many" zB_ f fd) (hmg:mg "_law_too_many" = some (.ref f)) (B:BN mg) (Kn:KN mg) (Kx:KX K mg) (gaR:CF P w K mg base "_law_ask" 5 (spD K 1 ud_)):CF P w K mg base "_law_too_many" 6 (spD K 2 zW_) :=
 ⟨f,fd,["_law_ask_here", "_law_things"],Zd_ Fn B Kn Kx gaR,hmg,Fn.kp,(bnd2 Fn fun _ _ _ _ _ _ _ _=>rfl)⟩
noncomputable abbrev ZY_:Stmt:=top 26
noncomputable abbrev zhJ_:List Str:=["_law_script", "_law_k", "_law_feed_here", "_law_rule_here", "_law_turn", "_law_crowd_here", "_law_wrote", "_law_due", "_law_found"]
theorem sc_law:FnScope zhJ_ ["_law_script"] (zb_ ZY_):=⟨rfl,rfl,rfl,by decide +kernel,rfl,by decide +kernel,by decide +kernel⟩
noncomputable def zbf_ (gax:D):M D :=
 .ret (.bool true)
noncomputable def QC_ (kn2:D×Unit->M D) (gax:D) (gbL:D) (gae:List D) (gaa:D):M D :=
 kn2 (gax,())
def Uc_ (kn2:D×Unit->M D) (gax:D) (gbL:D) (gae:List D) (gaa:D) (d_:D) (kn8:D×D×List D×D×Unit->M D):M D :=
 bd (bd (oM (y8_ gbL (.int 5))) fun b9=>if b9 then .ret (.int 5) else .ret (.int 60)) fun x10=>bd (jS_ gae gaa x10) fun r11=>bd (oM (yN_ [(.tuple [gaa,r11.1])])) fun x12=>bd (bd (bd (uN_ gaa r11.1) fun x13=>oM (u1_ [x13])) fun l14=>.ret (PyData.list l14)) fun x15=>bd (u3_ gaa r11.1 (.int 1000)) fun l16=>bd (bd (oM (yN_ [(PyData.list l16)])) fun x17=>bd (oM (yN_ [x15])) fun x18=>oM (opNe x17 x18)) fun b19=>if b19 then
  .ret (.bool false)
  else
  bd (oM (mClr l16 [])) fun l20=>bd (bd (bd (bd (bd (u3_ gaa r11.1 (.int 1000)) fun l21=>.ret (PyData.list l21)) fun x22=>oM (yN_ [x22])) fun x23=>bd (oM (yN_ [x15])) fun x24=>oM (opNe x23 x24)) fun b30=>if b30 then .ret true else bd (bd (bd (bd (oM (fLen [x15])) fun x25=>u3_ gaa r11.1 x25) fun l26=>.ret (PyData.list l26)) fun x27=>oM (yN_ [x27])) fun x28=>bd (oM (yN_ [x15])) fun x29=>oM (opNe x28 x29)) fun b31=>if b31 then
  .ret (.bool false)
  else
  bd (bd (bd (oM (fLen [x15])) fun x32=>oM (opGt x32 (.int 1))) fun b38=>if b38 then bd (bd (bd (bd (bd (oM (fLen [x15])) fun x33=>oM (Yt_ x33 (.int 1))) fun x34=>.ret (.tuple [gaa,r11.1,x34])) fun x35=>zS_ (fnD "_law_ask") x35) fun x36=>oM (truD x36)) fun b37=>.ret (!b37) else .ret false) fun b39=>if b39 then
  .ret (.bool false)
  else
  bd (bd (oM (yN_ [(.tuple [gaa,r11.1])])) fun x40=>oM (opNe x40 x12)) fun b41=>if b41 then
  .ret (.bool false)
  else
  kn8 (gax,gbL,r11.2,gaa,())
def Zq_ (gax:D) (d_:D) (kn2:D×Unit->M D):M D :=
 bd (ul_ gax d_) fun l3=>bd (bd (oM (y8_ d_ (.int 5))) fun b4=>if b4 then .ret (.int 5) else .ret (.int 2)) fun x5=>bd (uk_ l3 x5) fun r6=>bd (oM (zZ_ [(.int 2)])) fun l7=>forS (fun s42 d43 kn=>Uc_ kn2 s42.1 s42.2.1 s42.2.2.1 s42.2.2.2.1 d43 kn) l7 (gax,d_,r6.2,r6.1,()) (fun s42=>QC_ kn2 s42.1 s42.2.1 s42.2.2.1 s42.2.2.2.1)
def zbg_ (gaj:D):M D :=
 bd (oM (zZ_ [(.int 6)])) fun l1=>forS (fun s44 d45 kn=>Zq_ s44.1 d45 kn) l1 (gaj,()) (fun s44=>zbf_ s44.1)
noncomputable def UI_:List D->M D:=fun l=>match l with
 | [gaj]=>zbg_ gaj
 | _=>.bad
set_option maxHeartbeats 4000000 in
theorem zbW_ {f:Addr} {fd:FuncData} (Fn:Fun K "law" "law" ZY_ f fd) (B:BN mg) (Kn:KN mg) (Kx:KX K mg) (gaN:CF P w K mg base "_law_feed" 1 (spL K 2 jN_)) (gaO:CF P w K mg base "_law_rule" 2 (sp1 K 2 jM_)) (gaJ:CF P w K mg base "_law_crowd" 2 (sp1 K 3 jr_)) (gbb:CF P w K mg base "come" 4 (spL K 3 jy_)) (gaS:CF P w K mg base "_law_all" 2 (spD K 2 ue_)) (gay:CF P w K mg base "_law_too_many" 6 (spD K 2 zW_)) (D_come:CFd P w K mg base "come" 4 (spL K 3 jy_) 1000):FnOk P w K mg base (CX1 P w) 7 f fd ["_law_script"] (spD K 1 UI_) :=
 uZ_ (k:=6) Fn sc_law (fun cdv A outer s H E hr =>
 (zc_ (jc_ (sh:=[.f,.dead,.dead,.dead,.dead,.dead,.dead,.dead,.dead]) PassesOwn.leaving rfl (jJ_ (j4_ rfl B.range (zd_ ze_ zp_ (za_ rfl)) rfl)) (zt_ (i:=1) (Nat.zero_le _) sc_law.nd rfl (by first|exact Or.inl rfl|exact Or.inr rfl) (.inl rfl))
  (zc_ (zA_ (sh:=[.f,.f,.o,.dead,.dead,.dead,.dead,.dead,.dead]) (um_ (i:=2) sc_law.nd rfl (by first|exact Or.inl rfl|exact Or.inr rfl) (uq_ (zdV_ gaN (hr.mono (by decide)) rfl (zd_ (av 0) (zd_ (av 1) zp_ (za_ rfl)) (za_ rfl)) rfl (by decide) rfl rfl)) rfl (.inl rfl)))
  (zc_ (zA_ (sh:=[.f,.f,.o,.f,.dead,.dead,.dead,.dead,.dead]) (zJ_ (i:=3) sc_law.nd rfl (by first|exact Or.inl rfl|exact Or.inr rfl) (ur_ (i:=2) gaO (hr.mono (by decide)) rfl rfl (by first|exact Or.inl rfl|exact Or.inr (Or.inl rfl)|exact Or.inr (Or.inr rfl)) (zz_ (zk_ (zdU_ (jb_ (Wg_ (zh_ hr)) Wj_ (ao (av 1)) (ao ze_) rfl) ze_ ze_)) zM_ (za_ rfl)) rfl (by decide) rfl rfl) rfl (.inl rfl)))
  (zg_ (jc_ (sh:=[.f,.f,.o,.f,.dead,.dead,.dead,.dead,.dead]) PassesOwn.leaving rfl (jJ_ (j4_ rfl B.range (zd_ ze_ zp_ (za_ rfl)) rfl)) (zt_ (i:=4) (Nat.zero_le _) sc_law.nd rfl (by first|exact Or.inl rfl|exact Or.inr rfl) (.inl rfl))
  (zc_ (zA_ (sh:=[.f,.f,.o,.f,.dead,.f,.dead,.dead,.dead]) (zJ_ (i:=5) sc_law.nd rfl (by first|exact Or.inl rfl|exact Or.inr rfl) (ur_ (i:=2) gaJ (hr.mono (by decide)) rfl rfl (by first|exact Or.inl rfl|exact Or.inr (Or.inl rfl)|exact Or.inr (Or.inr rfl)) (zz_ (zk_ (av 3)) (zz_ (zk_ (zdU_ (jb_ (Wg_ (zh_ hr)) Wj_ (ao (av 1)) (ao ze_) rfl) ze_ ze_)) zM_ (za_ rfl)) (za_ rfl)) rfl (by decide) rfl rfl) rfl (.inl rfl)))
  (zc_ (zA_ (sh:=[.f,.f,.o,.f,.dead,.f,.f,.dead,.dead]) (zJ_ (i:=6) sc_law.nd rfl (by first|exact Or.inl rfl|exact Or.inr rfl) (zk_ (zy_ (jl_ (zh_ hr) hr.gd) uv_ rfl B.repr (by decide +kernel) (zj_ (ao (y4_ (zd_ (av 3) (zd_ (av 5) zp_ (za_ rfl)) (za_ rfl)) (by decide +kernel))) zq_ (za_ rfl)) (by decide) (by decide) rfl rfl)) rfl (.inl rfl)))
  (zc_ (zA_ (sh:=[.f,.f,.o,.f,.dead,.f,.f,.f,.dead]) (zJ_ (i:=7) sc_law.nd rfl (by first|exact Or.inl rfl|exact Or.inr rfl) (zk_ (ap_z (Uh_ (yQ_ rfl) JP_ rfl B.sorted (by decide +kernel) (zj_ (ao (Yf_ gaS (hr.mono (by decide)) rfl (zd_ (av 3) (zd_ (av 5) zp_ (za_ rfl)) (za_ rfl)) rfl (by decide) rfl rfl)) zq_ (za_ rfl)) (by decide) (by decide) rfl rfl))) rfl (.inl rfl)))
  (zc_ (zA_ (sh:=[.f,.f,.o,.f,.dead,.f,.f,.f,.o]) (um_ (i:=8) sc_law.nd rfl (by first|exact Or.inl rfl|exact Or.inr rfl) (uq_ (zce_ D_come (hr.mono (by decide)) rfl (zd_ (av 3) (zd_ (av 5) zp_ (za_ rfl)) (za_ rfl)) rfl (by decide) rfl rfl)) rfl (.inl rfl)))
  (zc_ (Ze_ (jT_ (jb_ (Ji_ (zh_ hr)) ZE_ (ao (zy_ (jl_ (zh_ hr) hr.gd) uv_ rfl B.repr (by decide +kernel) (zj_ (zD_ (i:=8) rfl (by first|exact Or.inl rfl|exact Or.inr (Or.inl rfl)|exact Or.inr (Or.inr rfl))) zq_ (za_ rfl)) (by decide) (by decide) rfl rfl)) (ao (zy_ (jl_ (zh_ hr) hr.gd) uv_ rfl B.repr (by decide +kernel) (zj_ (ao (av 7)) zq_ (za_ rfl)) (by decide) (by decide) rfl rfl)) rfl))
  (zg_ (jd_ (zk_ Yg_)))
  jp_)
  (zc_ (zA_ (sh:=[.f,.f,.o,.f,.dead,.f,.f,.f,.dead]) (zbi_ (i:=8) rfl (by first|exact Or.inl rfl|exact Or.inr (Or.inl rfl)|exact Or.inr (Or.inr rfl)) rfl rfl rfl))
  (zc_ (Ze_ (jT_ (zdN_ (zhG_ (jb_ (Ji_ (zh_ hr)) ZE_ (ao (zy_ (jl_ (zh_ hr) hr.gd) uv_ rfl B.repr (by decide +kernel) (zj_ (ao (ap_z (zce_ D_come (hr.mono (by decide)) rfl (zd_ (av 3) (zd_ (av 5) zp_ (za_ rfl)) (za_ rfl)) rfl (by decide) rfl rfl))) zq_ (za_ rfl)) (by decide) (by decide) rfl rfl)) (ao (zy_ (jl_ (zh_ hr) hr.gd) uv_ rfl B.repr (by decide +kernel) (zj_ (ao (av 7)) zq_ (za_ rfl)) (by decide) (by decide) rfl rfl)) rfl) (zgr_ (jb_ (Ji_ (zh_ hr)) ZE_ (ao (zy_ (jl_ (zh_ hr) hr.gd) uv_ rfl B.repr (by decide +kernel) (zj_ (ao (ap_z (zdV_ gbb (hr.mono (by decide)) rfl (zd_ (av 3) (zd_ (av 5) (zd_ (zy_ ja_ yq_ rfl B.len PySem.boot_len (zj_ (ao (av 7)) zq_ (za_ rfl)) (by decide) (by decide) rfl rfl) zp_ (za_ rfl)) (za_ rfl)) (za_ rfl)) rfl (by decide) rfl rfl))) zq_ (za_ rfl)) (by decide) (by decide) rfl rfl)) (ao (zy_ (jl_ (zh_ hr) hr.gd) uv_ rfl B.repr (by decide +kernel) (zj_ (ao (av 7)) zq_ (za_ rfl)) (by decide) (by decide) rfl rfl)) rfl)))))
  (zg_ (jd_ (zk_ Yg_)))
  jp_)
  (zc_ (Ze_ (jT_ (zdN_ (zcb_ (jb_ Wh_ Wm_ (ao (zy_ ja_ yq_ rfl B.len PySem.boot_len (zj_ (ao (av 7)) zq_ (za_ rfl)) (by decide) (by decide) rfl rfl)) (ao ze_) rfl) (XD_ (zgs_ (zcc_ (ao (Yf_ gay (hr.mono (by decide)) rfl (zd_ (zbj_ Kx.f_law_ask rfl (by decide)) (zd_ (y4_ (zd_ (av 3) (zd_ (av 5) (zd_ (zE_ zbK_ zbN_ (ao (zy_ ja_ yq_ rfl B.len PySem.boot_len (zj_ (ao (av 7)) zq_ (za_ rfl)) (by decide) (by decide) rfl rfl)) (ao ze_)) zp_ (za_ rfl)) (za_ rfl)) (za_ rfl)) (by decide +kernel)) zp_ (za_ rfl)) (za_ rfl)) rfl (by decide) rfl rfl)) (fun _=>rfl)))))))
  (zg_ (jd_ (zk_ Yg_)))
  jp_)
  (zg_ (Ze_ (jT_ (jb_ (Ji_ (zh_ hr)) ZE_ (ao (zy_ (jl_ (zh_ hr) hr.gd) uv_ rfl B.repr (by decide +kernel) (zj_ (ao (y4_ (zd_ (av 3) (zd_ (av 5) zp_ (za_ rfl)) (za_ rfl)) (by decide +kernel))) zq_ (za_ rfl)) (by decide) (by decide) rfl rfl)) (ao (av 6)) rfl))
  (zg_ (jd_ (zk_ Yg_)))
  jp_)))))))))) (fun _=>rfl))))) (fun _=>rfl))
  (zg_ (jd_ (zk_ Yg_)))))
 (fun ds hl=>match ds,hl with | [gaj],_=>by kernel_rfl)
theorem zhL_ {f:Addr} {fd:FuncData} (Fn:Fun K "law" "law" ZY_ f fd) (hmg:mg "law" = some (.ref f)) (B:BN mg) (Kn:KN mg) (Kx:KX K mg) (gaN:CF P w K mg base "_law_feed" 1 (spL K 2 jN_)) (gaO:CF P w K mg base "_law_rule" 2 (sp1 K 2 jM_)) (gaJ:CF P w K mg base "_law_crowd" 2 (sp1 K 3 jr_)) (gbb:CF P w K mg base "come" 4 (spL K 3 jy_)) (gaS:CF P w K mg base "_law_all" 2 (spD K 2 ue_)) (gay:CF P w K mg base "_law_too_many" 6 (spD K 2 zW_)) (D_come:CFd P w K mg base "come" 4 (spL K 3 jy_) 1000):CF P w K mg base "law" 7 (spD K 1 UI_) :=
 ⟨f,fd,["_law_script"],zbW_ Fn B Kn Kx gaN gaO gaJ gbb gaS gay D_come,hmg,Fn.kp,(bnd1 Fn fun _ _ _ _ _ _ _=>rfl)⟩
end
end
end K30
namespace L4
open PySem PySem.Spec PyProof.Rows L2 L3
theorem bdR {S T:Type} (s:S) (k:S->M T):bd (.ret s) k=k s:=id rfl
theorem oMS {S:Type} (s:S):oM (some s)=.ret s:=id rfl
theorem W0_ {S T:Type} {step:T->D->(T->M S)->M S} {R:M S} {P:Nat->T->Prop}:∀ (ds:List D) (i:Nat) (s:T) (k:T->M S),
  (∀ (j:Nat) (s:T) (d:D),d∈ds->i<=j->j<i+ds.length->P j s->∀ kn:T->M S,(∀ s',P (j+1) s'->kn s'=R)->step s d kn=R) ->
  P i s->(∀ s',P (i+ds.length) s'->k s'=R)->forC step ds s k=R
 | [],i,s,k,_,hp,hk=>hk s hp
 | d::r,i,s,k,h,hp,hk=>by
  show step s d _=R
  refine h i s d List.mem_cons_self (Nat.le_refl _) (by simp) hp _ fun s' hp'=>?_
  refine W0_ r (i+1) s' k (fun j s d hd hj hl=>h j s d (List.mem_cons_of_mem _ hd) (by lia) (by simp;lia)) hp' fun s' hs=>hk s' ?_
  have:i+(d::r).length=i+1+r.length:=by simp;lia
  rw [this];exact hs
theorem WZ_ {S T:Type} {step:T->D->(T->M S)->M S} {R:M S} {P:Nat->T->Prop} (ds:List D) (i:Nat) (s:T) (k:T->M S)
  (h:∀ (j:Nat) (s:T) (d:D),d∈ds->i<=j->j<i+ds.length->P j s->∀ kn:T->M S,(∀ s',P (j+1) s'->kn s'=R)->step s d kn=R)
  (hp:P i s) (hk:∀ s',P (i+ds.length) s'->k s'=R):forS step ds s k=R:=by
 rw [uz_]
 exact W0_ ds i s k h hp hk
theorem J3_ {S:Type} {ds:List S} (h:ds.length<=1000):fitM ds=.ret ds:=if_pos (Qo_ h)
theorem Ue_ {α:Type} (xs:List α) (i:Nat) (h:i<xs.length):atI xs (i:Int)=some (xs[i]'h):=by
 unfold atI ixN
 rw [if_pos (Int.natCast_nonneg _),if_pos (by lia)]
 simp [h]
theorem zgt_ {α:Type} (xs:List α) (i:Int) (h0:0<=i) (h:i<xs.length):∃ x∈xs,atI xs i=some x:=by
 obtain ⟨n,rfl⟩:=Int.eq_ofNat_of_zero_le h0
 exact ⟨_,List.getElem_mem _,Ue_ xs n (by lia)⟩
noncomputable def Z3_ (s:Str):Bool:=PyData.strOk s&&decide ((reprText s).length<=24)&&PyData.strOk (reprText s)
noncomputable def Ok (k:Nat):Nat->D->Prop
 | 0,_=>False
 | _+1,.none=>True
 | _+1,.bool _=>True
 | _+1,.int i=>i.natAbs<10^(16+k)
 | _+1,.str s=>Z3_ s=true
 | n+1,.list ds=>ds.length<=6+k/\∀ d∈ds,Ok k n d
 | n+1,.tuple ds=>ds.length<=6+k/\∀ d∈ds,Ok k n d
 | _+1,.dict _=>False
theorem YD_:∀ {ds:List D},(∀ d∈ds,d.canLay0=true)->PyData.canLayAll0 ds=true
 | [],_=>by simp [PyData.canLayAll0]
 | d::r,h=>by
  simp only [PyData.canLayAll0,Bool.and_eq_true]
  exact ⟨h d List.mem_cons_self,YD_ fun e he=>h e (List.mem_cons_of_mem _ he)⟩
theorem J6_ {n:Nat}:∀ {ds:List D},(∀ d∈ds,d.depth<=n)->PyData.depthAll ds<=n
 | [],_=>by simp [PyData.depthAll]
 | d::r,h=>by
  simp only [PyData.depthAll]
  exact Nat.max_le.mpr ⟨h d List.mem_cons_self,J6_ fun e he=>h e (List.mem_cons_of_mem _ he)⟩
theorem zfy_ {m:Nat} (h:m<10^36):m.log2<1920:=by
 by_cases h0:m=0
 ·subst h0;decide
 ·exact (Nat.log2_lt h0).mpr (Nat.lt_of_lt_of_le h (by decide +kernel))
theorem strOk_iff {s:Str}:PyData.strOk s=true↔∀ c∈s.cps.toList,c<1114112:=by
 unfold PyData.strOk
 rw [<-Array.all_toList,List.all_eq_true]
 simp
theorem z6_ (s:String):PyData.strOk (Str.ofString s)=true:=by
 rw [strOk_iff,signs_ofString]
 intro c hc
 obtain ⟨ch,_,rfl⟩:=List.mem_map.mp hc
 have:=ch.valid
 have e:ch.toNat=ch.val.toNat:=rfl
 rw [e]
 rcases this with h|⟨_,h⟩
 ·have h':ch.val.toNat<0xd800:=h
  lia
 ·have h':ch.val.toNat<0x110000:=h
  lia
theorem ym_ {a b:Str} (ha:PyData.strOk a=true) (hb:PyData.strOk b=true):PyData.strOk (a++b)=true:=by
 rw [strOk_iff] at *
 intro c hc
 rcases mem_cps_append.mp hc with h|h
 ·exact ha c h
 ·exact hb c h
theorem Z6_ {sep:Str} {ts:List Str} (hs:PyData.strOk sep=true) (h:∀ t∈ts,PyData.strOk t=true):PyData.strOk (Str.join sep ts)=true:=by
 rw [strOk_iff] at *
 intro c hc
 rcases (mem_join sep c ts).mp hc with ⟨t,ht,hc⟩|⟨_,hc⟩
 ·exact strOk_iff.mp (h t ht) c hc
 ·exact hs c hc
theorem WN_ {ts:List Str}:(Str.join ", " ts).length<=piled ts:=by
 by_cases h:ts=[]
 ·subst h;exact Nat.zero_le _
 ·have:=join_length_add ts h;lia
noncomputable def lim:Nat->Nat
 | 0=>24
 | n+1=>4+9*(lim n+2)
theorem eqI (a b:Int):opEq (.int a) (.int b)=some (a==b):=by
 unfold opEq eqOk
 simp [PyData.canLay0,PyData.depth,PyData.eqv]
theorem ltI (a b:Int):opLt (.int a) (.int b)=some (decide (a<b)):=id rfl
theorem gtI (a b:Int):opGt (.int a) (.int b)=some (decide (b<a)):=id rfl
theorem geI (a b:Int):opGe (.int a) (.int b)=some (decide (b<=a)):=id rfl
theorem addI (a b:Int):ua_ (.int a) (.int b)=some (.int (a+b)):=id rfl
theorem modI (i j:Int) (h:0<j):JM_ (.int i) (.int j)=some (.int (i % j)):=if_pos h
theorem divI (i j:Int) (h:0<j) (h2:j<1073741824):Yu_ (.int i) (.int j)=some (.int (i / j)):=if_pos (by simp [h,h2])
theorem mulL (i j:Int) (h : -(2^64)<i) (h2:i<2^64):up_ (.int i) (.int j)=some (.int (i*j)):=if_pos (by simp only [zas_,Bool.or_eq_true,Bool.and_eq_true,decide_eq_true_eq];exact .inl ⟨h,h2⟩)
theorem mulR (i j:Int) (h : -(2^64)<j) (h2:j<2^64):up_ (.int i) (.int j)=some (.int (i*j)):=if_pos (by simp only [zas_,Bool.or_eq_true,Bool.and_eq_true,decide_eq_true_eq];exact .inr ⟨h,h2⟩)
theorem zhN_ (b:Bool):truD (.bool b)=some b:=id rfl
theorem lenL (ds:List D):fLen [.list ds]=some (.int ds.length):=id rfl
theorem seqT (ds:List D):seqD (.tuple ds)=some ds:=id rfl
theorem seqL (ds:List D):seqD (.list ds)=some ds:=id rfl
theorem tupL (ds:List D):u0_ [.list ds]=some (.tuple ds):=id rfl
theorem tupT (ds:List D):u0_ [.tuple ds]=some (.tuple ds):=id rfl
theorem cutT (ds:List D) (lo hi:Option Int):fCut (.tuple ds) lo hi=some (.tuple (L4.cutD ds lo hi)):=id rfl
theorem zhR_ (ds:List D) (lo hi:Option Int):fCut (.list ds) lo hi=some (.list (L4.cutD ds lo hi)):=id rfl
theorem ixTn (ds:List D) (n:Nat) (h:n<ds.length):opIx (.tuple ds) (.int n)=some ds[n]:=Ue_ ds n h
theorem ixT0 (a:D) (r:List D):opIx (.tuple (a::r)) (.int 0)=some a:=ixTn (a::r) 0 (by simp)
theorem ixT1 (a b:D) (r:List D):opIx (.tuple (a::b::r)) (.int 1)=some b:=ixTn (a::b::r) 1 (by simp)
theorem ixT2 (a b c:D) (r:List D):opIx (.tuple (a::b::c::r)) (.int 2)=some c:=ixTn (a::b::c::r) 2 (by simp)
theorem ix3_0 (a b c:D):opIx (.list [a,b,c]) (.int 0)=some a:=id rfl
theorem ix3_1 (a b c:D):opIx (.list [a,b,c]) (.int 1)=some b:=id rfl
theorem ix3_2 (a b c:D):opIx (.list [a,b,c]) (.int 2)=some c:=id rfl
theorem put3_2 (a b c d:D):putD [a,b,c] (.int 2) d=some [a,b,d]:=id rfl
theorem iteB (a b:Bool):(if a=true then (M.ret b) else .ret false)=.ret (a&&b):=by cases a<;>rfl
theorem zdL_ (n m:Nat):((n:Int)==(m:Int))=decide (n=m):=by
 by_cases h:n=m
 ·simp [h]
 ·simp only [h,decide_false];rw [beq_eq_false_iff_ne];lia
noncomputable def sW (lo hi:Int):D->Bool
 | .int i=>decide (lo<=i)&&decide (i<=hi)
 | _=>false
noncomputable def sS (w:Str):D->Bool
 | .str s=>s==w
 | _=>false
def Ey (d:D):Prop:=d.canLay0=true/\d.depth<=1000
theorem Qu_ {S T ι:Type} {step:T->D->(T->M S)->M S} {e:ι->D} {F:List ι->T} {k:T->M S}:∀ (is pre:List ι),
  (∀ p i q,is=p++i::q->∀ kn:T->M S,step (F (pre++p)) (e i) kn=kn (F (pre++p++[i])))->forC step (is.map e) (F pre) k=k (F (pre++is))
 | [],pre,_=>by simp [forC]
 | i::r,pre,h=>by
  show step (F pre) (e i) _=_
  have h0:=h [] i r rfl (fun s'=>forC step (r.map e) s' k)
  rw [List.append_nil] at h0
  rw [h0]
  have:=Qu_ (step:=step) (e:=e) (F:=F) (k:=k) r (pre++[i]) fun p j q hq kn=>by
   have:=h (i::p) j q (by rw [hq];rfl) kn
   simpa using this
  rw [this]
  simp
theorem yy_ {S T ι:Type} {step:T->D->(T->M S)->M S} {e:ι->D} {F:List ι->T} {k:T->M S} (is:List ι)
  (h:∀ p i q,is=p++i::q->∀ kn:T->M S,step (F p) (e i) kn=kn (F (p++[i]))):forS step (is.map e) (F []) k=k (F is):=by
 rw [uz_]
 have:=Qu_ (step:=step) (e:=e) (F:=F) (k:=k) is [] (by simpa using h)
 simpa using this
theorem W1_ {S T:Type} {step:T->D->(T->M S)->M S} {R:M S->Prop} {P:Nat->T->Prop} {k:T->M S}:∀ (ds:List D) (i:Nat) (s:T),
  (∀ (j:Nat) (s:T) (d:D),ds[j]? = some d->P (i+j) s->∀ kn:T->M S,(∀ s',P (i+j+1) s'->R (kn s'))->R (step s d kn)) ->
  P i s->(∀ s',P (i+ds.length) s'->R (k s'))->R (forC step ds s k)
 | [],i,s,_,hp,hk=>hk s hp
 | d::r,i,s,h,hp,hk=>by
  show R (step s d _)
  refine h 0 s d rfl hp _ fun s' hp'=>?_
  refine W1_ r (i+1) s' (fun j s d hd hp kn hkn=>h (j+1) s d (by simpa using hd) (by rw [show i+(j+1)=i+1+j by lia];exact hp) kn fun s' q=>hkn s' (by rw [show i+1+j+1=i+(j+1)+1 by lia];exact q)) hp' fun s' hs=>hk s' ?_
  rw [show i+(d::r).length=i+1+r.length by simp;lia];exact hs
theorem YO_ {S T:Type} {step:T->D->(T->M S)->M S} {R:M S->Prop} {P:Nat->T->Prop} {k:T->M S} (ds:List D) (s:T)
  (h:∀ (j:Nat) (s:T) (d:D),ds[j]? = some d->P j s->∀ kn:T->M S,(∀ s',P (j+1) s'->R (kn s'))->R (step s d kn))
  (hp:P 0 s) (hk:∀ s',P ds.length s'->R (k s')):R (forS step ds s k):=by
 rw [uz_]
 exact W1_ ds 0 s (by simpa using h) hp (by simpa using hk)
theorem ZQ_ {ι:Type} {step:D->M (Option D)} {e g:ι->D}:∀ (is:List ι),(∀ i∈is,step (e i)=.ret (some (g i)))->jY_ step (is.map e)=.ret (is.map g)
 | [],_=>rfl
 | i::r,h=>by
  rw [List.map_cons,jY_,h i List.mem_cons_self,ZQ_ r fun d hd=>h d (List.mem_cons_of_mem _ hd)]
  rfl
theorem QA_ {ι:Type} {step:D->M (Option D)} {e:ι->D} {g:ι->Option D}:∀ (is:List ι),(∀ i∈is,step (e i)=.ret (g i))->jY_ step (is.map e)=.ret (is.filterMap g)
 | [],_=>rfl
 | i::r,h=>by
  rw [List.map_cons,jY_,h i List.mem_cons_self,QA_ r fun d hd=>h d (List.mem_cons_of_mem _ hd)]
  cases q:g i<;>simp [yb_,bdR,List.filterMap_cons,q]
theorem UZ_ {T ι:Type} {step:T->D->M (Option D×T)} {P:Nat->T->Prop} {e:ι->D} {R:ι->Prop}:∀ (ds:List D) (i:Nat) (s:T),
  (∀ (j:Nat) (s:T) (d:D),ds[j]? = some d->P (i+j) s->∃ x s',step s d=.ret (some (e x),s')/\P (i+j+1) s'/\R x)->P i s ->
  ∃ xs s',uU_ step ds s=.ret (List.map e xs,s')/\P (i+ds.length) s'/\xs.length=ds.length/\∀ x∈xs,R x
 | [],i,s,_,hp=>⟨[],s,rfl,hp,rfl,fun _ h=>by cases h⟩
 | d::r,i,s,h,hp=>by
  obtain ⟨x,s1,e1,p1,r1⟩:=h 0 s d rfl hp
  obtain ⟨xs,s2,e2,p2,l2,r2⟩:=UZ_ r (i+1) s1 (fun j s d hd hp=>by
   have:=h (j+1) s d (by simpa using hd) (by rw [show i+(j+1)=i+1+j by lia];exact hp)
   rw [show i+(j+1)+1=i+1+j+1 by lia] at this
   exact this) p1
  refine ⟨x::xs,s2,?_,?_,by simp [l2],?_⟩
  ·rw [uU_,e1];simp only [yb_,y3_];rw [e2];rfl
  ·rw [show i+(d::r).length=i+1+r.length by simp;lia];exact p2
  ·intro y hy
   cases hy with
   | head=>exact r1
   | tail _ h=>exact r2 y h
theorem Qy_ {T ι:Type} {step:T->D->M (Option D×T)} {P:Nat->T->Prop} {e:ι->D} {R:ι->Prop} (ds:List D) (s:T)
  (h:∀ (j:Nat) (s:T) (d:D),ds[j]? = some d->P j s->∃ x s',step s d=.ret (some (e x),s')/\P (j+1) s'/\R x) (hp:P 0 s) :
  ∃ xs s',uU_ step ds s=.ret (List.map e xs,s')/\P ds.length s'/\xs.length=ds.length/\∀ x∈xs,R x:=by
 have:=UZ_ (step:=step) (P:=P) (e:=e) (R:=R) ds 0 s (by simpa using h) hp
 simpa using this
noncomputable abbrev iN (n:Nat):D:=.int (n:Int)
noncomputable def rng (lo hi:Nat):List Nat:=(List.range (hi - lo)).map (lo + ·)
theorem Ja_ (lo hi:Nat):(rng lo hi).length=hi - lo:=by simp [rng]
theorem Jc_ (lo n:Nat):yp_ (lo:Int) n=((List.range n).map (lo + ·)).map iN:=by
 unfold yp_
 rw [List.map_map]
 apply List.map_congr_left
 intro a _
 show PyData.int _=PyData.int _
 congr 1
theorem Zv_ {n:Nat} (h:n<=100000):u9_ (n:Int)=true:=by
 unfold u9_
 simp only [Bool.and_eq_true,decide_eq_true_eq]
 lia
theorem ya_ (n:Nat) (h:n<=100000):zZ_ [.int (n:Int)]=some ((List.range n).map iN):=by
 unfold zZ_
 simp only [Zv_ h,if_true]
 have:=Jc_ 0 n
 simp only [Int.toNat_natCast]
 rw [show (0:Int)=((0:Nat):Int) from rfl,this]
 simp
theorem zcC_ (lo hi:Nat) (h:lo<=100000) (h2:hi<=100000):yO_ [.int (lo:Int),.int (hi:Int)]=some ((rng lo hi).map iN):=by
 unfold yO_
 simp only [Zv_ h,Zv_ h2,Bool.and_self,if_true]
 rw [show ((hi:Int) - (lo:Int)).toNat=hi - lo by lia,Jc_]
 rfl
mutual
noncomputable def sz:D->Nat
 | .list ds=>1+szs ds
 | .tuple ds=>1+szs ds
 | .none=>1
 | .bool _=>1
 | .int _=>1
 | .str _=>1
 | .dict _=>1
noncomputable def szs:List D->Nat
 | []=>0
 | d::r=>sz d+szs r
end
mutual
noncomputable def Sm:D->Prop
 | .list ds=>Sms ds
 | .tuple ds=>Sms ds
 | .none=>True
 | .bool _=>True
 | .int i=>i.natAbs<10^19
 | .str s=>Z3_ s=true
 | .dict _=>False
noncomputable def Sms:List D->Prop
 | []=>True
 | d::r=>Sm d/\Sms r
end
theorem Yi_:∀ {ds:List D},(∀ d∈ds,Sm d)->Sms ds
 | [],_=>by simp [Sms]
 | e::r,h=>by
  simp only [Sms]
  exact ⟨h e List.mem_cons_self,Yi_ fun d hd=>h d (List.mem_cons_of_mem _ hd)⟩
theorem zby_ {B:Nat}:∀ {ds:List D},(∀ d∈ds,sz d<=B)->szs ds<=ds.length*B
 | [],_=>by simp [szs]
 | e::r,h=>by
  simp only [szs,List.length_cons,Nat.succ_mul]
  have h1:=h e List.mem_cons_self
  have h2:=zby_ (ds:=r) fun d hd=>h d (List.mem_cons_of_mem _ hd)
  lia
mutual
theorem Sm.lay:∀ {d:D},Sm d->d.canLay0=true
 | .none,h=>by simp [PyData.canLay0]
 | .bool _,h=>by simp [PyData.canLay0]
 | .int _,h=>by simp [PyData.canLay0]
 | .str s,h=>by
  have h':Z3_ s=true:=by simpa [Sm] using h
  unfold Z3_ at h'
  simp only [Bool.and_eq_true] at h'
  simp [PyData.canLay0,h'.1.1]
 | .list ds,h=>by simp only [PyData.canLay0];exact Sms.lay (by simpa [Sm] using h)
 | .tuple ds,h=>by simp only [PyData.canLay0];exact Sms.lay (by simpa [Sm] using h)
 | .dict _,h=>by simp [Sm] at h
theorem Sms.lay:∀ {ds:List D},Sms ds->PyData.canLayAll0 ds=true
 | [],_=>by simp [PyData.canLayAll0]
 | d::r,h=>by
  simp only [Sms] at h
  simp only [PyData.canLayAll0,Bool.and_eq_true]
  exact ⟨Sm.lay h.1,Sms.lay h.2⟩
end
mutual
theorem Sm.show:∀ {d:D},Sm d->d.showable=true
 | .none,h=>by simp [PyData.showable]
 | .bool _,h=>by simp [PyData.showable]
 | .int i,h=>by
  have h':i.natAbs<10^19:=by simpa [Sm] using h
  simp only [PyData.showable,decide_eq_true_eq]
  exact zfy_ (Nat.lt_of_lt_of_le h' (Nat.pow_le_pow_right (by decide) (by decide)))
 | .str s,h=>by simp [PyData.showable]
 | .list ds,h=>by simp only [PyData.showable];exact Sms.show (by simpa [Sm] using h)
 | .tuple ds,h=>by simp only [PyData.showable];exact Sms.show (by simpa [Sm] using h)
 | .dict _,h=>by simp [Sm] at h
theorem Sms.show:∀ {ds:List D},Sms ds->PyData.showableAll ds=true
 | [],_=>by simp [PyData.showableAll]
 | d::r,h=>by
  simp only [Sms] at h
  simp only [PyData.showableAll,Bool.and_eq_true]
  exact ⟨Sm.show h.1,Sms.show h.2⟩
end
mutual
theorem Sm.text:∀ {d:D},Sm d->d.shown.length+2<=30*sz d/\PyData.strOk d.shown=true
 | .none,h=>by refine ⟨?_,by simp only [PyData.shown];exact z6_ _⟩;simp only [PyData.shown,sz];decide
 | .bool b,h=>by
  refine ⟨?_,by cases b<;>simp only [PyData.shown]<;>exact z6_ _⟩
  cases b<;>simp only [PyData.shown,sz]<;>decide
 | .int i,h=>by
  have h':i.natAbs<10^19:=by simpa [Sm] using h
  refine ⟨?_,by simp only [PyData.shown];exact z6_ _⟩
  simp only [PyData.shown,sz]
  have h1:=int_text_length_le10 (a:=i) (k:=19) (by decide) h'
  have h2:(Str.ofString (toString i)).length=(toString i).length:=by
   show (Str.ofString (toString i)).cps.size=_
   rw [<-Array.length_toList,signs_ofString,List.length_map,String.length_toList]
  lia
 | .str s,h=>by
  have h':Z3_ s=true:=by simpa [Sm] using h
  unfold Z3_ at h'
  simp only [Bool.and_eq_true,decide_eq_true_eq] at h'
  simp only [PyData.shown,sz]
  exact ⟨by lia,h'.2⟩
 | .list ds,h=>by
  obtain ⟨h1,h2⟩:=Sms.text (ds:=ds) (by simpa [Sm] using h)
  have h5:(Str.join ", " (PyData.shownAll ds)).length<=piled (PyData.shownAll ds):=WN_
  have h6:PyData.strOk (Str.join ", " (PyData.shownAll ds))=true:=Z6_ (z6_ _) h2
  simp only [PyData.shown,listText_eq_join,sz]
  refine ⟨?_,ym_ (ym_ (z6_ _) h6) (z6_ _)⟩
  rw [strLen_append,strLen_append]
  have e1:((("[" : String):Str)).length=1:=rfl
  have e2:((("]" : String):Str)).length=1:=rfl
  rw [e1,e2];lia
 | .tuple ds,h=>by
  obtain ⟨h1,h2⟩:=Sms.text (ds:=ds) (by simpa [Sm] using h)
  have h5:(Str.join ", " (PyData.shownAll ds)).length<=piled (PyData.shownAll ds):=WN_
  have h6:PyData.strOk (Str.join ", " (PyData.shownAll ds))=true:=Z6_ (z6_ _) h2
  simp only [PyData.shown,tupleText,sz]
  refine ⟨?_,ym_ (ym_ (z6_ _) h6) (z6_ _)⟩
  rw [strLen_append,strLen_append]
  have e1:((("(" : String):Str)).length=1:=rfl
  have e3:(((if (PyData.shownAll ds).length==1 then ",)" else ")" : String):Str)).length<=2:=by split<;>decide
  rw [e1];lia
 | .dict _,h=>by simp [Sm] at h
theorem Sms.text:∀ {ds:List D},Sms ds->piled (PyData.shownAll ds)<=30*szs ds/\∀ t∈PyData.shownAll ds,PyData.strOk t=true
 | [],_=>by simp [PyData.shownAll,piled,szs]
 | d::r,h=>by
  simp only [Sms] at h
  obtain ⟨h1,h2⟩:=Sm.text h.1
  obtain ⟨h3,h4⟩:=Sms.text h.2
  simp only [PyData.shownAll,szs]
  refine ⟨?_,fun t ht=>?_⟩
  ·rw [piled_cons];lia
  ·rcases List.mem_cons.mp ht with rfl|ht
   ·exact h2
   ·exact h4 t ht
end
theorem zeE_ {d:D} (h:Sm d) (hs:sz d<=30000) (hd:d.depth<=60):yN_ [d]=some (.str d.shown):=by
 obtain ⟨t1,t2⟩:=h.text
 show (if Us_ d then some (PyData.str d.shown) else none)=_
 unfold Us_
 rw [if_pos]
 simp only [Bool.and_eq_true,decide_eq_true_eq]
 exact ⟨⟨⟨h.show,h.lay⟩,by lia⟩,Nat.le_trans (show d.shown.length<=1000000 by lia) (by decide)⟩
theorem zbO_ {d:D} (h:Sm d):opNe (.str d.shown) (.str d.shown)=some false:=by
 obtain ⟨t1,t2⟩:=h.text
 unfold opNe eqOk
 rw [if_pos]
 ·simp [PyData.eqv]
 ·simp [PyData.canLay0,t2,PyData.depth]
theorem Vh_ (ds:List D) (k:D):zO_ (.list ds) k=opIx (.list ds) k:=id rfl
theorem ZK_ (ds:List D) (k:D):zO_ (.tuple ds) k=opIx (.tuple ds) k:=id rfl
theorem zgF_ (d:D) (ds:List D):j9_ d (.list ds)=yJ_ d (.list ds):=id rfl
theorem zgE_ (d:D) (ds:List D):j9_ d (.tuple ds)=yJ_ d (.tuple ds):=id rfl
theorem zaF_ {ι:Type} (e:ι->D) (is:List ι) (n:Nat) (h:n<is.length):opIx (.list (is.map e)) (.int (n:Int))=some (e is[n]):=by
 have:=Ue_ (is.map e) n (by simpa using h)
 rw [List.getElem_map] at this
 exact this
theorem zhp_ {ι:Type} (e:ι->D) (is:List ι) (n:Nat) (h:n<is.length):opIx (.tuple (is.map e)) (.int (n:Int))=some (e is[n]):=by
 have:=Ue_ (is.map e) n (by simpa using h)
 rw [List.getElem_map] at this
 exact this
theorem QG_ (ds:List D) (d:D) (h:ds.length<=100000):mApp ds [d]=some (ds++[d]):=if_pos (Nat.lt_of_le_of_lt h (by decide))
theorem zaO_ {S:Type} {ds:List S} (h:ds.length<=100000):fitM ds=.ret ds:=if_pos (Nat.le_trans h (by decide))
noncomputable abbrev pD (p:Nat×Nat):D:=.tuple [iN p.1,iN p.2]
theorem zfw_ (a b:Nat):((a:Int)==(b:Int))=decide (a=b):=zdL_ a b
theorem zaT_ (p q:Nat×Nat):PyData.eqv (pD p) (pD q)=decide (p=q):=by
 simp only [pD,iN,PyData.eqv,PyData.eqvAll,zfw_,Bool.and_true]
 rw [Bool.eq_iff_iff]
 simp [Prod.ext_iff]
theorem eqN (a b:Nat):opEq (iN a) (iN b)=some (decide (a=b)):=by
 show opEq (.int a) (.int b)=_
 rw [eqI,zfw_]
theorem addN (a b:Nat):ua_ (iN a) (iN b)=some (iN (a+b)):=by
 show some (PyData.int ((a:Int)+(b:Int)))=_
 rw [<-Int.natCast_add]
noncomputable abbrev Mt:=Nat×Nat×Nat×Nat
noncomputable abbrev mD (m:Mt):D:=.tuple [iN m.1,iN m.2.1,iN m.2.2.1,iN m.2.2.2]
structure Rl where
 n:Nat
 st:List Nat
 ms:List Mt
 sy:List Bool
noncomputable abbrev Rl.d (r:Rl):D:=.tuple [iN r.n,.tuple (r.st.map iN),.tuple (r.ms.map mD),.tuple (r.sy.map PyData.bool)]
def plt (p q:Nat×Nat):Prop:=p.1<q.1\/p.1=q.1/\p.2<q.2
structure MtOk (n:Nat) (m:Mt):Prop where
 ab:m.1<=m.2.1
 b:m.2.1<n
 c:m.2.2.1<n
 d:m.2.2.2<n
 ne:m.2.2≠(m.1,m.2.1)
 ne':m.2.2≠(m.2.1,m.1)
structure Wf (r:Rl):Prop where
 n1:1<=r.n
 st:∀ s∈r.st,s<r.n
 sy:r.sy.length=r.n
 ms:∀ m∈r.ms,MtOk r.n m
 so:r.ms.Pairwise fun m m'=>plt (m.1,m.2.1) (m'.1,m'.2.1)
noncomputable def look (ms:List Mt) (p:Nat×Nat):Option (Nat×Nat):=(ms.find? fun m=>decide (m.1=p.1)&&decide (m.2.1=p.2)).map (·.2.2)
noncomputable def turn (ms:List Mt) (i j:Nat):Nat×Nat:=if i<=j then (look ms (i,j)).getD (i,j) else let t:=(look ms (j,i)).getD (j,i);(t.2,t.1)
theorem Z8_ {n:Nat} (h:n<=1000000000):Sm (iN n):=by
 simp only [iN,Sm,Int.natAbs_natCast]
 exact Nat.lt_of_le_of_lt h (by decide)
theorem Yn_ {l:List Nat} (h:∀ s∈l,s<=1000000000):Sm (.tuple (l.map iN)):=by
 simp only [Sm]
 refine Yi_ fun d hd=>?_
 obtain ⟨s,hs,rfl⟩:=List.mem_map.mp hd
 exact Z8_ (h s hs)
theorem XX_ (l:List Bool):Sm (.tuple (l.map PyData.bool)):=by
 simp only [Sm]
 refine Yi_ fun d hd=>?_
 obtain ⟨s,hs,rfl⟩:=List.mem_map.mp hd
 simp [Sm]
theorem zgO_ {m:Mt} (h:m.1<=1000000000/\m.2.1<=1000000000/\m.2.2.1<=1000000000/\m.2.2.2<=1000000000):Sm (mD m):=by
 simp only [mD,Sm,Sms]
 exact ⟨by simpa [iN,Sm] using Z8_ h.1,by simpa [iN,Sm] using Z8_ h.2.1,by simpa [iN,Sm] using Z8_ h.2.2.1,by simpa [iN,Sm] using Z8_ h.2.2.2,trivial⟩
theorem yH_ {ι:Type} {e:ι->D} {B:Nat} (h:∀ i,sz (e i)=B):∀ l:List ι,szs (l.map e)=l.length*B
 | []=>by simp [szs]
 | i::r=>by rw [List.map_cons,szs,yH_ h r,h i,List.length_cons,Nat.succ_mul];lia
theorem jC_ {ds:List D} {n:Nat} (h:∀ d∈ds,d.depth<=n):(PyData.tuple ds).depth<=n+1:=by
 have:=J6_ h
 simp only [PyData.depth];lia
theorem zgX_ {r:Rl} (w:Wf r) (hn:r.n<=100000):Sm r.d:=by
 simp only [Rl.d,Sm,Sms]
 refine ⟨by simpa [iN,Sm] using Z8_ (n:=r.n) (by lia),?_,?_,?_,trivial⟩
 ·simpa [Sm] using Yn_ fun s hs=>by have:=w.st s hs;lia
 ·refine Yi_ fun d hd=>?_
  obtain ⟨m,hm,rfl⟩:=List.mem_map.mp hd
  have o:=w.ms m hm
  have:=o.ab;have:=o.b;have:=o.c;have:=o.d
  exact zgO_ ⟨by lia,by lia,by lia,by lia⟩
 ·simpa [Sm] using XX_ r.sy
theorem zgW_ (r:Rl):sz r.d=5+r.st.length+5*r.ms.length+r.sy.length:=by
 simp only [Rl.d,sz,szs]
 rw [yH_ (B:=1) (fun i=>by simp [sz]),yH_ (B:=5) (fun i=>by simp [sz,szs]),yH_ (B:=1) (fun i=>by simp [sz])]
 lia
noncomputable abbrev kvM (m:Mt):D×D:=(pD (m.1,m.2.1),pD m.2.2)
theorem WG_ (p q:Nat×Nat):keyQ (pD p) (pD q)=decide (p=q):=by
 show (decide ((p.1:Int)=q.1)&&(decide ((p.2:Int)=q.2)&&true))=_
 rw [Bool.eq_iff_iff]
 simp [Prod.ext_iff]
 lia
theorem JZ_ (p:Nat×Nat):jz_ (pD p)=true:=id rfl
theorem zfQ_ (p:Nat×Nat):j3_ (pD p)=false:=id rfl
theorem Qg_ {es:List (D×D)} {k d:D} (h:∀ p∈es,keyQ p.1 k=false):putE es k d=es++[(k,d)]:=by
 unfold putE
 rw [if_neg]
 rw [Bool.not_eq_true,List.any_eq_false]
 intro p hp
 rw [h p hp]
 decide
theorem uh_ {α β:Type} {g:α->List β} {B:Nat} (h:∀ a,(g a).length<=B):∀ l:List α,(l.flatMap g).length<=l.length*B
 | []=>by simp
 | a::r=>by
  rw [List.flatMap_cons,List.length_append,List.length_cons,Nat.succ_mul]
  have:=uh_ h r
  have:=h a
  lia
theorem zec_ (a:Nat):ua_ (.int 1) (iN a)=some (iN (a+1)):=by
 show some (PyData.int (1+(a:Int)))=some (PyData.int ((a+1:Nat):Int))
 rw [Int.natCast_add,Int.add_comm]
 rfl
theorem zeD_ {lo hi j:Nat} {d:D} (h:((rng lo hi).map iN)[j]? = some d):d=iN (lo+j)/\lo+j<hi:=by
 rw [List.getElem?_map] at h
 obtain ⟨x,hx,rfl⟩:=Option.map_eq_some_iff.mp h
 have hl:=(List.getElem?_eq_some_iff.mp hx).1
 rw [Ja_] at hl
 unfold rng at hx
 rw [List.getElem?_map,List.getElem?_range hl] at hx
 cases hx
 exact ⟨rfl,by lia⟩
theorem Zh_ {n j:Nat} {d:D} (h:((List.range n).map iN)[j]? = some d):d=iN j/\j<n:=by
 rw [List.getElem?_map] at h
 obtain ⟨x,hx,rfl⟩:=Option.map_eq_some_iff.mp h
 have hl:=(List.getElem?_eq_some_iff.mp hx).1
 rw [List.length_range] at hl
 rw [List.getElem?_range hl] at hx
 cases hx
 exact ⟨rfl,hl⟩
structure Ahd (n a b:Nat) (ms:List Mt):Prop where
 ok:∀ m∈ms,MtOk n m
 so:ms.Pairwise fun m m'=>plt (m.1,m.2.1) (m'.1,m'.2.1)
 ah:∀ m∈ms,plt (m.1,m.2.1) (a,b)
 le:ms.length<=a*n+b
theorem Ahd.next {n a b:Nat} {ms:List Mt} (h:Ahd n a b ms):Ahd n a (b+1) ms :=
 ⟨h.ok,h.so,fun m hm=>by rcases h.ah m hm with q|⟨q,q2⟩<;>simp only [plt] at * <;> lia,by have:=h.le;lia⟩
theorem Ahd.add {n a b:Nat} {ms:List Mt} {c d:Nat} (h:Ahd n a b ms) (hm:MtOk n (a,b,c,d)):Ahd n a (b+1) (ms++[(a,b,c,d)]):=by
 refine ⟨fun m hm'=>?_,?_,fun m hm'=>?_,by have:=h.le;simp;lia⟩
 ·rcases List.mem_append.mp hm' with q|q
  ·exact h.ok m q
  ·rw [List.mem_singleton.mp q];exact hm
 ·rw [List.pairwise_append]
  refine ⟨h.so,List.pairwise_singleton _ _,fun m hm x hx=>?_⟩
  rw [List.mem_singleton.mp hx]
  exact h.ah m hm
 ·rcases List.mem_append.mp hm' with q|q
  ·rcases h.ah m q with q|⟨q,q2⟩<;>simp only [plt] at * <;> lia
  ·rw [List.mem_singleton.mp q];exact .inr ⟨rfl,Nat.lt_succ_self _⟩
theorem Ahd.row {n a b:Nat} {ms:List Mt} (h:Ahd n a b ms) (hb:b<=n):Ahd n (a+1) (a+1) ms :=
 ⟨h.ok,h.so,fun m hm=>by rcases h.ah m hm with q|⟨q,q2⟩<;>simp only [plt] at * <;> lia,by have:=h.le;rw [Nat.succ_mul];lia⟩
theorem zhK_ {S:Type} (p:Nat×Nat) (k:D->D->M S):un2 (pD p) k=k (iN p.1) (iN p.2):=id rfl
noncomputable def tab (n:Nat) (f:Nat->Nat):List Nat:=(List.range n).map f
noncomputable abbrev tabD (n:Nat) (f:Nat->Nat):List D:=(tab n f).map iN
noncomputable def up (f:Nat->Nat) (i v:Nat):Nat->Nat:=fun r=>if r=i then v else f r
theorem ju_ (n:Nat) (f:Nat->Nat):(tab n f).length=n:=by simp [tab]
theorem VK_ {n:Nat} {f:Nat->Nat} {i:Nat} (h:i<n):(tab n f)[i]? = some (f i):=by
 unfold tab
 rw [List.getElem?_map,List.getElem?_range h]
 rfl
theorem zco_ (n:Nat) (f:Nat->Nat) (i v:Nat):(tab n f).set i v=tab n (up f i v):=by
 apply List.ext_getElem?
 intro r
 by_cases hr:r<n
 ·rw [VK_ hr]
  by_cases h:i=r
  ·subst h
   rw [List.getElem?_set_self (by rw [ju_];exact hr)]
   simp [up]
  ·rw [List.getElem?_set_ne h,VK_ hr]
   unfold up
   rw [if_neg (fun z=>h z.symm)]
 ·rw [List.getElem?_eq_none_iff.mpr (by rw [List.length_set,ju_];lia),List.getElem?_eq_none_iff.mpr (by rw [ju_];lia)]
theorem Yl_ {n:Nat} {f:Nat->Nat} {i:Nat} (h:i<n):opIx (.list (tabD n f)) (.int (i:Int))=some (iN (f i)):=by
 have h':i<(tab n f).length:=by rw [ju_];exact h
 have:=zaF_ iN (tab n f) i h'
 have e:(tab n f)[i]'h' = f i:=by
  have:=VK_ (f:=f) h
  rw [List.getElem?_eq_getElem h'] at this
  exact Option.some.inj this
 rw [this,e]
theorem VJ_ {n:Nat} {f:Nat->Nat} {i:Nat} (h:i<n):opIx (.tuple (tabD n f)) (.int (i:Int))=some (iN (f i)):=Yl_ (f:=f) h
theorem YI_ {n i:Nat} (h:i<n):L2.ixN n (i:Int)=some i:=by
 unfold L2.ixN
 rw [if_pos (by lia),if_pos (by lia)]
 rfl
theorem VI_ {n:Nat} {f:Nat->Nat} {i:Nat} (v:Nat) (h:i<n):putD (tabD n f) (.int (i:Int)) (iN v)=some (tabD n (up f i v)):=by
 show (L2.ixN _ (i:Int)).map _=_
 rw [List.length_map,ju_,YI_ h]
 show some ((tabD n f).set i (iN v))=_
 rw [tabD,<-List.map_set,zco_]
theorem zar_ {l:List Nat} {i:Nat} (v:Nat) (h:i<l.length):putD (l.map iN) (.int (i:Int)) (iN v)=some ((l.set i v).map iN):=by
 show (L2.ixN _ (i:Int)).map _=_
 rw [List.length_map,YI_ h]
 show some ((l.map iN).set i (iN v))=_
 rw [<-List.map_set]
theorem zhI_ (a:Nat):Wi_ (iN a) (.int 1)=some (iN (a+1)):=by
 show some (PyData.int ((a:Int)+1))=some (PyData.int ((a+1:Nat):Int))
 rw [Int.natCast_add];rfl
theorem zen_ (a:Nat) (h:1<=a):Yt_ (iN a) (.int 1)=some (iN (a - 1)):=by
 show some (PyData.int ((a:Int) - 1))=some (PyData.int ((a - 1:Nat):Int))
 congr 2
 lia
noncomputable def cnt (hs:List Nat) (r:Nat):Nat:=hs.count r
noncomputable def canB (f:Nat->Nat) (m:Mt):Bool:=let w:=if m.1=m.2.1 then 2 else 1;decide (w<=f m.1)&&decide (w<=f m.2.1)
noncomputable def ledF (f:Nat->Nat) (m:Mt):Nat->Nat :=
 let f1:=up f m.1 (f m.1 - 1)
 let f2:=up f1 m.2.1 (f1 m.2.1 - 1)
 let f3:=up f2 m.2.2.1 (f2 m.2.2.1+1)
 up f3 m.2.2.2 (f3 m.2.2.2+1)
theorem J8_ {f:Nat->Nat} {m:Mt} (h:canB f m=true):1<=f m.1/\1<=up f m.1 (f m.1 - 1) m.2.1:=by
 unfold canB at h
 simp only [Bool.and_eq_true,decide_eq_true_eq] at h
 unfold up
 by_cases e:m.1=m.2.1
 ·rw [if_pos e] at h
  rw [if_pos e.symm]
  omega
 ·rw [if_neg e] at h
  rw [if_neg (fun z=>e z.symm)]
  omega
noncomputable def zhO_ (bs:List Bool):D:=if bs.all id then .str "yes" else if bs.any id then .str "both" else .str "no"
theorem yz_ {α β:Type} (p:α->Bool) (g:α->β):∀ l:List α,(l.filterMap fun k=>if p k=true then some (g k) else none)=(l.filter p).map g
 | []=>rfl
 | a::r=>by
  rw [List.filterMap_cons,List.filter_cons,yz_ p g r]
  cases p a<;>rfl
theorem zdl_ {f:Nat->Nat} {m:Mt} (h:canB f m=true) (r:Nat):ledF f m r+(if m.1=r then 1 else 0)+(if m.2.1=r then 1 else 0)=f r+(if m.2.2.1=r then 1 else 0)+(if m.2.2.2=r then 1 else 0):=by
 obtain ⟨p1,p2⟩:=J8_ h
 have u:∀ (g:Nat->Nat) (i v:Nat),up g i v r=if i=r then v else g r:=fun g i v=>by
  unfold up
  by_cases e:r=i
  ·subst e;simp
  ·rw [if_neg e,if_neg (fun z=>e z.symm)]
 have s1:∀ g:Nat->Nat,∀ i,1<=g i->up g i (g i - 1) r+(if i=r then 1 else 0)=g r:=fun g i hg=>by
  rw [u]
  by_cases e:i=r
  ·subst e;rw [if_pos rfl,if_pos rfl];lia
  ·rw [if_neg e,if_neg e];rfl
 have s2:∀ g:Nat->Nat,∀ i,up g i (g i+1) r=g r+(if i=r then 1 else 0):=fun g i=>by
  rw [u]
  by_cases e:i=r
  ·subst e;rw [if_pos rfl,if_pos rfl]
  ·rw [if_neg e,if_neg e];rfl
 unfold ledF
 rw [s2,s2]
 have h1:=s1 f m.1 p1
 have h2:=s1 (up f m.1 (f m.1 - 1)) m.2.1 p2
 lia
noncomputable def zes_ (l:List (Nat×Nat)):List Nat:=l.flatMap fun p=>List.replicate p.2 p.1
noncomputable def zhS_ (f:Nat->Nat) (ms:List Mt):List Nat:=(ms.zipIdx.filter fun p=>canB f p.1).map (·.2)
theorem zgf_ (as bs:List D) (h:as.length+bs.length<=100000):mExt as bs=some (as++bs):=if_pos (decide_eq_true (Nat.le_trans h (by decide)))
noncomputable def zhQ_ (r:Rl) (hs:List Nat) (i j:Nat):List Nat:=(hs.set i (turn r.ms (hs.getD i 0) (hs.getD j 0)).1).set j (turn r.ms (hs.getD i 0) (hs.getD j 0)).2
noncomputable def cdOf (r q:Rl) (i j:Nat):Nat×Nat:=((turn r.ms (i / q.n) (j / q.n)).1*q.n+(turn q.ms (i % q.n) (j % q.n)).1,(turn r.ms (i / q.n) (j / q.n)).2*q.n+(turn q.ms (i % q.n) (j % q.n)).2)
noncomputable def cell (r q:Rl) (i j:Nat):List Mt:=if cdOf r q i j=(i,j) then [] else [(i,j,cdOf r q i j)]
noncomputable def zgV_ (r q:Rl) (i:Nat):List Mt:=(rng i (r.n*q.n)).flatMap (cell r q i)
noncomputable def zeq_ (r q:Rl):List Mt:=(List.range (r.n*q.n)).flatMap (zgV_ r q)
structure Two (r q:Rl):Prop where
 wr:Wf r
 wq:Wf q
 rn:r.n<=40
 qn:q.n<=40
 R:r.n*q.n<=40
 st:r.st.length=q.st.length
 s4:q.st.length<=4
noncomputable def zgP_ (both a b:Bool):Bool:=if both then a&&b else a||b
noncomputable def zet_ (r q:Rl) (both:Bool) (p:Nat):Bool:=zgP_ both (r.sy.getD (p / q.n) false) (q.sy.getD (p % q.n) false)
noncomputable def Qc_ (r q:Rl):List Nat:=(List.range r.st.length).map fun k=>r.st.getD k 0*q.n+q.st.getD k 0
noncomputable def side (r q:Rl) (both:Bool):Rl:=⟨r.n*q.n,Qc_ r q,zeq_ r q,(List.range (r.n*q.n)).map (zet_ r q both)⟩
noncomputable def zhM_ (both:Bool):D:=if both then .str "both" else .str "either"
noncomputable abbrev cT (l:List Nat):D:=.tuple (l.map iN)
theorem zaA_ (l:List Nat):PyData.canLayAll0 (l.map iN)=true:=YD_ fun d hd=>by
 obtain ⟨x,_,rfl⟩:=List.mem_map.mp hd
 simp [iN,PyData.canLay0]
theorem zfC_ (l:List Nat):(cT l).canLay0=true/\(cT l).depth<=1000:=by
 refine ⟨by simp only [PyData.canLay0];exact zaA_ l,?_⟩
 have hd:PyData.depthAll (l.map iN)<=1:=J6_ fun d hd=>by
  obtain ⟨x,_,rfl⟩:=List.mem_map.mp hd
  simp [iN,PyData.depth]
 simp only [PyData.depth]
 lia
noncomputable def zhP_ (n:Nat) (g f:Nat->Nat):Nat->Nat:=cnt (zes_ ((List.range n).map fun p=>(g p,f p)))
structure Sd (r q:Rl) (g:Nat->Nat) (R:Rl):Prop where
 wf:Wf R
 lt:∀ {a},a<r.n*q.n->g a<R.n
 tn:∀ {a b},a<r.n*q.n->b<r.n*q.n->(g (cdOf r q a b).1,g (cdOf r q a b).2)=turn R.ms (g a) (g b)
 st:(Qc_ r q).map g=R.st
end L4
namespace K30
open PySem PySem.Spec PyProof.Rows L2 L3 L4
def Fd (T:Nat) (f:List D):Prop:=∃ a b t:Int,f=[.int a,.int b,.int t]/\0<=t/\t<=T
theorem Fd.le {T T':Nat} {f:List D} (h:Fd T f) (hl:T<=T'):Fd T' f:=by
 obtain ⟨a,b,t,e,h0,h1⟩:=h
 exact ⟨a,b,t,e,h0,by lia⟩
theorem zaZ_ {T:Nat} {f:List D} {m:Int} (h:Fd T f) (hT:T<=1000000) (hm:0<m) (hm2:m<1073741824) :
  ∃ (r:Int) (f':List D),zm_ f (.int m)=.ret (.int r,f')/\0<=r/\r<m/\Fd (T+1) f':=by
 obtain ⟨a,b,t,rfl,h0,h1⟩:=h
 unfold zm_
 simp only [Vh_]
 rw [L4.ix3_2,oMS,bdR,L4.addI,oMS,bdR,L4.put3_2,oMS,bdR,L4.ix3_1,oMS,bdR,L4.gtI,oMS,bdR]
 by_cases ha:0<b
 ·simp only [ha,decide_true,if_true]
  have p1:putD [PyData.int a,.int b,.int (t+1)] (.int 1) (.int (b / m))=some [.int a,.int (b / m),.int (t+1)]:=id rfl
  rw [L4.divI _ _ hm hm2,oMS,bdR,p1,oMS,bdR,L4.modI _ _ hm,oMS,bdR]
  exact ⟨_,_,rfl,Int.emod_nonneg _ (by lia),Int.emod_lt_of_pos _ hm,_,_,_,rfl,by lia,by lia⟩
 ·simp only [ha,decide_false]
  rw [if_neg (by decide)]
  have g1:=Int.emod_nonneg a (b:=(2147483647:Int)) (by decide)
  have g2:=Int.emod_lt_of_pos a (b:=(2147483647:Int)) (by decide)
  rw [L4.ix3_0,oMS,bdR,L4.modI _ _ (by decide),oMS,bdR,L4.mulL _ _ (by decide) (by decide),oMS,bdR,L4.mulR _ t (by lia) (by lia),oMS,bdR,L4.addI,oMS,bdR,L4.addI,oMS,bdR]
  rw [L4.mulL _ _ (by decide) (by decide),oMS,bdR,L4.addI,oMS,bdR,L4.mulR _ (48271+40*t) (by lia) (by lia),oMS,bdR,L4.modI _ _ (by decide),oMS,bdR]
  rw [L4.divI _ _ (by decide) (by decide),oMS,bdR,L4.mulR _ _ (by decide) (by decide),oMS,bdR,L4.addI,oMS,bdR,L4.modI _ _ (by decide),oMS,bdR,L4.divI _ _ (by decide) (by decide),oMS,bdR,L4.modI _ _ hm,oMS,bdR]
  exact ⟨_,_,rfl,Int.emod_nonneg _ (by lia),Int.emod_lt_of_pos _ hm,_,_,_,rfl,by lia,by lia⟩
theorem jX_ {T:Nat} {f:List D} {m:Nat} (h:Fd T f) (hT:T<=1000000) (hm:0<m) (hm2:m<=1000000000) :
  ∃ (r:Nat) (f':List D),zm_ f (.int (m:Int))=.ret (iN r,f')/\r<m/\Fd (T+1) f':=by
 obtain ⟨r,f',e,h1,h2,h3⟩:=zaZ_ h hT (m:=(m:Int)) (by lia) (by lia)
 obtain ⟨n,rfl⟩:=Int.eq_ofNat_of_zero_le h1
 exact ⟨n,f',e,by lia,h3⟩
theorem W9_ (c:Int):∃ f,jj_ (.int c)=.ret f/\Fd 0 f:=by
 unfold jj_
 have m1:zaR_ [.int 0,.int c]=some (.int (if c>0 then c else 0)):=id rfl
 have p18:zao_ (.int 10) (.int 18)=some (.int 1000000000000000000):=id rfl
 rw [m1,oMS,bdR,p18,oMS,bdR,L4.geI,oMS,bdR,bdR]
 generalize decide ((1000000000000000000:Int)<=c)=B
 have e:fInt [.bool B]=some (.int (if B then 1 else 0)):=by cases B<;>rfl
 rw [e,oMS,bdR,L4.mulR _ _ (by split<;>lia) (by split<;>lia),oMS,bdR,bdR]
 exact ⟨_,rfl,_,_,_,rfl,Int.le_refl _,Int.le_refl _⟩
theorem zdA_ (ns:List Int) (k:Nat) (hk:k<=1000) (hn:ns.length<=63):∃ f,ul_ (.list (ns.map PyData.int)) (.int (k:Int))=.ret f/\Fd 0 f:=by
 unfold ul_
 simp only [Vh_]
 have e1:fLen [.list (ns.map PyData.int)]=some (.int ns.length):=by rw [L4.lenL,List.length_map]
 rw [L4.mulL _ _ (by decide) (by decide),oMS,bdR,e1,oMS,bdR,L4.gtI,oMS,bdR]
 by_cases h:0<(ns.length:Int)
 ·simp only [h,decide_true,if_true]
  rw [bdR,L4.modI _ _ h,oMS,bdR]
  have m1:=Int.emod_nonneg (k:Int) (b:=(ns.length:Int)) (by lia)
  have m2:=Int.emod_lt_of_pos (k:Int) h
  obtain ⟨x,hx,e⟩:=zgt_ (ns.map PyData.int) (k % ns.length) m1 (by rw [List.length_map];exact m2)
  obtain ⟨i,hi,rfl⟩:=List.mem_map.mp hx
  have e2:opIx (.list (ns.map PyData.int)) (.int (k % ns.length))=some (.int i):=e
  rw [e2,oMS,bdR,bdR,L4.divI _ _ h (by lia),oMS,bdR,L4.mulL _ _ (by decide) (by decide),oMS,bdR,L4.addI,oMS,bdR]
  exact W9_ _
 ·simp only [h,decide_false]
  rw [if_neg (by decide)]
  exact W9_ _
theorem Ym_ {a b:List D} (h:z7_ b=true) (p:a.Perm b):z5_ a=z5_ b:=JE_ h ((je_ a).trans p) (yV_ a)
theorem zfz_ (a b:Int):HT.lexLt [a] [b]=decide (a<b):=by
 rw [HT.lexLt_cons]
 by_cases h:a=b
 ·rw [if_pos h,h];simp [HT.lexLt]
 ·rw [if_neg h]
theorem zep_ (a b:Nat):u1_ [.list [iN a,iN b]]=some [iN (min a b),iN (max a b)]:=by
 have ok:z7_ [iN a,iN b]=true:=rfl
 show (if z7_ [iN a,iN b] then some (z5_ [iN a,iN b]) else none)=_
 rw [if_pos ok]
 congr 1
 refine (JE_ ok ?_ ?_).symm
 ·by_cases h:a<=b
  ·rw [Nat.min_eq_left h,Nat.max_eq_right h]
  ·rw [Nat.min_eq_right (by lia),Nat.max_eq_left (by lia)]
   exact List.Perm.swap _ _ _
 ·rw [List.pairwise_cons]
  refine ⟨fun x hx=>?_,List.pairwise_singleton _ _⟩
  have:x=iN (max a b):=by simpa using hx
  subst this
  unfold leK
  show (!HT.lexLt [((max a b:Nat):Int)] [((min a b:Nat):Int)])=true
  rw [zfz_,decide_eq_false (by lia)]
  rfl
theorem neL2 (p q:Nat×Nat):opNe (.list [iN p.1,iN p.2]) (.list [iN q.1,iN q.2])=some (!decide (p=q)):=by
 have h1:(PyData.list [iN p.1,iN p.2]).canLay0=true:=by simp [PyData.canLay0,PyData.canLayAll0]
 have h2:(PyData.list [iN q.1,iN q.2]).canLay0=true:=by simp [PyData.canLay0,PyData.canLayAll0]
 have h3:(PyData.list [iN p.1,iN p.2]).depth<=1000:=by simp [PyData.depth,PyData.depthAll]
 unfold opNe eqOk
 rw [if_pos (by simp [h1,h2,h3])]
 congr 2
 have e:PyData.eqv (.list [iN p.1,iN p.2]) (.list [iN q.1,iN q.2])=PyData.eqv (pD p) (pD q):=by simp [PyData.eqv]
 rw [e,zaT_]
def zef_ (T most:Nat) (m:M (D×List D)):Prop:=∃ (r:Rl) (f':List D),m=.ret (r.d,f')/\Wf r/\r.n<=most/\r.st.length<=4/\r.ms.length<=r.n*r.n+r.n/\Fd (T+7000) f'
theorem zcz_ {R:M (D×List D)->Prop} {T n a often:Nat} {f:List D} {ms:List Mt} {st sy:D} {kn:List D×D×D×D×D×List D×Unit->M (D×List D)} (hf:Fd T f) (hT:T<=990000) (hn:n<=40) (ha:a<n) (ho:1<=often) (ho2:often<=3) (hA:Ahd n a a ms)
  (k:∀ f' ms',Fd (T+4*n) f'->Ahd n (a+1) (a+1) ms'->R (kn (f',iN n,st,sy,iN often,ms'.map mD,()))):R (jZ_ f (iN n) st sy (iN often) (ms.map mD) (iN a) kn):=by
 unfold jZ_
 rw [zcC_ a n (by lia) (by lia),oMS,bdR]
 refine YO_ (P:=fun i s=>∃ f ms,s=(f,iN n,st,sy,iN often,List.map mD ms,iN a,())/\Fd (T+4*i) f/\Ahd n a (a+i) ms) _ _ ?_ ⟨f,ms,rfl,hf,hA⟩ ?_
 ·rintro i s d hd ⟨f,ms,rfl,hf,hA⟩ kn hkn
  obtain ⟨rfl,hi⟩:=zeD_ hd
  unfold u4_
  dsimp only
  obtain ⟨c,f1,e1,hc,hf1⟩:=jX_ (m:=n) hf (by lia) (by lia) (by lia)
  obtain ⟨e,f2,e2,he,hf2⟩:=jX_ (m:=n) hf1 (by lia) (by lia) (by lia)
  obtain ⟨x',f4,e4,_,hf4⟩:=jX_ (m:=often) hf2 (by lia) (by lia) (by lia)
  rw [e1,bdR];dsimp only
  rw [e2,bdR];dsimp only
  rw [e4,bdR];dsimp only
  rw [eqI,oMS,bdR]
  have skip:R (kn (f4,iN n,st,sy,iN often,List.map mD ms,iN a,())):=hkn _ ⟨f4,ms,rfl,hf4.le (by lia),hA.next⟩
  split
  ·rw [zep_,oMS,bdR,bdR,neL2 (min c e,max c e) (a,a+i),oMS,bdR]
   split
   ·rename_i hne
    have hle:=hA.le
    have hlen:(ms.map mD).length<=100000:=by
     rw [List.length_map]
     have:a*n<=40*40:=Nat.mul_le_mul (by lia) hn
     lia
    rw [QG_ _ _ hlen,oMS,bdR]
    have hne':¬ ((min c e,max c e)=(a,a+i)):=by
     rw [Bool.not_eq_true',decide_eq_false_iff_not] at hne
     exact hne
    have:=hkn (f4,iN n,st,sy,iN often,List.map mD (ms++[(a,a+i,c,e)]),iN a,()) ⟨f4,_,rfl,hf4.le (by lia),hA.add ⟨by simp,hi,hc,he,fun z=>hne' (by
     have z1:c=a:=congrArg Prod.fst z
     have z2:e=a+i:=congrArg Prod.snd z
     rw [z1,z2,Nat.min_eq_left (by lia),Nat.max_eq_right (by lia)]),fun z=>hne' (by
     have z1:c=a+i:=congrArg Prod.fst z
     have z2:e=a:=congrArg Prod.snd z
     rw [z1,z2,Nat.min_eq_right (by lia),Nat.max_eq_left (by lia)])⟩⟩
    rw [List.map_append] at this
    exact this
   ·exact skip
  ·exact skip
 ·rintro s ⟨f,ms,rfl,hf,hA⟩
  rw [List.length_map,Ja_] at hf hA
  unfold u5_
  exact k f ms (hf.le (by lia)) (hA.row (by lia))
theorem zcy_ {T:Nat} {f:List D} {most:Nat} (h:Fd T f) (hT:T<=900000) (hm:1<=most) (hm2:most<=40):zef_ T most (uk_ f (iN most)):=by
 unfold uk_
 obtain ⟨n0,f1,e1,h1,hf1⟩:=jX_ (m:=most) h (by lia) (by lia) (by lia)
 obtain ⟨s0,f2,e2,h2,hf2⟩:=jX_ (m:=5) hf1 (by lia) (by lia) (by lia)
 have e2':zm_ f1 (.int 5)=.ret (iN s0,f2):=e2
 have es:∃ sorts,sorts<=4/\zO_ (.list [.int 1,.int 2,.int 2,.int 3,.int 4]) (iN s0)=some (iN sorts):=by
  rcases (by lia:s0=0\/s0=1\/s0=2\/s0=3\/s0=4) with rfl|rfl|rfl|rfl|rfl
  ·exact ⟨1,by lia,rfl⟩
  ·exact ⟨2,by lia,rfl⟩
  ·exact ⟨2,by lia,rfl⟩
  ·exact ⟨3,by lia,rfl⟩
  ·exact ⟨4,by lia,rfl⟩
 obtain ⟨sorts,hs4,es⟩:=es
 rw [e1,bdR];dsimp only
 rw [zec_,oMS,bdR,e2',bdR];dsimp only
 rw [es,oMS,bdR,ya_ _ (by lia),oMS,bdR]
 generalize hn:n0+1=n
 have hn40:n<=40:=by lia
 obtain ⟨st,s1,c1,⟨f3,hs1,hf3⟩,l1,r1⟩:=Qy_ (P:=fun j (s:List D×D×D×Unit)=>∃ f,s=(f,iN n,iN sorts,())/\Fd (T+2+j) f) (e:=iN) (R:=fun x=>x<n)
   (step:=fun s6 d7=>bd (zm_ s6.1 s6.2.1) fun r8=>.ret (some r8.1,(r8.2,s6.2.1,s6.2.2.1,()))) ((List.range sorts).map iN) (f2,iN n,iN sorts,())
   (by
    rintro j s d hd ⟨f,rfl,hf⟩
    obtain ⟨rfl,hj⟩:=Zh_ hd
    obtain ⟨x,f',e,hx,hf'⟩:=jX_ (m:=n) hf (by lia) (by lia) (by lia)
    dsimp only
    rw [e,bdR]
    exact ⟨x,_,rfl,⟨f',rfl,hf'⟩,hx⟩) ⟨f2,rfl,hf2.le (by lia)⟩
 subst hs1
 rw [List.length_map,List.length_range] at hf3 l1
 rw [c1,bdR];dsimp only
 rw [J3_ (by rw [List.length_map];lia),bdR,tupL,oMS,bdR,ya_ n (by lia),oMS,bdR]
 obtain ⟨sy,s2,c2,⟨f4,hs2,hf4⟩,l2,_⟩:=Qy_ (P:=fun j (s:List D×D×D×Unit)=>∃ f,s=(f,iN n,.tuple (st.map iN),())/\Fd (T+2+sorts+j) f) (e:=PyData.bool) (R:=fun _=>True)
   (step:=fun s13 d14=>bd (zm_ s13.1 (.int 2)) fun r15=>bd (oM (opEq r15.1 (.int 1))) fun b16=>.ret (some (.bool b16),(r15.2,s13.2.1,s13.2.2.1,()))) ((List.range n).map iN) (f3,iN n,.tuple (st.map iN),())
   (by
    rintro j s d hd ⟨f,rfl,hf⟩
    obtain ⟨rfl,hj⟩:=Zh_ hd
    obtain ⟨x,f',e,hx,hf'⟩:=jX_ (m:=2) hf (by lia) (by lia) (by lia)
    have e':zm_ f (.int 2)=.ret (iN x,f'):=e
    dsimp only
    rw [e',bdR];dsimp only
    rw [eqI,oMS,bdR]
    exact ⟨_,_,rfl,⟨f',rfl,hf'⟩,trivial⟩) ⟨f3,rfl,hf3⟩
 subst hs2
 rw [List.length_map,List.length_range] at hf4 l2
 rw [c2,bdR];dsimp only
 rw [J3_ (by rw [List.length_map];lia),bdR,tupL,oMS,bdR]
 obtain ⟨o0,f5,e5,h5,hf5⟩:=jX_ (m:=3) hf4 (by lia) (by lia) (by lia)
 have e5':zm_ f4 (.int 3)=.ret (iN o0,f5):=e5
 rw [e5',bdR];dsimp only
 rw [zec_,oMS,bdR,ya_ n (by lia),oMS,bdR]
 have hb:∀ j,j<=n->4*n*j<=6400:=fun j hj=>by
  have:n*j<=40*40:=Nat.mul_le_mul hn40 (by lia)
  have e:4*n*j=4*(n*j):=Nat.mul_assoc _ _ _
  lia
 refine YO_ (P:=fun j s=>∃ f ms,s=(f,iN n,.tuple (st.map iN),.tuple (sy.map PyData.bool),iN (o0+1),List.map mD ms,())/\Fd (T+100+4*n*j) f/\Ahd n j j ms) _ _ ?_ ⟨f5,[],rfl,hf5.le (by lia),⟨fun _ h=>(nomatch h),.nil,fun _ h=>(nomatch h),Nat.zero_le _⟩⟩ ?_
 ·rintro j s d hd ⟨f,ms,rfl,hf,hA⟩ kn hkn
  obtain ⟨rfl,hj⟩:=Zh_ hd
  dsimp only
  refine zcz_ hf (by have:=hb j (by lia);lia) hn40 hj (by lia) (by lia) hA fun f' ms' hf' hA'=>hkn _ ⟨f',ms',rfl,hf'.le ?_,hA'⟩
  rw [Nat.mul_succ];lia
 ·rintro s ⟨f,ms,rfl,hf,hA⟩
  rw [List.length_map,List.length_range] at hf hA
  dsimp only
  unfold u6_
  have hfb:=hb n (Nat.le_refl _)
  rw [tupL,oMS,bdR,bdR]
  exact ⟨⟨n,st,ms,sy⟩,f,rfl,⟨(show 1<=n by lia),r1,l2,hA.ok,hA.so⟩,(show n<=most by lia),(show st.length<=4 by lia),hA.le,hf.le (by lia)⟩
theorem zbe_ {n:Nat} {f:Nat->Nat} {m:Mt} (h:MtOk n m):yF_ (.tuple (tabD n f)) (mD m)=.ret (.bool (canB f m)):=by
 have hb:=h.b;have hab:=h.ab
 unfold yF_
 have e1:(if decide (m.1=m.2.1)=true then (M.ret (PyData.int 2):M D) else .ret (.int 1))=.ret (iN (if m.1=m.2.1 then 2 else 1)):=by
  by_cases e:m.1=m.2.1
  ·rw [if_pos (decide_eq_true e),if_pos e];rfl
  ·rw [if_neg (by simpa using e),if_neg e];rfl
 rw [ZK_,ixT0,oMS,bdR,ZK_,ixT1,oMS,bdR,eqN,oMS,bdR,e1,bdR,bdR,ZK_,VJ_ (show m.1<n by omega),oMS,bdR,geI,oMS,bdR,bdR,ZK_,VJ_ hb]
 simp only [oMS,bdR,geI,iteB,canB]
 congr 3<;>(rw [Bool.eq_iff_iff,decide_eq_true_eq,decide_eq_true_eq];omega)
theorem zbQ_ {n:Nat} {f:Nat->Nat} {x:Nat} (d:D) (hx:x<n) (h:1<=f x) (kn:D×List D×Unit->M D):yf_ d (tabD n f) (iN x) kn=kn (d,tabD n (up f x (f x - 1)),()):=by
 unfold yf_
 rw [Yl_ hx,oMS,bdR,zen_ _ h,oMS,bdR,VI_ _ hx,oMS,bdR]
theorem zbP_ {n:Nat} {f:Nat->Nat} {x:Nat} (hx:x<n) (kn:List D×Unit->M D):ye_ (tabD n f) (iN x) kn=kn (tabD n (up f x (f x+1)),()):=by
 unfold ye_
 rw [Yl_ hx,oMS,bdR,zhI_,oMS,bdR,VI_ _ hx,oMS,bdR]
theorem zay_ {n:Nat} {f:Nat->Nat} {m:Mt} (h:MtOk n m) (hc:canB f m=true):yC_ (.tuple (tabD n f)) (mD m)=.ret (.tuple (tabD n (ledF f m))):=by
 have hb:=h.b;have hab:=h.ab;have hcc:=h.c;have hd:=h.d
 obtain ⟨p1,p2⟩:=J8_ hc
 have e1:fCut (mD m) (some 2) none=some (.tuple [iN m.2.2.1,iN m.2.2.2]):=rfl
 have e2:fCut (mD m) none (some 2)=some (.tuple [iN m.1,iN m.2.1]):=rfl
 have a2:asI (.int 2)=.ret (some 2):=id rfl
 have l1:u2_ [.tuple (tabD n f)]=some (tabD n f):=id rfl
 unfold yC_
 rw [l1,oMS,bdR,a2,bdR,e2,oMS,bdR,seqT,oMS,bdR,uz_,forC]
 refine (zbQ_ (mD m) (show m.1<n by omega) p1 _).trans ?_
 rw [forC]
 refine (zbQ_ (mD m) hb p2 _).trans ?_
 rw [forC]
 show yh_ _ _=_
 unfold yh_
 rw [a2,bdR,e1,oMS,bdR,seqT,oMS,bdR,uz_,forC]
 refine (zbP_ hcc _).trans ?_
 rw [forC]
 refine (zbP_ hd _).trans ?_
 rw [forC]
 show yg_ _=_
 unfold yg_
 rw [tupL,oMS,bdR]
 rfl
noncomputable def fl (l:List Nat):Nat->Nat:=fun i=>l.getD i 0
theorem zbv_ {n:Nat} {l:List Nat} (h:l.length=n):tab n (fl l)=l:=by
 subst h
 unfold tab fl
 apply List.ext_getElem
 ·simp
 ·intro i h1 h2
  simp [List.getD_eq_getElem?_getD,List.getElem?_eq_getElem h2]
theorem Xz_ {n:Nat} {l:List Nat} (h:l.length=n):cT l=.tuple (tabD n (fl l)):=by
 show cT l=cT (tab n (fl l))
 rw [zbv_ h]
noncomputable def led (n:Nat) (l:List Nat) (m:Mt):List Nat:=tab n (ledF (fl l) m)
theorem Vd_ (n:Nat) (l:List Nat) (m:Mt):(led n l m).length=n:=ju_ n _
def Goes (r:Rl) (l:List Nat) (k:Nat) (l':List Nat):Prop:=∃ m,r.ms[k]? = some m/\canB (fl l) m=true/\l'=led r.n l m
theorem zgp_ {r:Rl} {l:List Nat} {m:Mt} (hl:l.length=r.n) (h:MtOk r.n m):yF_ (cT l) (mD m)=.ret (.bool (canB (fl l) m)):=by
 rw [Xz_ hl];exact zbe_ h
theorem zfA_ {r:Rl} {l:List Nat} {m:Mt} (hl:l.length=r.n) (h:MtOk r.n m) (hc:canB (fl l) m=true):yC_ (cT l) (mD m)=.ret (cT (led r.n l m)):=by
 rw [Xz_ hl];exact zay_ h hc
noncomputable def kvN (p:Mt×Nat):D×D:=(pD (p.1.1,p.1.2.1),iN p.2)
noncomputable def idx (ms:List Mt) (p:Nat×Nat):Option Nat:=(ms.zipIdx.find? fun q=>decide ((q.1.1,q.1.2.1)=p)).map (·.2)
theorem Qt_ (p:Nat×Nat):∀ l:List (Mt×Nat),getE (l.map kvN) (pD p)=((l.find? fun q=>decide ((q.1.1,q.1.2.1)=p)).map (·.2)).map iN
 | []=>rfl
 | q::r=>by
  unfold getE
  rw [List.map_cons,List.find?_cons,List.find?_cons]
  rw [show keyQ (kvN q).1 (pD p)=decide ((q.1.1,q.1.2.1)=p) from WG_ _ _]
  cases h:decide ((q.1.1,q.1.2.1)=p) with
  | true=>rfl
  | false=>exact Qt_ p r
theorem WK_ (l:List (Mt×Nat)) (p:Nat×Nat):keyOk (l.map kvN) (pD p)=true:=by
 unfold keyOk
 rw [Bool.or_eq_true]
 left
 rw [Bool.and_eq_true,List.all_eq_true]
 refine ⟨JZ_ p,fun x hx=>?_⟩
 obtain ⟨q,_,rfl⟩:=List.mem_map.mp hx
 exact JZ_ _
theorem zbb_ (ms:List Mt) (a b:Nat):Xi_ (.dict (ms.zipIdx.map kvN)) (.tuple [iN a,iN b])=some (((idx ms (a,b)).map iN).getD .none):=by
 show (if keyOk (ms.zipIdx.map kvN) (pD (a,b)) then some ((getE (ms.zipIdx.map kvN) (pD (a,b))).getD .none) else none)=_
 rw [if_pos (WK_ _ _),Qt_]
 rfl
theorem zaL_ {ms:List Mt} {p:Nat×Nat} {k:Nat} (h:idx ms p=some k):∃ m,ms[k]? = some m/\(m.1,m.2.1)=p:=by
 unfold idx at h
 obtain ⟨q,hq,rfl⟩:=Option.map_eq_some_iff.mp h
 have h1:=List.mem_of_find?_eq_some hq
 have h2:=List.find?_some hq
 exact ⟨q.1,List.mem_zipIdx_iff_getElem?.mp h1,by simpa using h2⟩
theorem WT_ {r:Rl} (w:Wf r) {k:Nat} {m:Mt} (h:r.ms[k]? = some m):idx r.ms (m.1,m.2.1)=some k:=by
 have hm:(m,k)∈r.ms.zipIdx:=List.mem_zipIdx_iff_getElem?.mpr h
 unfold idx
 cases e:r.ms.zipIdx.find? fun q=>decide ((q.1.1,q.1.2.1)=(m.1,m.2.1)) with
 | none =>
  have:=List.find?_eq_none.mp e (m,k) hm
  simp at this
 | some q =>
  have h1:=List.mem_zipIdx_iff_getElem?.mp (List.mem_of_find?_eq_some e)
  have h2:(q.1.1,q.1.2.1)=(m.1,m.2.1):=by simpa using List.find?_some e
  show some q.2=some k
  congr 1
  rcases Nat.lt_trichotomy q.2 k with lt|eq|gt
  ·exfalso
   obtain ⟨g1,e1⟩:=List.getElem?_eq_some_iff.mp h1
   obtain ⟨g2,e2⟩:=List.getElem?_eq_some_iff.mp h
   have:=List.pairwise_iff_getElem.mp w.so q.2 k g1 g2 lt
   rw [e1,e2,h2] at this
   rcases this with z|⟨_,z⟩<;>exact absurd z (Nat.lt_irrefl _)
  ·exact eq
  ·exfalso
   obtain ⟨g1,e1⟩:=List.getElem?_eq_some_iff.mp h1
   obtain ⟨g2,e2⟩:=List.getElem?_eq_some_iff.mp h
   have:=List.pairwise_iff_getElem.mp w.so k q.2 g2 g1 gt
   rw [e1,e2,h2] at this
   rcases this with z|⟨_,z⟩<;>exact absurd z (Nat.lt_irrefl _)
theorem yA_ {ι:Type} (e:ι->D) (is:List ι):yd_ (is.map e)=is.zipIdx.map fun p=>.tuple [iN p.2,e p.1]:=by
 apply List.ext_getElem
 ·simp [yd_]
 ·intro i h1 h2
  simp [yd_]
theorem zaj_ {r:Rl} (w:Wf r) (hl:r.ms.length<=90000):uL_ r.d=.ret (.dict (r.ms.zipIdx.map kvN)):=by
 unfold uL_
 have e1:Z2_ [.tuple (r.ms.map mD)]=some (r.ms.zipIdx.map fun p=>.tuple [iN p.2,mD p.1]):=by
  show some (yd_ _)=_
  rw [yA_]
 rw [ZK_,ixT2,oMS,bdR,e1,oMS,bdR]
 refine (yy_ (e:=fun p:Mt×Nat=>.tuple [iN p.2,mD p.1]) (F:=fun l=>(l.map kvN,())) r.ms.zipIdx ?_).trans rfl
 intro p x t hpt kn
 dsimp only
 unfold yB_
 have c1:(bd (asI (.int 2)) fun hi6=>oM (fCut (mD x.1) none hi6))=.ret (pD (x.1.1,x.1.2.1)):=by kernel_rfl
 have np:∀ q∈p.map kvN,keyQ q.1 (pD (x.1.1,x.1.2.1))=false:=fun q hq=>by
  obtain ⟨y,hy,rfl⟩:=List.mem_map.mp hq
  rw [show keyQ (kvN y).1 _=_ from WG_ _ _,decide_eq_false_iff_not]
  intro z
  have hx':=List.mem_zipIdx_iff_getElem?.mp (show x∈r.ms.zipIdx by rw [hpt];simp)
  have hy':=List.mem_zipIdx_iff_getElem?.mp (show y∈r.ms.zipIdx by rw [hpt];simp [hy])
  have i1:=WT_ w hx'
  have i2:=WT_ w hy'
  rw [z,i1] at i2
  have hk:x.2=y.2:=by injection i2
  have nd:(r.ms.zipIdx.map (·.2)).Nodup:=by
   rw [List.zipIdx_map_snd]
   exact List.nodup_range'
  rw [hpt,List.map_append,List.map_cons] at nd
  rw [List.nodup_append] at nd
  exact nd.2.2 y.2 (List.mem_map.mpr ⟨y,hy,rfl⟩) x.2 (by simp) hk.symm
 show un2 (.tuple [iN x.2,mD x.1]) _=_
 unfold un2
 dsimp only
 have hlen:p.length<r.ms.zipIdx.length:=by rw [hpt];simp
 rw [List.length_zipIdx] at hlen
 have dp:dPut true (p.map kvN) (pD (x.1.1,x.1.2.1)) (iN x.2)=some ((p++[x]).map kvN):=by
  unfold dPut
  rw [if_pos,Qg_ np,List.map_append]
  ·rfl
  ·rw [Bool.and_eq_true,decide_eq_true_eq,List.length_map]
   exact ⟨JZ_ (x.1.1,x.1.2.1),Nat.lt_of_lt_of_le hlen (Nat.le_trans hl (by decide))⟩
 rw [c1,bdR,dp,oMS,bdR]
noncomputable abbrev ld (p:Nat×List Nat):D:=.tuple [iN p.1,cT p.2]
noncomputable def rooms (l:List Nat):List Nat:=(List.range l.length).filter fun i=>decide (0<fl l i)
noncomputable def cell (r:Rl) (l:List Nat) (a b:Nat):List (Nat×List Nat):=match idx r.ms (a,b) with
 | some k=>match r.ms[k]? with
  | some m=>if canB (fl l) m then [(k,led r.n l m)] else []
  | none=>[]
 | none=>[]
noncomputable def jW_ (r:Rl) (l:List Nat):List (Nat×List Nat):=(rooms l).zipIdx.flatMap fun p=>((rooms l).drop p.2).flatMap (cell r l p.1)
theorem J7_ (r:Rl) (l:List Nat) (a b:Nat):(cell r l a b).length<=1:=by
 unfold cell
 split
 ·split
  ·split<;>simp
  ·simp
 ·simp
theorem zav_ {r:Rl} {l:List Nat} {a b:Nat} {p:Nat×List Nat} (h:p∈cell r l a b):Goes r l p.1 p.2:=by
 unfold cell at h
 cases e:idx r.ms (a,b) with
 | none=>rw [e] at h;cases h
 | some k =>
  rw [e] at h
  dsimp only at h
  cases e2:r.ms[k]? with
  | none=>rw [e2] at h;cases h
  | some m =>
   rw [e2] at h
   dsimp only at h
   split at h
   ·rename_i hc
    have:p=(k,led r.n l m):=by simpa using h
    subst this
    exact ⟨m,e2,hc,rfl⟩
   ·cases h
theorem UJ_ {r:Rl} (w:Wf r) {l:List Nat} (hl:l.length=r.n) {k:Nat} {c:List Nat}:(k,c)∈jW_ r l↔Goes r l k c:=by
 constructor
 ·intro h
  obtain ⟨p,_,h⟩:=List.mem_flatMap.mp h
  obtain ⟨b,_,h⟩:=List.mem_flatMap.mp h
  exact zav_ h
 ·rintro ⟨m,hm,hc,rfl⟩
  have ok:=w.ms m (List.mem_of_getElem? hm)
  have hab:=ok.ab
  have hb:=ok.b
  have pos:1<=fl l m.1/\1<=fl l m.2.1:=by
   unfold canB at hc
   simp only [Bool.and_eq_true,decide_eq_true_eq] at hc
   split at hc<;>lia
  have ra:m.1∈rooms l:=List.mem_filter.mpr ⟨List.mem_range.mpr (by lia),by simpa using (show 0<fl l m.1 by lia)⟩
  have rb:m.2.1∈rooms l:=List.mem_filter.mpr ⟨List.mem_range.mpr (by lia),by simpa using (show 0<fl l m.2.1 by lia)⟩
  obtain ⟨i,hi,ei⟩:=List.getElem_of_mem ra
  obtain ⟨j,hj,ej⟩:=List.getElem_of_mem rb
  have so:(rooms l).Pairwise (· < ·):=List.pairwise_lt_range.filter _
  have hij:i<=j:=by
   rcases Nat.lt_or_ge j i with lt|ge
   ·have:=List.pairwise_iff_getElem.mp so j i hj hi lt
    rw [ei,ej] at this
    lia
   ·exact ge
  refine List.mem_flatMap.mpr ⟨(m.1,i),List.mem_zipIdx_iff_getElem?.mpr (by rw [List.getElem?_eq_getElem hi,ei]),List.mem_flatMap.mpr ⟨m.2.1,?_,?_⟩⟩
  ·refine List.mem_iff_getElem?.mpr ⟨j - i,?_⟩
   rw [List.getElem?_drop,show i+(j - i)=j by lia,List.getElem?_eq_getElem hj,ej]
  ·unfold cell
   rw [WT_ w hm]
   dsimp only
   rw [hm]
   dsimp only
   rw [if_pos hc]
   exact List.mem_singleton.mpr rfl
theorem Vl_ (l:List Nat):Z2_ [cT l]=some ((List.range l.length).map fun i=>.tuple [iN i,iN (fl l i)]):=by
 show some (yd_ (l.map iN))=_
 congr 1
 rw [yA_]
 apply List.ext_getElem
 ·simp
 ·intro i h1 h2
  simp [fl,List.getD_eq_getElem?_getD,List.getElem?_eq_getElem (show i<l.length by simpa using h1)]
theorem X1_ (l:List Nat) (hl:l.length<=1000):(bd (bd (oM (Z2_ [cT l])) fun l6=>bd (jY_ (fun d2=>un2 d2 fun y3 y4=>bd (oM (opGt y4 (.int 0))) fun b5=>if b5 then .ret (some y3) else .ret none) l6) fitM) fun l7=>M.ret (PyData.list l7))=.ret (.list ((rooms l).map iN)):=by
 rw [Vl_,oMS,bdR,QA_ (e:=fun i=>.tuple [iN i,iN (fl l i)]) (g:=fun i=>if decide (0<fl l i)=true then some (iN i) else none) (List.range l.length) (fun i _=>by
  show (bd (oM (opGt (iN (fl l i)) (.int 0))) fun b5=>if b5=true then M.ret (some (iN i)) else .ret none)=_
  rw [L4.gtI,oMS,bdR]
  have e:decide ((0:Int)<(fl l i:Int))=decide (0<fl l i):=decide_eq_decide.mpr (by lia)
  rw [e]
  split<;>rfl),bdR,yz_,J3_,bdR]
 ·rfl
 ·rw [List.length_map]
  exact Nat.le_trans (List.length_filter_le _ _) (by simpa using hl)
theorem Ur_ (l:List Nat):(rooms l).length<=l.length:=by
 have:=List.length_filter_le (fun i=>decide (0<fl l i)) (List.range l.length)
 rw [List.length_range] at this
 exact this
section
variable {r:Rl} (w:Wf r) {l:List Nat} (hl:l.length=r.n) (hn:r.n<=40)
include w hl hn
theorem zgU_ {a b:Nat} {acc:List (Nat×List Nat)} (ha:acc.length<=90000) (R:D) (kn10:D×D×D×D×List D×Unit->M D) (kn16:D×D×D×D×List D×D×Unit->M D) :
  uj_ kn10 (.dict (r.ms.zipIdx.map kvN)) (cT l) (.tuple (r.ms.map mD)) R (acc.map ld) (iN a) (iN b) kn16=kn16 (.dict (r.ms.zipIdx.map kvN),cT l,.tuple (r.ms.map mD),R,(acc++cell r l a b).map ld,iN a,()):=by
 unfold uj_
 rw [zbb_,oMS,bdR]
 unfold cell
 cases e:idx r.ms (a,b) with
 | none =>
  show bd (bd (oM (ZD_ .none .none)) _) _=_
  rw [show ZD_ .none .none=some false from rfl,oMS,bdR,if_neg (by decide),bdR,if_neg (by decide),List.append_nil]
 | some k =>
  obtain ⟨m,hm,_⟩:=zaL_ e
  have hk:k<r.ms.length:=(List.getElem?_eq_some_iff.mp hm).1
  have em:r.ms[k]=m:=(List.getElem?_eq_some_iff.mp hm).2
  have ok:=w.ms m (List.mem_of_getElem? hm)
  have e2:zO_ (.tuple (r.ms.map mD)) (iN k)=some (mD m):=by
   rw [ZK_,show opIx (.tuple (r.ms.map mD)) (iN k)=_ from zhp_ mD r.ms k hk,em]
  show bd (bd (oM (ZD_ (iN k) .none)) _) _=_
  dsimp only
  rw [hm]
  dsimp only
  rw [show ZD_ (iN k) .none=some true from rfl,oMS,bdR,if_pos rfl,show (((some k).map iN).getD PyData.none)=iN k from rfl,e2,oMS,bdR,zgp_ hl ok,bdR,show truD (.bool (canB (fl l) m))=some (canB (fl l) m) from rfl,oMS,bdR]
  by_cases hc:canB (fl l) m=true
  ·rw [if_pos hc,bdR,zfA_ hl ok hc,bdR,bdR,QG_ _ _ (by rw [List.length_map];lia),oMS,bdR,if_pos hc,List.map_append]
   rfl
  ·rw [if_neg hc,if_neg hc,List.append_nil]
theorem Vf_ (hm:r.ms.length<=90000):uM_ r.d (.dict (r.ms.zipIdx.map kvN)) (cT l)=.ret (.list ((jW_ r l).map ld)):=by
 unfold uM_
 have rl:=Ur_ l
 have e1:UV_ [.list ((rooms l).map iN)]=some ((rooms l).zipIdx.map fun p=>.tuple [iN p.2,iN p.1]):=by
  show some (yd_ _)=_
  rw [yA_]
 rw [ZK_,ixT2,oMS,bdR,X1_ l (by lia),bdR,e1,oMS,bdR]
 refine (yy_ (e:=fun p:Nat×Nat=>.tuple [iN p.2,iN p.1]) (F:=fun ps=>(PyData.dict (r.ms.zipIdx.map kvN),cT l,PyData.tuple (r.ms.map mD),PyData.list ((rooms l).map iN),(ps.flatMap fun p=>((rooms l).drop p.2).flatMap (cell r l p.1)).map ld,())) (rooms l).zipIdx ?_).trans rfl
 intro p x t hpt kn
 dsimp only
 unfold yD_
 show un2 (.tuple [iN x.2,iN x.1]) _=_
 unfold un2
 dsimp only
 have cut:(bd (bd (asI (iN x.2)) fun lo13=>oM (fCut (.list ((rooms l).map iN)) lo13 none)) fun x14=>oM (seqD x14))=.ret (((rooms l).drop x.2).map iN):=by
  have hx:x.2<(rooms l).length:=by
   have:=List.mem_zipIdx_iff_getElem?.mp (show x∈(rooms l).zipIdx by rw [hpt];simp)
   exact (List.getElem?_eq_some_iff.mp this).1
  rw [show asI (iN x.2)=.ret (some (x.2:Int)) from rfl,bdR]
  have:fCut (.list ((rooms l).map iN)) (some (x.2:Int)) none=some (.list (((rooms l).drop x.2).map iN)):=by
   show some (PyData.list (L4.cutD _ _ _))=_
   unfold L4.cutD
   have s1:HT.sIx ((rooms l).map iN).length 0 (some (x.2:Int))=x.2:=by
    unfold HT.sIx
    simp only [List.length_map]
    have h0:¬ ((x.2:Int)<0):=by lia
    simp [h0]
    lia
   have s2:HT.sIx ((rooms l).map iN).length ((rooms l).map iN).length none=((rooms l).map iN).length:=rfl
   rw [s1,s2,<-List.map_drop,List.take_of_length_le (by simp)]
  rw [this,oMS,bdR]
  rfl
 rw [cut,bdR]
 have pl:p.length<=40:=by
  have:p.length<(rooms l).zipIdx.length:=by rw [hpt];simp
  rw [List.length_zipIdx] at this
  lia
 have accl:(p.flatMap fun q=>((rooms l).drop q.2).flatMap (cell r l q.1)).length<=40*40:=by
  have h1:=uh_ (g:=fun q:Nat×Nat=>((rooms l).drop q.2).flatMap (cell r l q.1)) (B:=40) (fun q=>by
   have h2:=uh_ (g:=cell r l q.1) (B:=1) (J7_ r l q.1) ((rooms l).drop q.2)
   rw [List.length_drop] at h2
   lia) p
  exact Nat.le_trans h1 (Nat.mul_le_mul_right _ pl)
 rw [show (p.flatMap fun q=>((rooms l).drop q.2).flatMap (cell r l q.1)).map ld=((p.flatMap fun q=>((rooms l).drop q.2).flatMap (cell r l q.1))++([]:List Nat).flatMap (cell r l x.1)).map ld from by simp]
 refine (yy_ (e:=iN) (F:=fun ds=>(PyData.dict (r.ms.zipIdx.map kvN),cT l,PyData.tuple (r.ms.map mD),PyData.list ((rooms l).map iN),((p.flatMap fun q=>((rooms l).drop q.2).flatMap (cell r l q.1))++ds.flatMap (cell r l x.1)).map ld,iN x.1,())) ((rooms l).drop x.2) ?_).trans ?_
 ·intro p2 b t2 hpt2 kn2
  dsimp only
  refine (zgU_ w hl hn ?_ _ kn kn2).trans ?_
  ·rw [List.length_append]
   have h2:=uh_ (g:=cell r l x.1) (B:=1) (J7_ r l x.1) p2
   have h3:p2.length<((rooms l).drop x.2).length:=by rw [hpt2];simp
   rw [List.length_drop] at h3
   lia
  ·rw [List.flatMap_append,List.append_assoc]
   simp
 ·dsimp only
  unfold yE_
  rw [List.flatMap_append]
  simp
end
noncomputable abbrev tabI (n:Nat) (g:Nat->Int):List D:=(List.range n).map fun i=>.int (g i)
noncomputable def upI (g:Nat->Int) (i:Nat) (v:Int):Nat->Int:=fun x=>if x=i then v else g x
theorem Y9_ (n:Nat) (f:Nat->Nat):tabI n (fun i=>(f i:Int))=tabD n f:=by
 unfold tabI tabD tab
 rw [List.map_map]
 rfl
theorem VL_ {n:Nat} {g:Nat->Int} {i:Nat} (h:i<n):opIx (.list (tabI n g)) (iN i)=some (.int (g i)):=by
 have e:=zaF_ (fun i=>PyData.int (g i)) (List.range n) i (by simpa using h)
 rw [List.getElem_range] at e
 exact e
theorem XT_ (n:Nat) (g:Nat->Int) (i:Nat) (v:Int):(tabI n g).set i (.int v)=tabI n (upI g i v):=by
 apply List.ext_getElem
 ·simp
 ·intro j h1 h2
  rw [List.getElem_set]
  simp only [List.getElem_map,List.getElem_range]
  unfold upI
  by_cases e:i=j
  ·rw [if_pos e,if_pos e.symm]
  ·rw [if_neg e,if_neg (fun z=>e z.symm)]
theorem Y8_ {n:Nat} {g:Nat->Int} {i:Nat} (v:Int) (h:i<n):putD (tabI n g) (iN i) (.int v)=some (tabI n (upI g i v)):=by
 show (L2.ixN _ (i:Int)).map _=_
 rw [List.length_map,List.length_range,YI_ h]
 show some ((tabI n g).set i (.int v))=_
 rw [XT_]
theorem Qb_ {n:Nat} {g:Nat->Int} {x:Nat} (hx:x<n) (kn3:D×List D×Unit->M D) (c:D) (fs:List D) (k m:D) (kn:D×List D×D×D×List D×Unit->M D) :
  jF_ kn3 c fs k m (tabI n g) (iN x) kn=kn (c,fs,k,m,tabI n (upI g x (g x - 1)),()):=by
 unfold jF_
 rw [Vh_,VL_ hx,oMS,bdR,show Yt_ (.int (g x)) (.int 1)=some (.int (g x - 1)) from rfl,oMS,bdR,Y8_ _ hx,oMS,bdR]
theorem Qa_ {n:Nat} {g:Nat->Int} {x:Nat} (hx:x<n) (kn3:D×List D×Unit->M D) (c:D) (fs:List D) (k:D) (kn:D×List D×D×List D×Unit->M D) :
  jE_ kn3 c fs k (tabI n g) (iN x) kn=kn (c,fs,k,tabI n (upI g x (g x+1)),()):=by
 unfold jE_
 rw [Vh_,VL_ hx,oMS,bdR,L4.addI,oMS,bdR,Y8_ _ hx,oMS,bdR]
theorem WR_ (n:Nat) (g:Nat->Int):intsOf (tabI n g)=some ((List.range n).map g):=by
 have:∀ l:List Nat,intsOf (l.map fun i=>PyData.int (g i))=some (l.map g):=by
  intro l
  induction l with
  | nil=>rfl
  | cons a l ih=>rw [List.map_cons,intsOf,ih];rfl
 exact this _
theorem zau_ {n:Nat} {g:Nat->Int} (h:0<n):∃ i,zaQ_ [.list (tabI n g)]=some (.int i)/\(0<=i↔∀ x,x<n->0<=g x):=by
 have e:∃ i,gMin ((List.range n).map g)=some i:=by
  cases n with
  | zero=>lia
  | succ n=>rw [List.range_succ_eq_map];exact ⟨_,rfl⟩
 obtain ⟨i,e⟩:=e
 obtain ⟨s1,s2⟩:=UR_ e
 refine ⟨i,?_,fun hi x hx=>Int.le_trans hi (s1 _ (List.mem_map.mpr ⟨x,List.mem_range.mpr hx,rfl⟩)),fun hx=>?_⟩
 ·show (match intsOf (tabI n g) with|some ns=>(gMin ns).map PyData.int|none=>none)=_
  rw [WR_]
  show (gMin _).map PyData.int=_
  rw [e]
  rfl
 ·obtain ⟨x,hx',rfl⟩:=List.mem_map.mp s2
  exact hx x (List.mem_range.mp hx')
noncomputable def outI (f:Nat->Nat) (m:Mt):Nat->Int:=let g1:=upI (fun i=>(f i:Int)) m.1 ((f m.1:Int) - 1);upI g1 m.2.1 (g1 m.2.1 - 1)
theorem Wd_ {n:Nat} {f:Nat->Nat} {m:Mt} (h:MtOk n m):(∀ x,x<n->0<=outI f m x)↔canB f m=true:=by
 have hab:=h.ab
 have hb:=h.b
 unfold canB
 simp only [Bool.and_eq_true,decide_eq_true_eq]
 constructor
 ·intro q
  have q1:=q m.1 (by lia)
  have q2:=q m.2.1 hb
  unfold outI upI at q1 q2
  dsimp only at q1 q2
  by_cases e:m.1=m.2.1
  ·rw [if_pos e] at q1
   simp only [e,if_true] at q1 q2 ⊢
   lia
  ·rw [if_neg e] at q1
   rw [if_neg e]
   simp only [if_true,if_neg (fun z=>e (Eq.symm z))] at q1 q2
   lia
 ·intro q x hx
  unfold outI upI
  dsimp only
  by_cases e:m.1=m.2.1
  ·rw [if_pos e] at q
   split
   ·simp only [e,if_true]
    rw [<-e];lia
   ·split<;>lia
  ·rw [if_neg e] at q
   split
   ·rw [if_neg (fun z=>e (Eq.symm z))]
    lia
   ·split<;>lia
theorem zcV_ {f:Nat->Nat} {m:Mt} (hc:canB f m=true):(fun i=>((ledF f m i:Nat):Int))=upI (upI (outI f m) m.2.2.1 (outI f m m.2.2.1+1)) m.2.2.2 (upI (outI f m) m.2.2.1 (outI f m m.2.2.1+1) m.2.2.2+1):=by
 obtain ⟨p1,p2⟩:=J8_ hc
 have g1:(fun i=>((up f m.1 (f m.1 - 1) i:Nat):Int))=upI (fun i=>(f i:Int)) m.1 ((f m.1:Int) - 1):=by
  funext i
  unfold up upI
  split
  ·lia
  ·rfl
 have g2:(fun i=>((up (up f m.1 (f m.1 - 1)) m.2.1 (up f m.1 (f m.1 - 1) m.2.1 - 1) i:Nat):Int))=outI f m:=by
  unfold outI
  dsimp only
  rw [<-g1]
  funext i
  unfold upI
  show ((if i=m.2.1 then _ else _:Nat):Int)=_
  split
  ·dsimp only;lia
  ·rfl
 rw [<-g2]
 funext i
 unfold ledF
 dsimp only
 generalize up (up f m.1 (f m.1 - 1)) m.2.1 (up f m.1 (f m.1 - 1) m.2.1 - 1)=f2
 unfold up upI
 by_cases e1:i=m.2.2.2
 ·simp only [e1,if_true]
  by_cases e2:m.2.2.2=m.2.2.1
  ·simp only [e2,if_true];lia
  ·simp only [if_neg e2];lia
 ·simp only [if_neg e1]
  by_cases e2:i=m.2.2.1
  ·simp only [e2,if_true];lia
  ·simp only [if_neg e2]
noncomputable def uW_ (r:Rl) (l:List Nat) (ps:List (Mt×Nat)):List (Nat×List Nat):=ps.flatMap fun p=>if canB (fl l) p.1 then [(p.2,led r.n l p.1)] else []
theorem mem_steps {r:Rl} {l:List Nat} {k:Nat} {c:List Nat}:(k,c)∈uW_ r l r.ms.zipIdx↔Goes r l k c:=by
 unfold uW_
 rw [List.mem_flatMap]
 constructor
 ·rintro ⟨p,hp,h⟩
  split at h
  ·rename_i hc
   have:(k,c)=(p.2,led r.n l p.1):=by simpa using h
   injection this with h1 h2
   subst h1 h2
   exact ⟨p.1,List.mem_zipIdx_iff_getElem?.mp hp,hc,rfl⟩
  ·cases h
 ·rintro ⟨m,hm,hc,rfl⟩
  exact ⟨(m,k),List.mem_zipIdx_iff_getElem?.mpr hm,by rw [if_pos hc];exact List.mem_singleton.mpr rfl⟩
theorem Um_ (r:Rl) (l:List Nat) (ps:List (Mt×Nat)):(uW_ r l ps).length<=ps.length:=by
 have:=uh_ (g:=fun p:Mt×Nat=>if canB (fl l) p.1 then [(p.2,led r.n l p.1)] else []) (B:=1) (fun p=>by split<;>simp) ps
 unfold uW_
 lia
theorem XV_ {r:Rl} (w:Wf r) {l:List Nat} (hl:l.length=r.n) {acc:List (Nat×List Nat)} (ha:acc.length<=90000) {p:Mt×Nat} (ok:MtOk r.n p.1) (kn3:D×List D×Unit->M D) :
  jG_ (cT l) (acc.map ld) (.tuple [iN p.2,mD p.1]) kn3=kn3 (cT l,(acc++if canB (fl l) p.1 then [(p.2,led r.n l p.1)] else []).map ld,()):=by
 obtain ⟨m,k⟩:=p
 have ok:MtOk r.n m:=ok
 have hab:=ok.ab;have hb:=ok.b;have hcc:=ok.c;have hd:=ok.d
 unfold jG_
 show un2 (.tuple [iN k,mD m]) _=_
 unfold un2
 dsimp only
 have l1:u2_ [cT l]=some (tabI r.n fun i=>(fl l i:Int)):=by
  rw [Y9_,Xz_ hl]
  rfl
 have c1:(bd (bd (asI (.int 2)) fun hi7=>oM (fCut (mD m) none hi7)) fun x8=>oM (seqD x8))=.ret [iN m.1,iN m.2.1]:=by kernel_rfl
 have c2:(bd (bd (asI (.int 2)) fun lo12=>oM (fCut (mD m) lo12 none)) fun x13=>oM (seqD x13))=.ret [iN m.2.2.1,iN m.2.2.2]:=by kernel_rfl
 rw [l1,oMS,bdR,c1,bdR,uz_,forC]
 refine (Qb_ (show m.1<r.n by lia) kn3 _ _ _ _ _).trans ?_
 rw [forC]
 refine (Qb_ hb kn3 _ _ _ _ _).trans ?_
 rw [forC]
 show jI_ kn3 (cT l) (acc.map ld) (iN k) (mD m) (tabI r.n (outI (fl l) m))=_
 unfold jI_
 obtain ⟨i,e1,e2⟩:=zau_ (g:=outI (fl l) m) (show 0<r.n by have:=w.n1;lia)
 rw [e1,oMS,bdR,L4.geI,oMS,bdR]
 by_cases hc:canB (fl l) m=true
 ·have hi:0<=i:=e2.mpr ((Wd_ ok).mpr hc)
  rw [if_pos (by simpa using hi),if_pos hc,c2,bdR,uz_,forC]
  refine (Qa_ hcc kn3 _ _ _ _).trans ?_
  rw [forC]
  refine (Qa_ hd kn3 _ _ _ _).trans ?_
  rw [forC]
  show jH_ kn3 _ _ _ (tabI r.n (upI (upI (outI (fl l) m) m.2.2.1 (outI (fl l) m m.2.2.1+1)) m.2.2.2 (upI (outI (fl l) m) m.2.2.1 (outI (fl l) m m.2.2.1+1) m.2.2.2+1)))=_
  rw [<-zcV_ hc,Y9_]
  unfold jH_
  rw [tupL,oMS,bdR,bdR,QG_ _ _ (by rw [List.length_map];lia),oMS,bdR,List.map_append]
  rfl
 ·have hi:¬ 0<=i:=fun z=>hc ((Wd_ ok).mp (e2.mp z))
  rw [if_neg (by simpa using hi),if_neg hc,List.append_nil]
theorem XW_ {r:Rl} (w:Wf r) {l:List Nat} (hl:l.length=r.n) (hm:r.ms.length<=90000):jR_ r.d (cT l)=.ret (.list ((uW_ r l r.ms.zipIdx).map ld)):=by
 unfold jR_
 have e1:Z2_ [.tuple (r.ms.map mD)]=some (r.ms.zipIdx.map fun p=>.tuple [iN p.2,mD p.1]):=by
  show some (yd_ _)=_
  rw [yA_]
 rw [ZK_,ixT2,oMS,bdR,e1,oMS,bdR]
 refine (yy_ (e:=fun p:Mt×Nat=>.tuple [iN p.2,mD p.1]) (F:=fun ps=>(cT l,(uW_ r l ps).map ld,())) r.ms.zipIdx ?_).trans rfl
 intro p x t hpt kn
 dsimp only
 have hx:=List.mem_zipIdx_iff_getElem?.mp (show x∈r.ms.zipIdx by rw [hpt];simp)
 have hlen:p.length<r.ms.zipIdx.length:=by rw [hpt];simp
 rw [List.length_zipIdx] at hlen
 have:=Um_ r l p
 refine (XV_ w hl (by lia) (w.ms x.1 (List.mem_of_getElem? hx)) kn).trans ?_
 unfold uW_
 rw [List.flatMap_append]
 simp
inductive Rch (r:Rl) (s:List Nat):List Nat->Prop
 | refl:Rch r s s
 | step {c:List Nat} {k:Nat} {c':List Nat}:Rch r s c->Goes r c k c'->Rch r s c'
noncomputable def sumF (n:Nat) (f:Nat->Nat):Nat:=((List.range n).map f).sum
theorem yj_ (n:Nat) (f:Nat->Nat):sumF (n+1) f=sumF n f+f n:=by
 unfold sumF
 rw [List.range_succ,List.map_append,List.sum_append]
 simp
theorem yl_ (f g:Nat->Nat):∀ n,sumF n (fun i=>f i+g i)=sumF n f+sumF n g
 | 0=>rfl
 | n+1=>by rw [yj_,yj_,yj_,yl_ f g n];lia
theorem yk_ (x:Nat):∀ n,sumF n (fun i=>if x=i then 1 else 0)=if x<n then 1 else 0
 | 0=>rfl
 | n+1=>by
  rw [yj_,yk_ x n]
  by_cases h:x<n
  ·rw [if_pos h,if_neg (by lia),if_pos (by lia)]
  ·by_cases e:x=n
   ·rw [if_neg h,if_pos e,if_pos (by lia)]
   ·rw [if_neg h,if_neg e,if_neg (by lia)]
theorem VH_ (n:Nat) (f:Nat->Nat):(tab n f).sum=sumF n f:=rfl
theorem zdk_ {n:Nat} {l:List Nat} {m:Mt} (hl:l.length=n) (ok:MtOk n m) (hc:canB (fl l) m=true):(led n l m).sum=l.sum:=by
 have hab:=ok.ab;have hb:=ok.b;have hcc:=ok.c;have hd:=ok.d
 have e:l.sum=sumF n (fl l):=by rw [<-VH_,zbv_ hl]
 rw [e]
 unfold led
 rw [VH_]
 have k:=congrArg (sumF n) (funext fun i=>zdl_ hc i)
 rw [yl_ (fun i=>ledF (fl l) m i+if m.1=i then 1 else 0),yl_ (ledF (fl l) m),yl_ (fun i=>fl l i+if m.2.2.1=i then 1 else 0),yl_ (fl l),yk_,yk_,yk_,yk_,if_pos (by lia),if_pos hb,if_pos hcc,if_pos hd] at k
 lia
theorem Goes.fit {r:Rl} (w:Wf r) {c c':List Nat} {k:Nat} (g:Goes r c k c') (hl:c.length=r.n):c'.length=r.n/\c'.sum=c.sum:=by
 obtain ⟨m,hm,hc,rfl⟩:=g
 exact ⟨Vd_ _ _ _,zdk_ hl (w.ms m (List.mem_of_getElem? hm)) hc⟩
theorem Rch.fit {r:Rl} (w:Wf r) {s c:List Nat} (hl:s.length=r.n) (h:Rch r s c):c.length=r.n/\c.sum=s.sum:=by
 induction h with
 | refl=>exact ⟨hl,rfl⟩
 | step _ g ih =>
  obtain ⟨h1,h2⟩:=g.fit w ih.1
  exact ⟨h1,h2.trans ih.2⟩
noncomputable def comps:Nat->Nat->List (List Nat)
 | 0,h=>if h=0 then [[]] else []
 | n+1,h=>(List.range (h+1)).flatMap fun a=>(comps n (h - a)).map (a :: ·)
theorem UK_:∀ (n h:Nat) (l:List Nat),l.length=n->l.sum=h->l∈comps n h
 | 0,h,[],_,e=>by
  have:h=0:=by simpa using e.symm
  subst this
  exact List.mem_singleton.mpr rfl
 | n+1,h,a::l,e1,e2=>by
  have e2:a+l.sum=h:=by simpa using e2
  refine List.mem_flatMap.mpr ⟨a,List.mem_range.mpr (by lia),List.mem_map.mpr ⟨l,UK_ n (h - a) l (by simpa using e1) (by lia),rfl⟩⟩
theorem zgm_:∀ n,n<6->∀ h,h<6->(comps n h).length<=126:=by decide +kernel
theorem zgn_:∀ n,n<3->∀ h,h<61->(comps n h).length<=126:=by decide +kernel
theorem Zk_ {α:Type} [DecidableEq α]:∀ {l m:List α},l.Nodup->(∀ x∈l,x∈m)->l.length<=m.length
 | [],m,_,_=>Nat.zero_le _
 | a::l,m,hn,hs=>by
  rw [List.nodup_cons] at hn
  have ha:=hs a List.mem_cons_self
  have h:=Zk_ (m:=m.erase a) hn.2 fun x hx=>by
   have:x≠a:=fun z=>hn.1 (z▸hx)
   exact (List.mem_erase_of_ne this).mpr (hs x (List.mem_cons_of_mem _ hx))
  rw [List.length_erase_of_mem ha] at h
  have:0<m.length:=List.length_pos_of_mem ha
  rw [List.length_cons]
  lia
noncomputable def zx_ (F cs:List (List Nat)):List (List Nat):=cs.foldl (fun acc c=>if c∈acc then acc else acc++[c]) F
theorem zeb_ (F cs:List (List Nat)) (c:List Nat):zx_ F (cs++[c])=if c∈zx_ F cs then zx_ F cs else zx_ F cs++[c]:=by
 unfold zx_
 rw [List.foldl_append]
 rfl
theorem un_ (F cs:List (List Nat)) (c:List Nat):zx_ F (c::cs)=zx_ (if c∈F then F else F++[c]) cs:=rfl
theorem yT_:∀ (cs F:List (List Nat)),∃ E,zx_ F cs=F++E
 | [],F=>⟨[],(List.append_nil _).symm⟩
 | c::cs,F=>by
  rw [un_]
  obtain ⟨E,e⟩:=yT_ cs (if c∈F then F else F++[c])
  rw [e]
  split
  ·exact ⟨E,rfl⟩
  ·exact ⟨c::E,by simp⟩
theorem y5_:∀ (cs F:List (List Nat)),F.Nodup->(zx_ F cs).Nodup
 | [],F,h=>h
 | c::cs,F,h=>by
  rw [un_]
  refine y5_ cs _ ?_
  split
  ·exact h
  ·rename_i hc
   rw [List.nodup_append]
   exact ⟨h,by simp,fun a ha b hb=>by rw [List.mem_singleton.mp hb];exact fun z=>hc (z▸ha)⟩
theorem j2_:∀ (cs F:List (List Nat)) (x:List Nat),x∈zx_ F cs↔x∈F\/x∈cs
 | [],F,x=>by simp [zx_]
 | c::cs,F,x=>by
  rw [un_,j2_ cs]
  split
  ·rename_i hc
   rw [List.mem_cons]
   constructor
   ·rintro (h|h)
    ·exact .inl h
    ·exact .inr (.inr h)
   ·rintro (h|h|h)
    ·exact .inl h
    ·exact .inl (h▸hc)
    ·exact .inr h
  ·rw [List.mem_append,List.mem_singleton,List.mem_cons]
   constructor
   ·rintro ((h|h)|h)
    ·exact .inl h
    ·exact .inr (.inl h)
    ·exact .inr (.inr h)
   ·rintro (h|h|h)
    ·exact .inl (.inl h)
    ·exact .inl (.inr h)
    ·exact .inr h
noncomputable def kyT (l:List Nat):List Key:=l.map fun n:Nat=>.inl (n:Int)
theorem XA_ (l:List Nat):cT l=keyT (kyT l):=by
 unfold keyT kyT
 rw [List.map_map]
 rfl
theorem WD_:∀ {l l':List Nat},kyT l=kyT l'↔l=l'
 | [],[]=>by simp
 | [],_::_=>by simp [kyT]
 | _::_,[]=>by simp [kyT]
 | a::l,b::l'=>by
  have ih:=WD_ (l:=l) (l':=l')
  unfold kyT at ih ⊢
  rw [List.map_cons,List.map_cons,List.cons.injEq,List.cons.injEq,ih]
  constructor
  ·rintro ⟨h,h2⟩
   injection h with h
   exact ⟨by lia,h2⟩
  ·rintro ⟨rfl,h2⟩
   exact ⟨rfl,h2⟩
theorem WH_ (l l':List Nat):keyQ (cT l) (cT l')=decide (l=l'):=by
 rw [XA_,XA_,WI_]
 exact decide_eq_decide.mpr WD_
theorem Zp_ (l:List Nat):jz_ (cT l)=true:=by rw [XA_];exact zaG_ _
noncomputable abbrev kE (v:List Nat->D) (c:List Nat):D×D:=(cT c,v c)
section
variable (v:List Nat->D)
theorem Qr_ (F:List (List Nat)) (c:List Nat):keyOk (F.map (kE v)) (cT c)=true:=by
 unfold keyOk
 rw [Bool.or_eq_true]
 left
 rw [Bool.and_eq_true,List.all_eq_true]
 refine ⟨Zp_ c,fun x hx=>?_⟩
 obtain ⟨q,_,rfl⟩:=List.mem_map.mp hx
 exact Zp_ _
theorem YN_ (c:List Nat):∀ F:List (List Nat),getE (F.map (kE v)) (cT c)=if c∈F then some (v c) else none
 | []=>rfl
 | q::F=>by
  have ih:=YN_ c F
  unfold getE at ih ⊢
  rw [List.map_cons,List.find?_cons,show keyQ (kE v q).1 (cT c)=_ from WH_ q c]
  by_cases e:q=c
  ·subst e
   rw [decide_eq_true rfl,if_pos List.mem_cons_self]
   rfl
  ·rw [decide_eq_false e]
   dsimp only
   rw [ih]
   by_cases h:c∈F
   ·rw [if_pos h,if_pos (List.mem_cons_of_mem _ h)]
   ·rw [if_neg h,if_neg (fun z=>by rcases List.mem_cons.mp z with z|z;exact e z.symm;exact h z)]
theorem Qm_ (F:List (List Nat)) (c:List Nat):j9_ (cT c) (.dict (F.map (kE v)))=some (!decide (c∈F)):=by
 show (if keyOk (F.map (kE v)) (cT c) then some (!(getE (F.map (kE v)) (cT c)).isSome) else none)=_
 rw [if_pos (Qr_ v F c),YN_]
 by_cases h:c∈F
 ·rw [if_pos h,decide_eq_true h];rfl
 ·rw [if_neg h,decide_eq_false h];rfl
theorem V1_ {F:List (List Nat)} {c:List Nat} (h:c∉F) (hl:F.length<=90000):dPut true (F.map (kE v)) (cT c) (v c)=some ((F++[c]).map (kE v)):=by
 unfold dPut
 rw [if_pos,Qg_,List.map_append]
 ·rfl
 ·intro p hp
  obtain ⟨q,hq,rfl⟩:=List.mem_map.mp hp
  rw [show keyQ (kE v q).1 (cT c)=_ from WH_ q c,decide_eq_false_iff_not]
  exact fun z=>h (z▸hq)
 ·rw [Bool.and_eq_true,decide_eq_true_eq,List.length_map]
  exact ⟨Zp_ c,Nat.lt_of_le_of_lt hl (by decide)⟩
theorem zfP_ {F:List (List Nat)} {c:List Nat} (h:c∈F):zO_ (.dict (F.map (kE v))) (cT c)=some (v c):=by
 show (if keyOk (F.map (kE v)) (cT c) then getE (F.map (kE v)) (cT c) else none)=_
 rw [if_pos (Qr_ v F c),YN_,if_pos h]
theorem YK_ (F:List (List Nat)):isXe (F.map (kE v))=false:=by cases F<;>rfl
theorem WF_ (F:List (List Nat)):(F.map (kE v)).map (·.1)=F.map cT:=by rw [List.map_map];rfl
theorem YC_ (F:List (List Nat)):Xc_ [.dict (F.map (kE v))]=some (iN F.length):=by
 show (if isXe (F.map (kE v)) then none else some (PyData.int ((F.map (kE v)).length:Int)))=_
 rw [YK_,if_neg (by decide),List.length_map]
end
theorem Zu_ {F:List (List Nat)} (h:∀ l∈F,l≠[]):z7_ (F.map cT)=true:=by
 unfold z7_
 rw [Bool.or_eq_true]
 right
 rw [List.all_eq_true]
 intro d hd
 obtain ⟨l,hl,rfl⟩:=List.mem_map.mp hd
 have:∀ l:List Nat,intsOf (l.map iN)=some (l.map fun n:Nat=>(n:Int)):=by
  intro l
  induction l with
  | nil=>rfl
  | cons a l ih=>rw [List.map_cons,intsOf,ih];rfl
 have hne:=h l hl
 unfold Qs_
 dsimp only
 rw [this]
 cases l with
 | nil=>exact absurd rfl hne
 | cons a l=>rfl
noncomputable abbrev tooMany:Ex:=⟨"TooMany",[]⟩
noncomputable abbrev vT:List Nat->D:=fun _=>.bool true
noncomputable abbrev vL (r:Rl):List Nat->D:=fun c=>.list ((jW_ r c).map ld)
noncomputable abbrev prs (r:Rl):D:=.dict (r.ms.zipIdx.map kvN)
theorem ld1 (p:Nat×List Nat):zO_ (ld p) (.int 1)=some (cT p.2):=by rw [ZK_,ixT1]
theorem zdx_ {F:List (List Nat)} (hl:F.length<=90000) (R lim P:D) (L:List (D×D)) (p:Nat×List Nat) (kn2 kn:D×D×D×List (D×D)×List (D×D)×List D×Unit->M D) :
  jD_ kn2 R lim P L (F.map (kE vT)) (F.map cT) (ld p) kn=kn (R,lim,P,L,(zx_ F [p.2]).map (kE vT),(zx_ F [p.2]).map cT,()):=by
 unfold jD_
 rw [ld1,oMS,bdR,Qm_,oMS,bdR]
 have e:zx_ F [p.2]=if p.2∈F then F else F++[p.2]:=rfl
 by_cases h:p.2∈F
 ·rw [decide_eq_true h,if_neg (by decide),e,if_pos h]
 ·rw [decide_eq_false h,if_pos (show (!false)=true from rfl),bdR,V1_ vT h hl,oMS,bdR,bdR,QG_ _ _ (by rw [List.length_map];lia),oMS,bdR,e,if_neg h,List.map_append,List.map_append]
  rfl
noncomputable abbrev QW_ (r:Rl):D×D×D×List (D×D)×List (D×D)×List D×Unit->(D×D×D×List (D×D)×List (D×D)×List D×Unit->M D)->M D:=fun s23 kn=>zw_ s23.1 s23.2.1 s23.2.2.1 s23.2.2.2.1 s23.2.2.2.2.1 s23.2.2.2.2.2.1 kn
section
variable {r:Rl} (w:Wf r) (hn:r.n<=40) (hm:r.ms.length<=2000)
include w hn hm
theorem zcm_ {F:List (List Nat)} {i limit:Nat} (hi:i<F.length) (hF:F.length<=1000) (hlim:F.length<=limit) (nd:F.Nodup) (fit:∀ c∈F,c.length=r.n) (kn:D×D×D×List (D×D)×List (D×D)×List D×Unit->M D) :
  zw_ r.d (iN limit) (prs r) ((F.take i).map (kE (vL r))) (F.map (kE vT)) (F.map cT) kn=kn (r.d,iN limit,prs r,(F.take (i+1)).map (kE (vL r)),(zx_ F ((jW_ r F[i]).map (·.2))).map (kE vT),(zx_ F ((jW_ r F[i]).map (·.2))).map cT,()):=by
 have hc:=fit F[i] (List.getElem_mem hi)
 have t1:(F.take i).length=i:=by rw [List.length_take];lia
 have nin:F[i]∉F.take i:=fun z=>by
  obtain ⟨j,hj,e⟩:=List.getElem_of_mem z
  rw [List.getElem_take] at e
  have hj':j<i:=by rw [t1] at hj;exact hj
  exact absurd (List.pairwise_iff_getElem.mp nd j i (by lia) hi hj') (by rw [e];exact fun z=>z rfl)
 have tk:F.take i++[F[i]]=F.take (i+1):=List.take_append_getElem hi
 have ll:fLen [.list (F.map cT)]=some (iN F.length):=by rw [L4.lenL,List.length_map]
 have g1:y8_ (iN (F.take i).length) (iN F.length)=some true:=by
  show opLt (.int _) (.int _)=_
  rw [L4.ltI,decide_eq_true (by rw [t1];lia)]
 have g2:opGt (iN F.length) (iN limit)=some false:=by rw [L4.gtI,decide_eq_false (by lia)]
 have ix:zO_ (.list (F.map cT)) (iN (F.take i).length)=some (cT F[i]):=by
  rw [t1,Vh_,show opIx (.list (F.map cT)) (iN i)=_ from zaF_ cT F i hi]
 unfold zw_
 rw [YC_,ll,oMS,oMS,bdR,bdR,g1,oMS,bdR,if_pos rfl,bdR,g2,oMS,bdR,if_neg (by decide),bdR,ix,oMS,bdR,Vf_ w hc hn (by lia),bdR,V1_ (vL r) nin (by lia),oMS,bdR,tk,zfP_ (vL r) (tk▸List.mem_append_right _ (List.mem_singleton.mpr rfl)),oMS,bdR,show seqD (vL r F[i])=some ((jW_ r F[i]).map ld) from rfl,oMS,bdR]
 have h0:zx_ F (([]:List (Nat×List Nat)).map (·.2))=F:=rfl
 refine (yy_ (e:=ld) (F:=fun ps=>(r.d,iN limit,prs r,(F.take (i+1)).map (kE (vL r)),(zx_ F (ps.map (·.2))).map (kE vT),(zx_ F (ps.map (·.2))).map cT,())) (jW_ r F[i]) ?_).trans rfl
 intro p x t hpt kn'
 dsimp only
 have hlen:(zx_ F (p.map (·.2))).length<=90000:=by
  have h1:∀ (cs G:List (List Nat)),(zx_ G cs).length<=G.length+cs.length:=by
   intro cs
   induction cs with
   | nil=>intro G;simp [zx_]
   | cons c cs ih =>
    intro G
    rw [un_]
    refine Nat.le_trans (ih _) ?_
    split<;>simp<;>lia
  have h2:=h1 (p.map (·.2)) F
  have h3:p.length<=(jW_ r F[i]).length:=by rw [hpt];simp
  have h4:(jW_ r F[i]).length<=40*40:=by
   have rl:=Ur_ F[i]
   unfold jW_
   refine Nat.le_trans (uh_ (g:=fun q:Nat×Nat=>((rooms F[i]).drop q.2).flatMap (cell r F[i] q.1)) (B:=40) (fun q=>?_) _) (Nat.mul_le_mul_right _ (by rw [List.length_zipIdx];lia))
   have h5:=uh_ (g:=cell r F[i] q.1) (B:=1) (J7_ r F[i] q.1) ((rooms F[i]).drop q.2)
   rw [List.length_drop] at h5
   lia
  rw [List.length_map] at h2
  lia
 refine (zdx_ hlen _ _ _ _ x _ _).trans ?_
 rw [List.map_append,show zx_ F (p.map (·.2)++[x].map (·.2))=zx_ (zx_ F (p.map (·.2))) [x.2] from by unfold zx_;rw [List.foldl_append];rfl]
theorem zbz_ {c0:List Nat} {R:List (List Nat)} (hc0:c0.length=r.n) (hR:R.Nodup) (mem:∀ c,c∈R↔Rch r c0 c) (hB:R.length<=900) (limit:Nat) :
  ∀ (fuel i:Nat) (F:List (List Nat)),F.Nodup->(∀ c∈F,c∈R)->c0∈F->i<=F.length->(∀ (j:Nat) (h:j<F.length),j<i->∀ k c,Goes r F[j] k c->c∈F)->(F.length<=limit\/i<F.length)->R.length<fuel+i ->
   (R.length<=limit/\∃ F':List (List Nat),F'.Perm R/\zP_ (QW_ r) fuel (r.d,iN limit,prs r,(F.take i).map (kE (vL r)),F.map (kE vT),F.map cT,())=.ret (.dict (F'.map (kE (vL r))))) \/
   (limit<R.length/\zP_ (QW_ r) fuel (r.d,iN limit,prs r,(F.take i).map (kE (vL r)),F.map (kE vT),F.map cT,())=.exc tooMany)
 | 0,i,F,nd,sub,_,hi,_,_,hf=>by
  have:=Zk_ nd sub
  lia
 | fuel+1,i,F,nd,sub,h0,hi,cl,hj,hf=>by
  have hle:=Zk_ nd sub
  have fit:∀ c∈F,c.length=r.n:=fun c hc=>(((mem c).mp (sub c hc)).fit w hc0).1
  rw [zP_]
  by_cases hlt:i<F.length
  ·by_cases hlim:F.length<=limit
   ·have st:QW_ r (r.d,iN limit,prs r,(F.take i).map (kE (vL r)),F.map (kE vT),F.map cT,()) (fun s'=>zP_ (QW_ r) fuel s')=zP_ (QW_ r) fuel (r.d,iN limit,prs r,((zx_ F ((jW_ r F[i]).map (·.2))).take (i+1)).map (kE (vL r)),(zx_ F ((jW_ r F[i]).map (·.2))).map (kE vT),(zx_ F ((jW_ r F[i]).map (·.2))).map cT,()):=by
     refine (zcm_ w hn hm hlt (by lia) hlim nd fit _).trans ?_
     obtain ⟨E,e⟩:=yT_ ((jW_ r F[i]).map (·.2)) F
     have:(zx_ F ((jW_ r F[i]).map (·.2))).take (i+1)=F.take (i+1):=by rw [e,List.take_append_of_le_length (by lia)]
     rw [this]
    rw [st]
    have rF:∀ c∈F,Rch r c0 c:=fun c hc=>(mem c).mp (sub c hc)
    have sub':∀ c∈zx_ F ((jW_ r F[i]).map (·.2)),c∈R:=fun c hc=>by
     rcases (j2_ _ _ _).mp hc with h|h
     ·exact sub c h
     ·obtain ⟨p,hp,rfl⟩:=List.mem_map.mp h
      exact (mem _).mpr (.step (rF F[i] (List.getElem_mem hlt)) ((UJ_ w (fit _ (List.getElem_mem hlt))).mp hp))
    obtain ⟨E,e⟩:=yT_ ((jW_ r F[i]).map (·.2)) F
    have len':F.length<=(zx_ F ((jW_ r F[i]).map (·.2))).length:=by rw [e,List.length_append];lia
    have at':∀ (j:Nat) (h:j<F.length) (h':j<(zx_ F ((jW_ r F[i]).map (·.2))).length),(zx_ F ((jW_ r F[i]).map (·.2)))[j]=F[j]:=fun j h h'=>by
     simp only [e]
     exact List.getElem_append_left h
    refine zbz_ hc0 hR mem hB limit fuel (i+1) _ (y5_ _ _ nd) sub' ((j2_ _ _ _).mpr (.inl h0)) (by lia) (fun j h hji k c g=>?_) ?_ (by lia)
    ·rw [at' j (by lia) h] at g
     rcases Nat.lt_or_ge j i with lt|ge
     ·exact (j2_ _ _ _).mpr (.inl (cl j (by lia) lt k c g))
     ·have:j=i:=by lia
      subst this
      exact (j2_ _ _ _).mpr (.inr (List.mem_map.mpr ⟨(k,c),(UJ_ w (fit _ (List.getElem_mem hlt))).mpr g,rfl⟩))
    ·by_cases z:(zx_ F ((jW_ r F[i]).map (·.2))).length<=limit
     ·exact .inl z
     ·exact .inr (by lia)
   ·right
    have ll:fLen [.list (F.map cT)]=some (iN F.length):=by rw [L4.lenL,List.length_map]
    have g1:y8_ (iN (F.take i).length) (iN F.length)=some true:=by
     show opLt (.int _) (.int _)=_
     rw [L4.ltI,decide_eq_true (by rw [List.length_take];lia)]
    have g2:opGt (iN F.length) (iN limit)=some true:=by rw [L4.gtI,decide_eq_true (by lia)]
    refine ⟨by lia,?_⟩
    show zw_ r.d (iN limit) (prs r) ((F.take i).map (kE (vL r))) (F.map (kE vT)) (F.map cT) _=_
    unfold zw_
    rw [YC_,ll,oMS,oMS,bdR,bdR,g1,oMS,bdR,if_pos rfl,bdR,g2,oMS,bdR,if_pos rfl]
  ·left
   have hiF:i=F.length:=by lia
   have all:∀ c,Rch r c0 c->c∈F:=fun c hc=>by
    induction hc with
    | refl=>exact h0
    | step _ g ih =>
     obtain ⟨j,hj,e⟩:=List.getElem_of_mem ih
     exact cl j hj (by lia) _ _ (e▸g)
   have pm:F.Perm R:=(List.perm_ext_iff_of_nodup nd hR).mpr fun c=>⟨sub c,fun h=>all c ((mem c).mp h)⟩
   have ll:fLen [.list (F.map cT)]=some (iN F.length):=by rw [L4.lenL,List.length_map]
   have g1:y8_ (iN (F.take i).length) (iN F.length)=some false:=by
    show opLt (.int _) (.int _)=_
    rw [L4.ltI,decide_eq_false (by rw [List.length_take];lia)]
   refine ⟨by have:=pm.length_eq;lia,F,pm,?_⟩
   show zw_ r.d (iN limit) (prs r) ((F.take i).map (kE (vL r))) (F.map (kE vT)) (F.map cT) _=_
   unfold zw_
   rw [YC_,ll,oMS,oMS,bdR,bdR,g1,oMS,bdR,if_neg (by decide)]
   unfold uB_
   rw [hiF,List.take_length]
theorem zdy_ {c0:List Nat} {R:List (List Nat)} (hc0:c0.length=r.n) (hR:R.Nodup) (mem:∀ c,c∈R↔Rch r c0 c) (hB:R.length<=900) (limit:Nat) :
  (R.length<=limit/\∃ F:List (List Nat),F.Perm R/\z4_ r.d (cT c0) (iN limit)=.ret (.dict (F.map (kE (vL r)))))\/(limit<R.length/\z4_ r.d (cT c0) (iN limit)=.exc tooMany):=by
 have e:z4_ r.d (cT c0) (iN limit)=zP_ (QW_ r) 10000 (r.d,iN limit,prs r,(([c0]:List (List Nat)).take 0).map (kE (vL r)),([c0]:List (List Nat)).map (kE vT),([c0]:List (List Nat)).map cT,()):=by
  unfold z4_
  rw [zaj_ w (by lia),bdR]
  unfold Q2_
  rw [Zp_]
  dsimp only
  rw [Zt_]
  rfl
 rw [e]
 refine zbz_ w hn hm hc0 hR mem hB limit 10000 0 [c0] (by simp) (fun c hc=>?_) (List.mem_singleton.mpr rfl) (Nat.zero_le _) (fun j h z=>absurd z (Nat.not_lt_zero _)) (.inr (by simp)) (by lia)
 rw [List.mem_singleton.mp hc]
 exact (mem _).mpr .refl
end
noncomputable abbrev vS (r:Rl):List Nat->D:=fun c=>.list ((uW_ r c r.ms.zipIdx).map ld)
noncomputable abbrev zeo_:D×List (D×D)×List D×Unit->(D×List (D×D)×List D×Unit->M D)->M D:=fun s14 kn=>jt_ s14.1 s14.2.1 s14.2.2.1 kn
theorem zfv_ (L:List (List Nat)):opNe (.list (L.map cT)) (.list [])=some (!L.isEmpty):=by
 have hd:(PyData.list (L.map cT)).depth<=1000:=by
  have:∀ l:List (List Nat),PyData.depthAll (l.map cT)<=10:=by
   intro l
   induction l with
   | nil=>simp [PyData.depthAll]
   | cons a l ih =>
    have h1:(cT a).depth<=10:=by
     have:∀ l:List Nat,PyData.depthAll (l.map iN)<=1:=by
      intro l
      induction l with
      | nil=>simp [PyData.depthAll]
      | cons a l ih=>simp only [List.map_cons,PyData.depthAll,PyData.depth];lia
     have h2:=this a
     simp only [PyData.depth]
     lia
    simp only [List.map_cons,PyData.depthAll]
    lia
  have h:=this L
  simp only [PyData.depth]
  lia
 have lay:(PyData.list (L.map cT)).canLay0=true:=by
  simp only [PyData.canLay0]
  exact YD_ fun d hd=>by
   obtain ⟨l,_,rfl⟩:=List.mem_map.mp hd
   exact (zfC_ l).1
 unfold opNe eqOk
 rw [if_pos (by rw [lay,decide_eq_true hd];rfl)]
 cases L with
 | nil=>rfl
 | cons a L=>rfl
theorem zfh_ (ps:List (Nat×List Nat)):jY_ (fun d8=>un2 d8 fun y9 y10=>M.ret (some y10)) (ps.map ld)=.ret ((ps.map (·.2)).map cT):=by
 rw [ZQ_ (e:=ld) (g:=fun p=>cT p.2) ps (fun p _=>rfl),List.map_map]
 rfl
section
variable {r:Rl} (w:Wf r) (hm:r.ms.length<=30)
include w hm
theorem Yo_ {c0:List Nat} (hc0:c0.length=r.n) (B:Nat) (hB:B<=200) (bound:∀ F:List (List Nat),F.Nodup->(∀ c∈F,c.length=r.n/\c.sum=c0.sum)->F.length<=B) :
  ∀ (fuel:Nat) (F L:List (List Nat)),F.Nodup->(∀ c∈F,Rch r c0 c)->(∀ c∈L,Rch r c0 c)->(c0∈F\/c0∈L)->(∀ c∈F,∀ k c',Goes r c k c'->c'∈F\/c'∈L)->L.length+31*(B - F.length)<fuel->fuel<=10000 ->
   ∃ F':List (List Nat),F'.Nodup/\(∀ c,c∈F'↔Rch r c0 c)/\zP_ zeo_ fuel (r.d,F.map (kE (vS r)),L.map cT,())=.ret (.dict (F'.map (kE (vS r))))
 | 0,F,L,_,_,_,_,_,hf,_=>by lia
 | fuel+1,F,L,nd,rF,rL,h0,cl,hf,hfu=>by
  rw [zP_]
  show ∃ F':List (List Nat),_/\_/\jt_ r.d (F.map (kE (vS r))) (L.map cT) (fun s'=>zP_ zeo_ fuel s')=_
  unfold jt_
  rw [zfv_,oMS,bdR]
  rcases List.eq_nil_or_concat L with rfl|⟨L',x,rfl⟩
  ·rw [if_neg (by decide)]
   unfold yG_
   refine ⟨F,nd,fun c=>⟨rF c,fun h=>?_⟩,rfl⟩
   induction h with
   | refl=>exact h0.resolve_right (by simp)
   | step _ g ih=>exact (cl _ ih _ _ g).resolve_right (by simp)
  ·rw [List.concat_eq_append] at *
   rw [if_pos (show (!(L'++[x]).isEmpty)=true by simp)]
   have gl:(List.map cT (L'++[x])).getLast? = some (cT x):=by simp
   have dl:List.dropLast (List.map cT (L'++[x]))=L'.map cT:=by rw [List.map_append];simp
   unfold zbM_
   rw [gl,dl]
   dsimp only
   have fitF:∀ c∈F,c.length=r.n/\c.sum=c0.sum:=fun c hc=>(rF c hc).fit w hc0
   have hFB:=bound F nd fitF
   have hx:Rch r c0 x:=rL x (by simp)
   rw [List.length_append,List.length_singleton] at hf
   rw [Qm_,oMS,bdR]
   by_cases hin:x∈F
   ·rw [decide_eq_true hin,if_neg (by decide)]
    refine Yo_ hc0 B hB bound fuel F L' nd rF (fun c hc=>rL c (by simp [hc])) ?_ (fun c hc k c' g=>?_) (by lia) (by lia)
    ·rcases h0 with h|h
     ·exact .inl h
     ·rcases List.mem_append.mp h with h|h
      ·exact .inr h
      ·rw [List.mem_singleton.mp h];exact .inl hin
    ·rcases cl c hc k c' g with h|h
     ·exact .inl h
     ·rcases List.mem_append.mp h with h|h
      ·exact .inr h
      ·rw [List.mem_singleton.mp h];exact .inl hin
   ·have hxf:=hx.fit w hc0
    have nd':(F++[x]).Nodup:=by
     rw [List.nodup_append]
     exact ⟨nd,by simp,fun a ha b hb=>by rw [List.mem_singleton.mp hb];exact fun z=>hin (z▸ha)⟩
    have hFB':=bound (F++[x]) nd' (fun c hc=>by
     rcases List.mem_append.mp hc with h|h
     ·exact fitF c h
     ·rw [List.mem_singleton.mp h];exact hxf)
    rw [List.length_append,List.length_singleton] at hFB'
    have sl:=Um_ r x r.ms.zipIdx
    rw [List.length_zipIdx] at sl
    rw [decide_eq_false hin,if_pos (show (!false)=true from rfl),XW_ w hxf.1 (by lia),bdR,V1_ (vS r) hin (by lia),oMS,bdR,zfP_ (vS r) (List.mem_append_right _ (List.mem_singleton.mpr rfl)),oMS,bdR,show seqD (vS r x)=some ((uW_ r x r.ms.zipIdx).map ld) from rfl,oMS,bdR,zfh_,bdR,zaO_ (by rw [List.length_map,List.length_map];lia),bdR,zgf_ _ _ (by rw [List.length_map,List.length_map,List.length_map];lia),oMS,bdR,<-List.map_append]
    refine Yo_ hc0 B hB bound fuel (F++[x]) (L'++(uW_ r x r.ms.zipIdx).map (·.2)) nd' (fun c hc=>?_) (fun c hc=>?_) ?_ (fun c hc k c' g=>?_) ?_ ?_
    ·rcases List.mem_append.mp hc with h|h
     ·exact rF c h
     ·rw [List.mem_singleton.mp h];exact hx
    ·rcases List.mem_append.mp hc with h|h
     ·exact rL c (by simp [h])
     ·obtain ⟨p,hp,rfl⟩:=List.mem_map.mp h
      exact .step hx (mem_steps.mp hp)
    ·rcases h0 with h|h
     ·exact .inl (List.mem_append_left _ h)
     ·rcases List.mem_append.mp h with h|h
      ·exact .inr (List.mem_append_left _ h)
      ·exact .inl (List.mem_append_right _ h)
    ·rcases List.mem_append.mp hc with h|h
     ·rcases cl c h k c' g with h|h
      ·exact .inl (List.mem_append_left _ h)
      ·rcases List.mem_append.mp h with h|h
       ·exact .inr (List.mem_append_left _ h)
       ·exact .inl (List.mem_append_right _ h)
     ·rw [List.mem_singleton.mp h] at g
      exact .inr (List.mem_append_right _ (List.mem_map.mpr ⟨(k,c'),mem_steps.mpr g,rfl⟩))
    ·rw [List.length_append,List.length_append,List.length_map,List.length_singleton]
     have:31*(B - F.length)=31*(B - (F.length+1))+31:=by
      have:B - F.length=(B - (F.length+1))+1:=by lia
      rw [this,Nat.mul_add]
     lia
    ·lia
theorem zgA_ {c0:List Nat} (hc0:c0.length=r.n) (B:Nat) (hB:B<=200) (bound:∀ F:List (List Nat),F.Nodup->(∀ c∈F,c.length=r.n/\c.sum=c0.sum)->F.length<=B) :
  ∃ F:List (List Nat),F.Nodup/\(∀ c,c∈F↔Rch r c0 c)/\F.length<=B/\uN_ r.d (cT c0)=.ret (.dict (F.map (kE (vS r)))):=by
 obtain ⟨F,h1,h2,h3⟩:=Yo_ w hm hc0 B hB bound 10000 [] [c0] List.nodup_nil (fun c hc=>(nomatch hc)) (fun c hc=>by rw [List.mem_singleton.mp hc];exact .refl) (.inr (List.mem_singleton.mpr rfl)) (fun c hc=>(nomatch hc)) (by simp;lia) (Nat.le_refl _)
 refine ⟨F,h1,h2,bound F h1 (fun c hc=>((h2 c).mp hc).fit w hc0),?_⟩
 unfold uN_
 rw [Zt_]
 exact h3
end
theorem zcA_ {F:List (List Nat)} {n h:Nat} (hF:∀ c∈F,c.length=n/\c.sum=h) (hh:h<=1000):∀ d∈z5_ (F.map cT),L4.Sm d/\sz d=n+1/\d.depth<=10:=fun d hd=>by
 have hd':=(je_ _).mem_iff.mp hd
 obtain ⟨c,hc,rfl⟩:=List.mem_map.mp hd'
 obtain ⟨h1,h2⟩:=hF c hc
 have le:∀ s∈c,s<=1000000000:=fun s hs=>by
  have:s<=c.sum:=by
   clear h2 h1 hc hd hd'
   induction c with
   | nil=>cases hs
   | cons a c ih =>
    rw [List.sum_cons]
    rcases List.mem_cons.mp hs with rfl|hs
    ·lia
    ·have:=ih hs;lia
  lia
 refine ⟨Yn_ le,?_,?_⟩
 ·show 1+szs (c.map iN)=_
  rw [yH_ (B:=1) (fun i=>by simp [sz])]
  lia
 ·have:∀ l:List Nat,PyData.depthAll (l.map iN)<=1:=by
   intro l
   induction l with
   | nil=>simp [PyData.depthAll]
   | cons a l ih=>simp only [List.map_cons,PyData.depthAll,PyData.depth];lia
  have h3:=this c
  simp only [PyData.depth]
  lia
theorem VR_ {F:List (List Nat)} {n h:Nat} (hF:∀ c∈F,c.length=n/\c.sum=h) (hn:n<=40) (hh:h<=1000) (hl:F.length<=500):yN_ [.list (z5_ (F.map cT))]=some (.str (PyData.list (z5_ (F.map cT))).shown)/\opNe (.str (PyData.list (z5_ (F.map cT))).shown) (.str (PyData.list (z5_ (F.map cT))).shown)=some false:=by
 have rs:=zcA_ hF hh
 have sm:L4.Sm (.list (z5_ (F.map cT))):=by
  simp only [L4.Sm]
  exact Yi_ fun d hd=>(rs d hd).1
 have len:(z5_ (F.map cT)).length=F.length:=by rw [(je_ _).length_eq,List.length_map]
 refine ⟨zeE_ sm ?_ ?_,zbO_ sm⟩
 ·have:=zby_ (B:=n+1) (ds:=z5_ (F.map cT)) fun d hd=>Nat.le_of_eq (rs d hd).2.1
  rw [len] at this
  have h2:F.length*(n+1)<=500*41:=Nat.mul_le_mul hl (by lia)
  simp only [sz]
  lia
 ·have:∀ l:List D,(∀ d∈l,d.depth<=10)->PyData.depthAll l<=10:=by
   intro l
   induction l with
   | nil=>intro _;simp [PyData.depthAll]
   | cons a l ih =>
    intro h
    have h1:=h a List.mem_cons_self
    have h2:=ih fun d hd=>h d (List.mem_cons_of_mem _ hd)
    simp only [PyData.depthAll]
    lia
  have h3:=this _ fun d hd=>(rs d hd).2.2
  simp only [PyData.depth]
  lia
section
variable {r:Rl} (w:Wf r) (hn:r.n<=40) (hm:r.ms.length<=2000)
include w hn hm
theorem Xm_ {c0:List Nat} {R:List (List Nat)} (hc0:c0.length=r.n) (hR:R.Nodup) (mem:∀ c,c∈R↔Rch r c0 c) (hB:R.length<=900) (limit:Nat) :
  u3_ r.d (cT c0) (iN limit)=if R.length<=limit then .ret (z5_ (R.map cT)) else .exc tooMany:=by
 have n1:=w.n1
 have ne:∀ l∈R,l≠[]:=fun l hl z=>by
  have:=(((mem l).mp hl).fit w hc0).1
  rw [z] at this
  simp at this
  lia
 unfold u3_
 rcases zdy_ w hn hm hc0 hR mem hB limit with ⟨h1,F,pm,e⟩|⟨h1,e⟩
 ·have ne':∀ l∈F,l≠[]:=fun l hl=>ne l (pm.mem_iff.mp hl)
  have e1:u2_ [.dict (F.map (kE (vL r)))]=some (F.map cT):=by
   show (if isXe (F.map (kE (vL r))) then none else some ((F.map (kE (vL r))).map (·.1)))=_
   rw [YK_,if_neg (by decide),WF_]
  have e2:u1_ [.list (F.map cT)]=some (z5_ (F.map cT)):=by
   show (if z7_ (F.map cT) then some (z5_ (F.map cT)) else none)=_
   rw [if_pos (Zu_ ne')]
  rw [if_pos h1,e,bdR,e1,oMS,bdR,bdR,e2,oMS,bdR,Ym_ (Zu_ ne) (pm.map cT)]
 ·rw [if_neg (by lia),e]
  rfl
end
theorem QP_ {r:Rl} {c:List Nat} {n:Nat} (h:u3_ r.d (cT c) (iN n)=.exc tooMany):zS_ (fnD "_law_ask") (.tuple [r.d,cT c,iN n])=.ret (.bool true):=by
 have e:jw_ (.tuple [r.d,cT c,iN n])=.exc tooMany:=by
  unfold jw_ un3
  dsimp only
  rw [h]
  rfl
 unfold zS_
 rw [show onFn (fnD "_law_ask") "_law_ask" (jw_ (.tuple [r.d,cT c,iN n]))=jw_ (.tuple [r.d,cT c,iN n]) from by unfold onFn;rw [show fnQ (fnD "_law_ask") "_law_ask" = true from by decide +kernel],e]
 show Q3_ ["TooMany"] tooMany.cls _=_
 kernel_rfl
theorem zbc_ {T:Nat} {f:List D} {r:Rl} {most:Nat} (hf:Fd T f) (hT:T<=900000) (w:Wf r) (hn:r.n<=40) (h1:1<=most) (h2:most<=60):∃ (c:List Nat) (f':List D),jS_ f r.d (iN most)=.ret (cT c,f')/\c.length=r.n/\c.sum<=most/\Fd (T+100) f':=by
 have n1:=w.n1
 unfold jS_
 have z0:jY_ (fun d2=>M.ret (some (.int 0))) ((List.range r.n).map iN)=.ret ((List.replicate r.n 0).map iN):=by
  rw [ZQ_ (e:=iN) (g:=fun _=>.int 0) (List.range r.n) (fun _ _=>rfl)]
  congr 1
  rw [List.map_replicate]
  apply List.ext_getElem
  ·simp
  ·intro i h1 h2;simp
 rw [ZK_,ixT0,oMS,bdR,ya_ _ (by lia),oMS,bdR,z0,bdR,J3_ (by simp;lia),bdR]
 obtain ⟨h0,f1,e1,hh,hf1⟩:=jX_ (m:=most) hf (by lia) (by lia) (by lia)
 rw [e1,bdR];dsimp only
 rw [zec_,oMS,bdR,ya_ _ (by lia),oMS,bdR]
 let R:M (D×List D)->Prop:=fun m=>∃ (c:List Nat) (f':List D),m=.ret (cT c,f')/\c.length=r.n/\c.sum<=most/\Fd (T+100) f'
 refine YO_ (R:=R) (P:=fun i s=>∃ (c:List Nat) (f:List D),s=(f,r.d,c.map iN,())/\c.length=r.n/\c.sum<=i/\Fd (T+1+i) f) _ _ ?_ ⟨List.replicate r.n 0,f1,rfl,by simp,by simp,hf1⟩ ?_
 ·rintro i s d hd ⟨c,f,rfl,hc,hs,hf⟩ kn hkn
  obtain ⟨rfl,hi⟩:=Zh_ hd
  dsimp only
  unfold uC_
  obtain ⟨x,f2,e2,hx,hf2⟩:=jX_ (m:=r.n) hf (by lia) (by lia) (by lia)
  have hxl:x<c.length:=by lia
  have ix:zO_ (.list (c.map iN)) (iN x)=some (iN c[x]):=by rw [Vh_,show opIx (.list (c.map iN)) (iN x)=_ from zaF_ iN c x hxl]
  have ad:ua_ (iN c[x]) (.int 1)=some (iN (c[x]+1)):=addN c[x] 1
  rw [ZK_,ixT0,oMS,bdR,e2,bdR];dsimp only
  rw [ix,oMS,bdR,ad,oMS,bdR,show putD (c.map iN) (iN x) (iN (c[x]+1))=_ from zar_ (c[x]+1) hxl,oMS,bdR]
  refine hkn _ ⟨c.set x (c[x]+1),f2,rfl,by simp [hc],?_,hf2.le (by lia)⟩
  have:∀ (c:List Nat) (x:Nat) (h:x<c.length),(c.set x (c[x]+1)).sum=c.sum+1:=by
   intro c
   induction c with
   | nil=>intro x h;simp at h
   | cons a c ih =>
    intro x h
    cases x with
    | zero=>simp;lia
    | succ x =>
     have:=ih x (by simpa using h)
     simp only [List.set_cons_succ,List.getElem_cons_succ,List.sum_cons]
     lia
  rw [this c x hxl]
  lia
 ·rintro s ⟨c,f,rfl,hc,hs,hf⟩
  rw [List.length_map,List.length_range] at hs hf
  dsimp only
  unfold uD_
  rw [tupL,oMS,bdR]
  exact ⟨c,f,rfl,hc,by lia,hf.le (by lia)⟩
theorem XB_ {r:Rl} (w:Wf r) {c:List Nat} (hn:r.n<=40) (hs:r.st.length<=4) (hm:r.ms.length<=2000) (hc:c.length=r.n) (hh:c.sum<=1000) :
  yN_ [.tuple [r.d,cT c]]=some (.str (PyData.tuple [r.d,cT c]).shown)/\opNe (.str (PyData.tuple [r.d,cT c]).shown) (.str (PyData.tuple [r.d,cT c]).shown)=some false:=by
 have le:∀ s∈c,s<=1000000000:=fun s hs=>by
  have:s<=c.sum:=by
   clear hh hc
   induction c with
   | nil=>cases hs
   | cons a c ih =>
    rw [List.sum_cons]
    rcases List.mem_cons.mp hs with rfl|hs
    ·lia
    ·have:=ih hs;lia
  lia
 have sm:L4.Sm (.tuple [r.d,cT c]):=by
  simp only [L4.Sm,L4.Sms]
  exact ⟨zgX_ w (by lia),Yn_ le,trivial⟩
 refine ⟨zeE_ sm ?_ ?_,zbO_ sm⟩
 ·have h1:=zgW_ r
  have h2:sz (cT c)=c.length+1:=by
   show 1+szs (c.map iN)=_
   rw [yH_ (B:=1) (fun i=>by simp [sz])]
   lia
  have h3:=w.sy
  simp only [sz,szs] at *
  lia
 ·have h1:(cT c).depth<=10:=by
   have:∀ l:List Nat,PyData.depthAll (l.map iN)<=1:=by
    intro l
    induction l with
    | nil=>simp [PyData.depthAll]
    | cons a l ih=>simp only [List.map_cons,PyData.depthAll,PyData.depth];lia
   have h3:=this c
   simp only [PyData.depth]
   lia
  have h2:r.d.depth<=20:=by
   refine jC_ (n:=19) fun d hd=>?_
   simp only [List.mem_cons,List.mem_nil_iff,or_false] at hd
   rcases hd with rfl|rfl|rfl|rfl
   ·simp [PyData.depth]
   ·exact Nat.le_trans (jC_ (n:=1) fun d hd=>by obtain ⟨i,_,rfl⟩:=List.mem_map.mp hd;simp [PyData.depth]) (by lia)
   ·exact Nat.le_trans (jC_ (n:=5) fun d hd=>by obtain ⟨i,_,rfl⟩:=List.mem_map.mp hd;simp [PyData.depth,PyData.depthAll]) (by lia)
   ·exact Nat.le_trans (jC_ (n:=1) fun d hd=>by obtain ⟨i,_,rfl⟩:=List.mem_map.mp hd;simp [PyData.depth]) (by lia)
  have:=jC_ (ds:=[r.d,cT c]) (n:=20) fun d hd=>by
   simp only [List.mem_cons,List.mem_nil_iff,or_false] at hd
   rcases hd with rfl|rfl<;>lia
  lia
set_option maxHeartbeats 4000000 in
theorem zfD_ {T k most:Nat} {f:List D} {r:Rl} (hf:Fd T f) (hT:T<=800000) (w:Wf r) (hs:r.st.length<=4) (hm:r.ms.length<=30) (hb:(r.n<=5/\most=5)\/(r.n<=2/\most=60)) (em:(bd (oM (y8_ (iN k) (.int 5))) fun b9=>if b9 then M.ret (PyData.int 5) else .ret (.int 60))=.ret (iN most))
  (kn2:D×Unit->M D) (sc d:D) (kn8:D×D×List D×D×Unit->M D) (kk:∀ f',Fd (T+100) f'->kn8 (sc,iN k,f',r.d,())=.ret (.bool true)):Uc_ kn2 sc (iN k) f r.d d kn8=.ret (.bool true):=by
 have hn:r.n<=40:=by lia
 obtain ⟨c,f',e1,hc,hsum,hf'⟩:=zbc_ (most:=most) hf (by lia) w hn (by lia) (by lia)
 have bound:∀ F:List (List Nat),F.Nodup->(∀ x∈F,x.length=r.n/\x.sum=c.sum)->F.length<=126:=fun F nd hF=>by
  refine Nat.le_trans (Zk_ nd (m:=comps r.n c.sum) fun x hx=>UK_ _ _ x (hF x hx).1 (hF x hx).2) ?_
  rcases hb with ⟨h1,h2⟩|⟨h1,h2⟩
  ·exact zgm_ r.n (by lia) c.sum (by lia)
  ·exact zgn_ r.n (by lia) c.sum (by lia)
 obtain ⟨F,nd,mem,hl,e2⟩:=zgA_ w hm hc 126 (by lia) bound
 have fit:∀ x∈F,x.length=r.n/\x.sum=c.sum:=fun x hx=>((mem x).mp hx).fit w hc
 have n1:=w.n1
 have ne:∀ l∈F,l≠[]:=fun l hl z=>by
  have:=(fit l hl).1
  rw [z] at this
  simp at this
  lia
 have e3:u1_ [.dict (F.map (kE (vS r)))]=some (z5_ (F.map cT)):=by
  show (if isXe (F.map (kE (vS r))) then none else if z7_ ((F.map (kE (vS r))).map (·.1)) then some (z5_ ((F.map (kE (vS r))).map (·.1))) else none)=_
  rw [YK_,if_neg (by decide),WF_,if_pos (Zu_ ne)]
 have cm:∀ n,F.length<=n->u3_ r.d (cT c) (iN n)=.ret (z5_ (F.map cT)):=fun n h=>by
  exact (Xm_ w hn (by lia) hc nd mem (by lia) n).trans (if_pos h)
 have i1000:(PyData.int 1000)=iN 1000:=rfl
 have c1000:u3_ r.d (cT c) (.int 1000)=.ret (z5_ (F.map cT)):=by rw [i1000];exact cm 1000 (by lia)
 obtain ⟨r1,r2⟩:=XB_ w hn hs (by lia) hc (by lia)
 obtain ⟨q1,q2⟩:=VR_ fit hn (by lia) (by lia)
 have ll:fLen [.list (z5_ (F.map cT))]=some (iN F.length):=by rw [L4.lenL,(je_ _).length_eq,List.length_map]
 have g1:opGt (iN F.length) (.int 1)=some (decide (1<F.length)):=(L4.gtI _ _).trans (congrArg some (decide_eq_decide.mpr (by lia)))
 unfold Uc_
 rw [em,bdR,e1,bdR];dsimp only
 rw [r1,oMS,bdR,e2,bdR,e3,oMS,bdR,bdR,c1000,bdR,q1,oMS,bdR,bdR,q2,oMS,bdR,if_neg (by decide),show mClr (z5_ (F.map cT)) []=some [] from rfl,oMS,bdR,bdR,bdR,q1,oMS,bdR,bdR,q2,oMS,bdR,if_neg (by decide),ll,oMS,bdR,cm F.length (Nat.le_refl _),bdR,bdR,q1,oMS,bdR,bdR,q2,oMS,bdR,if_neg (by decide),bdR,g1,oMS,bdR]
 have fin:(bd (bd (oM (some (PyData.str (PyData.tuple [r.d,cT c]).shown))) fun x40=>oM (opNe x40 (.str (PyData.tuple [r.d,cT c]).shown))) fun b41=>if b41=true then M.ret (.bool false) else kn8 (sc,iN k,f',r.d,()))=.ret (.bool true):=by
  rw [oMS,bdR,r2,oMS,bdR,if_neg (by decide)]
  exact kk f' hf'
 by_cases h1:1<F.length
 ·have tm:zS_ (fnD "_law_ask") (.tuple [r.d,cT c,iN (F.length - 1)])=.ret (.bool true):=QP_ ((Xm_ w hn (by lia) hc nd mem (by lia) (F.length - 1)).trans (if_neg (by lia)))
  rw [if_pos (by simpa using h1),bdR,zen_ _ (by lia),oMS,bdR,bdR,tm,bdR,show truD (.bool true)=some true from rfl,oMS,bdR,bdR,if_neg (by decide)]
  exact fin
 ·rw [if_neg (by simpa using h1),bdR,if_neg (by decide)]
  exact fin
theorem zfE_ (ns:List Int) (hn:ns.length<=63) (k:Nat) (hk:k<6) (kn2:D×Unit->M D) (kk:kn2 (.list (ns.map PyData.int),())=.ret (.bool true)):Zq_ (.list (ns.map PyData.int)) (iN k) kn2=.ret (.bool true):=by
 obtain ⟨f0,e0,hf0⟩:=zdA_ ns k (by lia) hn
 have lt:y8_ (iN k) (.int 5)=some (decide (k<5)):=by
  show opLt (.int (k:Int)) (.int 5)=_
  rw [L4.ltI]
  congr 1
  exact decide_eq_decide.mpr (by lia)
 have go:∀ m1 m2:Nat,((m1=5/\m2=5)\/(m1=2/\m2=60))->(bd (oM (y8_ (iN k) (.int 5))) fun b4=>if b4 then M.ret (PyData.int 5) else .ret (.int 2))=.ret (iN m1)->(bd (oM (y8_ (iN k) (.int 5))) fun b9=>if b9 then M.ret (PyData.int 5) else .ret (.int 60))=.ret (iN m2)->Zq_ (.list (ns.map PyData.int)) (iN k) kn2=.ret (.bool true):=fun m1 m2 h12 em1 em2=>by
  obtain ⟨r,f1,e1,w,hn1,hs,hm,hf1⟩:=zcy_ (most:=m1) hf0 (by lia) (by lia) (by lia)
  unfold Zq_
  have r2:zZ_ [.int 2]=some ((List.range 2).map iN):=ya_ 2 (by lia)
  rw [e0,bdR,em1,bdR,e1,bdR];dsimp only
  rw [r2,oMS,bdR]
  have hm30:r.ms.length<=30:=by
   have:r.n<=5:=by lia
   have h5:r.n*r.n<=5*5:=Nat.mul_le_mul this this
   lia
  refine WZ_ (P:=fun i s=>∃ f,s=(PyData.list (ns.map PyData.int),iN k,f,r.d,())/\Fd (7000+100*i) f) _ 0 _ _ ?_ ⟨f1,rfl,hf1.le (by lia)⟩ ?_
  ·rintro j s d hd _ hj ⟨f,rfl,hf⟩ kn hkn
   rw [List.length_map,List.length_range] at hj
   dsimp only
   refine zfD_ hf (by lia) w hs hm30 (by lia) em2 kn2 _ d kn fun f' hf'=>hkn _ ⟨f',rfl,hf'.le (by lia)⟩
  ·rintro s ⟨f,rfl,_⟩
   dsimp only
   unfold QC_
   exact kk
 by_cases h:k<5
 ·exact go 5 5 (.inl ⟨rfl,rfl⟩) (by rw [lt,oMS,bdR,if_pos (by simpa using h)];rfl) (by rw [lt,oMS,bdR,if_pos (by simpa using h)];rfl)
 ·exact go 2 60 (.inr ⟨rfl,rfl⟩) (by rw [lt,oMS,bdR,if_neg (by simpa using h)];rfl) (by rw [lt,oMS,bdR,if_neg (by simpa using h)];rfl)
theorem main:∀ ns:List Int,ns.length<=63->zbg_ (.list (ns.map PyData.int))=.ret (.bool true):=by
 intro ns hn
 unfold zbg_
 have r6:zZ_ [.int 6]=some ((List.range 6).map iN):=ya_ 6 (by lia)
 rw [r6,oMS,bdR]
 refine WZ_ (P:=fun i s=>s=(PyData.list (ns.map PyData.int),())) _ 0 _ _ ?_ rfl ?_
 ·rintro j s d hd _ hj rfl kn hkn
  obtain ⟨k,hk,rfl⟩:=List.mem_map.mp hd
  dsimp only
  exact zfE_ ns hn k (List.mem_range.mp hk) kn (hkn _ rfl)
 ·rintro s rfl
  rfl
theorem all_mk {l:PySem.W.OpenLaw} {w:World} {K:Fg} {h:Heap} {mg:Str->Option Value} {fa f0 f1 f2 f3 f4 f5 dT5 f6 f7 f8 f9 f10 f11 f12 f13 f14 Cl_TooMany D_TooMany ga3 Cl_NoCrowd Cl_NoLine Cl_NoMeeting Cl_NoPaper Cl_NoRule Cl_NoText Cl_PassError:Addr} (X:K.In h) (G:h.Ns mainGlobals mg) (hfa:mg "law" = some (.ref fa))
  {oc0 kV0 dc0 pm0 cd0 ct0:Value} {od0 an0:Option Addr} {sl0:Array (Option Value)}
  {oc1 kV1 dc1 pm1 cd1 ct1:Value} {od1 an1:Option Addr} {sl1:Array (Option Value)}
  {oc2 kV2 dc2 pm2 cd2 ct2:Value} {od2 an2:Option Addr} {sl2:Array (Option Value)}
  {oc3 kV3 dc3 pm3 cd3 ct3:Value} {od3 an3:Option Addr} {sl3:Array (Option Value)}
  {oc4 kV4 dc4 pm4 cd4 ct4:Value} {od4 an4:Option Addr} {sl4:Array (Option Value)}
  {oc5 kV5 dc5 pm5 cd5 ct5:Value} {od5 an5:Option Addr} {sl5:Array (Option Value)}
  {do5:Obj} {dn5:Nat} {du5:Value}
  {oc6 kV6 dc6 pm6 cd6 ct6:Value} {od6 an6:Option Addr} {sl6:Array (Option Value)}
  {oc7 kV7 dc7 pm7 cd7 ct7:Value} {od7 an7:Option Addr} {sl7:Array (Option Value)}
  {oc8 kV8 dc8 pm8 cd8 ct8:Value} {od8 an8:Option Addr} {sl8:Array (Option Value)}
  {oc9 kV9 dc9 pm9 cd9 ct9:Value} {od9 an9:Option Addr} {sl9:Array (Option Value)}
  {oc10 kV10 dc10 pm10 cd10 ct10:Value} {od10 an10:Option Addr} {sl10:Array (Option Value)}
  {oc11 kV11 dc11 pm11 cd11 ct11:Value} {od11 an11:Option Addr} {sl11:Array (Option Value)}
  {oc12 kV12 dc12 pm12 cd12 ct12:Value} {od12 an12:Option Addr} {sl12:Array (Option Value)}
  {oc13 kV13 dc13 pm13 cd13 ct13:Value} {od13 an13:Option Addr} {sl13:Array (Option Value)}
  {oc14 kV14 dc14 pm14 cd14 ct14:Value} {od14 an14:Option Addr} {sl14:Array (Option Value)}
  {gbM gbN gbO gbP gbJ gbQ:Value} {gbR gbS:Option Addr} {gbT:Array (Option Value)} {gbh gbi:Str} {N_TooMany:Addr} {gbj:List Value} {gbk:List Str} {gbl:List Value} {gbm:Bool} {gbn:Option Bool} {gbo:Option Addr} {gbp gbq gbr gbs gbt:Option Value}
  (a0:PySem.W.nsIn K mainGlobals "can_be" = some (some (.ref f0))) (l0:K.lookup f0=some ⟨oc0,od0,.func (PySem.W.fnOf "can_be" "can_be" (zr_ j6_) (zo_ j6_) (zb_ j6_) .none kV0 dc0 pm0 an0 cd0 ct0),sl0⟩) (c0:PySem.W.codeIn K cd0 "can_be" = true) (k0:PySem.W.keepIn K (.ref f0)=true)
  (a1:PySem.W.nsIn K mainGlobals "led_to" = some (some (.ref f1))) (l1:K.lookup f1=some ⟨oc1,od1,.func (PySem.W.fnOf "led_to" "led_to" (zr_ j5_) (zo_ j5_) (zb_ j5_) .none kV1 dc1 pm1 an1 cd1 ct1),sl1⟩) (c1:PySem.W.codeIn K cd1 "led_to" = true) (k1:PySem.W.keepIn K (.ref f1)=true)
  (a2:PySem.W.nsIn K mainGlobals "pairs_of" = some (some (.ref f2))) (l2:K.lookup f2=some ⟨oc2,od2,.func (PySem.W.fnOf "pairs_of" "pairs_of" (zr_ jf_) (zo_ jf_) (zb_ jf_) .none kV2 dc2 pm2 an2 cd2 ct2),sl2⟩) (c2:PySem.W.codeIn K cd2 "pairs_of" = true) (k2:PySem.W.keepIn K (.ref f2)=true)
  (a3:PySem.W.nsIn K mainGlobals "leads_at" = some (some (.ref f3))) (l3:K.lookup f3=some ⟨oc3,od3,.func (PySem.W.fnOf "leads_at" "leads_at" (zr_ z0_) (zo_ z0_) (zb_ z0_) .none kV3 dc3 pm3 an3 cd3 ct3),sl3⟩) (c3:PySem.W.codeIn K cd3 "leads_at" = true) (k3:PySem.W.keepIn K (.ref f3)=true)
  (a4:PySem.W.nsIn K mainGlobals "leads_from" = some (some (.ref f4))) (l4:K.lookup f4=some ⟨oc4,od4,.func (PySem.W.fnOf "leads_from" "leads_from" (zr_ zQ_) (zo_ zQ_) (zb_ zQ_) .none kV4 dc4 pm4 an4 cd4 ct4),sl4⟩) (c4:PySem.W.codeIn K cd4 "leads_from" = true) (k4:PySem.W.keepIn K (.ref f4)=true)
  (a5:PySem.W.nsIn K mainGlobals "come" = some (some (.ref f5))) (l5:K.lookup f5=some ⟨oc5,od5,.func (PySem.W.fnOf "come" "come" (zr_ yW_) (zo_ yW_) (zb_ yW_) (.ref dT5) kV5 dc5 pm5 an5 cd5 ct5),sl5⟩) (c5:PySem.W.codeIn K cd5 "come" = true) (k5:PySem.W.keepIn K (.ref f5)=true)
  (dl5:K.lookup dT5=some do5) (de5:do5.data=.seq #[du5] dn5) (dr5:RelV (.int 1000) du5)
  (a6:PySem.W.nsIn K mainGlobals "_law_feed" = some (some (.ref f6))) (l6:K.lookup f6=some ⟨oc6,od6,.func (PySem.W.fnOf "_law_feed" "_law_feed" (zr_ zX_) (zo_ zX_) (zb_ zX_) .none kV6 dc6 pm6 an6 cd6 ct6),sl6⟩) (c6:PySem.W.codeIn K cd6 "_law_feed" = true) (k6:PySem.W.keepIn K (.ref f6)=true)
  (a7:PySem.W.nsIn K mainGlobals "_law_draw" = some (some (.ref f7))) (l7:K.lookup f7=some ⟨oc7,od7,.func (PySem.W.fnOf "_law_draw" "_law_draw" (zr_ zY_) (zo_ zY_) (zb_ zY_) .none kV7 dc7 pm7 an7 cd7 ct7),sl7⟩) (c7:PySem.W.codeIn K cd7 "_law_draw" = true) (k7:PySem.W.keepIn K (.ref f7)=true)
  (a8:PySem.W.nsIn K mainGlobals "_law_rule" = some (some (.ref f8))) (l8:K.lookup f8=some ⟨oc8,od8,.func (PySem.W.fnOf "_law_rule" "_law_rule" (zr_ zK_) (zo_ zK_) (zb_ zK_) .none kV8 dc8 pm8 an8 cd8 ct8),sl8⟩) (c8:PySem.W.codeIn K cd8 "_law_rule" = true) (k8:PySem.W.keepIn K (.ref f8)=true)
  (a9:PySem.W.nsIn K mainGlobals "_law_steps" = some (some (.ref f9))) (l9:K.lookup f9=some ⟨oc9,od9,.func (PySem.W.fnOf "_law_steps" "_law_steps" (zr_ zR_) (zo_ zR_) (zb_ zR_) .none kV9 dc9 pm9 an9 cd9 ct9),sl9⟩) (c9:PySem.W.codeIn K cd9 "_law_steps" = true) (k9:PySem.W.keepIn K (.ref f9)=true)
  (a10:PySem.W.nsIn K mainGlobals "_law_all" = some (some (.ref f10))) (l10:K.lookup f10=some ⟨oc10,od10,.func (PySem.W.fnOf "_law_all" "_law_all" (zr_ z1_) (zo_ z1_) (zb_ z1_) .none kV10 dc10 pm10 an10 cd10 ct10),sl10⟩) (c10:PySem.W.codeIn K cd10 "_law_all" = true) (k10:PySem.W.keepIn K (.ref f10)=true)
  (a11:PySem.W.nsIn K mainGlobals "_law_crowd" = some (some (.ref f11))) (l11:K.lookup f11=some ⟨oc11,od11,.func (PySem.W.fnOf "_law_crowd" "_law_crowd" (zr_ zI_) (zo_ zI_) (zb_ zI_) .none kV11 dc11 pm11 an11 cd11 ct11),sl11⟩) (c11:PySem.W.codeIn K cd11 "_law_crowd" = true) (k11:PySem.W.keepIn K (.ref f11)=true)
  (a12:PySem.W.nsIn K mainGlobals "_law_ask" = some (some (.ref f12))) (l12:K.lookup f12=some ⟨oc12,od12,.func (PySem.W.fnOf "_law_ask" "_law_ask" (zr_ jg_) (zo_ jg_) (zb_ jg_) .none kV12 dc12 pm12 an12 cd12 ct12),sl12⟩) (c12:PySem.W.codeIn K cd12 "_law_ask" = true) (k12:PySem.W.keepIn K (.ref f12)=true)
  (a13:PySem.W.nsIn K mainGlobals "_law_too_many" = some (some (.ref f13))) (l13:K.lookup f13=some ⟨oc13,od13,.func (PySem.W.fnOf "_law_too_many" "_law_too_many" (zr_ zB_) (zo_ zB_) (zb_ zB_) .none kV13 dc13 pm13 an13 cd13 ct13),sl13⟩) (c13:PySem.W.codeIn K cd13 "_law_too_many" = true) (k13:PySem.W.keepIn K (.ref f13)=true)
  (a14:PySem.W.nsIn K mainGlobals "law" = some (some (.ref f14))) (l14:K.lookup f14=some ⟨oc14,od14,.func (PySem.W.fnOf "law" "law" (zr_ ZY_) (zo_ ZY_) (zb_ ZY_) .none kV14 dc14 pm14 an14 cd14 ct14),sl14⟩) (c14:PySem.W.codeIn K cd14 "law" = true) (k14:PySem.W.keepIn K (.ref f14)=true)
  (gaC:PySem.W.nsIn K mainGlobals "TooMany" = some (some (.ref Cl_TooMany))) (ga4:K.lookup Cl_TooMany=some (excClassObj gbh gbi Cl_TooMany N_TooMany gbj (.ref D_TooMany::bmV) true gbk gbl gbm gbn gbo gbp gbq gbr gbs gbt "ValueError.__new__")) (ga5:PySem.W.findIn K (.ref Cl_TooMany) "__init__" = some (some (.ref ga3))) (gbu:K.lookup ga3=some ⟨gbM,gbR,.func (PySem.W.fnOf "__init__" "TooMany.__init__" (zr_ zN_) (zo_ zN_) (zb_ zN_) .none gbN gbO gbP gbS gbJ gbQ),gbT⟩) (gbv:PySem.W.codeIn K gbJ "TooMany.__init__" = true) (gbw:PySem.W.keepIn K (.ref ga3)=true) (gbx:PySem.W.keepIn K (.ref Cl_TooMany)=true) (ga6:PySem.W.tailIn K bmV (.ref D_TooMany::bmV)=true) (ga7:PySem.W.typeIn K (.ref ga3)=some (.type "function")) (ga8:PySem.W.findIn K (.ref Cl_TooMany) "__setattr__" = some (some (.builtin "object.__setattr__"))) (ga9:PySem.W.findIn K (.ref Cl_TooMany) "__getattribute__" = some (some (.builtin "BaseException.__getattribute__"))) (gba:PySem.W.findIn K (.ref Cl_TooMany) "__getattr__" = some none) (gby:PySem.W.exmOne K (.ref Cl_TooMany) (.ref Cl_TooMany)=some true) (gbz:PySem.W.findIn K (.ref Cl_TooMany) "__class__" = some (some (.builtin "object.__class__"))) (gbA:PySem.W.specialIn K (.builtin "object.__class__") "__get__" = some (some (.builtin "getset_descriptor.__get__"))) (gbB:PySem.W.takesIn K (.builtin "object.__class__")=some true) (gbC:(["bool", "int", "str", "list", "tuple", "dict"].all fun T=>PySem.W.kitOne K (.ref Cl_TooMany) (.type T)==some false)=true)
  (gbD:PySem.W.nsIn K mainGlobals "NoCrowd" = some (some (.ref Cl_NoCrowd)))
  (gbG:PySem.W.nsIn K mainGlobals "NoLine" = some (some (.ref Cl_NoLine)))
  (ga0:PySem.W.nsIn K mainGlobals "NoMeeting" = some (some (.ref Cl_NoMeeting)))
  (gbE:PySem.W.nsIn K mainGlobals "NoPaper" = some (some (.ref Cl_NoPaper)))
  (gbH:PySem.W.nsIn K mainGlobals "NoRule" = some (some (.ref Cl_NoRule)))
  (gbI:PySem.W.nsIn K mainGlobals "NoText" = some (some (.ref Cl_NoText)))
  (ga1:PySem.W.nsIn K mainGlobals "PassError" = some (some (.ref Cl_PassError)))
  (gac:PySem.W.kitAny K (.ref Cl_TooMany) [.ref Cl_NoCrowd,.ref Cl_NoLine,.ref Cl_NoMeeting,.ref Cl_NoPaper,.ref Cl_NoRule,.ref Cl_NoText]=some false)
  (gaG:PySem.W.kitOne K (.ref Cl_TooMany) (.ref Cl_TooMany)=some true)
  (gaz:PySem.W.kitOne K (.ref Cl_TooMany) (.type "ValueError")=some true)
  (gaD:PySem.W.exmOne K (.ref Cl_TooMany) (.ref Cl_PassError)=some true)
  (z_range:PySem.W.nsIn K mainGlobals "range" = some none)
  (z_len:PySem.W.nsIn K mainGlobals "len" = some none)
  (z_tuple:PySem.W.nsIn K mainGlobals "tuple" = some none)
  (z_list:PySem.W.nsIn K mainGlobals "list" = some none)
  (z_max:PySem.W.nsIn K mainGlobals "max" = some none)
  (z_min:PySem.W.nsIn K mainGlobals "min" = some none)
  (z_sum:PySem.W.nsIn K mainGlobals "sum" = some none)
  (z_abs:PySem.W.nsIn K mainGlobals "abs" = some none)
  (z_repr:PySem.W.nsIn K mainGlobals "repr" = some none)
  (z_enumerate:PySem.W.nsIn K mainGlobals "enumerate" = some none)
  (z_isinstance:PySem.W.nsIn K mainGlobals "isinstance" = some none)
  (z_all:PySem.W.nsIn K mainGlobals "all" = some none)
  (z_any:PySem.W.nsIn K mainGlobals "any" = some none)
  (z_int:PySem.W.nsIn K mainGlobals "int" = some none)
  (z_str:PySem.W.nsIn K mainGlobals "str" = some none)
  (z_bool:PySem.W.nsIn K mainGlobals "bool" = some none)
  (z_zip:PySem.W.nsIn K mainGlobals "zip" = some none)
  (z_sorted:PySem.W.nsIn K mainGlobals "sorted" = some none)
  (z_set:PySem.W.nsIn K mainGlobals "set" = some none)
  (z_dict:PySem.W.nsIn K mainGlobals "dict" = some none)
  (z_reversed:PySem.W.nsIn K mainGlobals "reversed" = some none)
  (z_ValueError:PySem.W.nsIn K mainGlobals "ValueError" = some none) :
  ∃ fd:FuncData,(∀ (s:Shared) (v:Value),BindsTo s fd ⟨[v],[]⟩ [("_law_script",v)])/\∀ base:Heap,K.In base->base.Ns mainGlobals mg->FnOk l.prog w K mg base (CX1 l.prog w) 7 fa fd ["_law_script"] (spD K 1 UI_):=by
 have e:=hfa.symm.trans (PySem.W.mg_of X G a14)
 cases e
 have B:BN mg:=⟨PySem.W.mg_none_of X G z_range,PySem.W.mg_none_of X G z_len,PySem.W.mg_none_of X G z_tuple,PySem.W.mg_none_of X G z_list,PySem.W.mg_none_of X G z_max,PySem.W.mg_none_of X G z_min,PySem.W.mg_none_of X G z_sum,PySem.W.mg_none_of X G z_abs,PySem.W.mg_none_of X G z_repr,PySem.W.mg_none_of X G z_enumerate,PySem.W.mg_none_of X G z_isinstance,PySem.W.mg_none_of X G z_all,PySem.W.mg_none_of X G z_any,PySem.W.mg_none_of X G z_int,PySem.W.mg_none_of X G z_str,PySem.W.mg_none_of X G z_bool,PySem.W.mg_none_of X G z_zip,PySem.W.mg_none_of X G z_sorted,PySem.W.mg_none_of X G z_set,PySem.W.mg_none_of X G z_dict,PySem.W.mg_none_of X G z_reversed,PySem.W.mg_none_of X G z_ValueError⟩
 have Kn:KN mg:=⟨trivial⟩
 have Kx:KX K mg:=⟨⟨[Cl_NoCrowd,Cl_NoLine,Cl_NoMeeting,Cl_NoPaper,Cl_NoRule,Cl_NoText],⟨PySem.W.mg_of X G gbD,PySem.W.mg_of X G gbG,PySem.W.mg_of X G ga0,PySem.W.mg_of X G gbE,PySem.W.mg_of X G gbH,PySem.W.mg_of X G gbI,trivial⟩,⟨⟨_,gaC,gac⟩,trivial⟩⟩,⟨_,PySem.W.mg_of X G gaC,⟨⟨_,gaC,gaG⟩,trivial⟩⟩,⟨⟨_,gaC,gaz⟩,trivial⟩,⟨_,PySem.W.mg_of X G ga1,⟨⟨_,gaC,gaD⟩,trivial⟩⟩,⟨_,PySem.W.mg_of X G a12,a12⟩⟩
 have F0:=jB_ (st:=j6_) l0 c0 k0
 have F1:=jB_ (st:=j5_) l1 c1 k1
 have F2:=jB_ (st:=jf_) l2 c2 k2
 have F3:=jB_ (st:=z0_) l3 c3 k3
 have F4:=jB_ (st:=zQ_) l4 c4 k4
 have F5:=zdw_ (st:=yW_) l5 c5 k5
 have T5:DfT K dT5 1000:=⟨_,_,_,dl5,de5,dr5⟩
 have F6:=jB_ (st:=zX_) l6 c6 k6
 have F7:=jB_ (st:=zY_) l7 c7 k7
 have F8:=jB_ (st:=zK_) l8 c8 k8
 have F9:=jB_ (st:=zR_) l9 c9 k9
 have F10:=jB_ (st:=z1_) l10 c10 k10
 have F11:=jB_ (st:=zI_) l11 c11 k11
 have F12:=jB_ (st:=jg_) l12 c12 k12
 have F13:=jB_ (st:=zB_) l13 c13 k13
 have F14:=jB_ (st:=ZY_) l14 c14 k14
 refine ⟨PySem.W.fnOf "law" "law" (zr_ ZY_) (zo_ ZY_) (zb_ ZY_) .none kV14 dc14 pm14 an14 cd14 ct14,fun s v=>.of_eq rfl,fun base _ _=>?_⟩
 have X_TooMany:CCl l.prog w K mg base "TooMany" 1 []:=Vp_ (P:=l.prog) (w:=w) (base:=base) (jB_ (st:=zN_) gbu gbv gbw) ⟨⟨gbh,gbi,N_TooMany,gbj,gbk,gbl,gbm,gbn,gbo,gbp,gbq,gbr,gbs,gbt,ga4⟩,ga6,ga5,ga7,ga8,ga9,gba⟩ (PySem.W.mg_of X G gaC) ⟨gaC,⟨_,_,⟨⟨gbh,gbi,N_TooMany,gbj,gbk,gbl,gbm,gbn,gbo,gbp,gbq,gbr,gbs,gbt,ga4⟩,ga6,ga5,ga7,ga8,ga9,gba⟩⟩,⟨gbz,gbA,gbB⟩,zgG_ gbC⟩ gbx (by intro f hf;cases hf) gby
 have gbc:=Wn_ (P:=l.prog) (w:=w) (base:=base) F0 (PySem.W.mg_of X G a0) B Kn Kx
 have gbd:=Wl_ (P:=l.prog) (w:=w) (base:=base) F1 (PySem.W.mg_of X G a1) B Kn Kx
 have gaP:=Yv_ (P:=l.prog) (w:=w) (base:=base) F2 (PySem.W.mg_of X G a2) B Kn Kx
 have gaQ:=Yw_ (P:=l.prog) (w:=w) (base:=base) F3 (PySem.W.mg_of X G a3) B Kn Kx gbc gbd
 have gas:=JR_ (P:=l.prog) (w:=w) (base:=base) F4 (PySem.W.mg_of X G a4) B Kn Kx gaP gaQ X_TooMany
 have gbb:=zdf_ (P:=l.prog) (w:=w) (base:=base) F5 T5 (PySem.W.mg_of X G a5) B Kn Kx gas
 have D_come:=zdh_ (P:=l.prog) (w:=w) (base:=base) F5 T5 (PySem.W.mg_of X G a5) B Kn Kx gas
 have gaN:=UF_ (P:=l.prog) (w:=w) (base:=base) F6 (PySem.W.mg_of X G a6) B Kn Kx
 have gah:=UG_ (P:=l.prog) (w:=w) (base:=base) F7 (PySem.W.mg_of X G a7) B Kn Kx
 have gaO:=UE_ (P:=l.prog) (w:=w) (base:=base) F8 (PySem.W.mg_of X G a8) B Kn Kx gah
 have gaI:=JS_ (P:=l.prog) (w:=w) (base:=base) F9 (PySem.W.mg_of X G a9) B Kn Kx
 have gaS:=Yy_ (P:=l.prog) (w:=w) (base:=base) F10 (PySem.W.mg_of X G a10) B Kn Kx gaI
 have gaJ:=JT_ (P:=l.prog) (w:=w) (base:=base) F11 (PySem.W.mg_of X G a11) B Kn Kx gah
 have gaR:=Yx_ (P:=l.prog) (w:=w) (base:=base) F12 (PySem.W.mg_of X G a12) B Kn Kx gbb D_come
 have gay:=y9_ (P:=l.prog) (w:=w) (base:=base) F13 (PySem.W.mg_of X G a13) B Kn Kx gaR
 exact zbW_ F14 B Kn Kx gaN gaO gaJ gbb gaS gay D_come
theorem walk {l:PySem.W.OpenLaw} {q:Program} {loose:List Str} {XP:(Str->Option Value)->Heap->Prop} {YP:World->Heap->Prop} {d:DefRec} {K:Params->Fg} (main:∀ ns:List Int,ns.length<=63->zbg_ (.list (ns.map PyData.int))=.ret (.bool true)) (hn:l.most=some 63) (hdf:d.params.defaults=[])
  (hY:∀ (w:World) (h:Heap),YP w h->(K w.params).In h)
  (F:∀ (w:World) (mg:Str->Option Value) (fa:Addr) (h:Heap),(K w.params).In h->h.Ns mainGlobals mg->mg d.name=some (.ref fa) ->
   ∃ fd:FuncData,(∀ (s:Shared) (u:Value),BindsTo s fd ⟨[u],[]⟩ [("_law_script",u)])/\∀ base:Heap,(K w.params).In base->base.Ns mainGlobals mg->FnOk l.prog w (K w.params) mg base (CX1 l.prog w) 7 fa fd ["_law_script"] (spD (K w.params) 1 UI_)) :
  PySem.W.WalkO q loose XP YP l.row.toRowW d [] (fun f vs=>PySem.call f vs) :=
 L2.walk_of (n:=63) (k:=7) (x := "_law_script") (CX:=fun w=>CX1 l.prog w) (sp:=fun w=>spD (K w.params) 1 UI_) hn (by decide) hdf ⟨rfl,by decide,by decide,rfl⟩ hY F (fun w H a ns hl _ hS=>WA_ hS (main ns hl)) fun _ _ _ _ _ ⟨_,_,_,_,_,_,_,_,_,_,z⟩=>z
end K30
open PySem PySem.W PyProof.Rows
set_option maxRecDepth 100000 in
set_option maxHeartbeats 0 in
theorem PySem.Challenge.cw_passersby_k30_what_comes_holds : PySem.Challenge.rw_passersby_k30_what_comes.Holds := by
 w_on;o_law;k_head;(case hw=>w_witness2)
 k_fill
 refine K30.walk (l:=PySem.Challenge.rw_passersby_k30_what_comes) K30.main rfl rfl (fun w h Y=>PySem.W.kIn_of Y) ?F
 case F =>
  intro w mg fa h KX G hmg
  refine' K30.all_mk KX G hmg ?a0 ?l0 ?c0 ?k0 ?a1 ?l1 ?c1 ?k1 ?a2 ?l2 ?c2 ?k2 ?a3 ?l3 ?c3 ?k3 ?a4 ?l4 ?c4 ?k4 ?a5 ?l5 ?c5 ?k5 ?dl5 ?de5 ?dr5 ?a6 ?l6 ?c6 ?k6 ?a7 ?l7 ?c7 ?k7 ?a8 ?l8 ?c8 ?k8 ?a9 ?l9 ?c9 ?k9 ?a10 ?l10 ?c10 ?k10 ?a11 ?l11 ?c11 ?k11 ?a12 ?l12 ?c12 ?k12 ?a13 ?l13 ?c13 ?k13 ?a14 ?l14 ?c14 ?k14 ?gaC ?ga4 ?ga5 ?gbu ?gbv ?gbw ?gbx ?ga6 ?ga7 ?ga8 ?ga9 ?gba ?gby ?gbz ?gbA ?gbB ?gbC ?gbD ?gbG ?ga0 ?gbE ?gbH ?gbI ?ga1 ?gac ?gaG ?gaz ?gaD ?z_range ?z_len ?z_tuple ?z_list ?z_max ?z_min ?z_sum ?z_abs ?z_repr ?z_enumerate ?z_isinstance ?z_all ?z_any ?z_int ?z_str ?z_bool ?z_zip ?z_sorted ?z_set ?z_dict ?z_reversed ?z_ValueError
  (case a0=>k_is)
  (case l0=>k_is)
  (case c0=>k_is)
  (case k0=>k_is)
  (case a1=>k_is)
  (case l1=>k_is)
  (case c1=>k_is)
  (case k1=>k_is)
  (case a2=>k_is)
  (case l2=>k_is)
  (case c2=>k_is)
  (case k2=>k_is)
  (case a3=>k_is)
  (case l3=>k_is)
  (case c3=>k_is)
  (case k3=>k_is)
  (case a4=>k_is)
  (case l4=>k_is)
  (case c4=>k_is)
  (case k4=>k_is)
  (case a5=>k_is)
  (case l5=>k_is)
  (case c5=>k_is)
  (case k5=>k_is)
  (case dl5=>k_is)
  (case de5=>rfl)
  (case dr5=>exact ⟨_,rfl⟩)
  (case a6=>k_is)
  (case l6=>k_is)
  (case c6=>k_is)
  (case k6=>k_is)
  (case a7=>k_is)
  (case l7=>k_is)
  (case c7=>k_is)
  (case k7=>k_is)
  (case a8=>k_is)
  (case l8=>k_is)
  (case c8=>k_is)
  (case k8=>k_is)
  (case a9=>k_is)
  (case l9=>k_is)
  (case c9=>k_is)
  (case k9=>k_is)
  (case a10=>k_is)
  (case l10=>k_is)
  (case c10=>k_is)
  (case k10=>k_is)
  (case a11=>k_is)
  (case l11=>k_is)
  (case c11=>k_is)
  (case k11=>k_is)
  (case a12=>k_is)
  (case l12=>k_is)
  (case c12=>k_is)
  (case k12=>k_is)
  (case a13=>k_is)
  (case l13=>k_is)
  (case c13=>k_is)
  (case k13=>k_is)
  (case a14=>k_is)
  (case l14=>k_is)
  (case c14=>k_is)
  (case k14=>k_is)
  (case gaC=>k_is)
  (case ga4=>k_is)
  (case ga5=>k_is)
  (case gbu=>k_is)
  (case gbv=>k_is)
  (case gbw=>k_is)
  (case gbx=>k_is)
  (case ga6=>kernel_rfl)
  (case ga7=>k_is)
  (case ga8=>k_is)
  (case ga9=>k_is)
  (case gba=>k_is)
  (case gby=>kernel_rfl)
  (case gbz=>k_is)
  (case gbA=>k_is)
  (case gbB=>k_is)
  (case gbC=>kernel_rfl)
  (case gbD=>k_is)
  (case gbG=>k_is)
  (case ga0=>k_is)
  (case gbE=>k_is)
  (case gbH=>k_is)
  (case gbI=>k_is)
  (case ga1=>k_is)
  (case gac=>kernel_rfl)
  (case gaG=>kernel_rfl)
  (case gaz=>kernel_rfl)
  (case gaD=>kernel_rfl)
  (case z_range=>k_is)
  (case z_len=>k_is)
  (case z_tuple=>k_is)
  (case z_list=>k_is)
  (case z_max=>k_is)
  (case z_min=>k_is)
  (case z_sum=>k_is)
  (case z_abs=>k_is)
  (case z_repr=>k_is)
  (case z_enumerate=>k_is)
  (case z_isinstance=>k_is)
  (case z_all=>k_is)
  (case z_any=>k_is)
  (case z_int=>k_is)
  (case z_str=>k_is)
  (case z_bool=>k_is)
  (case z_zip=>k_is)
  (case z_sorted=>k_is)
  (case z_set=>k_is)
  (case z_dict=>k_is)
  (case z_reversed=>k_is)
  (case z_ValueError=>k_is)
