import PyProof.Rows.All
import Wide.All
import OpenK.AllK
import Wide.FinOn
import Lean
import PyProof.EqAt
import PyProof.EqKinds
import PyProof.TupleCall
import PySem.Challenge.RW_passersby_k14_how_many_rooms
set_option Elab.async false
set_option linter.all false
set_option maxRecDepth 100000
namespace L2
open PySem PySem.Spec PyProof.Rows
noncomputable abbrev Key:=Sum Int Str
noncomputable def QU_:Key→Value→Bool
 | .inl k,v=>Value.isInt k v
 | .inr x,v=>Value.isStrOf x v
noncomputable def keyH (w:World):Key→Int
 | .inl k=>hashInt k
 | .inr x=>hashStr w x
theorem z9_:∀ {k:Key} {v:Value},QU_ k v=true→(∃ i t,k=Sum.inl i∧v=Value.int i t)∨(∃ x t,k=Sum.inr x∧v=Value.str x t)
 | .inl i,v,h=>by
  obtain ⟨t,e⟩:=Value.isInt_shape (k:=i) (v:=v) h
  exact .inl ⟨i,t,rfl,e⟩
 | .inr x,v,h=>by
  obtain ⟨t,e⟩:=Value.isStrOf_shape (x:=x) (v:=v) h
  exact .inr ⟨x,t,rfl,e⟩
theorem V8_ (i:Int) (t:Tok):QU_ (.inl i) (.int i t)=true:=by simp [QU_,Value.isInt]
theorem V7_ (x:Str) (t:Tok):QU_ (.inr x) (.str x t)=true:=by simp [QU_,Value.isStrOf]
theorem zcB_ (a b:Int):decide ((Sum.inl a:Key)=Sum.inl b)=(a==b):=by
 by_cases e:a=b
 ·subst e;simp
 ·have h:¬ (Sum.inl a:Key)=Sum.inl b:=fun q=>e (Sum.inl.inj q)
  rw [decide_eq_false h]
  exact (beq_eq_false_iff_ne.mpr e).symm
theorem zcy_ (a b:Str):decide ((Sum.inr a:Key)=Sum.inr b)=decide (a=b):=by
 by_cases e:a=b
 ·subst e;simp
 ·have h:¬ (Sum.inr a:Key)=Sum.inr b:=fun q=>e (Sum.inr.inj q)
  rw [decide_eq_false h,decide_eq_false e]
theorem zcA_ (a:Int) (b:Str):decide ((Sum.inl a:Key)=Sum.inr b)=false:=decide_eq_false (fun q=>nomatch q)
theorem zcz_ (a:Str) (b:Int):decide ((Sum.inr a:Key)=Sum.inl b)=false:=decide_eq_false (fun q=>nomatch q)
noncomputable def z2_ (prog:Program) (w:World):PySem.KeyKind prog w Key where
 is:=QU_
 hash:=keyH w
 inj:=fun v a b ha hb=>by
  rcases z9_ ha with ⟨i,t,rfl,rfl⟩|⟨x,t,rfl,rfl⟩
  ·rcases z9_ hb with ⟨j,u,rfl,e⟩|⟨y,u,rfl,e⟩
   ·injection e with e1 _;rw [e1]
   ·exact nomatch e
  ·rcases z9_ hb with ⟨j,u,rfl,e⟩|⟨y,u,rfl,e⟩
   ·exact nomatch e
   ·injection e with e1 _;rw [e1]
 byValue:=fun k v h=>by
  rcases z9_ h with ⟨i,t,rfl,rfl⟩|⟨x,t,rfl,rfl⟩<;>rfl
 pyHash:=fun hv h=>by
  rcases z9_ hv with ⟨i,t,rfl,rfl⟩|⟨x,t,rfl,rfl⟩
  ·exact wpAny_pyHash_int h
  ·exact wpAny_pyHash_str h
 eqBool:=fun hu hv h=>by
  rcases z9_ hu with ⟨i,t,rfl,rfl⟩|⟨x,t,rfl,rfl⟩
  ·rcases z9_ hv with ⟨j,u,rfl,rfl⟩|⟨y,u,rfl,rfl⟩
   ·rw [zcB_] at h;exact wpAny_eqBool_int h
   ·rw [zcA_] at h;exact SeqAt.EqAt.int_str i t y u _ _ _ _ h
  ·rcases z9_ hv with ⟨j,u,rfl,rfl⟩|⟨y,u,rfl,rfl⟩
   ·rw [zcz_] at h;exact SeqAt.EqAt.str_int x t j u _ _ _ _ h
   ·rw [zcy_] at h;exact wpAny_eqBool_str h
 «strs»:=fun k x t v h=>by
  rcases z9_ h with ⟨i,u,rfl,e⟩|⟨y,u,rfl,e⟩
  ·exact nomatch e
  ·injection e with e1 _
   subst e1
   cases v<;>rfl
theorem Yw_ (prog:Program) (w:World) (i:Int) (t:Tok):(z2_ prog w).is (.inl i) (.int i t)=true:=V8_ i t
theorem Yv_ (prog:Program) (w:World) (x:Str) (t:Tok):(z2_ prog w).is (.inr x) (.str x t)=true:=V7_ x t
end L2
namespace L2
open PySem PySem.Spec PyProof.Rows
inductive V where
 | non|bl (b:Bool)|int (i:Int)|str (x:Str)|byt (b:Array UInt8)|flt (b:UInt64)|ref (a:Addr)|ty (n:String)
 deriving DecidableEq
noncomputable def RelV:V→Value→Prop
 | .non,u=>u=Value.none
 | .bl b,u=>u=Value.bool b
 | .int i,u=>∃ t,u=Value.int i t
 | .str x,u=>∃ t,u=Value.str x t
 | .byt b,u=>∃ t,u=Value.bytes b t
 | .flt b,u=>∃ t,u=Value.float b t
 | .ref a,u=>u=Value.ref a
 | .ty n,u=>u=Value.type n
noncomputable abbrev Vals:List V→List Value→Prop:=Paired RelV
theorem Vals.length {xs:List V} {us:List Value} (r:Vals xs us):xs.length=us.length:=Paired.length r
theorem Vals.get:∀ {xs:List V} {us:List Value} {i:Nat} {x:V},Vals xs us→xs[i]? = some x→∃ u,us[i]? = some u∧RelV x u
 | _,_,_,_,.nil,e=>by simp at e
 | _,_,0,_,.cons r _,e=>by simp at e;subst e;exact ⟨_,rfl,r⟩
 | _,_,i+1,x,.cons _ t,e=>by
  obtain ⟨u,h1,h2⟩:=Vals.get (i:=i) (x:=x) t (by simpa using e)
  exact ⟨u,by simpa using h1,h2⟩
theorem Vals.set {x:V} {u:Value} (r:RelV x u):∀ {xs:List V} {us:List Value} (i:Nat),Vals xs us→Vals (xs.set i x) (us.set i u)
 | _,_,_,.nil=>.nil
 | _,_,0,.cons _ t=>.cons r t
 | _,_,i+1,.cons q t=>.cons q (Vals.set r i t)
theorem Vals.append {xs ys:List V} {us ws:List Value} (h:Vals xs us) (s:Vals ys ws):Vals (xs++ys) (us++ws):=by
 induction h with
 | nil=>exact s
 | cons r _ ih=>exact .cons r ih
theorem Vals.take:∀ {xs:List V} {us:List Value} (n:Nat),Vals xs us→Vals (xs.take n) (us.take n)
 | _,_,0,_=>.nil
 | _,_,_+1,.nil=>.nil
 | _,_,n+1,.cons r t=>.cons r (Vals.take n t)
theorem Vals.drop:∀ {xs:List V} {us:List Value} (n:Nat),Vals xs us→Vals (xs.drop n) (us.drop n)
 | _,_,0,r=>r
 | _,_,_+1,.nil=>.nil
 | _,_,n+1,.cons _ t=>Vals.drop n t
noncomputable def RelO:Option V→Option Value→Prop
 | some v,some u=>RelV v u
 | none,none=>True
 | _,_=>False
noncomputable def KV {κ:Type}:List (κ×V)→List (κ×Value)→Prop:=Paired fun (p:κ×V) (q:κ×Value)=>p.1=q.1∧RelV p.2 q.2
noncomputable def kV:Key→V
 | .inl i=>.int i
 | .inr x=>.str x
inductive HO where
 | lst (xs:List V)
 | tup (xs:List V)
 | dK (kvs:List (Key×V))|dT (kvs:List (List Key×V))
 | set (S:Int→Bool) (n:Nat)
 | ins (C dx:Addr) (fs:List (Str×V))
 | own (x:Addr)
 | xd (fs:List (Str×V))
 | met (f x:Addr)
 | rng (lo hi:Int)
 | frz (o:Obj) (u:HO)
 | tbl (ps:Array Value)
 | ext (φ:Heap→Prop)
noncomputable abbrev Hp:=Addr→Option HO
noncomputable def upd (H:Hp) (a:Addr) (o:HO):Hp:=fun b=>if b=a then some o else H b
theorem zy_ {H:Hp} {a:Addr} {o:HO}:upd H a o a=some o:=by unfold upd;rw [if_pos rfl]
theorem zp_ {H:Hp} {a b:Addr} {o:HO} (h:b≠a):upd H a o b=H b:=by unfold upd;rw [if_neg h]
theorem zdH_ {H:Hp} {a b:Addr} {o u:HO} (h:H a=some o) (h':H b=some u) (d:o≠u):a≠b:=by
 intro e;subst e;rw [h] at h';exact d (Option.some.inj h')
theorem zq_ {H:Hp} {a b:Addr} {o:HO} (h:H a=some o) (h':H b=none):a≠b:=by
 intro e;subst e;rw [h] at h';cases h'
section
variable (P:Program) (w:World)
noncomputable def _root_.L2.TupN (h:Heap) (a:Addr):Prop:=∃ o,h.get? a=some o∧o.dict=none
theorem _root_.L2.TupN.new (h:Heap) (items:Array Value):TupN (h.push { cls:=.type "tuple",data:=.seq items }) h.objs.size:=⟨_,Heap.get?_push_size _ rfl,rfl⟩
noncomputable def ObjOk (H:Hp) (h:Heap) (a:Addr):HO→Prop
 | .lst xs=>xs.length≤sizeLine∧∃ (its:List Value) (n:Nat),Vals xs its∧h.get? a=some { cls:=.type "list",data:=.seq its.toArray n }
 | .tup xs=>xs.length≤sizeLine∧∃ its:List Value,Vals xs its∧IsTup h a its.toArray∧TupN h a
 | .dK kvs=>kvs.length≤sizeLine∧(a==sysModules)=false∧∃ vs,KV kvs vs∧h.DictOf (z2_ P w) a vs
 | .dT kvs=>kvs.length≤sizeLine∧(a==sysModules)=false∧∃ xs:List (List Key×Addr×Value),
   Paired (fun (p:List Key×V) (q:List Key×Addr×Value)=>p.1=q.1∧H q.2.1=some (.tup (p.1.map kV))∧RelV p.2 q.2.2) kvs xs ∧
   ∃ o es ep,h.get? a=some o∧o.ExactDict∧o.data=.dict es ep∧es.toList=xs.map (entryOfKey (tupleKind (z2_ P w)))∧(xs.map (·.1)).Nodup
 | .set S n=>h.SetOf (intKind P w) a S n
 | .ins C dx fs=>H dx=some (.own a)∧fs.length≤1000∧dx≠a∧h.get? a=some (PySem.W.instObj C dx) ∧
   ∃ mA,h.Ns1 dx mA∧(∀ f,RelO (fs.lookup f) (mA f))∧PySem.Within mA (fs.map (·.1))
 | .own _=>∃ o,h.get? a=some o
 | .xd fs=>∃ mA,h.Ns1 a mA∧∀ f,RelO (fs.lookup f) (mA f)
 | .rng lo hi=>∃ t u v,h.get? a=some { cls:=.type "range",data:=.fields #[.int lo t,.int hi u,.int 1 v] }
 | .frz o u=>h.get? a=some o∧ObjOk H h a u
 | .tbl ps=>h.get? a=some { cls:=.none,data:=.fields ps }
 | .met f x=>h.get? a=some (PySem.W.methodObj (.ref f) (.ref x))
 | .ext φ=>φ h∧(∃ o,h.get? a=some o)∧∀ h1 h2:Heap,φ h1→(∀ o,h1.get? a=some o→h2.get? a=some o)→φ h2
noncomputable def HOk (H:Hp) (h:Heap):Prop:=∀ a o,H a=some o→ObjOk P w H h a o
end
section
variable {P:Program} {w:World} {H H':Hp} {h h':Heap} {a:Addr} {o:HO}
theorem ObjOk.lt (x:ObjOk P w H h a o):a<h.objs.size:=by
 cases o with
 | lst xs=>obtain ⟨_,_,_,_,e⟩:=x;exact Heap.lt_size e
 | tup xs=>obtain ⟨_,_,_,p⟩:=x;exact p.1.lt
 | dK kvs=>obtain ⟨_,_,_,_,o,_,_,e,_⟩:=x;exact Heap.lt_size e
 | dT kvs=>obtain ⟨_,_,_,_,o,_,_,e,_⟩:=x;exact Heap.lt_size e
 | set S n=>obtain ⟨o,_,_,_,e,_⟩:=x;exact Heap.lt_size e
 | ins C dx fs=>obtain ⟨_,_,_,e,_⟩:=x;exact Heap.lt_size e
 | own y=>obtain ⟨_,e⟩:=x;exact Heap.lt_size e
 | xd fs=>obtain ⟨_,⟨_,_,_,e,_⟩,_⟩:=x;exact Heap.lt_size e
 | rng lo hi=>obtain ⟨_,_,_,e⟩:=x;exact Heap.lt_size e
 | frz ob u=>obtain ⟨e,_⟩:=x;exact Heap.lt_size e
 | tbl ps=>exact Heap.lt_size (show h.get? a=some _ from x)
 | met f y=>exact Heap.lt_size (show h.get? a=some _ from x)
 | ext φ=>obtain ⟨_,⟨_,e⟩,_⟩:=x;exact Heap.lt_size e
theorem Paired.mapP {α β:Type} {F G:α→β→Prop} {l₁:List α} {l₂:List β} (h:Paired F l₁ l₂) (f:∀ a b,F a b→G a b):Paired G l₁ l₂:=by
 induction h with
 | nil=>exact .nil
 | cons r _ ih=>exact .cons (f _ _ r) ih
theorem ObjOk.stay (x:ObjOk P w H h a o) (k:∀ b u,(b=a∨H b=some (.own a))→h.get? b=some u→h'.get? b=some u)
  (ho:∀ b,H b=some (.own a)→H' b=some (.own a)) (ht:∀ b xs,H b=some (.tup xs)→H' b=some (.tup xs)):ObjOk P w H' h' a o:=by
 induction o with
 | lst xs=>obtain ⟨z,its,n,r,e⟩:=x;exact ⟨z,its,n,r,k _ _ (.inl rfl) e⟩
 | tup xs=>obtain ⟨z,its,r,⟨ob,e,c⟩,ob2,e2,c2⟩:=x;exact ⟨z,its,r,⟨ob,k _ _ (.inl rfl) e,c⟩,ob2,k _ _ (.inl rfl) e2,c2⟩
 | dK kvs=>obtain ⟨z,y,vs,r,ob,es,ep,e,c⟩:=x;exact ⟨z,y,vs,r,ob,es,ep,k _ _ (.inl rfl) e,c⟩
 | dT kvs =>
  obtain ⟨z,y,xs,r,ob,es,ep,e,c⟩:=x
  exact ⟨z,y,xs,Paired.mapP r fun p q z=>⟨z.1,ht _ _ z.2.1,z.2.2⟩,ob,es,ep,k _ _ (.inl rfl) e,c⟩
 | set S n=>obtain ⟨ob,es,ep,t,e,c⟩:=x;exact ⟨ob,es,ep,t,k _ _ (.inl rfl) e,c⟩
 | ins C dx fs =>
  obtain ⟨d,z,ne,e,mA,⟨od,es,ep,e2,c⟩,r⟩:=x
  exact ⟨ho _ d,z,ne,k _ _ (.inl rfl) e,mA,⟨od,es,ep,k _ _ (.inr d) e2,c⟩,r⟩
 | own y=>obtain ⟨ob,e⟩:=x;exact ⟨ob,k _ _ (.inl rfl) e⟩
 | xd fs=>obtain ⟨mA,⟨od,es,ep,e,c⟩,r⟩:=x;exact ⟨mA,⟨od,es,ep,k _ _ (.inl rfl) e,c⟩,r⟩
 | rng lo hi=>obtain ⟨t,u,v,e⟩:=x;exact ⟨t,u,v,k _ _ (.inl rfl) e⟩
 | frz ob u ih=>obtain ⟨e,q⟩:=x;exact ⟨k _ _ (.inl rfl) e,ih q⟩
 | tbl ps =>
  have e:h.get? a=some { cls:=.none,data:=.fields ps }:=x
  show h'.get? a=some { cls:=.none,data:=.fields ps }
  exact k a _ (.inl rfl) e
 | met f y =>
  have e:h.get? a=some (PySem.W.methodObj (.ref f) (.ref y)):=x
  show h'.get? a=some (PySem.W.methodObj (.ref f) (.ref y))
  exact k a _ (.inl rfl) e
 | ext φ=>obtain ⟨p,⟨o,e⟩,st⟩:=x;exact ⟨st _ _ p fun o q=>k _ _ (.inl rfl) q,⟨o,k _ _ (.inl rfl) e⟩,st⟩
theorem HOk.lt (x:HOk P w H h) (e:H a=some o):a<h.objs.size:=(x a o e).lt
theorem HOk.fresh (x:HOk P w H h) (e:h.objs.size≤a):H a=none:=by
 cases q:H a with
 | none=>rfl
 | some u=>exact absurd (Nat.lt_of_lt_of_le (x.lt q) e) (Nat.lt_irrefl _)
theorem HOk.kept (x:HOk P w H h) (k:∀ b u,h.get? b=some u→h'.get? b=some u):HOk P w H h':=fun a o e =>
 (x a o e).stay (fun b u _ q=>k b u q) (fun _ q=>q) fun _ _ q=>q
theorem HOk.laid (x:HOk P w H h) (k:∀ b u,h.get? b=some u→h'.get? b=some u) (hp:h.objs.size≤a) (new:ObjOk P w (upd H a o) h' a o):HOk P w (upd H a o) h':=fun b u e=>by
 have hn:=x.fresh hp
 by_cases hb:b=a
 ·subst hb;rw [zy_] at e;cases e;exact new
 ·rw [zp_ hb] at e
  exact (x b u e).stay (fun c v _ q=>k c v q) (fun c q=>by rw [zp_ (zq_ q hn)];exact q) fun c xs q=>by rw [zp_ (zq_ q hn)];exact q
end
noncomputable def Rd (H:Hp) (a:Addr) (u:HO):Prop:=H a=some u∨∃ o,H a=some (.frz o u)
theorem Rd.ok {P:Program} {w:World} {H:Hp} {h:Heap} {a:Addr} {u:HO} (r:Rd H a u) (x:HOk P w H h):ObjOk P w H h a u:=by
 rcases r with r|⟨o,r⟩
 ·exact x a u r
 ·obtain ⟨_,q⟩:=x a _ r
  exact q
noncomputable def Mut:Option HO→Prop
 | some (.lst _)=>True
 | some (.dK _)=>True
 | some (.dT _)=>True
 | some (.set _ _)=>True
 | some (.ins _ _ _)=>True
 | some (.ext _)=>True
 | _=>False
section
variable {P:Program} {w:World} {H:Hp} {h h':Heap} {x e:Addr} {o':HO}
theorem HOk.write (ok:HOk P w H h) (mu:Mut (H x)) (he:e=x∨H e=some (.own x)) (k:∀ b u,b≠e→h.get? b=some u→h'.get? b=some u) (heo:∃ u,h'.get? e=some u)
  (new:ObjOk P w (upd H x o') h' x o'):HOk P w (upd H x o') h':=fun b u q=>by
 have nown:∀ c y,H c=some (.own y)→c≠x:=fun c y r z=>by subst z;rw [r] at mu;exact mu
 have ntup:∀ c xs,H c=some (.tup xs)→c≠x:=fun c xs r z=>by subst z;rw [r] at mu;exact mu
 by_cases hb:b=x
 ·subst hb;rw [zy_] at q;cases q;exact new
 ·rw [zp_ hb] at q
  by_cases hbe:b=e
  ·have q':H b=some (.own x):=by
    rcases he with z|z
    ·exact absurd (hbe.trans z) hb
    ·rw [hbe];exact z
   rw [q] at q';cases q'
   obtain ⟨v,hv⟩:=heo
   exact ⟨v,by rw [hbe];exact hv⟩
  ·refine (ok b u q).stay (fun c v hc r=>k c v ?_ r) (fun c r=>by rw [zp_ (nown c b r)];exact r) fun c xs r=>by rw [zp_ (ntup c xs r)];exact r
   rcases hc with rfl|hc
   ·exact hbe
   ·rintro rfl
    rcases he with z|z
    ·exact nown c b hc z
    ·rw [hc] at z;cases z;exact hb rfl
end
structure Un (fs ex:List Addr) (H H':Hp) (h h':Heap):Prop where
 keep:∀ b o,h.get? b=some o→H b=none→b∉fs→b∉ex→h'.get? b=some o
 slot:∀ b o,h.get? b=some o→H b=none→b∈fs→b∉ex→∃ sl,h'.get? b=some { o with slots:=sl }
 free:∀ b o,h.get? b=some o→H b=none→b∉ex→H' b=none
 there:∀ b o,h.get? b=some o→b∉ex→∃ o',h'.get? b=some o'
 tups:∀ b xs,H b=some (.tup xs)→H' b=some (.tup xs)
 frzs:∀ b o u,H b=some (.frz o u)→H' b=some (.frz o u)
 tbls:∀ b ps,H b=some (.tbl ps)→∃ more,H' b=some (.tbl (ps++more))
section
variable {fs fs' ex ex':List Addr} {H H1 H2:Hp} {h h1 h2 h':Heap} {a x e:Addr} {o:HO}
theorem Un.any (u:Un fs ex H H1 h h1) {b:Addr} {ob:Obj} (q:h.get? b=some ob) (n:H b=none) (hx:b∉ex):∃ sl,h1.get? b=some { ob with slots:=sl }:=by
 by_cases hb:b∈fs
 ·exact u.slot b ob q n hb hx
 ·exact ⟨ob.slots,u.keep b ob q n hb hx⟩
theorem Un.kept (k:∀ b u,h.get? b=some u→h'.get? b=some u):Un fs ex H H h h' :=
 ⟨fun b ob q _ _ _=>k b ob q,fun b ob q _ _ _=>⟨ob.slots,k b ob q⟩,fun _ _ _ n _=>n,fun b ob q _=>⟨ob,k b ob q⟩,fun _ _ q=>q,fun _ _ _ q=>q,fun _ ps q=>⟨#[],by rw [q];simp⟩⟩
theorem Un.refl:Un fs ex H H h h:=Un.kept fun _ _ q=>q
theorem Un.laid (k:∀ b u,h.get? b=some u→h'.get? b=some u) (hp:h.objs.size≤a) (hn:H a=none):Un fs ex H (upd H a o) h h' where
 keep:=fun b u q _ _ _=>k b u q
 slot:=fun b u q _ _ _=>⟨u.slots,k b u q⟩
 free:=fun b u q n _=>by rw [zp_ (Nat.ne_of_lt (Nat.lt_of_lt_of_le (Heap.lt_size q) hp))];exact n
 there:=fun b u q _=>⟨u,k b u q⟩
 tups:=fun b xs q=>by rw [zp_ (zq_ q hn)];exact q
 frzs:=fun b u xs q=>by rw [zp_ (zq_ q hn)];exact q
 tbls:=fun b ps q=>⟨#[],by rw [zp_ (zq_ q hn),q];simp⟩
theorem Un.write (mu:Mut (H x)) (he:e=x∨H e=some (.own x)) (k:∀ b u,b≠e→h.get? b=some u→h'.get? b=some u) (heo:∃ u,h'.get? e=some u):Un fs ex H (upd H x o) h h':=by
 have hx:∀ b,H b=none→b≠x:=fun b n z=>by subst z;rw [n] at mu;exact mu
 have hb:∀ b,H b=none→b≠e:=fun b n z=>by
  subst z
  rcases he with r|r
  ·exact hx b n r
  ·rw [n] at r;cases r
 have hm:∀ b u,H b=some u→¬ Mut (some u)→b≠x:=fun b u q nm z=>by subst z;rw [q] at mu;exact nm mu
 refine ⟨fun b u q n _ _=>k b u (hb b n) q,fun b u q n _ _=>⟨u.slots,k b u (hb b n) q⟩,fun b u q n _=>by rw [zp_ (hx b n)];exact n,fun b u q _=>?_,
  fun b xs q=>by rw [zp_ (hm b _ q fun z=>z)];exact q,fun b u xs q=>by rw [zp_ (hm b _ q fun z=>z)];exact q,fun b ps q=>⟨#[],by rw [zp_ (hm b _ q fun z=>z),q];simp⟩⟩
 by_cases hbe:b=e
 ·subst hbe;exact heo
 ·exact ⟨u,k b u hbe q⟩
end
noncomputable def trk (h:Heap) (H:Hp):List Addr:=(List.range h.objs.size).filter fun a=>(H a).isSome
noncomputable def hidT (h:Heap) (H:Hp):Heap:=PySem.W.hideAll h (trk h H)
theorem We_ (h:Heap) (H:Hp):(hidT h H).objs.size=h.objs.size:=PySem.W.hideAll_size _ _
theorem Xp_ {h:Heap} {H:Hp} {b:Addr} {o:Obj} (e:h.get? b=some o) (n:H b=none):(hidT h H).get? b=some o :=
 PySem.W.hideAll_get _ e fun hm=>by
  have q:(H b).isSome=true:=(List.mem_filter.mp hm).2
  rw [n] at q;simp at q
theorem zaC_ {h:Heap} {H:Hp} {b:Addr} {o:Obj} (e:(hidT h H).get? b=some o):h.get? b=some o∧H b=none:=by
 have e':h.get? b=some o:=PySem.W.of_hideAll (trk h H) e
 refine ⟨e',?_⟩
 cases q:H b with
 | none=>rfl
 | some x =>
  have hm:b∈trk h H:=List.mem_filter.mpr ⟨List.mem_range.mpr (Heap.lt_size e'),by simp [q]⟩
  have z:(hidT h H).get? b=none:=PySem.W.hideAll_none (trk h H) hm
  rw [z] at e;cases e
end L2
namespace L2
open PySem PySem.Spec PyProof.Rows
structure Mod (K:PySem.W.Frag) (mg:Str→Option Value) (base:Heap):Prop where
 kin:K.In base
 glob:base.Ns mainGlobals mg
 blt:∃ mb,base.Ns builtinsNs mb∧∀ x:Str,x ≠ "__name__" → mb x=bootBuiltins x
 nolimit:base.NoLimit
structure Cx where
 prog:Program
 w:World
 K:PySem.W.Frag
 mg:Str→Option Value
 base:Heap
 A:Around
 N:List Str
 s₀:Shared
 H₀:Hp
 env:Env
 outer:List Env
 stack:List Env
 ex:List Addr
 fn:Str→Bool
 calm:Bool
 pn:List (Addr×Obj)
 xe:Value→Shared→Prop
noncomputable def frs (l:List Env):List Addr:=l.filterMap (·.frame)
noncomputable abbrev Cx.fs (X:Cx):List Addr:=frs X.outer
noncomputable def Vis (sc:Scope) (x:Str):Prop:=sc.names.lookup x=some .local∨sc.names.lookup x=some .cell∨sc.names.lookup x=some .free
noncomputable def Loc (sc:Scope) (x:Str):Prop:=sc.names.lookup x=some .local∨sc.names.lookup x=some .cell
noncomputable def Look (env:Env) (h:Heap) (m:Str→Option Value) (x:Str) (u:Value):Prop :=
 (env.kindOf x=some .local∧m x=some u)∨((env.kindOf x=some .cell∨env.kindOf x=some .free)∧∃ c,env.cells.lookup x=some c∧h.IsCell c (some u))
structure Cx.Ok (X:Cx):Prop where
 mod:Mod X.K X.mg X.base
 kind:X.env.scope.kind=.function
 glob:X.env.globals=mainGlobals
 blt:X.env.builtins=builtinsNs
 above:X.s₀.heap.objs.size≤X.env.locals
 inj:∀ x y c,X.env.cells.lookup x=some c→X.env.cells.lookup y=some c→x=y
 has:∀ x,(X.env.kindOf x=some .cell∨X.env.kindOf x=some .free)→∃ c,X.env.cells.lookup x=some c
 cab:∀ x c,X.fn x=true→X.env.cells.lookup x=some c→X.s₀.heap.objs.size≤c
 hd:X.calm=true→X.A.handled=none
 frames:X.A.frames=some X.stack
 stk:X.stack=X.outer∨(X.stack=X.env::X.outer∧X.env.frame=some X.env.locals)
 exf:∀ b∈X.ex,b≠X.env.locals∧∀ x c,X.env.cells.lookup x=some c→c≠b
 bs:∀ b o,X.base.get? b=some o→X.s₀.heap.get? b=some o∧X.H₀ b=none
 bsz:X.base.objs.size≤X.s₀.heap.objs.size
 noex:∀ b o,X.base.get? b=some o→b∉X.ex
 exfs:∀ b∈X.ex,b∉X.fs
 funs:X.s₀.heap.FunFrames X.base X.outer
 frf:∀ b∈X.fs,X.H₀ b=none
structure Inv (X:Cx) (pins:List (Addr×Obj)) (σ:List (Option V)) (H:Hp) (s:Shared):Prop where
 ok:X.Ok
 os:s.os=X.s₀.os
 bare:AllBare s.gens
 base:Un X.fs X.ex X.H₀ H X.s₀.heap s.heap
 loc:∃ m,s.heap.Ns X.env.locals m∧∀ (i:Nat) (x:Str) (v:V),X.N[i]? = some x→σ[i]? = some (some v)→Vis X.env.scope x→∃ u,RelV v u∧Look X.env s.heap m x u
 cell:∀ x c,X.env.cells.lookup x=some c→∃ v,s.heap.IsCell c v
 free:H X.env.locals=none
 freeC:∀ x c,X.env.cells.lookup x=some c→H c=none
 pin:∀ p∈X.pn++pins,s.heap.get? p.1=some p.2∧H p.1=none∧p.1≠X.env.locals∧p.1∉X.fs∧∀ v,p.2.data≠.cell v
 hok:HOk X.prog X.w H s.heap
 len:σ.length=X.N.length
section
variable {X:Cx} {pins:List (Addr×Obj)} {σ:List (Option V)} {H H':Hp} {s:Shared} {h':Heap}
theorem Cx.Ok.nofr (ok:X.Ok) {b:Addr} {o:Obj} (e:X.base.get? b=some o):b∉X.fs:=fun hb=>by
 have:=(ok.funs.mem hb).1
 rw [e] at this;cases this
theorem Inv.bs (I:Inv X pins σ H s):∀ b o,X.base.get? b=some o→s.heap.get? b=some o∧H b=none:=fun b o e =>
 ⟨I.base.keep b o (I.ok.bs b o e).1 (I.ok.bs b o e).2 (I.ok.nofr e) (I.ok.noex b o e),I.base.free b o (I.ok.bs b o e).1 (I.ok.bs b o e).2 (I.ok.noex b o e)⟩
theorem Inv.bk (I:Inv X pins σ H s):∀ b o,X.base.get? b=some o→s.heap.get? b=some o:=fun b o e=>(I.bs b o e).1
theorem Inv.mod (I:Inv X pins σ H s):Mod X.K X.mg X.base:=I.ok.mod
theorem Inv.kIn (I:Inv X pins σ H s):X.K.In s.heap:=I.ok.mod.kin.keeps I.bk
theorem Inv.lt (I:Inv X pins σ H s):X.env.locals<s.heap.objs.size:=let ⟨_,hn,_⟩:=I.loc;hn.lt
theorem Inv.sz (I:Inv X pins σ H s):X.s₀.heap.objs.size≤s.heap.objs.size:=Nat.le_trans I.ok.above (Nat.le_of_lt I.lt)
theorem Inv.nofs (I:Inv X pins σ H s) {a:Addr} (h:s.heap.objs.size≤a):a∉X.fs:=fun hb=>by
 obtain ⟨_,o,ho,_⟩:=I.ok.funs.mem hb
 exact absurd (Nat.lt_of_lt_of_le (Heap.lt_size ho) (Nat.le_trans I.sz h)) (Nat.lt_irrefl _)
theorem Inv.cne (I:Inv X pins σ H s):∀ x c,X.env.cells.lookup x=some c→c≠X.env.locals:=fun x c e z=>by
 obtain ⟨v,o,ho,hd⟩:=I.cell x c e
 obtain ⟨m,⟨o',es,ep,ho',hd',_⟩,_⟩:=I.loc
 rw [z,ho'] at ho;cases ho;rw [hd'] at hd;cases hd
theorem Inv.funs (I:Inv X pins σ H s):s.heap.FunFrames X.base X.outer:=by
 have all:∀ (l:List Env),(∀ b∈frs l,b∈X.fs)→X.s₀.heap.FunFrames X.base l→s.heap.FunFrames X.base l:=by
  intro l
  induction l with
  | nil=>intro _ _;trivial
  | cons env r ih =>
   intro hs hl
   obtain ⟨hk,⟨L,o,hf,hn,ho,hd⟩,hr⟩:=hl
   have hL:L∈X.fs:=hs L (by unfold frs;rw [List.filterMap_cons,hf];exact List.mem_cons_self)
   obtain ⟨sl,e⟩:=I.base.slot L o ho (I.ok.frf L hL) hL fun z=>I.ok.exfs L z hL
   exact ⟨hk,⟨L,_,hf,hn,e,hd⟩,ih (fun b hb=>hs b (by unfold frs;rw [List.filterMap_cons,hf];exact List.mem_cons_of_mem _ hb)) hr⟩
 exact all X.outer (fun _ hb=>hb) I.ok.funs
theorem Inv.stack (I:Inv X pins σ H s):s.heap.FunFrames X.base X.stack:=by
 rcases I.ok.stk with e|⟨e,hf⟩
 ·rw [e];exact I.funs
 ·rw [e]
  obtain ⟨m,hn,_⟩:=I.loc
  refine .cons (by rw [I.ok.kind];decide) hf hn ?_ I.funs
  exact Heap.get?_none_of_le (Nat.le_trans I.ok.bsz I.ok.above)
theorem Inv.stkSub (I:Inv X pins σ H s):∀ b∈frs X.stack,b∈X.env.locals::X.fs:=fun b hb=>by
 rcases I.ok.stk with e|⟨e,hf⟩
 ·rw [e] at hb;exact List.mem_cons_of_mem _ hb
 ·rw [e] at hb
  unfold frs at hb
  rw [List.filterMap_cons,hf] at hb
  exact hb
theorem Inv.stkFree (I:Inv X pins σ H s):∀ b∈frs X.stack,H b=none:=fun b hb=>by
 rcases List.mem_cons.mp (I.stkSub b hb) with e|hb
 ·rw [e];exact I.free
 ·obtain ⟨_,o,ho,_⟩:=I.ok.funs.mem hb
  exact I.base.free b o ho (I.ok.frf b hb) fun z=>I.ok.exfs b z hb
theorem Inv.step {g':Array GenState} {t':Nat} {d':Drawn} {ch:List Addr} (I:Inv X pins σ H s)
  (hch:∀ b∈ch,(b∈X.ex∨X.s₀.heap.objs.size≤b)∧b≠X.env.locals∧(∀ x c,X.env.cells.lookup x=some c→c≠b)∧∀ p∈X.pn++pins,p.1≠b)
  (keep:∀ b o,b≠X.env.locals→b∉X.fs→b∉ch→s.heap.get? b=some o→H b=none→h'.get? b=some o)
  (slot:∀ b o,b≠X.env.locals→b∈X.fs→b∉ch→s.heap.get? b=some o→H b=none→∃ sl,h'.get? b=some { o with slots:=sl }) (free:∀ b o,b∉ch→s.heap.get? b=some o→H b=none→H' b=none)
  (there:∀ b o,b∉ch→s.heap.get? b=some o→∃ o',h'.get? b=some o')
  (tups:∀ b xs,H b=some (.tup xs)→H' b=some (.tup xs)) (frzs:∀ b o u,H b=some (.frz o u)→H' b=some (.frz o u)) (tbls:∀ b ps,H b=some (.tbl ps)→∃ more,H' b=some (.tbl (ps++more)))
  (ns:∀ m,s.heap.Ns X.env.locals m→h'.Ns X.env.locals m) (hok:HOk X.prog X.w H' h') (hg:AllBare g') :
  Inv X pins σ H' { s with heap:=h',gens:=g',drawn:=d',toks:=t' }:=by
 have neL:∀ b o,X.s₀.heap.get? b=some o→b≠X.env.locals:=fun b o e=>Nat.ne_of_lt (Nat.lt_of_lt_of_le (Heap.lt_size e) I.ok.above)
 have neC:∀ b o,X.s₀.heap.get? b=some o→b∉X.ex→b∉ch:=fun b o e hx hb=>by
  rcases (hch b hb).1 with z|z
  ·exact hx z
  ·exact absurd (Nat.lt_of_lt_of_le (Heap.lt_size e) z) (Nat.lt_irrefl _)
 have cellK:∀ x c,X.env.cells.lookup x=some c→∀ v,s.heap.IsCell c v→h'.IsCell c v:=fun x c e v ⟨o,ho,hd⟩=>by
  have nch:c∉ch:=fun z=>(hch c z).2.2.1 x c e rfl
  by_cases hc:c∈X.fs
  ·obtain ⟨sl,q⟩:=slot c o (I.cne x c e) hc nch ho (I.freeC x c e)
   exact ⟨_,q,hd⟩
  ·exact ⟨o,keep c o (I.cne x c e) hc nch ho (I.freeC x c e),hd⟩
 refine ⟨I.ok,I.os,hg,⟨fun b o e n hb hx=>?_,fun b o e n hb hx=>?_,fun b o e n hx=>?_,fun b o e hx=>?_,fun b xs e=>tups b xs (I.base.tups b xs e),fun b o xs e=>frzs b o xs (I.base.frzs b o xs e),fun b ps e=>?_⟩,?_,fun x c e=>?_,?_,fun x c e=>?_,fun p hp=>?_,hok,I.len⟩
 ·exact keep b o (neL b o e) hb (neC b o e hx) (I.base.keep b o e n hb hx) (I.base.free b o e n hx)
 ·obtain ⟨sl,e1⟩:=I.base.slot b o e n hb hx
  obtain ⟨sl',e2⟩:=slot b _ (neL b o e) hb (neC b o e hx) e1 (I.base.free b o e n hx)
  exact ⟨sl',e2⟩
 ·obtain ⟨o',e1⟩:=I.base.there b o e hx
  exact free b o' (neC b o e hx) e1 (I.base.free b o e n hx)
 ·obtain ⟨o',e1⟩:=I.base.there b o e hx
  exact there b o' (neC b o e hx) e1
 ·obtain ⟨m1,e1⟩:=I.base.tbls b ps e
  obtain ⟨m2,e2⟩:=tbls b _ e1
  exact ⟨m1++m2,by rw [e2,Array.append_assoc]⟩
 ·obtain ⟨m,hn,hl⟩:=I.loc
  refine ⟨m,ns m hn,fun i x v e1 e2 e3=>?_⟩
  obtain ⟨u,r,l⟩:=hl i x v e1 e2 e3
  refine ⟨u,r,?_⟩
  rcases l with l|⟨k,c,e,z⟩
  ·exact .inl l
  ·exact .inr ⟨k,c,e,cellK x c e _ z⟩
 ·obtain ⟨v,z⟩:=I.cell x c e
  exact ⟨v,cellK x c e v z⟩
 ·obtain ⟨m,⟨o,_,_,ho,_⟩,_⟩:=I.loc
  exact free _ o (fun z=>(hch _ z).2.1 rfl) ho I.free
 ·obtain ⟨v,o,ho,hd⟩:=I.cell x c e
  exact free c o (fun z=>(hch c z).2.2.1 x c e rfl) ho (I.freeC x c e)
 ·obtain ⟨e,n,ne,nf,d⟩:=I.pin p hp
  have nch:p.1∉ch:=fun z=>(hch p.1 z).2.2.2 p hp rfl
  exact ⟨keep p.1 p.2 ne nf nch e n,free p.1 p.2 nch e n,ne,nf,d⟩
theorem Inv.un {t':Nat} (I:Inv X pins σ H s) (u:Un X.fs [] H H' s.heap h') (hok:HOk X.prog X.w H' h'):Inv X pins σ H' { s with heap:=h',toks:=t' }:=by
 obtain ⟨m,⟨o,es,ep,ho,r⟩,_⟩:=id I.loc
 obtain ⟨sl,hL⟩:=u.any ho I.free (by simp)
 exact I.step (g':=s.gens) (d':=s.drawn) (ch:=[]) (fun _ z=>nomatch z) (fun b o _ hb _ e n=>u.keep b o e n hb (by simp)) (fun b o _ hb _ e n=>u.slot b o e n hb (by simp)) (fun b o _ e n=>u.free b o e n (by simp)) (fun b o _ e=>u.there b o e (by simp)) u.tups u.frzs u.tbls (fun m' hm=>by
  obtain ⟨o',es',ep',ho',r'⟩:=hm
  rw [ho] at ho';cases ho'
  exact ⟨_,es',ep',hL,r'⟩) hok I.bare
theorem Inv.call {g':Array GenState} {t':Nat} {d':Drawn} {ch:List Addr} (I:Inv X pins σ H s) (u:Un (frs X.stack) ch H H' s.heap h') (hok:HOk X.prog X.w H' h') (hg:AllBare g')
  (hch:∀ b∈ch,(b∈X.ex∨X.s₀.heap.objs.size≤b)∧b≠X.env.locals∧(∀ x c,X.env.cells.lookup x=some c→c≠b)∧∀ p∈X.pn++pins,p.1≠b) :
  Inv X pins σ H' { s with heap:=h',gens:=g',drawn:=d',toks:=t' }:=by
 obtain ⟨m,⟨o,es,ep,ho,r⟩,_⟩:=id I.loc
 obtain ⟨sl,hL⟩:=u.any ho I.free fun z=>(hch _ z).2.1 rfl
 exact I.step (ch:=ch) hch (fun b o hL hb hc e n=>u.keep b o e n (fun z=>(List.mem_cons.mp (I.stkSub b z)).elim hL hb) hc) (fun b o _ _ hc e n=>u.any e n hc) (fun b o hc e n=>u.free b o e n hc) (fun b o hc e=>u.there b o e hc) u.tups u.frzs u.tbls (fun m' hm=>by
  obtain ⟨o',es',ep',ho',r'⟩:=hm
  rw [ho] at ho';cases ho'
  exact ⟨_,es',ep',hL,r'⟩) hok hg
theorem Inv.turned {t':Nat} {it:Addr} (I:Inv X pins σ H s) (k:∀ b o,b≠it→s.heap.get? b=some o→h'.get? b=some o) (hn:H it=none) (hL:it≠X.env.locals)
  (h1:it∈X.ex∨X.s₀.heap.objs.size≤it) (h2:∀ x c,X.env.cells.lookup x=some c→c≠it) (h3:∀ p∈X.pn++pins,p.1≠it):Inv X pins σ H { s with heap:=h',toks:=t' }:=by
 have nit:∀ b u,H b=some u→b≠it:=fun b u e z=>by rw [z,hn] at e;cases e
 refine I.step (g':=s.gens) (d':=s.drawn) (ch:=[it]) (fun b hb=>?_) (fun b o _ _ hc e _=>k b o (fun z=>hc (by simp [z])) e) (fun b o _ _ hc e _=>⟨o.slots,k b o (fun z=>hc (by simp [z])) e⟩) (fun _ _ _ _ n=>n)
  (fun b o hc e=>⟨o,k b o (fun z=>hc (by simp [z])) e⟩) (fun _ _ e=>e) (fun _ _ _ e=>e) (fun b ps e=>⟨#[],by rw [e];simp⟩) (fun m hm=>?_) (fun b u e=>?_) I.bare
 ·have e:b=it:=by simpa using hb
  subst e
  exact ⟨h1,hL,h2,h3⟩
 ·obtain ⟨o,es,ep,ho,r⟩:=hm
  exact ⟨o,es,ep,k _ o (Ne.symm hL) ho,r⟩
 ·refine (I.hok b u e).stay (fun c v hc q=>k c v ?_ q) (fun _ q=>q) fun _ _ q=>q
  rcases hc with z|z
  ·rw [z];exact nit b u e
  ·exact nit c _ z
theorem Inv.tok (I:Inv X pins σ H s) (t:Nat):Inv X pins σ H { s with toks:=t }:=I.un (h':=s.heap) (t':=t) Un.refl I.hok
theorem Inv.kept {t':Nat} (I:Inv X pins σ H s) (k:∀ b u,s.heap.get? b=some u→h'.get? b=some u):Inv X pins σ H { s with heap:=h',toks:=t' }:=I.un (Un.kept k) (I.hok.kept k)
theorem Inv.laid {a:Addr} {o:HO} {t':Nat} (I:Inv X pins σ H s) (k:∀ b u,s.heap.get? b=some u→h'.get? b=some u) (hp:s.heap.objs.size≤a) (new:ObjOk X.prog X.w (upd H a o) h' a o) :
  Inv X pins σ (upd H a o) { s with heap:=h',toks:=t' }:=I.un (Un.laid k hp (I.hok.fresh hp)) (I.hok.laid k hp new)
theorem Inv.write {x e:Addr} {o:HO} {t':Nat} (I:Inv X pins σ H s) (mu:Mut (H x)) (he:e=x∨H e=some (.own x)) (k:∀ b u,b≠e→s.heap.get? b=some u→h'.get? b=some u) (heo:∃ u,h'.get? e=some u)
  (new:ObjOk X.prog X.w (upd H x o) h' x o):Inv X pins σ (upd H x o) { s with heap:=h',toks:=t' }:=I.un (Un.write mu he k heo) (I.hok.write mu he k heo new)
theorem Inv.pins_of {pins':List (Addr×Obj)} (I:Inv X pins σ H s) (h:∀ p∈pins',s.heap.get? p.1=some p.2∧H p.1=none∧p.1≠X.env.locals∧p.1∉X.fs∧∀ v,p.2.data≠.cell v):Inv X pins' σ H s :=
 ⟨I.ok,I.os,I.bare,I.base,I.loc,I.cell,I.free,I.freeC,fun p hp=>(List.mem_append.mp hp).elim (fun z=>I.pin p (List.mem_append_left _ z)) (h p),I.hok,I.len⟩
theorem JS_ {N:List Str} (hN:N.Nodup) {i j:Nat} {x:Str} (a:N[i]? = some x) (b:N[j]? = some x):i=j:=by
 obtain ⟨h1,e1⟩:=List.getElem?_eq_some_iff.mp a
 obtain ⟨h2,e2⟩:=List.getElem?_eq_some_iff.mp b
 exact (List.getElem_inj hN).mp (e1.trans e2.symm)
theorem Un_ {M:Model} {A:Around} {E:Value→Shared→Prop} {i:Nat} {x:Str} {v:V} {u:Value} {Q:Unit→Shared→Prop} (I:Inv X pins σ H s) (hN:X.N.Nodup) (hi:X.N[i]? = some x) (hx:Loc X.env.scope x) (r:RelV v u)
  (h:∀ s',Inv X pins (σ.set i (some v)) H s'→(∃ a,Heap.SameBut a s.heap s'.heap∧(a=X.env.locals∨X.env.cells.lookup x=some a))→Q () s') (hf:X.fn x=true∨X.env.scope.names.lookup x=some .local:=by first|exact .inl rfl|exact .inr rfl|assumption):wpAny M A (storeName X.env x u) Q E s:=by
 obtain ⟨m,hn,hl⟩:=id I.loc
 have hcls:(X.env.scope.kind==.class||(X.env.scope.kind==.module&&X.env.locals != X.env.globals))=false:=by rw [I.ok.kind];rfl
 have hiσ:i<σ.length:=by rw [I.len];exact (List.getElem?_eq_some_iff.mp hi).1
 have cne:=I.cne
 have tracked:∀ {a:Addr} {h':Heap},(∃ o,s.heap.get? a=some o∧H a=none)→Heap.SameBut a s.heap h'→HOk X.prog X.w H h':=fun {a h'} ha hs b ob e=>by
  obtain ⟨_,_,hfree⟩:=ha
  refine (I.hok b ob e).stay (fun c w' hc q=>(hs.2 c ?_).trans q) (fun _ q=>q) fun _ _ q=>q
  rintro rfl
  rcases hc with rfl|hc
  ·rw [hfree] at e;cases e
  ·rw [hfree] at hc;cases hc
 rcases hx with hk|hk
 ·refine wpAny_storeName_local hk hn (fun h' hn' hs=>?_) hcls
  obtain ⟨oL,_,_,hoL,_⟩:=id hn
  refine h _ ⟨I.ok,I.os,I.bare,⟨fun b o e n hb hx=>?_,fun b o e n hb hx=>?_,I.base.free,fun b o e hx=>?_,I.base.tups,I.base.frzs,I.base.tbls⟩,⟨_,hn',fun j y v' e1 e2 e3=>?_⟩,fun y c e=>?_,I.free,I.freeC,fun p hp=>?_,tracked ⟨oL,hoL,I.free⟩ hs,by simpa using I.len⟩ ⟨_,hs,.inl rfl⟩
  ·exact (hs.2 b (Nat.ne_of_lt (Nat.lt_of_lt_of_le (Heap.lt_size e) I.ok.above))).trans (I.base.keep b o e n hb hx)
  ·obtain ⟨sl,e1⟩:=I.base.slot b o e n hb hx
   exact ⟨sl,(hs.2 b (Nat.ne_of_lt (Nat.lt_of_lt_of_le (Heap.lt_size e) I.ok.above))).trans e1⟩
  ·obtain ⟨o',e1⟩:=I.base.there b o e hx
   exact ⟨o',(hs.2 b (Nat.ne_of_lt (Nat.lt_of_lt_of_le (Heap.lt_size e) I.ok.above))).trans e1⟩
  ·by_cases hj:j=i
   ·subst hj
    rw [hi] at e1;cases e1
    rw [List.getElem?_set_self hiσ] at e2
    cases e2
    exact ⟨u,r,.inl ⟨hk,by simp⟩⟩
   ·rw [List.getElem?_set_ne (Ne.symm hj)] at e2
    obtain ⟨u',r',q⟩:=hl j y v' e1 e2 e3
    refine ⟨u',r',?_⟩
    rcases q with ⟨k,e⟩|⟨k,c,e,z⟩
    ·refine .inl ⟨k,?_⟩
     have:y≠x:=fun e=>hj (JS_ hN e1 (e▸hi))
     simp [this,e]
    ·exact .inr ⟨k,c,e,z.sameBut hs (cne y c e)⟩
  ·obtain ⟨w',z⟩:=I.cell y c e
   exact ⟨w',z.sameBut hs (cne y c e)⟩
  ·obtain ⟨e,n,ne,nf,d⟩:=I.pin p hp
   exact ⟨(hs.2 p.1 ne).trans e,n,ne,nf,d⟩
 ·have hfn:X.fn x=true:=by
   rcases hf with z|z
   ·exact z
   ·rw [z] at hk;cases hk
  obtain ⟨c,hc⟩:=I.ok.has x (.inl hk)
  obtain ⟨w',z⟩:=I.cell x c hc
  refine wpAny_storeName_cell I.ok.kind hk hc z (fun h' hc' hs=>?_)
  obtain ⟨oc,hoc,hocd⟩:=id z
  refine h { s with heap:=h' } ⟨I.ok,I.os,I.bare,⟨fun b o e n hb hx=>?_,fun b o e n hb hx=>?_,I.base.free,fun b o e hx=>?_,I.base.tups,I.base.frzs,I.base.tbls⟩,⟨m,hn.sameBut hs (Ne.symm (cne x c hc)),fun j y v' e1 e2 e3=>?_⟩,fun y c' e=>?_,I.free,I.freeC,fun p hp=>?_,tracked ⟨oc,hoc,I.freeC x c hc⟩ hs,by simpa using I.len⟩ ⟨c,hs,.inr hc⟩
  ·exact (hs.2 b (Nat.ne_of_lt (Nat.lt_of_lt_of_le (Heap.lt_size e) (I.ok.cab x c hfn hc)))).trans (I.base.keep b o e n hb hx)
  ·obtain ⟨sl,e1⟩:=I.base.slot b o e n hb hx
   exact ⟨sl,(hs.2 b (Nat.ne_of_lt (Nat.lt_of_lt_of_le (Heap.lt_size e) (I.ok.cab x c hfn hc)))).trans e1⟩
  ·obtain ⟨o',e1⟩:=I.base.there b o e hx
   exact ⟨o',(hs.2 b (Nat.ne_of_lt (Nat.lt_of_lt_of_le (Heap.lt_size e) (I.ok.cab x c hfn hc)))).trans e1⟩
  ·by_cases hj:j=i
   ·subst hj
    rw [hi] at e1;cases e1
    rw [List.getElem?_set_self hiσ] at e2
    cases e2
    exact ⟨u,r,.inr ⟨.inl hk,c,hc,hc'⟩⟩
   ·rw [List.getElem?_set_ne (Ne.symm hj)] at e2
    obtain ⟨u',r',q⟩:=hl j y v' e1 e2 e3
    refine ⟨u',r',?_⟩
    rcases q with q|⟨k,c',e,z'⟩
    ·exact .inl q
    ·refine .inr ⟨k,c',e,z'.sameBut hs ?_⟩
     rintro rfl
     exact hj (JS_ hN e1 (I.ok.inj _ _ _ e hc▸hi))
  ·by_cases hcc:c'=c
   ·subst hcc;exact ⟨_,hc'⟩
   ·obtain ⟨w2,z2⟩:=I.cell y c' e
    exact ⟨w2,z2.sameBut hs hcc⟩
  ·obtain ⟨e,n,ne,nf,d⟩:=I.pin p hp
   refine ⟨(hs.2 p.1 ?_).trans e,n,ne,nf,d⟩
   intro q
   rw [q,hoc] at e
   have q':oc=p.2:=Option.some.inj e
   exact d w' (by rw [←q'];exact hocd)
theorem ye_ {M:Model} {A:Around} {E:Value→Shared→Prop} {i:Nat} {x:Str} {v:V} {u:Value} {Q:Unit→Shared→Prop} (I:Inv X pins σ H s) (hN:X.N.Nodup) (hi:X.N[i]? = some x) (hx:Loc X.env.scope x) (r:RelV v u)
  (h:∀ s',Inv X pins (σ.set i (some v)) H s'→Q () s') (hf:X.fn x=true∨X.env.scope.names.lookup x=some .local:=by first|exact .inl rfl|exact .inr rfl|assumption):wpAny M A (storeName X.env x u) Q E s :=
 Un_ I hN hi hx r (fun s' I' _=>h s' I') hf
theorem Inv.call' {s':Shared} {ch:List Addr} (I:Inv X pins σ H s) (ho:s'.os=s.os) (u:Un (frs X.stack) ch H H' s.heap s'.heap) (hok:HOk X.prog X.w H' s'.heap) (hg:AllBare s'.gens)
  (hch:∀ b∈ch,(b∈X.ex∨X.s₀.heap.objs.size≤b)∧b≠X.env.locals∧(∀ x c,X.env.cells.lookup x=some c→c≠b)∧∀ p∈X.pn++pins,p.1≠b):Inv X pins σ H' s':=by
 obtain ⟨h',g',d',t',o'⟩:=s'
 have e:o'=s.os:=ho
 subst e
 exact I.call (g':=g') (t':=t') (d':=d') u hok hg hch
end
noncomputable abbrev XK:=Value→Option Addr→Hp→Prop
noncomputable abbrev St:=List (Option V)
noncomputable abbrev VK:=V→Hp→Prop
noncomputable abbrev TE:=St→Hp→VK→Prop
noncomputable abbrev TT:=St→Hp→(Bool→Hp→Prop)→Prop
noncomputable abbrev TA:=St→Hp→(List V→Hp→Prop)→Prop
structure Ends where
 nx:St→Hp→Prop
 rt:VK
 bk:St→Hp→Prop:=fun _ _=>False
 ct:St→Hp→Prop:=fun _ _=>False
noncomputable abbrev TS:=Ends→St→Hp→Prop
noncomputable def EP (X:Cx) (pins:List (Addr×Obj)) (σ:St) (Q:VK) (u:Value) (s':Shared):Prop:=∃ v H',Inv X pins σ H' s'∧RelV v u∧Q v H'
noncomputable def TP (X:Cx) (pins:List (Addr×Obj)) (σ:St) (Q:Bool→Hp→Prop) (b:Bool) (s':Shared):Prop:=∃ H',Inv X pins σ H' s'∧Q b H'
noncomputable def AP (X:Cx) (pins:List (Addr×Obj)) (σ:St) (Q:List V→Hp→Prop) (us:List Value) (s':Shared):Prop:=∃ vs H',Inv X pins σ H' s'∧Vals vs us∧Q vs H'
noncomputable def SP (X:Cx) (pins:List (Addr×Obj)) (D:Ends) (f:Flow) (s':Shared):Prop :=
 match f with
 | .next=>∃ σ' H',Inv X pins σ' H' s'∧D.nx σ' H'
 | .brk=>∃ σ' H',Inv X pins σ' H' s'∧D.bk σ' H'
 | .cont=>∃ σ' H',Inv X pins σ' H' s'∧D.ct σ' H'
 | .ret u=>∃ v σ' H',Inv X pins σ' H' s'∧RelV v u∧D.rt v H'
noncomputable def PE (X:Cx) (e:Expr) (t:TE):Prop :=
 ∀ (pins:List (Addr×Obj)) (s:Shared) (σ:St) (H:Hp) (Q:VK),Inv X pins σ H s→t σ H Q→wpAny (model X.prog X.w) X.A (eval e X.env) (EP X pins σ Q) X.xe s
noncomputable def PT (X:Cx) (e:Expr) (t:TT):Prop :=
 ∀ (pins:List (Addr×Obj)) (s:Shared) (σ:St) (H:Hp) (Q:Bool→Hp→Prop),Inv X pins σ H s→t σ H Q→wpAny (model X.prog X.w) X.A (isTrue e X.env (eval e X.env)) (TP X pins σ Q) X.xe s
noncomputable def PW (X:Cx) (e:Expr) (t:TT):Prop :=
 ∀ (whole:Sem Value) (pins:List (Addr×Obj)) (s:Shared) (σ:St) (H:Hp) (Q:Bool→Hp→Prop),Inv X pins σ H s→t σ H Q→wpAny (model X.prog X.w) X.A (isTrue e X.env whole) (TP X pins σ Q) X.xe s
noncomputable def PA (X:Cx) (es:List Expr) (t:TA):Prop :=
 ∀ (pos:Pos) (pins:List (Addr×Obj)) (s:Shared) (σ:St) (H:Hp) (Q:List V→Hp→Prop),Inv X pins σ H s→t σ H Q→wpAny (model X.prog X.w) X.A (spliced (backTo pos (starEach es X.env))) (AP X pins σ Q) X.xe s
noncomputable def PS (X:Cx) (st:Stmt) (t:TS):Prop :=
 ∀ (pins:List (Addr×Obj)) (s:Shared) (σ:St) (H:Hp) (D:Ends),Inv X pins σ H s→t D σ H→wpAny (model X.prog X.w) X.A (exec st X.env) (SP X pins D) X.xe s
noncomputable def PSs (X:Cx) (st:List Stmt) (t:TS):Prop :=
 ∀ (pins:List (Addr×Obj)) (s:Shared) (σ:St) (H:Hp) (D:Ends),Inv X pins σ H s→t D σ H→wpAny (model X.prog X.w) X.A (execs st X.env) (SP X pins D) X.xe s
theorem thn {α:Type} {t:Sem α} {Q Q':α→Shared→Prop} {M:Model} {A:Around} {E:Value→Shared→Prop} {s:Shared} (h:wpAny M A t Q E s) (hQ:∀ a s,Q a s→Q' a s):wpAny M A t Q' E s:=wpAny_mono h hQ fun _ _ x=>x
end L2
namespace L2
open PySem PySem.Spec PyProof.Rows
section
variable {X:Cx}
theorem bin {a b:Expr} {ta tb:TE} (ha:PE X a ta) (hb:PE X b tb) {pins:List (Addr×Obj)} {s:Shared} {σ:St} {H:Hp} {R:V→V→Hp→Prop} (I:Inv X pins σ H s) (h:ta σ H fun x H1=>tb σ H1 fun y H2=>R x y H2)
  {α:Type} {Q:α→Shared→Prop} {f:Value→Value→Sem α}
  (hf:∀ v u s2 x y H2,Inv X pins σ H2 s2→RelV x v→RelV y u→R x y H2→wpAny (model X.prog X.w) X.A (f v u) Q X.xe s2) :
  wpAny (model X.prog X.w) X.A (eval a X.env) (fun v s₁=>wpAny (model X.prog X.w) X.A (eval b X.env) (fun u s₂=>wpAny (model X.prog X.w) X.A (f v u) Q X.xe s₂) X.xe s₁) X.xe s:=by
 refine thn (ha pins s σ H _ I h) fun v s1 ⟨x,H1,I1,r1,q1⟩=>?_
 refine thn (hb pins s1 σ H1 _ I1 q1) fun u s2 ⟨y,H2,I2,r2,q2⟩=>?_
 exact hf v u s2 x y H2 I2 r1 r2 q2
noncomputable def tVar (i:Nat):TE:=fun σ H Q=>∃ v,σ[i]? = some (some v)∧Q v H
noncomputable def tC (v:V):TE:=fun _ H Q=>Q v H
theorem Jp_ {i:Nat} {x:Str} {pos:Pos} (hN:X.N[i]? = some x) (hv:Vis X.env.scope x) (hd:(x==("__debug__" : Str))=false:=by decide) (hcd:(x==("__classdict__" : Str))=false:=by decide):PE X (.Name x pos) (tVar i):=by
 intro pins s σ H Q I h
 obtain ⟨v,e,h⟩:=h
 obtain ⟨m,hn,hl⟩:=I.loc
 obtain ⟨u,r,l⟩:=hl i x v hN e hv
 have fin:EP X pins σ Q u s:=⟨v,H,I,r,h⟩
 rcases l with ⟨hk,hm⟩|⟨hk,c,hc,hcell⟩
 ·exact wpAny_Name (wpAny_loadName_local I.ok.kind hk hn hm fin) hd
 ·rcases hk with hk|hk
  ·exact wpAny_Name (wpAny_loadName_cell I.ok.kind hk hc hcell fin) hd
  ·exact wpAny_Name (wpAny_loadName_free I.ok.kind hk hc hcell fin hcd) hd
theorem zcb_ {i j pos}:PE X (.Constant (.int i) j pos) (tC (.int i)):=fun _ _ _ H _ I h=>wpAny_Constant_int ⟨.int i,H,I.tok _,⟨_,rfl⟩,h⟩
theorem zdz_ {b j pos}:PE X (.Constant (.bool b) j pos) (tC (.bl b)):=fun _ _ _ H _ I h=>Constant_bool ⟨.bl b,H,I,rfl,h⟩
theorem zbY_ {j pos}:PE X (.Constant .none j pos) (tC .non):=fun _ _ _ H _ I h=>Constant_none ⟨.non,H,I,rfl,h⟩
theorem zbV_ {x j pos}:PE X (.Constant (.str x) j pos) (tC (.str x)):=fun _ _ _ H _ I h=>Calls.Constant_str ⟨.str x,H,I.tok _,⟨_,rfl⟩,h⟩
noncomputable def Gl (X:Cx) (x:Str):Prop:=X.env.kindOf x=some .globalImplicit
theorem JZ_ {E:Value→Shared→Prop} {pins:List (Addr×Obj)} {s:Shared} {σ:St} {H:Hp} {x:Str} {u:Value} {pos:Pos} {Q:Value→Shared→Prop} (I:Inv X pins σ H s) (hg:Gl X x) (hm:X.mg x=some u) (h:Q u s)
  (hd:(x==("__debug__" : Str))=false:=by decide):wpAny (model X.prog X.w) X.A (eval (.Name x pos) X.env) Q E s :=
 Calls.Name_function_global I.ok.kind hg (Calls.loadGlobal_global (by rw [I.ok.glob];exact I.mod.glob.keeps I.bk) hm h) hd
theorem Jt_ {E:Value→Shared→Prop} {pins:List (Addr×Obj)} {s:Shared} {σ:St} {H:Hp} {x:Str} {u:Value} {pos:Pos} {Q:Value→Shared→Prop} (I:Inv X pins σ H s) (hg:Gl X x) (hm:X.mg x=none) (hv:bootBuiltins x=some u) (h:Q u s)
  (hn:x ≠ "__name__":=by decide) (hd:(x==("__debug__" : Str))=false:=by decide):wpAny (model X.prog X.w) X.A (eval (.Name x pos) X.env) Q E s:=by
 obtain ⟨mb,h1,h2⟩:=I.mod.blt
 exact Calls.Name_function_global I.ok.kind hg (Calls.loadGlobal_builtin (by rw [I.ok.glob];exact I.mod.glob.keeps I.bk) hm (by rw [I.ok.blt];exact h1.keeps I.bk) ((h2 x hn).trans hv) h) hd
theorem Yp_ {x:Str} {v:V} {u:Value} {pos:Pos} (hg:Gl X x) (hm:X.mg x=some u) (r:RelV v u) (hd:(x==("__debug__" : Str))=false:=by decide):PE X (.Name x pos) (tC v) :=
 fun _ _ _ H _ I h=>JZ_ I hg hm ⟨v,H,I,r,h⟩ hd
theorem zas_ {x:Str} {v:V} {u:Value} {pos:Pos} (hg:Gl X x) (hm:X.mg x=none) (hv:bootBuiltins x=some u) (r:RelV v u) (hn:x ≠ "__name__":=by decide) (hd:(x==("__debug__" : Str))=false:=by decide):PE X (.Name x pos) (tC v) :=
 fun _ _ _ H _ I h=>Jt_ I hg hm hv ⟨v,H,I,r,h⟩ hn hd
variable {a b:Expr} {ta tb:TE} {pos:Pos}
variable {tA tB':TT} {rest:List Expr}
noncomputable def tAnd (t u:TT):TT:=fun σ H Q=>t σ H fun c H1=>if c=true then u σ H1 Q else Q false H1
noncomputable def tOr (t u:TT):TT:=fun σ H Q=>t σ H fun c H1=>if c=true then Q true H1 else u σ H1 Q
theorem zag_ (ha:PT X a tA):PW X (.BoolOp .And [a] pos) tA:=by
 intro wh pins s σ H Q I h
 refine isTrue_and (thn (ha pins s σ H Q I h) fun c s1 e=>?_)
 cases c with
 | true=>exact isTrue_and_nil e
 | false=>exact e
theorem zbL_ (ha:PT X a tA):PW X (.BoolOp .Or [a] pos) tA:=by
 intro wh pins s σ H Q I h
 refine isTrue_or (thn (ha pins s σ H Q I h) fun c s1 e=>?_)
 cases c with
 | false=>exact isTrue_or_nil e
 | true=>exact e
theorem zbM_ (ha:PT X a tA) (hb:PW X (.BoolOp .And (b::rest) pos) tB'):PW X (.BoolOp .And (a::b::rest) pos) (tAnd tA tB'):=by
 intro wh pins s σ H Q I h
 refine isTrue_and (thn (ha pins s σ H _ I h) fun c s1 ⟨H1,I1,q1⟩=>?_)
 cases c with
 | true=>exact hb wh pins s1 σ H1 Q I1 q1
 | false=>exact ⟨H1,I1,q1⟩
theorem zdu_ (ha:PT X a tA) (hb:PW X (.BoolOp .Or (b::rest) pos) tB'):PW X (.BoolOp .Or (a::b::rest) pos) (tOr tA tB'):=by
 intro wh pins s σ H Q I h
 refine isTrue_or (thn (ha pins s σ H _ I h) fun c s1 ⟨H1,I1,q1⟩=>?_)
 cases c with
 | true=>exact ⟨H1,I1,q1⟩
 | false=>exact hb wh pins s1 σ H1 Q I1 q1
noncomputable def zdn_ (ta tb:TE):TE:=fun σ H Q=>ta σ H fun x H1=>∃ c,x=.bl c∧if c=true then tb σ H1 Q else Q (.bl false) H1
noncomputable def tOrV (ta tb:TE):TE:=fun σ H Q=>ta σ H fun x H1=>∃ c,x=.bl c∧if c=true then Q (.bl true) H1 else tb σ H1 Q
theorem zbX_ {op} {t:TE} (h:PE X a t):PE X (.BoolOp op [a] pos) t:=fun pins s σ H Q I hw=>BoolOp_one (h pins s σ H Q I hw)
theorem zcc_ (ha:PE X a ta) (hb:PE X (.BoolOp .And (b::rest) pos) tb):PE X (.BoolOp .And (a::b::rest) pos) (zdn_ ta tb):=by
 intro pins s σ H Q I h
 refine BoolOp_and (thn (ha pins s σ H _ I h) fun v s1 ⟨x,H1,I1,r1,q1⟩=>?_)
 obtain ⟨c,rfl,q1⟩:=q1
 cases r1
 refine wpAny_truthy_bool ?_
 cases c with
 | true=>exact hb pins s1 σ H1 Q I1 q1
 | false=>exact ⟨.bl false,H1,I1,rfl,q1⟩
theorem zdx_ (ha:PE X a ta) (hb:PE X (.BoolOp .Or (b::rest) pos) tb):PE X (.BoolOp .Or (a::b::rest) pos) (tOrV ta tb):=by
 intro pins s σ H Q I h
 refine BoolOp_or (thn (ha pins s σ H _ I h) fun v s1 ⟨x,H1,I1,r1,q1⟩=>?_)
 obtain ⟨c,rfl,q1⟩:=q1
 cases r1
 refine wpAny_truthy_bool ?_
 cases c with
 | false=>exact hb pins s1 σ H1 Q I1 q1
 | true=>exact ⟨.bl true,H1,I1,rfl,q1⟩
noncomputable def tIf (t:TT) (ta tb:TE):TE:=fun σ H Q=>t σ H fun c H1=>if c=true then ta σ H1 Q else tb σ H1 Q
theorem Y8_ {c:Expr} (hc:PT X c tA) (ha:PE X a ta) (hb:PE X b tb):PE X (.IfExp c a b pos) (tIf tA ta tb):=by
 intro pins s σ H Q I h
 refine wpAny_IfExp (thn (hc pins s σ H _ I h) fun d s1 ⟨H1,I1,q1⟩=>?_)
 cases d with
 | true=>exact ha pins s1 σ H1 Q I1 q1
 | false=>exact hb pins s1 σ H1 Q I1 q1
end
end L2
namespace L2
open PySem PySem.Spec PyProof.Rows
noncomputable def SqL (K:PySem.W.Frag) (H:Hp) (a:Addr) (xs:List V):Prop :=
 Rd H a (.lst xs) ∨
  ∃ (o:Obj) (its:Array Value) (n:Nat),K.lookup a=some o∧o.cls=.type "list" ∧ o.dict=none∧o.data=.seq its n∧its.size≤sizeLine∧Vals xs its.toList
noncomputable def SqT (K:PySem.W.Frag) (H:Hp) (a:Addr) (xs:List V):Prop :=
 Rd H a (.tup xs) ∨
  ∃ (o:Obj) (its:Array Value) (n:Nat),K.lookup a=some o∧o.cls=.type "tuple" ∧ o.data=.seq its n∧its.size≤sizeLine∧Vals xs its.toList
noncomputable def absV:Value→Option V
 | .none=>some .non
 | .bool b=>some (.bl b)
 | .int i _=>some (.int i)
 | .str x _=>some (.str x)
 | .bytes b _=>some (.byt b)
 | .float b _=>some (.flt b)
 | .ref a=>some (.ref a)
 | .type n=>some (.ty n)
 | _=>none
theorem RelV.abs {x:V} {u:Value} (r:RelV x u):absV u=some x:=by
 cases x with
 | non=>cases r;rfl
 | bl _=>cases r;rfl
 | int _=>obtain ⟨t,rfl⟩:=r;rfl
 | str _=>obtain ⟨t,rfl⟩:=r;rfl
 | byt _=>obtain ⟨t,rfl⟩:=r;rfl
 | flt _=>obtain ⟨t,rfl⟩:=r;rfl
 | ref _=>cases r;rfl
 | ty _=>cases r;rfl
theorem RelV.inj {x y:V} {u:Value} (r:RelV x u) (q:RelV y u):x=y:=Option.some.inj (r.abs.symm.trans q.abs)
theorem Vals.inj {xs ys:List V} {us:List Value} (h:Vals xs us):Vals ys us→xs=ys:=by
 induction h generalizing ys with
 | nil=>intro h2;cases h2;rfl
 | cons r _ ih =>
  intro h2
  cases h2 with
  | cons r' t'=>rw [r.inj r',ih t']
section
variable {X:Cx} {pins:List (Addr×Obj)} {σ:St} {H:Hp} {s:Shared} {a:Addr} {xs ys:List V}
theorem SqT.of {K:PySem.W.Frag} (h:H a=some (.tup xs)):SqT K H a xs:=.inl (.inl h)
theorem Inv.list (I:Inv X pins σ H s) (h:SqL X.K H a xs):∃ its:List Value,Vals xs its∧PlainL s.heap a its.toArray∧xs.length≤sizeLine:=by
 rcases h with h|⟨o,its,n,hk,hc,hd,hs,hz,r⟩
 ·obtain ⟨z,its,n,r,e⟩:=h.ok I.hok
  exact ⟨its,r,⟨_,n,e,rfl,rfl,rfl⟩,z⟩
 ·refine ⟨its.toList,r,⟨o,n,I.kIn a o hk,hc,hd,by simpa using hs⟩,?_⟩
  have e:=r.length
  simp only [Array.length_toList] at e
  lia
theorem Inv.tuple (I:Inv X pins σ H s) (h:SqT X.K H a xs):∃ its:List Value,Vals xs its∧IsTup s.heap a its.toArray∧xs.length≤sizeLine:=by
 rcases h with h|⟨o,its,n,hk,hc,hs,hz,r⟩
 ·obtain ⟨z,its,r,p⟩:=h.ok I.hok
  exact ⟨its,r,p.1,z⟩
 ·refine ⟨its.toList,r,⟨o,I.kIn a o hk,hc,n,by simpa using hs⟩,?_⟩
  have e:=r.length
  simp only [Array.length_toList] at e
  lia
theorem Inv.list_inj (I:Inv X pins σ H s) (h:SqL X.K H a xs) (h':SqL X.K H a ys):xs=ys:=by
 obtain ⟨its,r,⟨o,n,e,_,_,d⟩,_⟩:=I.list h
 obtain ⟨its',r',⟨o',n',e',_,_,d'⟩,_⟩:=I.list h'
 rw [e] at e';cases e'
 rw [d] at d'
 injection d' with d1 _
 have:its=its':=by simpa using congrArg Array.toList d1
 subst this
 exact r.inj r'
theorem Inv.tuple_inj (I:Inv X pins σ H s) (h:SqT X.K H a xs) (h':SqT X.K H a ys):xs=ys:=by
 obtain ⟨its,r,⟨o,e,_,n,d⟩,_⟩:=I.tuple h
 obtain ⟨its',r',⟨o',e',_,n',d'⟩,_⟩:=I.tuple h'
 rw [e] at e';cases e'
 rw [d] at d'
 injection d' with d1 _
 have:its=its':=by simpa using congrArg Array.toList d1
 subst this
 exact r.inj r'
end
section
variable {X:Cx} {st:Stmt} {rest:List Stmt} {t u:TS} {e:Expr} {te:TE} {pos:Pos}
noncomputable def zbm_:TS:=fun D σ H=>D.nx σ H
noncomputable def tSeq (t u:TS):TS:=fun D σ H=>t { D with nx:=u D } σ H
theorem VB_:PSs X [] zbm_:=fun _ _ σ H _ I h=>wpAny_execs_nil ⟨σ,H,I,h⟩
theorem Y6_ (h1:PS X st t) (h2:PSs X rest u):PSs X (st::rest) (tSeq t u):=by
 intro pins s σ H D I h
 refine wpAny_execs_cons (thn (h1 pins s σ H { D with nx:=u D } I h) fun f s1 q=>?_)
 cases f with
 | next =>
  obtain ⟨σ',H',I',q⟩:=q
  exact h2 pins s1 σ' H' D I' q
 | ret v=>exact q
 | brk=>exact q
 | cont=>exact q
theorem zai_ (h1:PS X st t):PSs X [st] t:=by
 intro pins s σ H D I h
 refine wpAny_execs_cons (thn (h1 pins s σ H D I h) fun f s1 q=>?_)
 cases f with
 | next=>exact wpAny_execs_nil q
 | ret v=>exact q
 | brk=>exact q
 | cont=>exact q
theorem zaj_:PS X (.Pass pos) zbm_:=fun _ _ σ H _ I h=>wpAny_Pass ⟨σ,H,I,h⟩
theorem Inv.quiet {pins:List (Addr×Obj)} {σ:St} {H:Hp} {s:Shared} (I:Inv X pins σ H s):interactive X.env=false:=by simp [interactive,I.ok.kind]
noncomputable def zdm_ (te:TE):TS:=fun D σ H=>te σ H fun _ H1=>D.nx σ H1
theorem zak_ (he:PE X e te) (hs:swapsWith e none pos.line X.env=pure false:=by rfl):PS X (.Expr e pos) (zdm_ te):=by
 intro pins s σ H D I h
 exact wpAny_Expr_any (thn (he pins s σ H _ I h) fun v s1 ⟨x,H1,I1,r1,q1⟩=>⟨σ,H1,I1,q1⟩) I.quiet hs
noncomputable def tRet (te:TE):TS:=fun D σ H=>te σ H D.rt
theorem XH_ (he:PE X e te):PS X (.Return (some e) pos) (tRet te):=by
 intro pins s σ H D I h
 exact wpAny_Return_some (thn (he pins s σ H _ I h) fun v s1 ⟨x,H1,I1,r1,q1⟩=>⟨x,σ,H1,I1,r1,q1⟩)
noncomputable def tIfS (c:TT) (t u:TS):TS:=fun D σ H=>c σ H fun b H1=>if b=true then t D σ H1 else u D σ H1
theorem zdw_ {c:Expr} {a b:List Stmt} {tc:TT} (hc:PT X c tc) (ha:PSs X a t) (hb:PSs X b u):PS X (.If c a b pos) (tIfS tc t u):=by
 intro pins s σ H D I h
 refine wpAny_If (thn (hc pins s σ H _ I h) fun d s1 ⟨H1,I1,q1⟩=>?_)
 cases d with
 | true=>exact ha pins s1 σ H1 D I1 q1
 | false=>exact hb pins s1 σ H1 D I1 q1
end
noncomputable abbrev TG:=V→St→Hp→(St→Hp→Prop)→Prop
noncomputable abbrev TGs:=List V→St→Hp→(St→Hp→Prop)→Prop
noncomputable def PG (X:Cx) (target:Expr) (t:TG):Prop :=
 ∀ (pins:List (Addr×Obj)) (s:Shared) (σ:St) (H:Hp) (v:V) (u:Value) (Q:St→Hp→Prop),Inv X pins σ H s→RelV v u→t v σ H Q →
  wpAny (model X.prog X.w) X.A (assign target X.env u) (fun _ s'=>∃ σ' H',Inv X pins σ' H' s'∧Q σ' H') X.xe s
noncomputable def PGs (X:Cx) (ts:List Expr) (t:TGs):Prop :=
 ∀ (pins:List (Addr×Obj)) (s:Shared) (σ:St) (H:Hp) (vs:List V) (us:List Value) (Q:St→Hp→Prop),Inv X pins σ H s→Vals vs us→t vs σ H Q →
  wpAny (model X.prog X.w) X.A (assignInOrder ((assignEach ts X.env).map (·.2)) us) (fun _ s'=>∃ σ' H',Inv X pins σ' H' s'∧Q σ' H') X.xe s
noncomputable abbrev TSet:=V→V→V→Hp→(Hp→Prop)→Prop
noncomputable def PSet (X:Cx) (t:TSet):Prop :=
 ∀ (pins:List (Addr×Obj)) (s:Shared) (σ:St) (H:Hp) (o i v:V) (ov iv u:Value) (Q:Hp→Prop),Inv X pins σ H s→RelV o ov→RelV i iv→RelV v u→t o i v H Q →
  wpAny (model X.prog X.w) X.A (setItem ov iv u) (fun _ s'=>∃ H',Inv X pins σ H' s'∧Q H') X.xe s
noncomputable abbrev TIp:=V→V→Hp→VK→Prop
noncomputable def PIp (X:Cx) (op:Operator) (t:TIp):Prop :=
 ∀ (pins:List (Addr×Obj)) (s:Shared) (σ:St) (H:Hp) (x y:V) (v u:Value) (Q:VK),Inv X pins σ H s→RelV x v→RelV y u→t x y H Q →
  wpAny (model X.prog X.w) X.A (inplaceOp op v u) (EP X pins σ Q) X.xe s
section
variable {X:Cx} {pos:Pos}
noncomputable def Wi_ (i:Nat):TG:=fun v σ H Q=>Q (σ.set i (some v)) H
theorem zap_ {i:Nat} {x:Str} (hN:X.N.Nodup) (hi:X.N[i]? = some x) (hx:Loc X.env.scope x) (hf:X.fn x=true∨X.env.scope.names.lookup x=some .local:=by first|exact .inl rfl|exact .inr rfl|assumption):PG X (.Name x pos) (Wi_ i):=by
 intro pins s σ H v u Q I r h
 exact wpAny_assign_Name (ye_ I hN hi hx r (fun s' I'=>⟨_,H,I',h⟩) hf)
noncomputable def gNil:TGs:=fun vs σ H Q=>vs=[]∧Q σ H
noncomputable def zdP_ (t:TG) (u:TGs):TGs:=fun vs σ H Q=>∃ v r,vs=v::r∧t v σ H fun σ' H'=>u r σ' H' Q
theorem zao_:PGs X [] gNil:=by
 intro pins s σ H vs us Q I r h
 obtain ⟨e,h⟩:=h
 subst e
 cases r
 exact assignInOrder_nil ⟨σ,H,I,h⟩
theorem W2_ {e:Expr} {es:List Expr} {t:TG} {u:TGs} (h1:PG X e t) (h2:PGs X es u)
  (hs:(assignEach (e::es) X.env).map (·.2)=assign e X.env::(assignEach es X.env).map (·.2):=by rfl):PGs X (e::es) (zdP_ t u):=by
 intro pins s σ H vs us Q I r h
 obtain ⟨v,vr,e1,h⟩:=h
 subst e1
 cases r with
 | cons r rr =>
  rw [hs]
  refine assignInOrder_cons (thn (h1 pins s σ H _ _ _ I r h) fun _ s1 ⟨σ1,H1,I1,q1⟩=>?_)
  exact h2 pins s1 σ1 H1 _ _ Q I1 rr q1
noncomputable def gTup (K:PySem.W.Frag) (n:Nat) (t:TGs):TG:=fun v σ H Q=>∃ a xs,v=.ref a∧SqT K H a xs∧xs.length=n∧t xs σ H Q
theorem zbT_ {es:List Expr} {k:Nat} {t:TGs} {n:Nat} (hc:X.calm=true) (h:PGs X es t)
  (hn:(assignEach es X.env).length=n:=by rfl) (hst:(assignEach es X.env).findIdx? (·.1)=none:=by rfl):PG X (.Tuple es k pos) (gTup X.K n t):=by
 intro pins s σ H v u Q I r hw
 obtain ⟨a,xs,e1,hq,hl,hw⟩:=hw
 subst e1
 cases r
 obtain ⟨its,rv,ht,hz⟩:=I.tuple hq
 refine assign_Tuple_tuple (I.ok.hd hc) ht (by simp [hn,←hl,rv.length]) hst fun h' hx=>?_
 have I1:Inv X pins σ H { s with heap:=h' }:=I.kept (t':=s.toks) fun b o e=>hx b o (Nat.ne_of_lt (Heap.lt_size e)) e
 exact h pins _ σ H xs _ Q I1 (by simpa using rv) hw
noncomputable def gSub (to ti:TE) (t:TSet):TG:=fun v σ H Q=>to σ H fun o H1=>ti σ H1 fun i H2=>t o i v H2 fun H3=>Q σ H3
theorem zbU_ {o i:Expr} {to ti:TE} {t:TSet} (ho:PE X o to) (hi:PE X i ti) (hs:PSet X t)
  (ha:∀ v,assign (.Subscript o i pos) X.env v=(do
   let ov ←holding [v] (eval o X.env)
   let iv ←holding [v,ov] (eval i X.env)
   standAt pos
   holding [v,ov,iv] (setItem ov iv v)
   release [v,ov,iv] []):=by intro _;rfl):PG X (.Subscript o i pos) (gSub to ti t):=by
 intro pins s σ H v u Q I r h
 rw [ha]
 refine wpAny_bind (wpAny_holding (thn (ho pins s σ H _ I h) fun ov s1 ⟨x,H1,I1,r1,q1⟩=>?_))
 refine wpAny_bind (wpAny_holding (thn (hi pins s1 σ H1 _ I1 q1) fun iv s2 ⟨y,H2,I2,r2,q2⟩=>?_))
 refine wpAny_bind (wpAny_standAt (wpAny_bind (wpAny_holding (thn (hs pins s2 σ H2 x y v ov iv u _ I2 r1 r2 r q2) fun _ s3 ⟨H3,I3,q3⟩=>?_))))
 exact wpAny_release ⟨σ,H3,I3,q3⟩
noncomputable def tAsg (te:TE) (g:TG):TS:=fun D σ H=>te σ H fun x H1=>g x σ H1 D.nx
theorem zbQ_ {tg e:Expr} {te:TE} {g:TG} (he:PE X e te) (hg:PG X tg g) (hs:swapsWithSole [tg] e pos.line X.env=pure false:=by rfl) (hw:swappedStores [tg] e X.env=pure none:=by rfl)
  (h1:(assignEach [tg] X.env).map (·.2)=[assign tg X.env]:=by rfl):PS X (.Assign [tg] e pos) (tAsg te g):=by
 intro pins s σ H D I h
 refine wpAny_Assign_stores (thn (he pins s σ H _ I h) fun v s1 ⟨x,H1,I1,r1,q1⟩=>?_) hs hw
 rw [h1]
 exact thn (hg pins s1 σ H1 x v _ I1 r1 q1) fun _ s2 q=>q
theorem Y7_ {i:Nat} {x:Str} {e:Expr} {te:TE} {pos':Pos} (hN:X.N.Nodup) (hi:X.N[i]? = some x) (hx:Loc X.env.scope x) (he:PE X e te) (hs:swapsWith e (some (.Name x pos')) pos.line X.env=pure false:=by rfl) (hf:X.fn x=true∨X.env.scope.names.lookup x=some .local:=by first|exact .inl rfl|exact .inr rfl|assumption) :
  PS X (.Assign [.Name x pos'] e pos) (tAsg te (Wi_ i)):=by
 intro pins s σ H D I h
 refine wpAny_Assign_Name (thn (he pins s σ H _ I h) fun v s1 ⟨y,H1,I1,r1,q1⟩=>?_) hs
 exact ye_ I1 hN hi hx r1 (fun s2 I2=>⟨_,H1,I2,q1⟩) hf
noncomputable def tPar (i j:Nat) (ta:TA):TS:=fun D σ H=>ta σ H fun vs H1=>∃ v w,vs=[v,w]∧D.nx ((σ.set i (some v)).set j (some w)) H1
theorem zbN_ {i j:Nat} {x y:Str} {a b:Expr} {ta:TA} {px py pt:Pos} {kt k2 pt2} (hc:X.calm=true) (hN:X.N.Nodup) (hi:X.N[i]? = some x) (hj:X.N[j]? = some y) (hij:i≠j)
  (hx:X.env.scope.names.lookup x=some .local) (hy:X.env.scope.names.lookup y=some .local) (ha:PA X [a,b] ta)
  (hw:swappedStores [.Tuple [.Name x px,.Name y py] kt pt] (.Tuple [a,b] k2 pt2) X.env=pure (some [x,y]))
  (hs:swapsWithSole [.Tuple [.Name x px,.Name y py] kt pt] (.Tuple [a,b] k2 pt2) pos.line X.env=pure false:=by rfl) :
  PS X (.Assign [.Tuple [.Name x px,.Name y py] kt pt] (.Tuple [a,b] k2 pt2) pos) (tPar i j ta):=by
 intro pins s σ H D I h
 rw [exec_Assign_arm]
 refine wpAny_bind (wpAny_standAt ?_)
 rw [hs]
 refine wpAny_bind (wpAny_pure ?_)
 rw [if_neg (by decide)]
 refine wpAny_bind (Tuple_ (thn (ha _ pins s σ H _ I h) fun us s1 ⟨vs,H1,I1,r1,q1⟩=>?_))
 obtain ⟨v,w,e1,q1⟩:=q1
 subst e1
 obtain ⟨u1,u2,rfl,rv,rw'⟩:∃ u1 u2,us=[u1,u2]∧RelV v u1∧RelV w u2:=by
  cases r1 with
  | cons p q =>
   cases q with
   | cons p' q' =>
    cases q'
    exact ⟨_,_,rfl,p,p'⟩
 refine wpAny_newObj_type ?_ (by show 2≤sizeLine;decide)
 have I2:Inv X pins σ H1 { s1 with heap:=s1.heap.push { cls:=.type "tuple",data:=.seq [u1,u2].toArray } }:=I1.kept (t':=s1.toks) fun b o e=>Heap.get?_push_of_some _ e
 rw [hw]
 refine wpAny_bind (wpAny_pure ?_)
 show wpAny (model X.prog X.w) X.A (do rule "assign.swapped-stores";let items ←unpackItems (.ref s1.heap.objs.size) 2 none;assignInOrder [fun v=>bindName X.env y v,fun v=>bindName X.env x v] items.reverse;pure Flow.next) _ _ _
 refine wpAny_bind (wpAny_rule (wpAny_bind (unpackItems_tuple (items:=#[u1,u2]) (I.ok.hd hc) (IsTup.new s1.heap _) fun h' hx'=>?_)))
 have I3:=I2.kept (h':=h') (t':=s1.toks) fun b o e=>hx' b o (Nat.ne_of_lt (Heap.lt_size e)) e
 show wpAny _ _ (assignInOrder [fun v=>bindName X.env y v,fun v=>bindName X.env x v] [u2,u1] >>= fun _=>pure Flow.next) _ _ _
 refine wpAny_bind (assignInOrder_cons (wpAny_bindName (ye_ I3 hN hj (.inl hy) rw' (fun s2 I4=>?_) (.inr hy))))
 refine assignInOrder_cons (wpAny_bindName (ye_ I4 hN hi (.inl hx) rv (fun s3 I5=>assignInOrder_nil (wpAny_pure ?_)) (.inr hx)))
 rw [List.set_comm _ _ (Ne.symm hij)] at I5
 exact ⟨_,H1,I5,q1⟩
noncomputable def tAug (i:Nat) (te:TE) (ti:TIp):TS:=fun D σ H=>∃ x,σ[i]? = some (some x)∧te σ H fun y H1=>ti x y H1 fun z H2=>D.nx (σ.set i (some z)) H2
theorem zbP_ {i:Nat} {x:Str} {e:Expr} {te:TE} {op:Operator} {ti:TIp} {pos':Pos} (hN:X.N.Nodup) (hi:X.N[i]? = some x) (hx:Loc X.env.scope x) (he:PE X e te) (ho:PIp X op ti) (hf:X.fn x=true∨X.env.scope.names.lookup x=some .local:=by first|exact .inl rfl|exact .inr rfl|assumption) :
  PS X (.AugAssign (.Name x pos') op e pos) (tAug i te ti):=by
 intro pins s σ H D I h
 obtain ⟨v,e1,h⟩:=h
 obtain ⟨m,hn,hl⟩:=I.loc
 have vis:Vis X.env.scope x:=by rcases hx with k|k;exact .inl k;exact .inr (.inl k)
 obtain ⟨u,r,l⟩:=hl i x v hi e1 vis
 refine wpAny_AugAssign_Name ?_
 have go:wpAny (model X.prog X.w) X.A (eval e X.env) (fun w s₂=>wpAny (model X.prog X.w) X.A (inplaceOp op u w) (fun r s₃=>wpAny (model X.prog X.w) X.A (storeName X.env x r) (fun _=>SP X pins D .next) X.xe s₃) X.xe s₂) X.xe s:=by
  refine thn (he pins s σ H _ I h) fun w s1 ⟨y,H1,I1,r1,q1⟩=>?_
  refine thn (ho pins s1 σ H1 v y u w _ I1 r r1 q1) fun z s2 ⟨zv,H2,I2,r2,q2⟩=>?_
  exact ye_ I2 hN hi hx r2 (fun s3 I3=>⟨_,H2,I3,q2⟩) hf
 rcases l with ⟨hk,hm⟩|⟨hk,c,hc,hcell⟩
 ·exact wpAny_loadName_local I.ok.kind hk hn hm go
 ·rcases hk with hk|hk
  ·exact wpAny_loadName_cell I.ok.kind hk hc hcell go
  ·rcases hx with k|k
   ·have:X.env.scope.names.lookup x=some .free:=hk
    rw [k] at this;cases this
   ·have:X.env.scope.names.lookup x=some .free:=hk
    rw [k] at this;cases this
end
structure It where
 go:Nat→Hp→Prop
 yld:Nat→Hp→V→Hp→Prop
 stop:Nat→Hp→Prop
noncomputable def FpOk (X:Cx) (pins:List (Addr×Obj)) (H:Hp) (b:Addr):Prop :=
 H b=none∧b≠X.env.locals∧b∉X.fs∧(b∈X.ex∨X.s₀.heap.objs.size≤b)∧(∀ x c,X.env.cells.lookup x=some c→c≠b)∧∀ p∈X.pn++pins,p.1≠b
theorem Inv.fpOk {X:Cx} {pins:List (Addr×Obj)} {σ:St} {H H':Hp} {s:Shared} {b:Addr} (I:Inv X pins σ H s) (hb:s.heap.objs.size≤b) (hn:H' b=none):FpOk X pins H' b:=by
 refine ⟨hn,Nat.ne_of_gt (Nat.lt_of_lt_of_le I.lt hb),I.nofs hb,.inr (Nat.le_trans I.sz hb),fun x c e z=>?_,fun p hp z=>?_⟩
 ·obtain ⟨v,q⟩:=I.cell x c e
  exact absurd (Nat.lt_of_lt_of_le q.lt (by rw [z];exact hb)) (Nat.lt_irrefl _)
 ·exact absurd (Nat.lt_of_lt_of_le (Heap.lt_size (I.pin p hp).1) (by rw [z];exact hb)) (Nat.lt_irrefl _)
structure Turn (P:Program) (w:World) (K:PySem.W.Frag) (tg:Expr) (J:It) (fp:List Addr) (it:Addr) (tn:Nat→Heap→Prop):Prop where
 mem:it∈fp
 obj:∀ i h,tn i h→∀ b∈fp,∃ o,h.get? b=some o∧∀ v,o.data≠.cell v
 keep:∀ i h h',tn i h→(∀ b∈fp,∀ o,h.get? b=some o→h'.get? b=some o)→tn i h'
 item:∀ (X:Cx),X.prog=P→X.w=w→X.K=K→X.calm=true→∀ (i:Nat) (pins:List (Addr×Obj)) (s:Shared) (σ:St) (H:Hp) (E:Value→Shared→Prop),Inv X pins σ H s→(∀ b∈fp,FpOk X pins H b)→tn i s.heap→J.go i H →
  wpAny (model P w) X.A (pyNext (.ref it)) (fun r s1=>∃ u,r=some u ∧
   wpAny (model P w) X.A (letOwnedTupleGo tg (.ref it) u) (fun _ s2=>∃ x H',Inv X pins σ H' s2∧RelV x u∧J.yld i H x H'∧tn (i+1) s2.heap∧∀ b∈fp,H' b=none) E s1) E s
 done:∀ (X:Cx),X.prog=P→X.w=w→X.K=K→X.calm=true→∀ (i:Nat) (pins:List (Addr×Obj)) (s:Shared) (σ:St) (H:Hp) (E:Value→Shared→Prop),Inv X pins σ H s→(∀ b∈fp,FpOk X pins H b)→tn i s.heap→J.stop i H →
  wpAny (model P w) X.A (pyNext (.ref it)) (fun r s1=>r=none∧Inv X pins σ H s1) E s
 self:∀ (A:Around) (i:Nat) (s:Shared) (Q:Value→Shared→Prop) (E:Value→Shared→Prop),tn i s.heap→Q (.ref it) s→wpAny (model P w) A (pyIter (.ref it)) Q E s
noncomputable abbrev TI:=St→Hp→(It→Hp→Prop)→Prop
noncomputable def PIE (X:Cx) (pins:List (Addr×Obj)) (σ:St) (tg:Expr) (R:It→Hp→Prop) (itv:Value) (s2:Shared):Prop :=
 ∃ (it:Addr) (fp:List Addr) (tn:Nat→Heap→Prop) (J:It) (H':Hp),itv=.ref it∧Inv X pins σ H' s2∧Turn X.prog X.w X.K tg J fp it tn∧tn 0 s2.heap∧(∀ b∈fp,FpOk X pins H' b)∧R J H'
noncomputable def PI (X:Cx) (tg iter:Expr) (wi:TI):Prop :=
 ∀ (pins:List (Addr×Obj)) (s:Shared) (σ:St) (H:Hp) (R:It→Hp→Prop),Inv X pins σ H s→wi σ H R →
  wpAny (model X.prog X.w) X.A (eval iter X.env) (fun v s1=>wpAny (model X.prog X.w) X.A (pyIter v) (PIE X pins σ tg R) X.xe s1) X.xe s
theorem zaK_ {M:Model} {A:Around} {E:Value→Shared→Prop} {s:Shared} {tg:Expr} {it:Addr} {u:Value} {o:Obj} {n:String} {vs:Array Value} {Q:Unit→Shared→Prop} (ho:s.heap.get? it=some o) (hc:o.cls=.type n) (hd:o.data=.fields vs)
  (hn:["enumerate", "zip", "dict_itemiterator", "dict_reverseitemiterator", "odict_iterator", "itertools.zip_longest", "itertools.pairwise"].contains n=false) (hQ:Q () s):wpAny M A (letOwnedTupleGo tg (.ref it) u) Q E s:=by
 unfold letOwnedTupleGo
 cases tg<;>first
  | exact wpAny_pure hQ
  | (cases u<;>first
     | exact wpAny_pure hQ
     | (refine wpAny_bind (wpAny_load ho ?_)
        rw [hc,hd]
        show wpAny M A (if (["enumerate", "zip", "dict_itemiterator", "dict_reverseitemiterator", "odict_iterator", "itertools.zip_longest", "itertools.pairwise"].contains n&&vs[0]? == some (rawInt _))=true then _ else _) Q E s
        rw [if_neg (by intro h;rw [hn,Bool.false_and] at h;cases h)]
        exact wpAny_pure hQ))
noncomputable def Itl (K:PySem.W.Frag) (a:Addr):It :=
 ⟨fun i H=>∃ xs x,SqL K H a xs∧xs[i]? = some x,fun i H x H'=>H'=H∧∀ xs,SqL K H a xs→xs[i]? = some x,fun i H=>∃ xs,SqL K H a xs∧xs.length≤i⟩
noncomputable def Itt (K:PySem.W.Frag) (a:Addr):It :=
 ⟨fun i H=>∃ xs x,SqT K H a xs∧xs[i]? = some x,fun i H x H'=>H'=H∧∀ xs,SqT K H a xs→xs[i]? = some x,fun i H=>∃ xs,SqT K H a xs∧xs.length≤i⟩
noncomputable def Itr (lo:Int) (n:Nat):It:=⟨fun i _=>i<n,fun i H x H'=>H'=H∧x=.int (lo+i),fun i _=>n≤i⟩
theorem Vm_ {P:Program} {w:World} {K:PySem.W.Frag} {tg:Expr} (a it:Addr):Turn P w K tg (Itl K a) [it] it (fun i h=>h.IsListIter it a i) where
 mem:=by simp
 obj:=fun i h st b hb=>by
  have e:b=it:=by simpa using hb
  subst e
  obtain ⟨o,e,c,d⟩:=st
  exact ⟨o,e,fun v z=>by rw [d] at z;cases z⟩
 keep:=fun i h h' st k=>st.at fun o e=>k it (by simp) o e
 item:=by
  intro X hP hw hK hc i pins s σ H E I hf st hg
  subst hP hw hK
  obtain ⟨xs,x,hq,hx⟩:=hg
  obtain ⟨its,rv,p,hz⟩:=I.list hq
  obtain ⟨u,hu,ru⟩:=rv.get hx
  obtain ⟨f0,f1,f2,f3,f4,f5⟩:=hf it (by simp)
  refine wpAny_pyNext_list_item st p.isList (x:=u) (by simpa using hu) fun h' st' sb=>?_
  have I1:Inv X pins σ H { s with heap:=h' }:=I.turned (t':=s.toks) (fun b o hb e=>(sb.2 b hb).trans e) f0 f1 f3 f4 f5
  obtain ⟨o,e,c,d⟩:=id st'
  exact ⟨u,rfl,zaK_ (s:={ s with heap:=h' }) e c d (by decide) ⟨x,H,I1,ru,⟨rfl,fun ys hy=>by rw [I.list_inj hy hq];exact hx⟩,st',fun b hb=>(hf b hb).1⟩⟩
 done:=by
  intro X hP hw hK hc i pins s σ H E I hf st hg
  subst hP hw hK
  obtain ⟨xs,hq,hx⟩:=hg
  obtain ⟨its,rv,p,hz⟩:=I.list hq
  obtain ⟨f0,f1,f2,f3,f4,f5⟩:=hf it (by simp)
  have hl:=rv.length
  exact wpAny_pyNext_list_end (I.ok.hd hc) st p.isList (by simp;lia) fun h' eb=>⟨rfl,I.turned (t':=s.toks) (fun b o hb e=>eb b o hb e) f0 f1 f3 f4 f5⟩
 self:=fun _ _ _ _ _ st h=>wpAny_pyIter_listiter st h
theorem QD_ {P:Program} {w:World} {K:PySem.W.Frag} {tg:Expr} (a it:Addr):Turn P w K tg (Itt K a) [it] it (fun i h=>h.IsTupleIter it a i) where
 mem:=by simp
 obj:=fun i h st b hb=>by
  have e:b=it:=by simpa using hb
  subst e
  obtain ⟨o,e,c,d⟩:=st
  exact ⟨o,e,fun v z=>by rw [d] at z;cases z⟩
 keep:=fun i h h' st k=>st.at fun o e=>k it (by simp) o e
 item:=by
  intro X hP hw hK hc i pins s σ H E I hf st hg
  subst hP hw hK
  obtain ⟨xs,x,hq,hx⟩:=hg
  obtain ⟨its,rv,p,hz⟩:=I.tuple hq
  obtain ⟨u,hu,ru⟩:=rv.get hx
  obtain ⟨f0,f1,f2,f3,f4,f5⟩:=hf it (by simp)
  refine wpAny_pyNext_tuple_item st (show s.heap.IsTuple a its.toArray from p) (x:=u) (by simpa using hu) fun h' st' sb=>?_
  have I1:Inv X pins σ H { s with heap:=h' }:=I.turned (t':=s.toks) (fun b o hb e=>(sb.2 b hb).trans e) f0 f1 f3 f4 f5
  obtain ⟨o,e,c,d⟩:=id st'
  exact ⟨u,rfl,zaK_ (s:={ s with heap:=h' }) e c d (by decide) ⟨x,H,I1,ru,⟨rfl,fun ys hy=>by rw [I.tuple_inj hy hq];exact hx⟩,st',fun b hb=>(hf b hb).1⟩⟩
 done:=by
  intro X hP hw hK hc i pins s σ H E I hf st hg
  subst hP hw hK
  obtain ⟨xs,hq,hx⟩:=hg
  obtain ⟨its,rv,p,hz⟩:=I.tuple hq
  obtain ⟨f0,f1,f2,f3,f4,f5⟩:=hf it (by simp)
  have hl:=rv.length
  exact wpAny_pyNext_tuple_end (I.ok.hd hc) st (show s.heap.IsTuple a its.toArray from p) (by simp;lia) fun h' eb=>⟨rfl,I.turned (t':=s.toks) (fun b o hb e=>eb b o hb e) f0 f1 f3 f4 f5⟩
 self:=fun _ _ _ _ _ st h=>wpAny_pyIter_tupleiter st h
theorem QE_ {P:Program} {w:World} {K:PySem.W.Frag} {tg:Expr} (it:Addr) (lo:Int) (n:Nat):Turn P w K tg (Itr lo n) [it] it (fun i h=>IsRangeIter h it (lo+(i:Nat)*1) ((n:Int) - (i:Nat)) 1) where
 mem:=by simp
 obj:=fun i h st b hb=>by
  have e:b=it:=by simpa using hb
  subst e
  exact ⟨_,st,fun v z=>by
   have z':Data.fields _=Data.cell v:=z
   cases z'⟩
 keep:=fun i h h' st k=>k it (by simp) _ st
 item:=by
  intro X hP hw hK hc i pins s σ H E I hf st hg
  subst hP hw hK
  obtain ⟨f0,f1,f2,f3,f4,f5⟩:=hf it (by simp)
  have W:=Walks.range (prog:=X.prog) (w:=X.w) (I.ok.hd hc) it lo 1 n
  refine W.item i s _ _ hg st fun v h' tk hv st' kk=>?_
  obtain ⟨t,rfl⟩:=hv
  have I1:Inv X pins σ H { s with heap:=h',toks:=tk }:=I.turned (fun b o hb e=>kk b o (by simpa using hb) e) f0 f1 f3 f4 f5
  refine ⟨_,rfl,zaK_ (s:={ s with heap:=h',toks:=tk }) (n := "range_iterator") st' rfl rfl (by decide) ⟨.int (lo+i),H,I1,⟨t,?_⟩,⟨rfl,rfl⟩,st',fun b hb=>(hf b hb).1⟩⟩
  rw [Int.mul_one]
 done:=by
  intro X hP hw hK hc i pins s σ H E I hf st hg
  subst hP hw hK
  obtain ⟨f0,f1,f2,f3,f4,f5⟩:=hf it (by simp)
  exact wpAny_pyNext_range_end (I.ok.hd hc) st (by have:n≤i:=hg;lia) fun h' eb=>⟨rfl,I.turned (t':=s.toks) (fun b o hb e=>eb b o hb e) f0 f1 f3 f4 f5⟩
 self:=fun _ _ _ _ _ st h=>wpAny_pyIter_rangeiter st h
end L2
namespace L2
open PySem PySem.Spec PyProof.Rows
section
variable {X:Cx} {tg:Expr}
theorem Y3_ {pins:List (Addr×Obj)} {σ:St} {H:Hp} {s:Shared} {R:It→Hp→Prop} {E:Value→Shared→Prop} {lo hi:Int} {t u v:Tok} {tk:Nat} (I:Inv X pins σ H s) (h1 : -(2^62)≤lo) (h2:lo<2^62) (h3 : -(2^62)≤hi) (h4:hi<2^62)
  (q:R (Itr lo (hi - lo).toNat) H):wpAny (model X.prog X.w) X.A (pyIter (.ref s.heap.objs.size)) (PIE X pins σ tg R) E { s with heap:=s.heap.push { cls:=.type "range",data:=.fields #[.int lo t,.int hi u,.int 1 v] },toks:=tk }:=by
 refine wpAny_pyIter_range (IsRange.new ..) (small_one h1 h2 h3 h4) ?_
 have I1:Inv X pins σ H { s with heap:=s.heap.push { cls:=.type "range",data:=.fields #[.int lo t,.int hi u,.int 1 v] },toks:=tk }:=I.kept fun b o e=>Heap.get?_push_of_some _ e
 refine ⟨(s.heap.push { cls:=.type "range",data:=.fields #[.int lo t,.int hi u,.int 1 v] }).objs.size,[(s.heap.push { cls:=.type "range",data:=.fields #[.int lo t,.int hi u,.int 1 v] }).objs.size],_,_,H,rfl,
  I1.kept (t':=tk) fun b o e=>Heap.get?_push_of_some _ e,QE_ _ lo (hi - lo).toNat,?_,fun b hb=>?_,q⟩
 ·have e1:lo+((0:Nat):Int)*1=lo:=by simp
  have e2:(((hi - lo).toNat:Nat):Int) - ((0:Nat):Int)=Builtin.Range.rangeSize lo hi 1:=by rw [rangeSize_one];split<;>lia
  show IsRangeIter _ _ (lo+((0:Nat):Int)*1) ((((hi - lo).toNat:Nat):Int) - ((0:Nat):Int)) 1
  rw [e1,e2]
  exact Heap.get?_push_size _ rfl
 ·have e:b=(s.heap.push { cls:=.type "range",data:=.fields #[.int lo t,.int hi u,.int 1 v] }).objs.size:=by simpa using hb
  subst e
  exact I1.fpOk (Nat.le_refl _) (I1.hok.fresh (Nat.le_refl _))
noncomputable def zdN_ (ta:TA):TI:=fun σ H R=>ta σ H fun vs H1=>∃ j:Int,vs=[.int j] ∧ -(2^62)≤j∧j<2^62∧R (Itr 0 j.toNat) H1
noncomputable def zdM_ (ta:TA):TI:=fun σ H R=>ta σ H fun vs H1=>∃ i j:Int,vs=[.int i,.int j]∧(-(2^62)≤i∧i<2^62 ∧ -(2^62)≤j∧j<2^62)∧R (Itr i (j - i).toNat) H1
theorem VE_ {a:Expr} {ta:TA} {p pos:Pos} (hg:Gl X "range") (hm:X.mg "range" = none) (ha:PA X [a] ta) (hs:starEach [a] X.env=[(false,eval a X.env)]:=by rfl):PI X tg (.Call (.Name "range" p) [a] [] pos) (zdN_ ta):=by
 intro pins s σ H R I h
 refine Call_ (Jt_ I hg hm boot_range (PyProof.Rows.callWith_type1 (thn (ha pos pins s σ H _ I h) fun us s1 ⟨vs,H1,I1,r1,q1⟩=>?_) hs rfl))
 obtain ⟨j,e,q1,q2,q⟩:=q1
 subst e
 cases r1 with
 | cons r rr =>
  cases rr
  obtain ⟨t,rfl⟩:=r
  exact call_range_1 (Y3_ I1 (by lia) (by lia) q1 q2 (by simpa using q))
theorem VD_ {a b:Expr} {ta:TA} {p pos:Pos} (hg:Gl X "range") (hm:X.mg "range" = none) (ha:PA X [a,b] ta) (hs:starEach [a,b] X.env=[(false,eval a X.env),(false,eval b X.env)]:=by rfl) (hs2:starEach [b] X.env=[(false,eval b X.env)]:=by rfl) :
  PI X tg (.Call (.Name "range" p) [a,b] [] pos) (zdM_ ta):=by
 intro pins s σ H R I h
 refine Call_ (Jt_ I hg hm boot_range (PyProof.Rows.callWith_type1 (thn (ha pos pins s σ H _ I h) fun us s1 ⟨vs,H1,I1,r1,q1⟩=>?_) (by rw [hs,hs2]) (by rw [hs2];rfl)))
 obtain ⟨i,j,e,⟨q1,q2,q3,q4⟩,q⟩:=q1
 subst e
 cases r1 with
 | cons r rr =>
  cases rr with
  | cons r' rr =>
   cases rr
   obtain ⟨t,rfl⟩:=r
   obtain ⟨t',rfl⟩:=r'
   exact call_range_2 (Y3_ I1 q1 q2 q3 q4 q)
noncomputable def tFor (wi:TI) (g:TG) (tb:TS):TS:=fun D σ H=>wi σ H fun J H1=>∃ W:Nat→Nat→St→Hp→Prop,(∃ m,W 0 m σ H1)∧∀ i m σ H,W i m σ H →
 (J.stop i H∧D.nx σ H)∨(J.go i H∧∃ N:St→Hp→Prop,(∀ σ' H',N σ' H'→∃ m',m'<m∧W (i+1) m' σ' H')∧∀ x H',J.yld i H x H'→g x σ H' fun σ2 H2=>tb { D with nx:=N,ct:=N,bk:=D.nx } σ2 H2)
noncomputable def Uv_ (fp:List Addr) (h:Heap):List (Addr×Obj):=fp.filterMap fun b=>(h.get? b).map fun o=>(b,o)
theorem yh_ {fp:List Addr} {h:Heap} {b:Addr} {o:Obj} (hb:b∈fp) (e:h.get? b=some o):(b,o)∈Uv_ fp h:=List.mem_filterMap.mpr ⟨b,hb,by rw [e];rfl⟩
theorem VX_ {fp:List Addr} {h:Heap} {p:Addr×Obj} (hp:p∈Uv_ fp h):p.1∈fp∧h.get? p.1=some p.2:=by
 obtain ⟨b,hb,e⟩:=List.mem_filterMap.mp hp
 cases q:h.get? b with
 | none=>rw [q] at e;cases e
 | some o =>
  rw [q] at e
  have e':(b,o)=p:=Option.some.inj e
  subst e'
  exact ⟨hb,q⟩
theorem Inv.pinned {pins:List (Addr×Obj)} {σ:St} {H:Hp} {s:Shared} {fp:List Addr} (I:Inv X pins σ H s) (hf:∀ b∈fp,FpOk X pins H b) (ho:∀ b∈fp,∃ o,s.heap.get? b=some o∧∀ v,o.data≠.cell v):Inv X (pins++Uv_ fp s.heap) σ H s :=
 I.pins_of fun p hp=>(List.mem_append.mp hp).elim (fun z=>I.pin p (List.mem_append_right _ z)) fun z=>by
  obtain ⟨hb,e⟩:=VX_ z
  obtain ⟨f0,f1,f2,_⟩:=hf p.1 hb
  obtain ⟨o,e',d⟩:=ho p.1 hb
  rw [e] at e';cases e'
  exact ⟨e,f0,f1,f2,d⟩
theorem Inv.unpinned {pins pl:List (Addr×Obj)} {σ:St} {H:Hp} {s:Shared} (I:Inv X (pins++pl) σ H s):Inv X pins σ H s:=I.pins_of fun p hp=>I.pin p (List.mem_append_right _ (List.mem_append_left _ hp))
theorem zbO_ {iter:Expr} {body:List Stmt} {wi:TI} {g:TG} {tb:TS} {pos:Pos} (hp:PassesOwn (model X.prog X.w) X.A X.env X.xe) (hc:X.calm=true) (hi:PI X tg iter wi) (hg:PG X tg g) (hb:PSs X body tb)
  (hs:∀ x,foldedSetIterable iter X.env x=pure x:=by intro _;rfl):PS X (.For tg iter body [] pos) (tFor wi g tb):=by
 intro pins s σ H D I h
 refine wpAny_For (thn (hi pins s σ H _ I h) fun v s1 h1=>thn h1 fun itv s2 h2=>?_) hs
 obtain ⟨it,fp,tn,J,H2,e,I2,T,st2,f2,W,⟨m0,w0⟩,turn⟩:=h2
 subst e
 have stat:∀ {H':Hp},(∀ b∈fp,H' b=none)→∀ b∈fp,FpOk X pins H' b:=fun hn b hb=>⟨hn b hb,(f2 b hb).2⟩
 refine codeAny_forLoop_any (fun n s'=>∃ i σ' H',Inv X pins σ' H' s'∧tn i s'.heap∧(∀ b∈fp,H' b=none)∧W i n σ' H') ?_ m0 ⟨0,σ,H2,I2,st2,fun b hb=>(f2 b hb).1,w0⟩
 rintro n s3 ⟨i,σ3,H3,I3,st3,fr3,w3⟩
 rcases turn i n σ3 H3 w3 with ⟨stop,qn⟩|⟨go,N,hN,step⟩
 ·refine wpAny_passesOwn hp (thn (T.done X rfl rfl rfl hc i pins s3 σ3 H3 X.xe I3 (stat fr3) st3 stop) fun r s4 ⟨hr,I4⟩=>?_)
  subst hr
  exact wpAny_execs_nil ⟨σ3,H3,I4,qn⟩
 ·refine wpAny_passesOwn hp (thn (T.item X rfl rfl rfl hc i pins s3 σ3 H3 X.xe I3 (stat fr3) st3 go) fun r s4 ⟨u,hr,h4⟩=>?_)
  subst hr
  refine wpAny_passesOwn hp (thn h4 fun _ s5 ⟨x,H5,I5,r5,y5,st5,fr5⟩=>?_)
  have I5':=I5.pinned (stat fr5) (T.obj _ _ st5)
  refine wpAny_passesOwn hp (thn (hg _ s5 σ3 H5 x u _ I5' r5 (step x H5 y5)) fun _ s6 ⟨σ6,H6,I6,q6⟩=>?_)
  refine wpAny_passesOwn hp (thn (hb _ s6 σ6 H6 _ I6 q6) fun f s7 q7=>?_)
  have again:∀ {σ7:St} {H7:Hp},Inv X (pins++Uv_ fp s5.heap) σ7 H7 s7→N σ7 H7→∃ m,m<n∧∃ i σ' H',Inv X pins σ' H' s7∧tn i s7.heap∧(∀ b∈fp,H' b=none)∧W i m σ' H':=fun {σ7 H7} I7 n7=>by
   obtain ⟨m',hm,w7⟩:=hN σ7 H7 n7
   refine ⟨m',hm,i+1,σ7,H7,I7.unpinned,T.keep _ _ _ st5 fun b hb o e=>(I7.pin (b,o) (List.mem_append_right _ (List.mem_append_right _ (yh_ hb e)))).1,fun b hb=>?_,w7⟩
   obtain ⟨o,e,d⟩:=T.obj _ _ st5 b hb
   exact (I7.pin (b,o) (List.mem_append_right _ (List.mem_append_right _ (yh_ hb e)))).2.1
  cases f with
  | next=>obtain ⟨σ7,H7,I7,n7⟩:=q7;exact again I7 n7
  | cont=>obtain ⟨σ7,H7,I7,n7⟩:=q7;exact again I7 n7
  | brk=>obtain ⟨σ7,H7,I7,q7⟩:=q7;exact ⟨σ7,H7,I7.unpinned,q7⟩
  | ret v=>obtain ⟨x7,σ7,H7,I7,r7,q7⟩:=q7;exact ⟨x7,σ7,H7,I7.unpinned,r7,q7⟩
end
end L2
namespace L2
open PySem PySem.Spec PyProof.Rows
noncomputable abbrev R2:=V→V→Hp→VK→Prop
noncomputable def OpR (X:Cx) (f:Value→Value→Sem Value) (r:R2):Prop :=
 ∀ (pins:List (Addr×Obj)) (s:Shared) (σ:St) (H:Hp) (x y:V) (v u:Value) (Q:VK),Inv X pins σ H s→RelV x v→RelV y u→r x y H Q →
  wpAny (model X.prog X.w) X.A (f v u) (EP X pins σ Q) X.xe s
noncomputable def CallR (X:Cx) (f:Value) (r:List V→Hp→VK→Prop):Prop :=
 ∀ (pins:List (Addr×Obj)) (s:Shared) (σ:St) (H:Hp) (xs:List V) (us:List Value) (Q:VK),Inv X pins σ H s→Vals xs us→r xs H Q →
  wpAny (model X.prog X.w) X.A (call f us) (EP X pins σ Q) X.xe s
noncomputable def TruR (X:Cx) (r:V→Hp→(Bool→Hp→Prop)→Prop):Prop :=
 ∀ (pins:List (Addr×Obj)) (s:Shared) (σ:St) (H:Hp) (x:V) (v:Value) (Q:Bool→Hp→Prop),Inv X pins σ H s→RelV x v→r x H Q →
  wpAny (model X.prog X.w) X.A (truthy v) (TP X pins σ Q) X.xe s
noncomputable def tOp (r:R2) (ta tb:TE):TE:=fun σ H Q=>ta σ H fun x H1=>tb σ H1 fun y H2=>r x y H2 Q
noncomputable def rI (C:Int→Int→Prop) (g:Int→Int→V):R2:=fun x y H Q=>∃ i j,x=.int i∧y=.int j∧C i j∧Q (g i j) H
noncomputable def rI0 (g:Int→Int→V):R2:=fun x y H Q=>∃ i j,x=.int i∧y=.int j∧Q (g i j) H
section
variable {X:Cx} {a b c:Expr} {ta tb tc:TE} {pos:Pos}
theorem binT (ha:PE X a ta) (hb:PE X b tb) {pins:List (Addr×Obj)} {s:Shared} {σ:St} {H:Hp} {R:V→V→Hp→Prop} (I:Inv X pins σ H s)
  (h:ta σ H fun x H1=>tb σ H1 fun y H2=>R x y H2) {Q:Value→Shared→Prop} {f:Value→Value→Sem Value}
  (hf:∀ v u s2 x y H2,Inv X pins σ H2 s2→RelV x v→RelV y u→R x y H2→wpAny (model X.prog X.w) X.A (f v u) Q X.xe s2) :
  wpAny (model X.prog X.w) X.A (eval a X.env) (fun v s₁=>wpAny (model X.prog X.w) X.A (eval b X.env) (fun u s₂=>wpAny (model X.prog X.w) X.A (f v u) Q X.xe s₂) X.xe s₁) X.xe s:=by
 refine thn (ha pins s σ H _ I h) fun v s1 ⟨x,H1,I1,r1,q1⟩=>?_
 refine thn (hb pins s1 σ H1 _ I1 q1) fun u s2 ⟨y,H2,I2,r2,q2⟩=>?_
 exact hf v u s2 x y H2 I2 r1 r2 q2
theorem zbW_ {op:Operator} {r:R2} (ho:OpR X (binaryOp op) r) (ha:PE X a ta) (hb:PE X b tb):PE X (.BinOp a op b pos) (tOp r ta tb):=by
 intro pins s σ H Q I h
 exact wpAny_BinOp (binT ha hb I h fun v u s2 x y H2 I2 rx ry q=>ho pins s2 σ H2 x y v u Q I2 rx ry q)
theorem opI {f:Value→Value→Sem Value} {C:Int→Int→Prop} {g:Int→Int→Int}
  (rule:∀ (i j:Int) (t u:Tok) (s:Shared) (Q:Value→Shared→Prop) (E:Value→Shared→Prop),C i j→Q (.int (g i j) s.toks) { s with toks:=s.toks+1 }→wpAny (model X.prog X.w) X.A (f (.int i t) (.int j u)) Q E s) :
  OpR X f (rI C fun i j=>.int (g i j)):=by
 intro pins s σ H x y v u Q I rx ry h
 obtain ⟨i,j,rfl,rfl,hc,q⟩:=h
 obtain ⟨t,rfl⟩:=rx
 obtain ⟨t',rfl⟩:=ry
 exact rule i j t t' s _ _ hc ⟨.int (g i j),H,I.tok _,⟨_,rfl⟩,q⟩
theorem opI0 {f:Value→Value→Sem Value} {g:Int→Int→Int}
  (rule:∀ (i j:Int) (t u:Tok) (s:Shared) (Q:Value→Shared→Prop) (E:Value→Shared→Prop),Q (.int (g i j) s.toks) { s with toks:=s.toks+1 }→wpAny (model X.prog X.w) X.A (f (.int i t) (.int j u)) Q E s) :
  OpR X f (rI0 fun i j=>.int (g i j)):=by
 intro pins s σ H x y v u Q I rx ry h
 obtain ⟨i,j,rfl,rfl,q⟩:=h
 obtain ⟨t,rfl⟩:=rx
 obtain ⟨t',rfl⟩:=ry
 exact rule i j t t' s _ _ ⟨.int (g i j),H,I.tok _,⟨_,rfl⟩,q⟩
theorem opB0 {f:Value→Value→Sem Value} {g:Int→Int→Bool}
  (rule:∀ (i j:Int) (t u:Tok) (s:Shared) (Q:Value→Shared→Prop) (E:Value→Shared→Prop),Q (.bool (g i j)) s→wpAny (model X.prog X.w) X.A (f (.int i t) (.int j u)) Q E s) :
  OpR X f (rI0 fun i j=>.bl (g i j)):=by
 intro pins s σ H x y v u Q I rx ry h
 obtain ⟨i,j,rfl,rfl,q⟩:=h
 obtain ⟨t,rfl⟩:=rx
 obtain ⟨t',rfl⟩:=ry
 exact rule i j t t' s _ _ ⟨.bl (g i j),H,I,rfl,q⟩
noncomputable def CDiv (i j:Int):Prop:=0<j∧j<1073741824
noncomputable def CPow (i j:Int):Prop:=0≤j∧j≤1000000∧i.natAbs<2^64
noncomputable def CMul (i j:Int):Prop:=(-(2^64)<i∧i<2^64)∨(-(2^64)<j∧j<2^64)
theorem CMul.ok {i j:Int} (h:CMul i j):IntMulOk i j:=by
 rcases h with ⟨h1,h2⟩|⟨h1,h2⟩
 ·exact .of_left (intBits_le_64 h1 h2)
 ·exact .of_right (intBits_le_64 h1 h2)
theorem op_add:OpR X (binaryOp .Add) (rI0 fun i j=>.int (i+j)):=opI0 fun _ _ _ _ _ _ _ q=>add_int q
theorem yA_:OpR X (binaryOp .Sub) (rI0 fun i j=>.int (i - j)):=opI0 fun _ _ _ _ _ _ _ q=>sub_int q
theorem u0_:OpR X (binaryOp .Mult) (rI CMul fun i j=>.int (i*j)):=opI fun _ _ _ _ _ _ _ hc q=>mul_int q hc.ok
theorem ZC_:OpR X (binaryOp .FloorDiv) (rI CDiv fun i j=>.int (i / j)):=opI fun i j _ _ _ _ _ hc q=>by
 have h1:(0:Int)<j:=hc.1
 have h2:j<1073741824:=hc.2
 exact floordiv_int (by lia) (by rw [Int.fdiv_eq_ediv_of_nonneg i (by lia)];exact q) (.inl (PyProof.noPylong_small (by lia)))
theorem u1_:OpR X (binaryOp .Mod) (rI (fun _ j=>0<j) fun i j=>.int (i % j)):=opI fun i j _ _ _ _ _ hc q=>by
 have h1:(0:Int)<j:=hc
 exact mod_int' (by lia) (by rw [Int.fmod_eq_emod_of_nonneg i (by lia)];exact q)
theorem zck_:OpR X (binaryOp .Pow) (rI CPow fun i j=>.int (i^j.toNat)):=opI fun _ _ _ _ _ _ _ hc q=>pow_int_small hc.1 hc.2.1 hc.2.2 q
end
section
variable {X:Cx} {a b c:Expr} {ta tb tc:TE} {pos:Pos}
theorem XT_ {pins:List (Addr×Obj)} {σ:St} {H:Hp} {s:Shared} {Q:VK} {k k':Bool} (I:Inv X pins σ H s) (q:Q (.bl k) H) (e:k=k'):EP X pins σ Q (.bool k') s:=by
 subst e
 exact ⟨.bl k,H,I,rfl,q⟩
theorem zdB_:OpR X (compareOp .Lt) (rI0 fun i j=>.bl (decide (i<j))):=opB0 fun _ _ _ _ _ _ _ q=>lt_int q
theorem zdC_:OpR X (compareOp .LtE) (rI0 fun i j=>.bl (decide (i≤j))):=opB0 fun _ _ _ _ _ _ _ q=>le_int q
theorem VQ_:OpR X (compareOp .Gt) (rI0 fun i j=>.bl (decide (j<i))):=opB0 fun _ _ _ _ _ _ _ q=>gt_int q
theorem zcp_:OpR X (compareOp .GtE) (rI0 fun i j=>.bl (decide (j≤i))):=opB0 fun _ _ _ _ _ _ _ q=>ge_int q
theorem VP_:OpR X (compareOp .In) (fun x y H Q=>∃ i j,x=.str i∧y=.str j∧Q (.bl (!(Builtin.Str.occurrences j i 0 j.length 1).isEmpty)) H):=by
 intro pins s σ H x y v u Q I rx ry h
 obtain ⟨i,j,rfl,rfl,q⟩:=h
 obtain ⟨t,rfl⟩:=rx
 obtain ⟨t',rfl⟩:=ry
 exact in_str (XT_ I q rfl)
theorem zco_:OpR X (compareOp .Is) (fun x y H Q=>y=.non∧Q (.bl (decide (x=.non))) H):=by
 intro pins s σ H x y v u Q I rx ry h
 obtain ⟨rfl,q⟩:=h
 cases ry
 refine is_none_gen (XT_ I q ?_)
 cases x<;>first
  | (cases rx;rfl)
  | (obtain ⟨t,rfl⟩:=rx;rfl)
theorem OpR.or {f:Value→Value→Sem Value} {r r':R2} (h:OpR X f r) (h':OpR X f r'):OpR X f (fun x y H Q=>r x y H Q∨r' x y H Q):=by
 intro pins s σ H x y v u Q I rx ry q
 rcases q with q|q
 ·exact h pins s σ H x y v u Q I rx ry q
 ·exact h' pins s σ H x y v u Q I rx ry q
theorem zar_ {op:CmpOp} {r:R2} (ho:OpR X (compareOp op) r) (ha:PE X a ta) (hb:PE X b tb) (hm:behindInMarks op b=false):PE X (.Compare a [op] [b] pos) (tOp r ta tb):=by
 intro pins s σ H Q I h
 exact wpAny_Compare1 (binT ha hb I h fun v u s2 x y H2 I2 rx ry q=>ho pins s2 σ H2 x y v u Q I2 rx ry q) hm
noncomputable def zdj_ (t:TE):TT:=fun σ H Q=>t σ H fun x H'=>∃ k,x=.bl k∧Q k H'
theorem VA_ {op:CmpOp} {r:R2} (ho:OpR X (compareOp op) r) (ha:PE X a ta) (hb:PE X b tb) (hm:behindInMarks op b=false):PT X (.Compare a [op] [b] pos) (zdj_ (tOp r ta tb)):=by
 intro pins s σ H Q I h
 refine wpAny_isTrue_Compare1 (thn (ha pins s σ H _ I h) fun v s1 ⟨x,H1,I1,r1,q1⟩=>thn (hb pins s1 σ H1 _ I1 q1) fun u s2 ⟨y,H2,I2,r2,q2⟩ =>
  thn (ho pins s2 σ H2 x y v u _ I2 r1 r2 q2) fun c s3 ⟨z,H3,I3,r3,k,e,q3⟩=>?_) hm
 subst e
 cases r3
 exact wpAny_truthy_bool ⟨H3,I3,q3⟩
noncomputable def TruV (K:PySem.W.Frag) (x:V) (H:Hp) (k:Bool):Prop :=
 match x with
 | .non=>k=false
 | .bl b=>k=b
 | .int i=>k=(i != 0)
 | .str y=>y.length≤sizeLine∧k=((y.length:Int) != 0)
 | .byt y=>y.size≤sizeLine∧k=((y.size:Int) != 0)
 | .ref p=>(∃ xs,SqL K H p xs∧k = !xs.isEmpty)∨(∃ xs,SqT K H p xs∧k = !xs.isEmpty)∨∃ kvs,H p=some (.dK kvs)∧k = !kvs.isEmpty
 | _=>False
theorem QW_ {κ:Type} {kvs:List (κ×V)} {vs:List (κ×Value)} (r:KV kvs vs):(!vs.isEmpty) = !kvs.isEmpty:=by
 cases r<;>rfl
theorem Jw_ {xs:List V} {its:List Value} (r:Vals xs its):(!its.toArray.isEmpty) = !xs.isEmpty:=by
 cases r<;>simp
theorem ZG_:(sizeLine:Nat)<2^63:=by rw [sizeLine_eq];decide
theorem zbl_:TruR X (fun x H Q=>∃ k,TruV X.K x H k∧Q k H):=by
 intro pins s σ H x v Q I rx h
 obtain ⟨k,e,q⟩:=h
 have hl:=ZG_
 have hs:sizeLine=16777216:=sizeLine_eq
 cases x with
 | non =>
  cases rx
  have e':k=false:=e
  subst e'
  exact truthy_none ⟨H,I,q⟩
 | bl b =>
  cases rx
  have e':k=b:=e
  subst e'
  exact wpAny_truthy_bool ⟨H,I,q⟩
 | int i =>
  obtain ⟨t,rfl⟩:=rx
  have e':k=(i != 0):=e
  subst e'
  exact PySem.P.truthy_int ⟨H,I,q⟩
 | str y =>
  obtain ⟨t,rfl⟩:=rx
  obtain ⟨hy,e'⟩:y.length≤sizeLine∧k=((y.length:Int) != 0):=e
  subst e'
  exact PySem.P.truthy_str (by lia) ⟨H,I.tok _,q⟩
 | byt y =>
  obtain ⟨t,rfl⟩:=rx
  obtain ⟨hy,e'⟩:y.size≤sizeLine∧k=((y.size:Int) != 0):=e
  subst e'
  exact PySem.W.truthy_bytes (by lia) ⟨H,I.tok _,q⟩
 | ref p =>
  cases rx
  have e':(∃ xs,SqL X.K H p xs∧k = !xs.isEmpty)∨(∃ xs,SqT X.K H p xs∧k = !xs.isEmpty)∨∃ kvs,H p=some (.dK kvs)∧k = !kvs.isEmpty:=e
  rcases e' with ⟨xs,hx,e'⟩|⟨xs,hx,e'⟩|⟨kvs,hx,e'⟩
  ·subst e'
   obtain ⟨its,r,pl,hz⟩:=I.list hx
   have hlen:=r.length
   exact wpAny_truthy_list pl.isList (by simp only [List.size_toArray];lia) ⟨H,I.tok _,by rw [Jw_ r];exact q⟩
  ·subst e'
   obtain ⟨its,r,pl,hz⟩:=I.tuple hx
   have hlen:=r.length
   exact truthy_tuple pl (by simp only [List.size_toArray];lia) ⟨H,I.tok _,by rw [Jw_ r];exact q⟩
  ·subst e'
   obtain ⟨hz,hS,vs,r,m⟩:kvs.length≤sizeLine∧(p==sysModules)=false∧∃ vs,KV kvs vs∧s.heap.DictOf (z2_ X.prog X.w) p vs:=I.hok p _ hx
   have hlen:kvs.length=vs.length:=Paired.length r
   exact wpAny_truthy_dict hS m (by lia) ⟨H,I.tok _,by rw [QW_ r];exact q⟩
 | _=>exact (show False from e).elim
theorem QN_:OpR X (binaryOp .Add) (fun x y H Q=>∃ i j,x=.str i∧y=.str j∧i.length+j.length≤sizeLine∧Q (.str (i++j)) H):=by
 intro pins s σ H x y v u Q I rx ry h
 obtain ⟨i,j,rfl,rfl,hz,q⟩:=h
 obtain ⟨t,rfl⟩:=rx
 obtain ⟨t',rfl⟩:=ry
 exact add_str (fun t' tk=>⟨.str (i++j),H,I.tok _,⟨_,rfl⟩,q⟩) hz
theorem vals1 {x:V} {us:List Value} (r:Vals [x] us):∃ u,us=[u]∧RelV x u:=by
 cases r with
 | cons r1 r2=>cases r2;exact ⟨_,rfl,r1⟩
theorem vals2 {x y:V} {us:List Value} (r:Vals [x,y] us):∃ u w',us=[u,w']∧RelV x u∧RelV y w':=by
 cases r with
 | cons r1 r2 =>
  cases r2 with
  | cons r3 r4=>cases r4;exact ⟨_,_,rfl,r1,r3⟩
theorem Qu_:CallR X (.builtin "abs") (fun xs H Q=>∃ i,xs=[.int i]∧Q (.int (if i<0 then -i else i)) H):=by
 intro pins s σ H xs us Q I r h
 obtain ⟨i,rfl,q⟩:=h
 obtain ⟨u,rfl,t,rfl⟩:=vals1 r
 exact call_abs_int fun u tk=>⟨.int (if i<0 then -i else i),H,I.tok _,⟨_,rfl⟩,q⟩
theorem Wv_ (hc:X.calm=true):CallR X (.builtin "min") (fun xs H Q=>∃ i j,xs=[.int i,.int j]∧Q (.int (if j<i then j else i)) H):=by
 intro pins s σ H xs us Q I r h
 obtain ⟨i,j,rfl,q⟩:=h
 obtain ⟨u,w',rfl,⟨t,rfl⟩,⟨t',rfl⟩⟩:=vals2 r
 refine min_two_ints (I.ok.hd hc) fun h' tk k=>⟨_,H,I.kept k,?_,q⟩
 by_cases hj:j<i
 ·rw [if_pos hj,if_pos hj];exact ⟨_,rfl⟩
 ·rw [if_neg hj,if_neg hj];exact ⟨_,rfl⟩
theorem Ww_:CallR X (.type "int") (fun xs H Q=>(∃ i,xs=[.int i]∧Q (.int i) H)∨∃ k,xs=[.bl k]∧Q (.int (if k then 1 else 0)) H):=by
 intro pins s σ H xs us Q I r h
 rcases h with ⟨i,rfl,q⟩|⟨k,rfl,q⟩
 ·obtain ⟨u,rfl,t,rfl⟩:=vals1 r
  exact call_int_int ⟨.int i,H,I,⟨_,rfl⟩,q⟩
 ·obtain ⟨u,rfl,r1⟩:=vals1 r
  cases r1
  exact call_int_bool ⟨.int (if k then 1 else 0),H,I.tok _,⟨_,rfl⟩,q⟩
end
end L2
namespace L2
open PySem PySem.Spec PyProof.Rows
theorem V3_ {h:Heap} {dx:Addr} {mA:Str→Option Value} (n:h.Ns1 dx mA):∃ od,h.get? dx=some od∧∀ name,PySem.W.lookIn name od=some (mA name):=by
 obtain ⟨o,es,ep,ho,hd,hk,_,hm⟩:=n
 refine ⟨o,ho,fun name=>?_⟩
 have e:=hm name
 unfold nsFind findBy at e
 rw [←Array.find?_toList] at e
 unfold PySem.W.lookIn
 rw [hd]
 dsimp only
 split
 ·rename_i y q
  rw [q] at e
  exact congrArg some e
 ·rename_i q
  rw [q] at e
  have a:es.toList.any (·.refKey)=false:=by
   rw [List.any_eq_false]
   intro y hy
   obtain ⟨z,t,hkey⟩:=hk y (Array.mem_toList_iff.mp hy)
   simp [DictEntry.refKey,hkey]
  have a':¬ es.toList.any (·.refKey)=true:=by rw [a];exact Bool.false_ne_true
  rw [if_neg a']
  exact congrArg some e
theorem RelO.some_of {v:V} {o:Option Value} (r:RelO (some v) o):∃ u,o=some u∧RelV v u:=by
 cases o with
 | none=>exact (show False from r).elim
 | some u=>exact ⟨u,rfl,r⟩
noncomputable def WJ_ (K:PySem.W.Frag) (C:Addr) (f:Str):Prop:=PySem.W.findIn K (.ref C) f=some none
end L2
namespace L2
open PySem PySem.Spec PyProof.Rows
structure Room (k:Nat) (A:Around):Prop where
 hd:A.handled=none
 dp:A.depth+3*k+5<recursionLimit
 un:A.units+16*k+1200<cLine
 gd:A.guards=some []
theorem Room.mono {j k:Nat} {A:Around} (r:Room k A) (h:j≤k):Room j A:=⟨r.hd,by have:=r.dp;lia,by have:=r.un;lia,r.gd⟩
theorem Room.deeper {k:Nat} {A:Around} (r:Room (k+1) A) (env:Env):Room k (A.deeper env) :=
 ⟨r.hd,by have:=r.dp;show A.depth+1+3*k+5<_;lia,by have:=r.un;show A.units+3+16*k+1200<_;lia,r.gd⟩
theorem QQ_ {A:Around} {C:Addr} {us:List Value} {kw:List (Str×Value)}:(A.under (.builtin "type.__call__" ⟨.ref C::us,kw⟩)).depth=A.depth+1:=by
 first|rfl|simp [Around.under,Code.weight,Code.isCreation,Code.isGuard,Code.isCaller,Code.frames,Code.isFrame,guardIds]
theorem QP_ {A:Around} {C:Addr} {us:List Value} {kw:List (Str×Value)}:(A.under (.builtin "type.__call__" ⟨.ref C::us,kw⟩)).units=A.units+1:=by
 first|rfl|simp [Around.under,Code.cUnits,Code.frames,Code.isFrame]
theorem Room.make {k:Nat} {A:Around} (r:Room (k+1) A) (C:Addr) (us:List Value) (kw:List (Str×Value)):Room k (A.under (.builtin "type.__call__" ⟨.ref C::us,kw⟩)) :=
 ⟨r.hd,by have:=r.dp;rw [QQ_];lia,by have:=r.un;rw [QP_];lia,by first|exact r.gd|simpa [Around.under,Code.isGuard,guardIds] using r.gd⟩
theorem Room.depth {k:Nat} {A:Around} (r:Room k A):A.depth<recursionLimit:=by have:=r.dp;lia
noncomputable def tNil:TA:=fun _ H Q=>Q [] H
noncomputable def zbp_ (ta:TE) (tr:TA):TA:=fun σ H Q=>ta σ H fun x H1=>tr σ H1 fun xs H2=>Q (x::xs) H2
section
variable {X:Cx} {e:Expr} {es:List Expr} {te:TE} {t:TA} {pos:Pos}
theorem Jr_:PA X [] tNil:=fun _ _ _ _ H Q I h=>Calls.spliced_nil ⟨[],H,I,.nil,h⟩
theorem uL_ (ha:PE X e te) (hr:PA X es t) (hs:starEach (e::es) X.env=(false,eval e X.env)::starEach es X.env:=by rfl):PA X (e::es) (zbp_ te t):=by
 intro pos pins s σ H Q I h
 rw [hs]
 show wpAny _ _ (spliced ((false,eval e X.env)::backTo pos (starEach es X.env))) _ _ s
 refine Calls.spliced_cons (thn (ha pins s σ H _ I h) fun u s1 ⟨x,H1,I1,r1,q1⟩=>?_)
 exact thn (hr pos pins s1 σ H1 _ I1 q1) fun us s2 ⟨xs,H2,I2,r2,q2⟩=>⟨x::xs,H2,I2,.cons r1 r2,q2⟩
noncomputable def tTup (t:TA):TE:=fun σ H Q=>t σ H fun xs H1=>xs.length≤sizeLine∧∀ p,H1 p=none→Q (.ref p) (upd H1 p (.tup xs))
noncomputable def tLst (t:TA):TE:=fun σ H Q=>t σ H fun xs H1=>xs.length≤sizeLine∧∀ p,H1 p=none→Q (.ref p) (upd H1 p (.lst xs))
theorem VG_ {x1} (h:PA X es t):PE X (.Tuple es x1 pos) (tTup t):=by
 intro pins s σ H Q I hq
 refine wpAny_Tuple_spliced (thn (h pos pins s σ H _ I hq) fun us s1 ⟨xs,H1,I1,r,z,q⟩=>⟨by rw [←r.length];exact z,?_⟩)
 have hf:H1 s1.heap.objs.size=none:=I1.hok.fresh (Nat.le_refl _)
 refine ⟨.ref s1.heap.objs.size,upd H1 s1.heap.objs.size (.tup xs),I1.laid (t':=s1.toks) (fun b u e=>Heap.get?_push_of_some _ e) (Nat.le_refl _) ?_,rfl,q _ hf⟩
 exact ⟨z,us,r,⟨_,Heap.get?_push_size _ rfl,rfl,_,rfl⟩,⟨_,Heap.get?_push_size _ rfl,rfl⟩⟩
theorem zbZ_ (h:PA X es t):PE X (.List es pos) (tLst t):=by
 intro pins s σ H Q I hq
 refine wpAny_List_spliced (thn (h pos pins s σ H _ I hq) fun us s1 ⟨xs,H1,I1,r,z,q⟩=>⟨by rw [←r.length];exact z,?_⟩)
 have hf:H1 s1.heap.objs.size=none:=I1.hok.fresh (Nat.le_refl _)
 refine ⟨.ref s1.heap.objs.size,upd H1 s1.heap.objs.size (.lst xs),I1.laid (t':=s1.toks) (fun b u e=>Heap.get?_push_of_some _ e) (Nat.le_refl _) ?_,rfl,q _ hf⟩
 exact ⟨z,us,0,r,Heap.get?_push_size _ rfl⟩
end
noncomputable abbrev Sp:=List V→Hp→VK→XK→Prop
noncomputable abbrev CXT:=List Env→Hp→Shared→XK→Value→Shared→Prop
structure Env0 (P:Program) (w:World) (K:PySem.W.Frag) (mg:Str→Option Value) (base:Heap) (A:Around) (outer:List Env) (s:Shared) (H:Hp):Prop where
 frames:A.frames=some outer
 mod:Mod K mg base
 bs:∀ b o,base.get? b=some o→s.heap.get? b=some o∧H b=none
 bsz:base.objs.size≤s.heap.objs.size
 funs:s.heap.FunFrames base outer
 frf:∀ b∈frs outer,H b=none
 hok:HOk P w H s.heap
 bare:AllBare s.gens
noncomputable def CE (outer:List Env) (P:Program) (w:World) (H:Hp) (s:Shared) (Q:VK) (u:Value) (s':Shared):Prop :=
 ∃ v H',s'.os=s.os∧AllBare s'.gens∧Un (frs outer) [] H H' s.heap s'.heap∧HOk P w H' s'.heap∧RelV v u∧Q v H'
noncomputable def CR (CX:CXT) (outer:List Env) (P:Program) (w:World) (H:Hp) (s:Shared) (Q:VK) (E:XK) (r:Result) (s':Shared):Prop :=
 match r with
 | .ok (.ret u)=>CE outer P w H s Q u s'
 | .ok _=>False
 | .error e=>CX outer H s E e s'
structure FnOk (P:Program) (w:World) (K:PySem.W.Frag) (mg:Str→Option Value) (base:Heap) (CX:CXT) (k:Nat) (f:Addr) (fd:FuncData) (ps:List Str) (sp:Sp):Prop where
 len:∀ vs H Q E,sp vs H Q E→vs.length=ps.length
 run:∀ (A:Around) (outer:List Env) (s:Shared) (H:Hp) (args:Args) (us:List Value) (vs:List V) (Q:VK) (E:XK),Room k A→Env0 P w K mg base A outer s H→BindsTo s fd args (ps.zip us)→Vals vs us→sp vs H Q E →
  codeAny (model P w) A (.call (.ref f) args) (CR CX outer P w H s Q E) s
theorem Env0.make {P:Program} {w:World} {K:PySem.W.Frag} {mg:Str→Option Value} {base:Heap} {A:Around} {outer:List Env} {s:Shared} {H:Hp} (e:Env0 P w K mg base A outer s H) (C:Addr) (us:List Value) (kw:List (Str×Value)) :
  Env0 P w K mg base (A.under (.builtin "type.__call__" ⟨.ref C::us,kw⟩)) outer s H:=⟨by first|exact e.frames|(simpa [Around.under,Code.envs,Code.isFrame,pushEnvs] using e.frames),e.mod,e.bs,e.bsz,e.funs,e.frf,e.hok,e.bare⟩
section
variable {X:Cx} {pins:List (Addr×Obj)} {σ:St} {H:Hp} {s s':Shared}
theorem Inv.env0 (I:Inv X pins σ H s):Env0 X.prog X.w X.K X.mg X.base X.A X.stack s H :=
 ⟨I.ok.frames,I.ok.mod,I.bs,Nat.le_trans I.ok.bsz I.sz,I.stack,I.stkFree,I.hok,I.bare⟩
theorem Inv.after {Q:VK} {u:Value} (I:Inv X pins σ H s) (h:CE X.stack X.prog X.w H s Q u s'):EP X pins σ Q u s':=by
 obtain ⟨v,H',os,bare,un,hok,r,q⟩:=h
 obtain ⟨hh,g,d,t,os'⟩:=s'
 obtain rfl:os'=s.os:=os
 exact ⟨v,H',I.call (h':=hh) (g':=g) (d':=d) (t':=t) (ch:=[]) un hok bare (fun b z=>absurd z (by simp)),r,q⟩
end
noncomputable def Binds (K:PySem.W.Frag) (fd:FuncData) (ps:List Str) (ds:List Value):Prop :=
 ∀ (s:Shared) (us:List Value),K.In s.heap→(us++ds).length=ps.length→BindsTo s fd ⟨us,[]⟩ (ps.zip (us++ds))
theorem Binds.all {K:PySem.W.Frag} {fd:FuncData} {ps:List Str} (h:∀ us:List Value,us.length=ps.length→bindArgs fd ⟨us,[]⟩=pure (ps.zip us)):Binds K fd ps []:=fun s us _ hl=>by
 rw [List.append_nil] at hl ⊢
 exact .of_eq (h us hl)
structure FnScope (N P:List Str) (sc:Scope):Prop where
 kind:sc.kind=.function
 co:sc.isCoroutine=false
 gen:sc.isGenerator=false
 nd:N.Nodup
 pre:N.take P.length=P
 par:∀ x∈P,sc.names.lookup x=some .local∨sc.names.lookup x=some .cell
 nofree:∀ y∈sc.names,y.2≠.free
theorem U7_ {kindOf:Str→Option NameKind} {x:Str}:∀ {binds:List (Str×Value)} {m:Str→Option Value},(∀ v,(x,v)∉binds)→bindL kindOf binds m x=m x
 | [],_,_=>rfl
 | (n,v)::r,m,h=>by
  unfold bindL
  rw [U7_ fun w hw=>h w (List.mem_cons_of_mem _ hw)]
  split
  ·have:x≠n:=by rintro rfl;exact h v List.mem_cons_self
   simp [this]
  ·rfl
theorem U9_ {kindOf:Str→Option NameKind} {x:Str}:∀ {binds:List (Str×Value)} {m:Str→Option Value},(∀ v,(x,v)∉binds)→bindC kindOf binds m x=m x
 | [],_,_=>rfl
 | (n,v)::r,m,h=>by
  unfold bindC
  rw [U9_ fun w hw=>h w (List.mem_cons_of_mem _ hw)]
  split
  ·rfl
  ·have:x≠n:=by rintro rfl;exact h v List.mem_cons_self
   simp [this]
theorem U8_ {kindOf:Str→Option NameKind} {x:Str} {v:Value}:∀ {P:List Str} {vs:List Value} {i:Nat} {m:Str→Option Value},P.Nodup→P[i]? = some x→vs[i]? = some v→kindOf x=some .local →
  bindL kindOf (P.zip vs) m x=some v
 | [],_,_,_,_,h,_,_=>by simp at h
 | _::_,[],_,_,_,_,h,_=>by simp at h
 | p::P,w::vs,0,m,nd,h1,h2,hk=>by
  simp at h1 h2;subst h1;subst h2
  show bindL kindOf ((p,w)::P.zip vs) m p=_
  unfold bindL
  rw [U7_ fun v hv=>(List.nodup_cons.mp nd).1 (List.of_mem_zip hv).1,if_pos hk]
  simp
 | p::P,w::vs,i+1,m,nd,h1,h2,hk=>by
  show bindL kindOf ((p,w)::P.zip vs) m x=_
  unfold bindL
  exact U8_ (i:=i) (List.nodup_cons.mp nd).2 (by simpa using h1) (by simpa using h2) hk
theorem Ya_ {kindOf:Str→Option NameKind} {x:Str} {v:Value}:∀ {P:List Str} {vs:List Value} {i:Nat} {m:Str→Option Value},P.Nodup→P[i]? = some x→vs[i]? = some v→kindOf x≠some .local →
  bindC kindOf (P.zip vs) m x=some v
 | [],_,_,_,_,h,_,_=>by simp at h
 | _::_,[],_,_,_,_,h,_=>by simp at h
 | p::P,w::vs,0,m,nd,h1,h2,hk=>by
  simp at h1 h2;subst h1;subst h2
  show bindC kindOf ((p,w)::P.zip vs) m p=_
  unfold bindC
  rw [U9_ fun v hv=>(List.nodup_cons.mp nd).1 (List.of_mem_zip hv).1,if_neg hk]
  simp
 | p::P,w::vs,i+1,m,nd,h1,h2,hk=>by
  show bindC kindOf ((p,w)::P.zip vs) m x=_
  unfold bindC
  exact Ya_ (i:=i) (List.nodup_cons.mp nd).2 (by simpa using h1) (by simpa using h2) hk
noncomputable def start (N:List Str) (vs:List V):St:=vs.map some++List.replicate (N.length - vs.length) none
noncomputable def cxOf (CX:CXT) (P:Program) (w:World) (K:PySem.W.Frag) (mg:Str→Option Value) (base:Heap) (N:List Str) (qual:Str) (scope:Scope) (f:Addr) (cd:Value) (A:Around) (outer:List Env) (s:Shared) (H:Hp) (E:XK):Cx where
 prog:=P
 w:=w
 K:=K
 mg:=mg
 base:=base
 A:=A.deeper (envOfC qual scope s.heap.objs.size f cd)
 N:=N
 s₀:=s
 H₀:=H
 env:=envOfC qual scope s.heap.objs.size f cd
 outer:=outer
 stack:=envOfC qual scope s.heap.objs.size f cd::outer
 ex:=[]
 calm:=true
 fn:=fun _=>true
 pn:=[]
 xe:=fun e s'=>wpAny (model P w) (A.deeper (envOfC qual scope s.heap.objs.size f cd)) (leaving (envOfC qual scope s.heap.objs.size f cd) e) (fun _ s''=>CX outer H s E e s'') (fun e' s''=>CX outer H s E e' s'') s'
theorem Qt_ {sc:Scope} {n:Nat} {x:Str} (h:sc.names.lookup x=some .cell):∃ c,(cellsFrom n sc.names []).lookup x=some c:=by
 have q:=PySem.W.cellsFrom_some sc.names n [] (.inl h)
 exact Option.isSome_iff_exists.mp q
theorem Wc_ {CX:CXT} {P:Program} {w:World} {K:PySem.W.Frag} {mg:Str→Option Value} {base:Heap} {N ps:List Str} {qual:Str} {scope:Scope} {f:Addr} {cd:Value} {A:Around} {outer:List Env} {s s1:Shared} {H:Hp} {E:XK} {us:List Value} {vs:List V}
  (S:FnScope N ps scope) (hd:A.handled=none) (e0:Env0 P w K mg base A outer s H) (hl:vs.length=ps.length) (r:Vals vs us)
  (x:InCallC s s.heap.objs.size (bindL (envOfC qual scope s.heap.objs.size f cd).kindOf (ps.zip us) fun _=>none) (cellsFrom (s.heap.objs.size+1) scope.names []) (bindC (envOfC qual scope s.heap.objs.size f cd).kindOf (ps.zip us) fun _=>none) s1) :
  Inv (cxOf CX P w K mg base N qual scope f cd A outer s H E) [] (start N vs) H s1:=by
 have hpl:ps.length≤N.length:=by have:=congrArg List.length S.pre;rw [List.length_take] at this;lia
 obtain ⟨h1,tk,rfl,hk⟩:=x.done
 have noA:∀ b:Addr,b∉(cxOf CX P w K mg base N qual scope f cd A outer s H E).ex:=fun b z=>absurd (show b∈([]:List Addr) from z) (by simp)
 refine ⟨⟨e0.mod,S.kind,rfl,rfl,Nat.le_refl _,fun y z c h1 h2=>?_,fun y hy=>?_,fun y c _ h=>?_,fun _=>hd,Around.frames_deeper e0.frames,.inr ⟨rfl,rfl⟩,fun b z=>absurd z (noA b),e0.bs,e0.bsz,fun b _ _=>noA b,fun b z=>absurd z (noA b),e0.funs,e0.frf⟩,
  rfl,e0.bare,Un.kept hk,⟨_,x.toInCall.ns,fun i y v h1 h2 h3=>?_⟩,fun y c h=>⟨_,x.cell y c h⟩,e0.hok.fresh (Nat.le_refl _),fun y c h=>?_,fun p hp=>absurd (show p∈([]:List (Addr×Obj)) from hp) (by simp),e0.hok.kept hk,?_⟩
 ·exact name_of_addr x.apart (PySem.mem_of_lookup h1) (PySem.mem_of_lookup h2)
 ·have hy:scope.names.lookup y=some .cell∨scope.names.lookup y=some .free:=hy
  rcases hy with hy|hy
  ·exact Qt_ hy
  ·exact absurd rfl (S.nofree _ (PySem.mem_of_lookup hy))
 ·exact Nat.le_of_lt (x.above y c (PySem.mem_of_lookup h))
 ·have hi:i<vs.length:=by
   unfold start at h2
   by_cases hi:i<vs.length
   ·exact hi
   ·rw [List.getElem?_append_right (by simpa using hi)] at h2
    rw [List.getElem?_replicate] at h2
    split at h2<;>cases h2
  have ha:vs[i]? = some v:=by
   unfold start at h2
   rw [List.getElem?_append_left (by simpa using hi),List.getElem?_map] at h2
   cases e:vs[i]? with
   | none=>rw [e] at h2;cases h2
   | some a=>rw [e] at h2;cases h2;rfl
  obtain ⟨u,hu,rv⟩:=r.get ha
  have hp:ps[i]? = some y:=by
   rw [←S.pre,List.getElem?_take_of_lt (by lia)];exact h1
  have ndP:ps.Nodup:=by rw [←S.pre];exact S.nd.sublist (List.take_sublist _ _)
  refine ⟨u,rv,?_⟩
  rcases S.par y (List.mem_of_getElem? hp) with k|k
  ·exact .inl ⟨k,U8_ ndP hp hu k⟩
  ·obtain ⟨c,e⟩:=Qt_ (n:=s.heap.objs.size+1) k
   refine .inr ⟨.inl k,c,e,?_⟩
   have q:=x.cell y c e
   rw [Ya_ ndP hp hu (by show scope.names.lookup y≠_;rw [k];decide)] at q
   exact q
 ·exact e0.hok.fresh (Nat.le_of_lt (x.above y c (PySem.mem_of_lookup h)))
 ·unfold start
  show _=N.length
  rw [List.length_append,List.length_map,List.length_replicate]
  lia
theorem zdQ_ {CX:CXT} {P:Program} {w:World} {K:PySem.W.Frag} {mg:Str→Option Value} {base:Heap} {k:Nat} {f:Addr} {name qual:Str} {params:Arguments} {body:List Stmt} {scope:Scope} {dV kV doc pm cdv ct oc:Value} {an od:Option Addr}
  {osl:Array (Option Value)} {N ps:List Str} {sp:Sp} (lk:K.lookup f=some ⟨oc,od,.func (PySem.W.fnOf name qual params body scope dV kV doc pm an cdv ct),osl⟩) (hcd:PySem.W.codeIn K cdv qual=true) (S:FnScope N ps scope)
  (len:∀ vs H Q E,sp vs H Q E→vs.length=ps.length)
  (hbody:∀ (A:Around) (outer:List Env) (s:Shared) (H:Hp) (vs:List V) (Q:VK) (E:XK),Room k (A.deeper (envOfC qual scope s.heap.objs.size f cdv))→sp vs H Q E →
   ∃ t,PSs (cxOf CX P w K mg base N qual scope f cdv A outer s H E) body t∧t { nx:=fun _ H'=>Q .non H',rt:=Q } (start N vs) H) :
  FnOk P w K mg base CX (k+1) f (PySem.W.fnOf name qual params body scope dV kV doc pm an cdv ct) ps sp:=by
 refine ⟨len,fun A outer s H args us vs Q E hr e0 hb r hsp=>?_⟩
 have hl:=len _ _ _ _ hsp
 have KX:K.In s.heap:=e0.mod.kin.keeps fun b o e=>(e0.bs b o e).1
 have lim:s.heap.NoLimit:=e0.mod.nolimit.keeps fun b o e=>(e0.bs b o e).1
 have hkind:∀ y∈ps.zip us,scope.names.lookup y.1=some .local∨(scope.names.lookup y.1=some .cell∧((cellsFrom (s.heap.objs.size+1) scope.names []).lookup y.1).isSome=true):=fun ⟨n,v⟩ hy=>by
  rcases S.par n (List.of_mem_zip hy).1 with q|q
  ·exact .inl q
  ·exact .inr ⟨q,PySem.W.cellsFrom_some _ _ _ (.inl q)⟩
 refine codeAny_call_function hr.depth (KX _ _ lk) rfl S.co S.gen rfl (PySem.W.codeRec_of KX hcd) (hb _ _ _ _ ?_)
 refine wpAny_newFunctionEnv_cells S.kind hkind fun env he s1 x=>?_
 subst he
 refine ⟨lim.keeps x.toInCall.keep,codeAny_func ?_⟩
 obtain ⟨t,ht,hq⟩:=hbody A outer s H vs Q E (hr.deeper _) hsp
 have I:Inv (cxOf CX P w K mg base N qual scope f cdv A outer s H E) [] (start N vs) H s1:=Wc_ S hr.hd e0 hl r x
 refine wpAny_mono (ht [] s1 (start N vs) H _ I hq) (fun fl s' hs=>?_) fun e s' hs=>hs
 have fin:∀ {σ':St} {H':Hp} {v:V} {u:Value},Inv (cxOf CX P w K mg base N qual scope f cdv A outer s H E) [] σ' H' s'→RelV v u→Q v H'→CE outer P w H s Q u s' :=
  fun {σ' H' v u} J rv q=>⟨v,H',J.os,J.bare,J.base,J.hok,rv,q⟩
 cases fl with
 | ret u =>
  obtain ⟨v,σ',H',J,rv,q⟩:=hs
  exact fin J rv q
 | next =>
  obtain ⟨σ',H',J,q⟩:=hs
  exact fin (v:=V.non) (u:=Value.none) J rfl q
 | brk =>
  obtain ⟨_,_,_,q⟩:=hs
  exact False.elim q
 | cont =>
  obtain ⟨_,_,_,q⟩:=hs
  exact False.elim q
end L2
namespace L2
open PySem PySem.Spec PyProof.Rows
section
variable {X:Cx} {x:Str} {p pos:Pos} {e:Expr} {es:List Expr} {t:TA} {id T:String} {r:List V→Hp→VK→Prop}
noncomputable def tCB (r:List V→Hp→VK→Prop) (t:TA):TE:=fun σ H Q=>t σ H fun vs H1=>r vs H1 Q
theorem Zj_ (hc:CallR X (.builtin id) r) (hg:Gl X x) (hm:X.mg x=none) (hv:bootBuiltins x=some (.builtin id)) (ha:PA X (e::es) t) (hn:x ≠ "__name__":=by decide) (hdb:(x==("__debug__" : Str))=false:=by decide)
  (he:starEach (e::es) X.env=(false,eval e X.env)::starEach es X.env:=by rfl) (hpl:(backTo pos (starEach es X.env)).any (·.1)=false:=by rfl):PE X (.Call (.Name x p) (e::es) [] pos) (tCB r t):=by
 intro pins s σ H Q I h
 refine wpAny_Call_Name_kw (Jt_ I hg hm hv ?_ hn hdb)
 exact PyProof.Rows.callWith_builtin1 (thn (ha pos pins s σ H _ I h) fun us s1 ⟨vs,H1,I1,r1,q1⟩=>hc pins s1 σ H1 vs us Q I1 r1 q1) he hpl
theorem VI_ (hc:CallR X (.type T) r) (hg:Gl X x) (hm:X.mg x=none) (hv:bootBuiltins x=some (.type T)) (ha:PA X (e::es) t) (hn:x ≠ "__name__":=by decide) (hdb:(x==("__debug__" : Str))=false:=by decide)
  (he:starEach (e::es) X.env=(false,eval e X.env)::starEach es X.env:=by rfl) (hpl:(backTo pos (starEach es X.env)).any (·.1)=false:=by rfl):PE X (.Call (.Name x p) (e::es) [] pos) (tCB r t):=by
 intro pins s σ H Q I h
 refine wpAny_Call_Name_kw (Jt_ I hg hm hv ?_ hn hdb)
 exact PyProof.Rows.callWith_type1 (thn (ha pos pins s σ H _ I h) fun us s1 ⟨vs,H1,I1,r1,q1⟩=>hc pins s1 σ H1 vs us Q I1 r1 q1) he hpl
end
end L2
namespace HT
open PySem PyProof.Rows
noncomputable def lexLt:List Int→List Int→Bool
 | [],[]=>false
 | [],_::_=>true
 | _::_,[]=>false
 | x::xs,y::ys=>if x=y then lexLt xs ys else decide (x<y)
theorem QR_ (x y:Int) (xs ys:List Int):lexLt (x::xs) (y::ys)=if x=y then lexLt xs ys else decide (x<y):=rfl
theorem JW_:lexLt [] []=false:=rfl
theorem Z7_ (y:Int) (ys:List Int):lexLt [] (y::ys)=true:=rfl
theorem Z8_ (x:Int) (xs:List Int):lexLt (x::xs) []=false:=rfl
theorem Qn_ (A:Around) (s:Shared) (a:Int) (t:Tok) (c:Int) (u:Tok):∃ e,SeqAt.EqAt A s (.int a t) (.int c u) e∧(e=true↔a=c) :=
 ⟨(a==c),SeqAt.EqAt.int_int a t c u,by simp⟩
theorem WX_ (A:Around) (s:Shared) (a:Int) (t:Tok) (c:Int) (u:Tok) (prog:Program) (w:World) (E:Value→Shared→Prop) (Q:Value→Shared→Prop) (h:Q (.bool (decide (a<c))) s) :
  wpAny (model prog w) A (richCompare .Lt (.int a t) (.int c u)) Q E s :=
 (PyProof.Rows.lt_int h:wpAny (model prog w) A (compareOp .Lt (.int a t) (.int c u)) Q E s)
section
open PySem.SeqAt
open PySem.AutoSeq1 (wpAny_loadPart')
open PySem.MeetsSeq PySem.MeetsSeq2 PySem.MeetsSeq3
theorem JH_ (l b:Addr) (items items2:Array Value) (n n2:Nat) (dd dd2:Option Addr) (sl sl2:Array (Option Value)) (ns ms:List Int) (hi:IntsAre items.toList ns) (hj:IntsAre items2.toList ms) :
  Meets (Builtin.«tuple.__lt__» ⟨[.ref l,.ref b],[]⟩)
   (fun _ R s=>s.heap.get? l=some { cls:=.type "tuple",dict:=dd,data:=.seq items n,slots:=sl }∧s.heap.get? b=some { cls:=.type "tuple",dict:=dd2,data:=.seq items2 n2,slots:=sl2 } ∧
    R (.ok (.ret (.bool (lexLt ns ms)))) s) :=
 .of_wp fun prog w A R s h=>by
  obtain ⟨hp,g,d,tk,os⟩:=s;obtain ⟨hl,hb,h⟩:=h
  have f2:=AutoSeq1.sub_tuple_tuple
  have z1:items.size=ns.length:=by rw [←hi.length];simp
  have z2:items2.size=ms.length:=by rw [←hj.length];simp
  wp_walk using wpAny_loadPart' hl,wpAny_loadPart' hb,wpAny_forIn_list _ (fun rest b s'=>b.1=none∧s'=⟨hp,g,d,tk,os⟩∧∃ (vs ws:List Value) (ns' ms':List Int),rest=vs.zip ws ∧
   IntsAre vs ns'∧IntsAre ws ms'∧ns'.length+items2.size=ms'.length+items.size∧R (.ok (.ret (.bool (lexLt ns' ms')))) ⟨hp,g,d,tk,os⟩) _
  case turn =>
   rintro ⟨y,x⟩ rest b s' ⟨hb',rfl,vs,ws,ns',ms',hz,hvi,hwi,hlen,hR⟩
   cases hvi with
   | nil=>rw [List.zip_nil_left] at hz;cases hz
   | cons a t hvi' =>
    cases hwi with
    | nil=>rw [List.zip_nil_right] at hz;cases hz
    | cons c u hwi' =>
     rw [List.zip_cons_cons] at hz
     injection hz with hyx hrest
     injection hyx with hy hx
     subst hy hx
     rw [QR_] at hR
     simp only [List.length_cons] at hlen
     obtain ⟨e,he,hiff⟩:=Qn_ A.in1 ⟨hp,g,d,tk,os⟩ a t c u
     refine wpAny_bind (he prog w _ _ ?_)
     cases e with
     | true =>
      rw [if_pos (hiff.mp rfl)] at hR
      wp_walk
      exact ⟨rfl,rfl,_,_,_,_,hrest,hvi',hwi',by lia,hR⟩
     | false =>
      rw [if_neg (fun q=>absurd (hiff.mpr q) Bool.false_ne_true)] at hR
      have hri:=WX_ A.in1 ⟨hp,g,d,tk,os⟩ a t c u prog w
      wp_walk using hri
      exact ⟨_,rfl,by simpa using hR⟩
  case fin =>
   rintro ⟨b1,b2⟩ s' ⟨hb',rfl,vs,ws,ns',ms',hz,hvi,hwi,hlen,hR⟩
   simp only at hb'
   subst hb'
   have hv:lexLt ns' ms'=decide (items.size<items2.size):=by
    cases hvi with
    | nil =>
     cases hwi with
     | nil =>
      simp only [List.length_nil] at hlen
      rw [JW_]
      exact (decide_eq_false (by lia)).symm
     | cons c u hw =>
      simp only [List.length_nil,List.length_cons] at hlen
      rw [Z7_]
      exact (decide_eq_true (by lia)).symm
    | cons a t hv =>
     cases hwi with
     | nil =>
      simp only [List.length_nil,List.length_cons] at hlen
      rw [Z8_]
      exact (decide_eq_false (by lia)).symm
     | cons c u hw =>
      rw [List.zip_cons_cons] at hz
      cases hz
   rw [hv] at hR
   wp_walk
   exact ⟨_,rfl,by simpa [Builtin.Tuple.tupleCompareSizes] using hR⟩
  case h =>
   exact ⟨rfl,rfl,items.toList,items2.toList,ns,ms,rfl,hi,hj,by lia,h⟩
end
section
variable {prog:Program} {w:World} {A:Around} {E:Value→Shared→Prop} {s:Shared}
theorem lt_tupInts {l b:Addr} {items items2:Array Value} {ns ms:List Int} {Q:Value→Shared→Prop} (hl:IsTup s.heap l items) (hb:IsTup s.heap b items2) (hi:IntsAre items.toList ns) (hj:IntsAre items2.toList ms)
  (hu:A.units<cLine) (h:Q (.bool (lexLt ns ms)) s):wpAny (model prog w) A (compareOp .Lt (.ref l) (.ref b)) Q E s:=by
 obtain ⟨⟨cls,dd,data,sl⟩,ho,hc,n,hd⟩:=id hl
 obtain ⟨⟨cls2,dd2,data2,sl2⟩,ho2,hc2,n2,hd2⟩:=id hb
 simp only at hc hd hc2 hd2
 subst hc hd hc2 hd2
 exact richCompare_meets_room (op:=.Lt) ⟨_,ho,rfl⟩ ⟨_,ho2,rfl⟩ PySem.F.slot_tuple_lt PySem.F.entry_tuple_lt (PySem.F.args_tuple_lt_2 _ _) (JH_ l b items items2 n n2 dd dd2 sl sl2 ns ms hi hj)
  ⟨ho,ho2,show Value.bool (lexLt ns ms)≠Value.notImplemented∧Q (.bool (lexLt ns ms)) s from ⟨(fun x=>nomatch x),h⟩⟩ hu
theorem cat_tup {t b:Addr} {vs ws:List Value} {Q:Value→Shared→Prop} (ht:IsTup s.heap t vs.toArray) (hb:IsTup s.heap b ws.toArray) (hv:vs≠[])
  (h1:ws=[]→Q (.ref t) s) (h2:ws≠[]→Q (.ref s.heap.objs.size) { s with heap:=s.heap.push { cls:=.type "tuple",data:=.seq (vs++ws).toArray } })
  (hsz:vs.length+ws.length≤sizeLine):wpAny (model prog w) A (binaryOp .Add (.ref t) (.ref b)) Q E s:=by
 obtain ⟨⟨cls,dd,data,sl⟩,ho,hc,n,hd⟩:=id ht
 obtain ⟨⟨cls2,dd2,data2,sl2⟩,ho2,hc2,n2,hd2⟩:=id hb
 simp only at hc hd hc2 hd2
 subst hc hd hc2 hd2
 have e:vs.toArray++ws.toArray=(vs++ws).toArray:=by simp
 by_cases hw:ws=[]
 ·exact concat_meets ⟨_,ho,rfl⟩ ⟨_,ho2,rfl⟩ noFill_tuple_add seq_tuple_add PySem.F.slot_tuple_add PySem.F.entry_tuple_add (PySem.F.args_tuple_add_2 _ _)
   (tuple_addW1 t b vs.toArray ws.toArray n n2 dd dd2 sl sl2 (by simpa using hv) (by simp [hw])) ⟨ho,ho2,h1 hw⟩
 ·refine concat_meets ⟨_,ho,rfl⟩ ⟨_,ho2,rfl⟩ noFill_tuple_add seq_tuple_add PySem.F.slot_tuple_add PySem.F.entry_tuple_add (PySem.F.args_tuple_add_2 _ _)
   (tuple_addW2 t b vs.toArray ws.toArray n n2 dd dd2 sl sl2 (by simpa using hv) (by simpa using hw) (by rw [List.size_toArray,List.size_toArray];exact hsz)) ⟨ho,ho2,?_⟩
  rw [e]
  exact h2 hw
noncomputable def sIx (n d:Nat):Option Int→Nat
 | none=>d
 | some v=>if v<0 then (v+(n:Int)).toNat else min v.toNat n
theorem zbv_ (n d:Nat) (hd:d≤n) (o:Option Int):sIx n d o≤n:=by
 cases o with
 | none=>exact hd
 | some v =>
  show (if v<0 then (v+(n:Int)).toNat else min v.toNat n)≤n
  by_cases hv:v<0
  ·rw [if_pos hv];lia
  ·rw [if_neg hv];exact Nat.min_le_right _ _
theorem Wt_ (v:Int) (n d:Nat):(if v<0 then max (v+(n:Int)) 0 else min v (n:Int))=((sIx n d (some v):Nat):Int):=by
 show (if v<0 then max (v+(n:Int)) 0 else min v (n:Int))=(((if v<0 then (v+(n:Int)).toNat else min v.toNat n):Nat):Int)
 by_cases hv:v<0
 ·simp only [if_pos hv];lia
 ·simp only [if_neg hv];lia
theorem Q8_ (lo hi:Option Int) (n:Nat):Builtin.Slice.sliceAdjust lo hi 1 (n:Int)=(((sIx n 0 lo:Nat):Int),((sIx n n hi:Nat):Int)):=by
 have h1:¬ ((1:Int)<0):=by lia
 unfold Builtin.Slice.sliceAdjust
 simp only [h1,if_false]
 refine Prod.ext ?_ ?_
 ·cases lo with
  | none=>rfl
  | some v=>exact Wt_ v n 0
 ·cases hi with
  | none=>rfl
  | some v=>exact Wt_ v n n
theorem QM_ (i j:Nat):Builtin.Slice.slicePlaces (i:Int) (j:Int) 1=j - i:=by
 unfold Builtin.Slice.slicePlaces
 have h1:(1:Int)>0:=by lia
 simp only [h1,if_true,Int.ediv_one]
 split<;>lia
theorem Jj_ {v:Value} {o:Option Int} {Q:Option Int→Shared→Prop} (p:IsPart v o) (h:Q o s):wpAny (model prog w) A (Builtin.Slice.slicePartIndex v) Q E s:=by
 cases p with
 | none=>exact slicePart_none h
 | int i t=>exact slicePart_int h
theorem uZ_ {sl:Addr} {vl vu:Value} {lo hi:Option Int} {n:Nat} {Q:Int×Int×Nat→Shared→Prop} (hs:s.heap.IsSliceOf sl vl vu .none) (pl:IsPart vl lo) (pu:IsPart vu hi)
  (h:Q (((sIx n 0 lo:Nat):Int),1,sIx n n hi - sIx n 0 lo) s):wpAny (model prog w) A (Builtin.Slice.sliceApplied (.ref sl) (pure (n:Int))) Q E s:=by
 obtain ⟨os,hos,hcs,hds⟩:=id hs
 unfold Builtin.Slice.sliceApplied Builtin.Slice.sliceFields
 refine wpAny_bind (wpAny_bind (wpAny_field hos hds (x:=vl) rfl (wpAny_bind (wpAny_field hos hds (x:=vu) rfl (wpAny_bind (wpAny_field hos hds (x:=.none) rfl (wpAny_pure ?_)))))))
 refine wpAny_bind (slicePart_none ?_)
 show wpAny _ _ (if ((1:Int)==0)=true then _ else _) _ _ s
 rw [if_neg (by decide)]
 refine wpAny_bind (Jj_ pl (wpAny_bind (Jj_ pu (wpAny_bind (wpAny_pure ?_)))))
 show wpAny _ _ (match Builtin.Slice.sliceAdjust lo hi 1 (n:Int) with|(lo,hi)=>pure (lo,(1:Int),Builtin.Slice.slicePlaces lo hi 1)) _ _ s
 rw [Q8_ lo hi n]
 show wpAny _ _ (pure (((sIx n 0 lo:Nat):Int),(1:Int),Builtin.Slice.slicePlaces ((sIx n 0 lo:Nat):Int) ((sIx n n hi:Nat):Int) 1)) _ _ s
 rw [QM_]
 exact wpAny_pure h
theorem W1_ (xs:Array Value) (i k:Nat):((List.range k).filterMap fun (m:Nat)=>xs[((i:Int)+(m:Int)*1).toNat]?).toArray=((xs.toList.drop i).take k).toArray:=by
 have e:(fun (m:Nat)=>xs[((i:Int)+(m:Int)*1).toNat]?)=fun m=>xs[i+m]?:=by
  funext m
  have:((i:Int)+(m:Int)*1).toNat=i+m:=by lia
  rw [this]
 rw [e]
 have:=pick_run xs i k
 rw [List.filterMap_map] at this
 have e2:((fun x=>xs[x]?)∘fun x=>i+x)=fun m=>xs[i+m]?:=rfl
 rw [e2] at this
 rw [this]
theorem getItem_tuple_cut {t sl:Addr} {items:Array Value} {vl vu:Value} {lo hi:Option Int} {Q:Value→Shared→Prop} (ht:IsTup s.heap t items) (hs:s.heap.IsSliceOf sl vl vu .none) (pl:IsPart vl lo) (pu:IsPart vu hi)
  (hw:¬ (sIx items.size 0 lo=0∧sIx items.size items.size hi=items.size))
  (h:Q (.ref s.heap.objs.size) { s with heap:=s.heap.push { cls:=.type "tuple",data:=.seq ((items.toList.drop (sIx items.size 0 lo)).take (sIx items.size items.size hi - sIx items.size 0 lo)).toArray } })
  (hsz:items.size≤sizeLine):wpAny (model prog w) A (getItem (.ref t) (.ref sl)) Q E s:=by
 have htake:sizeOk (.seq ((items.toList.drop (sIx items.size 0 lo)).take (sIx items.size items.size hi - sIx items.size 0 lo)).toArray):=by
  show ((items.toList.drop (sIx items.size 0 lo)).take (sIx items.size items.size hi - sIx items.size 0 lo)).toArray.size≤sizeLine
  rw [List.size_toArray,List.length_take,List.length_drop,Array.length_toList]
  omega
 have hj:sIx items.size items.size hi≤items.size:=zbv_ _ _ (Nat.le_refl _) hi
 obtain ⟨os,hos,hcs,hds⟩:=id hs
 have hTs:s.TypeIs (.ref sl) "slice":=⟨os,hos,hcs⟩
 unfold getItem
 try with_reducible refine wpAny_holding ?_
 first|refine wpAny_bind (wpAny_pure ?_)|skip
 refine wpAny_bind (wpAny_sequenceKey ht.typeIs (by decide) ?_)
 refine wpAny_bind (wpAny_callSpecial?_slot (name:=Str.ofString "__getitem__") ht.typeIs PyProof.Rows.slot_tuple_getitem
  (wpAny_call_entry PyProof.Rows.slot_tuple_getitem ht.typeIs entry_tuple_getitem ?_ (args_tuple_getitem _ _)))
 show wpAny _ _ (Builtin.Tuple.tupleItemsOf (.ref t) >>= _) _ _ s
 refine wpAny_bind (tupleItemsOf_ ht ?_)
 refine wpAny_bind (wpAny_typeOf hTs ?_)
 rw [if_pos (by decide)]
 refine wpAny_bind (uZ_ hs pl pu ?_)
 have hno:¬ ((((sIx items.size 0 lo:Nat):Int)==0&&(1:Int)==1&&(sIx items.size items.size hi - sIx items.size 0 lo)==items.size)=true):=by
  intro q
  rw [Bool.and_eq_true,Bool.and_eq_true] at q
  have q1:((sIx items.size 0 lo:Nat):Int)=0:=eq_of_beq q.1.1
  have q2:sIx items.size items.size hi - sIx items.size 0 lo=items.size:=eq_of_beq q.2
  exact hw ⟨by omega,by omega⟩
 show wpAny _ _ (if (((sIx items.size 0 lo:Nat):Int)==0&&(1:Int)==1&&(sIx items.size items.size hi - sIx items.size 0 lo)==items.size)=true then _ else _) _ _ s
 rw [if_neg hno,W1_]
 first
  | exact wpAny_bind (m:=Builtin.Tuple.tupleExact _) (wpAny_newObj_type (wpAny_pure ⟨_,rfl,wpAny_pure h⟩) htake)
  | exact wpAny_bind (m:=Builtin.Tuple.tupleExact _) (wpAny_newObj_type (wpAny_bind (wpAny_pure (wpAny_pure ⟨_,rfl,wpAny_pure h⟩))) htake)
  | exact wpAny_bind (wpAny_bind (m:=Builtin.Tuple.tupleExact _) (wpAny_newObj_type (wpAny_pure (wpAny_pure ⟨_,rfl,wpAny_pure h⟩)) htake))
  | exact wpAny_bind (wpAny_bind (m:=Builtin.Tuple.tupleExact _) (wpAny_newObj_type (wpAny_pure ⟨_,rfl,wpAny_pure h⟩) htake))
end
end HT
namespace L2
open PySem PySem.Spec PyProof.Rows
noncomputable abbrev TO:=St→Hp→(Option Int→Hp→Prop)→Prop
noncomputable def PO (X:Cx) (e:Option Expr) (t:TO):Prop :=
 ∀ (pins:List (Addr×Obj)) (s:Shared) (σ:St) (H:Hp) (Q:Option Int→Hp→Prop),Inv X pins σ H s→t σ H Q →
  wpAny (model X.prog X.w) X.A (evalPart e X.env) (fun u s'=>∃ o H',Inv X pins σ H' s'∧IsPart u o∧Q o H') X.xe s
noncomputable def X5_:TO:=fun _ H Q=>Q none H
noncomputable def zdl_ (t:TE):TO:=fun σ H Q=>t σ H fun x H1=>∃ i,x=.int i∧Q (some i) H1
theorem intsAre_of {ns:List Int}:∀ {us:List Value},Vals (ns.map V.int) us→IntsAre us ns:=by
 induction ns with
 | nil=>intro us r;rw [List.map_nil] at r;cases r;exact .nil
 | cons n ns ih =>
  intro us r
  rw [List.map_cons] at r
  cases r with
  | cons r1 r2 =>
   obtain ⟨t,e⟩:=r1
   subst e
   exact .cons n t (ih r2)
section
variable {X:Cx} {e:Expr} {te:TE} {lo hi:Option Expr} {tl th:TO} {pos p2:Pos}
theorem zan_:PO X none X5_:=by
 intro pins s σ H Q I h
 rw [evalPart_none]
 exact wpAny_pure ⟨none,H,I,.none,h⟩
theorem zam_ (h:PE X e te):PO X (some e) (zdl_ te):=by
 intro pins s σ H Q I hw
 rw [evalPart_some]
 refine thn (h pins s σ H _ I hw) fun u s1 ⟨x,H1,I1,r1,q1⟩=>?_
 obtain ⟨i,rfl,q⟩:=q1
 obtain ⟨t,rfl⟩:=r1
 exact ⟨some i,H1,I1,.int i t,q⟩
noncomputable def SlR (X:Cx) (r:V→Option Int→Option Int→Hp→VK→Prop):Prop :=
 ∀ (pins:List (Addr×Obj)) (s:Shared) (σ:St) (H:Hp) (x:V) (v vl vu:Value) (lo hi:Option Int) (sl:Addr) (Q:VK),Inv X pins σ H s→RelV x v→s.heap.IsSliceOf sl vl vu .none→IsPart vl lo→IsPart vu hi→r x lo hi H Q →
  ∃ T id,typeLookup (.type T) "__getitem__" = pure (some (.builtin id))∧s.TypeIs v T∧wpAny (model X.prog X.w) X.A (getItem v (.ref sl)) (EP X pins σ Q) X.xe s
theorem SlR.or {r r':V→Option Int→Option Int→Hp→VK→Prop} (h:SlR X r) (h':SlR X r'):SlR X (fun x lo hi H Q=>r x lo hi H Q∨r' x lo hi H Q):=by
 intro pins s σ H x v vl vu lo hi sl Q I rx hs pl pu q
 rcases q with q|q
 ·exact h pins s σ H x v vl vu lo hi sl Q I rx hs pl pu q
 ·exact h' pins s σ H x v vl vu lo hi sl Q I rx hs pl pu q
noncomputable def tSl (r:V→Option Int→Option Int→Hp→VK→Prop) (te:TE) (tl th:TO):TE:=fun σ H Q=>te σ H fun x H1=>tl σ H1 fun l H2=>th σ H2 fun u H3=>r x l u H3 Q
theorem W3_ {r:V→Option Int→Option Int→Hp→VK→Prop} (hr:SlR X r) (he:PE X e te) (hl:PO X lo tl) (hu:PO X hi th):PE X (.Subscript e (.Slice lo hi none p2) pos) (tSl r te tl th):=by
 intro pins s σ H Q I h
 refine Subscript_ (thn (he pins s σ H _ I h) fun v s1 ⟨x,H1,I1,r1,q1⟩=>?_)
 refine wpAny_Slice (thn (hl pins s1 σ H1 _ I1 q1) fun vl s2 ⟨l,H2,I2,pl,q2⟩=>thn (hu pins s2 σ H2 _ I2 q2) fun vu s3 ⟨u,H3,I3,pu,q3⟩=>?_)
 rw [evalPart_none]
 refine wpAny_pure ?_
 have I4:Inv X pins σ H3 { s3 with heap:=s3.heap.push { cls:=.type "slice",data:=.fields #[vl,vu,.none] } }:=I3.kept (t':=s3.toks) fun b ob q=>Heap.get?_push_of_some _ q
 obtain ⟨T,id,hT,ht,hg⟩:=hr pins { s3 with heap:=s3.heap.push { cls:=.type "slice",data:=.fields #[vl,vu,.none] } } σ H3 x v vl vu l u s3.heap.objs.size Q I4 r1 (Heap.IsSliceOf.new ..) pl pu q3
 show wpAny (model X.prog X.w) X.A (subscriptTail e (.Slice lo hi none p2) v (.ref s3.heap.objs.size)) (EP X pins σ Q) X.xe { s3 with heap:=s3.heap.push { cls:=.type "slice",data:=.fields #[vl,vu,.none] } }
 exact tail_any (ops:=[.ref s3.heap.objs.size,v]) ht hT hg (by with_unfolding_all rfl)
noncomputable def cutV (xs:List V) (lo hi:Option Int):List V:=(xs.drop (HT.sIx xs.length 0 lo)).take (HT.sIx xs.length xs.length hi - HT.sIx xs.length 0 lo)
theorem ZR_ (xs:List V) (lo hi:Option Int):(cutV xs lo hi).length≤xs.length:=by
 unfold cutV
 rw [List.length_take,List.length_drop]
 lia
noncomputable def rSlT (K:PySem.W.Frag):V→Option Int→Option Int→Hp→VK→Prop:=fun x lo hi H Q=>∃ a xs,x=.ref a∧SqT K H a xs ∧
 ¬ (HT.sIx xs.length 0 lo=0∧HT.sIx xs.length xs.length hi=xs.length)∧∀ p,H p=none→Q (.ref p) (upd H p (.tup (cutV xs lo hi)))
theorem sl_tup:SlR X (rSlT X.K):=by
 intro pins s σ H x v vl vu lo hi sl Q I rx hs pl pu h
 obtain ⟨a,xs,rfl,hx,hw,q⟩:=h
 cases rx
 obtain ⟨its,r,ht,hz⟩:=I.tuple hx
 have hlen:its.toArray.size=xs.length:=by rw [List.size_toArray];exact r.length.symm
 refine ⟨"tuple",_,PyProof.Rows.slot_tuple_getitem.lookup,ht.typeIs,?_⟩
 refine HT.getItem_tuple_cut ht hs pl pu (by rw [hlen];exact hw) ?_ (by rw [hlen];exact hz)
 rw [hlen]
 refine ⟨.ref s.heap.objs.size,_,I.laid (t':=s.toks) (o:=.tup (cutV xs lo hi)) (fun b ob q=>Heap.get?_push_of_some _ q) (Nat.le_refl _) ?_,rfl,q _ (I.hok.fresh (Nat.le_refl _))⟩
 exact ⟨Nat.le_trans (ZR_ xs lo hi) hz,_,(r.drop (HT.sIx xs.length 0 lo)).take (HT.sIx xs.length xs.length hi - HT.sIx xs.length 0 lo),IsTup.new _ _,TupN.new _ _⟩
noncomputable def rLtT (K:PySem.W.Frag):R2:=fun x y H Q=>∃ a b ns ms,x=.ref a∧y=.ref b∧SqT K H a (ns.map V.int)∧SqT K H b (ms.map V.int)∧Q (.bl (HT.lexLt ns ms)) H
theorem zcl_ (hu:X.A.units<cLine):OpR X (compareOp .Lt) (rLtT X.K):=by
 intro pins s σ H x y v u Q I rx ry h
 obtain ⟨a,b,ns,ms,rfl,rfl,ha,hb,q⟩:=h
 cases rx
 cases ry
 obtain ⟨its,r1,p1,_⟩:=I.tuple ha
 obtain ⟨its2,r2,p2,_⟩:=I.tuple hb
 have i1:IntsAre its.toArray.toList ns:=intsAre_of r1
 have i2:IntsAre its2.toArray.toList ms:=intsAre_of r2
 exact HT.lt_tupInts p1 p2 i1 i2 hu ⟨.bl (HT.lexLt ns ms),H,I,rfl,q⟩
noncomputable def zdt_ (K:PySem.W.Frag):R2:=fun x y H Q=>∃ a b xs ys,x=.ref a∧y=.ref b∧SqT K H a xs∧SqT K H b ys∧xs≠[]∧xs.length+ys.length≤sizeLine ∧
 (ys=[]→Q (.ref a) H)∧(ys≠[]→∀ p,H p=none→Q (.ref p) (upd H p (.tup (xs++ys))))
theorem Vals.nil_iff {xs:List V} {us:List Value} (r:Vals xs us):us=[]↔xs=[]:=by
 cases r with
 | nil=>simp
 | cons _ _=>simp
theorem zax_:OpR X (binaryOp .Add) (zdt_ X.K):=by
 intro pins s σ H x y v u Q I rx ry h
 obtain ⟨a,b,xs,ys,rfl,rfl,ha,hb,hx,hz,q1,q2⟩:=h
 cases rx
 cases ry
 obtain ⟨its,r1,p1,_⟩:=I.tuple ha
 obtain ⟨its2,r2,p2,_⟩:=I.tuple hb
 refine HT.cat_tup p1 p2 (fun z=>hx (r1.nil_iff.mp z)) (fun z=>⟨.ref a,H,I,rfl,q1 (r2.nil_iff.mp z)⟩) (fun z=>?_) (by rw [←r1.length,←r2.length];exact hz)
 refine ⟨.ref s.heap.objs.size,_,I.laid (t':=s.toks) (o:=.tup (xs++ys)) (fun b ob q=>Heap.get?_push_of_some _ q) (Nat.le_refl _) ?_,rfl,q2 (fun w=>z (r2.nil_iff.mpr w)) _ (I.hok.fresh (Nat.le_refl _))⟩
 exact ⟨by rw [List.length_append];exact hz,_,r1.append r2,IsTup.new _ _,TupN.new _ _⟩
end
end L2
namespace L2
open PySem PySem.Spec PyProof.Rows
noncomputable def ixN (n:Nat) (i:Int):Option Nat:=if 0≤i then (if i<n then some i.toNat else none) else if -(n:Int)≤i then some (i+n).toNat else none
noncomputable def atI {α:Type} (xs:List α) (i:Int):Option α:=(ixN xs.length i).bind fun j=>xs[j]?
theorem Wa_ {n:Nat} {i:Int} {j:Nat} (h:ixN n i=some j):seqIndex? i n=some j∧j<n ∧ -(n:Int)≤i∧i<n:=by
 unfold ixN at h
 by_cases h0:0≤i
 ·rw [if_pos h0] at h
  by_cases h1:i<n
  ·rw [if_pos h1] at h
   have e:i.toNat=j:=Option.some.inj h
   exact ⟨by rw [seqIndex_of h0 h1,e],by lia,by lia,h1⟩
  ·rw [if_neg h1] at h;cases h
 ·rw [if_neg h0] at h
  by_cases h1 : -(n:Int)≤i
  ·rw [if_pos h1] at h
   have e:(i+n).toNat=j:=Option.some.inj h
   exact ⟨by rw [seqIndex_neg (by lia) h1,e],by lia,h1,by lia⟩
  ·rw [if_neg h1] at h;cases h
theorem YO_ {α:Type} {xs:List α} {i:Int} {v:α} (h:atI xs i=some v):∃ j,seqIndex? i xs.length=some j∧xs[j]? = some v∧j<xs.length ∧ -(xs.length:Int)≤i∧i<xs.length:=by
 unfold atI at h
 cases e:ixN xs.length i with
 | none=>rw [e] at h;cases h
 | some j =>
  rw [e] at h
  obtain ⟨h1,h2,h3,h4⟩:=Wa_ e
  exact ⟨j,h1,h,h2,h3,h4⟩
noncomputable def YQ_ (b:Expr):Prop:=∀ o i,subscripted b false o i=operate [o,i] (getItem o i)
noncomputable def IxR (X:Cx) (r:R2):Prop :=
 ∀ (value slice:Expr) (pins:List (Addr×Obj)) (s:Shared) (σ:St) (H:Hp) (x y:V) (v u:Value) (Q:VK),Inv X pins σ H s→RelV x v→RelV y u→r x y H Q →
  subscripted slice false v u=operate [v,u] (getItem v u)→wpAny (model X.prog X.w) X.A (subscriptTail value slice v u) (EP X pins σ Q) X.xe s
noncomputable def MtR (X:Cx) (id:String) (r:V→List V→Hp→VK→Prop):Prop :=
 ∀ (pins:List (Addr×Obj)) (s:Shared) (σ:St) (H:Hp) (x:V) (xs:List V) (v:Value) (us:List Value) (Q:VK),Inv X pins σ H s→RelV x v→Vals xs us→r x xs H Q →
  wpAny (model X.prog X.w) X.A (call (.builtin id) (v::us)) (EP X pins σ Q) X.xe s
section
variable {X:Cx} {a b:Expr} {ta tb:TE} {pos:Pos}
theorem IxR.or {r r':R2} (h:IxR X r) (h':IxR X r'):IxR X (fun x y H Q=>r x y H Q∨r' x y H Q):=by
 intro value slice pins s σ H x y v u Q I rx ry q hs
 rcases q with q|q
 ·exact h value slice pins s σ H x y v u Q I rx ry q hs
 ·exact h' value slice pins s σ H x y v u Q I rx ry q hs
theorem zca_ {r:R2} (hr:IxR X r) (ha:PE X a ta) (hb:PE X b tb) (hs:YQ_ b):PE X (.Subscript a b pos) (tOp r ta tb):=by
 intro pins s σ H Q I h
 exact Subscript_ (binT ha hb I h fun v u s2 x y H2 I2 rx ry q=>hr a b pins s2 σ H2 x y v u Q I2 rx ry q (hs _ _))
noncomputable def rIxL (K:PySem.W.Frag):R2:=fun x y H Q=>∃ p xs i v,x=.ref p∧y=.int i∧SqL K H p xs∧atI xs i=some v∧Q v H
noncomputable def rIxT (K:PySem.W.Frag):R2:=fun x y H Q=>∃ p xs i v,x=.ref p∧y=.int i∧SqT K H p xs∧atI xs i=some v∧Q v H
noncomputable def rIxS:R2:=fun x y H Q=>∃ z i c,x=.str z∧y=.int i∧z.length≤sizeLine∧atI z.cps.toList i=some c∧Q (.str ⟨#[c]⟩) H
theorem ix_list:IxR X (rIxL X.K):=by
 intro value slice pins s σ H x y v u Q I rx ry h hs
 obtain ⟨p,xs,i,z,rfl,rfl,hq,he,q⟩:=h
 cases rx
 obtain ⟨t,rfl⟩:=ry
 obtain ⟨its,r,pl,hz⟩:=I.list hq
 obtain ⟨j,h1,h2,h3,h4,h5⟩:=YO_ he
 obtain ⟨w,ew,rw'⟩:=r.get h2
 have hl:=r.length
 have hn:=ZG_
 have fin:EP X pins σ Q w s:=⟨z,H,I,rw',q⟩
 by_cases h0:0≤i
 ·have hj:i.toNat=j:=by
   rw [seqIndex_of h0 h5] at h1
   exact Option.some.inj h1
  exact item_listR pl.isList h0 (by lia) (by rw [hj];simpa using ew) fin hs
 ·have hj:(i+(its.toArray.size:Int)).toNat=j:=by
   rw [seqIndex_neg (by lia) h4] at h1
   rw [List.size_toArray,←hl]
   exact Option.some.inj h1
  exact subscriptTail_builtinR (x:=w) pl.isList.typeIs slot_list_getitem.lookup
   (wpAny_getItem_list_neg (Q:=fun r s'=>r=w∧EP X pins σ Q r s') pl.isList (by lia) (by rw [List.size_toArray]<;>lia) (by lia) (by rw [hj];simpa using ew) ⟨rfl,fin⟩) hs
theorem ix_tup:IxR X (rIxT X.K):=by
 intro value slice pins s σ H x y v u Q I rx ry h hs
 obtain ⟨p,xs,i,z,rfl,rfl,hq,he,q⟩:=h
 cases rx
 obtain ⟨t,rfl⟩:=ry
 obtain ⟨its,r,pl,hz⟩:=I.tuple hq
 obtain ⟨j,h1,h2,h3,h4,h5⟩:=YO_ he
 obtain ⟨w,ew,rw'⟩:=r.get h2
 have hl:=r.length
 have hn:=ZG_
 have fin:EP X pins σ Q w s:=⟨z,H,I,rw',q⟩
 exact subscriptTail_builtinR (x:=w) pl.typeIs slot_tuple_getitem.lookup
  (getItem_tuple (j:=j) (Q:=fun r s'=>r=w∧EP X pins σ Q r s') pl (by lia) (by lia) (by rw [List.size_toArray,←hl];exact h1) (by simpa using ew) ⟨rfl,fin⟩) hs
theorem zcD_:IxR X rIxS:=by
 intro value slice pins s σ H x y v u Q I rx ry h hs
 obtain ⟨z,i,c,rfl,rfl,hz,he,q⟩:=h
 obtain ⟨t,rfl⟩:=rx
 obtain ⟨t',rfl⟩:=ry
 obtain ⟨j,h1,h2,h3,h4,h5⟩:=YO_ he
 have hl:z.cps.toList.length=z.length:=by simp [Str.length]
 rw [hl] at h1 h4 h5
 have hn:=ZG_
 exact tail_any (typeIs_str s z t) slot_str_getitem.lookup (getItem_str (c:=c) (by
  have e1:decide (i < -(2^63:Int))=false:=decide_eq_false (by lia)
  have e2:decide (i≥2^63)=false:=decide_eq_false (by lia)
  rw [e1,e2,Bool.or_false]) (by rw [h1];simpa using h2) ⟨.str ⟨#[c]⟩,H,I.tok _,⟨_,rfl⟩,q⟩) hs
noncomputable def rIx (K:PySem.W.Frag):R2:=fun x y H Q=>rIxL K x y H Q∨rIxT K x y H Q∨rIxS x y H Q
theorem zcE_:IxR X (rIx X.K):=ix_list.or (ix_tup.or zcD_)
theorem QO_ (its:List Value) (n j:Nat) (u:Value):Obj.mapSeq (·.setIfInBounds j u) { cls:=.type "list",data:=.seq its.toArray n }={ cls:=.type "list",data:=.seq (its.set j u).toArray n }:=by
 simp [Obj.mapSeq]
theorem Inv.lst {pins:List (Addr×Obj)} {σ:St} {H:Hp} {s:Shared} {p:Addr} {xs:List V} (I:Inv X pins σ H s) (h:H p=some (.lst xs)) :
  ∃ (its:List Value) (n:Nat),Vals xs its∧s.heap.get? p=some { cls:=.type "list",data:=.seq its.toArray n }∧xs.length≤sizeLine:=by
 obtain ⟨z,its,n,r,e⟩:=I.hok p _ h
 exact ⟨its,n,r,e,z⟩
theorem Inv.lstUpd {pins:List (Addr×Obj)} {σ:St} {H:Hp} {s:Shared} {p:Addr} {xs ys:List V} {its its':List Value} {n n':Nat} {f:Obj→Obj} (I:Inv X pins σ H s) (h:H p=some (.lst xs))
  (ho:s.heap.get? p=some { cls:=.type "list",data:=.seq its.toArray n }) (hf:f { cls:=.type "list",data:=.seq its.toArray n }={ cls:=.type "list",data:=.seq its'.toArray n' }) (r:Vals ys its') (hz:ys.length≤sizeLine) (t:Nat) :
  Inv X pins σ (upd H p (.lst ys)) { s with heap:=s.heap.update p f,toks:=t }:=by
 have e:(s.heap.update p f).get? p=some { cls:=.type "list",data:=.seq its'.toArray n' }:=by
  rw [Heap.get?_update_self f ho (by rw [hf]<;>rfl),hf]
 refine I.write (x:=p) (e:=p) (by rw [h];trivial) (.inl rfl) (fun b u hb q=>(Heap.get?_update_other _ _ (Ne.symm hb)).trans q) ⟨_,e⟩ ?_
 exact ⟨hz,its',n',r,e⟩
noncomputable def zds_:V→V→V→Hp→(Hp→Prop)→Prop:=fun o i v H Q=>∃ p xs k j,o=.ref p∧i=.int k∧H p=some (.lst xs)∧ixN xs.length k=some j∧Q (upd H p (.lst (xs.set j v)))
theorem set_list:PSet X zds_:=by
 intro pins s σ H o i v ov iv u Q I ro ri rv h
 obtain ⟨p,xs,k,j,rfl,rfl,hp,hj,q⟩:=h
 cases ro
 obtain ⟨t,rfl⟩:=ri
 obtain ⟨its,n,r,ho,hz⟩:=I.lst hp
 obtain ⟨h1,h2,h3,h4⟩:=Wa_ hj
 have hl:=r.length
 have hn:=ZG_
 have I':Inv X pins σ (upd H p (.lst (xs.set j v))) { s with heap:=s.heap.update p (Obj.mapSeq (·.setIfInBounds j u)) } :=
  I.lstUpd hp ho (QO_ its n j u) (r.set rv j) (by rw [List.length_set];exact hz) s.toks
 by_cases h0:0≤k
 ·have hk:k.toNat=j:=by
   rw [seqIndex_of h0 h4] at h1
   exact Option.some.inj h1
  exact PySem.W.ki_setAt ho h0 (by lia) (by rw [List.size_toArray,←hl];exact h4) (by rw [hk];exact ⟨_,I',q⟩)
 ·have hk:(k+(its.toArray.size:Int)).toNat=j:=by
   rw [seqIndex_neg (by lia) h3] at h1
   rw [List.size_toArray,←hl]
   exact Option.some.inj h1
  exact PySem.W.ki_setBack ho (by lia) (by rw [List.size_toArray,←hl];exact h3) (by lia) (by rw [hk];exact ⟨_,I',q⟩)
theorem Up_ (lo hi:Option Int) (n:Nat):(sliceBounds lo hi none n).1=((HT.sIx n 0 lo:Nat):Int)∧(sliceBounds lo hi none n).2.1=((HT.sIx n n hi:Nat):Int)∧(sliceBounds lo hi none n).2.2=1:=by
 refine ⟨?_,?_,rfl⟩
 ·cases lo with
  | none=>simp [sliceBounds,HT.sIx]
  | some i =>
   simp only [sliceBounds,HT.sIx,Option.getD_none,show (1:Int)>0 by decide,if_true]
   by_cases h:i<0
   ·simp only [h,if_true]<;>lia
   ·simp only [h,if_false]<;>lia
 ·cases hi with
  | none=>simp [sliceBounds,HT.sIx]
  | some i =>
   simp only [sliceBounds,HT.sIx,Option.getD_none,show (1:Int)>0 by decide,if_true]
   by_cases h:i<0
   ·simp only [h,if_true]<;>lia
   ·simp only [h,if_false]<;>lia
theorem JJ_ (its:List Value) (lo hi:Option Int):slicePick its.toArray lo hi none=((its.drop (HT.sIx its.length 0 lo)).take (HT.sIx its.length its.length hi - HT.sIx its.length 0 lo)).toArray:=by
 obtain ⟨h1,h2,h3⟩:=Up_ lo hi its.toArray.size
 unfold slicePick
 rw [h1,h2,h3]
 simp only [sliceRange_one,pick_run,List.size_toArray]<;>rfl
noncomputable def rSlL (K:PySem.W.Frag):V→Option Int→Option Int→Hp→VK→Prop:=fun x lo hi H Q=>∃ a xs,x=.ref a∧SqL K H a xs∧∀ p,H p=none→Q (.ref p) (upd H p (.lst (cutV xs lo hi)))
theorem X8_:SlR X (rSlL X.K):=by
 intro pins s σ H x v vl vu lo hi sl Q I rx hs pl pu h
 obtain ⟨a,xs,rfl,hx,q⟩:=h
 cases rx
 obtain ⟨its,r,ht,hz⟩:=I.list hx
 have hlen:=r.length
 refine ⟨"list",_,slot_list_getitem.lookup,ht.isList.typeIs,?_⟩
 refine wpAny_getItem_list_slice ht.isList hs pl pu .none (by simp) ?_ (by rw [List.size_toArray]<;>lia)
 rw [JJ_,←hlen]
 refine ⟨.ref s.heap.objs.size,_,I.laid (t':=s.toks) (o:=.lst (cutV xs lo hi)) (fun b ob q=>Heap.get?_push_of_some _ q) (Nat.le_refl _) ?_,rfl,q _ (I.hok.fresh (Nat.le_refl _))⟩
 exact ⟨Nat.le_trans (ZR_ xs lo hi) hz,_,0,(r.drop (HT.sIx xs.length 0 lo)).take (HT.sIx xs.length xs.length hi - HT.sIx xs.length 0 lo),Heap.get?_push_size _ rfl⟩
theorem U6_:CallR X (.builtin "len") (fun xs H Q=>∃ p ys,xs=[.ref p]∧(SqL X.K H p ys∨SqT X.K H p ys)∧Q (.int ys.length) H):=by
 intro pins s σ H xs us Q I r h
 obtain ⟨p,ys,rfl,hq,q⟩:=h
 obtain ⟨u,rfl,rx⟩:=vals1 r
 cases rx
 have hn:=ZG_
 rcases hq with hq|hq
 ·obtain ⟨its,r',pl,hz⟩:=I.list hq
  have hlen:=r'.length
  exact Calls.call_len_list pl.isList (by simp only [List.size_toArray]<;>lia) ⟨.int ys.length,H,I.tok _,⟨s.toks+1,by rw [List.size_toArray,hlen]⟩,q⟩
 ·obtain ⟨its,r',pl,hz⟩:=I.tuple hq
  have hlen:=r'.length
  exact len_tuple pl (by simp only [List.size_toArray]<;>lia) ⟨.int ys.length,H,I.tok _,⟨s.toks+1,by rw [List.size_toArray,hlen]⟩,q⟩
theorem U5_:CallR X (.builtin "len") (fun xs H Q=>∃ z,xs=[.str z]∧z.length≤sizeLine∧Q (.int z.length) H):=by
 intro pins s σ H xs us Q I r h
 obtain ⟨z,rfl,hz,q⟩:=h
 obtain ⟨u,rfl,t,rfl⟩:=vals1 r
 have hn:=ZG_
 exact len_str (by lia) ⟨.int z.length,H,I.tok _,⟨_,rfl⟩,q⟩
theorem CallR.or {f:Value} {r r':List V→Hp→VK→Prop} (h:CallR X f r) (h':CallR X f r'):CallR X f (fun xs H Q=>r xs H Q∨r' xs H Q):=by
 intro pins s σ H xs us Q I rs q
 rcases q with q|q
 ·exact h pins s σ H xs us Q I rs q
 ·exact h' pins s σ H xs us Q I rs q
theorem zv_:CallR X (.type "tuple") (fun xs H Q=>∃ p ys,xs=[.ref p]∧((SqL X.K H p ys∧∀ l,H l=none→Q (.ref l) (upd H l (.tup ys)))∨(SqT X.K H p ys∧Q (.ref p) H))):=by
 intro pins s σ H xs us Q I r h
 obtain ⟨p,ys,rfl,h⟩:=h
 obtain ⟨u,rfl,rx⟩:=vals1 r
 cases rx
 rcases h with ⟨hq,q⟩|⟨hq,q⟩
 ·obtain ⟨its,r',pl,hz⟩:=I.list hq
  have hlen:=r'.length
  refine call_tuple_list pl.isList (fun h' kp=>?_) (by simp only [List.size_toArray]<;>lia)
  have I1:Inv X pins σ H { s with heap:=h' }:=I.kept (t':=s.toks) kp
  have I2:Inv X pins σ (upd H h'.objs.size (.tup ys)) { s with heap:=h'.push { cls:=.type "tuple",data:=.seq its.toArray } } :=
   I1.laid (t':=s.toks) (fun b o e=>Heap.get?_push_of_some _ e) (Nat.le_refl _) (show ObjOk X.prog X.w _ _ _ (.tup ys) from ⟨hz,its,r',IsTup.new _ _,TupN.new _ _⟩)
  exact ⟨.ref h'.objs.size,_,I2,rfl,q _ (I1.hok.fresh (Nat.le_refl _))⟩
 ·obtain ⟨its,r',pl,hz⟩:=I.tuple hq
  exact call_tuple_same pl ⟨.ref p,H,I,rfl,q⟩
noncomputable def tyV (K:PySem.W.Frag) (T:String) (x:V) (H:Hp):Prop:=match x with
 | .str _=>T = "str"
 | .int _=>T = "int"
 | .ref p=>(T = "list" ∧ ∃ xs,SqL K H p xs)∨(T = "tuple" ∧ ∃ o,K.lookup p=some o∧o.cls=.type "tuple" ∧ o.dict=none) ∨
   (T = "dict" ∧ ((∃ kvs,H p=some (.dK kvs))∨∃ kvs,H p=some (.dT kvs)))∨(T = "set" ∧ ∃ S n,H p=some (.set S n))
 | _=>False
theorem zbk_ {pins:List (Addr×Obj)} {σ:St} {H:Hp} {s:Shared} {T:String} {x:V} {v:Value} (I:Inv X pins σ H s) (r:RelV x v) (ty:tyV X.K T x H) :
  s.TypeIs v T∧∀ a,v=.ref a→∃ ob,s.heap.get? a=some ob∧ob.dict=none:=by
 cases x with
 | str z =>
  obtain ⟨t,rfl⟩:=r
  cases (show T = "str" from ty)
  exact ⟨typeIs_str s z t,fun _ e=>nomatch e⟩
 | int i =>
  obtain ⟨t,rfl⟩:=r
  cases (show T = "int" from ty)
  exact ⟨typeIs_int s i t,fun _ e=>nomatch e⟩
 | ref p =>
  cases r
  rcases ty with ⟨rfl,xs,hq⟩|⟨rfl,o,hk,hc,hd⟩|⟨rfl,hk⟩|⟨rfl,S,n,hk⟩
  ·obtain ⟨its,_,pl,_⟩:=I.list hq
   refine ⟨pl.isList.typeIs,fun a e=>?_⟩
   cases e
   obtain ⟨o,n,e,c,hd,_⟩:=pl
   exact ⟨o,e,hd⟩
  ·refine ⟨⟨o,I.kIn p o hk,hc⟩,fun a e=>?_⟩
   cases e
   exact ⟨o,I.kIn _ o hk,hd⟩
  ·have z:∃ o,s.heap.get? p=some o∧o.ExactDict:=by
    rcases hk with ⟨kvs,hk⟩|⟨kvs,hk⟩
    ·obtain ⟨_,_,_,_,o,_,_,e,ex,_⟩:=I.hok p _ hk
     exact ⟨o,e,ex⟩
    ·obtain ⟨_,_,_,_,o,_,_,e,ex,_⟩:=I.hok p _ hk
     exact ⟨o,e,ex⟩
   obtain ⟨o,e,ex⟩:=z
   refine ⟨⟨o,e,ex.1⟩,fun a e2=>?_⟩
   cases e2
   exact ⟨o,e,ex.2.1⟩
  ·obtain ⟨o,_,_,_,e,ex,_⟩:=I.hok p _ hk
   refine ⟨⟨o,e,ex.1⟩,fun a e2=>?_⟩
   cases e2
   exact ⟨o,e,ex.2.1⟩
 | _=>exact False.elim ty
noncomputable def tBM (K:PySem.W.Frag) (T:String) (r:V→List V→Hp→VK→Prop) (to:TE) (t:TA):TE:=fun σ H Q=>to σ H fun x H1=>tyV K T x H1∧t σ H1 fun xs H2=>r x xs H2 Q
variable {o e:Expr} {es:List Expr} {to:TE} {t:TA} {name:Str} {apos cpos:Pos} {T id:String} {r:V→List V→Hp→VK→Prop}
theorem zdy_ (pa:PlainAttrs T) (slot:Slot T name id) (hty:typeOf (.builtin id)=pure (.type "method_descriptor")) (hm:MtR X id r) (ho:PE X o to) (ha:PA X (e::es) t)
  (hbase:attributeBase o name X.env (eval o X.env)=eval o X.env:=by rfl)
  (hfew:((backTo cpos (starEach (e::es) X.env)).all (fun x=>!x.1)&&(backToKw cpos (keywordEach [] X.env)).all (fun x=>x.1.isSome)
   && decide ((e::es).length+([]:List Keyword).length+(if ([]:List Keyword).isEmpty then 0 else 1)<30))=true:=by rfl)
  (hline:(apos.endLine==cpos.line)=true:=by rfl) (hs:starEach (e::es) X.env=(false,eval e X.env)::starEach es X.env:=by rfl) (hplain:(backTo cpos (starEach es X.env)).any (·.1)=false:=by rfl) :
  PE X (.Call (.Attribute o name apos) (e::es) [] cpos) (tBM X.K T r to t):=by
 intro pins s σ H Q I h
 refine wpAny_Call_method_late hbase hfew hline rfl (thn (ho pins s σ H _ I h) fun v s1 ⟨x,H1,I1,r1,ty,q1⟩=>?_)
 obtain ⟨h1,h2⟩:=zbk_ I1 r1 ty
 refine ⟨T,id,pa,slot,hty,h1,h2,?_⟩
 have hA:=ha cpos pins s1 σ H1 _ I1 q1
 rw [hs] at hA ⊢
 refine Calls.callWith_builtin (by show (false||(backTo cpos (starEach es X.env)).any (·.1))=false;rw [hplain]<;>rfl) (Calls.evalArgs_plain ?_)
 exact thn hA fun us s2 ⟨vs,H2,I2,r2,q2⟩=>hm pins s2 σ H2 x vs v us Q I2 r1 r2 q2
end
end L2
namespace L2
open PySem PySem.Spec PyProof.Rows
noncomputable def MtM (X:Cx) (id:String) (r:V→List V→Hp→VK→Prop):Prop :=
 ∀ (pins:List (Addr×Obj)) (s:Shared) (σ:St) (H:Hp) (x:V) (xs:List V) (v:Value) (us:List Value) (Q:VK),Inv X pins σ H s→RelV x v→Vals xs us→r x xs H Q →
  wpAny (model X.prog X.w) X.A (call (.builtin id) (v::us)) (EP X pins σ Q) X.xe s
theorem Vals.one {x:V} {us:List Value} (h:Vals [x] us):∃ u,us=[u]∧RelV x u:=by
 cases h with
 | cons r t=>cases t;exact ⟨_,rfl,r⟩
theorem Vals.rep {xs:List V} {us:List Value} (h:Vals xs us):∀ k:Nat,Vals (List.replicate k xs).flatten (List.replicate k us).flatten
 | 0=>.nil
 | k+1=>by
  rw [List.replicate_succ,List.replicate_succ,List.flatten_cons,List.flatten_cons]
  exact Vals.append h (Vals.rep h k)
theorem foldl_rep (its:List Value):∀ (k:Nat) (acc:List Value),
  List.foldl (fun x1 x2=>x1++x2) acc.toArray (List.replicate k its.toArray)=(acc++(List.replicate k its).flatten).toArray
 | 0,acc=>by simp
 | k+1,acc=>by
  have e:acc.toArray++its.toArray=(acc++its).toArray:=by simp
  have e2:(acc++its)++(List.replicate k its).flatten=acc++(List.replicate (k+1) its).flatten:=by
   rw [List.replicate_succ,List.flatten_cons,List.append_assoc]
  rw [←e2,←foldl_rep its k (acc++its),←e,List.replicate_succ,List.foldl_cons]
section
variable {X:Cx} {pins:List (Addr×Obj)} {σ:St} {H:Hp} {s:Shared} {l b:Addr} {xs ys zs:List V}
theorem Inv.lset {its its':List Value} {n:Nat} {f:Array Value→Array Value} {t':Nat} (I:Inv X pins σ H s) (hH:H l=some (.lst xs))
  (e:s.heap.get? l=some { cls:=.type "list",data:=.seq its.toArray n }) (hf:f its.toArray=its'.toArray) (hv:Vals ys its') (hz:ys.length≤sizeLine) :
  Inv X pins σ (upd H l (.lst ys)) { s with heap:=s.heap.update l (Obj.mapSeq f),toks:=t' }:=by
 have q:=PySem.IsL.update e f
 rw [hf] at q
 refine I.write (x:=l) (e:=l) (by rw [hH];exact trivial) (.inl rfl) (fun b' u hb hu=>(Heap.get?_update_other s.heap (Obj.mapSeq f) (Ne.symm hb)).trans hu) ⟨_,q⟩ ?_
 exact ⟨hz,its',_,hv,q⟩
theorem Inv.fresh (I:Inv X pins σ H s):H s.heap.objs.size=none:=I.hok.fresh (Nat.le_refl _)
theorem Inv.lstM (I:Inv X pins σ H s) (hH:H l=some (.lst xs)):xs.length≤sizeLine∧∃ (its:List Value) (n:Nat),Vals xs its∧xs.length=its.length∧s.heap.get? l=some { cls:=.type "list",data:=.seq its.toArray n }:=by
 obtain ⟨z,its,n,r,e⟩:=I.hok l _ hH
 exact ⟨z,its,n,r,r.length,e⟩
end
section
variable {X:Cx}
noncomputable def zaf_:V→List V→Hp→VK→Prop:=fun x vs H Q=>∃ l xs y,x=.ref l∧vs=[y]∧H l=some (.lst xs)∧xs.length<sizeLine∧Q .non (upd H l (.lst (xs++[y])))
theorem V0_:MtM X "list.append" zaf_:=by
 intro pins s σ H x vs v us Q I rx rv h
 obtain ⟨l,xs,y,rfl,rfl,hH,hz,q⟩:=h
 cases rx
 obtain ⟨u,rfl,ru⟩:=rv.one
 obtain ⟨z,its,n,r,hl,e⟩:=I.lstM hH
 refine call_meets F.slot_list_append ⟨_,e,rfl⟩ F.entry_list_append (F.args_list_append_2 _ _) (PySem.list_append l its.toArray n u (by rw [List.size_toArray];lia)) ⟨e,?_⟩
 refine ⟨.non,_,I.lset (its':=its++[u]) hH e (by simp) (r.append (.cons ru .nil)) ?_,rfl,q⟩
 rw [List.length_append,List.length_singleton]
 lia
theorem len_rep {α:Type} (xs:List α) (k:Nat):(List.replicate k xs).flatten.length=k*xs.length:=by
 induction k with
 | zero=>simp
 | succ k ih=>rw [List.replicate_succ,List.flatten_cons,List.length_append,ih,Nat.succ_mul,Nat.add_comm]
end
end L2
namespace Att
open PySem PySem.W PySem.Calls PyProof.Rows
theorem ZK_ {P:Params} {h:Heap}:∀ (ns:List Int) (vs:List Value),WellAll P h vs (ns.map WData.int)→IntsAre vs ns:=by
 intro ns
 induction ns with
 | nil =>
  intro vs w
  rw [List.map_nil] at w
  cases w
  exact .nil
 | cons n ns ih =>
  intro vs w
  rw [List.map_cons] at w
  cases w with
  | cons a b =>
   cases a
   exact .cons _ _ (ih _ b)
theorem Vr_ {l:OpenLaw} {n:Nat} (hn:l.most=some n) {P:Params} {h:Heap} {args:List WData} {vals:List Value}
  (hpre:l.row.toRowW.claim.pre args=true) (hwl:WellAll P h vals args) :
  ∃ a vs ns,vals=[Value.ref a]∧args=[WData.list (ns.map WData.int)]∧h.get? a=some { cls:=.type "list",data:=.seq vs.toArray }∧IntsAre vs ns∧ns.length≤n:=by
 have hsh:WShape.hasAll [] args [.list .int]=true:=(pre_splitW hpre).1
 have hc:l.pre.holds [] { args:=args }=true:=(pre_splitW hpre).2
 obtain ⟨d,r,rfl,h1,h2⟩:=hasAllW_cons hsh
 obtain rfl:=hasAllW_nil h2
 obtain ⟨xs,rfl,h3⟩:=hasW_list h1
 obtain ⟨ns,rfl⟩:=items_int h3
 have hlen:ns.length≤n:=by
  unfold OpenLaw.pre at hc
  have h4:(WTm.not (.lt (.lit (.int (n:Int))) (.len (.arg 0)))).holds [] { args:=[.list (ns.map .int)] }=true:=by
   have h4:=(holds_andW hc).1
   rw [hn] at h4
   exact h4
  have h5:=condW_of h4 (w_not (w_lt w_lit (w_len_list (w_arg rfl))))
  rw [List.length_map] at h5
  refine Nat.le_of_not_lt fun q=>?_
  have q':(n:Int)<((ns.length:Nat):Int):=by omega
  first
   | (rw [decide_eq_true q'] at h5;exact absurd h5 (by decide))
   | (simp at h5;omega)
 cases hwl with
 | cons w1 w2 =>
  cases w2
  cases w1 with
  | list ho hall=>exact ⟨_,_,ns,rfl,rfl,ho,ZK_ ns _ hall,hlen⟩
theorem VC_ (l:OpenLaw) (args:List WData):l.row.toRowW.claim.post args (.bool true) args=true :=
 postW_of (r:=l.row.toRowW) (X:=(true==true))
  (show WShape.has [] (.bool true) .bool=true by first|rfl|decide|simp [WShape.has,WShape.arms,WShape.armsAll])
  (show (WTm.eq .res (.lit (.bool true))).value [] { args:=args,res:=some (.bool true),after:=args }=some (.bool (true==true)) from w_eq_bool (w_res rfl) w_lit) rfl
theorem attach_call {l:OpenLaw} {n:Nat} {q:Program} {loose:List Str} {XP:(Str→Option Value)→Heap→Prop} {YP:World→Heap→Prop} {d:DefRec}
  (hn:l.most=some n) (hdf:d.params.defaults=[])
  (call:∀ (w:World) (s₀ s₁:Shared) (mg mb:Str→Option Value) (fa:Addr) (o:Obj) (pm cd doc:Value) (a:Addr) (vs:List Value) (ns:List Int),
   Ground q loose [] XP w s₀ mg mb s₁.heap→YP w s₁.heap →
   s₁.heap.get? fa=some o→o.data=.func (docDef d.name d.params d.body d.scope pm cd doc)→s₁.heap.CodeRec cd d.name→mg d.name=some (.ref fa) →
   s₁.heap.get? a=some { cls:=.type "list",data:=.seq vs.toArray }→IntsAre vs ns→ns.length≤n→s₁.gens = #[] →
   codeAny (model l.prog w) callerA (.call (.ref fa) ⟨[.ref a],[]⟩) (fun r s'=>r=.ok (.ret (.bool true))∧OldK s₁.heap s'.heap∧s'.os=s₁.os∧AllBare s'.gens) s₁) :
  WalkO q loose XP YP l.row.toRowW d [] (fun f vs=>PySem.call f vs):=by
 intro w s₀ s₁ mg mb G Y fa o pm cd doc dV kV ho hd hcd hD hmg hg args vals as hpre hlay hrd hwl hlo
 obtain rfl:dV=.none:=Dflts.none hD hdf
 obtain rfl:kV=.none:=Dflts.noKw hD
 obtain ⟨a,vs,ns,rfl,rfl,hobj,hints,hlen⟩:=Vr_ hn hpre hwl
 refine enter_call (codeAny_mono (call w s₀ s₁ mg mb fa o pm cd doc a vs ns G Y ho (fd_plain hd) hcd hmg hobj hints hlen hg) fun r s' hq=>?_)
 obtain ⟨rfl,h2,h3,h4⟩:=hq
 exact ⟨.inl ⟨.bool true,.bool true,[],rfl,fun _=>rfl,.bool true,VC_ l _,fun _=>⟨List.Pairwise.nil,fun _ hm=>(nomatch hm)⟩⟩,h2,h3,h4⟩
end Att
namespace L2
open PySem PySem.Spec PyProof.Rows
theorem Ui_:∀ {vs:List Value} {ns:List Int},IntsAre vs ns→Vals (ns.map V.int) vs
 | _,_,.nil=>.nil
 | _,_,.cons n t h=>.cons ⟨t,rfl⟩ (Ui_ h)
noncomputable def Only (H:Hp):Prop:=∀ b,H b=none∨∃ o xs,H b=some (.frz o (.lst xs))
theorem Xh_ {P:Program} {w:World} {K:PySem.W.Frag} {mg mb:Str→Option Value} {CX:CXT} {k:Nat} {fa a:Addr} {fd:FuncData} {x:Str} {sp:Sp} {s₁:Shared} {vs:List Value} {ns:List Int}
  (KX:K.In s₁.heap) (hns:s₁.heap.Ns mainGlobals mg) (hb:s₁.heap.Ns builtinsNs mb) (hbb:∀ x:Str,x ≠ "__name__" → mb x=bootBuiltins x) (hlim:s₁.heap.NoLimit) (hg:s₁.gens = #[])
  (ha:s₁.heap.get? a=some { cls:=.type "list",data:=.seq vs.toArray }) (hi:IntsAre vs ns) (hl:ns.length≤sizeLine) (hr:Room k callerA)
  (F:∀ base:Heap,K.In base→base.Ns mainGlobals mg→FnOk P w K mg base CX k fa fd [x] sp) (hbind:∀ (s:Shared) (u:Value),BindsTo s fd ⟨[u],[]⟩ [(x,u)])
  (hsp:∀ H:Hp,Only H→SqL K H a (ns.map V.int)→sp [.ref a] H (fun v _=>v=.bl true) fun _ _ _=>False)
  (hCX:∀ H e s',CX [] H s₁ (fun _ _ _=>False) e s'→False) :
  codeAny (model P w) callerA (.call (.ref fa) ⟨[.ref a],[]⟩) (fun r s'=>r=.ok (.ret (.bool true))∧OldK s₁.heap s'.heap∧s'.os=s₁.os∧AllBare s'.gens) s₁:=by
 have rv:=Ui_ hi
 have lenV:=hi.length
 have core:∀ H:Hp,Only H→SqL K H a (ns.map V.int)→HOk P w H s₁.heap→(∀ b,H b≠none→b=a)→(H a≠none→K.lookup a=none) →
   codeAny (model P w) callerA (.call (.ref fa) ⟨[.ref a],[]⟩) (fun r s'=>r=.ok (.ret (.bool true))∧OldK s₁.heap s'.heap∧s'.os=s₁.os∧AllBare s'.gens) s₁:=by
  intro H hO hS hok hA hK
  have base_of:∀ {b:Addr} {o:Obj},s₁.heap.get? b=some o→H b=none→(hidT s₁.heap H).get? b=some o:=fun e n=>Xp_ e n
  have noA:∀ {b:Addr} {o:Obj} {es:Array DictEntry} {ep:Nat},s₁.heap.get? b=some o→o.data=.dict es ep→H b=none:=fun {b o es ep} e d=>by
   cases q:H b with
   | none=>rfl
   | some u =>
    have e':b=a:=hA b (by rw [q];simp)
    subst e'
    rw [ha] at e;cases e
    have d':Data.seq vs.toArray _=Data.dict es ep:=d
    cases d'
  have nsK:∀ {b:Addr} {m:Str→Option Value},s₁.heap.Ns b m→(hidT s₁.heap H).Ns b m:=fun {b m} ⟨o,es,ep,e,d,r⟩=>⟨o,es,ep,base_of e (noA e d),d,r⟩
  have hKb:K.In (hidT s₁.heap H):=fun b o e=>base_of (KX b o e) (by
   cases q:H b with
   | none=>rfl
   | some u =>
    have e':b=a:=hA b (by rw [q];simp)
    subst e'
    rw [hK (by rw [q];simp)] at e;cases e)
  have hM:Mod K mg (hidT s₁.heap H):=⟨hKb,nsK hns,⟨mb,nsK hb,hbb⟩,let ⟨mc,h1,h2⟩:=hlim;⟨mc,nsK h1,h2⟩⟩
  have e0:Env0 P w K mg (hidT s₁.heap H) callerA [] s₁ H:=⟨rfl,hM,fun b o e=>zaC_ e,Nat.le_of_eq (We_ _ _),trivial,fun b hb=>absurd (show b∈([]:List Addr) from hb) (by simp),hok,.of_eq hg⟩
  refine codeAny_mono ((F _ hKb (nsK hns)).run callerA [] s₁ H ⟨[.ref a],[]⟩ [.ref a] [.ref a] _ _ hr e0 (hbind s₁ (.ref a)) (.cons rfl .nil) (hsp H hO hS)) fun r s' h=>?_
  cases r with
  | error e=>exact (hCX H e s' h).elim
  | ok fl =>
   cases fl with
   | next=>exact False.elim h
   | brk=>exact False.elim h
   | cont=>exact False.elim h
   | ret u =>
    obtain ⟨v,H',os,bare,un,hok',r',q⟩:=h
    have q':v=.bl true:=q
    subst q'
    obtain rfl:u=Value.bool true:=r'
    refine ⟨rfl,OldK.of_keep fun b o e=>?_,os,bare⟩
    cases q:H b with
    | none=>exact un.keep b o e q (by intro z;exact absurd (show b∈([]:List Addr) from z) (by simp)) (by simp)
    | some u =>
     rcases hO b with z|⟨ob,xs,z⟩
     ·rw [q] at z;cases z
     ·have z2:=un.frzs b ob _ z
      obtain ⟨e1,_⟩:=hok b _ z
      obtain ⟨e2,_⟩:=hok' b _ z2
      rw [e] at e1;cases e1
      exact e2
 cases hk:K.lookup a with
 | some o =>
  have e:=KX a o hk
  rw [ha] at e
  cases e
  refine core (fun _=>none) (fun _=>.inl rfl) (.inr ⟨_,vs.toArray,_,hk,rfl,rfl,rfl,by rw [List.size_toArray,lenV];exact hl,by simpa using rv⟩) (fun b u z=>by have z':(none:Option HO)=some u:=z;cases z') (fun b z=>absurd rfl z) fun z=>absurd rfl z
 | none =>
  refine core (fun b=>if b=a then some (.frz { cls:=.type "list",data:=.seq vs.toArray } (.lst (ns.map V.int))) else none) (fun b=>?_) (.inl (.inr ⟨{ cls:=.type "list",data:=.seq vs.toArray },if_pos rfl⟩)) (fun b u z=>?_) (fun b z=>?_) fun _=>hk
  ·by_cases hb:b=a
   ·exact .inr ⟨_,_,if_pos hb⟩
   ·exact .inl (if_neg hb)
  ·by_cases hb:b=a
   ·have z':=(if_pos hb).symm.trans z
    cases z'
    subst hb
    exact ⟨ha,by rw [List.length_map];exact hl,vs,_,rv,ha⟩
   ·have z':=(if_neg hb).symm.trans z
    cases z'
  ·by_cases hb:b=a
   ·exact hb
   ·exact absurd (if_neg hb) z
end L2
namespace L2
open PySem PySem.Spec PyProof.Rows
theorem walk_of {l:PySem.W.OpenLaw} {n k:Nat} {q:Program} {loose:List Str} {XP:(Str→Option Value)→Heap→Prop} {YP:World→Heap→Prop} {d:DefRec} {K:Params→PySem.W.Frag} {CX:World→CXT} {sp:World→Sp} {x:Str}
  (hn:l.most=some n) (hn2:n≤sizeLine) (hdf:d.params.defaults=[]) (hr:Room k callerA)
  (hY:∀ (w:World) (h:Heap),YP w h→(K w.params).In h)
  (F:∀ (w:World) (mg:Str→Option Value) (fa:Addr) (h:Heap),(K w.params).In h→h.Ns mainGlobals mg→mg d.name=some (.ref fa) →
   ∃ fd:FuncData,(∀ (s:Shared) (u:Value),BindsTo s fd ⟨[u],[]⟩ [(x,u)]) ∧
    ∀ base:Heap,(K w.params).In base→base.Ns mainGlobals mg→FnOk l.prog w (K w.params) mg base (CX w) k fa fd [x] (sp w))
  (hsp:∀ (w:World) (H:Hp) (a:Addr) (ns:List Int),ns.length≤n→Only H→SqL (K w.params) H a (ns.map V.int)→sp w [.ref a] H (fun v _=>v=.bl true) fun _ _ _=>False)
  (hCX:∀ (w:World) (H:Hp) (s:Shared) (e:Value) (s':Shared),CX w [] H s (fun _ _ _=>False) e s'→False) :
  PySem.W.WalkO q loose XP YP l.row.toRowW d [] (fun f vs=>PySem.call f vs):=by
 refine Att.attach_call hn hdf fun w s₀ s₁ mg mb fa o pm cd doc a vs ns G Y ho hd hcd hmg hobj hints hlen hg=>?_
 have KX:=hY w _ Y
 obtain ⟨fd,hb,hF⟩:=F w mg fa _ KX G.T.g hmg
 exact Xh_ KX G.T.g G.T.b G.T.builtins G.T.nolimit hg hobj hints (Nat.le_trans hlen hn2) hr hF hb (fun H hO hS=>hsp w H a ns hlen hO hS) fun H e s'=>hCX w H s₁ e s'
end L2
namespace L2
open PySem PySem.Spec PyProof.Rows
noncomputable def zx_ (s:Stmt):Arguments:=match s with
 | .FunctionDef _ a _ _ _ _ _ _ _ _=>a
 | _=>{ posonlyargs:=[],args:=[],vararg:=none,kwonlyargs:=[],kw_defaults:=[],kwarg:=none,defaults:=[] }
noncomputable def zr_ (s:Stmt):List Stmt:=match s with
 | .FunctionDef _ _ b _ _ _ _ _ _ _=>b
 | _=>[]
noncomputable def ze_ (s:Stmt):Scope:=match s with
 | .FunctionDef _ _ _ _ _ _ sc _ _ _=>sc
 | _=>{ kind:=.function,names:=[],isGenerator:=false,isCoroutine:=false }
structure Fun (K:PySem.W.Frag) (x qual:Str) (st:Stmt) (f:Addr) (fd:FuncData):Prop where
 ex:∃ (oc:Value) (od:Option Addr) (kV doc pm:Value) (an:Option Addr) (cdv ct:Value) (osl:Array (Option Value)),
  fd=PySem.W.fnOf x qual (zx_ st) (zr_ st) (ze_ st) .none kV doc pm an cdv ct∧K.lookup f=some ⟨oc,od,.func fd,osl⟩∧PySem.W.codeIn K cdv qual=true
 kp:PySem.W.keepIn K (.ref f)=true
section
variable {P:Program} {w:World} {K:PySem.W.Frag} {mg:Str→Option Value} {base:Heap}
theorem Fun.binds {x qual:Str} {st:Stmt} {f:Addr} {fd:FuncData} {ps:List Str} (F:Fun K x qual st f fd)
  (h:∀ (kV doc pm:Value) (an:Option Addr) (cdv ct:Value) (us:List Value),us.length=ps.length→bindArgs (PySem.W.fnOf x qual (zx_ st) (zr_ st) (ze_ st) .none kV doc pm an cdv ct) ⟨us,[]⟩=pure (ps.zip us)):Binds K fd ps []:=by
 obtain ⟨oc,od,kV,doc,pm,an,cdv,ct,osl,rfl,lk,hcd⟩:=F.ex
 exact .all (h kV doc pm an cdv ct)
theorem jd_ {x qual:Str} {st:Stmt} {f:Addr} {oc:Value} {od an:Option Addr} {osl:Array (Option Value)} {kV doc pm cdv ct:Value} (l:K.lookup f=some ⟨oc,od,.func (PySem.W.fnOf x qual (zx_ st) (zr_ st) (ze_ st) .none kV doc pm an cdv ct),osl⟩)
  (c:PySem.W.codeIn K cdv qual=true) (k:PySem.W.keepIn K (.ref f)=true):Fun K x qual st f (PySem.W.fnOf x qual (zx_ st) (zr_ st) (ze_ st) .none kV doc pm an cdv ct):=⟨⟨oc,od,kV,doc,pm,an,cdv,ct,osl,rfl,l,c⟩,k⟩
end
theorem iteF {A B:Prop} (h:B):if false=true then A else B:=by
 rw [if_neg Bool.false_ne_true]
 exact h
theorem iteT {A B:Prop} (h:A):if true=true then A else B:=by
 rw [if_pos rfl]
 exact h
noncomputable def Same (H H':Hp):Prop:=∀ b o,H b=some o→H' b=some o
theorem Same.refl (H:Hp):Same H H:=fun _ _ h=>h
theorem Same.trans {H H1 H2:Hp} (a:Same H H1) (b:Same H1 H2):Same H H2:=fun c o h=>b c o (a c o h)
theorem Same.free {H H':Hp} (e:Same H H') {l:Addr} (h:H' l=Option.none):H l=Option.none:=by
 cases q:H l with
 | none=>rfl
 | some o =>
  rw [e l o q] at h
  cases h
theorem Same.seq {K:PySem.W.Frag} {H H':Hp} {a:Addr} {xs:List V} (e:Same H H') (h:SqL K H a xs):SqL K H' a xs:=by
 rcases h with (h|⟨o,h⟩)|h
 ·exact .inl (.inl (e _ _ h))
 ·exact .inl (.inr ⟨o,e _ _ h⟩)
 ·exact .inr h
end L2
set_option Elab.async false
set_option linter.all false
set_option maxRecDepth 100000
namespace L2
open PySem PySem.Spec PyProof.Rows
noncomputable def zF_ (X:Cx) (N':List Str) (scope:Scope) (cl:List (Str×Addr)) (s₂:Shared) (H₂:Hp) (fp:List Addr) (C:Addr):Cx :=
 { X with N:=N',s₀:=s₂,H₀:=H₂,env:=compEnvC scope cl C X.env,outer:=X.stack,ex:=fp,fn:=fun _=>false,pn:=[],xe:=fun _ _=>False }
noncomputable def lobj (ys:List Value) (k:Nat):Obj:={ cls:=.type "list",data:=.seq ys.toArray k }
section
variable {prog:Program} {w:World} {A:Around} {R:Result→Shared→Prop} {s:Shared}
theorem yj_ {elt target iter:Expr} {ifs:List Expr} {scope:Scope} {pos:Pos} {it acc:Value} {env:Env} (I:Nat→Shared→Prop)
  (turn:∀ n s,I n s→wpAny (model prog w) A (pyNext it) (fun r s₁=>match r with
   | none=>R (.ok .next) s₁
   | some v=>wpAny (model prog w) A (letOwnedTupleGo target it v) (fun _ s₁'=>wpAny (model prog w) A (assign target env v) (fun _ s₂ =>
     wpAny (model prog w) A (forIn ifs true fun c r=>if r=true then do let ok ←isTrue c env (eval c env);pure (ForInStep.yield ok) else pure (ForInStep.yield r)) (fun ok s₃ =>
      if ok=true then wpAny (model prog w) A (eval elt env) (fun x s₄ =>
       wpAny (model prog w) A (call (.builtin "list.append") [acc,x]) (fun _ s₅=>∃ m,m<n∧I m s₅) (fun _ _=>False) s₄) (fun _ _=>False) s₃
      else ∃ m,m<n∧I m s₃) (fun _ _=>False) s₂) (fun _ _=>False) s₁') (fun _ _=>False) s₁) (fun _ _=>False) s)
  (n:Nat) (h:I n s) :
  codeAny (model prog w) A (.compLoop (.ListComp elt [⟨target,iter,ifs,0⟩] scope pos) 0 it acc env) R s:=by
 refine codeAny_loop rfl I (fun n s hI=>?_) n h
 show wpAny _ A ((compTurn (.ListComp elt [⟨target,iter,ifs,0⟩] scope pos) 0 it acc env).onRaise (fun x=>do noteFrame x env;theTreesLotGoes x)) _ _ s
 refine wpAny_noted ?_
 rw [compTurn_list]
 refine wpAny_bind (wpAny_standAt (wpAny_bind (wpAny_mono (turn n s hI) (fun r s₁ h₁=>?_) fun _ _ h'=>h'.elim)))
 cases r with
 | none=>exact wpAny_pure h₁
 | some v =>
  refine wpAny_bind (wpAny_mono h₁ (fun _ s₁' h₁'=>?_) fun _ _ h'=>h'.elim)
  refine wpAny_bind (wpAny_mono h₁' (fun _ s₂ h₂=>wpAny_bind (wpAny_mono h₂ (fun ok s₃ h₃=>?_) fun _ _ h'=>h'.elim)) fun _ _ h'=>h'.elim)
  cases ok with
  | false=>exact wpAny_pure ⟨rfl,h₃⟩
  | true =>
   exact wpAny_bind (wpAny_bind (wpAny_mono h₃ (fun x s₄ h₄=>wpAny_bind (wpAny_mono h₄ (fun _ s₅ h₅=>wpAny_pure (wpAny_pure ⟨rfl,h₅⟩)) fun _ _ h'=>h'.elim)) fun _ _ h'=>h'.elim))
end
noncomputable def PTs (X:Cx) (ifs:List Expr) (t:TT):Prop :=
 ∀ (pins:List (Addr×Obj)) (s:Shared) (σ:St) (H:Hp) (Q:Bool→Hp→Prop),Inv X pins σ H s→t σ H Q →
  wpAny (model X.prog X.w) X.A (forIn ifs true fun c r=>if r=true then do let ok ←isTrue c X.env (eval c X.env);pure (ForInStep.yield ok) else pure (ForInStep.yield r)) (TP X pins σ Q) X.xe s
theorem zah_ {X:Cx}:PTs X [] (fun _ H Q=>Q true H):=fun _ _ _ H _ I h=>wpAny_tests_nil ⟨H,I,h⟩
theorem Vz_ {X:Cx} {c:Expr} {t:TT} (h:PT X c t):PTs X [c] t:=fun pins s σ H Q I q=>wpAny_tests_one (h pins s σ H Q I q)
theorem us_ {env:Env}:∀ {names:List (Str×NameKind)} {x:Str},
  (names.map fun (n,k)=>if (k==NameKind.free&&env.scope.kind==.function&&env.kindOf n==some .cell) then (n,NameKind.cell) else (n,k)).lookup x
   = (names.lookup x).map fun k=>if (k==NameKind.free&&env.scope.kind==.function&&env.kindOf x==some .cell) then NameKind.cell else k
 | [],_=>rfl
 | (n,k)::r,x=>by
  have ih:=@us_ env r x
  show List.lookup x ((if (k==NameKind.free&&env.scope.kind==.function&&env.kindOf n==some .cell)=true then (n,NameKind.cell) else (n,k))::_)=_
  cases hx:x==n with
  | true =>
   have e:x=n:=by simpa using hx
   subst e
   by_cases hc:(k==NameKind.free&&env.scope.kind==.function&&env.kindOf x==some .cell)=true
   ·rw [if_pos hc];simp only [List.lookup_cons,hx,Option.map_some,if_pos hc]
   ·rw [if_neg hc];simp only [List.lookup_cons,hx,Option.map_some,if_neg hc]
  | false =>
   by_cases hc:(k==NameKind.free&&env.scope.kind==.function&&env.kindOf n==some .cell)=true
   ·rw [if_pos hc];simp only [List.lookup_cons,hx];exact ih
   ·rw [if_neg hc];simp only [List.lookup_cons,hx];exact ih
theorem yW_ {env:Env}:∀ (names:List (Str×NameKind)) (acc:List (Str×Addr)),(∀ x∈names,x.2=.free→∃ c,env.cells.lookup x.1=some c) →
  (∀ x c,acc.lookup x=some c→env.cells.lookup x=some c) →
  ∃ cl,(forIn names acc fun (x:Str×NameKind) (cs:List (Str×Addr))=>(if (x.2==NameKind.free)=true then (do let c ←cellOf env x.1;pure (ForInStep.yield ((x.1,c)::cs))) else pure (ForInStep.yield cs):Sem (ForInStep (List (Str×Addr)))))=pure cl ∧
   (∀ x c,cl.lookup x=some c→env.cells.lookup x=some c)∧(∀ x,(acc.lookup x).isSome→(cl.lookup x).isSome)∧∀ x∈names,x.2=.free→(cl.lookup x.1).isSome
 | [],acc,_,ha=>⟨acc,rfl,ha,fun _ h=>h,fun _ h=>nomatch h⟩
 | (n,k)::r,acc,hn,ha=>by
  cases hk:(k==NameKind.free) with
  | true =>
   obtain ⟨c,hc⟩:=hn (n,k) List.mem_cons_self (by simpa using hk)
   have ha':∀ x d,((n,c)::acc).lookup x=some d→env.cells.lookup x=some d:=fun x d e=>by
    rw [List.lookup_cons] at e
    cases q:x==n with
    | true =>
     rw [q] at e
     have:x=n:=by simpa using q
     subst this
     exact hc.trans e
    | false=>rw [q] at e;exact ha x d e
   obtain ⟨cl,e,h1,h2,h3⟩:=yW_ r ((n,c)::acc) (fun x hx=>hn x (List.mem_cons_of_mem _ hx)) ha'
   have grow:∀ x,(acc.lookup x).isSome→(((n,c)::acc).lookup x).isSome:=fun x hx=>by
    rw [List.lookup_cons]
    cases q:x==n with
    | true=>rfl
    | false=>exact hx
   refine ⟨cl,?_,h1,fun x hx=>h2 x (grow x hx),fun x hx hf=>?_⟩
   ·rw [List.forIn_cons]
    have q:cellOf env n=pure c:=by
     unfold cellOf
     rw [hc]
    simp only [hk,if_true,q]
    exact e
   ·rcases List.mem_cons.mp hx with rfl|hx
    ·exact h2 _ (by simp [List.lookup_cons])
    ·exact h3 x hx hf
  | false =>
   obtain ⟨cl,e,h1,h2,h3⟩:=yW_ r acc (fun x hx=>hn x (List.mem_cons_of_mem _ hx)) ha
   refine ⟨cl,?_,h1,h2,fun x hx hf=>?_⟩
   ·rw [List.forIn_cons]
    simp only [hk,Bool.false_eq_true,if_false]
    exact e
   ·rcases List.mem_cons.mp hx with rfl|hx
    ·exfalso;have:k=.free:=hf;subst this;simp at hk
    ·exact h3 x hx hf
theorem JB_ {env:Env} {scope:Scope} (h:∀ x∈scope.names,x.2=.free→∃ c,env.cells.lookup x.1=some c) :
  ∃ cl,closureFor scope env=pure cl∧(∀ x c,cl.lookup x=some c→env.cells.lookup x=some c)∧∀ x∈scope.names,x.2=.free→(cl.lookup x.1).isSome:=by
 obtain ⟨cl,e,h1,_,h3⟩:=yW_ (env:=env) scope.names [] h (fun x c e=>by simp at e)
 refine ⟨cl,?_,h1,h3⟩
 unfold closureFor
 have q:(forIn scope.names [] fun (x:Str×NameKind) (cs:List (Str×Addr))=>(match x with|(name,kind)=>if (kind==NameKind.free)=true then (do let c ←cellOf env name;pure (ForInStep.yield ((name,c)::cs))) else pure (ForInStep.yield cs):Sem (ForInStep (List (Str×Addr)))))=pure cl:=e
 first
  | (simp only [];rw [q];rfl)
  | (show (do let cs ←_;pure cs)=_;rw [q];rfl)
  | (rw [show (forIn scope.names [] _)=pure cl from q];rfl)
structure CompOk (X:Cx) (N':List Str) (k:Nat) (scope:Scope):Prop where
 kind:scope.kind=.function
 len:N'.length=X.N.length+k
 nocell:∀ y∈scope.names,y.2≠.cell
 names:∀ y∈scope.names,y.2=.local→scope.names.lookup y.1=some .local
 outer:∀ (i:Nat) x,i<X.N.length→N'[i]? = some x→(scope.names.lookup x).isSome→(scope.names.lookup x=some .free∨scope.names.lookup x=some .local∨scope.names.lookup x=some .cell)→X.N[i]? = some x∧scope.names.lookup x=some .free
 free:∀ y∈scope.names,y.2=.free→X.env.kindOf y.1=some .cell∨X.env.kindOf y.1=some .free
end L2
set_option Elab.async false
set_option linter.all false
set_option maxRecDepth 100000
namespace L2
open PySem PySem.Spec PyProof.Rows
noncomputable def WS_ (wi:TI) (k:Nat) (g:TG) (tc:TT) (te:TE):TE:=fun σ H Q=>wi σ H fun J H1=>∃ W:Nat→Nat→List V→St→Hp→Prop,(∃ m,W 0 m [] (σ++List.replicate k none) H1) ∧
 ∀ i m vs σ' H',W i m vs σ' H'→vs.length≤sizeLine ∧
  ((J.stop i H'∧∀ p,H' p=none→Q (.ref p) (upd H' p (.lst vs))) ∨
   (J.go i H'∧∀ x H2,J.yld i H' x H2→g x σ' H2 fun σ3 H3=>tc σ3 H3 fun b H4=>if b=true then te σ3 H4 fun y H5=>∃ m',m'<m∧W (i+1) m' (vs++[y]) σ3 H5 else ∃ m',m'<m∧W (i+1) m' vs σ3 H4))
section
variable {X:Cx} {pins:List (Addr×Obj)} {σ:St} {H2:Hp} {s2:Shared}
theorem HOk.track {P:Program} {w:World} {H:Hp} {h:Heap} {D:Addr} {vs:List V} {ys:List Value} {k:Nat} (x:HOk P w H h) (hn:H D=none) (hl:vs.length≤sizeLine) (r:Vals vs ys) (e:h.get? D=some (lobj ys k)) :
  HOk P w (upd H D (.lst vs)) h:=fun b u q=>by
 by_cases hb:b=D
 ·subst hb
  rw [zy_] at q
  cases q
  exact ⟨hl,ys,k,r,e⟩
 ·rw [zp_ hb] at q
  exact (x b u q).stay (fun _ _ _ z=>z) (fun c z=>by rw [zp_ (zq_ z hn)];exact z) fun c xs z=>by rw [zp_ (zq_ z hn)];exact z
theorem UZ_ {elt tg iter:Expr} {ifs:List Expr} {scope:Scope} {pos:Pos} {N':List Str} {k:Nat} {cl:List (Str×Addr)} {J:It} {fp:List Addr} {it:Addr} {tn:Nat→Heap→Prop} {g:TG} {tc:TT} {te:TE} {E:Value→Shared→Prop}
  {RR:Value→Addr→Result→Shared→Prop} {Q:VK}
  (hc:X.calm=true) (S:CompOk X N' k scope) (hcl:∀ x c,cl.lookup x=some c→X.env.cells.lookup x=some c) (hcf:∀ x∈scope.names,x.2=.free→(cl.lookup x.1).isSome)
  (I:Inv X pins σ H2 s2) (T:Turn X.prog X.w X.K tg J fp it tn) (st:tn 0 s2.heap) (ff:∀ b∈fp,FpOk X pins H2 b)
  (hg:∀ C,PG (zF_ X N' scope cl s2 H2 fp C) tg g) (ht:∀ C,PTs (zF_ X N' scope cl s2 H2 fp C) ifs tc) (he:∀ C,PE (zF_ X N' scope cl s2 H2 fp C) elt te)
  (rd:∃ W:Nat→Nat→List V→St→Hp→Prop,(∃ m,W 0 m [] (σ++List.replicate k none) H2) ∧
   ∀ i m vs σ' H',W i m vs σ' H'→vs.length≤sizeLine ∧
    ((J.stop i H'∧∀ p,H' p=none→Q (.ref p) (upd H' p (.lst vs))) ∨
     (J.go i H'∧∀ x H2,J.yld i H' x H2→g x σ' H2 fun σ3 H3=>tc σ3 H3 fun b H4=>if b=true then te σ3 H4 fun y H5=>∃ m',m'<m∧W (i+1) m' (vs++[y]) σ3 H5 else ∃ m',m'<m∧W (i+1) m' vs σ3 H4)))
  (hRR:∀ D C s' H',Inv X pins σ H' s'→(∃ m,s'.heap.Ns C m)→FpOk X pins H' C→Q (.ref D) H'→RR (.ref D) C (.ok .next) s') :
  wpAny (model X.prog X.w) X.A (newList []) (fun acc s₃=>wpAny (model X.prog X.w) X.A (newFunctionEnv scope X.env.globals cl [] X.env.qual none .none (some X.env)) (fun cenv s₄ =>
   codeAny (model X.prog X.w) X.A (.compStart (.ListComp elt [⟨tg,iter,ifs,0⟩] scope pos) 0 (.ref it) acc { cenv with scope:=relabel scope X.env }) (RR acc cenv.locals) s₄) E s₃) E s2:=by
 obtain ⟨W,⟨m0,w0⟩,turn⟩:=rd
 refine wpAny_newObj_type (wpAny_newFunctionEnv S.nocell (by intro y hy;simp at hy) (fun h₁ hns₁ hsb₁=>?_) S.kind)
 dsimp only at hns₁ hsb₁ ⊢
 generalize hH2:s2.heap.push { cls:=.type "list",dict:=none,data:=.seq ([]:List Value).toArray }=G2 at hns₁ hsb₁ ⊢
 have hCs:G2.objs.size=s2.heap.objs.size+1:=by rw [←hH2,Heap.size_push]
 have hDC:s2.heap.objs.size≠G2.objs.size:=by rw [hCs];exact Nat.ne_of_lt (Nat.lt_succ_self _)
 have hCle:s2.heap.objs.size≤G2.objs.size:=by rw [hCs];exact Nat.le_succ _
 have below:∀ b,b<s2.heap.objs.size→b≠G2.objs.size∧b≠s2.heap.objs.size:=fun b hb=>⟨by rw [hCs];exact Nat.ne_of_lt (Nat.lt_succ_of_lt hb),Nat.ne_of_lt hb⟩
 have old:∀ b o,s2.heap.get? b=some o→h₁.get? b=some o:=fun b o e=>hsb₁.extBut b o (below b (Heap.lt_size e)).1 (Heap.get?_push_of_some _ (hH2▸Heap.get?_push_of_some _ e))
 have hacc:h₁.get? s2.heap.objs.size=some (lobj [] 0):=hsb₁.extBut _ _ hDC (Heap.get?_push_of_some _ (hH2▸Heap.get?_push_size _ rfl))
 generalize hDe:s2.heap.objs.size=D at *
 generalize hCe:G2.objs.size=C at *
 have fpD:FpOk X pins H2 D:=I.fpOk (by rw [hDe];exact Nat.le_refl _) (I.hok.fresh (by rw [hDe];exact Nat.le_refl _))
 have fpC:∀ H',H' C=none→FpOk X pins H' C:=fun H' hn=>I.fpOk (by rw [hDe];exact hCle) hn
 have hfpD:∀ b∈fp,b<D:=fun b hb=>by
  obtain ⟨o,e,_⟩:=T.obj _ _ st b hb
  rw [←hDe];exact Heap.lt_size e
 have nofr:∀ b,D≤b→b∉frs X.stack:=fun b hb hm=>by
  rcases List.mem_cons.mp (I.stkSub b hm) with e|hm
  ·have:=I.lt;rw [hDe] at this;rw [e] at hb;exact absurd (Nat.lt_of_lt_of_le this hb) (Nat.lt_irrefl _)
  ·exact I.nofs (by rw [hDe];exact hb) hm
 let X':=zF_ X N' scope cl s2 H2 fp C
 have cellLt:∀ x c,cl.lookup x=some c→c<D:=fun x c e=>by
  obtain ⟨v,z⟩:=I.cell x c (hcl x c e)
  rw [←hDe];exact z.lt
 have ok':X'.Ok:=by
  refine ⟨I.ok.mod,S.kind,I.ok.glob,I.ok.blt,?_,fun x y c e1 e2=>I.ok.inj x y c (hcl _ _ e1) (hcl _ _ e2),fun x hx=>?_,fun x c hf _=>(nomatch hf),I.ok.hd,I.ok.frames,.inl rfl,fun b hb=>⟨?_,fun x c e z=>?_⟩,I.bs,?_,fun b o e hb=>?_,fun b hb hm=>?_,I.stack,I.stkFree⟩
  ·show s2.heap.objs.size≤C
   rw [hDe];exact hCle
  ·have hx':(relabel scope X.env).names.lookup x=some .cell∨(relabel scope X.env).names.lookup x=some .free:=hx
   have e:=us_ (env:=X.env) (names:=scope.names) (x:=x)
   have e':(relabel scope X.env).names.lookup x=(scope.names.lookup x).map fun k=>if (k==NameKind.free&&X.env.scope.kind==.function&&X.env.kindOf x==some .cell) then NameKind.cell else k:=e
   rw [e'] at hx'
   cases q:scope.names.lookup x with
   | none=>rw [q] at hx';rcases hx' with z|z<;>cases z
   | some kd =>
    have hmem:=PySem.mem_of_lookup q
    rw [q] at hx'
    have hkd:kd=.free:=by
     by_cases hz:kd=.free
     ·exact hz
     ·exfalso
      have hb:(kd==NameKind.free)=false:=by simpa using hz
      simp only [hb,Bool.false_and,Bool.false_eq_true,if_false,Option.map_some] at hx'
      rcases hx' with z|z
      ·exact S.nocell _ hmem (Option.some.inj z)
      ·exact hz (Option.some.inj z)
    exact Option.isSome_iff_exists.mp (hcf _ hmem hkd)
  ·exact Nat.ne_of_lt (Nat.lt_of_lt_of_le (hfpD b hb) hCle)
  ·exact (ff b hb).2.2.2.2.1 x c (hcl x c e) z
  ·exact Nat.le_trans I.ok.bsz I.sz
  ·obtain ⟨_,_,_,hx,_⟩:=ff b hb
   rcases hx with hx|hx
   ·exact I.ok.noex b o e hx
   ·exact absurd (Nat.lt_of_lt_of_le (Heap.lt_size (I.ok.bs b o e).1) hx) (Nat.lt_irrefl _)
  ·obtain ⟨_,hl,hfs,_⟩:=ff b hb
   rcases List.mem_cons.mp (I.stkSub b hm) with e|hm
   ·exact hl e
   ·exact hfs hm
 have lenσ:(σ++List.replicate k none).length=N'.length:=by rw [List.length_append,List.length_replicate,I.len,S.len]
 have I0:Inv X' [(D,lobj [] 0)] (σ++List.replicate k none) H2 { s2 with heap:=h₁,toks:=s2.toks+([]:List (Str×Value)).length }:=by
  refine ⟨ok',rfl,I.bare,Un.kept old,⟨_,hns₁,fun i x v e1 e2 e3=>?_⟩,fun x c e=>?_,I.hok.fresh (by rw [hDe];exact hCle),fun x c e=>I.freeC x c (hcl x c e),fun p hp=>?_,I.hok.kept old,lenσ⟩
  ·have hi:i<σ.length:=by
    by_cases hi:i<σ.length
    ·exact hi
    ·rw [List.getElem?_append_right (Nat.not_lt.mp hi),List.getElem?_replicate] at e2
     split at e2<;>cases e2
   rw [List.getElem?_append_left hi] at e2
   have e':(relabel scope X.env).names.lookup x=(scope.names.lookup x).map fun k=>if (k==NameKind.free&&X.env.scope.kind==.function&&X.env.kindOf x==some .cell) then NameKind.cell else k:=us_ (env:=X.env) (names:=scope.names) (x:=x)
   have hsome:∃ kd,scope.names.lookup x=some kd∧(kd=.free∨kd=.local∨kd=.cell):=by
    have e3':(relabel scope X.env).names.lookup x=some .local∨(relabel scope X.env).names.lookup x=some .cell∨(relabel scope X.env).names.lookup x=some .free:=e3
    rw [e'] at e3'
    cases q:scope.names.lookup x with
    | none=>rw [q] at e3';rcases e3' with z|z|z<;>cases z
    | some kd =>
     refine ⟨kd,rfl,?_⟩
     rw [q] at e3'
     by_cases hz:kd=.free
     ·exact .inl hz
     ·have hb:(kd==NameKind.free)=false:=by simpa using hz
      simp only [hb,Bool.false_and,Bool.false_eq_true,if_false,Option.map_some,Option.some.injEq] at e3'
      rcases e3' with z|z|z
      ·exact .inr (.inl z)
      ·exact .inr (.inr z)
      ·exact .inl z
   obtain ⟨kd,hk1,hk2⟩:=hsome
   obtain ⟨hN,hfree⟩:=S.outer i x (by rw [←I.len];exact hi) e1 (by rw [hk1];rfl) (by rcases hk2 with z|z|z<;>subst z<;>simp [hk1])
   have hmem:=PySem.mem_of_lookup hfree
   have hko:=S.free _ hmem rfl
   have hkx:X.env.kindOf x=some .cell∨X.env.kindOf x=some .free:=hko
   obtain ⟨m,hn,hl⟩:=I.loc
   obtain ⟨u,r,lk⟩:=hl i x v hN e2 (by rcases hkx with z|z;exact .inr (.inl z);exact .inr (.inr z))
   refine ⟨u,r,.inr ⟨?_,?_⟩⟩
   ·show (relabel scope X.env).names.lookup x=some .cell∨(relabel scope X.env).names.lookup x=some .free
    rw [e',hfree,Option.map_some]
    split
    ·exact .inl rfl
    ·exact .inr rfl
   ·rcases lk with ⟨kl,_⟩|⟨_,c,ec,hcell⟩
    ·rcases hkx with z|z<;>(rw [z] at kl;cases kl)
    ·obtain ⟨c',ec'⟩:=Option.isSome_iff_exists.mp (hcf _ hmem rfl)
     have q:=hcl _ _ ec'
     rw [ec] at q
     cases q
     exact ⟨c,ec',hcell.keeps old⟩
  ·obtain ⟨v,z⟩:=I.cell x c (hcl x c e)
   exact ⟨v,z.keeps old⟩
  ·have hp':p∈([]:List (Addr×Obj))++[(D,lobj [] 0)]:=hp
   have ep:p=(D,lobj [] 0):=by simpa using hp'
   subst ep
   exact ⟨hacc,fpD.1,hDC,nofr D (Nat.le_refl _),fun v z=>nomatch z⟩
 have stat:∀ {H':Hp} {o:Obj},(∀ b∈fp,H' b=none)→∀ b∈fp,FpOk X' [(D,o)] H' b:=fun {H' o} hn b hb=>by
  refine ⟨hn b hb,Nat.ne_of_lt (Nat.lt_of_lt_of_le (hfpD b hb) hCle),ok'.exfs b hb,.inl hb,fun x c e z=>(ff b hb).2.2.2.2.1 x c (hcl x c e) z,fun p hp=>?_⟩
  have hp':p∈([]:List (Addr×Obj))++[(D,o)]:=hp
  have ep:p=(D,o):=by simpa using hp'
  subst ep
  exact Nat.ne_of_gt (hfpD b hb)
 have loop:∀ s₃:Shared,s₃={ s2 with heap:=h₁,toks:=s2.toks+([]:List (Str×Value)).length } →
   codeAny (model X.prog X.w) X.A (.compLoop (.ListComp elt [⟨tg,iter,ifs,0⟩] scope pos) 0 (.ref it) (.ref D) (compEnvC scope cl C X.env)) (RR (.ref D) C) s₃:=by
  rintro s₃ rfl
  refine yj_ (fun n s'=>∃ i vs ys kk σ' H',Inv X' [(D,lobj ys kk)] σ' H' s'∧tn i s'.heap∧(∀ b∈fp,H' b=none)∧Vals vs ys∧W i n vs σ' H') ?_ m0
   ⟨0,[],[],0,_,H2,I0,T.keep _ _ _ st fun b _ o e=>old b o e,fun b hb=>(ff b hb).1,.nil,w0⟩
  rintro n s3 ⟨i,vs,ys,kk,σ3,H3,I3,st3,fr3,rv,w3⟩
  obtain ⟨hvl,hcase⟩:=turn i n vs σ3 H3 w3
  have pinD:∀ {o:Obj} {σ' H' s'},Inv X' [(D,o)] σ' H' s'→s'.heap.get? D=some o∧H' D=none:=fun J=>⟨(J.pin _ (List.mem_append_right _ List.mem_cons_self)).1,(J.pin _ (List.mem_append_right _ List.mem_cons_self)).2.1⟩
  rcases hcase with ⟨stop,qn⟩|⟨go,step⟩
  ·refine thn (T.done X' rfl rfl rfl hc i _ s3 σ3 H3 (fun _ _=>False) I3 (stat fr3) st3 stop) fun r s4 ⟨hr,I4⟩=>?_
   subst hr
   obtain ⟨gD,nD⟩:=pinD I4
   obtain ⟨m',hm',_⟩:=I4.loc
   have hC4:H3 C=none:=I4.free
   have u0:Un (frs X.stack) fp H2 H3 s2.heap s4.heap:=I4.base
   have neD:∀ b o,s2.heap.get? b=some o→b≠D:=fun b o e=>by rw [←hDe];exact Nat.ne_of_lt (Heap.lt_size e)
   have u1:Un (frs X.stack) fp H2 (upd H3 D (.lst vs)) s2.heap s4.heap :=
    ⟨u0.keep,u0.slot,fun b o e n hx=>by rw [zp_ (neD b o e)];exact u0.free b o e n hx,u0.there,
     fun b xs e=>by have q:=u0.tups b xs e;rw [zp_ (zq_ q nD)];exact q,
     fun b o u e=>by have q:=u0.frzs b o u e;rw [zp_ (zq_ q nD)];exact q,
     fun b ps e=>by obtain ⟨more,q⟩:=u0.tbls b ps e;exact ⟨more,by rw [zp_ (zq_ q nD)];exact q⟩⟩
   have I5:Inv X pins σ (upd H3 D (.lst vs)) s4:=I.call' I4.os u1 (I4.hok.track nD hvl rv gD) I4.bare fun b hb=>⟨(ff b hb).2.2.2.1,(ff b hb).2.1,(ff b hb).2.2.2.2.1,(ff b hb).2.2.2.2.2⟩
   exact hRR D C s4 _ I5 ⟨m',hm'⟩ (fpC _ (by rw [zp_ (Ne.symm hDC)];exact hC4)) (qn D nD)
  ·refine thn (T.item X' rfl rfl rfl hc i _ s3 σ3 H3 (fun _ _=>False) I3 (stat fr3) st3 go) fun r s4 ⟨u,hr,h4⟩=>?_
   subst hr
   refine thn h4 fun _ s5 ⟨x,H5,I5,r5,y5,st5,fr5⟩=>?_
   have I5':=I5.pinned (stat fr5) (T.obj _ _ st5)
   refine thn (hg C _ s5 σ3 H5 x u _ I5' r5 (step x H5 y5)) fun _ s6 ⟨σ6,H6,I6,q6⟩=>?_
   refine thn (ht C _ s6 σ6 H6 _ I6 q6) fun ok s7 ⟨H7,I7,q7⟩=>?_
   have unpin:∀ {σ' H' s'},Inv X' ([(D,lobj ys kk)]++Uv_ fp s5.heap) σ' H' s'→Inv X' [(D,lobj ys kk)] σ' H' s'∧tn (i+1) s'.heap∧∀ b∈fp,H' b=none:=fun {σ' H' s'} J =>
    ⟨J.unpinned,T.keep _ _ _ st5 fun b hb o e=>(J.pin (b,o) (List.mem_append_right _ (List.mem_append_right _ (yh_ hb e)))).1,fun b hb=>by
     obtain ⟨o,e,d⟩:=T.obj _ _ st5 b hb
     exact (J.pin (b,o) (List.mem_append_right _ (List.mem_append_right _ (yh_ hb e)))).2.1⟩
   cases ok with
   | false =>
    rw [if_neg Bool.false_ne_true]
    rw [if_neg Bool.false_ne_true] at q7
    obtain ⟨m',hm',w7⟩:=q7
    obtain ⟨J1,J2,J3⟩:=unpin I7
    exact ⟨m',hm',i+1,vs,ys,kk,σ6,H7,J1,J2,J3,rv,w7⟩
   | true =>
    rw [if_pos rfl]
    rw [if_pos rfl] at q7
    refine thn (he C _ s7 σ6 H7 _ I7 q7) fun uy s8 ⟨y,H8,I8,r8,m',hm',w8⟩=>?_
    obtain ⟨J1,J2,J3⟩:=unpin I8
    obtain ⟨gD,nD⟩:=pinD J1
    refine append_at (hsz:=by show ys.toArray.size≤sizeLine;rw [List.size_toArray,←rv.length];exact hvl) gD fun h9 hs9 hD9=>?_
    have J1':Inv X' [] σ6 H8 s8:=J1.pins_of fun p hp=>nomatch hp
    have J9:Inv X' [] σ6 H8 { s8 with heap:=h9 }:=J1'.turned (t':=s8.toks) (it:=D) (fun b o hb e=>hs9.extBut b o hb e) nD hDC (.inr (by show s2.heap.objs.size≤D;rw [hDe];exact Nat.le_refl _)) (fun x c e=>Nat.ne_of_lt (cellLt x c e)) fun p hp=>nomatch hp
    have eo:({ cls:=.type "list",data:=.seq (ys.toArray.push uy) (kk+1) }:Obj)=lobj (ys++[uy]) (kk+1):=by
     unfold lobj
     rw [List.push_toArray]
    refine ⟨m',hm',i+1,vs++[y],ys++[uy],kk+1,σ6,H8,J9.pins_of fun p hp=>?_,T.keep _ _ _ J2 fun b hb o e=>hs9.extBut b o (Nat.ne_of_lt (hfpD b hb)) e,J3,rv.append (.cons r8 .nil),w8⟩
    have ep:p=(D,lobj (ys++[uy]) (kk+1)):=by simpa using hp
    subst ep
    exact ⟨by show h9.get? D=_;rw [hD9,eo],nD,hDC,nofr D (Nat.le_refl _),fun v z=>nomatch z⟩
 exact codeAny_compStart_list (loop _ rfl) (T.self _ 0 _ _ _ (T.keep _ _ _ st fun b _ o e=>old b o e) (loop _ rfl))
end
section
variable {X:Cx}
theorem VH_ {elt tg iter:Expr} {ifs:List Expr} {scope:Scope} {pos:Pos} {N':List Str} {k:Nat} {wi:TI} {g:TG} {tc:TT} {te:TE}
  (hc:X.calm=true) (S:CompOk X N' k scope) (hcells:∀ x∈scope.names,x.2=.free→∃ c,X.env.cells.lookup x.1=some c) (hi:PI X tg iter wi)
  (hg:∀ cl s H fp C,PG (zF_ X N' scope cl s H fp C) tg g) (ht:∀ cl s H fp C,PTs (zF_ X N' scope cl s H fp C) ifs tc) (he:∀ cl s H fp C,PE (zF_ X N' scope cl s H fp C) elt te)
  (hs:∀ x,foldedSetIterable iter X.env x=pure x:=by intro _;rfl) :
  PE X (.ListComp elt [⟨tg,iter,ifs,0⟩] scope pos) (WS_ wi k g tc te):=by
 intro pins s σ H Q I h
 obtain ⟨cl,hclos,h1,h2⟩:=JB_ (env:=X.env) (scope:=scope) hcells
 rw [eval_ListComp]
 refine wpAny_comprehension_free (use:=none) rfl hs hclos S.kind S.names (thn (hi pins s σ H _ I h) fun xv s1 h1'=>thn h1' fun itv s2 h2'=>?_)
 obtain ⟨it,fp,tn,J,H2,e,I2,T,st2,f2,rd⟩:=h2'
 subst e
 refine UZ_ hc S h1 h2 I2 T st2 f2 (fun C=>hg _ _ _ _ C) (fun C=>ht _ _ _ _ C) (fun C=>he _ _ _ _ C) rd fun D C s' H' I' ⟨m,hm⟩ fC q=>?_
 refine ⟨m,hm,fun h' hs'=>⟨.ref D,H',?_,rfl,q⟩⟩
 exact I'.turned (t':=s'.toks) (it:=C) (fun b o hb e=>hs'.extBut b o hb e) fC.1 fC.2.1 fC.2.2.2.1 fC.2.2.2.2.1 fC.2.2.2.2.2
theorem yN_ {elt tg iter:Expr} {ifs:List Expr} {scope:Scope} {pos pos' spos:Pos} {N':List Str} {k i:Nat} {y:Str} {wi:TI} {g:TG} {tc:TT} {te:TE}
  (hN:X.N.Nodup) (hy:X.N[i]? = some y) (hly:Loc X.env.scope y) (hfn:X.fn y=true∨X.env.scope.names.lookup y=some .local)
  (hc:X.calm=true) (S:CompOk X N' k scope) (hcells:∀ x∈scope.names,x.2=.free→∃ c,X.env.cells.lookup x.1=some c) (hi:PI X tg iter wi)
  (hg:∀ cl s H fp C,PG (zF_ X N' scope cl s H fp C) tg g) (ht:∀ cl s H fp C,PTs (zF_ X N' scope cl s H fp C) ifs tc) (he:∀ cl s H fp C,PE (zF_ X N' scope cl s H fp C) elt te)
  (hsw:swapsWith (.ListComp elt [⟨tg,iter,ifs,0⟩] scope pos) (some (.Name y pos')) spos.line X.env=pure true)
  (hs:∀ x,foldedSetIterable iter X.env x=pure x:=by intro _;rfl) :
  PS X (.Assign [.Name y pos'] (.ListComp elt [⟨tg,iter,ifs,0⟩] scope pos) spos) (tAsg (WS_ wi k g tc te) (Wi_ i)):=by
 intro pins s σ H D₀ I h
 obtain ⟨cl,hclos,h1,h2⟩:=JB_ (env:=X.env) (scope:=scope) hcells
 rw [exec_Assign_Name_used _ _ _ _ hsw]
 refine wpAny_bind (wpAny_standAt (wpAny_bind ?_))
 show wpAny _ X.A (do let _ ←comprehension (.ListComp elt [⟨tg,iter,ifs,0⟩] scope pos) scope X.env _ (newList []) false (eval iter X.env) (some (assign (.Name y pos') X.env))) _ _ s
 refine wpAny_bind (wpAny_mono (wpAny_comprehension_free (use:=some (assign (.Name y pos') X.env)) (Q:=fun _ s'=>SP X pins D₀ .next s') rfl hs hclos S.kind S.names
  (thn (hi pins s σ H _ I h) fun xv s1 h1'=>thn h1' fun itv s2 h2'=>?_)) (fun _ s' hq=>wpAny_pure (wpAny_pure hq)) fun _ _ e=>e)
 obtain ⟨it,fp,tn,J,H2,e,I2,T,st2,f2,rd⟩:=h2'
 subst e
 refine UZ_ (Q:=fun x H1=>Wi_ i x σ H1 D₀.nx) hc S h1 h2 I2 T st2 f2 (fun C=>hg _ _ _ _ C) (fun C=>ht _ _ _ _ C) (fun C=>he _ _ _ _ C) rd fun D C s' H' I' ⟨m,hm⟩ fC q=>?_
 show wpAny _ X.A (assign (.Name y pos') X.env (.ref D)) _ _ _
 refine wpAny_assign_Name (Un_ I' hN hy hly (show RelV (.ref D) (.ref D) from rfl) (fun s'' I'' ⟨a,hsb,ha⟩=>?_) hfn)
 have hCa:C≠a:=by
  rcases ha with rfl|ha
  ·exact fC.2.1
  ·exact fun z=>fC.2.2.2.2.1 y a ha z.symm
 refine ⟨m,hm.sameBut hsb hCa,fun h' hs'=>⟨_,H',?_,q⟩⟩
 exact I''.turned (t':=s''.toks) (it:=C) (fun b o hb e=>hs'.extBut b o hb e) fC.1 fC.2.1 fC.2.2.2.1 fC.2.2.2.2.1 fC.2.2.2.2.2
end
end L2
set_option Elab.async false
set_option linter.all false
set_option maxRecDepth 100000
namespace L2
open PySem PySem.Spec PyProof.Rows
section
variable {κ:Type} [DecidableEq κ]
noncomputable def valV (kvs:List (κ×V)) (k:κ):Option V:=(kvs.find? fun kv=>decide (kv.1=k)).map (·.2)
noncomputable def putK (kvs:List (κ×V)) (k:κ) (v:V):List (κ×V) :=
 if (kvs.any fun kv=>decide (kv.1=k))=true then kvs.map (fun kv=>if kv.1=k then (kv.1,v) else kv) else kvs++[(k,v)]
theorem JE_ {p:κ×V} {r:List (κ×V)} {k:κ} (e:p.1=k):valV (p::r) k=some p.2:=by simp [valV,List.find?_cons,e]
theorem JF_ {p:κ×V} {r:List (κ×V)} {k:κ} (e:¬ p.1=k):valV (p::r) k=valV r k:=by simp [valV,List.find?_cons,e]
theorem YX_ (k:κ):∀ kvs:List (κ×V),(kvs.any fun kv=>decide (kv.1=k))=(valV kvs k).isSome
 | []=>rfl
 | p::r=>by
  rw [List.any_cons]
  by_cases e:p.1=k
  ·simp only [JE_ e,decide_eq_true e,Bool.true_or,Option.isSome_some]
  ·rw [JF_ e,decide_eq_false e,Bool.false_or];exact YX_ k r
theorem ZH_ (kvs:List (κ×V)) (k:κ) (v:V):(putK kvs k v).length≤kvs.length+1:=by
 unfold putK
 split
 ·rw [List.length_map];lia
 ·rw [List.length_append,List.length_cons,List.length_nil];lia
theorem RelO.isSome_eq {o:Option V} {u:Option Value} (r:RelO o u):o.isSome=u.isSome:=by
 cases o with
 | none=>cases u with
  | none=>rfl
  | some _=>exact (show False from r).elim
 | some _=>cases u with
  | none=>exact (show False from r).elim
  | some _=>rfl
theorem RelO.getD {o:Option V} {u:Option Value} {d:V} {d':Value} (r:RelO o u) (rd:RelV d d'):RelV (o.getD d) (u.getD d'):=by
 cases o with
 | none=>cases u with
  | none=>exact rd
  | some _=>exact (show False from r).elim
 | some _=>cases u with
  | none=>exact (show False from r).elim
  | some _=>exact r
theorem KV.val {kvs:List (κ×V)} {vs:List (κ×Value)} (r:KV kvs vs) (k:κ):RelO (valV kvs k) (valueAt vs k):=by
 unfold KV at r
 induction r with
 | nil=>exact True.intro
 | @cons p q ps qs h t ih =>
  obtain ⟨h1,h2⟩:=h
  by_cases e:p.1=k
  ·have e':q.1=k:=h1.symm.trans e
   have b:valueAt (q::qs) k=some q.2:=by simp [valueAt,List.find?_cons,e']
   rw [JE_ e,b];exact h2
  ·have e':¬ q.1=k:=fun z=>e (h1.trans z)
   have b:valueAt (q::qs) k=valueAt qs k:=by simp [valueAt,List.find?_cons,e']
   rw [JF_ e,b];exact ih
theorem KV.any {kvs:List (κ×V)} {vs:List (κ×Value)} (r:KV kvs vs) (k:κ):(kvs.any fun kv=>decide (kv.1=k))=vs.any fun kv=>decide (kv.1=k):=by
 unfold KV at r
 induction r with
 | nil=>rfl
 | cons h t ih=>rw [List.any_cons,List.any_cons,ih,h.1]
theorem KV.repl {kvs:List (κ×V)} {vs:List (κ×Value)} (r:KV kvs vs) (k:κ) {y:V} {u:Value} (ry:RelV y u) :
  KV (kvs.map fun kv=>if kv.1=k then (kv.1,y) else kv) (vs.map fun kv=>if kv.1=k then (kv.1,u) else kv):=by
 unfold KV at r ⊢
 induction r with
 | nil=>exact .nil
 | @cons p q ps qs h t ih =>
  rw [List.map_cons,List.map_cons]
  refine .cons ?_ ih
  obtain ⟨h1,h2⟩:=h
  by_cases e:p.1=k
  ·rw [if_pos e,if_pos (h1.symm.trans e)];exact ⟨h1,ry⟩
  ·rw [if_neg e,if_neg (fun z=>e (h1.trans z))];exact ⟨h1,h2⟩
theorem KV.put {kvs:List (κ×V)} {vs:List (κ×Value)} (r:KV kvs vs) (k:κ) {y:V} {u:Value} (ry:RelV y u):KV (putK kvs k y) (stored vs k u):=by
 unfold putK stored
 rw [r.any k]
 by_cases e:(vs.any fun kv=>decide (kv.1=k))=true
 ·rw [if_pos e,if_pos e];exact r.repl k ry
 ·rw [if_neg e,if_neg e];exact Paired.snoc r ⟨rfl,ry⟩
theorem KV.length {kvs:List (κ×V)} {vs:List (κ×Value)} (r:KV kvs vs):kvs.length=vs.length:=Paired.length r
end
theorem YC_ {P:Program} {w:World} {k:Key} {u:Value} (r:RelV (kV k) u):(z2_ P w).is k u=true:=by
 cases k with
 | inl i=>obtain ⟨t,e⟩:=(show ∃ t,u=Value.int i t from r);subst e;exact Yw_ P w i t
 | inr x=>obtain ⟨t,e⟩:=(show ∃ t,u=Value.str x t from r);subst e;exact Yv_ P w x t
theorem UP_ {P:Program} {w:World}:∀ {ks:List Key} {us:List Value},Vals (ks.map kV) us→ItemsAre (z2_ P w) ks us
 | [],_,r=>by rw [List.map_nil] at r;cases r;exact .nil
 | k::ks,_,r=>by
  rw [List.map_cons] at r
  cases r with
  | cons h t=>exact .cons (YC_ h) (UP_ t)
noncomputable abbrev KT (H:Hp):List (List Key×V)→List (List Key×Addr×Value)→Prop:=Paired fun p q=>p.1=q.1∧H q.2.1=some (.tup (p.1.map kV))∧RelV p.2 q.2.2
theorem KT.val {H:Hp} {kvs:List (List Key×V)} {xs:List (List Key×Addr×Value)} (r:KT H kvs xs) (k:List Key):RelO (valV kvs k) ((atKey xs k).map (·.2)):=by
 induction r with
 | nil=>exact True.intro
 | @cons p q ps qs h t ih =>
  obtain ⟨h1,_,h2⟩:=h
  by_cases e:p.1=k
  ·have e':q.1=k:=h1.symm.trans e
   have b:atKey (q::qs) k=some q.2:=by simp [atKey,List.find?_cons,e']
   rw [JE_ e,b];exact h2
  ·have e':¬ q.1=k:=fun z=>e (h1.trans z)
   have b:atKey (q::qs) k=atKey qs k:=by simp [atKey,List.find?_cons,e']
   rw [JF_ e,b];exact ih
theorem KT.repl {H:Hp} {kvs:List (List Key×V)} {xs:List (List Key×Addr×Value)} (r:KT H kvs xs) (k:List Key) {y:V} {u:Value} (ry:RelV y u) :
  KT H (kvs.map fun kv=>if kv.1=k then (kv.1,y) else kv) (xs.map (putAt k u)):=by
 induction r with
 | nil=>exact .nil
 | @cons p q ps qs h t ih =>
  rw [List.map_cons,List.map_cons]
  refine .cons ?_ ih
  obtain ⟨h1,h2,h3⟩:=h
  unfold putAt
  by_cases e:p.1=k
  ·rw [if_pos e,if_pos (h1.symm.trans e)];exact ⟨h1,h2,ry⟩
  ·rw [if_neg e,if_neg (fun z=>e (h1.trans z))];exact ⟨h1,h2,h3⟩
theorem KT.put {H:Hp} {kvs:List (List Key×V)} {xs:List (List Key×Addr×Value)} (r:KT H kvs xs) (k:List Key) {b:Addr} {y:V} {u:Value} (hb:H b=some (.tup (k.map kV))) (ry:RelV y u) :
  KT H (putK kvs k y) (storedH xs k b u):=by
 have e:(kvs.any fun kv=>decide (kv.1=k))=(atKey xs k).isSome:=by
  rw [YX_,(r.val k).isSome_eq,Option.isSome_map]
 unfold putK storedH
 rw [e]
 by_cases q:(atKey xs k).isSome=true
 ·rw [if_pos q,if_pos q];exact r.repl k ry
 ·rw [if_neg q,if_neg q];exact Paired.snoc r ⟨rfl,hb,ry⟩
theorem KT.keeps {H H':Hp} {kvs:List (List Key×V)} {xs:List (List Key×Addr×Value)} (r:KT H kvs xs) (ht:∀ b ys,H b=some (.tup ys)→H' b=some (.tup ys)):KT H' kvs xs :=
 Paired.mapP r fun _ _ z=>⟨z.1,ht _ _ z.2.1,z.2.2⟩
section
variable {P:Program} {w:World} {H:Hp} {h:Heap} {a:Addr}
theorem zbD_ {u:HO} (ok:HOk P w H h) (e:Rd H a u):ObjOk P w H h a u:=e.ok ok
theorem QY_ {kvs:List (Key×V)} (ok:HOk P w H h) (e:Rd H a (.dK kvs)):kvs.length≤sizeLine∧(a==sysModules)=false∧∃ vs,KV kvs vs∧h.DictOf (z2_ P w) a vs :=
 show ObjOk P w H h a (.dK kvs) from zbD_ ok e
theorem zcP_ {kvs:List (Key×V)} (ok:HOk P w H h) (e:H a=some (.dK kvs)):kvs.length≤sizeLine∧(a==sysModules)=false∧∃ vs,KV kvs vs∧h.DictOf (z2_ P w) a vs:=QY_ ok (.inl e)
theorem ZI_ {ks:List Key} (ok:HOk P w H h) (e:H a=some (.tup (ks.map kV))):(tupleKind (z2_ P w)).is h ks a:=by
 obtain ⟨_,its,r,⟨o,h1,h2,n,h3⟩,_⟩:=(show ObjOk P w H h a (.tup (ks.map kV)) from ok a _ e)
 exact ⟨o,its.toArray,n,h1,h2,h3,by simpa using UP_ r⟩
theorem QX_ {kvs:List (List Key×V)} (ok:HOk P w H h) (e:Rd H a (.dT kvs)):kvs.length≤sizeLine∧(a==sysModules)=false ∧
  ∃ xs,KT H kvs xs∧h.DictOfH (tupleKind (z2_ P w)) a xs:=by
 obtain ⟨z,y,xs,r,o,es,ep,h1,h2,h3,h4,h5⟩:=(show ObjOk P w H h a (.dT kvs) from zbD_ ok e)
 refine ⟨z,y,xs,r,o,es,ep,h1,h2,h3,h4,fun x hx=>?_,h5⟩
 have all:∀ {l:List (List Key×V)} {m:List (List Key×Addr×Value)},KT H l m→∀ x∈m,(tupleKind (z2_ P w)).is h x.1 x.2.1:=by
  intro l m q
  induction q with
  | nil=>intro x hx;exact nomatch hx
  | @cons p q ps qs hq t ih =>
   intro x hx
   rcases List.mem_cons.mp hx with e|hx
   ·subst e
    exact ZI_ ok (by rw [←hq.1];exact hq.2.1)
   ·exact ih x hx
 exact all r x hx
theorem zcO_ {kvs:List (List Key×V)} (ok:HOk P w H h) (e:H a=some (.dT kvs)):kvs.length≤sizeLine∧(a==sysModules)=false ∧
  ∃ xs,KT H kvs xs∧h.DictOfH (tupleKind (z2_ P w)) a xs:=QX_ ok (.inl e)
end
noncomputable def DGet (H:Hp) (a:Addr) (y:V) (r:Option V):Prop :=
 (∃ kvs k,Rd H a (.dK kvs)∧y=kV k∧r=valV kvs k)∨∃ kvs k b,Rd H a (.dT kvs)∧y=.ref b∧H b=some (.tup (k.map kV))∧r=valV kvs k
noncomputable def DPut (H:Hp) (a:Addr) (y v:V) (H':Hp):Prop :=
 (∃ kvs k,H a=some (.dK kvs)∧y=kV k∧kvs.length<sizeLine∧H'=upd H a (.dK (putK kvs k v))) ∨
 ∃ kvs k b,H a=some (.dT kvs)∧y=.ref b∧H b=some (.tup (k.map kV))∧kvs.length<sizeLine∧H'=upd H a (.dT (putK kvs k v))
theorem DGet.k {H:Hp} {a:Addr} {kvs:List (Key×V)} {k:Key} (e:H a=some (.dK kvs)):DGet H a (kV k) (valV kvs k):=.inl ⟨kvs,k,.inl e,rfl,rfl⟩
theorem DGet.t {H:Hp} {a b:Addr} {kvs:List (List Key×V)} {k:List Key} (e:H a=some (.dT kvs)) (eb:H b=some (.tup (k.map kV))):DGet H a (.ref b) (valV kvs k):=.inr ⟨kvs,k,b,.inl e,rfl,eb,rfl⟩
theorem DPut.k {H:Hp} {a:Addr} {kvs:List (Key×V)} {k:Key} {v:V} (e:H a=some (.dK kvs)) (hl:kvs.length<sizeLine):DPut H a (kV k) v (upd H a (.dK (putK kvs k v))):=.inl ⟨kvs,k,e,rfl,hl,rfl⟩
theorem DPut.t {H:Hp} {a b:Addr} {kvs:List (List Key×V)} {k:List Key} {v:V} (e:H a=some (.dT kvs)) (eb:H b=some (.tup (k.map kV))) (hl:kvs.length<sizeLine) :
  DPut H a (.ref b) v (upd H a (.dT (putK kvs k v))):=.inr ⟨kvs,k,b,e,rfl,eb,hl,rfl⟩
section
variable {X:Cx} {pins:List (Addr×Obj)} {σ:St} {H:Hp} {s:Shared} {a:Addr} {y v:V} {u r:Value} {o:Option V} {A:Around} {E:Value→Shared→Prop}
theorem Inv.big (I:Inv X pins σ H s):sysModules<s.heap.objs.size:=by
 have h:mainGlobals<s.heap.objs.size:=(I.mod.glob.keeps I.bk).lt
 exact Nat.lt_trans (by decide) h
theorem Wq_ {Q:Value→Shared→Prop} (hu:A.units+1<cLine) (I:Inv X pins σ H s) (g:DGet H a y (some v)) (ry:RelV y u) (h:∀ w' s',Inv X pins σ H s'→RelV v w'→Q w' s') :
  wpAny (model X.prog X.w) A (getItem (.ref a) u) Q E s:=by
 rcases g with ⟨kvs,k,e,ey,l⟩|⟨kvs,k,b,e,ey,eb,l⟩
 ·subst ey
  obtain ⟨z,hd,vs,rel,dd⟩:=QY_ I.hok e
  obtain ⟨w',hw,rw'⟩:=RelO.some_of (v:=v) (o:=valueAt vs k) (by rw [l];exact rel.val k)
  exact wpAny_getItem_of (YC_ ry) dd.mapOf hw (h w' _ (I.tok _) rw')
 ·subst ey
  cases (show u=Value.ref b from ry)
  obtain ⟨z,hd,xs,rel,dd⟩:=QX_ I.hok e
  obtain ⟨w',hw,rw'⟩:=RelO.some_of (v:=v) (o:=(atKey xs k).map (·.2)) (by rw [l];exact rel.val k)
  obtain ⟨p,hp,hp2⟩:=Option.map_eq_some_iff.mp hw
  refine wpAny_getItem_heap (tupleKind_room_in1 hu) (ZI_ I.hok eb) dd hp ?_
  rw [hp2]
  exact h w' _ (I.tok _) rw'
theorem d_in {Q:Value→Shared→Prop} (hu:A.units+1<cLine) (I:Inv X pins σ H s) (g:DGet H a y o) (ry:RelV y u) (h:∀ s',Inv X pins σ H s'→Q (.bool o.isSome) s') :
  wpAny (model X.prog X.w) A (compareOp .In u (.ref a)) Q E s:=by
 rcases g with ⟨kvs,k,e,ey,l⟩|⟨kvs,k,b,e,ey,eb,l⟩
 ·subst ey
  obtain ⟨z,hd,vs,rel,dd⟩:=QY_ I.hok e
  refine wpAny_in_of (YC_ ry) hd dd.mapOf ?_
  rw [←(rel.val k).isSome_eq,←l]
  exact h _ (I.tok _)
 ·subst ey
  cases (show u=Value.ref b from ry)
  obtain ⟨z,hd,xs,rel,dd⟩:=QX_ I.hok e
  refine wpAny_in_heap (tupleKind_room_in1 hu) (ZI_ I.hok eb) hd dd ?_
  have q:=(rel.val k).isSome_eq
  rw [Option.isSome_map] at q
  rw [←q,←l]
  exact h _ (I.tok _)
theorem Wo_ {h':Heap} {t':Nat} {ob:HO} (I:Inv X pins σ H s) (mu:Mut (H a)) (hs:Heap.SameBut a s.heap h') (he:∃ q,h'.get? a=some q) (new:ObjOk X.prog X.w (upd H a ob) h' a ob) :
  Inv X pins σ (upd H a ob) { s with heap:=h',toks:=t' } :=
 I.write (x:=a) (e:=a) mu (.inl rfl) (fun b q hb z=>(hs.2 b hb).trans z) he new
theorem zcQ_ {P:Program} {w:World} {H':Hp} {h':Heap} {kvs:List (Key×V)} {vs:List (Key×Value)} (z:kvs.length≤sizeLine) (hd:(a==sysModules)=false) (rel:KV kvs vs) (dd:h'.DictOf (z2_ P w) a vs) :
  ObjOk P w H' h' a (.dK kvs):=⟨z,hd,vs,rel,dd⟩
theorem Wp_ {H':Hp} {Q:Unit→Shared→Prop} (hu:A.units+1<cLine) (I:Inv X pins σ H s) (g:DPut H a y v H') (ry:RelV y u) (rv:RelV v r) (h:∀ s',Inv X pins σ H' s'→Q () s') :
  wpAny (model X.prog X.w) A (setItem (.ref a) u r) Q E s:=by
 rcases g with ⟨kvs,k,e,ey,l,eH⟩|⟨kvs,k,b,e,ey,eb,l,eH⟩
 ·subst ey eH
  obtain ⟨z,hd,vs,rel,dd⟩:=zcP_ I.hok e
  have hz:vs.length≤sizeLine:=by rw [←rel.length];exact z
  have hl:(putK kvs k v).length≤sizeLine:=by have:=ZH_ kvs k v;lia
  refine wpAny_setItem_pairs (hsz:=hz) (YC_ ry) dd fun h' dd' hs=>h _ ?_
  have he:∃ q,h'.get? a=some q:=let ⟨q,_,_,hq,_⟩:=dd';⟨q,hq⟩
  exact Wo_ I (by rw [e];exact True.intro) hs he (zcQ_ hl hd (rel.put k rv) dd')
 ·subst ey eH
  cases (show u=Value.ref b from ry)
  obtain ⟨z,hd,xs,rel,dd⟩:=zcO_ I.hok e
  have hz:xs.length≤sizeLine:=by rw [←Paired.length rel];exact z
  have hl:(putK kvs k v).length≤sizeLine:=by have:=ZH_ kvs k v;lia
  refine wpAny_setItem_heap (hsz:=hz) (tupleKind_room_in1 hu) (ZI_ I.hok eb) dd fun h' dd' hs=>h _ ?_
  obtain ⟨q,es,ep,hq,h2,h3,h4,_,h5⟩:=dd'
  refine Wo_ I (by rw [e];exact True.intro) hs ⟨q,hq⟩ ⟨hl,hd,_,(rel.put k eb rv).keeps fun c ys ec=>?_,q,es,ep,hq,h2,h3,h4,h5⟩
  rw [zp_ (zdH_ ec e (fun z=>nomatch z))]
  exact ec
end
theorem YL_ {X:Cx} {pins:List (Addr×Obj)} {σ:St} {H:Hp} {s:Shared} {a:Addr} {y:V} {o:Option V} (I:Inv X pins σ H s) (g:DGet H a y o):s.TypeIs (.ref a) "dict":=by
 rcases g with ⟨kvs,k,e,_,_⟩|⟨kvs,k,b,e,_,_,_⟩
 ·obtain ⟨_,_,vs,_,dd⟩:=QY_ I.hok e
  exact dd.typeIs
 ·obtain ⟨_,_,xs,_,dd⟩:=QX_ I.hok e
  exact dd.typeIs
noncomputable def zdq_ (td ty tv:TE):TS:=fun D σ H=>tv σ H fun v H1=>td σ H1 fun x H2=>ty σ H2 fun y H3=>∃ a H4,x=.ref a∧DPut H3 a y v H4∧D.nx σ H4
section
variable {X:Cx} {o i e value:Expr} {pos pos' tpos:Pos} {td ty tv:TE}
theorem zal_ (hu:X.A.units+1<cLine) (ho:PE X o td) (hi:PE X i ty) (hv:PE X value tv) (hs:swapsWith value (some (.Subscript o i pos')) pos.line X.env=pure false) :
  PS X (.Assign [.Subscript o i pos'] value pos) (zdq_ td ty tv):=by
 intro pins s σ H D I h
 refine wpAny_Assign_Subscript (thn (hv pins s σ H _ I h) fun r s1 ⟨v,H1,I1,rv,q1⟩=>thn (ho pins s1 σ H1 _ I1 q1) fun u s2 ⟨x,H2,I2,rx,q2⟩=>thn (hi pins s2 σ H2 _ I2 q2) fun iv s3 ⟨y,H3,I3,ry,a,H4,ex,g,q3⟩=>?_) hs
 subst ex
 obtain rfl:u=Value.ref a:=rx
 exact Wp_ hu I3 g ry rv fun s4 I4=>⟨σ,H4,I4,q3⟩
end
theorem Xr_ {P:Program} {w:World} {H:Hp} (h:Heap) (hb:sysModules<h.objs.size):ObjOk P w H (h.push { cls:=.type "dict",data:=.dict #[] }) h.objs.size (.dK []) :=
 ⟨Nat.zero_le _,beq_eq_false_iff_ne.mpr (Ne.symm (Nat.ne_of_lt hb)),[],.nil,Heap.DictOf.new h⟩
theorem Xq_ {P:Program} {w:World} {H:Hp} (h:Heap) (hb:sysModules<h.objs.size):ObjOk P w H (h.push { cls:=.type "dict",data:=.dict #[] }) h.objs.size (.dT []) :=
 ⟨Nat.zero_le _,beq_eq_false_iff_ne.mpr (Ne.symm (Nat.ne_of_lt hb)),[],.nil,_,#[],0,Heap.get?_push_size _ rfl,⟨rfl,rfl,rfl⟩,rfl,rfl,List.nodup_nil⟩
noncomputable def zbo_:TE:=fun _ H Q=>∀ p,H p=none→Q (.ref p) (upd H p (.dK []))
noncomputable def zbn_:TE:=fun _ H Q=>∀ p,H p=none→Q (.ref p) (upd H p (.dT []))
section
variable {X:Cx} {pos:Pos}
theorem W5_:PE X (.Dict [] [] pos) zbo_:=fun pins s σ H Q I h =>
 wpAny_Dict_empty ⟨.ref s.heap.objs.size,_,I.laid (a:=s.heap.objs.size) (o:=.dK []) (t':=s.toks) (fun _ _ q=>Heap.get?_push_of_some _ q) (Nat.le_refl _) (Xr_ s.heap I.big),rfl,h _ (I.hok.fresh (Nat.le_refl _))⟩
theorem W4_:PE X (.Dict [] [] pos) zbn_:=fun pins s σ H Q I h =>
 wpAny_Dict_empty ⟨.ref s.heap.objs.size,_,I.laid (a:=s.heap.objs.size) (o:=.dT []) (t':=s.toks) (fun _ _ q=>Heap.get?_push_of_some _ q) (Nat.le_refl _) (Xq_ s.heap I.big),rfl,h _ (I.hok.fresh (Nat.le_refl _))⟩
end
structure M2 (X:Cx) (o:Expr) (m:Str) (apos:Pos) (e f:Expr) (cpos:Pos):Prop where
 base:attributeBase o m X.env (eval o X.env)=eval o X.env
 few:((backTo cpos (starEach [e,f] X.env)).all (fun x=>!x.1)&&(backToKw cpos (keywordEach [] X.env)).all (fun x=>x.1.isSome)
  && decide (([e,f]:List Expr).length+([]:List Keyword).length+(if ([]:List Keyword).isEmpty then 0 else 1)<30))=true
 line:(apos.endLine==cpos.line)=true
 trees:backTo cpos (starEach [e,f] X.env)=[(false,eval e X.env),(false,eval f X.env)]
noncomputable def IsD (H:Hp) (a:Addr):Prop:=(∃ kvs,Rd H a (.dK kvs))∨∃ kvs,Rd H a (.dT kvs)
theorem zcI_ {X:Cx} {pins:List (Addr×Obj)} {σ:St} {H:Hp} {s:Shared} {a:Addr} (I:Inv X pins σ H s) (d:IsD H a) :
  s.TypeIs (.ref a) "dict" ∧ (∀ b,Value.ref a=.ref b→∃ ob,s.heap.get? b=some ob∧ob.dict=none)∧(a==sysModules)=false:=by
 rcases d with ⟨kvs,e⟩|⟨kvs,e⟩
 ·obtain ⟨_,hd,vs,_,dd⟩:=QY_ I.hok e
  refine ⟨dd.typeIs,fun b q=>?_,hd⟩
  cases q
  obtain ⟨ob,_,_,h1,h2,_⟩:=dd
  exact ⟨ob,h1,h2.2.1⟩
 ·obtain ⟨_,hd,xs,_,dd⟩:=QX_ I.hok e
  refine ⟨dd.typeIs,fun b q=>?_,hd⟩
  cases q
  obtain ⟨ob,_,_,h1,h2,_⟩:=dd
  exact ⟨ob,h1,h2.2.1⟩
section
variable {X:Cx} {pins:List (Addr×Obj)} {σ:St} {H:Hp} {s:Shared} {a:Addr} {y d:V} {u r:Value} {o:Option V} {A:Around} {E:Value→Shared→Prop}
theorem zcR_ {Q:Value→Shared→Prop} (hu:A.units+1<cLine) (I:Inv X pins σ H s) (g:DGet H a y o) (ry:RelV y u) (rd:RelV d r) (h:∀ w' s',Inv X pins σ H s'→RelV (o.getD d) w'→Q w' s') :
  wpAny (model X.prog X.w) A (call (.builtin "dict.get") [.ref a,u,r]) Q E s:=by
 rcases g with ⟨kvs,k,e,ey,l⟩|⟨kvs,k,b,e,ey,eb,l⟩
 ·subst ey
  obtain ⟨z,hd,vs,rel,dd⟩:=QY_ I.hok e
  refine call_meetsIn PySem.F.slot_dict_get dd.typeIs PySem.F.entry_dict_get (PySem.F.args_dict_get_3 _ _ _) (meets_dict_get_default (z2_ X.prog X.w) a (YC_ ry) hd r) ⟨_,dd.mapOf,h _ _ (I.tok _) ?_⟩
  rw [l]
  exact (rel.val k).getD rd
 ·subst ey
  cases (show u=Value.ref b from ry)
  obtain ⟨z,hd,xs,rel,dd⟩:=QX_ I.hok e
  refine call_meetsIn PySem.F.slot_dict_get dd.typeIs PySem.F.entry_dict_get (PySem.F.args_dict_get_3 _ _ _) (meetsH_dict_get_default (tupleKind (z2_ X.prog X.w)) a b hd r) ⟨tupleKind_room_in1 hu,k,xs,ZI_ I.hok eb,dd,h _ _ (I.tok _) ?_⟩
  rw [l]
  exact (rel.val k).getD rd
end
end L2
set_option Elab.async false
set_option linter.all false
set_option maxRecDepth 100000
namespace L4
open PySem PySem.Spec PyProof.Rows L2 PySem.W
noncomputable def XO (e C:Addr) (dd:Option Addr):Heap→Prop:=fun h=>∃ oe,h.get? e=some oe∧oe.cls=.ref C∧oe.dict=dd∧PySem.W.notCls oe=true
noncomputable def XD (dx:Addr) (fs:List (Str×V)):Heap→Prop:=fun h=>∃ mA,h.Ns1 dx mA∧PySem.Within mA (fs.map (·.1))∧∀ f,RelO (fs.lookup f) (mA f)
noncomputable abbrev bmV:List Value:=[.type "ValueError",.type "Exception",.type "BaseException",.type "object"]
structure XC (K:Frag) (C D fI:Addr):Prop where
 obj:∃ nm q N bs sn sub ab col dd k0 k1 k2 k3 k5,K.lookup C=some (excClassObj nm q C N bs (.ref D::bmV) true sn sub ab col dd k0 k1 k2 k3 k5 "ValueError.__new__")
 tl:tailIn K bmV (.ref D::bmV)=true
 ini:findIn K (.ref C) "__init__" = some (some (.ref fI))
 fn:typeIn K (.ref fI)=some (.type "function")
 sa:findIn K (.ref C) "__setattr__" = some (some (.builtin "object.__setattr__"))
 ga:findIn K (.ref C) "__getattribute__" = some (some (.builtin "BaseException.__getattribute__"))
 gr:findIn K (.ref C) "__getattr__" = some none
structure KC (K:Frag) (C:Addr):Prop where
 ha:findIn K (.ref C) "__class__" = some (some (.builtin "object.__class__"))
 hn:specialIn K (.builtin "object.__class__") "__get__" = some (some (.builtin "getset_descriptor.__get__"))
 htk:takesIn K (.builtin "object.__class__")=some true
noncomputable def tyOk (T:String):Bool:=T == "bool" || T == "int" || T == "str" || T == "list" || T == "tuple" || T == "dict"
structure XQ (K:Frag) (C:Addr) (x:Str):Prop where
 ns:nsIn K mainGlobals x=some (some (.ref C))
 xc:∃ D fI,XC K C D fI
 kc:KC K C
 no:∀ T,tyOk T=true→kitOne K (.ref C) (.type T)=some false
noncomputable def FX (F:Hp) (dd:Option Addr) (fv:List (Str×V)):Prop:=(dd=none∧fv=[])∨∃ dx,dd=some dx∧F dx=some (.ext (XD dx fv))
theorem FX.mono {F F':Hp} {dd:Option Addr} {fv:List (Str×V)} (e:Same F F') (h:FX F dd fv):FX F' dd fv:=h.imp id fun ⟨dx,h1,h2⟩=>⟨dx,h1,e _ _ h2⟩
end L4
set_option Elab.async false
set_option linter.all false
set_option maxRecDepth 100000
namespace L3
open PySem PySem.Spec PyProof.Rows L2
noncomputable abbrev D:=PyData
noncomputable abbrev Fg:=PySem.W.Frag
noncomputable def keyD:Key→D
 | .inl i=>.int i
 | .inr x=>.str x
noncomputable def keyT (k:List Key):D:=.tuple (k.map keyD)
mutual
inductive Rep (K:Fg) (F:Hp):V→D→Prop
 | non:Rep K F .non .none
 | bl (b):Rep K F (.bl b) (.bool b)
 | int (i):Rep K F (.int i) (.int i)
 | str (x):Rep K F (.str x) (.str x)
 | tup {a vs ds}:F a=some (.tup vs)→RepL K F vs ds→Rep K F (.ref a) (.tuple ds)
 | lst {a vs ds}:SqL K F a vs→RepL K F vs ds→Rep K F (.ref a) (.list ds)
 | dct {a kvs es}:F a=some (.dT kvs)→es.map (·.1)=kvs.map (fun p=>keyT p.1)→RepL K F (kvs.map (·.2)) (es.map (·.2))→Rep K F (.ref a) (.dict es)
 | dck {a kvs es}:F a=some (.dK kvs)→es.map (·.1)=kvs.map (fun p=>keyD p.1)→RepL K F (kvs.map (·.2)) (es.map (·.2))→Rep K F (.ref a) (.dict es)
 | exc {a C dd cl fv es}:F a=some (.ext (L4.XO a C dd))→L4.XQ K C cl→L4.FX F dd fv→es.map (·.1)=fv.map (fun p=>.str p.1)→RepL K F (fv.map (·.2)) (es.map (·.2))→Rep K F (.ref a) (.dict ((.none,.str cl)::es))
 | fn {a f}:PySem.W.nsIn K mainGlobals f=some (some (.ref a))→Rep K F (.ref a) (.dict [(.bool true,.str f)])
inductive RepL (K:Fg) (F:Hp):List V→List D→Prop
 | nil:RepL K F [] []
 | cons {v d vs ds}:Rep K F v d→RepL K F vs ds→RepL K F (v::vs) (d::ds)
end
theorem zU_ {K:Fg} {F F':Hp} {a:Addr} {xs:List V} (e:Same F F') (h:SqT K F a xs):SqT K F' a xs:=by
 rcases h with (h|⟨o,h⟩)|h
 ·exact .inl (.inl (e _ _ h))
 ·exact .inl (.inr ⟨o,e _ _ h⟩)
 ·exact .inr h
theorem Rep.mono {K:Fg} {F F':Hp} (e:Same F F') {v:V} {d:D} (h:Rep K F v d):Rep K F' v d :=
 Rep.rec (motive_1:=fun v d _=>Rep K F' v d) (motive_2:=fun vs ds _=>RepL K F' vs ds) .non .bl .int .str (fun h _ r=>.tup (e _ _ h) r) (fun h _ r=>.lst (e.seq h) r) (fun h k _ r=>.dct (e _ _ h) k r) (fun h k _ r=>.dck (e _ _ h) k r) (fun h q f k _ r=>.exc (e _ _ h) q (f.mono e) k r) (fun h=>.fn h) .nil (fun _ _ a b=>.cons a b) h
theorem RepL.mono {K:Fg} {F F':Hp} (e:Same F F') {vs:List V} {ds:List D} (h:RepL K F vs ds):RepL K F' vs ds:=by
 induction vs generalizing ds with
 | nil=>cases h;exact .nil
 | cons v vs ih=>cases h with
  | cons a b=>exact .cons (a.mono e) (ih b)
noncomputable def repI (K:Fg) (F:Hp):D→V→Prop
 | .none,v=>v=.non
 | .bool b,v=>v=.bl b
 | .int i,v=>v=.int i
 | .str x,v=>v=.str x
 | .tuple ds,v=>∃ a vs,v=.ref a∧F a=some (.tup vs)∧RepL K F vs ds
 | .list ds,v=>∃ a vs,v=.ref a∧SqL K F a vs∧RepL K F vs ds
 | _,_=>True
theorem Rep.inv {K:Fg} {F:Hp} {v:V} {d:D} (h:Rep K F v d):repI K F d v :=
 Rep.casesOn (motive_1:=fun v d _=>repI K F d v) h rfl (fun _=>rfl) (fun _=>rfl) (fun _=>rfl) (fun h r=>⟨_,_,rfl,h,r⟩) (fun h r=>⟨_,_,rfl,h,r⟩) (fun _ _ _=>True.intro) (fun _ _ _=>True.intro) (fun _ _ _ _ _=>True.intro) (fun _=>True.intro)
theorem Rep.int_inv {K:Fg} {F:Hp} {v:V} {i:Int} (h:Rep K F v (.int i)):v=.int i:=h.inv
theorem Rep.str_inv {K:Fg} {F:Hp} {v:V} {i:Str} (h:Rep K F v (.str i)):v=.str i:=h.inv
theorem Rep.tup_inv {K:Fg} {F:Hp} {v:V} {ds:List D} (h:Rep K F v (.tuple ds)):∃ a vs,v=.ref a∧F a=some (.tup vs)∧RepL K F vs ds:=h.inv
theorem Rep.lst_inv {K:Fg} {F:Hp} {v:V} {ds:List D} (h:Rep K F v (.list ds)):∃ a vs,v=.ref a∧SqL K F a vs∧RepL K F vs ds:=h.inv
noncomputable def zbB_ (K:Fg) (F:Hp):List D→List V→Prop
 | [],vs=>vs=[]
 | d::ds,vs=>∃ v us,vs=v::us∧Rep K F v d∧RepL K F us ds
theorem RepL.inv {K:Fg} {F:Hp} {vs:List V} {ds:List D} (h:RepL K F vs ds):zbB_ K F ds vs :=
 RepL.casesOn (motive_2:=fun vs ds _=>zbB_ K F ds vs) h rfl (fun a b=>⟨_,_,rfl,a,b⟩)
theorem RepL.one_inv {K:Fg} {F:Hp} {vs:List V} {d:D} (h:RepL K F vs [d]):∃ v,vs=[v]∧Rep K F v d:=by
 obtain ⟨v,us,rfl,a,b⟩:=(h.inv:∃ v us,vs=v::us∧Rep K F v d∧RepL K F us [])
 obtain rfl:us=[]:=b.inv
 exact ⟨v,rfl,a⟩
theorem RepL.two_inv {K:Fg} {F:Hp} {vs:List V} {d e:D} (h:RepL K F vs [d,e]):∃ v u,vs=[v,u]∧Rep K F v d∧Rep K F u e:=by
 obtain ⟨v,us,rfl,a,b⟩:=(h.inv:∃ v us,vs=v::us∧Rep K F v d∧RepL K F us [e])
 obtain ⟨u,rfl,c⟩:=b.one_inv
 exact ⟨v,u,rfl,a,c⟩
theorem RepL.length {K:Fg} {F:Hp}:∀ {vs ds},RepL K F vs ds→vs.length=ds.length
 | _,_,.nil=>rfl
 | _,_,.cons _ r=>by simp [RepL.length r]
theorem RepL.get {K:Fg} {F:Hp}:∀ {vs ds} {i:Nat} {d:D},RepL K F vs ds→ds[i]? = some d→∃ v,vs[i]? = some v∧Rep K F v d
 | _,_,_,_,.nil,e=>by simp at e
 | _,_,0,_,.cons h _,e=>by simp at e;subst e;exact ⟨_,rfl,h⟩
 | _,_,i+1,d,.cons _ r,e=>by
  obtain ⟨v,h1,h2⟩:=RepL.get (i:=i) (d:=d) r (by simpa using e)
  exact ⟨v,by simpa using h1,h2⟩
theorem RepL.append {K:Fg} {F:Hp} {vs:List V} {ds:List D} {us:List V} {es:List D} (h:RepL K F vs ds) (s:RepL K F us es):RepL K F (vs++us) (ds++es):=by
 induction vs generalizing ds with
 | nil=>cases h;exact s
 | cons v vs ih=>cases h with
  | cons a b=>exact .cons a (ih b)
theorem RepL.take {K:Fg} {F:Hp}:∀ {vs ds} (n:Nat),RepL K F vs ds→RepL K F (vs.take n) (ds.take n)
 | _,_,0,_=>.nil
 | _,_,_+1,.nil=>.nil
 | _,_,n+1,.cons h r=>.cons h (RepL.take n r)
theorem RepL.drop {K:Fg} {F:Hp}:∀ {vs ds} (n:Nat),RepL K F vs ds→RepL K F (vs.drop n) (ds.drop n)
 | _,_,0,r=>r
 | _,_,_+1,.nil=>.nil
 | _,_,n+1,.cons _ r=>RepL.drop n r
theorem RepL.set {K:Fg} {F:Hp} {v:V} {d:D} (h:Rep K F v d):∀ {vs ds} (i:Nat),RepL K F vs ds→RepL K F (vs.set i v) (ds.set i d)
 | _,_,_,.nil=>.nil
 | _,_,0,.cons _ r=>.cons h r
 | _,_,i+1,.cons q r=>.cons q (RepL.set h i r)
theorem RepL.ints {K:Fg} {F:Hp}:∀ (ns:List Int),RepL K F (ns.map V.int) (ns.map PyData.int)
 | []=>.nil
 | n::r=>.cons (.int n) (RepL.ints r)
section
variable {X:Cx} {pins:List (Addr×Obj)} {σ:L2.St} {H:Hp} {s:Shared}
theorem Uu_ {u:List Value} (r:Vals [] u):∃ as,ReadsAll s.heap u [] as:=by cases r;exact ⟨_,.nil⟩
theorem Jm_ {v:V} {d:D} {vs:List V} {ds:List D} (h:d.canLay0=true→∀ {u},RelV v u→∃ as,Reads s.heap u d as) (t:PyData.canLayAll0 ds=true→∀ {us},Vals vs us→∃ as,ReadsAll s.heap us ds as) (c:PyData.canLayAll0 (d::ds)=true) {us:List Value} (r:Vals (v::vs) us):∃ as,ReadsAll s.heap us (d::ds) as:=by
 simp only [PyData.canLayAll0,Bool.and_eq_true] at c
 cases r with
 | cons r rr =>
  obtain ⟨as,ra⟩:=h c.1 r
  obtain ⟨bs,rb⟩:=t c.2 rr
  exact ⟨_,.cons ra rb⟩
theorem Vu_ (I:Inv X pins σ H s) {a:Addr} {vs:List V} {ds:List D} (hq:H a=some (.tup vs)) (ih:PyData.canLayAll0 ds=true→∀ {us},Vals vs us→∃ as,ReadsAll s.heap us ds as) (c:(PyData.tuple ds).canLay0=true) {u:Value} (r:RelV (.ref a) u):∃ as,Reads s.heap u (.tuple ds) as:=by
 cases r
 obtain ⟨its,rv,⟨o,e1,e2,n',e3⟩,hz⟩:=I.tuple (SqT.of hq)
 obtain ⟨as,ra⟩:=ih (by simpa [PyData.canLay0] using c) rv
 exact ⟨_,.tuple e1 e2 e3 (by simpa using ra)⟩
theorem Vv_ (I:Inv X pins σ H s) {a:Addr} {vs:List V} {ds:List D} (hq:SqL X.K H a vs) (ih:PyData.canLayAll0 ds=true→∀ {us},Vals vs us→∃ as,ReadsAll s.heap us ds as) (c:(PyData.list ds).canLay0=true) {u:Value} (r:RelV (.ref a) u):∃ as,Reads s.heap u (.list ds) as:=by
 cases r
 obtain ⟨its,rv,⟨o,n',e1,e2,e3,e4⟩,hz⟩:=I.list hq
 obtain ⟨as,ra⟩:=ih (by simpa [PyData.canLay0] using c) rv
 exact ⟨_,.list e1 e2 e4 (by simpa using ra)⟩
theorem yx_ {es:List (D×D)} {P:Prop} (c:(PyData.dict es).canLay0=true):P:=by simp [PyData.canLay0] at c
theorem XF_ (I:Inv X pins σ H s) {v:V} {d:D} (h:Rep X.K H v d):d.canLay0=true→∀ {u},RelV v u→∃ as,Reads s.heap u d as :=
 Rep.rec (motive_1:=fun v d _=>d.canLay0=true→∀ {u},RelV v u→∃ as,Reads s.heap u d as) (motive_2:=fun vs ds _=>PyData.canLayAll0 ds=true→∀ {us},Vals vs us→∃ as,ReadsAll s.heap us ds as)
  (fun _ {_} r=>by cases r;exact ⟨_,.none⟩) (fun b _ {_} r=>by cases r;exact ⟨_,.bool b⟩) (fun i _ {_} r=>by obtain ⟨t,rfl⟩:=r;exact ⟨_,.int i t⟩) (fun x _ {_} r=>by obtain ⟨t,rfl⟩:=r;exact ⟨_,.str x t⟩)
  (fun hq _ ih=>Vu_ I hq ih) (fun hq _ ih=>Vv_ I hq ih) (fun _ _ _ _ c=>yx_ c) (fun _ _ _ _ c=>yx_ c) (fun _ _ _ _ _ _ c=>yx_ c) (fun _ c=>yx_ c)
  (fun _ {_} r=>Uu_ r) (fun _ _ a b=>Jm_ a b) h
theorem zbC_ (I:Inv X pins σ H s) {vs:List V} {ds:List D} (h:RepL X.K H vs ds):PyData.canLayAll0 ds=true→∀ {us},Vals vs us→∃ as,ReadsAll s.heap us ds as:=by
 induction vs generalizing ds with
 | nil=>cases h;exact fun _ _ r=>Uu_ r
 | cons v vs ih=>cases h with
  | cons a b=>exact Jm_ (XF_ I a) (ih b)
end
theorem j1_ {X:Cx} {pins:List (Addr×Obj)} {σ:L2.St} {H:Hp} {s:Shared} (I:Inv X pins σ H s) :
  (∀ {v d},Rep X.K H v d→d.canLay0=true→∀ {u},RelV v u→∃ as,Reads s.heap u d as)∧(∀ {vs ds},RepL X.K H vs ds→PyData.canLayAll0 ds=true→∀ {us},Vals vs us→∃ as,ReadsAll s.heap us ds as) :=
 ⟨fun {v d} h c {u} r=>XF_ I h c r,fun {vs ds} h c {us} r=>zbC_ I h c r⟩
noncomputable def isXe:List (D×D)→Bool
 | (.none,_)::_=>true
 | (.bool _,_)::_=>true
 | _=>false
inductive OC where
 | l (ds:List D)
 | t (es:List (D×D))
 | k (es:List (D×D))
inductive AV where
 | fz (d:D)
 | ol (c:OC)
 | op (c:OC)
noncomputable abbrev En:=List (Option AV)
inductive RV where
 | fz (d:D)
 | fr (c:OC)
 | bor (i:Nat)
noncomputable def NoTE:HO→Prop
 | .tup _=>False
 | .ext _=>False
 | _=>True
structure Gh where
 P:Nat→Option Addr
 O:Hp
 B:Hp
noncomputable def Held (K:Fg) (F H:Hp) (a:Addr):OC→Prop
 | .l ds=>∃ vs,H a=some (.lst vs)∧RepL K F vs ds
 | .t es=>∃ kvs,H a=some (.dT kvs)∧es.map (·.1)=kvs.map (fun p=>keyT p.1)∧RepL K F (kvs.map (·.2)) (es.map (·.2))
 | .k es=>∃ kvs,H a=some (.dK kvs)∧es.map (·.1)=kvs.map (fun p=>keyD p.1)∧RepL K F (kvs.map (·.2)) (es.map (·.2))
structure OwnAt (K:Fg) (G:Gh) (F H:Hp) (a:Addr) (c:OC):Prop where
 nf:F a=none
 no:G.O a=none
 he:Held K F H a c
noncomputable def own (ρ:En) (i:Nat) (c:OC):Prop:=ρ[i]? = some (some (.ol c))∨ρ[i]? = some (some (.op c))
structure StOk (K:Fg) (G:Gh) (F:Hp) (σ:L2.St) (H:Hp) (ρ:En):Prop where
 fh:Same F H
 oh:Same G.O H
 fo:∀ b o,G.O b=some o→F b=none∧NoTE o
 ln:σ.length=ρ.length
 fz:∀ (i:Nat) (d:D),ρ[i]? = some (some (AV.fz d))→∃ v,σ[i]? = some (some v)∧Rep K F v d
 ow:∀ (i:Nat) (c:OC),own ρ i c→∃ a:Addr,σ[i]? = some (some (V.ref a))∧OwnAt K G F H a c
 dj:∀ (i j:Nat) (c e:OC) (a:Addr),own ρ i c→own ρ j e→σ[i]? = some (some (V.ref a))→σ[j]? = some (some (V.ref a))→i=j
 pp:∀ (i:Nat) (a:Addr),G.P i=some a→σ[i]? = some (some (V.ref a))∧∃ c,ρ[i]? = some (some (AV.op c))
 pq:∀ (i:Nat) (c:OC),ρ[i]? = some (some (AV.op c))→∃ a,G.P i=some a
 fb:Same G.B F
noncomputable def RVR (K:Fg) (G:Gh) (F:Hp) (σ:L2.St) (H:Hp) (ρ:En) (v:V):RV→Prop
 | .fz d=>Rep K F v d
 | .fr c=>∃ a,v=.ref a∧OwnAt K G F H a c∧∀ (i:Nat) (e:OC),own ρ i e→σ[i]? ≠ some (some (V.ref a))
 | .bor i=>∃ c,own ρ i c∧σ[i]? = some (some v)
theorem Held.mono {K:Fg} {F F' H:Hp} {a:Addr} {c:OC} (e:Same F F') (h:Held K F H a c):Held K F' H a c:=by
 cases c with
 | l ds=>obtain ⟨vs,h1,h2⟩:=h;exact ⟨vs,h1,h2.mono e⟩
 | t es=>obtain ⟨vs,h1,h2,h3⟩:=h;exact ⟨vs,h1,h2,h3.mono e⟩
 | k es=>obtain ⟨vs,h1,h2,h3⟩:=h;exact ⟨vs,h1,h2,h3.mono e⟩
theorem Held.some {K:Fg} {F H:Hp} {a:Addr} {c:OC} (h:Held K F H a c):∃ o,H a=some o:=by
 cases c with
 | l ds=>obtain ⟨vs,h1,h2⟩:=h;exact ⟨_,h1⟩
 | t es=>obtain ⟨vs,h1,h2⟩:=h;exact ⟨_,h1⟩
 | k es=>obtain ⟨vs,h1,h2⟩:=h;exact ⟨_,h1⟩
theorem Held.at {K:Fg} {F H H':Hp} {a:Addr} {c:OC} (h:Held K F H a c) (e:H' a=H a):Held K F H' a c:=by
 cases c with
 | l ds=>obtain ⟨vs,h1,h2⟩:=h;exact ⟨vs,e.trans h1,h2⟩
 | t es=>obtain ⟨vs,h1,h2⟩:=h;exact ⟨vs,e.trans h1,h2⟩
 | k es=>obtain ⟨vs,h1,h2⟩:=h;exact ⟨vs,e.trans h1,h2⟩
theorem uf_ {F:Hp} {p:Addr} {o:HO} (h:F p=none):Same F (upd F p o):=fun b u e=>by
 rw [zp_ (zq_ e h)]
 exact e
theorem yw_ {F H:Hp} {p:Addr} {o:HO} (s:Same F H) (h:F p=none):Same F (upd H p o):=fun b u e=>by
 rw [zp_ (zq_ e h)]
 exact s b u e
section
variable {K:Fg} {G:Gh} {F H:Hp} {σ:L2.St} {ρ:En}
theorem StOk.lay (S:StOk K G F σ H ρ) {p:Addr} {o:HO} (hp:H p=none):StOk K G F σ (upd H p o) ρ:=by
 have fp:F p=none:=S.fh.free hp
 have op:G.O p=none:=S.oh.free hp
 refine ⟨yw_ S.fh fp,yw_ S.oh op,S.fo,S.ln,S.fz,fun i c h=>?_,S.dj,S.pp,S.pq,S.fb⟩
 obtain ⟨a,e,oa⟩:=S.ow i c h
 refine ⟨a,e,oa.nf,oa.no,oa.he.at ?_⟩
 obtain ⟨u,hu⟩:=oa.he.some
 exact zp_ (zq_ hu hp)
theorem StOk.fresh_ne (S:StOk K G F σ H ρ) {p:Addr} (hp:H p=none):∀ (i:Nat) (e:OC),own ρ i e→σ[i]? ≠ some (some (V.ref p)):=fun i e h q=>by
 obtain ⟨a,e1,oa⟩:=S.ow i e h
 rw [e1] at q
 injection q with q;injection q with q;injection q with q
 subst q
 obtain ⟨u,hu⟩:=oa.he.some
 rw [hp] at hu;cases hu
theorem StOk.freeze (S:StOk K G F σ H ρ) {a:Addr} {o:HO} (ha:H a=some o) (fa:F a=none) (oa:G.O a=none) (ne:∀ (i:Nat) (e:OC),own ρ i e→σ[i]? ≠ some (some (V.ref a))):StOk K G (upd F a o) σ H ρ:=by
 have sm:Same F (upd F a o):=uf_ fa
 refine ⟨fun b u e=>?_,S.oh,fun b u e=>?_,S.ln,fun i d h=>?_,fun i c h=>?_,S.dj,S.pp,S.pq,S.fb.trans sm⟩
 ·by_cases hb:b=a
  ·subst hb;rw [zy_] at e;cases e;exact ha
  ·rw [zp_ hb] at e;exact S.fh b u e
 ·rw [zp_ (zq_ e oa)];exact S.fo b u e
 ·obtain ⟨v,e,r⟩:=S.fz i d h;exact ⟨v,e,r.mono sm⟩
 ·obtain ⟨b,e,ob⟩:=S.ow i c h
  refine ⟨b,e,?_,ob.no,ob.he.mono sm⟩
  rw [zp_ (fun z=>ne i c h (by rw [e,z]))]
  exact ob.nf
theorem StOk.newTup (S:StOk K G F σ H ρ) {p:Addr} {vs:List V} {ds:List D} (hp:H p=none) (r:RepL K F vs ds) :
  Same F (upd F p (.tup vs))∧StOk K G (upd F p (.tup vs)) σ (upd H p (.tup vs)) ρ∧Rep K (upd F p (.tup vs)) (.ref p) (.tuple ds):=by
 have fp:F p=none:=S.fh.free hp
 refine ⟨uf_ fp,(S.lay hp).freeze zy_ fp (S.oh.free hp) (S.fresh_ne hp),?_⟩
 exact .tup zy_ (r.mono (uf_ fp))
theorem StOk.newLst (S:StOk K G F σ H ρ) {p:Addr} {vs:List V} {ds:List D} (hp:H p=none) (r:RepL K F vs ds) :
  StOk K G F σ (upd H p (.lst vs)) ρ∧RVR K G F σ (upd H p (.lst vs)) ρ (.ref p) (.fr (.l ds)) :=
 ⟨S.lay hp,p,rfl,⟨S.fh.free hp,S.oh.free hp,vs,zy_,r⟩,S.fresh_ne hp⟩
theorem StOk.settle (S:StOk K G F σ H ρ) {v:V} {ds:List D} (r:RVR K G F σ H ρ v (.fr (.l ds))) :
  ∃ F',Same F F'∧StOk K G F' σ H ρ∧Rep K F' v (.list ds):=by
 obtain ⟨a,rfl,oa,ne⟩:=r
 obtain ⟨vs,h1,h2⟩:=oa.he
 exact ⟨upd F a (.lst vs),uf_ oa.nf,S.freeze h1 oa.nf oa.no ne,.lst (.inl (.inl zy_)) (h2.mono (uf_ oa.nf))⟩
theorem ZL_ {α:Type} (l:List α) (i:Nat) (x y:α) (h:l[i]? = some y):(l.set i x)[i]? = some x:=by
 rw [List.getElem?_set_self (List.getElem?_eq_some_iff.mp h).1]
noncomputable def OC.d:OC→D
 | .l ds=>.list ds
 | .t es=>.dict es
 | .k es=>.dict es
theorem Wf_ {a:Addr} {c:OC} (h:Held K F H a c):∃ o,H a=some o∧∀ F',Same F F'→F' a=some o→Rep K F' (.ref a) c.d:=by
 cases c with
 | l ds=>obtain ⟨vs,h1,h2⟩:=h;exact ⟨_,h1,fun F' s e=>.lst (.inl (.inl e)) (h2.mono s)⟩
 | t es=>obtain ⟨vs,h1,h2,h3⟩:=h;exact ⟨_,h1,fun F' s e=>.dct e h2 (h3.mono s)⟩
 | k es=>obtain ⟨vs,h1,h2,h3⟩:=h;exact ⟨_,h1,fun F' s e=>.dck e h2 (h3.mono s)⟩
theorem StOk.settleC (S:StOk K G F σ H ρ) {i:Nat} {oc:OC} (hi:ρ[i]? = some (some (.ol oc))) {v:V} (hv:σ[i]? = some (some v)) :
  ∃ F',Same F F'∧StOk K G F' σ H (ρ.set i (some (.fz oc.d)))∧Rep K F' v oc.d:=by
 obtain ⟨a,e,oa⟩:=S.ow i _ (.inl hi)
 rw [hv] at e
 injection e with e;injection e with e
 subst e
 obtain ⟨vo,h1,hrep⟩:=Wf_ oa.he
 have sm:Same F (upd F a vo):=uf_ oa.nf
 have rp:Rep K (upd F a vo) (.ref a) oc.d:=hrep _ sm zy_
 have ne:∀ j,j≠i→(ρ.set i (some (.fz oc.d)))[j]? = ρ[j]?:=fun j hj=>List.getElem?_set_ne (Ne.symm hj)
 have at_i:(ρ.set i (some (.fz oc.d)))[i]? = some (some (.fz oc.d)):=ZL_ _ _ _ _ hi
 have ownj:∀ j c,own (ρ.set i (some (.fz oc.d))) j c→j≠i∧own ρ j c:=fun j c h=>by
  have hj:j≠i:=by
   rintro rfl
   rcases h with h|h<;>(rw [at_i] at h;cases h)
  refine ⟨hj,?_⟩
  rcases h with h|h
  ·exact .inl (by rw [←ne j hj];exact h)
  ·exact .inr (by rw [←ne j hj];exact h)
 refine ⟨upd F a vo,sm,⟨fun b u e=>?_,S.oh,fun b u e=>?_,by simpa using S.ln,fun j d h=>?_,fun j c h=>?_,fun j k c e b h1 h2=>S.dj j k c e b (ownj j c h1).2 (ownj k e h2).2,fun j b h=>?_,fun j c h=>?_,S.fb.trans sm⟩,rp⟩
 ·by_cases hb:b=a
  ·subst hb;rw [zy_] at e;cases e;exact h1
  ·rw [zp_ hb] at e;exact S.fh b u e
 ·rw [zp_ (zq_ e oa.no)];exact S.fo b u e
 ·by_cases hj:j=i
  ·subst hj
   rw [at_i] at h
   cases h
   exact ⟨_,hv,rp⟩
  ·rw [ne j hj] at h
   obtain ⟨w,e,r⟩:=S.fz j d h
   exact ⟨w,e,r.mono sm⟩
 ·obtain ⟨hj,h'⟩:=ownj j c h
  obtain ⟨b,e,ob⟩:=S.ow j c h'
  refine ⟨b,e,?_,ob.no,ob.he.mono sm⟩
  rw [zp_ (fun z=>hj (S.dj j i _ _ a h' (.inl hi) (by rw [e,z]) hv))]
  exact ob.nf
 ·obtain ⟨q,c,q'⟩:=S.pp j b h
  refine ⟨q,c,?_⟩
  have hj:j≠i:=by rintro rfl;rw [hi] at q';cases q'
  rw [ne j hj];exact q'
 ·have hj:j≠i:=by rintro rfl;rw [at_i] at h;cases h
  rw [ne j hj] at h
  exact S.pq j c h
theorem StOk.store (S:StOk K G F σ H ρ) {j:Nat} {v:V} {av:AV} (hj:∀ c,ρ[j]? ≠ some (some (.op c))) (hl:j<ρ.length)
  (h:(∃ d,av=.fz d∧Rep K F v d)∨∃ c,av=.ol c∧RVR K G F σ H ρ v (.fr c)):StOk K G F (σ.set j (some v)) H (ρ.set j (some av)):=by
 have hls:j<σ.length:=by rw [S.ln];exact hl
 have ne:∀ i,i≠j→(ρ.set j (some av))[i]? = ρ[i]?:=fun i hi=>List.getElem?_set_ne (Ne.symm hi)
 have nes:∀ i,i≠j→(σ.set j (some v))[i]? = σ[i]?:=fun i hi=>List.getElem?_set_ne (Ne.symm hi)
 have atj:(ρ.set j (some av))[j]? = some (some av):=List.getElem?_set_self hl
 have atjs:(σ.set j (some v))[j]? = some (some v):=List.getElem?_set_self hls
 have owni:∀ i c,i≠j→own (ρ.set j (some av)) i c→own ρ i c:=fun i c hi h=>by
  unfold own at h ⊢
  rw [ne i hi] at h
  exact h
 refine ⟨S.fh,S.oh,S.fo,by simpa using S.ln,fun i d q=>?_,fun i c q=>?_,fun i k c e a q1 q2 e1 e2=>?_,fun i a q=>?_,fun i c q=>?_,S.fb⟩
 ·by_cases hi:i=j
  ·subst hi
   rw [atj] at q
   rcases h with ⟨d',rfl,r⟩|⟨c,rfl,_⟩
   ·cases q;exact ⟨v,atjs,r⟩
   ·cases q
  ·rw [ne i hi] at q
   obtain ⟨w,e,r⟩:=S.fz i d q
   exact ⟨w,by rw [nes i hi];exact e,r⟩
 ·by_cases hi:i=j
  ·subst hi
   rcases h with ⟨d',rfl,r⟩|⟨c',rfl,a,rfl,oa,_⟩
   ·rcases q with q|q<;>(rw [atj] at q;cases q)
   ·rcases q with q|q
    ·rw [atj] at q;cases q;exact ⟨a,atjs,oa⟩
    ·rw [atj] at q;cases q
  ·obtain ⟨a,e,oa⟩:=S.ow i c (owni i c hi q)
   exact ⟨a,by rw [nes i hi];exact e,oa⟩
 ·by_cases hi:i=j
  ·by_cases hk:k=j
   ·rw [hi,hk]
   ·exfalso
    subst hi
    rw [nes k hk] at e2
    rw [atjs] at e1
    injection e1 with e1;injection e1 with e1
    subst e1
    rcases h with ⟨d',rfl,r⟩|⟨c',rfl,a',e,oa,nn⟩
    ·rcases q1 with q|q<;>(rw [atj] at q;cases q)
    ·injection e with e;subst e
     exact nn k _ (owni k _ hk q2) e2
  ·by_cases hk:k=j
   ·exfalso
    subst hk
    rw [nes i hi] at e1
    rw [atjs] at e2
    injection e2 with e2;injection e2 with e2
    subst e2
    rcases h with ⟨d',rfl,r⟩|⟨c',rfl,a',e,oa,nn⟩
    ·rcases q2 with q|q<;>(rw [atj] at q;cases q)
    ·injection e with e;subst e
     exact nn i _ (owni i _ hi q1) e1
   ·rw [nes i hi] at e1
    rw [nes k hk] at e2
    exact S.dj i k _ _ a (owni i _ hi q1) (owni k _ hk q2) e1 e2
 ·obtain ⟨q1,c,q2⟩:=S.pp i a q
  have hi:i≠j:=by rintro rfl;exact hj c q2
  exact ⟨by rw [nes i hi];exact q1,c,by rw [ne i hi];exact q2⟩
 ·have hi:i≠j:=by
   rintro rfl
   rw [atj] at q
   rcases h with ⟨d',rfl,r⟩|⟨c',rfl,_⟩<;>cases q
  rw [ne i hi] at q
  exact S.pq i c q
theorem StOk.change (S:StOk K G F σ H ρ) {j:Nat} {a:Addr} {c c':OC} {o:HO} (hj:own ρ j c) (ha:σ[j]? = some (some (.ref a))) (hh:Held K F (upd H a o) a c') :
  StOk K G F σ (upd H a o) (ρ.set j ((ρ[j]?.join).map fun | .op _=>.op c'|_=>.ol c')):=by
 obtain ⟨b,e,ob⟩:=S.ow j c hj
 rw [ha] at e
 injection e with e;injection e with e;injection e with e
 subst e
 have hl:j<ρ.length:=by rcases hj with h|h<;>exact (List.getElem?_eq_some_iff.mp h).1
 generalize hav:((ρ[j]?.join).map fun (x:AV)=>match x with | .op _=>AV.op c'|_=>AV.ol c')=av
 have ne:∀ i,i≠j→(ρ.set j av)[i]? = ρ[i]?:=fun i hi=>List.getElem?_set_ne (Ne.symm hi)
 have atj:(ρ.set j av)[j]? = some av:=List.getElem?_set_self hl
 have owni:∀ i e,i≠j→own (ρ.set j av) i e→own ρ i e:=fun i c hi h=>by
  unfold own at h ⊢
  rw [ne i hi] at h
  exact h
 have kind:(ρ[j]? = some (some (.ol c))∧av=some (.ol c'))∨(ρ[j]? = some (some (.op c))∧av=some (.op c')):=by
  rcases hj with h|h
  ·exact .inl ⟨h,by rw [←hav,h];rfl⟩
  ·exact .inr ⟨h,by rw [←hav,h];rfl⟩
 have ownj:∀ e,own (ρ.set j av) j e→e=c':=fun e h=>by
  unfold own at h
  rw [atj] at h
  rcases kind with ⟨_,k⟩|⟨_,k⟩<;>rw [k] at h<;>rcases h with h|h<;>cases h<;>rfl
 refine ⟨yw_ S.fh ob.nf,yw_ S.oh ob.no,S.fo,by simpa using S.ln,fun i d q=>?_,fun i e q=>?_,fun i k c1 e1 b q1 q2=>?_,fun i b q=>?_,fun i e q=>?_,S.fb⟩
 ·by_cases hi:i=j
  ·subst hi
   rw [atj] at q
   rcases kind with ⟨_,k⟩|⟨_,k⟩<;>rw [k] at q<;>cases q
  ·rw [ne i hi] at q;exact S.fz i d q
 ·by_cases hi:i=j
  ·subst hi
   have:=ownj e q
   subst this
   exact ⟨a,ha,ob.nf,ob.no,hh⟩
  ·have q':=owni i e hi q
   obtain ⟨b',e',ob'⟩:=S.ow i e q'
   refine ⟨b',e',ob'.nf,ob'.no,ob'.he.at (zp_ fun z=>hi (S.dj i j _ _ a q' hj (by rw [e',z]) ha))⟩
 ·have o1:∃ e,own ρ i e:=by
   by_cases hi:i=j
   ·exact ⟨c,hi▸hj⟩
   ·exact ⟨_,owni i _ hi q1⟩
  have o2:∃ e,own ρ k e:=by
   by_cases hk:k=j
   ·exact ⟨c,hk▸hj⟩
   ·exact ⟨_,owni k _ hk q2⟩
  exact S.dj i k _ _ b o1.choose_spec o2.choose_spec
 ·obtain ⟨q1,e,q2⟩:=S.pp i b q
  refine ⟨q1,?_⟩
  by_cases hi:i=j
  ·subst hi
   rcases kind with ⟨k1,k⟩|⟨k1,k⟩
   ·rw [k1] at q2;cases q2
   ·exact ⟨c',by rw [atj,k]⟩
  ·exact ⟨e,by rw [ne i hi];exact q2⟩
 ·by_cases hi:i=j
  ·subst hi
   rcases kind with ⟨k1,k⟩|⟨k1,k⟩
   ·rw [atj,k] at q;cases q
   ·exact S.pq i c k1
  ·rw [ne i hi] at q;exact S.pq i e q
end
end L3
set_option Elab.async false
set_option linter.all false
set_option maxRecDepth 100000
namespace L4
open PySem PySem.Spec PyProof.Rows L2 L3
noncomputable def TbOf (h:Heap) (e b:Addr):Prop:=∃ oe vs,h.get? e=some oe∧oe.data=.fields vs∧vs[1]? = some (.ref b)
structure Ent (fs:List Addr) (h h':Heap) (e T:Addr) (oe:Obj) (ts:Array Value):Prop where
 keep:∀ b o,h.get? b=some o→b∉fs→b≠e→h'.get? b=some o
 slot:∀ b o,h.get? b=some o→b≠e→∃ sl,h'.get? b=some { o with slots:=sl }
 new:h.objs.size≤T
 exc:h'.get? e=some (oe.mapFields (·.setIfInBounds 1 (.ref T)))
 way:∃ oT,h'.get? T=some oT∧oT.data=.fields ts
section
variable {M:Model} {A:Around} {E:Value→Shared→Prop} {s:Shared} {base:Heap} {env:Env} {outer:List Env} {L e:Addr} {oe:Obj} {vs:Array Value}
theorem Jz_ {top:Value} {nx:Bool} {Q:Unit→Shared→Prop} (hA:A.frames=some (env::outer)) (hF:s.heap.FunFrames base (env::outer)) (hL:env.frame=some L)
  (he:s.heap.get? e=some oe) (hd:oe.data=.fields vs) (hz:1<vs.size)
  (k:∀ h' T ts,Ent (frs (env::outer)) s.heap h' e T oe ts→3<ts.size→ts[3]? = some (rawInt L)→Q () { s with heap:=h' }) :
  wpAny M A (do let a ←frameOf env;let pl ←entryPlaceOf L nx;let b ←EntryCells.newEntry top a .none (rawInt L) .none pl;setField (.ref e) 1 b) Q E s:=by
 have ne:e∉frs (env::outer):=fun z=>by
  obtain ⟨_,o,q,r⟩:=hF.mem z
  rw [he] at q;cases q
  exact r vs hd
 refine wpAny_bind (wpAny_frameOf_fun hA hF hL fun h1 so=>wpAny_bind (wpAny_entryPlaceOf fun pl ip=>?_))
 simp only [EntryCells.newEntry,newFields]
 refine wpAny_bind (wpAny_newObj_type ?_ (ip.sizeOk5 _ _ _ _ _))
 generalize hts:([top,.ref L,.none,rawInt L,.none]++(if pl.isEmpty then List.replicate 6 Value.none else pl)).toArray=ts
 have z3:3<ts.size:=by
  rw [←hts,List.size_toArray,List.length_append]
  simp only [List.length_cons,List.length_nil]
  lia
 have g3:ts[3]? = some (rawInt L):=by rw [←hts];simp
 generalize htb:({ cls:=.type "traceback",dict:=none,data:=.fields ts }:Obj)=tb
 have fr:tb.isFreed=false:=by rw [←htb];rfl
 have e1:h1.get? e=some oe:=by rw [so.2.1 e ne];exact he
 have lt:e<h1.objs.size:=Heap.lt_size e1
 refine wpAny_setField (Heap.get?_push_of_some tb e1) hd hz ?_
 have hd':=Obj.data_mapFields hd (·.setIfInBounds 1 (Value.ref h1.objs.size))
 have up:∀ b,b≠e→((h1.push tb).update e (Obj.mapFields (·.setIfInBounds 1 (.ref h1.objs.size)))).get? b=(h1.push tb).get? b:=fun b hb=>Heap.get?_update_other _ _ (Ne.symm hb)
 refine k _ h1.objs.size ts ⟨fun b o q nf nb=>?_,fun b o q nb=>?_,by rw [so.1];exact Nat.le_refl _,?_,⟨tb,?_,?_⟩⟩ z3 g3
 ·exact (up b nb).trans (Heap.get?_push_of_some _ ((so.2.1 b nf).trans q))
 ·obtain ⟨sl,q'⟩:=so.2.2 b o q
  exact ⟨sl,(up b nb).trans (Heap.get?_push_of_some _ q')⟩
 ·exact Heap.get?_update_self _ (Heap.get?_push_of_some tb e1) (Obj.isFreed_of_fields hd')
 ·exact (up _ (Nat.ne_of_gt lt)).trans (Heap.get?_push_size h1 fr)
 ·rw [←htb]
end
structure XS (H:Hp) (h:Heap) (lo:Nat) (e C:Addr) (dd:Option Addr):Prop where
 yg:lo≤e
 trk:H e=some (.ext (XO e C dd))
 obj:∃ oe vs,h.get? e=some oe∧oe.cls=.ref C∧oe.dict=dd∧oe.data=.fields vs∧1<vs.size ∧
  (vs[1]? = some .none∨∃ T oT ts,vs[1]? = some (.ref T)∧T≠e∧lo≤T∧H T=none∧h.get? T=some oT∧oT.data=.fields ts∧ts[3]? = some .none)
structure Mv (fs:List Addr) (h h':Heap) (e:Addr):Prop where
 keep:∀ b o,h.get? b=some o→b∉fs→b≠e→¬ TbOf h e b→h'.get? b=some o
 slot:∀ b o,h.get? b=some o→b≠e→¬ TbOf h e b→∃ sl,h'.get? b=some { o with slots:=sl }
 there:∀ b o,h.get? b=some o→∃ o',h'.get? b=some o'
theorem Wm_ (f:Array Value→Array Value) (o:Obj):(o.mapFields f).dict=o.dict:=by
 obtain ⟨c,d,dt,sl⟩:=o
 cases dt<;>rfl
theorem zdG_ {L:Addr}:¬ ((Value.none==rawInt L)=true):=by simp [rawInt]
section
variable {M:Model} {A:Around} {E:Value→Shared→Prop} {s:Shared} {base:Heap} {env:Env} {outer:List Env} {L e C:Addr} {dd:Option Addr} {H:Hp} {lo:Nat} {P:Program} {w:World}
theorem Jy_ {oe:Obj} {vs:Array Value} {h0:Heap} {T:Addr} {ts:Array Value} {Q:Unit→Shared→Prop} (en:Ent (frs (env::outer)) h0 s.heap e T oe ts) (hd:oe.data=.fields vs) (hz:1<vs.size) (z3:3<ts.size) (hh:e<h0.objs.size)
  (k:∀ h',(∀ b,b≠T→h'.get? b=s.heap.get? b)→(∃ oT tz,h'.get? T=some oT∧oT.data=.fields tz∧tz[3]? = some .none)→Q () { s with heap:=h' }):wpAny M A (setFlight (.ref e) none) Q E s:=by
 obtain ⟨oT,q1,q2⟩:=en.way
 have d':=Obj.data_mapFields hd (·.setIfInBounds 1 (Value.ref T))
 simp only [setFlight]
 refine wpAny_bind (wpAny_field en.exc d' (x:=.ref T) (by simp [hz]) ?_)
 rw [if_pos (by simp)]
 refine wpAny_setField q1 q2 z3 (k _ (fun b hb=>Heap.get?_update_other _ _ (Ne.symm hb)) ⟨_,_,Heap.get?_update_self _ q1 (Obj.isFreed_of_fields (Obj.data_mapFields q2 _)),Obj.data_mapFields q2 _,by simp [z3]⟩)
theorem Qc_ {Q:Unit→Shared→Prop} (hA:A.frames=some (env::outer)) (hF:s.heap.FunFrames base (env::outer)) (hL:env.frame=some L) (hk:HOk P w H s.heap) (xs:XS H s.heap lo e C dd)
  (k:∀ h',Mv (frs (env::outer)) s.heap h' e→XS H h' lo e C dd→(∀ b,TbOf h' e b→s.heap.objs.size≤b)→Q () { s with heap:=h' }) :
  wpAny M A (noteFrame (.ref e) env) (fun _ s2=>wpAny M A (setFlight (.ref e) none) Q E s2) E s:=by
 obtain ⟨oe,vs,he,hc,hdd,hd,hz,tb⟩:=xs.obj
 have elt:e<s.heap.objs.size:=Heap.lt_size he
 have hlo:lo≤s.heap.objs.size:=Nat.le_trans xs.yg (Nat.le_of_lt elt)
 simp only [noteFrame,hL]
 rcases tb with tb|⟨T,oT,ts,tb,hTe,hTl,hTn,hT,hTd,t3⟩
 ·refine wpAny_bind (wpAny_field he hd tb ?_)
  rw [if_neg (by decide)]
  refine Jz_ hA hF hL he hd hz fun h1 T1 t1 en z3 g3=>?_
  refine Jy_ (s:={ s with heap:=h1 }) en hd hz z3 elt fun h2 same way=>?_
  have nT:∀ b o,s.heap.get? b=some o→b≠T1:=fun b o q=>Nat.ne_of_lt (Nat.lt_of_lt_of_le (Heap.lt_size q) en.new)
  have d1:=Obj.data_mapFields hd (·.setIfInBounds 1 (Value.ref T1))
  refine k h2 ⟨fun b o q nf nb _=>?_,fun b o q nb _=>?_,fun b o q=>?_⟩ ⟨xs.yg,xs.trk,_,_,?_,?_,?_,d1,by simpa using hz,.inr ?_⟩ ?_
  ·rw [same b (nT b o q)];exact en.keep b o q nf nb
  ·obtain ⟨sl,z⟩:=en.slot b o q nb
   exact ⟨sl,by rw [same b (nT b o q)];exact z⟩
  ·by_cases nb:b=e
   ·subst nb;exact ⟨_,by rw [same _ (nT _ o q)];exact en.exc⟩
   ·obtain ⟨sl,z⟩:=en.slot b o q nb
    exact ⟨_,by rw [same b (nT b o q)];exact z⟩
  ·rw [same e (nT e _ he)];exact en.exc
  ·rw [Obj.cls_mapFields];exact hc
  ·rw [Wm_];exact hdd
  ·obtain ⟨o1,tz,w1,w2,w3⟩:=way
   exact ⟨T1,o1,tz,by simp [hz],fun z=>nT e _ he z.symm,Nat.le_trans hlo en.new,hk.fresh en.new,w1,w2,w3⟩
  ·intro b ⟨oe',vs',g1,g2,g3⟩
   rw [same e (nT e _ he),en.exc] at g1
   cases g1
   rw [d1] at g2
   cases g2
   have:Value.ref T1=Value.ref b:=by simpa [hz] using g3
   injection this with this
   rw [←this]
   exact en.new
 ·refine wpAny_bind (wpAny_field he hd tb ?_)
  rw [if_pos (by simp)]
  refine wpAny_bind (wpAny_field hT hTd t3 ?_)
  rw [if_neg zdG_]
  have z3':3<ts.size:=(Array.getElem?_eq_some_iff.mp t3).1
  refine wpAny_bind (wpAny_setField hT hTd z3' ?_)
  have off:∀ b,b≠T→(s.heap.update T (Obj.mapFields (·.setIfInBounds 3 Value.none))).get? b=s.heap.get? b:=fun b hb=>Heap.get?_update_other _ _ (Ne.symm hb)
  have hF':(s.heap.update T (Obj.mapFields (·.setIfInBounds 3 Value.none))).FunFrames base (env::outer):=hF.of_keeps fun b o q r=>⟨o,(off b fun z=>by subst z;rw [hT] at q;cases q;exact r ts hTd).trans q,rfl⟩
  have he':(s.heap.update T (Obj.mapFields (·.setIfInBounds 3 Value.none))).get? e=some oe:=(off e (Ne.symm hTe)).trans he
  have zz:(s.heap.update T (Obj.mapFields (·.setIfInBounds 3 Value.none))).objs.size=s.heap.objs.size:=Heap.size_update ..
  refine Jz_ (s:={ s with heap:=s.heap.update T (Obj.mapFields (·.setIfInBounds 3 Value.none)) }) hA hF' hL he' hd hz fun h1 T1 t1 en z3 g3=>?_
  refine Jy_ (s:={ s with heap:=h1 }) en hd hz z3 (by rw [zz];exact elt) fun h2 same way=>?_
  have nw:s.heap.objs.size≤T1:=by have:=en.new;rw [zz] at this;exact this
  have nT:∀ b o,s.heap.get? b=some o→b≠T1:=fun b o q=>Nat.ne_of_lt (Nat.lt_of_lt_of_le (Heap.lt_size q) nw)
  have isT:TbOf s.heap e T:=⟨oe,vs,he,hd,tb⟩
  have nTT:∀ b,¬ TbOf s.heap e b→b≠T:=fun b z q=>z (q▸isT)
  have d1:=Obj.data_mapFields hd (·.setIfInBounds 1 (Value.ref T1))
  have T0:(s.heap.update T (Obj.mapFields (·.setIfInBounds 3 Value.none))).get? T=some (oT.mapFields (·.setIfInBounds 3 Value.none)):=Heap.get?_update_self _ hT (Obj.isFreed_of_fields (Obj.data_mapFields hTd _))
  refine k h2 ⟨fun b o q nf nb nt=>?_,fun b o q nb nt=>?_,fun b o q=>?_⟩ ⟨xs.yg,xs.trk,_,_,?_,?_,?_,d1,by simpa using hz,.inr ?_⟩ ?_
  ·rw [same b (nT b o q)];exact en.keep b o ((off b (nTT b nt)).trans q) nf nb
  ·obtain ⟨sl,z⟩:=en.slot b o ((off b (nTT b nt)).trans q) nb
   exact ⟨sl,by rw [same b (nT b o q)];exact z⟩
  ·by_cases nb:b=e
   ·subst nb;exact ⟨_,by rw [same _ (nT _ o q)];exact en.exc⟩
   ·by_cases nt:b=T
    ·subst nt
     obtain ⟨sl,z⟩:=en.slot b _ T0 nb
     exact ⟨_,by rw [same b (nT b o q)];exact z⟩
    ·obtain ⟨sl,z⟩:=en.slot b o ((off b nt).trans q) nb
     exact ⟨_,by rw [same b (nT b o q)];exact z⟩
  ·rw [same e (nT e _ he)];exact en.exc
  ·rw [Obj.cls_mapFields];exact hc
  ·rw [Wm_];exact hdd
  ·obtain ⟨o1,tz,w1,w2,w3⟩:=way
   exact ⟨T1,o1,tz,by simp [hz],fun z=>nT e _ he z.symm,Nat.le_trans hlo nw,hk.fresh nw,w1,w2,w3⟩
  ·intro b ⟨oe',vs',g1,g2,g3⟩
   rw [same e (nT e _ he),en.exc] at g1
   cases g1
   rw [d1] at g2
   cases g2
   have:Value.ref T1=Value.ref b:=by simpa [hz] using g3
   injection this with this
   rw [←this]
   exact nw
theorem QT_ {Q:Unit→Shared→Prop} (hA:A.frames=some (env::outer)) (hF:s.heap.FunFrames base (env::outer)) (hL:env.frame=some L) (hk:HOk P w H s.heap) (xs:XS H s.heap lo e C dd)
  (k:∀ h',Mv (frs (env::outer)) s.heap h' e→XS H h' lo e C dd→Q () { s with heap:=h' }):wpAny M A (leaving env (.ref e)) Q E s:=by
 unfold leaving
 exact wpAny_bind (Qc_ hA hF hL hk xs fun h' m x _=>k h' m x)
end
end L4
set_option Elab.async false
set_option linter.all false
set_option maxRecDepth 100000
namespace L4
open PySem PySem.Spec PyProof.Rows L2 L3
section
variable {fs:List Addr} {h h':Heap} {e C:Addr} {dd:Option Addr} {H:Hp} {lo:Nat} {P:Program} {w:World}
theorem XO.ok {H':Hp} (x:XO e C dd h):ObjOk P w H' h e (.ext (XO e C dd)):=by
 obtain ⟨oe,q,r⟩:=x
 exact ⟨⟨oe,q,r⟩,⟨oe,q⟩,fun h1 h2 ⟨o,z,r⟩ k=>⟨o,k o z,r⟩⟩
theorem XS.xo (xs:XS H h lo e C dd):XO e C dd h:=by
 obtain ⟨oe,vs,q,c,d,z,_⟩:=xs.obj
 exact ⟨oe,q,c,d,by unfold PySem.W.notCls;rw [z]⟩
theorem XS.tb (xs:XS H h lo e C dd) {b:Addr} (t:TbOf h e b):H b=none∧lo≤b∧b≠e∧∃ oT ts,h.get? b=some oT∧oT.data=.fields ts:=by
 obtain ⟨oe,vs,q,c,d,z,_,k⟩:=xs.obj
 obtain ⟨oe',vs',q',z',k'⟩:=t
 rw [q] at q';cases q'
 rw [z] at z';cases z'
 rcases k with k|⟨T,oT,ts,k,ne,l,n,g,gd,_⟩
 ·rw [k] at k';cases k'
 ·rw [k] at k'
  cases k'
  exact ⟨n,l,ne,oT,ts,g,gd⟩
theorem XS.tb_list (xs:XS H h lo e C dd):∃ ch:List Addr,∀ b,b∈ch↔TbOf h e b:=by
 obtain ⟨oe,vs,q,c,d,z,_,k⟩:=xs.obj
 rcases k with k|⟨T,oT,ts,k,_⟩
 ·exact ⟨[],fun b=>⟨fun z=>(nomatch z),fun ⟨oe',vs',q',z',k'⟩=>by rw [q] at q';cases q';rw [z] at z';cases z';rw [k] at k';cases k'⟩⟩
 ·refine ⟨[T],fun b=>⟨fun y=>?_,fun ⟨oe',vs',q',z',k'⟩=>?_⟩⟩
  ·rw [List.mem_singleton.mp y];exact ⟨oe,vs,q,z,k⟩
  ·rw [q] at q';cases q'
   rw [z] at z';cases z'
   rw [k] at k';cases k'
   exact List.mem_singleton.mpr rfl
theorem Mv.hok (m:Mv fs h h' e) (ok:HOk P w H h) (xs:XS H h lo e C dd) (xs':XS H h' lo e C dd) (hf:∀ b∈fs,H b=none):HOk P w H h':=fun a o q=>by
 by_cases ae:a=e
 ·subst ae
  rw [xs.trk] at q;cases q
  exact xs'.xo.ok
 ·refine (ok a o q).stay (fun b u hb z=>?_) (fun _ z=>z) fun _ _ z=>z
  have hbH:∃ v,H b=some v:=by
   rcases hb with rfl|hb
   ·exact ⟨o,q⟩
   ·exact ⟨_,hb⟩
  obtain ⟨v,hv⟩:=hbH
  refine m.keep b u z (fun y=>by rw [hf b y] at hv;cases hv) (fun y=>?_) fun y=>by rw [(xs.tb y).1] at hv;cases hv
  subst y
  rcases hb with rfl|hb
  ·exact ae rfl
  ·rw [xs.trk] at hb;cases hb
theorem Mv.un {ch:List Addr} (m:Mv fs h h' e) (xs:XS H h lo e C dd) (hc:∀ b,b∈ch↔TbOf h e b):Un fs ch H H h h' where
 keep:=fun b o q n hb hx=>m.keep b o q hb (fun z=>by subst z;rw [xs.trk] at n;cases n) fun z=>hx ((hc b).mpr z)
 slot:=fun b o q n hb hx=>m.slot b o q (fun z=>by subst z;rw [xs.trk] at n;cases n) fun z=>hx ((hc b).mpr z)
 free:=fun _ _ _ n _=>n
 there:=fun b o q _=>m.there b o q
 tups:=fun _ _ z=>z
 frzs:=fun _ _ _ z=>z
 tbls:=fun b ps z=>⟨#[],by rw [z];simp⟩
end
section
variable {X:Cx} {pins:List (Addr×Obj)} {σ:L2.St} {H:Hp} {s:Shared} {h':Heap} {e C:Addr} {dd:Option Addr} {lo:Nat}
theorem Inv.mv (I:Inv X pins σ H s) (m:Mv (frs X.stack) s.heap h' e) (xs:XS H s.heap lo e C dd) (xs':XS H h' lo e C dd) (hlo:X.s₀.heap.objs.size≤lo) (hp:∀ p∈X.pn++pins,¬ TbOf s.heap e p.1) (t':Nat):Inv X pins σ H { s with heap:=h',toks:=t' }:=by
 obtain ⟨ch,hc⟩:=xs.tb_list
 refine I.call (g':=s.gens) (d':=s.drawn) (t':=t') (m.un xs hc) (m.hok I.hok xs xs' I.stkFree) I.bare fun b hb=>?_
 have tb:=(hc b).mp hb
 obtain ⟨n,l,ne,oT,ts,g,gd⟩:=xs.tb tb
 refine ⟨.inr (Nat.le_trans hlo l),fun z=>?_,fun x c q z=>?_,fun p hp' z=>hp p hp' (z▸tb)⟩
 ·subst z
  obtain ⟨m,⟨o,es,ep,ho,hd,_⟩,_⟩:=I.loc
  rw [g] at ho;cases ho
  rw [gd] at hd;cases hd
 ·subst z
  obtain ⟨v,o,ho,hd⟩:=I.cell x c q
  rw [g] at ho;cases ho
  rw [gd] at hd;cases hd
end
noncomputable def CX1 (P:Program) (w:World):CXT:=fun outer H s E e s'=>∃ a C dd H',e=.ref a∧s'.os=s.os∧AllBare s'.gens∧Un (frs outer) [] H H' s.heap s'.heap∧HOk P w H' s'.heap∧XS H' s'.heap s.heap.objs.size a C dd∧E (.ref C) dd H'
theorem zaF_ {P:Program} {w:World} {K:Fg} {mg:Str→Option Value} {base:Heap} {N:List Str} {qual:Str} {scope:Scope} {f:Addr} {cd:Value} {A:Around} {outer:List Env} {s:Shared} {H:Hp} {E:XK}
  {pins:List (Addr×Obj)} {σ:L2.St} {H':Hp} {s':Shared} {a C:Addr} {dd:Option Addr} (I:Inv (cxOf (CX1 P w) P w K mg base N qual scope f cd A outer s H E) pins σ H' s') (xs:XS H' s'.heap s.heap.objs.size a C dd) (hE:E (.ref C) dd H') :
  (cxOf (CX1 P w) P w K mg base N qual scope f cd A outer s H E).xe (.ref a) s':=by
 have hF:=I.stack
 have hS:=I.stkFree
 refine QT_ (base:=base) (L:=s.heap.objs.size) (P:=P) (w:=w) (s:=s') I.ok.frames hF rfl I.hok xs fun h1 m xs1=>?_
 have un:Un (frs outer) [] H H' s.heap s'.heap:=I.base
 have lt:∀ b o,s.heap.get? b=some o→b<s.heap.objs.size:=fun b o q=>Heap.lt_size q
 have ne:∀ b o,s.heap.get? b=some o→b≠a:=fun b o q=>Nat.ne_of_lt (Nat.lt_of_lt_of_le (lt b o q) xs.yg)
 have nt:∀ b o,s.heap.get? b=some o→¬ TbOf s'.heap a b:=fun b o q z=>absurd (Nat.lt_of_lt_of_le (lt b o q) (xs.tb z).2.1) (Nat.lt_irrefl _)
 refine ⟨a,C,dd,H',rfl,I.os,I.bare,⟨fun b o q n hb hx=>?_,fun b o q n hb hx=>?_,un.free,fun b o q hx=>?_,un.tups,un.frzs,un.tbls⟩,m.hok I.hok xs xs1 hS,xs1,hE⟩
 ·refine m.keep b o (un.keep b o q n hb hx) (fun z=>?_) (ne b o q) (nt b o q)
  rcases List.mem_cons.mp (I.stkSub b z) with y|y
  ·exact absurd (lt b o q) (by rw [y];exact Nat.lt_irrefl _)
  ·exact hb y
 ·obtain ⟨sl,z⟩:=un.slot b o q n hb hx
  obtain ⟨sl',z'⟩:=m.slot b _ z (ne b o q) (nt b o q)
  exact ⟨sl',z'⟩
 ·obtain ⟨o',z⟩:=un.there b o q hx
  exact m.there b o' z
end L4
set_option Elab.async false
set_option linter.all false
set_option maxRecDepth 100000
namespace L4
open PySem PySem.Spec PyProof.Rows L2 L3 PySem.W
theorem zcS_ {K:Frag} {C D fI:Addr} (c:XC K C D fI):∃ cd,PySem.W.clsIn K C=some cd∧cd.mro=.ref C::.ref D::bmV∧cd.hasDict=true:=by
 obtain ⟨nm,q,N,bs,sn,sub,ab,col,dd,k0,k1,k2,k3,k5,lk⟩:=c.obj
 refine ⟨_,by unfold PySem.W.clsIn;rw [lk],rfl,rfl⟩
section
variable {prog:Program} {w:World} {A:Around} {E:Value→Shared→Prop} {s:Shared} {K:Frag} {x C:Addr} {ox:Obj} {od:Option Obj}
theorem zaR_ {Q:Option Value→Shared→Prop} (X:K.In s.heap) (I:PySem.W.InstAt s.heap x ox C od) (hga:findIn K (.ref C) "__getattribute__" = some (some (.builtin "BaseException.__getattribute__"))) (hgr:findIn K (.ref C) "__getattr__" = some none) (hb:mroIn K C (.type "BaseException")=some true)
  (hf:findObj K C od "__class__" = some (.bind (.builtin "getset_descriptor.__get__") (.builtin "object.__class__"))) (hm:mroIn K C (.type "object")=some true) (h:Q (some (.ref C)) { s with toks:=s.toks+1 }):wpAny (model prog w) A (getAttr? (.ref x) "__class__") Q E s:=by
 obtain ⟨hp,g,d,t,os⟩:=s
 have L0:=I.type (M:=model prog w)
 have L1:=looks_findIn (M:=model prog w) X hga
 have L2:=looks_findIn (M:=model prog w) X hgr
 have L3:=looks_find (M:=model prog w) X I hf
 have L4:=looks_mroIn (M:=model prog w) X hb
 have bnd:=F.attr_ValueError.ga.bind (.ref x)
 have ok:=F.args_bexc_ga (.ref x) (.str "__class__" t)
 have kd:builtinKind "BaseException.__getattribute__" = some .slot:=by decide +kernel
 have sp:splitId "BaseException.__getattribute__" = some ("BaseException", "__getattribute__"):=by decide +kernel
 unfold getAttr? getAttrBy?
 refine wpAny_bind (wpAny_mkText (wpAny_bind (wpAny_attempt ?_)))
 unfold getAttrBy
 refine wpAny_holding (wpAny_bind (L0.at (wpAny_bind (L1.at ?_))))
 show wpAny _ _ (getAttrByItsOwn _ _ _ _ _ _) _ _ _
 unfold getAttrByItsOwn
 repeat (any_goals (first|assumption|with_reducible refine L0.at ?_|with_reducible refine L2.at ?_|wp_step))
 refine codeAny_call_builtin F.attr_ValueError.ga.plain F.entry_bexc_ga ?_
 simp only [checkBuiltinCall,kd,sp]
 refine wpAny_bind ?_
 unfold isInstance
 refine wpAny_bind (L0.at (L4.at ?_))
 repeat (any_goals (first|assumption|with_reducible refine L0.at ?_|with_reducible refine L3.at ?_|wp_step))
 refine class_get (s:=⟨hp,g,d,t+1,os⟩) (ox:=ox) (od:=od) X I hm ?_
 exact wpAny_pure (handed_on rfl (wpAny_pure h))
theorem Xi_ {D fI:Addr} (c:XC K C D fI) (hb:mroIn K C (.type "BaseException")=some true)
  (hf:findObj K C od "__class__" = some (.bind (.builtin "getset_descriptor.__get__") (.builtin "object.__class__"))) (hm:mroIn K C (.type "object")=some true) :
  KitX K (.ref x) (.ref C) (fun h=>PySem.W.InstAt h x ox C od) where
 ty:=fun _ _ _ I=>I.type
 it:=fun _ _ X _=>by
  obtain ⟨nm,q,N,bs,sn,sub,ab,col,dd,k0,k1,k2,k3,k5,ho⟩:=c.obj
  intro A' Q' E' s' k q
  unfold isType loadHead
  exact wpAny_bind (wpAny_loadPart (k _ _ (X _ _ ho)) (wpAny_pure q))
 ne:=fun h tp dd its n sl X htp=>by
  obtain ⟨nm,q,N,bs,sn,sub,ab,col,dd',k0,k1,k2,k3,k5,ho⟩:=c.obj
  refine Bool.eq_false_iff.mpr fun q=>?_
  have e:C=tp:=Value.ref.inj (beq_iff_eq.mp q)
  subst e
  have z:=(X _ _ ho).symm.trans htp
  injection z with z
  injection z with z1 z2 z3
  cases z3
 ca:=fun X I k=>zaR_ X I c.ga c.gr hb hf hm k
end
noncomputable def XAt (H:Hp) (a C:Addr) (dd:Option Addr):Prop:=H a=some (.ext (XO a C dd))∧∀ dx,dd=some dx→∃ fv,H dx=some (.ext (XD dx fv))
theorem Wd_ {X:Cx} {pins:List (Addr×Obj)} {σ:L2.St} {H:Hp} {s:Shared} {a C:Addr} {dd:Option Addr} (I:Inv X pins σ H s) (h:XAt H a C dd):∃ ox od,PySem.W.InstAt s.heap a ox C od:=by
 obtain ⟨h1,h2⟩:=h
 obtain ⟨⟨oe,q1,q2,q3,q4⟩,_⟩:=I.hok a _ h1
 cases dd with
 | none=>exact ⟨oe,none,q1,q2,q4,by rw [q3];trivial⟩
 | some dx =>
  obtain ⟨fv,h2⟩:=h2 dx rfl
  obtain ⟨⟨mA,na,wi,r⟩,_⟩:=I.hok dx _ h2
  obtain ⟨od,z1,hlk⟩:=V3_ na
  exact ⟨oe,some od,q1,q2,q4,by rw [q3];exact z1⟩
theorem J3_ {K:Frag} {C:Addr} {od:Option Obj} {name:Str} {a g:Value} (hc:(clsIn K C).isSome=true) (ha:findIn K (.ref C) name=some (some a)) (hg:specialIn K a "__get__" = some (some g)) (ht:takesIn K a=some true):findObj K C od name=some (.bind g a):=by
 obtain ⟨cd,hc⟩:=Option.isSome_iff_exists.mp hc
 unfold findObj
 rw [hc,Option.bind_some,ha,Option.bind_some]
 simp [hg,ht]
section
variable {X:Cx} {pins:List (Addr×Obj)} {σ:L2.St} {H:Hp} {s:Shared} {a C D fI:Addr} {dd:Option Addr} {Q:Value→Shared→Prop} {E:Value→Shared→Prop} {b:Bool}
theorem Ju_ (c:XC X.K C D fI) (kc:KC X.K C) {ox:Obj} {od:Option Obj}:KitX X.K (.ref a) (.ref C) (fun h=>PySem.W.InstAt h a ox C od):=by
 obtain ⟨cd,k1,k2,k3⟩:=zcS_ c
 refine Xi_ c (by unfold PySem.W.mroIn;rw [k1,Option.bind_some,k2];rfl) (J3_ (by rw [k1];rfl) kc.ha kc.hn kc.htk) (by unfold PySem.W.mroIn;rw [k1,Option.bind_some,k2];rfl)
theorem QV_ (I:Inv X pins σ H s) (c:XC X.K C D fI) (kc:KC X.K C) (h:XAt H a C dd) {cv:Value} (e:kitOne X.K (.ref C) cv=some b) (q:∀ tk,Q (.bool b) { s with toks:=tk }) :
  wpAny (model X.prog X.w) X.A (call (.builtin "isinstance") [.ref a,cv]) Q E s:=by
 obtain ⟨ox,od,It⟩:=Wd_ I h
 exact kia_one (Ju_ c kc) I.kIn It e (fun z=>nomatch z) q
theorem YD_ (I:Inv X pins σ H s) (c:XC X.K C D fI) (kc:KC X.K C) (h:XAt H a C dd) {tp:Addr} {d:Option Addr} {its:List Value} {n:Nat} {sl:Array (Option Value)} (ht:s.heap.get? tp=some ⟨.type "tuple",d,.seq its.toArray n,sl⟩)
  (e:kitAny X.K (.ref C) its=some b) (q:∀ tk,Q (.bool b) { s with toks:=tk }):wpAny (model X.prog X.w) X.A (call (.builtin "isinstance") [.ref a,.ref tp]) Q E s:=by
 obtain ⟨ox,od,It⟩:=Wd_ I h
 exact kia_tup (Ju_ c kc) I.kIn It ht e (fun z=>nomatch z) q
end
end L4
set_option Elab.async false
set_option linter.all false
set_option maxRecDepth 100000
namespace L4
open PySem PySem.Spec PyProof.Rows L2 L3
structure Ex where
 cls:Str
 fs:List (Str×D)
inductive M (S:Type) where
 | ret (s:S)
 | exc (x:Ex)
 | bad
noncomputable def M.on {S T:Type} (m:M S) (x:Ex→M T) (k:S→M T):M T:=match m with
 | .ret s=>k s
 | .exc e=>x e
 | .bad=>.bad
noncomputable def bd {S T:Type} (m:M S) (k:S→M T):M T:=m.on .exc k
noncomputable def oM {S:Type} (o:Option S):M S:=match o with
 | some s=>.ret s
 | none=>.bad
section
variable {S T U:Type}
@[simp] theorem zcr_ (s:S) (x:Ex→M T) (k:S→M T):(M.ret s).on x k=k s:=rfl
@[simp] theorem uF_ (s:S) (k:S→M T):bd (.ret s) k=k s:=rfl
end
noncomputable abbrev Pu (α:Type):=En→M α
noncomputable def XR (K:Fg) (F:Hp) (C:Addr) (dd:Option Addr) (x:Ex):Prop:=XQ K C x.cls ∧
 ∃ fv,FX F dd fv∧Paired (fun (p:Str×V) (q:Str×D)=>p.1=q.1∧Rep K F p.2 q.2) fv x.fs
noncomputable def encX (x:Ex):D:=.dict ((.none,.str x.cls)::x.fs.map fun p=>(.str p.1,p.2))
theorem Jq_ {K:Fg} {F:Hp}:∀ {fv:List (Str×V)} {fs:List (Str×D)},Paired (fun (p:Str×V) (q:Str×D)=>p.1=q.1∧Rep K F p.2 q.2) fv fs→(fs.map fun p=>((PyData.str p.1,p.2):D×D)).map (·.1)=fv.map (fun p=>.str p.1)∧RepL K F (fv.map (·.2)) ((fs.map fun p=>((PyData.str p.1,p.2):D×D)).map (·.2))
:=by
 intro fv fs h
 induction h with
 | nil=>exact ⟨rfl,.nil⟩
 | cons h _ ih=>exact ⟨by simp only [List.map_cons,ih.1,h.1],by simp only [List.map_cons];exact .cons h.2 ih.2⟩
theorem XR.rep {K:Fg} {F:Hp} {a C:Addr} {dd:Option Addr} {x:Ex} (h:XR K F C dd x) (e:F a=some (.ext (XO a C dd))):Rep K F (.ref a) (encX x):=by
 obtain ⟨q,fv,fx,p⟩:=h
 exact .exc e q fx (Jq_ p).1 (Jq_ p).2
theorem XR.mono {K:Fg} {F F':Hp} {C:Addr} {dd:Option Addr} {x:Ex} (s:Same F F') (h:XR K F C dd x):XR K F' C dd x:=by
 obtain ⟨q,fv,fx,p⟩:=h
 refine ⟨q,fv,fx.mono s,?_⟩
 clear fx q
 revert p
 generalize x.fs=fs
 intro p
 induction p with
 | nil=>exact .nil
 | cons h t ih=>exact .cons ⟨h.1,h.2.mono s⟩ ih
structure FzOk (K:Fg) (F:Hp) (σ:L2.St) (ρ:En):Prop where
 ln:σ.length=ρ.length
 fz:∀ (i:Nat) (d:D),ρ[i]? = some (some (AV.fz d))→∃ v,σ[i]? = some (some v)∧Rep K F v d
theorem _root_.L3.StOk.fzok {K:Fg} {G:Gh} {F F' H:Hp} {σ:L2.St} {ρ:En} (S:StOk K G F σ H ρ) (s:Same F F'):FzOk K F' σ ρ:=⟨S.ln,fun i d q=>by
 obtain ⟨v,e,r⟩:=S.fz i d q
 exact ⟨v,e,r.mono s⟩⟩
structure GOk (G:Gh) (F H:Hp):Prop where
 fh:Same F H
 oh:Same G.O H
 fo:∀ b o,G.O b=some o→F b=none∧NoTE o
 fb:Same G.B F
noncomputable def XW (X:Cx) (G:Gh) (F:Hp) (ρ:En) (x:Ex):Prop:=∀ F' H' s' a C dd pins σ,GOk G F' H'→FzOk X.K F' σ ρ→Inv X pins σ H' s'→XS H' s'.heap X.s₀.heap.objs.size a C dd→(∀ p∈X.pn++pins,¬ TbOf s'.heap a p.1)→XR X.K F' C dd x→X.xe (.ref a) s'
theorem XW.mono {X:Cx} {G:Gh} {F F':Hp} {ρ:En} {x:Ex} (s:Same F F') (h:XW X G F ρ x):XW X G F' ρ x:=h
noncomputable def W (X:Cx) (G:Gh) (F:Hp) (σ:L2.St) (ρ:En) {α:Type} (m:M α) (C:α→Hp→Hp→Prop):Prop:=match m with
 | .ret a=>∀ F' H',Same F F'→StOk X.K G F' σ H' ρ→C a F' H'
 | .exc x=>XW X G F ρ x
 | .bad=>False
section
variable {X:Cx} {G:Gh} {F F' H:Hp} {σ:L2.St} {ρ:En} {α β:Type} {m:M α} {k:α→M β} {C C':α→Hp→Hp→Prop}
theorem W.up {C:β→Hp→Hp→Prop} {m:M β} (s:Same F F') (h:W X G F σ ρ m C):W X G F' σ ρ m C:=by
 cases m with
 | ret a=>exact fun F2 H2 s2 S2=>h F2 H2 (s.trans s2) S2
 | exc x=>exact XW.mono (X:=X) (G:=G) (ρ:=ρ) (x:=x) s h
 | bad=>exact h
theorem W.bind {C:β→Hp→Hp→Prop} (h:W X G F σ ρ (bd m k) C):W X G F σ ρ m fun a F' H'=>W X G F' σ ρ (k a) C:=by
 cases m with
 | ret a=>exact fun F2 H2 s2 S2=>W.up s2 h
 | exc x=>exact h
 | bad=>exact h
theorem W.imp (h:W X G F σ ρ m C) (w:∀ a F' H',Same F F'→StOk X.K G F' σ H' ρ→C a F' H'→C' a F' H'):W X G F σ ρ m C':=by
 cases m with
 | ret a=>exact fun F2 H2 s2 S2=>w a F2 H2 s2 S2 (h F2 H2 s2 S2)
 | exc x=>exact h
 | bad=>exact h
theorem W.opt {o:Option α} (h:W X G F σ ρ (oM o) C):∃ a,o=some a∧∀ F' H',Same F F'→StOk X.K G F' σ H' ρ→C a F' H':=by
 cases o with
 | none=>exact h.elim
 | some a=>exact ⟨a,rfl,h⟩
end
@[irreducible] noncomputable def tSem (X:Cx) (e:Expr):TE:=fun σ H Q=>∀ (pins:List (Addr×Obj)) (s:Shared),Inv X pins σ H s→wpAny (model X.prog X.w) X.A (eval e X.env) (EP X pins σ Q) X.xe s
@[irreducible] noncomputable def QG_ (X:Cx) (e:Expr):TT:=fun σ H Q=>∀ (pins:List (Addr×Obj)) (s:Shared),Inv X pins σ H s→wpAny (model X.prog X.w) X.A (isTrue e X.env (eval e X.env)) (TP X pins σ Q) X.xe s
@[irreducible] noncomputable def QF_ (X:Cx) (e:Expr):TT:=fun σ H Q=>∀ (whole:Sem Value) (pins:List (Addr×Obj)) (s:Shared),Inv X pins σ H s→wpAny (model X.prog X.w) X.A (isTrue e X.env whole) (TP X pins σ Q) X.xe s
@[irreducible] noncomputable def Zr_ (X:Cx) (es:List Expr):TA:=fun σ H Q=>∀ (pos:Pos) (pins:List (Addr×Obj)) (s:Shared),Inv X pins σ H s→wpAny (model X.prog X.w) X.A (spliced (backTo pos (starEach es X.env))) (AP X pins σ Q) X.xe s
section
variable {X:Cx} {e:Expr} {es:List Expr} {σ:L2.St} {H:Hp}
theorem zs_:PE X e (tSem X e):=fun pins s σ H Q I h=>by unfold tSem at h;exact h pins s I
theorem yz_:PT X e (QG_ X e):=fun pins s σ H Q I h=>by unfold QG_ at h;exact h pins s I
theorem Y4_:PW X e (QF_ X e):=fun wh pins s σ H Q I h=>by unfold QF_ at h;exact h wh pins s I
theorem j7_:PA X es (Zr_ X es):=fun pos pins s σ H Q I h=>by unfold Zr_ at h;exact h pos pins s I
theorem sem {t:TE} {Q:VK} (h:PE X e t) (q:t σ H Q):tSem X e σ H Q:=by unfold tSem;exact fun pins s I=>h pins s σ H Q I q
theorem semT {t:TT} {Q:Bool→Hp→Prop} (h:PT X e t) (q:t σ H Q):QG_ X e σ H Q:=by unfold QG_;exact fun pins s I=>h pins s σ H Q I q
theorem semW {t:TT} {Q:Bool→Hp→Prop} (h:PW X e t) (q:t σ H Q):QF_ X e σ H Q:=by unfold QF_;exact fun wh pins s I=>h wh pins s σ H Q I q
theorem semA {t:TA} {Q:List V→Hp→Prop} (h:PA X es t) (q:t σ H Q):Zr_ X es σ H Q:=by unfold Zr_;exact fun pos pins s I=>h pos pins s σ H Q I q
end
noncomputable def ownL (ρ:En) (i:Nat):Option (List D):=match ρ[i]? with
 | some (some (.ol (.l ds)))=>some ds
 | some (some (.op (.l ds)))=>some ds
 | _=>none
theorem Zk_ {ρ:En} {i:Nat} {ds:List D} (h:ownL ρ i=some ds):own ρ i (.l ds):=by
 unfold ownL at h
 split at h
 ·rename_i q;cases h;exact .inl q
 ·rename_i q;cases h;exact .inr q
 ·cases h
noncomputable def VO (K:Fg) (F:Hp) (σ:L2.St) (ρ:En) (v:V) (d:D):Prop:=Rep K F v d∨∃ i c,own ρ i c∧σ[i]? = some (some v)∧d=c.d
inductive VOs (K:Fg) (F:Hp) (σ:L2.St) (ρ:En):List V→List D→Prop
 | nil:VOs K F σ ρ [] []
 | cons {v d vs ds}:VO K F σ ρ v d→VOs K F σ ρ vs ds→VOs K F σ ρ (v::vs) (d::ds)
theorem VO.mono {K:Fg} {F F':Hp} {σ:L2.St} {ρ:En} {v:V} {d:D} (s:Same F F') (h:VO K F σ ρ v d):VO K F' σ ρ v d:=h.imp (Rep.mono s) id
noncomputable def OR (K:Fg) (F H:Hp) (v:V) (d:D):Prop:=Rep K F v d∨∃ a c,v=.ref a∧d=c.d∧Held K F H a c
inductive ORs (K:Fg) (F H:Hp):List V→List D→Prop
 | nil:ORs K F H [] []
 | cons {v d vs ds}:OR K F H v d→ORs K F H vs ds→ORs K F H (v::vs) (d::ds)
theorem VO.or {K:Fg} {G:Gh} {F H:Hp} {σ:L2.St} {ρ:En} {v:V} {d:D} (S:StOk K G F σ H ρ) (h:VO K F σ ρ v d):OR K F H v d:=by
 rcases h with h|⟨i,c,ho,hv,rfl⟩
 ·exact .inl h
 ·obtain ⟨a,e1,oa⟩:=S.ow i _ ho
  rw [hv] at e1
  injection e1 with e1;injection e1 with e1
  exact .inr ⟨a,c,e1,rfl,oa.he⟩
theorem VOs.ors {K:Fg} {G:Gh} {F H:Hp} {σ:L2.St} {ρ:En} (S:StOk K G F σ H ρ):∀ {vs ds},VOs K F σ ρ vs ds→ORs K F H vs ds
 | _,_,.nil=>.nil
 | _,_,.cons h t=>.cons (h.or S) (t.ors S)
section
variable {K:Fg} {F H:Hp} {v:V} {ds:List D}
theorem OR.rep {d:D} (s:Same F H) (h:OR K F H v d):Rep K H v d:=by
 rcases h with h|⟨a,c,rfl,rfl,h1⟩
 ·exact h.mono s
 ·obtain ⟨o,e,r⟩:=Wf_ h1;exact r H s e
theorem OR.list (s:Same F H) (h:OR K F H v (.list ds)):∃ a vs,v=.ref a∧SqL K H a vs∧RepL K F vs ds:=by
 rcases h with h|⟨a,c,e,e2,h1⟩
 ·obtain ⟨a,vs,e,h1,h2⟩:=h.lst_inv
  exact ⟨a,vs,e,s.seq h1,h2⟩
 ·cases c<;>cases e2
  obtain ⟨vs,h1,h2⟩:=h1
  exact ⟨a,vs,e,.inl (.inl h1),h2⟩
theorem OR.tuple (s:Same F H) (h:OR K F H v (.tuple ds)):∃ a vs,v=.ref a∧SqT K H a vs∧RepL K F vs ds:=by
 rcases h with h|⟨a,c,e,e2,h1⟩
 ·obtain ⟨a,vs,e,h1,h2⟩:=h.tup_inv
  exact ⟨a,vs,e,SqT.of (s _ _ h1),h2⟩
 ·cases c<;>cases e2
theorem OR.tup' (h:OR K F H v (.tuple ds)):Rep K F v (.tuple ds):=by
 rcases h with h|⟨a,c,e,e2,h1⟩
 ·exact h
 ·cases c<;>cases e2
theorem OR.int {i:Int} (h:OR K F H v (.int i)):v=.int i:=by
 rcases h with h|⟨a,c,e,e2,h1⟩
 ·exact h.inv
 ·cases c<;>cases e2
theorem OR.bool {i:Bool} (h:OR K F H v (.bool i)):v=.bl i:=by
 rcases h with h|⟨a,c,e,e2,h1⟩
 ·exact h.inv
 ·cases c<;>cases e2
theorem OR.str {i:Str} (h:OR K F H v (.str i)):v=.str i:=by
 rcases h with h|⟨a,c,e,e2,h1⟩
 ·exact h.inv
 ·cases c<;>cases e2
theorem OR.none (h:OR K F H v .none):v=.non:=by
 rcases h with h|⟨a,c,e,e2,h1⟩
 ·exact h.inv
 ·cases c<;>cases e2
theorem jD_ {vs:List V} {d:D} {ds:List D} (h:ORs K F H vs (d::ds)):∃ v r,vs=v::r∧OR K F H v d∧ORs K F H r ds:=by
 cases h with|cons a b=>exact ⟨_,_,rfl,a,b⟩
theorem ur_ {vs:List V} (h:ORs K F H vs []):vs=[]:=by cases h;rfl
end
noncomputable def AP (X:Cx) (e:Expr) (p:Pu D):Prop :=
 ∀ (G:Gh) (F:Hp) (σ:L2.St) (H:Hp) (ρ:En) (Q:VK),StOk X.K G F σ H ρ→W X G F σ ρ (p ρ) (fun d F' H'=>∀ v,Rep X.K F' v d→Q v H')→tSem X e σ H Q
noncomputable def AO (X:Cx) (e:Expr) (p:Pu D):Prop :=
 ∀ (G:Gh) (F:Hp) (σ:L2.St) (H:Hp) (ρ:En) (Q:VK),StOk X.K G F σ H ρ→W X G F σ ρ (p ρ) (fun d F' H'=>∀ v,VO X.K F' σ ρ v d→Q v H')→tSem X e σ H Q
noncomputable def AT (X:Cx) (e:Expr) (p:Pu Bool):Prop :=
 ∀ (G:Gh) (F:Hp) (σ:L2.St) (H:Hp) (ρ:En) (Q:Bool→Hp→Prop),StOk X.K G F σ H ρ→W X G F σ ρ (p ρ) (fun d F' H'=>Q d H')→QG_ X e σ H Q
noncomputable def AW (X:Cx) (e:Expr) (p:Pu Bool):Prop :=
 ∀ (G:Gh) (F:Hp) (σ:L2.St) (H:Hp) (ρ:En) (Q:Bool→Hp→Prop),StOk X.K G F σ H ρ→W X G F σ ρ (p ρ) (fun d F' H'=>Q d H')→QF_ X e σ H Q
noncomputable def AB (X:Cx) (e:Expr) (p:Pu Bool):Prop :=
 ∀ (G:Gh) (F:Hp) (σ:L2.St) (H:Hp) (ρ:En) (Q:VK),StOk X.K G F σ H ρ→W X G F σ ρ (p ρ) (fun d F' H'=>Q (.bl d) H')→tSem X e σ H Q
noncomputable def AA {α:Type} (X:Cx) (es:List Expr) (m:(List D→M α)→En→M α):Prop :=
 ∀ (G:Gh) (F:Hp) (σ:L2.St) (H:Hp) (ρ:En) (Q:List V→Hp→Prop) (k:List D→M α) (C:α→Hp→Hp→Prop),StOk X.K G F σ H ρ→W X G F σ ρ (m k ρ) C →
  (∀ ds vs F' H',Same F F'→StOk X.K G F' σ H' ρ→vs.length=es.length→RepL X.K F' vs ds→W X G F' σ ρ (k ds) C→Q vs H')→Zr_ X es σ H Q
noncomputable def AAo {α:Type} (X:Cx) (es:List Expr) (m:(List D→M α)→En→M α):Prop :=
 ∀ (G:Gh) (F:Hp) (σ:L2.St) (H:Hp) (ρ:En) (Q:List V→Hp→Prop) (k:List D→M α) (C:α→Hp→Hp→Prop),StOk X.K G F σ H ρ→W X G F σ ρ (m k ρ) C →
  (∀ ds vs F' H',Same F F'→StOk X.K G F' σ H' ρ→VOs X.K F' σ ρ vs ds→W X G F' σ ρ (k ds) C→Q vs H')→Zr_ X es σ H Q
noncomputable def Frs (K:Fg) (G:Gh) (F:Hp) (σ:L2.St) (H:Hp) (ρ:En) (v:V) (c:OC):Prop:=∃ a,v=.ref a∧OwnAt K G F H a c∧∀ (i:Nat) (e:OC),own ρ i e→σ[i]? ≠ some (some (V.ref a))
noncomputable def AL (X:Cx) (e:Expr) (p:Pu (List D)):Prop :=
 ∀ (G:Gh) (F:Hp) (σ:L2.St) (H:Hp) (ρ:En) (Q:VK),StOk X.K G F σ H ρ→W X G F σ ρ (p ρ) (fun ds F' H'=>∀ v,Frs X.K G F' σ H' ρ v (.l ds)→Q v H')→tSem X e σ H Q
noncomputable def pVar (i:Nat):Pu D:=fun ρ=>match ρ[i]? with
 | some (some (.fz d))=>.ret d
 | _=>.bad
noncomputable def zce_ (i:Nat):Pu D:=fun ρ=>match ρ[i]? with
 | some (some (.ol c))=>.ret c.d
 | some (some (.op c))=>.ret c.d
 | _=>.bad
noncomputable def pCon (d:D):Pu D:=fun _=>.ret d
noncomputable def pBin (f:D→D→Option D) (a b:Pu D):Pu D:=fun ρ=>bd (a ρ) fun x=>bd (b ρ) fun y=>oM (f x y)
noncomputable def zci_ (f:D→D→Option Bool) (a b:Pu D):Pu Bool:=fun ρ=>bd (a ρ) fun x=>bd (b ρ) fun y=>oM (f x y)
noncomputable abbrev Pa (α:Type):=(List D→M α)→En→M α
noncomputable def pNil {α:Type}:Pa α:=fun k _=>k []
noncomputable def zcg_ {α:Type} (a:Pu D) (r:Pa α):Pa α:=fun k ρ=>bd (a ρ) fun x=>r (fun xs=>k (x::xs)) ρ
noncomputable def fitM {S:Type} (ds:List S):M (List S):=if ds.length≤sizeLine then .ret ds else .bad
noncomputable def pTup (ps:Pa D):Pu D:=fun ρ=>ps (fun ds=>.ret (.tuple ds)) ρ
noncomputable def pLst (ps:Pa (List D)):Pu (List D):=fun ρ=>ps (fun ds=>.ret ds) ρ
theorem UN_ {n:Nat} (h:n≤1000):n≤sizeLine:=Nat.le_trans h (by decide)
noncomputable def zch_ (f:List D→Option D) (ps:Pa D):Pu D:=fun ρ=>ps (fun ds=>oM (f ds)) ρ
noncomputable def VM_ (f:List D→Option (List D)) (ps:Pa (List D)):Pu (List D):=fun ρ=>ps (fun ds=>oM (f ds)) ρ
noncomputable def pB (p:Pu Bool):Pu D:=fun ρ=>bd (p ρ) fun b=>.ret (.bool b)
noncomputable def pZ (p:Pu (List D)):Pu D:=fun ρ=>bd (p ρ) fun ds=>.ret (.list ds)
noncomputable def asB (d:D):M Bool:=match d with
 | .bool b=>.ret b
 | _=>.bad
noncomputable def pAsB (p:Pu D):Pu Bool:=fun ρ=>bd (p ρ) asB
noncomputable def truD:D→Option Bool
 | .none=>some false
 | .bool b=>some b
 | .int i=>some (i != 0)
 | .str x=>if x.length≤sizeLine then some ((x.length:Int) != 0) else none
 | .list ds=>some (!ds.isEmpty)
 | .tuple ds=>some (!ds.isEmpty)
 | .dict _=>none
noncomputable def pTru (p:Pu D):Pu Bool:=fun ρ=>bd (p ρ) fun d=>oM (truD d)
noncomputable def pAnd (a b:Pu Bool):Pu Bool:=fun ρ=>bd (a ρ) fun t=>if t then b ρ else .ret false
noncomputable def pOr (a b:Pu Bool):Pu Bool:=fun ρ=>bd (a ρ) fun t=>if t then .ret true else b ρ
noncomputable def pNot (a:Pu Bool):Pu Bool:=fun ρ=>bd (a ρ) fun t=>.ret (!t)
noncomputable def pIf {α:Type} (c:Pu Bool) (a b:Pu α):Pu α:=fun ρ=>bd (c ρ) fun t=>if t then a ρ else b ρ
noncomputable def OpD (K:Fg) (r:R2) (f:D→D→Option D):Prop :=
 ∀ (G:Gh) (F:Hp) (σ:L2.St) (H:Hp) (ρ:En) (x y:V) (dx dy:D) (res:D) (Q:VK),StOk K G F σ H ρ→OR K F H x dx→OR K F H y dy→f dx dy=some res →
  (∀ v F' H',Same F F'→StOk K G F' σ H' ρ→Rep K F' v res→Q v H')→r x y H Q
noncomputable def OpB (K:Fg) (r:R2) (f:D→D→Option Bool):Prop :=
 ∀ (G:Gh) (F:Hp) (σ:L2.St) (H:Hp) (ρ:En) (x y:V) (dx dy:D) (res:Bool) (Q:VK),StOk K G F σ H ρ→OR K F H x dx→OR K F H y dy→f dx dy=some res→Q (.bl res) H→r x y H Q
noncomputable def Ug_ (K:Fg) (r:List V→Hp→VK→Prop) (f:List D→Option D):Prop :=
 ∀ (G:Gh) (F:Hp) (σ:L2.St) (H:Hp) (ρ:En) (xs:List V) (ds:List D) (res:D) (Q:VK),StOk K G F σ H ρ→ORs K F H xs ds→f ds=some res →
  (∀ v F' H',Same F F'→StOk K G F' σ H' ρ→Rep K F' v res→Q v H')→r xs H Q
section
variable {X:Cx} {e a b c:Expr} {es rest:List Expr} {p pa pb:Pu D} {ta tb tc:Pu Bool} {ps:Pa D} {pb':Pa Bool} {pl:Pa (List D)} {α:Type} {pα:Pa α} {qs:Pu (List D)} {pos:Pos}
theorem zcX_ {i:Nat} {x:Str} (hN:X.N[i]? = some x) (hv:Vis X.env.scope x) (hd:(x==("__debug__" : Str))=false:=by decide) (hcd:(x==("__classdict__" : Str))=false:=by decide):AP X (.Name x pos) (pVar i) :=
 fun G F σ H ρ Q S w=>sem (Jp_ hN hv hd hcd)<|by
  unfold pVar at w
  split at w
  ·rename_i d q
   obtain ⟨v,e1,r1⟩:=S.fz i d q
   exact ⟨v,e1,w F H (Same.refl _) S v r1⟩
  ·exact w.elim
theorem yd_ {i:Nat} {x:Str} (hN:X.N[i]? = some x) (hv:Vis X.env.scope x) (hd:(x==("__debug__" : Str))=false:=by decide) (hcd:(x==("__classdict__" : Str))=false:=by decide):AO X (.Name x pos) (zce_ i) :=
 fun G F σ H ρ Q S w=>sem (Jp_ hN hv hd hcd)<|by
  have go:∀ c:OC,own ρ i c→W X G F σ ρ (.ret c.d) (fun d F' H'=>∀ v,VO X.K F' σ ρ v d→Q v H')→tVar i σ H Q:=fun ds ho w=>by
   obtain ⟨a,e1,oa⟩:=S.ow i _ ho
   exact ⟨_,e1,w F H (Same.refl _) S _ (.inr ⟨i,ds,ho,e1,rfl⟩)⟩
  unfold zce_ at w
  split at w
  ·rename_i ds q;exact go ds (.inl q) w
  ·rename_i ds q;exact go ds (.inr q) w
  ·exact w.elim
theorem ao (h:AP X e p):AO X e p:=fun G F σ H ρ Q S w=>h G F σ H ρ Q S (w.imp fun d F' H' _ _ q v r=>q v (.inl r))
theorem Yd_ {v:V} {d:D} (h:PE X e (tC v)) (r:∀ F,Rep X.K F v d):AP X e (pCon d) :=
 fun G F σ H ρ Q S w=>sem h (w F H (Same.refl _) S v (r F))
theorem zc_ {i j}:AP X (.Constant (.int i) j pos) (pCon (.int i)):=Yd_ zcb_ fun _=>.int _
theorem ZX_ {i j}:AP X (.Constant (.bool i) j pos) (pCon (.bool i)):=Yd_ zdz_ fun _=>.bl _
theorem jb_ {i j}:AP X (.Constant (.str i) j pos) (pCon (.str i)):=Yd_ zbV_ fun _=>.str _
theorem WD_ {j}:AP X (.Constant .none j pos) (pCon .none):=Yd_ zbY_ fun _=>.non
theorem Qv_ {r:R2} {Q:VK} {G:Gh} {F H:Hp} {σ:L2.St} {ρ:En} {α:Type} {f:D→D→M α} {C:α→Hp→Hp→Prop} (ha:AO X a pa) (hb:AO X b pb) (S:StOk X.K G F σ H ρ) (w:W X G F σ ρ (bd (pa ρ) fun x=>bd (pb ρ) fun y=>f x y) C)
  (k:∀ x y dx dy F' H',Same F F'→StOk X.K G F' σ H' ρ→OR X.K F' H' x dx→OR X.K F' H' y dy→W X G F' σ ρ (f dx dy) C→r x y H' Q):tOp r (tSem X a) (tSem X b) σ H Q :=
 ha G F σ H ρ _ S (w.bind.imp fun dx F1 H1 s1 S1 w1 x hx=>hb G F1 σ H1 ρ _ S1 (w1.bind.imp fun dy F2 H2 s2 S2 w2 y hy=>k x y dx dy F2 H2 (s1.trans s2) S2 ((hx.mono s2).or S2) (hy.or S2) w2))
theorem zl_ {op:Operator} {r:R2} {f:D→D→Option D} (ho:OpR X (binaryOp op) r) (hf:OpD X.K r f) (ha:AO X a pa) (hb:AO X b pb):AP X (.BinOp a op b pos) (pBin f pa pb) :=
 fun G F σ H ρ Q S w=>sem (zbW_ ho zs_ zs_) (Qv_ ha hb S w fun x y dx dy F' H' s' S' hx hy w'=>by
  obtain ⟨res,e,k⟩:=w'.opt
  exact hf G F' σ H' ρ x y dx dy res Q S' hx hy e fun v F2 H2 s2 S2 r2=>k F2 H2 s2 S2 v r2)
theorem zG_ {r:R2} {f:D→D→Option D} (hr:IxR X r) (hf:OpD X.K r f) (ha:AO X a pa) (hb:AO X b pb) (hs:YQ_ b):AP X (.Subscript a b pos) (pBin f pa pb) :=
 fun G F σ H ρ Q S w=>sem (zca_ hr zs_ zs_ hs) (Qv_ ha hb S w fun x y dx dy F' H' s' S' hx hy w'=>by
  obtain ⟨res,e,k⟩:=w'.opt
  exact hf G F' σ H' ρ x y dx dy res Q S' hx hy e fun v F2 H2 s2 S2 r2=>k F2 H2 s2 S2 v r2)
theorem WH_ {op:CmpOp} {r:R2} {f:D→D→Option Bool} (ho:OpR X (compareOp op) r) (hf:OpB X.K r f) (ha:AO X a pa) (hb:AO X b pb) (hm:behindInMarks op b=false):AB X (.Compare a [op] [b] pos) (zci_ f pa pb) :=
 fun G F σ H ρ Q S w=>sem (zar_ ho zs_ zs_ hm) (Qv_ ha hb S w fun x y dx dy F' H' s' S' hx hy w'=>by
  obtain ⟨res,e,k⟩:=w'.opt
  exact hf G F' σ H' ρ x y dx dy res Q S' hx hy e (k F' H' (Same.refl _) S'))
theorem zA_ {op:CmpOp} {r:R2} {f:D→D→Option Bool} (ho:OpR X (compareOp op) r) (hf:OpB X.K r f) (ha:AO X a pa) (hb:AO X b pb) (hm:behindInMarks op b=false):AT X (.Compare a [op] [b] pos) (zci_ f pa pb) :=
 fun G F σ H ρ Q S w=>semT (VA_ ho zs_ zs_ hm) (Qv_ (Q:=fun x H'=>∃ k,x=.bl k∧Q k H') ha hb S w fun x y dx dy F' H' s' S' hx hy w'=>by
  obtain ⟨res,e,k⟩:=w'.opt
  exact hf G F' σ H' ρ x y dx dy res _ S' hx hy e ⟨res,rfl,k F' H' (Same.refl _) S'⟩)
theorem ap_b (h:AB X e ta):AP X e (pB ta):=fun G F σ H ρ Q S w=>h G F σ H ρ Q S (w.bind.imp fun b F' H' s1 S1 w1=>w1 F' H' (Same.refl _) S1 _ (.bl b))
theorem ap_z (h:AL X e qs):AP X e (pZ qs):=fun G F σ H ρ Q S w=>h G F σ H ρ Q S (w.bind.imp fun ds F' H' s1 S1 w1 v fr=>by
 obtain ⟨F2,s2,S2,r2⟩:=S1.settle (v:=v) (ds:=ds) fr
 exact w1 F2 H' s2 S2 v r2)
theorem zj_:AA (α:=α) X [] pNil:=fun G F σ H ρ Q k C S w kk=>semA Jr_ (kk [] [] F H (Same.refl _) S rfl .nil w)
theorem zb_ (h:AP X e p) (hr:AA X es pα) (hs:starEach (e::es) X.env=(false,eval e X.env)::starEach es X.env):AA X (e::es) (zcg_ p pα) :=
 fun G F σ H ρ Q k C S w kk=>semA (uL_ zs_ j7_ hs) (h G F σ H ρ _ S (w.bind.imp fun d F1 H1 s1 S1 w1 v r1 =>
  hr G F1 σ H1 ρ _ _ C S1 w1 fun ds vs F2 H2 s2 S2 hl r2 w2=>kk (d::ds) (v::vs) F2 H2 (s1.trans s2) S2 (by simp [hl]) (.cons (r1.mono s2) r2) w2))
theorem zK_:AAo (α:=α) X [] pNil:=fun G F σ H ρ Q k C S w kk=>semA Jr_ (kk [] [] F H (Same.refl _) S .nil w)
theorem zu_ (h:AO X e p) (hr:AAo X es pα) (hs:starEach (e::es) X.env=(false,eval e X.env)::starEach es X.env):AAo X (e::es) (zcg_ p pα) :=
 fun G F σ H ρ Q k C S w kk=>semA (uL_ zs_ j7_ hs) (h G F σ H ρ _ S (w.bind.imp fun d F1 H1 s1 S1 w1 v r1 =>
  hr G F1 σ H1 ρ _ _ C S1 w1 fun ds vs F2 H2 s2 S2 r2 w2=>kk (d::ds) (v::vs) F2 H2 (s1.trans s2) S2 (.cons (r1.mono s2) r2) w2))
theorem W.fit {α:Type} {G:Gh} {F:Hp} {σ:L2.St} {ρ:En} {ds:List α} {C:List α→Hp→Hp→Prop} (h:W X G F σ ρ (fitM ds) C):ds.length≤sizeLine∧∀ F' H',Same F F'→StOk X.K G F' σ H' ρ→C ds F' H':=by
 unfold fitM at h
 split at h
 ·exact ⟨by assumption,h⟩
 ·exact h.elim
theorem zN_ {x1} (h:AA X es ps) (hz:es.length≤1000):AP X (.Tuple es x1 pos) (pTup ps) :=
 fun G F σ H ρ Q S w=>sem (VG_ j7_) (h G F σ H ρ _ _ _ S w fun ds vs F1 H1 s1 S1 hl r1 w1=>by
  refine ⟨by rw [hl];exact UN_ hz,fun q hq=>?_⟩
  obtain ⟨s2,S2,r2⟩:=S1.newTup hq r1
  exact w1 _ _ s2 S2 _ r2)
theorem yL_ (h:AA X es pl) (hz:es.length≤1000):AL X (.List es pos) (pLst pl) :=
 fun G F σ H ρ Q S w=>sem (zbZ_ j7_) (h G F σ H ρ _ _ _ S w fun ds vs F1 H1 s1 S1 hl r1 w1=>by
  refine ⟨by rw [hl];exact UN_ hz,fun q hq=>?_⟩
  obtain ⟨S2,r2⟩:=S1.newLst hq r1
  exact w1 _ _ (Same.refl _) S2 _ r2)
theorem Wx_ {r:List V→Hp→VK→Prop} {Q:VK} {G:Gh} {F H:Hp} {σ:L2.St} {ρ:En} {f:List D→M α} {C:α→Hp→Hp→Prop} (ha:AAo X es pα) (S:StOk X.K G F σ H ρ) (w:W X G F σ ρ (pα f ρ) C)
  (k:∀ xs ds F' H',Same F F'→StOk X.K G F' σ H' ρ→ORs X.K F' H' xs ds→W X G F' σ ρ (f ds) C→r xs H' Q):tCB r (Zr_ X es) σ H Q :=
 ha G F σ H ρ _ _ C S w fun ds xs F1 H1 s1 S1 hx w1=>k xs ds F1 H1 s1 S1 (hx.ors S1) w1
theorem jn_ {x:Str} {p:Pos} {id:String} {r:List V→Hp→VK→Prop} {f:List D→Option D} (hc:CallR X (.builtin id) r) (hf:Ug_ X.K r f) (hg:Gl X x) (hm:X.mg x=none) (hv:bootBuiltins x=some (.builtin id)) (ha:AAo X (e::es) ps)
  (hn:x ≠ "__name__") (hdb:(x==("__debug__" : Str))=false) (he:starEach (e::es) X.env=(false,eval e X.env)::starEach es X.env) (hpl:(backTo pos (starEach es X.env)).any (·.1)=false):AP X (.Call (.Name x p) (e::es) [] pos) (zch_ f ps) :=
 fun G F σ H ρ Q S w=>sem (Zj_ hc hg hm hv j7_ hn hdb he hpl) (Wx_ ha S w fun xs ds F' H' s' S' hx w'=>by
  obtain ⟨res,e,k⟩:=w'.opt
  exact hf G F' σ H' ρ xs ds res Q S' hx e fun v F2 H2 s2 S2 r2=>k F2 H2 s2 S2 v r2)
theorem zV_ {x:Str} {p:Pos} {T:String} {r:List V→Hp→VK→Prop} {f:List D→Option D} (hc:CallR X (.type T) r) (hf:Ug_ X.K r f) (hg:Gl X x) (hm:X.mg x=none) (hv:bootBuiltins x=some (.type T)) (ha:AAo X (e::es) ps)
  (hn:x ≠ "__name__") (hdb:(x==("__debug__" : Str))=false) (he:starEach (e::es) X.env=(false,eval e X.env)::starEach es X.env) (hpl:(backTo pos (starEach es X.env)).any (·.1)=false):AP X (.Call (.Name x p) (e::es) [] pos) (zch_ f ps) :=
 fun G F σ H ρ Q S w=>sem (VI_ hc hg hm hv j7_ hn hdb he hpl) (Wx_ ha S w fun xs ds F' H' s' S' hx w'=>by
  obtain ⟨res,e,k⟩:=w'.opt
  exact hf G F' σ H' ρ xs ds res Q S' hx e fun v F2 H2 s2 S2 r2=>k F2 H2 s2 S2 v r2)
theorem y4_ {K:Fg} {F:Hp} {vs:List V} {ds:List D} (h:RepL K F vs ds):(!vs.isEmpty) = !ds.isEmpty:=by cases h<;>rfl
theorem XW_ (ha:AT X a ta):AW X (.BoolOp .Or [a] pos) ta:=fun G F σ H ρ Q S w=>semW (zbL_ yz_) (ha G F σ H ρ Q S w)
theorem zaV_ (ha:AT X a ta) (hb:AW X (.BoolOp .Or (b::rest) pos) tb):AW X (.BoolOp .Or (a::b::rest) pos) (pOr ta tb) :=
 fun G F σ H ρ Q S w=>semW (zdu_ yz_ Y4_) (ha G F σ H ρ _ S (w.bind.imp fun t F1 H1 s1 S1 w1=>by
  cases t with
  | true=>refine iteT ?_;exact w1 F1 H1 (Same.refl _) S1
  | false=>refine iteF ?_;exact hb G F1 σ H1 ρ Q S1 w1))
theorem zcT_ (h:AW X e ta):AT X e ta:=fun G F σ H ρ Q S w=>semT (fun pins s σ H Q I h=>Y4_ _ pins s σ H Q I h) (h G F σ H ρ Q S w)
theorem XC_ (h:AP X a pa):AB X a (pAsB pa):=fun G F σ H ρ Q S w=>h G F σ H ρ Q S (w.bind.imp fun d F1 H1 s1 S1 w1 v r=>by
 cases r with
 | bl b=>exact w1 F1 H1 (Same.refl _) S1
 | non=>exact w1.elim
 | int i=>exact w1.elim
 | str i=>exact w1.elim
 | tup _ _=>exact w1.elim
 | lst _ _=>exact w1.elim
 | dct _ _ _=>exact w1.elim
 | dck _ _ _=>exact w1.elim
 | exc _ _ _ _ _=>exact w1.elim
 | fn _=>exact w1.elim)
theorem WE_ {op} (h:AB X a ta):AB X (.BoolOp op [a] pos) ta:=fun G F σ H ρ Q S w=>sem (zbX_ zs_) (h G F σ H ρ Q S w)
theorem WI_ (ha:AB X a ta) (hb:AB X (.BoolOp .And (b::rest) pos) tb):AB X (.BoolOp .And (a::b::rest) pos) (pAnd ta tb) :=
 fun G F σ H ρ Q S w=>sem (zcc_ zs_ zs_) (ha G F σ H ρ _ S (w.bind.imp fun t F1 H1 s1 S1 w1=>⟨t,rfl,by
  cases t with
  | true=>refine iteT ?_;exact hb G F1 σ H1 ρ Q S1 w1
  | false=>refine iteF ?_;exact w1 F1 H1 (Same.refl _) S1⟩))
theorem zdX_ (ha:AB X a ta) (hb:AB X (.BoolOp .Or (b::rest) pos) tb):AB X (.BoolOp .Or (a::b::rest) pos) (pOr ta tb) :=
 fun G F σ H ρ Q S w=>sem (zdx_ zs_ zs_) (ha G F σ H ρ _ S (w.bind.imp fun t F1 H1 s1 S1 w1=>⟨t,rfl,by
  cases t with
  | true=>refine iteT ?_;exact w1 F1 H1 (Same.refl _) S1
  | false=>refine iteF ?_;exact hb G F1 σ H1 ρ Q S1 w1⟩))
theorem ZW_ (hc:AT X c tc) (ha:AP X a pa) (hb:AP X b pb):AP X (.IfExp c a b pos) (pIf tc pa pb) :=
 fun G F σ H ρ Q S w=>sem (Y8_ yz_ zs_ zs_) (hc G F σ H ρ _ S (w.bind.imp fun t F1 H1 s1 S1 w1=>by
  cases t with
  | true=>refine iteT ?_;exact ha G F1 σ H1 ρ Q S1 w1
  | false=>refine iteF ?_;exact hb G F1 σ H1 ρ Q S1 w1))
end
end L4
set_option Elab.async false
set_option linter.all false
set_option maxRecDepth 100000
namespace L4
open PySem PySem.Spec PyProof.Rows L2 L3
noncomputable def VZ_ (i j:Int):Bool:=(decide (-(2^64)<i)&&decide (i<2^64))||(decide (-(2^64)<j)&&decide (j<2^64))
noncomputable def zC_:D→D→Option D
 | .int i,.int j=>some (.int (i+j))
 | .str a,.str b=>if a.length+b.length≤sizeLine then some (.str (a++b)) else none
 | .tuple a,.tuple b=>if a.length+b.length≤sizeLine then some (.tuple (a++b)) else none
 | .list a,.list b=>if a.length+b.length≤sizeLine then some (.list (a++b)) else none
 | _,_=>none
noncomputable def uM_:D→D→Option D
 | .int i,.int j=>some (.int (i - j))
 | _,_=>none
noncomputable def z1_:D→D→Option D
 | .int i,.int j=>if VZ_ i j then some (.int (i*j)) else none
 | _,_=>none
noncomputable def ZD_:D→D→Option D
 | .int i,.int j=>if decide (0<j)&&decide (j<1073741824) then some (.int (i / j)) else none
 | _,_=>none
noncomputable def uy_:D→D→Option D
 | .int i,.int j=>if 0<j then some (.int (i % j)) else none
 | _,_=>none
noncomputable def VR_:D→D→Option D
 | .int i,.int j=>if decide (0≤j)&&decide (j≤1000000)&&decide (i.natAbs<2^64) then some (.int (i^j.toNat)) else none
 | _,_=>none
noncomputable def opLt:D→D→Option Bool
 | .int i,.int j=>some (decide (i<j))
 | _,_=>none
noncomputable def opLe:D→D→Option Bool
 | .int i,.int j=>some (decide (i≤j))
 | _,_=>none
noncomputable def opGt:D→D→Option Bool
 | .int i,.int j=>some (decide (j<i))
 | _,_=>none
noncomputable def opGe:D→D→Option Bool
 | .int i,.int j=>some (decide (j≤i))
 | _,_=>none
noncomputable def zbJ_ (K:Fg):R2:=fun x y H Q=>∃ a b xs ys,x=.ref a∧y=.ref b∧SqT K H a xs∧SqT K H b ys∧xs.length+ys.length≤sizeLine ∧
 (xs=[]→Q (.ref b) H)∧(xs≠[]→ys=[]→Q (.ref a) H)∧(xs≠[]→ys≠[]→∀ p,H p=none→Q (.ref p) (upd H p (.tup (xs++ys))))
theorem op_cat0 {X:Cx}:OpR X (binaryOp .Add) (zbJ_ X.K):=by
 intro pins s σ H x y v u Q I rx ry h
 obtain ⟨a,b,xs,ys,rfl,rfl,ha,hb,hz,q0,q1,q2⟩:=h
 by_cases hx:xs=[]
 ·cases rx
  cases ry
  obtain ⟨its,r1,p1,_⟩:=I.tuple ha
  obtain ⟨its2,r2,p2,_⟩:=I.tuple hb
  have hv:its=[]:=r1.nil_iff.mpr hx
  obtain ⟨⟨cls,dd,data,sl⟩,ho,hc,n,hd⟩:=id p1
  obtain ⟨⟨cls2,dd2,data2,sl2⟩,ho2,hc2,n2,hd2⟩:=id p2
  simp only at hc hd hc2 hd2
  subst hc hd hc2 hd2
  exact concat_meets ⟨_,ho,rfl⟩ ⟨_,ho2,rfl⟩ noFill_tuple_add seq_tuple_add PySem.F.slot_tuple_add PySem.F.entry_tuple_add (PySem.F.args_tuple_add_2 _ _)
   (tuple_addW0 a b its.toArray its2.toArray n n2 dd dd2 sl sl2 (by simp [hv])) ⟨ho,ho2,⟨.ref b,H,I,rfl,q0 hx⟩⟩
 ·exact zax_ pins s σ H _ _ v u Q I rx ry ⟨a,b,xs,ys,rfl,rfl,ha,hb,hx,hz,q1 hx,q2 hx⟩
section
variable {K:Fg} {X:Cx}
theorem noS {α:Type} {a:α} {P:Prop} (e:(none:Option α)=some a):P:=nomatch e
theorem okI {C:Int→Int→Prop} {g:Int→Int→V} {f:D→D→Option D} (h:∀ dx dy res,f dx dy=some res→∃ i j,dx=.int i∧dy=.int j∧C i j∧∀ K F,Rep K F (g i j) res):OpD K (rI C g) f:=by
 intro G F σ H ρ x y dx dy res Q S ox oy e k
 obtain ⟨i,j,rfl,rfl,hc,hr⟩:=h dx dy res e
 exact ⟨i,j,ox.int,oy.int,hc,k _ F H (Same.refl _) S (hr K F)⟩
theorem okB {g:Int→Int→Bool} {f:D→D→Option Bool} (h:∀ dx dy res,f dx dy=some res→∃ i j,dx=.int i∧dy=.int j∧res=g i j):OpB K (rI0 fun i j=>.bl (g i j)) f:=by
 intro G F σ H ρ x y dx dy res Q S ox oy e k
 obtain ⟨i,j,rfl,rfl,rfl⟩:=h dx dy res e
 exact ⟨i,j,ox.int,oy.int,k⟩
theorem yC_:OpD K (rI0 fun i j=>.int (i - j)) uM_:=by
 intro G F σ H ρ x y dx dy res Q S ox oy e k
 cases dx<;>first|exact noS e|(cases dy<;>first|exact noS e|cases e)
 exact ⟨_,_,ox.int,oy.int,k _ F H (Same.refl _) S (.int _)⟩
theorem zdD_:OpB K (rI0 fun i j=>.bl (decide (i<j))) opLt:=okB fun dx dy res e=>by
 cases dx<;>first|exact noS e|(cases dy<;>first|exact noS e|cases e)
 exact ⟨_,_,rfl,rfl,rfl⟩
theorem zdE_:OpB K (rI0 fun i j=>.bl (decide (i≤j))) opLe:=okB fun dx dy res e=>by
 cases dx<;>first|exact noS e|(cases dy<;>first|exact noS e|cases e)
 exact ⟨_,_,rfl,rfl,rfl⟩
theorem VV_:OpB K (rI0 fun i j=>.bl (decide (j<i))) opGt:=okB fun dx dy res e=>by
 cases dx<;>first|exact noS e|(cases dy<;>first|exact noS e|cases e)
 exact ⟨_,_,rfl,rfl,rfl⟩
theorem zcv_:OpB K (rI0 fun i j=>.bl (decide (j≤i))) opGe:=okB fun dx dy res e=>by
 cases dx<;>first|exact noS e|(cases dy<;>first|exact noS e|cases e)
 exact ⟨_,_,rfl,rfl,rfl⟩
theorem UD_:OpD K (rI CDiv fun i j=>.int (i / j)) ZD_:=okI fun dx dy res e=>by
 cases dx<;>first|exact noS e|(cases dy<;>try (exact noS e))
 rename_i i j
 dsimp only [ZD_] at e
 split at e
 ·rename_i hc
  cases e
  simp only [Bool.and_eq_true,decide_eq_true_eq] at hc
  exact ⟨i,j,rfl,rfl,hc,fun _ _=>.int _⟩
 ·cases e
theorem u3_:OpD K (rI (fun _ j=>0<j) fun i j=>.int (i % j)) uy_:=okI fun dx dy res e=>by
 cases dx<;>first|exact noS e|(cases dy<;>try (exact noS e))
 rename_i i j
 dsimp only [uy_] at e
 split at e
 ·rename_i hc
  cases e
  exact ⟨i,j,rfl,rfl,hc,fun _ _=>.int _⟩
 ·cases e
theorem zcs_:OpD K (rI CPow fun i j=>.int (i^j.toNat)) VR_:=okI fun dx dy res e=>by
 cases dx<;>first|exact noS e|(cases dy<;>try (exact noS e))
 rename_i i j
 dsimp only [VR_] at e
 split at e
 ·rename_i hc
  cases e
  simp only [Bool.and_eq_true,decide_eq_true_eq] at hc
  exact ⟨i,j,rfl,rfl,⟨hc.1.1,hc.1.2,hc.2⟩,fun _ _=>.int _⟩
 ·cases e
theorem y1_ {F:Hp} {vs:List V} {ds:List D} (r:RepL K F vs ds):vs=[]↔ds=[]:=by cases r<;>simp
noncomputable def zbI_ (K:Fg):R2:=fun x y H Q=>∃ l b xs zs,x=.ref l∧y=.ref b∧SqL K H l xs∧SqL K H b zs∧xs.length+zs.length≤sizeLine∧∀ p,H p=none→Q (.ref p) (upd H p (.lst (xs++zs)))
theorem zay_:OpR X (binaryOp .Add) (zbI_ X.K):=by
 intro pins s σ H x y v u Q I rx ry h
 obtain ⟨l,b,xs,zs,rfl,rfl,hH,hB,hz,q⟩:=h
 cases rx
 cases ry
 obtain ⟨its,r,pl,_⟩:=I.list hH
 obtain ⟨its2,r2,pl2,_⟩:=I.list hB
 obtain ⟨⟨cls,dd,data,sl⟩,ho,hc,n,hd⟩:=id pl.isList
 obtain ⟨⟨cls2,dd2,data2,sl2⟩,ho2,hc2,n2,hd2⟩:=id pl2.isList
 simp only at hc hd hc2 hd2
 subst hc hd hc2 hd2
 have e:its.toArray++its2.toArray=(its++its2).toArray:=by simp
 refine concat_meets ⟨_,ho,rfl⟩ ⟨_,ho2,rfl⟩ noFill_list_add seq_list_add PySem.F.slot_list_add PySem.F.entry_list_add (PySem.F.args_list_add_2 _ _) (list_addW l b its.toArray its2.toArray n n2 dd dd2 sl sl2 (by rw [List.size_toArray,List.size_toArray,←r.length,←r2.length];exact hz)) ⟨ho,ho2,?_⟩
 rw [e]
 exact ⟨.ref _,_,I.laid (t':=s.toks) (o:=.lst (xs++zs)) (fun b ob q=>Heap.get?_push_of_some _ q) (Nat.le_refl _) ⟨by rw [List.length_append];exact hz,_,0,r.append r2,Heap.get?_push_size _ rfl⟩,rfl,q _ (I.hok.fresh (Nat.le_refl _))⟩
noncomputable def zdr_:R2:=fun x y H Q=>∃ i j,x=.str i∧y=.str j∧i.length+j.length≤sizeLine∧Q (.str (i++j)) H
noncomputable def zbK_ (K:Fg):R2:=fun x y H Q=>rI0 (fun i j=>.int (i+j)) x y H Q∨(zdr_ x y H Q∨(zbJ_ K x y H Q∨zbI_ K x y H Q))
theorem zw_:OpR X (binaryOp .Add) (zbK_ X.K):=op_add.or (OpR.or QN_ (op_cat0.or zay_))
theorem zP_:OpD K (zbK_ K) zC_:=by
 intro G F σ H ρ x y dx dy res Q S ox oy e k
 cases dx<;>first|exact noS e|(cases dy<;>try (exact noS e))
 ·cases e;exact .inl ⟨_,_,ox.int,oy.int,k _ F H (Same.refl _) S (.int _)⟩
 ·dsimp only [zC_] at e
  split at e
  ·rename_i hz
   cases e
   exact .inr (.inl ⟨_,_,ox.str,oy.str,hz,k _ F H (Same.refl _) S (.str _)⟩)
  ·cases e
 ·dsimp only [zC_] at e
  split at e
  ·rename_i hz
   cases e
   obtain ⟨a,vs,rfl,h1,h2⟩:=ox.list S.fh
   obtain ⟨b,us,rfl,g1,g2⟩:=oy.list S.fh
   refine .inr (.inr (.inr ⟨a,b,vs,us,rfl,rfl,h1,g1,by rw [h2.length,g2.length];exact hz,fun p hp=>?_⟩))
   obtain ⟨S2,r2⟩:=S.newLst hp (h2.append g2)
   obtain ⟨F2,s3,S3,r3⟩:=S2.settle r2
   exact k _ F2 _ s3 S3 r3
  ·cases e
 ·dsimp only [zC_] at e
  split at e
  ·rename_i hz
   cases e
   obtain ⟨a,vs,rfl,h1,h2⟩:=ox.tuple S.fh
   obtain ⟨b,us,rfl,g1,g2⟩:=oy.tuple S.fh
   refine .inr (.inr (.inl ⟨a,b,vs,us,rfl,rfl,h1,g1,by rw [h2.length,g2.length];exact hz,fun z=>?_,fun _ z=>?_,fun _ _ p hp=>?_⟩))
   ·have z':=(y1_ h2).mp z
    subst z'
    exact k _ F H (Same.refl _) S oy.tup'
   ·have z':=(y1_ g2).mp z
    subst z'
    exact k _ F H (Same.refl _) S (by rw [List.append_nil];exact ox.tup')
   ·obtain ⟨s2,S2,r2⟩:=S.newTup hp (h2.append g2)
    exact k _ _ _ s2 S2 r2
  ·cases e
theorem u2_:OpD K (rI CMul fun i j=>.int (i*j)) z1_:=okI fun dx dy res e=>by
 cases dx<;>first|exact noS e|(cases dy<;>try (exact noS e))
 rename_i i j
 dsimp only [z1_] at e
 split at e
 ·rename_i hc
  cases e
  unfold VZ_ at hc
  simp only [Bool.or_eq_true,Bool.and_eq_true,decide_eq_true_eq] at hc
  exact ⟨i,j,rfl,rfl,hc,fun _ _=>.int _⟩
 ·cases e
end
noncomputable def eqOk (d e:D):Bool:=d.canLay0&&e.canLay0&&decide (d.depth≤1000)
noncomputable def opEq (d e:D):Option Bool:=if eqOk d e then some (PyData.eqv d e) else none
noncomputable def opNe (d e:D):Option Bool:=if eqOk d e then some (!PyData.eqv d e) else none
noncomputable def inOk (d:D) (xs:List D):Bool:=PyData.canLayAll0 xs&&d.canLay0&&decide (d.depth≤1000)
noncomputable def zdL_ (i j:Str):Bool:=!(Builtin.Str.occurrences j i 0 j.length 1).isEmpty
noncomputable def opIn (d c:D):Option Bool:=match c with
 | .list xs=>if inOk d xs then some (xs.any fun y=>PyData.eqv y d) else none
 | .tuple xs=>if inOk d xs then some (xs.any fun y=>PyData.eqv y d) else none
 | .str j=>match d with
  | .str i=>some (zdL_ i j)
  | _=>none
 | _=>none
noncomputable def isNone:D→Bool
 | .none=>true
 | _=>false
noncomputable def zcq_ (d e:D):Option Bool:=match e with
 | .none=>some (isNone d)
 | _=>none
noncomputable def rD2 (K:Fg) (f:D→D→Option Bool):R2:=fun x y H Q=>∃ d e b,Rep K H x d∧Rep K H y e∧f d e=some b∧Q (.bl b) H
theorem jl_ {K:Fg} {f:D→D→Option Bool}:OpB K (rD2 K f) f:=by
 intro G F σ H ρ x y dx dy res Q S ox oy e k
 exact ⟨dx,dy,res,ox.rep S.fh,oy.rep S.fh,e,k⟩
theorem Rep.non_iff {K:Fg} {F:Hp} {v:V} {d:D} (r:Rep K F v d):(decide (v=.non))=isNone d:=by
 cases r<;>rfl
section
variable {X:Cx}
theorem z0_ (hu:X.A.units+1100<cLine):OpR X (compareOp .Eq) (rD2 X.K opEq):=by
 intro pins s σ H x y v u Q I rx ry ⟨d,e,b,r1,r2,ho,q⟩
 unfold opEq at ho
 split at ho
 case isFalse=>cases ho
 rename_i hc
 cases ho
 simp only [eqOk,Bool.and_eq_true,decide_eq_true_eq] at hc
 obtain ⟨as,ra⟩:=(j1_ I).1 r1 hc.1.1 rx
 obtain ⟨bs,rb⟩:=(j1_ I).1 r2 hc.1.2 ry
 exact SeqAt.compareEq_reads ra rb hc.1.1 hc.1.2 (by have:=Nat.min_le_left d.depth e.depth;lia) ⟨.bl _,H,I,rfl,q⟩
theorem Uw_ (hu:X.A.units+1100<cLine):OpR X (compareOp .NotEq) (rD2 X.K opNe):=by
 intro pins s σ H x y v u Q I rx ry ⟨d,e,b,r1,r2,ho,q⟩
 unfold opNe at ho
 split at ho
 case isFalse=>cases ho
 rename_i hc
 cases ho
 simp only [eqOk,Bool.and_eq_true,decide_eq_true_eq] at hc
 obtain ⟨as,ra⟩:=(j1_ I).1 r1 hc.1.1 rx
 obtain ⟨bs,rb⟩:=(j1_ I).1 r2 hc.1.2 ry
 exact SeqAt.compareNe_reads ra rb hc.1.1 hc.1.2 (by have:=Nat.min_le_left d.depth e.depth;lia) ⟨.bl _,H,I,rfl,q⟩
theorem zcj_ (hu:X.A.units+1100<cLine):OpR X (compareOp .In) (rD2 X.K opIn):=by
 intro pins s σ H x y v u Q I rx ry ⟨d,e,b,r1,r2,ho,q⟩
 unfold opIn at ho
 split at ho
 ·rename_i xs
  split at ho
  case isFalse=>cases ho
  rename_i hc
  cases ho
  simp only [inOk,Bool.and_eq_true,decide_eq_true_eq] at hc
  obtain ⟨as,ra⟩:=(j1_ I).1 r1 hc.1.2 rx
  obtain ⟨bs,rb⟩:=(j1_ I).1 r2 (by simpa [PyData.canLay0] using hc.1.1) ry
  exact SeqAt.in_list_reads rb ra hc.1.1 hc.1.2 (by have:=Nat.min_le_right (PyData.depthAll xs) d.depth;lia) ⟨.bl _,H,I,rfl,q⟩
 ·rename_i xs
  split at ho
  case isFalse=>cases ho
  rename_i hc
  cases ho
  simp only [inOk,Bool.and_eq_true,decide_eq_true_eq] at hc
  obtain ⟨as,ra⟩:=(j1_ I).1 r1 hc.1.2 rx
  obtain ⟨bs,rb⟩:=(j1_ I).1 r2 (by simpa [PyData.canLay0] using hc.1.1) ry
  exact SeqAt.in_tuple_reads rb ra hc.1.1 hc.1.2 (by have:=Nat.min_le_right (PyData.depthAll xs) d.depth;lia) ⟨.bl _,H,I,rfl,q⟩
 ·split at ho
  ·cases ho
   obtain rfl:=r1.str_inv;obtain rfl:=r2.str_inv
   exact VP_ pins s σ H _ _ v u Q I rx ry ⟨_,_,rfl,rfl,q⟩
  ·cases ho
 ·cases ho
theorem zau_:OpR X (compareOp .Is) (rD2 X.K zcq_):=by
 intro pins s σ H x y v u Q I rx ry ⟨d,e,b,r1,r2,ho,q⟩
 unfold zcq_ at ho
 split at ho
 ·cases ho
  cases r2
  refine zco_ pins s σ H x _ v u Q I rx ry ⟨rfl,?_⟩
  rw [Rep.non_iff r1]
  exact q
 ·cases ho
end
noncomputable def opIx:D→D→Option D
 | .list ds,.int i=>atI ds i
 | .tuple ds,.int i=>atI ds i
 | .str z,.int i=>if z.length≤sizeLine then (atI z.cps.toList i).map fun c=>.str ⟨#[c]⟩ else none
 | _,_=>none
theorem WA_ {K:Fg} {F:Hp} {vs:List V} {ds:List D} {i:Int} {d:D} (r:RepL K F vs ds) (h:atI ds i=some d):∃ v,atI vs i=some v∧Rep K F v d:=by
 unfold atI at h ⊢
 rw [r.length]
 cases q:ixN ds.length i with
 | none=>rw [q] at h;cases h
 | some j =>
  rw [q] at h
  exact r.get (i:=j) h
theorem zdF_ {K:Fg}:OpD K (rIx K) opIx:=by
 intro G F σ H ρ x y dx dy res Q S ox oy e k
 cases dx<;>first|exact noS e|(cases dy<;>try (exact noS e))
 ·dsimp only [opIx] at e
  split at e
  ·rename_i hz
   obtain ⟨c,hc,rfl⟩:=Option.map_eq_some_iff.mp e
   exact .inr (.inr ⟨_,_,c,ox.str,oy.int,hz,hc,k _ F H (Same.refl _) S (.str _)⟩)
  ·cases e
 ·obtain ⟨a,vs,rfl,h1,h2⟩:=ox.list S.fh
  obtain ⟨v,e1,e2⟩:=WA_ h2 e
  exact .inl ⟨a,vs,_,v,rfl,oy.int,h1,e1,k v F H (Same.refl _) S e2⟩
 ·obtain ⟨a,vs,rfl,h1,h2⟩:=ox.tuple S.fh
  obtain ⟨v,e1,e2⟩:=WA_ h2 e
  exact .inr (.inl ⟨a,vs,_,v,rfl,oy.int,h1,e1,k v F H (Same.refl _) S e2⟩)
end L4
set_option Elab.async false
set_option linter.all false
set_option maxRecDepth 100000
namespace L4
open PySem PySem.Spec PyProof.Rows L2 L3
theorem Vals.one {v:V} {us:List Value} (h:Vals [v] us):∃ u,us=[u]∧RelV v u:=by
 cases h with|cons a b=>cases b;exact ⟨_,rfl,a⟩
noncomputable def fLen:List D→Option D
 | [.list ds]=>some (.int ds.length)
 | [.tuple ds]=>some (.int ds.length)
 | [.str z]=>if z.length≤sizeLine then some (.int z.length) else none
 | _=>none
noncomputable def jS_:List D→Option D
 | [.list ds]=>some (.tuple ds)
 | [.tuple ds]=>some (.tuple ds)
 | _=>none
noncomputable def fAbs:List D→Option D
 | [.int i]=>some (.int (if i<0 then -i else i))
 | _=>none
noncomputable def Wl_:List D→Option D
 | [.int i,.int j]=>some (.int (if j<i then j else i))
 | _=>none
noncomputable def rLen (K:Fg):List V→Hp→VK→Prop:=fun xs H Q=>(∃ p ys,xs=[.ref p]∧(SqL K H p ys∨SqT K H p ys)∧Q (.int ys.length) H)∨∃ z,xs=[.str z]∧z.length≤sizeLine∧Q (.int z.length) H
theorem u8_ {X:Cx}:CallR X (.builtin "len") (rLen X.K):=CallR.or U6_ U5_
theorem UC_ {K:Fg}:Ug_ K (rLen K) fLen:=by
 intro G F σ H ρ xs ds res Q S o e k
 unfold fLen at e
 split at e
 ·rename_i es
  cases e
  obtain ⟨v,r,rfl,ho,hr⟩:=jD_ o
  obtain rfl:=ur_ hr
  obtain ⟨a,vs,rfl,h1,h2⟩:=ho.list S.fh
  exact .inl ⟨a,vs,rfl,.inl h1,k _ F H (Same.refl _) S (by rw [h2.length];exact .int _)⟩
 ·rename_i es
  cases e
  obtain ⟨v,r,rfl,ho,hr⟩:=jD_ o
  obtain rfl:=ur_ hr
  obtain ⟨a,vs,rfl,h1,h2⟩:=ho.tuple S.fh
  exact .inl ⟨a,vs,rfl,.inr h1,k _ F H (Same.refl _) S (by rw [h2.length];exact .int _)⟩
 ·split at e
  ·rename_i hz
   cases e
   obtain ⟨v,r,rfl,ho,hr⟩:=jD_ o
   obtain rfl:=ur_ hr
   exact .inr ⟨_,by rw [ho.str],hz,k _ F H (Same.refl _) S (.int _)⟩
  ·cases e
 ·cases e
theorem jk_ {K:Fg}:Ug_ K (fun xs H Q=>∃ p ys,xs=[.ref p]∧((SqL K H p ys∧∀ l,H l=none→Q (.ref l) (upd H l (.tup ys)))∨(SqT K H p ys∧Q (.ref p) H))) jS_:=by
 intro G F σ H ρ xs ds res Q S o e k
 unfold jS_ at e
 split at e
 ·rename_i es
  cases e
  obtain ⟨v,r,rfl,ho,hr⟩:=jD_ o
  obtain rfl:=ur_ hr
  obtain ⟨a,vs,rfl,h1,h2⟩:=ho.list S.fh
  refine ⟨a,vs,rfl,.inl ⟨h1,fun l hl=>?_⟩⟩
  obtain ⟨s2,S2,r2⟩:=S.newTup hl h2
  exact k _ _ _ s2 S2 r2
 ·rename_i es
  cases e
  obtain ⟨v,r,rfl,ho,hr⟩:=jD_ o
  obtain rfl:=ur_ hr
  have ho:=ho.tup'
  cases ho with
  | tup h1 h2=>exact ⟨_,_,rfl,.inr ⟨SqT.of (S.fh _ _ h1),k _ F H (Same.refl _) S (show Rep K F _ _ from .tup h1 h2)⟩⟩
 ·cases e
theorem XK_ {K:Fg}:Ug_ K (fun xs H Q=>∃ i,xs=[.int i]∧Q (.int (if i<0 then -i else i)) H) fAbs:=by
 intro G F σ H ρ xs ds res Q S o e k
 unfold fAbs at e
 split at e
 ·cases e
  obtain ⟨v,r,rfl,ho,hr⟩:=jD_ o
  obtain rfl:=ur_ hr
  exact ⟨_,by rw [ho.int],k _ F H (Same.refl _) S (show Rep K F _ _ from .int _)⟩
 ·cases e
theorem zaA_ {K:Fg}:Ug_ K (fun xs H Q=>∃ i j,xs=[.int i,.int j]∧Q (.int (if j<i then j else i)) H) Wl_:=by
 intro G F σ H ρ xs ds res Q S o e k
 unfold Wl_ at e
 split at e
 ·cases e
  obtain ⟨v,r,rfl,ho,hr⟩:=jD_ o
  obtain ⟨v2,r2,rfl,ho2,hr2⟩:=jD_ hr
  obtain rfl:=ur_ hr2
  exact ⟨_,_,by rw [ho.int,ho2.int],k _ F H (Same.refl _) S (show Rep K F _ _ from .int _)⟩
 ·cases e
noncomputable def Ur_ (d:D):Bool:=d.showable&&d.canLay0&&decide (d.depth≤1000)&&decide (d.shown.length≤sizeLine)
noncomputable def ZQ_:List D→Option D
 | [d]=>if Ur_ d then some (.str d.shown) else none
 | _=>none
noncomputable def zbE_ (K:Fg):List V→Hp→VK→Prop:=fun xs H Q=>∃ v d,xs=[v]∧Rep K H v d∧Ur_ d=true∧Q (.str d.shown) H
theorem yP_ {K:Fg}:Ug_ K (zbE_ K) ZQ_:=by
 intro G F σ H ρ xs ds res Q S o e k
 unfold ZQ_ at e
 split at e
 ·rename_i d
  split at e
  ·rename_i hc
   cases e
   obtain ⟨v,r,rfl,ho,hr⟩:=jD_ o
   obtain rfl:=ur_ hr
   exact ⟨v,d,rfl,ho.rep S.fh,hc,k _ F H (Same.refl _) S (.str _)⟩
  ·cases e
 ·cases e
theorem uA_ {X:Cx} (hu:X.A.units+1100<cLine) (hg:X.A.guards=some []):CallR X (.builtin "repr") (zbE_ X.K):=by
 intro pins s σ H xs us Q I r h0
 obtain ⟨v,d,rfl,rp,hc,q⟩:=h0
 obtain ⟨u,rfl,ru⟩:=Vals.one r
 simp only [Ur_,Bool.and_eq_true,decide_eq_true_eq] at hc
 obtain ⟨as,ra⟩:=(j1_ I).1 rp hc.1.1.2 ru
 have big:∀ a,v=.ref a→wpAny (model X.prog X.w) X.A (call (.builtin "repr") [u]) (EP X pins σ Q) X.xe s:=fun a e=>by
  subst e
  cases ru
  exact repr_of_reads' ra hc.1.1.1 (PyData.noDict_hsm (PyData.hasDict_of_canLay d hc.1.1.2)) hg (by lia) (fun _ _ e=>e) (fun h' u tk hk=>⟨.str _,H,I.kept hk,⟨_,rfl⟩,q⟩) hc.2
 cases rp with
 | non=>cases ru;exact PySem.P.repr_of_none ⟨.str _,H,I.tok _,⟨_,rfl⟩,q⟩
 | bl b=>cases ru;exact PySem.P.repr_of_bool ⟨.str _,H,I.tok _,⟨_,rfl⟩,q⟩
 | int i=>obtain ⟨t,rfl⟩:=ru;exact PySem.P.repr_of_int (by simpa [PyData.showable] using hc.1.1.1) ⟨.str _,H,I.tok _,⟨_,rfl⟩,q⟩
 | str x=>obtain ⟨t,rfl⟩:=ru;exact PySem.P.repr_of_str ⟨.str _,H,I.tok _,⟨_,rfl⟩,q⟩ hc.2
 | tup h1 h2=>exact big _ rfl
 | lst h1 h2=>exact big _ rfl
 | dct h1 h2 h3=>exact big _ rfl
 | dck h1 h2 h3=>exact big _ rfl
 | exc _ _ _ _ _=>exact big _ rfl
 | fn _=>exact big _ rfl
noncomputable def intsOf:List D→Option (List Int)
 | []=>some []
 | .int i::r=>match intsOf r with
  | some l=>some (i::l)
  | none=>none
 | _=>none
theorem u6_:∀ {ds:List D} {ns:List Int},intsOf ds=some ns→ds=ns.map PyData.int
 | [],ns,h=>by cases h;rfl
 | .int i::r,ns,h=>by
  dsimp only [intsOf] at h
  split at h
  ·rename_i l e;cases h;rw [u6_ e];rfl
  ·cases h
 | .none::_,_,h=>by cases h
 | .bool _::_,_,h=>by cases h
 | .str _::_,_,h=>by cases h
 | .list _::_,_,h=>by cases h
 | .tuple _::_,_,h=>by cases h
 | .dict _::_,_,h=>by cases h
theorem u5_ {K:Fg} {F:Hp}:∀ {vs:List V} {ns:List Int},RepL K F vs (ns.map PyData.int)→vs=ns.map V.int
 | _,[],h=>by cases h;rfl
 | _,n::r,h=>by
  cases h with
  | cons a b=>cases a;rw [u5_ b];rfl
theorem zcG_ {kvs:List (List Key×V)} {es:List (D×D)} (h:es.map (·.1)=kvs.map (fun p=>keyT p.1)):isXe es=false:=by
 cases es with
 | nil=>rfl
 | cons e r =>
  cases kvs with
  | nil=>cases h
  | cons k ks =>
   obtain ⟨e1,e2⟩:=e
   simp only [List.map_cons,List.cons.injEq] at h
   rw [h.1]
   rfl
theorem zcH_ {kvs:List (Key×V)} {es:List (D×D)} (h:es.map (·.1)=kvs.map (fun p=>keyD p.1)):isXe es=false:=by
 cases es with
 | nil=>rfl
 | cons e r =>
  cases kvs with
  | nil=>cases h
  | cons k ks =>
   obtain ⟨e1,e2⟩:=e
   obtain ⟨k1,k2⟩:=k
   simp only [List.map_cons,List.cons.injEq] at h
   rw [h.1]
   cases k1<;>rfl
end L4
set_option Elab.async false
set_option linter.all false
set_option maxRecDepth 100000
namespace L4
open PySem PySem.Spec PyProof.Rows L2 L3
section
variable {K:Fg} {G:Gh} {F H:Hp} {σ:L2.St} {ρ ρ':En}
theorem _root_.L3.StOk.weak (S:StOk K G F σ H ρ) (hl:ρ'.length=ρ.length) (h:∀ (i:Nat) (av:AV),ρ'[i]? = some (some av)→ρ[i]? = some (some av)) (hp:∀ (i:Nat) (c:OC),ρ[i]? = some (some (AV.op c))→ρ'[i]? = some (some (AV.op c))):StOk K G F σ H ρ':=by
 have ow':∀ j c,own ρ' j c→own ρ j c:=fun j c q=>q.imp (h _ _) (h _ _)
 refine ⟨S.fh,S.oh,S.fo,S.ln.trans hl.symm,fun j d q=>S.fz j d (h _ _ q),fun j c q=>S.ow j c (ow' j c q),fun j k c e a h1 h2=>S.dj j k c e a (ow' j c h1) (ow' k e h2),fun j a q=>?_,fun j c q=>S.pq j c (h _ _ q),S.fb⟩
 obtain ⟨q1,c,q2⟩:=S.pp j a q
 exact ⟨q1,c,hp _ _ q2⟩
theorem yi_ {k:Nat} {i:Nat} {av:AV} (h:(ρ++List.replicate k none)[i]? = some (some av)):ρ[i]? = some (some av):=by
 by_cases hi:i<ρ.length
 ·rw [List.getElem?_append_left hi] at h;exact h
 ·rw [List.getElem?_append_right (Nat.not_lt.mp hi),List.getElem?_replicate] at h
  split at h<;>cases h
theorem _root_.L3.StOk.grow (S:StOk K G F σ H ρ) (k:Nat):StOk K G F (σ++List.replicate k none) H (ρ++List.replicate k none):=by
 have ap:∀ {i:Nat} {v:V},σ[i]? = some (some v)→(σ++List.replicate k none)[i]? = some (some v):=fun {i v} e=>by
  rw [List.getElem?_append_left (List.getElem?_eq_some_iff.mp e).1];exact e
 have apr:∀ {i:Nat} {v:AV},ρ[i]? = some (some v)→(ρ++List.replicate k none)[i]? = some (some v):=fun {i v} e=>by
  rw [List.getElem?_append_left (List.getElem?_eq_some_iff.mp e).1];exact e
 have ow':∀ i c,own (ρ++List.replicate k none) i c→own ρ i c:=fun i c h=>by
  rcases h with h|h
  ·exact .inl (yi_ h)
  ·exact .inr (yi_ h)
 refine ⟨S.fh,S.oh,S.fo,by simp [S.ln],fun i d h=>?_,fun i c h=>?_,fun i j c e a h1 h2 e1 e2=>?_,fun i a h=>?_,fun i c h=>S.pq i c (yi_ h),S.fb⟩
 ·obtain ⟨v,e,r⟩:=S.fz i d (yi_ h);exact ⟨v,ap e,r⟩
 ·obtain ⟨a,e,oa⟩:=S.ow i c (ow' i c h);exact ⟨a,ap e,oa⟩
 ·have o1:=ow' i c h1
  have o2:=ow' j e h2
  obtain ⟨a1,q1,_⟩:=S.ow i c o1
  obtain ⟨a2,q2,_⟩:=S.ow j e o2
  rw [ap q1] at e1;rw [ap q2] at e2
  injection e1 with e1;injection e2 with e2
  exact S.dj i j c e a o1 o2 (by rw [q1,e1]) (by rw [q2,e2])
 ·obtain ⟨e,c,q⟩:=S.pp i a h;exact ⟨ap e,c,apr q⟩
theorem _root_.L3.StOk.shrink (S:StOk K G F σ H ρ) {n:Nat} (hn:n≤ρ.length) (hp:∀ i a,G.P i=some a→i<n):StOk K G F (σ.take n) H (ρ.take n):=by
 have tk:∀ {i:Nat} {v:AV},(ρ.take n)[i]? = some (some v)→i<n∧ρ[i]? = some (some v):=fun {i v} e=>by
  have hi:i<n:=by
   have:=(List.getElem?_eq_some_iff.mp e).1
   rw [List.length_take] at this;lia
  rw [List.getElem?_take_of_lt hi] at e
  exact ⟨hi,e⟩
 have ow':∀ i c,own (ρ.take n) i c→i<n∧own ρ i c:=fun i c h=>by
  rcases h with h|h
  ·exact ⟨(tk h).1,.inl (tk h).2⟩
  ·exact ⟨(tk h).1,.inr (tk h).2⟩
 refine ⟨S.fh,S.oh,S.fo,by simp [S.ln],fun i d h=>?_,fun i c h=>?_,fun i j c e a h1 h2 e1 e2=>?_,fun i a h=>?_,fun i c h=>S.pq i c (tk h).2,S.fb⟩
 ·obtain ⟨v,e,r⟩:=S.fz i d (tk h).2;exact ⟨v,by rw [List.getElem?_take_of_lt (tk h).1];exact e,r⟩
 ·obtain ⟨a,e,oa⟩:=S.ow i c (ow' i c h).2;exact ⟨a,by rw [List.getElem?_take_of_lt (ow' i c h).1];exact e,oa⟩
 ·rw [List.getElem?_take_of_lt (ow' i c h1).1] at e1
  rw [List.getElem?_take_of_lt (ow' j e h2).1] at e2
  exact S.dj i j c e a (ow' i c h1).2 (ow' j e h2).2 e1 e2
 ·obtain ⟨e,c,q⟩:=S.pp i a h
  exact ⟨by rw [List.getElem?_take_of_lt (hp i a h)];exact e,c,by rw [List.getElem?_take_of_lt (hp i a h)];exact q⟩
end
theorem Jh_ {α:Type} {l l':List α} {n:Nat} (h:∀ j,j<n→l'[j]? = l[j]?) (hl:l.length=n):l'.take n=l:=by
 apply List.ext_getElem?
 intro i
 by_cases hi:i<n
 ·rw [List.getElem?_take_of_lt hi,h i hi]
 ·rw [List.getElem?_eq_none_iff.mpr (by rw [List.length_take];lia),List.getElem?_eq_none_iff.mpr (by lia)]
inductive Kd where
 | dead|f|o|p|t|k
@[reducible] noncomputable def SOf:List Kd→Type
 | []=>Unit
 | .dead::r=>SOf r
 | .f::r=>D×SOf r
 | .o::r=>List D×SOf r
 | .p::r=>List D×SOf r
 | .t::r=>List (D×D)×SOf r
 | .k::r=>List (D×D)×SOf r
noncomputable def rd:(sh:List Kd)→En→Option (SOf sh)
 | [],[]=>some ()
 | .dead::r,x::ρ=>match x with
  | some (.op _)=>none
  | _=>rd r ρ
 | .f::r,x::ρ=>match x with
  | some (.fz d)=>match rd r ρ with
   | some s=>some (d,s)
   | none=>none
  | _=>none
 | .o::r,x::ρ=>match x with
  | some (.ol (.l ds))=>match rd r ρ with
   | some s=>some (ds,s)
   | none=>none
  | _=>none
 | .p::r,x::ρ=>match x with
  | some (.op (.l ds))=>match rd r ρ with
   | some s=>some (ds,s)
   | none=>none
  | _=>none
 | .t::r,x::ρ=>match x with
  | some (.ol (.t ds))=>match rd r ρ with
   | some s=>some (ds,s)
   | none=>none
  | _=>none
 | .k::r,x::ρ=>match x with
  | some (.ol (.k ds))=>match rd r ρ with
   | some s=>some (ds,s)
   | none=>none
  | _=>none
 | _,_=>none
noncomputable def wr:(sh:List Kd)→SOf sh→En
 | [],_=>[]
 | .dead::r,s=>none::wr r s
 | .f::r,s=>some (.fz s.1)::wr r s.2
 | .o::r,s=>some (.ol (.l s.1))::wr r s.2
 | .p::r,s=>some (.op (.l s.1))::wr r s.2
 | .t::r,s=>some (.ol (.t s.1))::wr r s.2
 | .k::r,s=>some (.ol (.k s.1))::wr r s.2
noncomputable def Wk (w ρ:En):Prop:=w.length=ρ.length∧(∀ (i:Nat) (av:AV),w[i]? = some (some av)→ρ[i]? = some (some av))∧(∀ (i:Nat) (c:OC),ρ[i]? = some (some (AV.op c))→w[i]? = some (some (AV.op c)))
theorem Zo_ {w ρ:En} {x:Option AV} (h:Wk w ρ):Wk (x::w) (x::ρ):=by
 refine ⟨congrArg (· + 1) h.1,fun i av q=>?_,fun i c q=>?_⟩
 ·cases i with
  | zero=>exact q
  | succ i=>exact h.2.1 i av q
 ·cases i with
  | zero=>exact q
  | succ i=>exact h.2.2 i c q
theorem X4_ {w ρ:En} {x:Option AV} (hx:∀ c,x≠some (AV.op c)) (h:Wk w ρ):Wk (none::w) (x::ρ):=by
 refine ⟨congrArg (· + 1) h.1,fun i av q=>?_,fun i c q=>?_⟩
 ·cases i with
  | zero=>cases q
  | succ i=>exact h.2.1 i av q
 ·cases i with
  | zero=>exact absurd (Option.some.inj q) (hx c)
  | succ i=>exact h.2.2 i c q
theorem JM_:∀ (sh:List Kd) (ρ:En) (s:SOf sh),rd sh ρ=some s→Wk (wr sh s) ρ
 | [],[],s,h=>⟨rfl,fun i av q=>q,fun i c q=>q⟩
 | [],_::_,s,h=>by cases h
 | a::r,[],s,h=>by cases a<;>cases h
 | .dead::r,x::ρ,s,h=>by
  dsimp only [rd] at h
  split at h
  ·cases h
  ·rename_i hx
   exact X4_ hx (JM_ r ρ s h)
 | .f::r,x::ρ,s,h=>by
  dsimp only [rd] at h
  split at h
  ·split at h
   ·rename_i s' e
    cases h
    exact Zo_ (JM_ r ρ s' e)
   ·cases h
  ·cases h
 | .o::r,x::ρ,s,h=>by
  dsimp only [rd] at h
  split at h
  ·split at h
   ·rename_i s' e
    cases h
    exact Zo_ (JM_ r ρ s' e)
   ·cases h
  ·cases h
 | .p::r,x::ρ,s,h=>by
  dsimp only [rd] at h
  split at h
  ·split at h
   ·rename_i s' e
    cases h
    exact Zo_ (JM_ r ρ s' e)
   ·cases h
  ·cases h
 | .t::r,x::ρ,s,h=>by
  dsimp only [rd] at h
  split at h
  ·split at h
   ·rename_i s' e
    cases h
    exact Zo_ (JM_ r ρ s' e)
   ·cases h
  ·cases h
 | .k::r,x::ρ,s,h=>by
  dsimp only [rd] at h
  split at h
  ·split at h
   ·rename_i s' e
    cases h
    exact Zo_ (JM_ r ρ s' e)
   ·cases h
  ·cases h
theorem _root_.L3.StOk.rd {K:Fg} {G:Gh} {F H:Hp} {σ:L2.St} {ρ:En} {sh:List Kd} {s:SOf sh} (S:StOk K G F σ H ρ) (h:L4.rd sh ρ=some s):StOk K G F σ H (wr sh s):=by
 obtain ⟨h1,h2,h3⟩:=JM_ sh ρ s h
 exact S.weak h1 h2 h3
noncomputable def rdk {S:Type} (sh:List Kd) (k:SOf sh→M S) (ρ:En):M S:=match rd sh ρ with
 | some s=>k s
 | none=>.bad
noncomputable abbrev Ev (S α:Type):=(Ex→En→M S)→(α→En→M S)→En→M S
structure KS (S:Type) where
 nx:En→M S
 rt:D→En→M S
 rl:List D→En→M S
 bk:En→M S
 ct:En→M S
 x:Ex→En→M S
noncomputable def KOk {S:Type} (OK:M S→Prop):Prop:=¬ OK .bad
noncomputable def XL {S:Type} (X:Cx) (OK:M S→Prop) (x:Ex→En→M S) (G:Gh):Prop:=∀ F ρ e,OK (x e ρ)→XW X G F ρ e
noncomputable def AE {S:Type} (X:Cx) (e:Expr) (m:Ev S D):Prop :=
 ∀ (OK:M S→Prop) (x:Ex→En→M S) (k:D→En→M S) (G:Gh) (F:Hp) (σ:L2.St) (H:Hp) (ρ:En) (Q:VK),KOk OK→XL X OK x G→StOk X.K G F σ H ρ→OK (m x k ρ) →
  (∀ d v F' H' ρ',Same F F'→StOk X.K G F' σ H' ρ'→Rep X.K F' v d→OK (k d ρ')→Q v H')→tSem X e σ H Q
noncomputable def AEt {S:Type} (X:Cx) (e:Expr) (m:Ev S Bool):Prop :=
 ∀ (OK:M S→Prop) (x:Ex→En→M S) (k:Bool→En→M S) (G:Gh) (F:Hp) (σ:L2.St) (H:Hp) (ρ:En) (Q:Bool→Hp→Prop),KOk OK→XL X OK x G→StOk X.K G F σ H ρ→OK (m x k ρ) →
  (∀ d F' H' ρ',Same F F'→StOk X.K G F' σ H' ρ'→OK (k d ρ')→Q d H')→QG_ X e σ H Q
noncomputable def AEw {S:Type} (X:Cx) (e:Expr) (m:Ev S Bool):Prop :=
 ∀ (OK:M S→Prop) (x:Ex→En→M S) (k:Bool→En→M S) (G:Gh) (F:Hp) (σ:L2.St) (H:Hp) (ρ:En) (Q:Bool→Hp→Prop),KOk OK→XL X OK x G→StOk X.K G F σ H ρ→OK (m x k ρ) →
  (∀ d F' H' ρ',Same F F'→StOk X.K G F' σ H' ρ'→OK (k d ρ')→Q d H')→QF_ X e σ H Q
noncomputable def AEa {S:Type} (X:Cx) (es:List Expr) (m:Ev S (List D)):Prop :=
 ∀ (OK:M S→Prop) (x:Ex→En→M S) (k:List D→En→M S) (G:Gh) (F:Hp) (σ:L2.St) (H:Hp) (ρ:En) (Q:List V→Hp→Prop),KOk OK→XL X OK x G→StOk X.K G F σ H ρ→OK (m x k ρ) →
  (∀ ds vs F' H' ρ',Same F F'→StOk X.K G F' σ H' ρ'→vs.length=es.length→RepL X.K F' vs ds→OK (k ds ρ')→Q vs H')→Zr_ X es σ H Q
noncomputable def AEl {S:Type} (X:Cx) (e:Expr) (m:Ev S (List D)):Prop :=
 ∀ (OK:M S→Prop) (x:Ex→En→M S) (k:List D→En→M S) (G:Gh) (F:Hp) (σ:L2.St) (H:Hp) (ρ:En) (Q:VK),KOk OK→XL X OK x G→StOk X.K G F σ H ρ→OK (m x k ρ) →
  (∀ ds v F' H' ρ',Same F F'→StOk X.K G F' σ H' ρ'→Frs X.K G F' σ H' ρ' v (.l ds)→OK (k ds ρ')→Q v H')→tSem X e σ H Q
noncomputable def ePu {S α:Type} (p:Pu α):Ev S α:=fun x k ρ=>(p ρ).on (fun e=>x e ρ) (fun a=>k a ρ)
section
variable {S α:Type} {X:Cx} {OK:M S→Prop} {x:Ex→En→M S} {k:α→En→M S} {G:Gh} {F:Hp} {σ:L2.St} {ρ:En} {p:Pu α} {C:α→Hp→Hp→Prop}
theorem W.of (hO:KOk OK) (hX:XL X OK x G) (h:OK (ePu p x k ρ)) (w:∀ a F' H',Same F F'→StOk X.K G F' σ H' ρ→OK (k a ρ)→C a F' H'):W X G F σ ρ (p ρ) C:=by
 unfold ePu at h
 cases hp:p ρ with
 | ret a=>rw [hp] at h;exact fun F' H' s S'=>w a F' H' s S' h
 | exc e=>rw [hp] at h;exact hX F ρ e h
 | bad=>rw [hp] at h;exact hO h
end
section
variable {S:Type} {X:Cx} {e a b c:Expr} {es rest:List Expr} {p:Pu D} {pt:Pu Bool} {ps:Pu (List D)} {pos:Pos}
theorem zi_ (h:AP X e p):AE (S:=S) X e (ePu p):=fun OK x k G F σ H ρ Q hO hX St ok kk=>h G F σ H ρ Q St (W.of hO hX ok fun d F' H' s S' o v r=>kk d v F' H' ρ s S' r o)
theorem z4_ (h:AT X e pt):AEt (S:=S) X e (ePu pt):=fun OK x k G F σ H ρ Q hO hX St ok kk=>h G F σ H ρ Q St (W.of hO hX ok fun d F' H' s S' o=>kk d F' H' ρ s S' o)
theorem JD_ (h:AL X e ps):AEl (S:=S) X e (ePu ps):=fun OK x k G F σ H ρ Q hO hX St ok kk=>h G F σ H ρ Q St (W.of hO hX ok fun d F' H' s S' o v r=>kk d v F' H' ρ s S' r o)
noncomputable def eZ (m:Ev S (List D)):Ev S D:=fun x k ρ=>m x (fun ds ρ1=>k (.list ds) ρ1) ρ
noncomputable def eBin (f:D→D→Option D) (a b:Ev S D):Ev S D:=fun x k ρ=>a x (fun d ρ1=>b x (fun d2 ρ2=>(oM (f d d2)).on (fun e=>x e ρ2) (fun r=>k r ρ2)) ρ1) ρ
noncomputable def zdU_ (f:D→D→Option Bool) (a b:Ev S D):Ev S Bool:=fun x k ρ=>a x (fun d ρ1=>b x (fun d2 ρ2=>(oM (f d d2)).on (fun e=>x e ρ2) (fun r=>k r ρ2)) ρ1) ρ
noncomputable def eNil:Ev S (List D):=fun _ k ρ=>k [] ρ
noncomputable def zdS_ (m:Ev S D) (ms:Ev S (List D)):Ev S (List D):=fun x k ρ=>m x (fun d ρ1=>ms x (fun ds ρ2=>k (d::ds) ρ2) ρ1) ρ
noncomputable def eTup (ms:Ev S (List D)):Ev S D:=fun x k ρ=>ms x (fun ds ρ1=>k (.tuple ds) ρ1) ρ
noncomputable def zdT_ (f:List D→Option D) (ms:Ev S (List D)):Ev S D:=fun x k ρ=>ms x (fun ds ρ1=>(oM (f ds)).on (fun e=>x e ρ1) (fun r=>k r ρ1)) ρ
noncomputable def eAnd (a b:Ev S Bool):Ev S Bool:=fun x k ρ=>a x (fun t ρ1=>if t then b x k ρ1 else k false ρ1) ρ
noncomputable def eIf {α:Type} (c:Ev S Bool) (a b:Ev S α):Ev S α:=fun x k ρ=>c x (fun t ρ1=>if t then a x k ρ1 else b x k ρ1) ρ
theorem y2_ {α:Type} {OK:M S→Prop} (hO:KOk OK) {o:Option α} {x:Ex→M S} {k:α→M S} (h:OK ((oM o).on x k)):∃ a,o=some a∧OK (k a):=by
 cases o with
 | none=>exact (hO h).elim
 | some a=>exact ⟨a,rfl,h⟩
theorem zcN_ {α:Type} {OK:M S→Prop} (hO:KOk OK) {ds:List α} {x:Ex→M S} {k:List α→M S} (h:OK ((fitM ds).on x k)):ds.length≤sizeLine∧OK (k ds):=by
 unfold fitM at h
 split at h
 ·exact ⟨by assumption,h⟩
 ·exact (hO h).elim
variable {ma mb m:Ev S D} {ta tb tc:Ev S Bool} {ms:Ev S (List D)}
theorem ae_z (h:AEl X e ms):AE X e (eZ ms):=fun OK x k G F σ H ρ Q hO hX St ok kk=>h OK x _ G F σ H ρ Q hO hX St ok fun ds v F' H' ρ' s S' fr o=>by
 obtain ⟨F2,s2,S2,r2⟩:=S'.settle (v:=v) (ds:=ds) fr
 exact kk _ v F2 H' ρ' (s.trans s2) S2 r2 o
theorem YK_ {r:R2} {Q:VK} {OK:M S→Prop} {x:Ex→En→M S} {G:Gh} {F H:Hp} {σ:L2.St} {ρ:En} {f:D→D→En→M S} (ha:AE X a ma) (hb:AE X b mb) (hO:KOk OK) (hX:XL X OK x G) (St:StOk X.K G F σ H ρ)
  (ok:OK (ma x (fun d ρ1=>mb x (fun d2 ρ2=>f d d2 ρ2) ρ1) ρ)) (k:∀ u v dx dy F' H' ρ',Same F F'→StOk X.K G F' σ H' ρ'→Rep X.K F' u dx→Rep X.K F' v dy→OK (f dx dy ρ')→r u v H' Q):tOp r (tSem X a) (tSem X b) σ H Q :=
 ha OK x _ G F σ H ρ _ hO hX St ok fun d v F1 H1 ρ1 s1 S1 r1 o1=>hb OK x _ G F1 σ H1 ρ1 _ hO hX S1 o1 fun d2 u F2 H2 ρ2 s2 S2 r2 o2=>k v u d d2 F2 H2 ρ2 (s1.trans s2) S2 (r1.mono s2) r2 o2
theorem y6_ {op:Operator} {r:R2} {f:D→D→Option D} (ho:OpR X (binaryOp op) r) (hf:OpD X.K r f) (ha:AE X a ma) (hb:AE X b mb):AE X (.BinOp a op b pos) (eBin f ma mb) :=
 fun OK x k G F σ H ρ Q hO hX St ok kk=>sem (zbW_ ho zs_ zs_) (YK_ ha hb hO hX St ok fun u v dx dy F' H' ρ' s S' r1 r2 o=>by
  obtain ⟨res,e,o'⟩:=y2_ hO o
  exact hf G F' σ H' ρ' u v dx dy res Q S' (.inl r1) (.inl r2) e fun w F2 H2 s2 S2 r3=>kk res w F2 H2 ρ' (s.trans s2) S2 r3 o')
theorem zda_ {r:R2} {f:D→D→Option D} (hr:IxR X r) (hf:OpD X.K r f) (ha:AE X a ma) (hb:AE X b mb) (hs:YQ_ b):AE X (.Subscript a b pos) (eBin f ma mb) :=
 fun OK x k G F σ H ρ Q hO hX St ok kk=>sem (zca_ hr zs_ zs_ hs) (YK_ ha hb hO hX St ok fun u v dx dy F' H' ρ' s S' r1 r2 o=>by
  obtain ⟨res,e,o'⟩:=y2_ hO o
  exact hf G F' σ H' ρ' u v dx dy res Q S' (.inl r1) (.inl r2) e fun w F2 H2 s2 S2 r3=>kk res w F2 H2 ρ' (s.trans s2) S2 r3 o')
theorem Uc_ {op:CmpOp} {r:R2} {f:D→D→Option Bool} (ho:OpR X (compareOp op) r) (hf:OpB X.K r f) (ha:AE X a ma) (hb:AE X b mb) (hm:behindInMarks op b=false):AEt X (.Compare a [op] [b] pos) (zdU_ f ma mb) :=
 fun OK x k G F σ H ρ Q hO hX St ok kk=>semT (VA_ ho zs_ zs_ hm) (YK_ (Q:=fun x H'=>∃ k,x=.bl k∧Q k H') ha hb hO hX St ok fun u v dx dy F' H' ρ' s S' r1 r2 o=>by
  obtain ⟨res,e,o'⟩:=y2_ hO o
  exact hf G F' σ H' ρ' u v dx dy res _ S' (.inl r1) (.inl r2) e ⟨res,rfl,kk res F' H' ρ' s S' o'⟩)
theorem zm_:AEa (S:=S) X [] eNil:=fun OK x k G F σ H ρ Q hO hX St ok kk=>semA Jr_ (kk [] [] F H ρ (Same.refl _) St rfl .nil ok)
theorem zf_ (h:AE X e m) (hr:AEa X es ms) (hs:starEach (e::es) X.env=(false,eval e X.env)::starEach es X.env):AEa X (e::es) (zdS_ m ms) :=
 fun OK x k G F σ H ρ Q hO hX St ok kk=>semA (uL_ zs_ j7_ hs) (h OK x _ G F σ H ρ _ hO hX St ok fun d v F1 H1 ρ1 s1 S1 r1 o1 =>
  hr OK x _ G F1 σ H1 ρ1 _ hO hX S1 o1 fun ds vs F2 H2 ρ2 s2 S2 hl r2 o2=>kk (d::ds) (v::vs) F2 H2 ρ2 (s1.trans s2) S2 (by simp [hl]) (.cons (r1.mono s2) r2) o2)
theorem Ye_ {x1} (h:AEa X es ms) (hz:es.length≤1000):AE X (.Tuple es x1 pos) (eTup ms) :=
 fun OK x k G F σ H ρ Q hO hX St ok kk=>sem (VG_ j7_) (h OK x _ G F σ H ρ _ hO hX St ok fun ds vs F1 H1 ρ1 s1 S1 hl r1 o1=>by
  refine ⟨by rw [hl];exact UN_ hz,fun q hq=>?_⟩
  obtain ⟨s2,S2,r2⟩:=S1.newTup hq r1
  exact kk _ _ _ _ ρ1 (s1.trans s2) S2 r2 o1)
theorem Xv_ (ha:AEt X a ta):AEw X (.BoolOp .And [a] pos) ta:=fun OK x k G F σ H ρ Q hO hX St ok kk=>semW (zag_ yz_) (ha OK x k G F σ H ρ Q hO hX St ok kk)
theorem zbf_ (ha:AEt X a ta) (hb:AEw X (.BoolOp .And (b::rest) pos) tb):AEw X (.BoolOp .And (a::b::rest) pos) (eAnd ta tb) :=
 fun OK x k G F σ H ρ Q hO hX St ok kk=>semW (zbM_ yz_ Y4_) (ha OK x _ G F σ H ρ _ hO hX St ok fun t F1 H1 ρ1 s1 S1 o1=>by
  cases t with
  | true=>refine iteT ?_;exact hb OK x k G F1 σ H1 ρ1 Q hO hX S1 o1 fun d F2 H2 ρ2 s2 S2 o2=>kk d F2 H2 ρ2 (s1.trans s2) S2 o2
  | false=>refine iteF ?_;exact kk false F1 H1 ρ1 s1 S1 o1)
theorem zcZ_ (h:AEw X e ta):AEt X e ta:=fun OK x k G F σ H ρ Q hO hX St ok kk=>semT (fun pins s σ H Q I h=>Y4_ _ pins s σ H Q I h) (h OK x k G F σ H ρ Q hO hX St ok kk)
theorem zdb_ (hc:AEt X c tc) (ha:AE X a ma) (hb:AE X b mb):AE X (.IfExp c a b pos) (eIf tc ma mb) :=
 fun OK x k G F σ H ρ Q hO hX St ok kk=>sem (Y8_ yz_ zs_ zs_) (hc OK x _ G F σ H ρ _ hO hX St ok fun t F1 H1 ρ1 s1 S1 o1=>by
  cases t with
  | true=>refine iteT ?_;exact ha OK x k G F1 σ H1 ρ1 Q hO hX S1 o1 fun d v F2 H2 ρ2 s2 S2 r2 o2=>kk d v F2 H2 ρ2 (s1.trans s2) S2 r2 o2
  | false=>refine iteF ?_;exact hb OK x k G F1 σ H1 ρ1 Q hO hX S1 o1 fun d v F2 H2 ρ2 s2 S2 r2 o2=>kk d v F2 H2 ρ2 (s1.trans s2) S2 r2 o2)
theorem RepL.ors {K:Fg} {F H:Hp} {vs:List V} {ds:List D} (h:RepL K F vs ds):ORs K F H vs ds:=by
 induction vs generalizing ds with
 | nil=>cases h;exact .nil
 | cons v vs ih=>cases h with
  | cons a b=>exact .cons (.inl a) (ih b)
theorem Xy_ {x:Str} {p:Pos} {id:String} {r:List V→Hp→VK→Prop} {f:List D→Option D} (hc:CallR X (.builtin id) r) (hf:Ug_ X.K r f) (hg:Gl X x) (hm:X.mg x=none) (hv:bootBuiltins x=some (.builtin id)) (ha:AEa X (e::es) ms)
  (hn:x ≠ "__name__") (hdb:(x==("__debug__" : Str))=false) (he:starEach (e::es) X.env=(false,eval e X.env)::starEach es X.env) (hpl:(backTo pos (starEach es X.env)).any (·.1)=false):AE X (.Call (.Name x p) (e::es) [] pos) (zdT_ f ms) :=
 fun OK y k G F σ H ρ Q hO hX St ok kk=>sem (Zj_ hc hg hm hv j7_ hn hdb he hpl) (ha OK y _ G F σ H ρ _ hO hX St ok fun ds vs F1 H1 ρ1 s1 S1 _ r1 o1=>by
  obtain ⟨res,e,o'⟩:=y2_ hO o1
  exact hf G F1 σ H1 ρ1 vs ds res Q S1 (RepL.ors r1) e fun w F2 H2 s2 S2 r3=>kk res w F2 H2 ρ1 (s1.trans s2) S2 r3 o')
end
end L4
set_option Elab.async false
set_option linter.all false
set_option maxRecDepth 100000
namespace L4
open PySem PySem.Spec PyProof.Rows L2 L3
structure Walk (K:Fg) (J:It) (ds:List D) (F:Hp):Prop where
 go:∀ (i:Nat) (G:Gh) (F2:Hp) (σ:L2.St) (H2:Hp) (ρ:En),Same F F2→StOk K G F2 σ H2 ρ→i<ds.length→J.go i H2
 yld:∀ (i:Nat) (G:Gh) (F2:Hp) (σ:L2.St) (H2:Hp) (ρ:En) (x:V) (H3:Hp) (d:D),Same F F2→StOk K G F2 σ H2 ρ→ds[i]? = some d→J.yld i H2 x H3→∃ F3,Same F2 F3∧StOk K G F3 σ H3 ρ∧Rep K F3 x d
 stop:∀ (G:Gh) (F2:Hp) (σ:L2.St) (H2:Hp) (ρ:En),Same F F2→StOk K G F2 σ H2 ρ→J.stop ds.length H2
theorem Vf_ {K:Fg} {F:Hp} {a:Addr} {vs:List V} {ds:List D} (h:SqL K F a vs) (r:RepL K F vs ds):Walk K (Itl K a) ds F where
 go:=fun i G F2 σ H2 ρ s S hi=>by
  have hi':i<vs.length:=by rw [r.length];exact hi
  exact ⟨vs,vs[i],S.fh.seq (s.seq h),by simp [hi']⟩
 yld:=fun i G F2 σ H2 ρ x H3 d s S hd ⟨e,q⟩=>by
  subst e
  obtain ⟨v,e1,e2⟩:=r.get hd
  have:=q vs (S.fh.seq (s.seq h))
  rw [e1] at this
  cases this
  exact ⟨F2,Same.refl _,S,e2.mono s⟩
 stop:=fun G F2 σ H2 ρ s S=>⟨vs,S.fh.seq (s.seq h),by rw [r.length];exact Nat.le_refl _⟩
theorem WP_ {K:Fg} {F:Hp} {a:Addr} {vs:List V} {ds:List D} (h:SqT K F a vs) (r:RepL K F vs ds):Walk K (Itt K a) ds F where
 go:=fun i G F2 σ H2 ρ s S hi=>by
  have hi':i<vs.length:=by rw [r.length];exact hi
  exact ⟨vs,vs[i],zU_ S.fh (zU_ s h),by simp [hi']⟩
 yld:=fun i G F2 σ H2 ρ x H3 d s S hd ⟨e,q⟩=>by
  subst e
  obtain ⟨v,e1,e2⟩:=r.get hd
  have:=q vs (zU_ S.fh (zU_ s h))
  rw [e1] at this
  cases this
  exact ⟨F2,Same.refl _,S,e2.mono s⟩
 stop:=fun G F2 σ H2 ρ s S=>⟨vs,zU_ S.fh (zU_ s h),by rw [r.length];exact Nat.le_refl _⟩
noncomputable def yy_ (lo:Int) (n:Nat):List D:=(List.range n).map fun (i:Nat)=>PyData.int (lo+(i:Int))
theorem uJ_ (lo:Int) (n:Nat):(yy_ lo n).length=n:=by simp [yy_]
theorem Jg_ {K:Fg} {F:Hp} (lo:Int) (n:Nat):Walk K (Itr lo n) (yy_ lo n) F where
 go:=fun i G F2 σ H2 ρ s S hi=>by rw [uJ_] at hi;exact hi
 yld:=fun i G F2 σ H2 ρ x H3 d s S hd ⟨e,q⟩=>by
  subst e q
  have e':(yy_ lo n)[i]? = some d:=hd
  unfold yy_ at e'
  rw [List.getElem?_map] at e'
  have hi:i<n:=by
   have:=(List.getElem?_eq_some_iff.mp hd).1
   rw [uJ_] at this;exact this
  rw [List.getElem?_range hi] at e'
  cases e'
  exact ⟨F2,Same.refl _,S,.int _⟩
 stop:=fun G F2 σ H2 ρ s S=>by rw [uJ_];exact Nat.le_refl _
@[irreducible] noncomputable def yM_ (X:Cx) (tg iter:Expr):TI:=fun σ H R=>∀ (pins:List (Addr×Obj)) (s:Shared),Inv X pins σ H s→wpAny (model X.prog X.w) X.A (eval iter X.env) (fun v s1=>wpAny (model X.prog X.w) X.A (pyIter v) (PIE X pins σ tg R) X.xe s1) X.xe s
theorem Jo_ {X:Cx} {tg e:Expr}:PI X tg e (yM_ X tg e):=fun pins s σ H R I h=>by unfold yM_ at h;exact h pins s I
theorem semI {X:Cx} {tg e:Expr} {σ:L2.St} {H:Hp} {R:It→Hp→Prop} {t:TI} (h:PI X tg e t) (q:t σ H R):yM_ X tg e σ H R:=by unfold yM_;exact fun pins s I=>h pins s σ H R I q
noncomputable def AI (X:Cx) (tg e:Expr) (p:Pu (List D)):Prop :=
 ∀ (G:Gh) (F:Hp) (σ:L2.St) (H:Hp) (ρ:En) (R:It→Hp→Prop),StOk X.K G F σ H ρ→W X G F σ ρ (p ρ) (fun ds F' H'=>∀ J,Walk X.K J ds F'→R J H')→yM_ X tg e σ H R
noncomputable def AEi {S:Type} (X:Cx) (tg e:Expr) (m:Ev S (List D)):Prop :=
 ∀ (OK:M S→Prop) (x:Ex→En→M S) (k:List D→En→M S) (G:Gh) (F:Hp) (σ:L2.St) (H:Hp) (ρ:En) (R:It→Hp→Prop),KOk OK→XL X OK x G→StOk X.K G F σ H ρ→OK (m x k ρ) →
  (∀ ds J F' H' ρ',Same F F'→StOk X.K G F' σ H' ρ'→Walk X.K J ds F'→OK (k ds ρ')→R J H')→yM_ X tg e σ H R
theorem uH_ {S:Type} {X:Cx} {tg e:Expr} {ps:Pu (List D)} (h:AI X tg e ps):AEi (S:=S) X tg e (ePu ps):=fun OK x k G F σ H ρ Q hO hX St ok kk=>h G F σ H ρ Q St (W.of hO hX ok fun d F' H' s S' o v r=>kk d v F' H' ρ s S' r o)
noncomputable def iSeq (K:Fg) (tl:TE):TI:=fun σ H R=>tl σ H fun x H1=>(∃ a,x=.ref a∧(∃ xs,SqL K H1 a xs)∧R (Itl K a) H1)∨∃ a,x=.ref a∧(∃ xs,SqT K H1 a xs)∧R (Itt K a) H1
theorem zbS_ {X:Cx} {tg l:Expr} {tl:TE} (hl:PE X l tl):PI X tg l (iSeq X.K tl):=by
 intro pins s σ H R I h
 refine thn (hl pins s σ H _ I h) fun v s1 ⟨x,H1,I1,r1,q1⟩=>?_
 rcases q1 with ⟨a,e,⟨xs,hq⟩,q⟩|⟨a,e,⟨xs,hq⟩,q⟩
 ·subst e
  cases r1
  obtain ⟨its,rv,p,hz⟩:=I1.list hq
  refine wpAny_pyIter_list p.isList ?_
  refine ⟨s1.heap.objs.size,[s1.heap.objs.size],_,_,H1,rfl,I1.kept (t':=s1.toks) fun b o e=>Heap.get?_push_of_some _ e,Vm_ a _,⟨_,Heap.get?_push_size _ rfl,rfl,rfl⟩,fun b hb=>?_,q⟩
  have e:b=s1.heap.objs.size:=by simpa using hb
  subst e
  exact I1.fpOk (Nat.le_refl _) (I1.hok.fresh (Nat.le_refl _))
 ·subst e
  cases r1
  obtain ⟨its,rv,p,hz⟩:=I1.tuple hq
  refine wpAny_pyIter_tuple (show s1.heap.IsTuple a its.toArray from p) ?_
  refine ⟨s1.heap.objs.size,[s1.heap.objs.size],_,_,H1,rfl,I1.kept (t':=s1.toks) fun b o e=>Heap.get?_push_of_some _ e,QD_ a _,⟨_,Heap.get?_push_size _ rfl,rfl,rfl⟩,fun b hb=>?_,q⟩
  have e:b=s1.heap.objs.size:=by simpa using hb
  subst e
  exact I1.fpOk (Nat.le_refl _) (I1.hok.fresh (Nat.le_refl _))
noncomputable def seqD:D→Option (List D)
 | .list ds=>some ds
 | .tuple ds=>some ds
 | _=>none
noncomputable def pIt (p:Pu D):Pu (List D):=fun ρ=>bd (p ρ) fun d=>oM (seqD d)
noncomputable def yr_ (i:Int):Bool:=decide (-(2^62)≤i)&&decide (i<2^62)
theorem j5_ {i:Int} (h:yr_ i=true) : -(2^62)≤i∧i<2^62:=by
 unfold yr_ at h
 simp only [Bool.and_eq_true,decide_eq_true_eq] at h
 exact h
noncomputable def ja_:List D→Option (List D)
 | [.int j]=>if yr_ j then some (yy_ 0 j.toNat) else none
 | _=>none
noncomputable def u7_:List D→Option (List D)
 | [.int i,.int j]=>if yr_ i&&yr_ j then some (yy_ i (j - i).toNat) else none
 | _=>none
section
variable {S:Type} {X:Cx} {tg e a b:Expr} {pp:Pu D} {ps:Pa (List D)} {m:Ev S D} {ms:Ev S (List D)} {p pos:Pos}
theorem WT_ {F H:Hp} {v:V} {d:D} {ds:List D} {R:It→Hp→Prop} (s:Same F H) (r:Rep X.K F v d) (hd:seqD d=some ds) (k:∀ J,Walk X.K J ds F→R J H) :
  (∃ a,v=.ref a∧(∃ xs,SqL X.K H a xs)∧R (Itl X.K a) H)∨∃ a,v=.ref a∧(∃ xs,SqT X.K H a xs)∧R (Itt X.K a) H:=by
 cases d with
 | list xs =>
  cases hd
  obtain ⟨a,vs,rfl,h1,h2⟩:=r.lst_inv
  exact .inl ⟨_,rfl,⟨_,s.seq h1⟩,k _ (Vf_ h1 h2)⟩
 | tuple xs =>
  cases hd
  obtain ⟨a,vs,rfl,h1,h2⟩:=r.tup_inv
  exact .inr ⟨_,rfl,⟨_,SqT.of (s _ _ h1)⟩,k _ (WP_ (SqT.of h1) h2)⟩
 | _=>exact noS hd
theorem Qy_ (h:AP X e pp):AI X tg e (pIt pp):=fun G F σ H ρ R S w=>semI (zbS_ zs_) (h G F σ H ρ _ S (w.bind.imp fun d F1 H1 s1 S1 w1 v r1=>by
 obtain ⟨ds,hd,k⟩:=w1.opt
 exact WT_ S1.fh r1 hd (k F1 H1 (Same.refl _) S1)))
theorem Vx_ {F H:Hp} {vs:List V} {ds out:List D} {R:It→Hp→Prop} (r:RepL X.K F vs ds) (h:ja_ ds=some out) (k:∀ J,Walk X.K J out F→R J H):∃ j,vs=[.int j] ∧ -(2^62)≤j∧j<2^62∧R (Itr 0 j.toNat) H:=by
 unfold ja_ at h
 split at h
 ·rename_i j
  split at h
  ·rename_i hs
   cases h
   obtain ⟨v,rfl,r1⟩:=r.one_inv
   obtain rfl:=r1.int_inv
   exact ⟨j,rfl,(j5_ hs).1,(j5_ hs).2,k _ (Jg_ 0 j.toNat)⟩
  ·cases h
 ·cases h
theorem Vw_ {F H:Hp} {vs:List V} {ds out:List D} {R:It→Hp→Prop} (r:RepL X.K F vs ds) (h:u7_ ds=some out) (k:∀ J,Walk X.K J out F→R J H) :
  ∃ i j,vs=[.int i,.int j]∧(-(2^62)≤i∧i<2^62 ∧ -(2^62)≤j∧j<2^62)∧R (Itr i (j - i).toNat) H:=by
 unfold u7_ at h
 split at h
 ·rename_i i j
  split at h
  ·rename_i hs
   cases h
   rw [Bool.and_eq_true] at hs
   obtain ⟨v,u,rfl,r1,r3⟩:=r.two_inv
   obtain rfl:=r1.int_inv
   obtain rfl:=r3.int_inv
   exact ⟨i,j,rfl,⟨(j5_ hs.1).1,(j5_ hs.1).2,(j5_ hs.2).1,(j5_ hs.2).2⟩,k _ (Jg_ i (j - i).toNat)⟩
  ·cases h
 ·cases h
theorem zW_ (hg:Gl X "range") (hm:X.mg "range" = none) (ha:AA X [a] ps) (hs:starEach [a] X.env=[(false,eval a X.env)]):AI X tg (.Call (.Name "range" p) [a] [] pos) (VM_ ja_ ps) :=
 fun G F σ H ρ R S w=>semI (VE_ hg hm j7_ hs) (ha G F σ H ρ _ _ _ S w fun ds vs F1 H1 s1 S1 _ r1 w1=>by
  obtain ⟨out,hd,k⟩:=w1.opt
  exact Vx_ r1 hd (k F1 H1 (Same.refl _) S1))
theorem ZY_ (hg:Gl X "range") (hm:X.mg "range" = none) (ha:AA X [a,b] ps) (hs:starEach [a,b] X.env=[(false,eval a X.env),(false,eval b X.env)]) (hs2:starEach [b] X.env=[(false,eval b X.env)]):AI X tg (.Call (.Name "range" p) [a,b] [] pos) (VM_ u7_ ps) :=
 fun G F σ H ρ R S w=>semI (VD_ hg hm j7_ hs hs2) (ha G F σ H ρ _ _ _ S w fun ds vs F1 H1 s1 S1 _ r1 w1=>by
  obtain ⟨out,hd,k⟩:=w1.opt
  exact Vw_ r1 hd (k F1 H1 (Same.refl _) S1))
end
noncomputable abbrev Tg (S:Type):=D→(En→M S)→En→M S
noncomputable def y9_ (ρ:En) (i:Nat):Bool:=decide (i<ρ.length)&&(match ρ[i]? with
 | some (some (.op _))=>false
 | _=>true)
theorem jP_ {ρ:En} {i:Nat} (h:y9_ ρ i=true):i<ρ.length∧∀ c,ρ[i]? ≠ some (some (.op c)):=by
 unfold y9_ at h
 rw [Bool.and_eq_true] at h
 refine ⟨by simpa using h.1,fun c e=>?_⟩
 rw [e] at h
 exact absurd h.2 (by simp)
@[irreducible] noncomputable def QH_ (X:Cx) (tg:Expr):TG:=fun v σ H Q=>∀ (pins:List (Addr×Obj)) (s:Shared) (u:Value),Inv X pins σ H s→RelV v u→wpAny (model X.prog X.w) X.A (assign tg X.env u) (fun _ s'=>∃ σ' H',Inv X pins σ' H' s'∧Q σ' H') X.xe s
@[irreducible] noncomputable def Ul_ (X:Cx) (tgs:List Expr):TGs:=fun vs σ H Q=>∀ (pins:List (Addr×Obj)) (s:Shared) (us:List Value),Inv X pins σ H s→Vals vs us→wpAny (model X.prog X.w) X.A (assignInOrder ((assignEach tgs X.env).map (·.2)) us) (fun _ s'=>∃ σ' H',Inv X pins σ' H' s'∧Q σ' H') X.xe s
theorem ZA_ {X:Cx} {tg:Expr}:PG X tg (QH_ X tg):=fun pins s σ H v u Q I r h=>by unfold QH_ at h;exact h pins s u I r
theorem VF_ {X:Cx} {tgs:List Expr}:PGs X tgs (Ul_ X tgs):=fun pins s σ H vs us Q I r h=>by unfold Ul_ at h;exact h pins s us I r
theorem semG {X:Cx} {tg:Expr} {t:TG} {v:V} {σ:L2.St} {H:Hp} {Q:L2.St→Hp→Prop} (h:PG X tg t) (q:t v σ H Q):QH_ X tg v σ H Q:=by unfold QH_;exact fun pins s u I r=>h pins s σ H v u Q I r q
theorem zbs_ {X:Cx} {tgs:List Expr} {t:TGs} {vs:List V} {σ:L2.St} {H:Hp} {Q:L2.St→Hp→Prop} (h:PGs X tgs t) (q:t vs σ H Q):Ul_ X tgs vs σ H Q:=by unfold Ul_;exact fun pins s us I r=>h pins s σ H vs us Q I r q
noncomputable def AG {S:Type} (X:Cx) (n:Nat) (tg:Expr) (st:Tg S):Prop :=
 ∀ (OK:M S→Prop) (k:En→M S) (G:Gh) (F:Hp) (σ:L2.St) (H:Hp) (ρ:En) (v:V) (d:D) (Q:L2.St→Hp→Prop),KOk OK→StOk X.K G F σ H ρ→Rep X.K F v d→OK (st d k ρ) →
  (∀ σ' ρ',StOk X.K G F σ' H ρ'→(∀ j,j<n→σ'[j]? = σ[j]? ∧ ρ'[j]? = ρ[j]?)→σ'.length=σ.length→ρ'.length=ρ.length→OK (k ρ')→Q σ' H)→QH_ X tg v σ H Q
noncomputable def AGs {S:Type} (X:Cx) (n:Nat) (tgs:List Expr) (st:List D→(En→M S)→En→M S):Prop :=
 ∀ (OK:M S→Prop) (k:En→M S) (G:Gh) (F:Hp) (σ:L2.St) (H:Hp) (ρ:En) (vs:List V) (ds:List D) (Q:L2.St→Hp→Prop),KOk OK→StOk X.K G F σ H ρ→RepL X.K F vs ds→OK (st ds k ρ) →
  (∀ σ' ρ',StOk X.K G F σ' H ρ'→(∀ j,j<n→σ'[j]? = σ[j]? ∧ ρ'[j]? = ρ[j]?)→σ'.length=σ.length→ρ'.length=ρ.length→OK (k ρ')→Q σ' H)→Ul_ X tgs vs σ H Q
noncomputable def gSet {S:Type} (i:Nat):Tg S:=fun d k ρ=>match y9_ ρ i with
 | true=>k (ρ.set i (some (.fz d)))
 | false=>.bad
noncomputable def zdO_ {S:Type}:List D→(En→M S)→En→M S
 | [],k,ρ=>k ρ
 | _,_,_=>.bad
noncomputable def zcK_ {S:Type} (t:Tg S) (ts:List D→(En→M S)→En→M S):List D→(En→M S)→En→M S
 | d::ds,k,ρ=>t d (fun ρ1=>ts ds k ρ1) ρ
 | [],_,_=>.bad
noncomputable def un1 {S:Type} (d:D) (k:D→M S):M S:=match d with
 | .tuple [a]=>k a
 | _=>.bad
noncomputable def un2 {S:Type} (d:D) (k:D→D→M S):M S:=match d with
 | .tuple [a,b]=>k a b
 | _=>.bad
noncomputable def zcL_ {S:Type} (ts:List D→(En→M S)→En→M S):Tg S:=fun d k ρ=>un2 d fun a b=>ts [a,b] k ρ
section
variable {S:Type} {X:Cx} {pos:Pos} {n:Nat}
theorem zS_ {i:Nat} {x:Str} (hn:n≤i) (hN:X.N.Nodup) (hi:X.N[i]? = some x) (hx:Loc X.env.scope x) (hf:X.fn x=true∨X.env.scope.names.lookup x=some .local):AG (S:=S) X n (.Name x pos) (gSet i):=by
 intro OK k G F σ H ρ v d Q hO S r ok kk
 unfold gSet at ok
 split at ok
 ·rename_i ho
  obtain ⟨hl,hop⟩:=jP_ ho
  refine semG (zap_ hN hi hx hf) ?_
  exact kk _ _ (S.store hop hl (.inl ⟨d,rfl,r⟩)) (fun j hj=>⟨List.getElem?_set_ne (by lia),List.getElem?_set_ne (by lia)⟩) (by simp) (by simp) ok
 ·exact (hO ok).elim
theorem zbc_:AGs (S:=S) X n [] zdO_:=by
 intro OK k G F σ H ρ vs ds Q hO S r ok kk
 cases ds with
 | nil =>
  cases r
  exact zbs_ zao_ ⟨rfl,kk σ ρ S (fun _ _=>⟨rfl,rfl⟩) rfl rfl ok⟩
 | cons d ds=>exact (hO ok).elim
theorem Qz_ {e:Expr} {es:List Expr} {st:Tg S} {sts:List D→(En→M S)→En→M S} (h1:AG X n e st) (h2:AGs X n es sts)
  (hs:(assignEach (e::es) X.env).map (·.2)=assign e X.env::(assignEach es X.env).map (·.2)):AGs X n (e::es) (zcK_ st sts):=by
 intro OK k G F σ H ρ vs ds Q hO S r ok kk
 cases ds with
 | nil=>exact (hO ok).elim
 | cons d ds =>
  cases r with
  | cons rv rr =>
   refine zbs_ (W2_ ZA_ VF_ hs) ⟨_,_,rfl,?_⟩
   refine h1 OK _ G F σ H ρ _ d _ hO S rv ok fun σ1 ρ1 S1 kp1 l1 m1 o1=>?_
   exact h2 OK k G F σ1 H ρ1 _ ds _ hO S1 rr o1 fun σ2 ρ2 S2 kp2 l2 m2 o2=>kk σ2 ρ2 S2 (fun j hj=>⟨(kp2 j hj).1.trans (kp1 j hj).1,(kp2 j hj).2.trans (kp1 j hj).2⟩) (l2.trans l1) (m2.trans m1) o2
theorem zbd_ {es:List Expr} {kk l:Nat} {sts:List D→(En→M S)→En→M S} {st:Tg S} (hc:X.calm=true) (h:AGs X n es sts) (hn:(assignEach es X.env).length=l) (hst:(assignEach es X.env).findIdx? (·.1)=none)
  (hw:∀ (OK:M S→Prop) d k ρ,KOk OK→OK (st d k ρ)→∃ ds,d=.tuple ds∧ds.length=l∧OK (sts ds k ρ)):AG X n (.Tuple es kk pos) st:=by
 intro OK k G F σ H ρ v d Q hO S r ok k2
 obtain ⟨ds,rfl,hl,ok⟩:=hw OK d k ρ hO ok
 cases r with
 | tup h1 h2 =>
  refine semG (zbT_ hc VF_ hn hst) ⟨_,_,rfl,SqT.of (S.fh _ _ h1),by rw [h2.length];exact hl,?_⟩
  exact h OK k G F σ H ρ _ ds _ hO S h2 ok k2
theorem zbe_ {es:List Expr} {kk:Nat} {sts:List D→(En→M S)→En→M S} (hc:X.calm=true) (h:AGs X n es sts) (hn:(assignEach es X.env).length=2) (hst:(assignEach es X.env).findIdx? (·.1)=none):AG X n (.Tuple es kk pos) (zcL_ sts) :=
 zbd_ hc h hn hst fun OK d k ρ hO o=>by
  unfold zcL_ un2 at o
  split at o
  ·exact ⟨_,rfl,rfl,o⟩
  ·exact (hO o).elim
end
noncomputable abbrev SM (S:Type):=KS S→En→M S
structure EOk {S:Type} (X:Cx) (OK:M S→Prop) (K:KS S) (G:Gh) (F:Hp) (E:Ends):Prop where
 nx:∀ F' σ' H' ρ',Same F F'→StOk X.K G F' σ' H' ρ'→OK (K.nx ρ')→E.nx σ' H'
 rt:∀ F' σ' H' ρ' d v,Same F F'→StOk X.K G F' σ' H' ρ'→Rep X.K F' v d→OK (K.rt d ρ')→E.rt v H'
 rl:∀ F' σ' H' ρ' ds v,Same F F'→StOk X.K G F' σ' H' ρ'→Frs X.K G F' σ' H' ρ' v (.l ds)→OK (K.rl ds ρ')→E.rt v H'
 bk:∀ F' σ' H' ρ',Same F F'→StOk X.K G F' σ' H' ρ'→OK (K.bk ρ')→E.bk σ' H'
 ct:∀ F' σ' H' ρ',Same F F'→StOk X.K G F' σ' H' ρ'→OK (K.ct ρ')→E.ct σ' H'
theorem EOk.up {S:Type} {X:Cx} {OK:M S→Prop} {K:KS S} {G:Gh} {F F':Hp} {E:Ends} (h:EOk X OK K G F E) (s:Same F F'):EOk X OK K G F' E :=
 ⟨fun F2 σ' H' ρ' s2=>h.nx F2 σ' H' ρ' (s.trans s2),fun F2 σ' H' ρ' d v s2=>h.rt F2 σ' H' ρ' d v (s.trans s2),fun F2 σ' H' ρ' d v s2=>h.rl F2 σ' H' ρ' d v (s.trans s2),fun F2 σ' H' ρ' s2=>h.bk F2 σ' H' ρ' (s.trans s2),fun F2 σ' H' ρ' s2=>h.ct F2 σ' H' ρ' (s.trans s2)⟩
@[irreducible] noncomputable def Z2_ (X:Cx) (st:Stmt):TS:=fun E σ H=>∀ (pins:List (Addr×Obj)) (s:Shared),Inv X pins σ H s→wpAny (model X.prog X.w) X.A (exec st X.env) (SP X pins E) X.xe s
@[irreducible] noncomputable def Um_ (X:Cx) (sts:List Stmt):TS:=fun E σ H=>∀ (pins:List (Addr×Obj)) (s:Shared),Inv X pins σ H s→wpAny (model X.prog X.w) X.A (execs sts X.env) (SP X pins E) X.xe s
section
variable {X:Cx} {st:Stmt} {sts:List Stmt} {σ:L2.St} {H:Hp} {E:Ends} {t:TS}
theorem XG_:PS X st (Z2_ X st):=fun pins s σ H E I h=>by unfold Z2_ at h;exact h pins s I
theorem ys_:PSs X sts (Um_ X sts):=fun pins s σ H E I h=>by unfold Um_ at h;exact h pins s I
theorem semS (h:PS X st t) (q:t E σ H):Z2_ X st E σ H:=by unfold Z2_;exact fun pins s I=>h pins s σ H E I q
theorem semB (h:PSs X sts t) (q:t E σ H):Um_ X sts E σ H:=by unfold Um_;exact fun pins s I=>h pins s σ H E I q
end
noncomputable def AS {S:Type} (X:Cx) (st:Stmt) (m:SM S):Prop :=
 ∀ (OK:M S→Prop) (K:KS S) (G:Gh) (F:Hp) (σ:L2.St) (H:Hp) (ρ:En) (E:Ends),KOk OK→XL X OK K.x G→StOk X.K G F σ H ρ→OK (m K ρ)→EOk X OK K G F E→Z2_ X st E σ H
noncomputable def ASs {S:Type} (X:Cx) (st:List Stmt) (m:SM S):Prop :=
 ∀ (OK:M S→Prop) (K:KS S) (G:Gh) (F:Hp) (σ:L2.St) (H:Hp) (ρ:En) (E:Ends),KOk OK→XL X OK K.x G→StOk X.K G F σ H ρ→OK (m K ρ)→EOk X OK K G F E→Um_ X st E σ H
section
variable {S:Type}
noncomputable def zdp_:SM S:=fun K ρ=>K.nx ρ
noncomputable def sSeq (m n:SM S):SM S:=fun K ρ=>m { K with nx:=fun ρ1=>n K ρ1 } ρ
noncomputable def sIf (c:Ev S Bool) (m n:SM S):SM S:=fun K ρ=>c K.x (fun b ρ1=>if b then m K ρ1 else n K ρ1) ρ
noncomputable def sTo (sh:List Kd) (m:SM S):SM S:=fun K ρ=>m { K with nx:=fun ρ1=>rdk sh (fun s=>K.nx (wr sh s)) ρ1 } ρ
noncomputable def sSet (i:Nat) (m:Ev S D):SM S:=fun K ρ=>m K.x (fun d ρ1=>match y9_ ρ1 i with
 | true=>K.nx (ρ1.set i (some (.fz d)))
 | false=>.bad) ρ
noncomputable def zbu_ (i:Nat) (m:Ev S (List D)):SM S:=fun K ρ=>m K.x (fun ds ρ1=>match y9_ ρ1 i with
 | true=>K.nx (ρ1.set i (some (.ol (.l ds))))
 | false=>.bad) ρ
noncomputable def sRet (m:Ev S D):SM S:=fun K ρ=>m K.x K.rt ρ
noncomputable def zdo_ (m:Ev S (List D)):SM S:=fun K ρ=>m K.x K.rl ρ
noncomputable def zec_ (i:Nat):SM S:=fun K ρ=>match ρ[i]? with
 | some (some (.ol (.l ds)))=>K.rl ds (ρ.set i none)
 | _=>.bad
noncomputable def sFrz (i:Nat) (m:SM S):SM S:=fun K ρ=>match ρ[i]? with
 | some (some (.ol c))=>m K (ρ.set i (some (.fz c.d)))
 | _=>.bad
noncomputable def setO (ρ:En) (i:Nat) (ds:List D):En:=match ρ[i]? with
 | some (some (.op _))=>ρ.set i (some (.op (.l ds)))
 | _=>ρ.set i (some (.ol (.l ds)))
noncomputable def sMut (i:Nat) (f:List D→List D→Option (List D)) (ms:Ev S (List D)):SM S:=fun K ρ=>match ownL ρ i with
 | some _=>ms K.x (fun as ρ1=>match ownL ρ1 i with
  | some ds=>(oM (f ds as)).on (fun e=>K.x e ρ1) (fun ds'=>K.nx (setO ρ1 i ds'))
  | none=>.bad) ρ
 | none=>.bad
noncomputable def forC {T:Type} (step:T→D→(T→M S)→M S):List D→T→(T→M S)→M S
 | [],s,k=>k s
 | d::r,s,k=>step s d (fun s'=>forC step r s' k)
@[reducible] noncomputable def Xe_ (sh:List Kd) (K:KS S) (kn:SOf sh→M S):KS S:={ K with
  nx:=fun ρ3=>rdk sh kn ρ3
  ct:=fun ρ3=>rdk sh kn ρ3
  bk:=fun ρ3=>rdk sh (fun s'=>K.nx (wr sh s')) ρ3 }
noncomputable def sFor (sh:List Kd) (it:Ev S (List D)) (t:Tg S) (mb:SM S):SM S:=fun K ρ=>it K.x (fun ds ρ1=>rdk sh (fun s=>forC (fun s d kn=>t d (fun ρ2=>mb (Xe_ sh K kn) ρ2) (wr sh s)) ds s (fun s'=>K.nx (wr sh s'))) ρ1) ρ
end
theorem Zt_ (ρ:En) (i:Nat) (ds ds0:List D) (h:ownL ρ i=some ds0):setO ρ i ds=ρ.set i ((ρ[i]?.join).map fun | .op _=>.op (.l ds)|_=>.ol (.l ds)):=by
 unfold ownL at h
 unfold setO
 split at h
 ·rename_i q;rw [q];rfl
 ·rename_i q;rw [q];rfl
 ·cases h
theorem Zz_ {S:Type} {OK:M S→Prop} (hO:KOk OK) {sh:List Kd} {k:SOf sh→M S} {ρ:En} (h:OK (rdk sh k ρ)):∃ s,rd sh ρ=some s∧OK (k s):=by
 unfold rdk at h
 split at h
 ·rename_i s e;exact ⟨s,e,h⟩
 ·exact (hO h).elim
section
variable {S:Type} {X:Cx} {st:Stmt} {sts rest:List Stmt} {m n:SM S} {e c a b:Expr} {me:Ev S D} {mt:Ev S Bool} {ml:Ev S (List D)} {pos pos' tpos:Pos}
theorem zL_:ASs (S:=S) X [] zdp_:=fun OK K G F σ H ρ E hO hX St ok eo=>semB VB_ (eo.nx F σ H ρ (Same.refl _) St ok)
theorem zd_ (h1:AS X st m) (h2:ASs X rest n):ASs X (st::rest) (sSeq m n):=fun OK K G F σ H ρ E hO hX St ok eo =>
 semB (Y6_ XG_ ys_) (h1 OK { K with nx:=fun ρ1=>n K ρ1 } G F σ H ρ _ hO hX St ok ⟨fun F' σ' H' ρ' s S' o=>h2 OK K G F' σ' H' ρ' E hO hX S' o (eo.up s),eo.rt,eo.rl,eo.bk,eo.ct⟩)
theorem zk_ (h1:AS X st m):ASs X [st] m:=fun OK K G F σ H ρ E hO hX St ok eo=>semB (zai_ XG_) (h1 OK K G F σ H ρ E hO hX St ok eo)
theorem jO_ {A B:List Stmt} (hc:AEt X c mt) (ha:ASs X A m) (hb:ASs X B n):AS X (.If c A B pos) (sIf mt m n):=fun OK K G F σ H ρ E hO hX St ok eo =>
 semS (zdw_ yz_ ys_ ys_) (hc OK K.x _ G F σ H ρ _ hO hX St ok fun t F1 H1 ρ1 s1 S1 o1=>by
  cases t with
  | true=>exact ha OK K G F1 σ H1 ρ1 E hO hX S1 o1 (eo.up s1)
  | false=>exact hb OK K G F1 σ H1 ρ1 E hO hX S1 o1 (eo.up s1))
theorem zM_ {sh:List Kd} (h:AS X st m):AS X st (sTo sh m):=fun OK K G F σ H ρ E hO hX St ok eo =>
 h OK { K with nx:=fun ρ1=>rdk sh (fun s=>K.nx (wr sh s)) ρ1 } G F σ H ρ E hO hX St ok ⟨fun F' σ' H' ρ' s S' o=>by
  obtain ⟨s',e',o'⟩:=Zz_ hO o
  exact eo.nx F' σ' H' _ s (S'.rd e') o',eo.rt,eo.rl,eo.bk,eo.ct⟩
theorem X1_ {i:Nat} (h:AS X st m):AS X st (sFrz i m):=fun OK K G F σ H ρ E hO hX St ok eo=>by
 unfold sFrz at ok
 split at ok
 ·rename_i ds q
  obtain ⟨a,ea,_⟩:=St.ow i _ (.inl q)
  obtain ⟨F2,s2,S2,_⟩:=St.settleC q ea
  exact h OK K G F2 σ H _ E hO hX S2 ok (eo.up s2)
 ·exact (hO ok).elim
theorem zB_ (he:AE X e me):AS X (.Return (some e) pos) (sRet me):=fun OK K G F σ H ρ E hO hX St ok eo =>
 semS (XH_ zs_) (he OK K.x K.rt G F σ H ρ _ hO hX St ok fun d v F1 H1 ρ1 s1 S1 r1 o1=>eo.rt F1 σ H1 ρ1 d v s1 S1 r1 o1)
theorem zaY_ (he:AEl X e ml):AS X (.Return (some e) pos) (zdo_ ml):=fun OK K G F σ H ρ E hO hX St ok eo =>
 semS (XH_ zs_) (he OK K.x K.rl G F σ H ρ _ hO hX St ok fun d v F1 H1 ρ1 s1 S1 r1 o1=>eo.rl F1 σ H1 ρ1 d v s1 S1 r1 o1)
theorem zH_ {i:Nat} {x:Str} (hN:X.N.Nodup) (hi:X.N[i]? = some x) (hx:Loc X.env.scope x) (he:AE X e me) (hs:swapsWith e (some (.Name x pos')) pos.line X.env=pure false) (hf:X.fn x=true∨X.env.scope.names.lookup x=some .local) :
  AS X (.Assign [.Name x pos'] e pos) (sSet i me):=fun OK K G F σ H ρ E hO hX St ok eo =>
 semS (Y7_ hN hi hx zs_ hs hf) (he OK K.x _ G F σ H ρ _ hO hX St ok fun d v F1 H1 ρ1 s1 S1 r1 o1=>by
  split at o1
  ·rename_i ho
   obtain ⟨hl,hop⟩:=jP_ ho
   exact eo.nx F1 _ H1 _ s1 (S1.store hop hl (.inl ⟨d,rfl,r1⟩)) o1
  ·exact (hO o1).elim)
theorem ZU_ {i:Nat} {x:Str} (hN:X.N.Nodup) (hi:X.N[i]? = some x) (hx:Loc X.env.scope x) (he:AEl X e ml) (hs:swapsWith e (some (.Name x pos')) pos.line X.env=pure false) (hf:X.fn x=true∨X.env.scope.names.lookup x=some .local) :
  AS X (.Assign [.Name x pos'] e pos) (zbu_ i ml):=fun OK K G F σ H ρ E hO hX St ok eo =>
 semS (Y7_ hN hi hx zs_ hs hf) (he OK K.x _ G F σ H ρ _ hO hX St ok fun d v F1 H1 ρ1 s1 S1 r1 o1=>by
  split at o1
  ·rename_i ho
   obtain ⟨hl,hop⟩:=jP_ ho
   exact eo.nx F1 _ H1 _ s1 (S1.store hop hl (.inr ⟨.l d,rfl,r1⟩)) o1
  ·exact (hO o1).elim)
end
end L4
set_option Elab.async false
set_option linter.all false
set_option maxRecDepth 100000
namespace L4
open PySem PySem.Spec PyProof.Rows L2 L3
section
variable {S:Type} {X:Cx} {m n mb:SM S} {e c a b o:Expr} {me mi:Ev S D} {mt:Ev S Bool} {ml ms:Ev S (List D)} {pos pos' tpos apos cpos:Pos}
theorem zcV_ {tg iter:Expr} {body:List Stmt} {sh:List Kd} {t:Tg S} (hp:PassesOwn (model X.prog X.w) X.A X.env X.xe) (hc:X.calm=true) (hi:AEi X tg iter ml) (hg:AG X 0 tg t) (hb:ASs X body mb)
  (hs:∀ x,foldedSetIterable iter X.env x=pure x):AS X (.For tg iter body [] pos) (sFor sh ml t mb):=fun OK K G F σ H ρ E hO hX St ok eo =>
 semS (zbO_ hp hc Jo_ ZA_ ys_ hs) (hi OK K.x _ G F σ H ρ _ hO hX St ok fun ds J F1 H1 ρ1 s1 S1 wk o1=>by
  obtain ⟨s0,e0,o0⟩:=Zz_ hO o1
  have S0:=S1.rd e0
  clear o1
  generalize hstep:(fun (s:SOf sh) d (kn:SOf sh→M S)=>t d (fun ρ2=>mb (Xe_ sh K kn) ρ2) (wr sh s))=step at o0
  refine ⟨fun i m σ' H'=>∃ F' s,m=ds.length - i∧i≤ds.length∧Same F1 F'∧StOk X.K G F' σ' H' (wr sh s)∧OK (forC step (ds.drop i) s (fun s'=>K.nx (wr sh s'))),⟨ds.length,F1,s0,rfl,Nat.zero_le _,Same.refl _,S0,o0⟩,?_⟩
  rintro i m σ' H' ⟨F',s,rfl,hi,s2,S2,go⟩
  by_cases hlt:i<ds.length
  ·have ed:ds.drop i=ds[i]::ds.drop (i+1):=List.drop_eq_getElem_cons hlt
   rw [ed] at go
   dsimp only [forC] at go
   rw [←hstep] at go
   have again:∀ F5 σ5 H5 ρ5,Same F' F5→StOk X.K G F5 σ5 H5 ρ5→OK (rdk sh (fun s'=>forC step (ds.drop (i+1)) s' fun s'=>K.nx (wr sh s')) ρ5) →
     ∃ m',m'<ds.length - i∧∃ F' s,m'=ds.length - (i+1)∧i+1≤ds.length∧Same F1 F'∧StOk X.K G F' σ5 H5 (wr sh s)∧OK (forC step (ds.drop (i+1)) s (fun s'=>K.nx (wr sh s'))):=fun F5 σ5 H5 ρ5 s5 S5 o5=>by
    obtain ⟨s',e',o'⟩:=Zz_ hO o5
    exact ⟨ds.length - (i+1),by omega,F5,s',rfl,hlt,s2.trans s5,S5.rd e',o'⟩
   refine .inr ⟨wk.go i G F' σ' H' _ s2 S2 hlt,fun σ4 H4=>∃ m',m'<ds.length - i∧∃ F' s,m'=ds.length - (i+1)∧i+1≤ds.length∧Same F1 F'∧StOk X.K G F' σ4 H4 (wr sh s)∧OK (forC step (ds.drop (i+1)) s (fun s'=>K.nx (wr sh s'))),fun σ4 H4 h4=>h4,fun x H2 y=>?_⟩
   obtain ⟨F3,s3,S3,r3⟩:=wk.yld i G F' σ' H' _ x H2 ds[i] s2 S2 (by simp [hlt]) y
   refine hg OK _ G F3 σ' H2 (wr sh s) x ds[i] _ hO S3 r3 go fun σ3 ρ3 S4 _ _ _ o4=>?_
   rw [hstep] at o4
   refine hb OK (Xe_ sh K fun s'=>forC step (ds.drop (i+1)) s' fun s'=>K.nx (wr sh s')) G F3 σ3 H2 ρ3 _ hO hX S4 o4 ⟨fun F5 σ5 H5 ρ5 s5 S5 o5=>?_,fun F5 σ5 H5 ρ5 d v s5=>eo.rt F5 σ5 H5 ρ5 d v ((s1.trans (s2.trans s3)).trans s5),fun F5 σ5 H5 ρ5 d v s5=>eo.rl F5 σ5 H5 ρ5 d v ((s1.trans (s2.trans s3)).trans s5),fun F5 σ5 H5 ρ5 s5 S5 o5=>?_,fun F5 σ5 H5 ρ5 s5 S5 o5=>?_⟩
   ·exact again F5 σ5 H5 ρ5 (s3.trans s5) S5 o5
   ·obtain ⟨s',e',o'⟩:=Zz_ hO o5
    exact eo.nx F5 σ5 H5 _ ((s1.trans (s2.trans s3)).trans s5) (S5.rd e') o'
   ·exact again F5 σ5 H5 ρ5 (s3.trans s5) S5 o5
  ·have ei:i=ds.length:=by omega
   subst ei
   rw [List.drop_length] at go
   exact .inl ⟨wk.stop G F' σ' H' _ s2 S2,eo.nx F' σ' H' _ (s1.trans s2) S2 go⟩)
theorem ZB_ {K:Fg} {G:Gh} {F H:Hp} {σ:L2.St} {ρ:En} {i:Nat} {ds:List D} (St:StOk K G F σ H ρ) (h:ownL ρ i=some ds):∃ a vs,σ[i]? = some (some (.ref a))∧H a=some (.lst vs)∧RepL K F vs ds:=by
 obtain ⟨a,ea,oa⟩:=St.ow i _ (Zk_ h)
 obtain ⟨vs,h1,h2⟩:=oa.he
 exact ⟨a,vs,ea,h1,h2⟩
theorem VN_ {K:Fg} {G:Gh} {F H:Hp} {σ:L2.St} {ρ:En} {i:Nat} {a:Addr} {ds ds':List D} {vs':List V} (St:StOk K G F σ H ρ) (h:ownL ρ i=some ds) (ha:σ[i]? = some (some (.ref a))) (r:RepL K F vs' ds') :
  StOk K G F σ (upd H a (.lst vs')) (setO ρ i ds'):=by
 rw [Zt_ ρ i ds' ds h]
 exact St.change (Zk_ h) ha (c':=.l ds') ⟨_,zy_,r⟩
noncomputable def mApp (ds as:List D):Option (List D):=match as with
 | [d]=>if ds.length<sizeLine then some (ds++[d]) else none
 | _=>none
theorem ZV_ {i:Nat} {x:Str} (hN:X.N[i]? = some x) (hv:Vis X.env.scope x) (he:AEa X [e] ms)
  (hbase:attributeBase (.Name x pos') "append" X.env (eval (.Name x pos') X.env)=eval (.Name x pos') X.env)
  (hfew:((backTo cpos (starEach [e] X.env)).all (fun x=>!x.1)&&(backToKw cpos (keywordEach [] X.env)).all (fun x=>x.1.isSome)
   && decide ([e].length+([]:List Keyword).length+(if ([]:List Keyword).isEmpty then 0 else 1)<30))=true)
  (hline:(apos.endLine==cpos.line)=true) (hs:starEach [e] X.env=(false,eval e X.env)::starEach [] X.env) (hplain:(backTo cpos (starEach [] X.env)).any (·.1)=false)
  (hsw:swapsWith (.Call (.Attribute (.Name x pos') "append" apos) [e] [] cpos) none pos.line X.env=pure false) (hd:(x==("__debug__" : Str))=false:=by decide) (hcd:(x==("__classdict__" : Str))=false:=by decide) :
  AS X (.Expr (.Call (.Attribute (.Name x pos') "append" apos) [e] [] cpos) pos) (sMut i mApp ms):=fun OK K G F σ H ρ E hO hX St ok eo =>
 semS (zak_ (zdy_ PySem.F.plainAttrs_list PySem.F.slot_list_append PySem.F.type_list_append V0_ (Jp_ hN hv hd hcd) j7_ hbase hfew hline hs hplain) hsw) (by
  unfold sMut at ok
  split at ok
  case h_2=>exact (hO ok).elim
  ·rename_i ds0 h0
   obtain ⟨a,vs0,ea,hh,_⟩:=ZB_ St h0
   refine ⟨_,ea,.inl ⟨rfl,vs0,.inl (.inl hh)⟩,he OK K.x _ G F σ H ρ _ hO hX St ok fun as ws F1 H1 ρ1 s1 S1 _ r1 o1=>?_⟩
   split at o1
   ·rename_i ds hds
    obtain ⟨ds',hf,o2⟩:=y2_ hO o1
    obtain ⟨a',vs,ea',hh',rv⟩:=ZB_ S1 hds
    rw [ea] at ea'
    injection ea' with ea';injection ea' with ea';injection ea' with ea'
    subst ea'
    unfold mApp at hf
    split at hf
    ·split at hf
     ·rename_i hz
      cases hf
      cases r1 with
      | cons ra rb =>
       cases rb
       refine ⟨a,vs,_,rfl,rfl,hh',by rw [rv.length];exact hz,?_⟩
       exact eo.nx F1 σ _ _ s1 (VN_ S1 hds ea (rv.append (.cons ra .nil))) o2
     ·cases hf
    ·cases hf
   ·exact (hO o1).elim)
end
end L4
set_option Elab.async false
set_option linter.all false
set_option maxRecDepth 100000
namespace L4
open PySem PySem.Spec PyProof.Rows L2 L3
theorem map_some_get {α:Type} {l:List α} {i:Nat} {x:α}:(l.map some)[i]? = some (some x)↔l[i]? = some x:=by
 rw [List.getElem?_map]
 cases l[i]? <;> simp
open Classical in
noncomputable def zJ_ (G:Gh) (σ:L2.St) (ρ:En) (H:Hp) (ex:Option Addr):Hp:=fun b=>if (∃ (i:Nat) (c:OC),own ρ i c∧σ[i]? = some (some (V.ref b)))∧some b≠ex then H b else G.O b
noncomputable def setC (ρ:En) (j:Nat) (c:OC):En:=ρ.set j ((ρ[j]?.join).map fun | .op _=>.op c|_=>.ol c)
section
variable {K:Fg} {G:Gh} {F F' H H':Hp} {σ:L2.St} {ρ:En} {vs:List V} {ds:List D}
theorem jy_ {ex:Option Addr} (S:StOk K G F σ H ρ) {b:Addr} {o:HO} (h:G.O b=some o):zJ_ G σ ρ H ex b=some o:=by
 unfold zJ_
 rw [if_neg]
 ·exact h
 ·rintro ⟨⟨i,c,ho,e⟩,_⟩
  obtain ⟨a,e',oa⟩:=S.ow i c ho
  rw [e] at e'
  injection e' with e';injection e' with e';injection e' with e'
  subst e'
  rw [oa.no] at h;cases h
theorem uT_ {ex:Option Addr} {b:Addr} {i:Nat} {c:OC} (ho:own ρ i c) (e:σ[i]? = some (some (V.ref b))) (hx:some b≠ex):zJ_ G σ ρ H ex b=H b:=by
 unfold zJ_
 rw [if_pos ⟨⟨i,c,ho,e⟩,hx⟩]
theorem U3_ {ex:Option Addr} (S:StOk K G F σ H ρ):Same (zJ_ G σ ρ H ex) H:=fun b o h=>by
 unfold zJ_ at h
 split at h
 ·exact h
 ·exact S.oh b o h
theorem _root_.L3.Held.notup {K:Fg} {F H:Hp} {a:Addr} {c:OC} {o:HO} (h:Held K F H a c) (e:H a=some o):NoTE o:=by
 cases c with
 | l ds=>obtain ⟨vs,h1,_⟩:=h;rw [h1] at e;cases e;exact True.intro
 | t es=>obtain ⟨vs,h1,_⟩:=h;rw [h1] at e;cases e;exact True.intro
 | k es=>obtain ⟨vs,h1,_⟩:=h;rw [h1] at e;cases e;exact True.intro
theorem U4_ {ex:Option Addr} (S:StOk K G F σ H ρ):∀ b o,zJ_ G σ ρ H ex b=some o→F b=none∧NoTE o:=fun b o h=>by
 unfold zJ_ at h
 split at h
 ·rename_i hc
  obtain ⟨⟨i,c,ho,e⟩,_⟩:=hc
  obtain ⟨a,e',oa⟩:=S.ow i c ho
  rw [e] at e'
  injection e' with e';injection e' with e';injection e' with e'
  subst e'
  exact ⟨oa.nf,oa.he.notup h⟩
 ·exact S.fo b o h
theorem ZM_ {i:Nat} {av:AV} (h:((ds.map AV.fz).map some)[i]? = some (some av)):∃ d,av=.fz d∧ds[i]? = some d:=by
 rw [map_some_get,List.getElem?_map] at h
 cases q:ds[i]? with
 | none=>rw [q] at h;cases h
 | some d=>rw [q] at h;cases h;exact ⟨d,rfl,rfl⟩
theorem yD_ {i:Nat} {c:OC} (h:own ((ds.map AV.fz).map some) i c):False:=by
 rcases h with h|h<;>(obtain ⟨d,z,_⟩:=ZM_ h;cases z)
theorem uB_ (S:StOk K G F σ H ρ) (r:RepL K F vs ds):StOk K ⟨fun _=>none,zJ_ G σ ρ H none,F⟩ F (vs.map some) H ((ds.map AV.fz).map some):=by
 refine ⟨S.fh,U3_ S,U4_ S,by simp [r.length],fun i d h=>?_,fun i c h=>(yD_ h).elim,fun i j c e a h=>(yD_ h).elim,fun i a h=>(nomatch h),fun i c h=>?_,Same.refl _⟩
 ·obtain ⟨d',z,e⟩:=ZM_ h
  cases z
  obtain ⟨v,e1,e2⟩:=r.get e
  exact ⟨v,map_some_get.mpr e1,e2⟩
 ·obtain ⟨d',z,e⟩:=ZM_ h;cases z
theorem yX_ {avs':List AV} (S:StOk K G F σ H ρ) (s1:Same F F') (S1:StOk K ⟨fun _=>none,zJ_ G σ ρ H none,F⟩ F' (vs.map some) H' (avs'.map some)) :
  StOk K G F' σ H' ρ∧∀ v c,Frs K ⟨fun _=>none,zJ_ G σ ρ H none,F⟩ F' (vs.map some) H' (avs'.map some) v c→Frs K G F' σ H' ρ v c:=by
 have oo:∀ b,zJ_ G σ ρ H none b=none→G.O b=none:=fun b h=>by
  cases q:G.O b with
  | none=>rfl
  | some o=>rw [jy_ S q] at h;cases h
 refine ⟨⟨S1.fh,fun b o h=>S1.oh b o (jy_ S h),fun b o h=>S1.fo b o (jy_ S h),S.ln,fun i d h=>?_,fun i c h=>?_,S.dj,S.pp,S.pq,S.fb.trans s1⟩,fun v cc h=>?_⟩
 ·obtain ⟨v,e,r⟩:=S.fz i d h;exact ⟨v,e,r.mono s1⟩
 ·obtain ⟨a,e,oa⟩:=S.ow i c h
  obtain ⟨o,ho⟩:=oa.he.some
  have q:zJ_ G σ ρ H none a=some o:=by rw [uT_ h e (by simp)];exact ho
  exact ⟨a,e,(S1.fo a o q).1,oa.no,(oa.he.mono s1).at (by rw [S1.oh a o q,ho])⟩
 ·obtain ⟨a,rfl,oa,_⟩:=h
  refine ⟨a,rfl,⟨oa.nf,oo a oa.no,oa.he⟩,fun i e ho q=>?_⟩
  obtain ⟨a',e',oa'⟩:=S.ow i e ho
  rw [q] at e'
  injection e' with e';injection e' with e';injection e' with e'
  subst e'
  obtain ⟨o,hh⟩:=oa'.he.some
  have:=oa.no
  rw [show (⟨fun _=>none,zJ_ G σ ρ H none,F⟩:Gh).O a=zJ_ G σ ρ H none a from rfl,uT_ ho q (by simp),hh] at this
  cases this
noncomputable def P1 (a:Addr):Nat→Option Addr
 | 0=>some a
 | _=>none
theorem Wu_ {j:Nat} {c:OC} {a:Addr} (S:StOk K G F σ H ρ) (hj:own ρ j c) (ha:σ[j]? = some (some (V.ref a))) (r:RepL K F vs ds) :
  StOk K ⟨P1 a,zJ_ G σ ρ H (some a),F⟩ F ((V.ref a::vs).map some) H ((AV.op c::ds.map AV.fz).map some):=by
 obtain ⟨a',e',oa⟩:=S.ow j c hj
 rw [ha] at e'
 injection e' with e';injection e' with e';injection e' with e'
 subst e'
 have at0:∀ i d,own ((AV.op c::ds.map AV.fz).map some) i d→i=0∧d=c:=fun i d h=>by
  cases i with
  | zero=>rcases h with h|h<;>(simp at h);exact ⟨rfl,h.symm⟩
  | succ i=>exact (yD_ (ds:=ds) (i:=i) (c:=d) (by unfold own at h ⊢;simpa using h)).elim
 refine ⟨S.fh,U3_ S,U4_ S,by simp [r.length],fun i d h=>?_,fun i d h=>?_,fun i k d e b h1 h2 _ _=>?_,fun i b h=>?_,fun i d h=>?_,Same.refl _⟩
 ·cases i with
  | zero=>simp at h
  | succ i =>
   obtain ⟨d',z,e⟩:=ZM_ (ds:=ds) (i:=i) (av:=.fz d) (by simpa using h)
   cases z
   obtain ⟨v,e1,e2⟩:=r.get e
   exact ⟨v,by simpa using e1,e2⟩
 ·obtain ⟨rfl,rfl⟩:=at0 i d h
  refine ⟨a,rfl,oa.nf,?_,oa.he⟩
  show zJ_ G σ ρ H (some a) a=none
  unfold zJ_
  rw [if_neg (by simp)]
  exact oa.no
 ·rw [(at0 i d h1).1,(at0 k e h2).1]
 ·cases i with
  | zero=>cases h;exact ⟨rfl,c,rfl⟩
  | succ i=>cases h
 ·cases i with
  | zero=>exact ⟨a,rfl⟩
  | succ i =>
   obtain ⟨d',z,e⟩:=ZM_ (ds:=ds) (i:=i) (av:=.op d) (by simpa using h)
   cases z
theorem Q4_ {j:Nat} {c c':OC} {a:Addr} {l:List AV} (S:StOk K G F σ H ρ) (hj:own ρ j c) (ha:σ[j]? = some (some (V.ref a))) (s1:Same F F')
  (S1:StOk K ⟨P1 a,zJ_ G σ ρ H (some a),F⟩ F' ((V.ref a::vs).map some) H' ((AV.op c'::l).map some)) :
  StOk K G F' σ H' (setC ρ j c')∧∀ v cc,Frs K ⟨P1 a,zJ_ G σ ρ H (some a),F⟩ F' ((V.ref a::vs).map some) H' ((AV.op c'::l).map some) v cc→Frs K G F' σ H' (setC ρ j c') v cc:=by
 have oo:∀ b,zJ_ G σ ρ H (some a) b=none→G.O b=none:=fun b h=>by
  cases q:G.O b with
  | none=>rfl
  | some o=>rw [jy_ S q] at h;cases h
 obtain ⟨a',e',oa⟩:=S.ow j c hj
 rw [ha] at e'
 injection e' with e';injection e' with e';injection e' with e'
 subst e'
 have hl:j<ρ.length:=by rcases hj with h|h<;>exact (List.getElem?_eq_some_iff.mp h).1
 generalize hav:((ρ[j]?.join).map fun (x:AV)=>match x with | .op _=>AV.op c'|_=>AV.ol c')=av
 have hset:setC ρ j c'=ρ.set j av:=by rw [←hav];rfl
 rw [hset]
 have ne:∀ i,i≠j→(ρ.set j av)[i]? = ρ[i]?:=fun i hi=>List.getElem?_set_ne (Ne.symm hi)
 have atj:(ρ.set j av)[j]? = some av:=List.getElem?_set_self hl
 have kind:(ρ[j]? = some (some (.ol c))∧av=some (.ol c'))∨(ρ[j]? = some (some (.op c))∧av=some (.op c')):=by
  rcases hj with h|h
  ·exact .inl ⟨h,by rw [←hav,h];rfl⟩
  ·exact .inr ⟨h,by rw [←hav,h];rfl⟩
 have owni:∀ i e,own (ρ.set j av) i e→(i=j∧e=c')∨(i≠j∧own ρ i e):=fun i e h=>by
  by_cases hi:i=j
  ·subst hi
   unfold own at h
   rw [atj] at h
   rcases kind with ⟨_,k⟩|⟨_,k⟩<;>rw [k] at h<;>rcases h with h|h<;>cases h<;>exact .inl ⟨rfl,rfl⟩
  ·unfold own at h ⊢
   rw [ne i hi] at h
   exact .inr ⟨hi,h⟩
 have nea:∀ i e b,i≠j→own ρ i e→σ[i]? = some (some (V.ref b))→b≠a:=fun i e b hi ho q z=>by
  subst z
  exact hi (S.dj i j e c b ho hj q ha)
 have own1:OwnAt K ⟨P1 a,zJ_ G σ ρ H (some a),F⟩ F' H' a c':=by
  obtain ⟨b,e1,ob⟩:=S1.ow 0 c' (.inr rfl)
  have:V.ref a=V.ref b:=by simpa using e1
  injection this with this
  subst this
  exact ob
 refine ⟨⟨S1.fh,fun b o h=>S1.oh b o (jy_ S h),fun b o h=>S1.fo b o (jy_ S h),by simpa using S.ln,fun i d h=>?_,fun i e h=>?_,fun i k d e b h1 h2=>?_,fun i b h=>?_,fun i d h=>?_,S.fb.trans s1⟩,fun v cc h=>?_⟩
 ·by_cases hi:i=j
  ·subst hi
   rw [atj] at h
   rcases kind with ⟨_,k⟩|⟨_,k⟩<;>rw [k] at h<;>cases h
  ·rw [ne i hi] at h
   obtain ⟨v,e,r⟩:=S.fz i d h;exact ⟨v,e,r.mono s1⟩
 ·rcases owni i e h with ⟨rfl,rfl⟩|⟨hi,ho⟩
  ·exact ⟨a,ha,own1.nf,oa.no,own1.he⟩
  ·obtain ⟨b,eb,ob⟩:=S.ow i e ho
   obtain ⟨o,hh⟩:=ob.he.some
   have q:zJ_ G σ ρ H (some a) b=some o:=by rw [uT_ ho eb (fun z=>nea i e b hi ho eb (Option.some.inj z))];exact hh
   exact ⟨b,eb,(S1.fo b o q).1,ob.no,(ob.he.mono s1).at (by rw [S1.oh b o q,hh])⟩
 ·have f:∀ i e,own (ρ.set j av) i e→∃ d,own ρ i d:=fun i e h=>by
   rcases owni i e h with ⟨rfl,_⟩|⟨_,ho⟩
   ·exact ⟨c,hj⟩
   ·exact ⟨e,ho⟩
  exact S.dj i k _ _ b (f i d h1).choose_spec (f k e h2).choose_spec
 ·obtain ⟨q1,e,q2⟩:=S.pp i b h
  refine ⟨q1,?_⟩
  by_cases hi:i=j
  ·subst hi
   rcases kind with ⟨k1,k⟩|⟨k1,k⟩
   ·rw [k1] at q2;cases q2
   ·exact ⟨c',by rw [atj,k]⟩
  ·exact ⟨e,by rw [ne i hi];exact q2⟩
 ·by_cases hi:i=j
  ·subst hi
   rcases kind with ⟨k1,k⟩|⟨k1,k⟩
   ·rw [atj,k] at h;cases h
   ·exact S.pq i c k1
  ·rw [ne i hi] at h;exact S.pq i d h
 ·obtain ⟨b,rfl,ob,nn⟩:=h
  refine ⟨b,rfl,⟨ob.nf,oo b ob.no,ob.he⟩,fun i e ho q=>?_⟩
  rcases owni i e ho with ⟨rfl,_⟩|⟨hi,ho'⟩
  ·rw [ha] at q
   injection q with q;injection q with q;injection q with q
   subst q
   exact nn 0 c' (.inr rfl) rfl
  ·obtain ⟨b',eb,ob'⟩:=S.ow i e ho'
   rw [q] at eb
   injection eb with eb;injection eb with eb;injection eb with eb
   subst eb
   obtain ⟨o,hh⟩:=ob'.he.some
   have:=ob.no
   rw [show (⟨P1 a,zJ_ G σ ρ H (some a),F⟩:Gh).O b=zJ_ G σ ρ H (some a) b from rfl,uT_ ho' q (fun z=>nea i e b hi ho' q (Option.some.inj z)),hh] at this
   cases this
end
noncomputable abbrev fzs (ds:List D):En:=(ds.map AV.fz).map some
noncomputable def KD:KS D:=⟨fun _=>.ret .none,fun d _=>.ret d,fun _ _=>.bad,fun _=>.bad,fun _=>.bad,fun e _=>.exc e⟩
noncomputable def KL:KS (List D):=⟨fun _=>.bad,fun _ _=>.bad,fun ds _=>.ret ds,fun _=>.bad,fun _=>.bad,fun e _=>.exc e⟩
noncomputable def at0 {S:Type} (ρ:En) (k:List D→M S):M S:=match (ρ[0]? : Option (Option AV)) with
 | some (some (AV.op (OC.l f)))=>k f
 | _=>.bad
noncomputable def K1:KS (D×List D):=⟨fun ρ=>at0 ρ fun f=>.ret (.none,f),fun d ρ=>at0 ρ fun f=>.ret (d,f),fun _ _=>.bad,fun _=>.bad,fun _=>.bad,fun e _=>.exc e⟩
noncomputable def EndM (K:Fg) (G:Gh) (E:XK) {α:Type} (m:M α) (C:α→Prop):Prop:=match m with
 | .ret a=>C a
 | .exc x=>∀ F' H' Cl dd,GOk G F' H'→XR K F' Cl dd x→E (.ref Cl) dd H'
 | .bad=>False
noncomputable def spD (K:Fg) (n:Nat) (mf:List D→M D):Sp:=fun vs H Q E=>∃ G F ds,vs.length=n∧StOk K G F (vs.map some) H (fzs ds)∧EndM K G E (mf ds) fun d=>∀ v F' H',Same F F'→StOk K G F' (vs.map some) H' (fzs ds)→Rep K F' v d→Q v H'
noncomputable def spL (K:Fg) (n:Nat) (mf:List D→M (List D)):Sp:=fun vs H Q E=>∃ G F ds,vs.length=n∧StOk K G F (vs.map some) H (fzs ds)∧EndM K G E (mf ds) fun d=>∀ v F' H',Same F F'→StOk K G F' (vs.map some) H' (fzs ds)→Frs K G F' (vs.map some) H' (fzs ds) v (.l d)→Q v H'
noncomputable def sp1 (K:Fg) (n:Nat) (mf:List D→List D→M (D×List D)):Sp:=fun vs H Q E=>∃ G F f ds,vs.length=n∧StOk K G F (vs.map some) H (some (.op (.l f))::fzs ds)∧EndM K G E (mf f ds) fun r =>
 ∀ v F' H',Same F F'→StOk K G F' (vs.map some) H' (some (.op (.l r.2))::fzs ds)→Rep K F' v r.1→Q v H'
section
variable {K:Fg} {G:Gh} {F F' H H':Hp} {vs:List V} {σ:L2.St} {ρ:En} {ds:List D}
theorem Wy_ (S:StOk K G F (vs.map some) H (fzs ds)) (s1:Same F F') (S1:StOk K G F' σ H' ρ):StOk K G F' (vs.map some) H' (fzs ds):=by
 refine ⟨S1.fh,S1.oh,S1.fo,S.ln,fun i d q=>?_,fun i c q=>(yD_ q).elim,fun i j c e a q=>(yD_ q).elim,S.pp,S.pq,S1.fb⟩
 obtain ⟨v,e,r⟩:=S.fz i d q
 exact ⟨v,e,r.mono s1⟩
theorem zaU_ {v:V} {c:OC} (S1:StOk K G F' σ H' ρ) (h:Frs K G F' σ H' ρ v c):Frs K G F' (vs.map some) H' (fzs ds) v c:=by
 obtain ⟨a,rfl,oa,_⟩:=h
 exact ⟨a,rfl,oa,fun i e q=>(yD_ q).elim⟩
theorem own1 {f:List D} {i:Nat} {c:OC} (h:own (some (.op (.l f))::fzs ds) i c):i=0∧c=.l f:=by
 cases i with
 | zero=>rcases h with h|h<;>simp at h;exact ⟨rfl,h.symm⟩
 | succ i=>exact (yD_ (ds:=ds) (i:=i) (c:=c) (by unfold own at h ⊢;simpa using h)).elim
theorem XV_ {f f':List D} (S:StOk K G F (vs.map some) H (some (.op (.l f))::fzs ds)) (s1:Same F F') (S1:StOk K G F' σ H' ρ) (h0:ρ[0]? = some (some (.op (.l f')))) :
  StOk K G F' (vs.map some) H' (some (.op (.l f'))::fzs ds)∧∀ v c,Frs K G F' σ H' ρ v c→Frs K G F' (vs.map some) H' (some (.op (.l f'))::fzs ds) v c:=by
 obtain ⟨a,ha⟩:=S1.pq 0 _ h0
 obtain ⟨e1,_⟩:=S1.pp 0 a ha
 obtain ⟨e2,_⟩:=S.pp 0 a ha
 obtain ⟨b,eb,ob⟩:=S1.ow 0 _ (.inr h0)
 rw [e1] at eb
 injection eb with eb;injection eb with eb;injection eb with eb
 subst eb
 have only:∀ i b,G.P i=some b→i=0:=fun i b h=>by
  obtain ⟨_,c,q⟩:=S.pp i b h
  exact (own1 (.inr q)).1
 refine ⟨⟨S1.fh,S1.oh,S1.fo,S.ln,fun i d q=>?_,fun i c q=>?_,fun i j c e b q1 q2 _ _=>?_,fun i b q=>?_,fun i c q=>?_,S1.fb⟩,fun v c h=>?_⟩
 ·cases i with
  | zero=>simp at q
  | succ i =>
   obtain ⟨v,e,r⟩:=S.fz (i+1) d (by simpa using q)
   exact ⟨v,e,r.mono s1⟩
 ·obtain ⟨rfl,rfl⟩:=own1 q
  exact ⟨a,e2,ob⟩
 ·rw [(own1 q1).1,(own1 q2).1]
 ·have:=only i b q
  subst this
  exact ⟨(S.pp 0 b q).1,_,rfl⟩
 ·obtain ⟨rfl,_⟩:=own1 (.inr q)
  exact ⟨a,ha⟩
 ·obtain ⟨b,rfl,ob2,nn⟩:=h
  refine ⟨b,rfl,ob2,fun i e q z=>?_⟩
  obtain ⟨rfl,rfl⟩:=own1 q
  rw [e2] at z
  injection z with z;injection z with z;injection z with z
  subst z
  exact nn 0 _ (.inr h0) e1
end
section
variable {P:Program} {w:World} {K:Fg} {mg:Str→Option Value} {base:Heap} {x qual:Str} {st:Stmt} {f:Addr} {fd:FuncData} {N ps:List Str} {k:Nat}
theorem YZ_ {vs:List V} {ds:List D} {G:Gh} {F H:Hp} (hl:vs.length=ps.length) (S0:StOk K G F (vs.map some) H (fzs ds)):StOk K G F (L2.start N vs) H (fzs ds++List.replicate (N.length - ps.length) none):=by
 have e0:L2.start N vs=vs.map some++List.replicate (N.length - ps.length) none:=by unfold L2.start;rw [hl]
 rw [e0]
 exact S0.grow _
theorem fn_x {sp:Sp} (Fn:Fun K x qual st f fd) (S:FnScope N ps (ze_ st)) (len:∀ vs H Q E,sp vs H Q E→vs.length=ps.length)
  (hbody:∀ (cdv:Value) (A:Around) (outer:List Env) (s:Shared) (H:Hp) (vs:List V) (Q:VK) (E:XK),Room k (A.deeper (envOfC qual (ze_ st) s.heap.objs.size f cdv))→sp vs H Q E →
   ∃ t,PSs (cxOf (CX1 P w) P w K mg base N qual (ze_ st) f cdv A outer s H E) (zr_ st) t∧t { nx:=fun _ H'=>Q .non H',rt:=Q } (start N vs) H):FnOk P w K mg base (CX1 P w) (k+1) f fd ps sp:=by
 obtain ⟨oc,od,kV,doc,pm,an,cdv,ct,osl,rfl,lk,hcd⟩:=Fn.ex
 exact zdQ_ lk hcd S len fun A outer s H vs Q E hr hsp=>hbody cdv A outer s H vs Q E hr hsp
theorem zaP_ {α:Type} {C:α→Prop} {N:List Str} {qual:Str} {scope:Scope} {f:Addr} {cdv:Value} {A:Around} {outer:List Env} {s:Shared} {H F:Hp} {E:XK} {G:Gh} {ρ:En} {e:Ex} (h:EndM K G E (M.exc e:M α) C):XW (cxOf (CX1 P w) P w K mg base N qual scope f cdv A outer s H E) G F ρ e :=
 fun F' H' s' a Cl dd pins σ g _ I xs _ xr=>zaF_ I xs (h F' H' Cl dd g xr)
theorem jZ_ {mb:SM D} {mf:List D→M D} (Fn:Fun K x qual st f fd) (Sc:FnScope N ps (ze_ st))
  (hb:∀ (cdv:Value) (A:Around) (outer:List Env) (s:Shared) (H:Hp) (E:XK),Room k (A.deeper (envOfC qual (ze_ st) s.heap.objs.size f cdv)) →
   ASs (cxOf (CX1 P w) P w K mg base N qual (ze_ st) f cdv A outer s H E) (zr_ st) mb)
  (hm:∀ ds,ds.length=ps.length→mf ds=mb KD (fzs ds++List.replicate (N.length - ps.length) none)):FnOk P w K mg base (CX1 P w) (k+1) f fd ps (spD K ps.length mf):=by
 refine fn_x Fn Sc (fun vs H Q E h=>?_) (fun cdv A outer s H vs Q E hr h=>?_)
 ·obtain ⟨_,_,_,h1,_⟩:=h;exact h1
 ·obtain ⟨G,F0,ds,h1,S0,e⟩:=h
  have hl:ds.length=ps.length:=by have:=S0.ln;simp at this;lia
  rw [hm ds hl] at e
  refine ⟨_,ys_,hb cdv A outer s H E hr (fun m=>EndM K G E m _) KD G F0 _ H _ _ (fun z=>z) (fun F ρ e z=>zaP_ z) (YZ_ h1 S0) e ?_⟩
  exact ⟨fun F' σ' H' ρ' s S' o=>(by exact o .non F' H' s (Wy_ S0 s S') .non),fun F' σ' H' ρ' d' v s S' r o=>(by exact o v F' H' s (Wy_ S0 s S') r),fun F' σ' H' ρ' d' v s S' r o=>(o:False).elim,fun F' σ' H' ρ' s S' o=>(o:False).elim,fun F' σ' H' ρ' s S' o=>(o:False).elim⟩
theorem zcM_ {mb:SM (List D)} {mf:List D→M (List D)} (Fn:Fun K x qual st f fd) (Sc:FnScope N ps (ze_ st))
  (hb:∀ (cdv:Value) (A:Around) (outer:List Env) (s:Shared) (H:Hp) (E:XK),Room k (A.deeper (envOfC qual (ze_ st) s.heap.objs.size f cdv)) →
   ASs (cxOf (CX1 P w) P w K mg base N qual (ze_ st) f cdv A outer s H E) (zr_ st) mb)
  (hm:∀ ds,ds.length=ps.length→mf ds=mb KL (fzs ds++List.replicate (N.length - ps.length) none)):FnOk P w K mg base (CX1 P w) (k+1) f fd ps (spL K ps.length mf):=by
 refine fn_x Fn Sc (fun vs H Q E h=>?_) (fun cdv A outer s H vs Q E hr h=>?_)
 ·obtain ⟨_,_,_,h1,_⟩:=h;exact h1
 ·obtain ⟨G,F0,ds,h1,S0,e⟩:=h
  have hl:ds.length=ps.length:=by have:=S0.ln;simp at this;lia
  rw [hm ds hl] at e
  refine ⟨_,ys_,hb cdv A outer s H E hr (fun m=>EndM K G E m _) KL G F0 _ H _ _ (fun z=>z) (fun F ρ e z=>zaP_ z) (YZ_ h1 S0) e ?_⟩
  exact ⟨fun F' σ' H' ρ' s S' o=>(o:False).elim,fun F' σ' H' ρ' d' v s S' r o=>(o:False).elim,fun F' σ' H' ρ' d' v s S' r o=>(by exact o v F' H' s (Wy_ S0 s S') (zaU_ S' r)),fun F' σ' H' ρ' s S' o=>(o:False).elim,fun F' σ' H' ρ' s S' o=>(o:False).elim⟩
theorem XY_ {S:Type} {ρ:En} {k:List D→M S} {K:Fg} {G:Gh} {E:XK} {C:S→Prop} (h:EndM K G E (at0 ρ k) C):∃ f,ρ[0]? = some (some (AV.op (OC.l f)))∧EndM K G E (k f) C:=by
 unfold at0 at h
 split at h
 ·rename_i f q;exact ⟨f,q,h⟩
 ·exact h.elim
theorem X7_ {vs:List V} {ds g:List D} {G:Gh} {F H:Hp} (hl:vs.length=ps.length) (S0:StOk K G F (vs.map some) H (some (.op (.l g))::fzs ds)):StOk K G F (L2.start N vs) H (some (.op (.l g))::fzs ds++List.replicate (N.length - ps.length) none):=by
 have e0:L2.start N vs=vs.map some++List.replicate (N.length - ps.length) none:=by unfold L2.start;rw [hl]
 rw [e0]
 exact S0.grow _
theorem Jx_ {mb:SM (D×List D)} {mf:List D→List D→M (D×List D)} (Fn:Fun K x qual st f fd) (Sc:FnScope N ps (ze_ st))
  (hb:∀ (cdv:Value) (A:Around) (outer:List Env) (s:Shared) (H:Hp) (E:XK),Room k (A.deeper (envOfC qual (ze_ st) s.heap.objs.size f cdv)) →
   ASs (cxOf (CX1 P w) P w K mg base N qual (ze_ st) f cdv A outer s H E) (zr_ st) mb)
  (hm:∀ g ds,ds.length+1=ps.length→mf g ds=mb K1 (some (.op (.l g))::fzs ds++List.replicate (N.length - ps.length) none)):FnOk P w K mg base (CX1 P w) (k+1) f fd ps (sp1 K ps.length mf):=by
 refine fn_x Fn Sc (fun vs H Q E h=>?_) (fun cdv A outer s H vs Q E hr h=>?_)
 ·obtain ⟨_,_,_,_,h1,_⟩:=h;exact h1
 ·obtain ⟨G,F0,g,ds,h1,S0,e⟩:=h
  have hl:ds.length+1=ps.length:=by have:=S0.ln;simp at this;lia
  rw [hm g ds hl] at e
  refine ⟨_,ys_,hb cdv A outer s H E hr (fun m=>EndM K G E m _) K1 G F0 _ H _ _ (fun z=>z) (fun F ρ e z=>zaP_ z) (X7_ h1 S0) e ?_⟩
  refine ⟨fun F' σ' H' ρ' s S' o=>?_,fun F' σ' H' ρ' d' v s S' rv o=>?_,fun F' σ' H' ρ' d' v s S' r o=>(o:False).elim,fun F' σ' H' ρ' s S' o=>(o:False).elim,fun F' σ' H' ρ' s S' o=>(o:False).elim⟩
  ·obtain ⟨f',q,e'⟩:=XY_ o
   exact e' .non F' H' s (XV_ S0 s S' q).1 .non
  ·obtain ⟨f',q,e'⟩:=XY_ o
   exact e' v F' H' s (XV_ S0 s S' q).1 rv
end
structure CF (P:Program) (w:World) (K:Fg) (mg:Str→Option Value) (base:Heap) (x:Str) (k:Nat) (sp:Sp):Prop where
 ex:∃ (f:Addr) (fd:FuncData) (ps:List Str),FnOk P w K mg base (CX1 P w) k f fd ps sp∧mg x=some (.ref f)∧PySem.W.keepIn K (.ref f)=true∧L2.Binds K fd ps []
noncomputable def pFnD (mf:List D→M D) (ps:Pa D):Pu D:=fun ρ=>ps (fun ds=>mf ds) ρ
noncomputable def pFnL (mf:List D→M (List D)) (ps:Pa (List D)):Pu (List D):=fun ρ=>ps (fun ds=>mf ds) ρ
section
variable {S:Type}
noncomputable def eFnD (mf:List D→M D) (ms:Ev S (List D)):Ev S D:=fun x k ρ=>ms x (fun ds ρ1=>(mf ds).on (fun e=>x e ρ1) (fun d=>k d ρ1)) ρ
noncomputable def eFn1 (mf:List D→List D→M (D×List D)) (i:Nat) (ms:Ev S (List D)):Ev S D:=fun x k ρ=>ms x (fun ds ρ1=>match ownL ρ1 i with
 | some f=>(mf f ds).on (fun e=>x e ρ1) (fun r=>k r.1 (setO ρ1 i r.2))
 | none=>.bad) ρ
end
noncomputable def EX (X:Cx) (G:Gh) (σ:L2.St):XK:=fun c dd H'=>∃ x ρ F1 F' C,c=.ref C∧XW X G F1 ρ x∧GOk G F' H'∧FzOk X.K F' σ ρ∧XR X.K F' C dd x
theorem XS.older {H:Hp} {h:Heap} {lo lo':Nat} {e C:Addr} {dd:Option Addr} (xs:XS H h lo e C dd) (hl:lo'≤lo):XS H h lo' e C dd:=by
 obtain ⟨oe,vs,q,c,d,z,z1,k⟩:=xs.obj
 refine ⟨Nat.le_trans hl xs.yg,xs.trk,oe,vs,q,c,d,z,z1,k.imp id ?_⟩
 rintro ⟨T,oT,ts,k,ne,l,r⟩
 exact ⟨T,oT,ts,k,ne,Nat.le_trans hl l,r⟩
noncomputable def Ud_ (X:Cx) (σ:L2.St) (E:XK):Prop:=∀ (pins:List (Addr×Obj)) (H:Hp) (s:Shared) (e:Value) (s':Shared),Inv X pins σ H s→CX1 X.prog X.w X.stack H s E e s'→X.xe e s'
theorem W7_ {X:Cx} {G:Gh} {σ:L2.St}:Ud_ X σ (EX X G σ):=fun pins H s e s' I h=>by
 obtain ⟨a,C,dd,H',rfl,ho,hb,un,hk,xs,x,ρ,F1,F',C',ec,xw,g,fz,xr⟩:=h
 cases ec
 refine xw F' H' s' a C dd pins σ g fz (I.call' ho un hk hb fun b z=>absurd z (by simp)) (xs.older I.sz) (fun p hp z=>?_) xr
 exact absurd (Nat.lt_of_lt_of_le (Heap.lt_size (I.pin p hp).1) (xs.tb z).2.1) (Nat.lt_irrefl _)
theorem EX.of {X:Cx} {G:Gh} {F F' H' H:Hp} {σ:L2.St} {ρ:En} {x:Ex} {C:Addr} {dd:Option Addr} {ex:Option Addr} {p:Nat→Option Addr} (S:StOk X.K G F σ H ρ) (xw:XW X G F ρ x) (g:GOk ⟨p,zJ_ G σ ρ H ex,F⟩ F' H') (xr:XR X.K F' C dd x):EX X G σ (.ref C) dd H' :=
 ⟨x,ρ,F,F',C,rfl,xw,⟨g.fh,fun b o h=>g.oh b o (jy_ S h),fun b o h=>g.fo b o (jy_ S h),S.fb.trans g.fb⟩,S.fzok g.fb,xr⟩
section
variable {X:Cx} {k:Nat} {f:Addr} {fd:FuncData} {ps:List Str} {sp:Sp} {E:XK} {x:Str} {p pos:Pos} {e:Expr} {es:List Expr} {σ:L2.St} {H:Hp} {Q:VK}
theorem zby_ {pins:List (Addr×Obj)} {s:Shared} {us:List Value} {vs:List V} (F:FnOk X.prog X.w X.K X.mg X.base (CX1 X.prog X.w) k f fd ps sp) (hr:Room k X.A) (hb:L2.Binds X.K fd ps []) (hx:Ud_ X σ E)
  (I:Inv X pins σ H s) (r:Vals vs us) (h:sp vs H Q E):wpAny (model X.prog X.w) X.A (call (.ref f) us) (EP X pins σ Q) X.xe s:=by
 have hl:(us++[]).length=ps.length:=by rw [List.append_nil,←r.length];exact F.len _ _ _ _ h
 have bb:=hb s us I.kIn hl
 rw [List.append_nil] at bb
 refine wpAny_call (codeAny_mono (F.run X.A X.stack s H ⟨us,[]⟩ us vs Q E hr I.env0 bb r h) fun r s' hq=>?_)
 cases r with
 | error e=>exact hx pins H s e s' I hq
 | ok fl =>
  cases fl with
  | ret u=>exact I.after hq
  | next=>exact False.elim hq
  | brk=>exact False.elim hq
  | cont=>exact False.elim hq
theorem Zg_ (F:FnOk X.prog X.w X.K X.mg X.base (CX1 X.prog X.w) k f fd ps sp) (hr:Room k X.A) (hg:Gl X x) (hm:X.mg x=some (.ref f)) (hk:PySem.W.keepIn X.K (.ref f)=true) (hb:L2.Binds X.K fd ps []) (hx:Ud_ X σ E)
  (hdb:(x==("__debug__" : Str))=false) (he:starEach (e::es) X.env=(false,eval e X.env)::starEach es X.env) (hpl:(backTo pos (starEach es X.env)).any (·.1)=false)
  (h:Zr_ X (e::es) σ H fun vs H1=>sp vs H1 Q E):tSem X (.Call (.Name x p) (e::es) [] pos) σ H Q:=by
 unfold tSem
 intro pins s I
 unfold Zr_ at h
 refine wpAny_Call_Name_kw (JZ_ I hg hm ?_ hdb)
 refine PySem.W.callWith_K (h₀:=X.base) I.ok.mod.kin hk (thn (h pos pins s I) fun us s1 ⟨vs,H1,I1,r,q⟩=>⟨I1.kIn,?_⟩) he hpl
 exact zby_ F hr hb hx I1 r q
end
section
variable {S:Type} {X:Cx} {k n:Nat} {mf:List D→M D} {ml:List D→M (List D)} {m1:List D→List D→M (D×List D)} {m1L:List D→List D→M (List D×List D)} {x:Str} {p pos pn:Pos} {e:Expr} {es:List Expr} {ps:Pa D} {pl:Pa (List D)} {ms:Ev S (List D)}
theorem jV_ (C:CF X.prog X.w X.K X.mg X.base x k (spD X.K n mf)) (hr:Room k X.A) (hg:Gl X x) (ha:AA X (e::es) ps) (hn:(e::es).length=n)
  (hdb:(x==("__debug__" : Str))=false) (he:starEach (e::es) X.env=(false,eval e X.env)::starEach es X.env) (hpl:(backTo pos (starEach es X.env)).any (·.1)=false):AP X (.Call (.Name x p) (e::es) [] pos) (pFnD mf ps):=by
 obtain ⟨f,fd,pl,Fn,h1,h2,h3⟩:=C.ex
 intro G F σ H ρ Q St w
 refine Zg_ Fn hr hg h1 h2 h3 (W7_ (G:=G)) hdb he hpl ?_
 refine ha G F σ H ρ _ _ _ St w fun ds vs F1 H1 s1 S1 hl r1 w1=>?_
 show spD X.K n mf vs H1 Q (EX X G σ)
 cases hd:mf ds with
 | bad=>rw [hd] at w1;exact w1.elim
 | exc e =>
  rw [hd] at w1
  exact ⟨_,F1,ds,hl.trans hn,uB_ S1 r1,by rw [hd];exact fun F' H' Cl dd g xr=>EX.of S1 w1 g xr⟩
 | ret d =>
  rw [hd] at w1
  refine ⟨_,F1,ds,hl.trans hn,uB_ S1 r1,?_⟩
  rw [hd]
  intro v F2 H2 s2 S2 r2
  obtain ⟨S3,t3⟩:=yX_ (avs':=ds.map AV.fz) S1 s2 S2
  exact w1 F2 H2 s2 S3 v r2
theorem zdV_ (C:CF X.prog X.w X.K X.mg X.base x k (spL X.K n ml)) (hr:Room k X.A) (hg:Gl X x) (ha:AA X (e::es) pl) (hn:(e::es).length=n)
  (hdb:(x==("__debug__" : Str))=false) (he:starEach (e::es) X.env=(false,eval e X.env)::starEach es X.env) (hpl:(backTo pos (starEach es X.env)).any (·.1)=false):AL X (.Call (.Name x p) (e::es) [] pos) (pFnL ml pl):=by
 obtain ⟨f,fd,pz,Fn,h1,h2,h3⟩:=C.ex
 intro G F σ H ρ Q St w
 refine Zg_ Fn hr hg h1 h2 h3 (W7_ (G:=G)) hdb he hpl ?_
 refine ha G F σ H ρ _ _ _ St w fun ds vs F1 H1 s1 S1 hl r1 w1=>?_
 show spL X.K n ml vs H1 Q (EX X G σ)
 cases hd:ml ds with
 | bad=>rw [hd] at w1;exact w1.elim
 | exc e =>
  rw [hd] at w1
  exact ⟨_,F1,ds,hl.trans hn,uB_ S1 r1,by rw [hd];exact fun F' H' Cl dd g xr=>EX.of S1 w1 g xr⟩
 | ret d =>
  rw [hd] at w1
  refine ⟨_,F1,ds,hl.trans hn,uB_ S1 r1,?_⟩
  rw [hd]
  intro v F2 H2 s2 S2 r2
  obtain ⟨S3,t3⟩:=yX_ (avs':=ds.map AV.fz) S1 s2 S2
  exact w1 F2 H2 s2 S3 v (t3 v _ r2)
theorem Vq_ {ρ:En} {i:Nat} {f g:List D} (h:ownL ρ i=some g):setO ρ i f=setC ρ i (.l f):=Zt_ ρ i f g h
theorem zdW_ (C:CF X.prog X.w X.K X.mg X.base x k (spD X.K n mf)) (hr:Room k X.A) (hg:Gl X x) (ha:AEa X (e::es) ms) (hn:(e::es).length=n)
  (hdb:(x==("__debug__" : Str))=false) (he:starEach (e::es) X.env=(false,eval e X.env)::starEach es X.env) (hpl:(backTo pos (starEach es X.env)).any (·.1)=false):AE X (.Call (.Name x p) (e::es) [] pos) (eFnD mf ms):=by
 obtain ⟨f,fd,pl,Fn,h1,h2,h3⟩:=C.ex
 intro OK y kk G F σ H ρ Q hO hX St ok k2
 refine Zg_ Fn hr hg h1 h2 h3 (W7_ (G:=G)) hdb he hpl ?_
 refine ha OK y _ G F σ H ρ _ hO hX St ok fun ds vs F1 H1 ρ1 s1 S1 hl r1 o1=>?_
 show spD X.K n mf vs H1 Q (EX X G σ)
 cases hd:mf ds with
 | bad=>rw [hd] at o1;exact (hO o1).elim
 | exc e =>
  rw [hd] at o1
  exact ⟨_,F1,ds,hl.trans hn,uB_ S1 r1,by rw [hd];exact fun F' H' Cl dd g xr=>EX.of S1 (hX F1 ρ1 e o1) g xr⟩
 | ret d =>
  rw [hd] at o1
  refine ⟨_,F1,ds,hl.trans hn,uB_ S1 r1,?_⟩
  rw [hd]
  intro v F2 H2 s2 S2 r2
  obtain ⟨S3,t3⟩:=yX_ (avs':=ds.map AV.fz) S1 s2 S2
  exact k2 d v F2 H2 ρ1 (s1.trans s2) S3 r2 o1
theorem Q7_ {i:Nat} {y:Str} {OK:M S→Prop} {z:Ex→En→M S} {kk:List D→En→M S} {G:Gh} {F H:Hp} {σ:L2.St} {ρ:En} {Q:List V→Hp→Prop} (hN:X.N[i]? = some y) (hv:Vis X.env.scope y) (hd:(y==("__debug__" : Str))=false) (hcd:(y==("__classdict__" : Str))=false)
  (ha:AEa X es ms) (he:starEach (.Name y pn::es) X.env=(false,eval (.Name y pn) X.env)::starEach es X.env) (hO:KOk OK) (hX:XL X OK z G) (St:StOk X.K G F σ H ρ) (ok:OK (ms z (fun ds ρ1=>match ownL ρ1 i with|some f=>kk (.list f::ds) ρ1|none=>.bad) ρ))
  (h0:(ownL ρ i).isSome=true)
  (k2:∀ a f ds vs F' H' ρ',Same F F'→StOk X.K G F' σ H' ρ'→ownL ρ' i=some f→σ[i]? = some (some (V.ref a))→vs.length=es.length→RepL X.K F' vs ds→OK (kk (.list f::ds) ρ')→Q (.ref a::vs) H'):Zr_ X (.Name y pn::es) σ H Q:=by
 obtain ⟨f0,hf0⟩:=Option.isSome_iff_exists.mp h0
 obtain ⟨a,_,ea,_,_⟩:=ZB_ St hf0
 refine semA (uL_ (Jp_ hN hv hd hcd) j7_ he) ⟨_,ea,?_⟩
 refine ha OK z _ G F σ H ρ _ hO hX St ok fun ds vs F1 H1 ρ1 s1 S1 hl r1 o1=>?_
 split at o1
 ·rename_i f hf
  exact k2 a f ds vs F1 H1 ρ1 s1 S1 hf ea hl r1 o1
 ·exact (hO o1).elim
noncomputable def ck {S α:Type} (i:Nat) (m:Ev S α):Ev S α:=fun x k ρ=>match (ownL ρ i).isSome with
 | true=>m x k ρ
 | false=>.bad
theorem JC_ {K:Fg} {G:Gh} {F H:Hp} {σ:L2.St} {ρ:En} {vs:List V} {ds f:List D} {j:Nat} {a:Addr} (S:StOk K G F σ H ρ) (hj:ownL ρ j=some f) (ha:σ[j]? = some (some (V.ref a))) (r:RepL K F vs ds) :
  StOk K ⟨P1 a,zJ_ G σ ρ H (some a),F⟩ F ((V.ref a::vs).map some) H (some (.op (.l f))::fzs ds):=Wu_ S (Zk_ hj) ha r
theorem zT_ {i:Nat} {y:Str} (C:CF X.prog X.w X.K X.mg X.base x k (sp1 X.K n m1)) (hr:Room k X.A) (hg:Gl X x) (hN:X.N[i]? = some y) (hv:Vis X.env.scope y) (ha:AEa X es ms) (hn:es.length+1=n)
  (hdb:(x==("__debug__" : Str))=false) (he:starEach (.Name y pn::es) X.env=(false,eval (.Name y pn) X.env)::starEach es X.env) (hpl:(backTo pos (starEach es X.env)).any (·.1)=false)
  (hd:(y==("__debug__" : Str))=false:=by decide) (hcd:(y==("__classdict__" : Str))=false:=by decide):AE X (.Call (.Name x p) (.Name y pn::es) [] pos) (ck i (eFn1 m1 i ms)):=by
 obtain ⟨f,fd,pl,Fn,h1,h2,h3⟩:=C.ex
 intro OK z kk G F σ H ρ Q hO hX St ok k2
 unfold ck at ok
 split at ok
 case h_2=>exact (hO ok).elim
 rename_i h0
 refine Zg_ Fn hr hg h1 h2 h3 (W7_ (G:=G)) hdb he hpl ?_
 refine Q7_ (OK:=OK) (z:=z) (kk:=fun l ρ1=>match l with | .list f::ds=>(m1 f ds).on (fun e=>z e ρ1) (fun r=>kk r.1 (setO ρ1 i r.2))|_=>.bad) hN hv hd hcd ha he hO hX St ok h0 fun a f ds vs F1 H1 ρ1 s1 S1 hf ea hl r1 o1=>?_
 have o1':OK ((m1 f ds).on (fun e=>z e ρ1) (fun r=>kk r.1 (setO ρ1 i r.2))):=o1
 show sp1 X.K n m1 (V.ref a::vs) H1 Q (EX X G σ)
 cases hd:m1 f ds with
 | bad=>rw [hd] at o1';exact (hO o1').elim
 | exc e =>
  rw [hd] at o1'
  exact ⟨_,F1,f,ds,by simp [hl];exact hn,JC_ S1 hf ea r1,by rw [hd];exact fun F' H' Cl dd g xr=>EX.of S1 (hX F1 ρ1 e o1') g xr⟩
 | ret r =>
  rw [hd] at o1'
  refine ⟨_,F1,f,ds,by simp [hl];exact hn,JC_ S1 hf ea r1,?_⟩
  rw [hd]
  intro v F2 H2 s2 S2 r2
  obtain ⟨S3,t3⟩:=Q4_ (c':=.l r.2) (l:=ds.map AV.fz) S1 (Zk_ hf) ea s2 S2
  rw [←Vq_ hf] at S3
  exact k2 r.1 v F2 H2 _ (s1.trans s2) S3 r2 o1'
end
theorem CF.zero {P:Program} {w:World} {K:Fg} {mg:Str→Option Value} {base:Heap} {x:Str} {f:Addr} {fd:FuncData} {ps:List Str} (k n:Nat) (h1:mg x=some (.ref f)) (h2:PySem.W.keepIn K (.ref f)=true) (h3:L2.Binds K fd ps []) :
  CF P w K mg base x k (spD K n fun _=>.bad):=⟨f,fd,ps,⟨fun vs H Q E h=>(by obtain ⟨_,_,_,_,_,z⟩:=h;exact z.elim),fun A outer s H args us vs Q E hr e0 hb hv h=>(by obtain ⟨_,_,_,_,_,z⟩:=h;exact z.elim)⟩,h1,h2,h3⟩
theorem CF.zero1 {P:Program} {w:World} {K:Fg} {mg:Str→Option Value} {base:Heap} {x:Str} {f:Addr} {fd:FuncData} {ps:List Str} (k n:Nat) (h1:mg x=some (.ref f)) (h2:PySem.W.keepIn K (.ref f)=true) (h3:L2.Binds K fd ps []) :
  CF P w K mg base x k (sp1 K n fun _ _=>.bad):=⟨f,fd,ps,⟨fun vs H Q E h=>(by obtain ⟨_,_,_,_,_,_,z⟩:=h;exact z.elim),fun A outer s H args us vs Q E hr e0 hb hv h=>(by obtain ⟨_,_,_,_,_,_,z⟩:=h;exact z.elim)⟩,h1,h2,h3⟩
theorem zg_ {k:Nat} {A:Around} (r:Room k A):A.units+1100<cLine:=by have:=r.un;lia
end L4
set_option Elab.async false
set_option linter.all false
set_option maxRecDepth 100000
namespace L4
open PySem PySem.Spec PyProof.Rows L2 L3
noncomputable def noX {S:Type} (m:M S):M S:=match m with
 | .ret s=>.ret s
 | _=>.bad
theorem jY_ {S:Type} (s:S):noX (M.ret s)=.ret s:=rfl
noncomputable def jA_ (step:D→M (Option D)):List D→M (List D)
 | []=>.ret []
 | d::r=>bd (noX (step d)) fun o=>bd (jA_ step r) fun xs=>.ret (o.toList++xs)
theorem Qq_ {step:D→M (Option D)}:∀ {ds:List D} {e:Ex},jA_ step ds≠.exc e
 | [],e,h=>by cases h
 | d::r,e,h=>by
  unfold jA_ at h
  cases hs:step d with
  | ret o =>
   rw [hs,jY_,uF_] at h
   cases hr:jA_ step r with
   | ret xs=>rw [hr] at h;cases h
   | exc e'=>exact Qq_ hr
   | bad=>rw [hr] at h;cases h
  | exc e'=>rw [hs] at h;cases h
  | bad=>rw [hs] at h;cases h
noncomputable def VL_ (k:Nat) (it:Pu (List D)) (t:Tg (Option D)) (pt:Pu Bool) (pe:Pu D):Pu (List D):=fun ρ=>bd (it ρ) fun ds =>
 bd (jA_ (fun d=>t d (fun ρ1=>bd (pt ρ1) fun b=>if b then bd (pe ρ1) fun v=>.ret (some v) else .ret none) (ρ++List.replicate k none)) ds) fitM
noncomputable def uS_ {T:Type} (step:T→D→M (Option D×T)):List D→T→M (List D×T)
 | [],s=>.ret ([],s)
 | d::r,s=>bd (noX (step s d)) fun p=>bd (uS_ step r p.2) fun q=>.ret (p.1.toList++q.1,q.2)
theorem Qp_ {T:Type} {step:T→D→M (Option D×T)}:∀ {ds:List D} {s:T} {e:Ex},uS_ step ds s≠.exc e
 | [],s,e,h=>by cases h
 | d::r,s,e,h=>by
  unfold uS_ at h
  cases hs:step s d with
  | ret o =>
   rw [hs,jY_,uF_] at h
   cases hr:uS_ step r o.2 with
   | ret xs=>rw [hr] at h;cases h
   | exc e'=>exact Qp_ hr
   | bad=>rw [hr] at h;cases h
  | exc e'=>rw [hs] at h;cases h
  | bad=>rw [hs] at h;cases h
noncomputable def zaQ_ {S:Type} (sh:List Kd) (k:Nat) (it:Ev S (List D)) (t:Tg (Option D×SOf sh)) (et:Ev (Option D×SOf sh) Bool) (ee:Ev (Option D×SOf sh) D):Ev S (List D):=fun x kk ρ=>it x (fun ds ρ1=>rdk sh (fun s =>
 (uS_ (fun s d=>t d (fun ρ2=>et (fun e _=>.exc e) (fun b ρ3=>if b then ee (fun e _=>.exc e) (fun v ρ4=>rdk sh (fun s'=>.ret (some v,s')) (ρ4.take sh.length)) ρ3 else rdk sh (fun s'=>.ret (none,s')) (ρ3.take sh.length)) ρ2) (wr sh s++List.replicate k none)) ds s).on
  (fun e=>x e ρ1) (fun q=>(fitM q.1).on (fun e=>x e ρ1) (fun out=>kk out (wr sh q.2)))) ρ1) ρ
noncomputable def zdA_:Pu Bool:=fun _=>.ret true
noncomputable def ATs (X:Cx) (ifs:List Expr) (p:Pu Bool):Prop :=
 ∀ (G:Gh) (F:Hp) (σ:L2.St) (H:Hp) (ρ:En) (Q:Bool→Hp→Prop),StOk X.K G F σ H ρ→W X G F σ ρ (p ρ) (fun d F' H'=>Q d H')→∀ (pins:List (Addr×Obj)) (s:Shared),Inv X pins σ H s →
  wpAny (model X.prog X.w) X.A (forIn ifs true fun c r=>if r=true then do let ok ←isTrue c X.env (eval c X.env);pure (ForInStep.yield ok) else pure (ForInStep.yield r)) (TP X pins σ Q) X.xe s
theorem yc_ {X:Cx}:ATs X [] zdA_:=fun G F σ H ρ Q S w pins s I=>zah_ pins s σ H Q I (w F H (Same.refl _) S)
theorem Wz_ {X:Cx} {c:Expr} {p:Pu Bool} (h:AT X c p):ATs X [c] p:=fun G F σ H ρ Q S w pins s I=>Vz_ yz_ pins s σ H Q I (h G F σ H ρ Q S w)
noncomputable def AEts {S:Type} (X:Cx) (ifs:List Expr) (m:Ev S Bool):Prop :=
 ∀ (OK:M S→Prop) (x:Ex→En→M S) (k:Bool→En→M S) (G:Gh) (F:Hp) (σ:L2.St) (H:Hp) (ρ:En) (Q:Bool→Hp→Prop),KOk OK→XL X OK x G→StOk X.K G F σ H ρ→OK (m x k ρ) →
  (∀ d F' H' ρ',Same F F'→StOk X.K G F' σ H' ρ'→OK (k d ρ')→Q d H')→∀ (pins:List (Addr×Obj)) (s:Shared),Inv X pins σ H s →
  wpAny (model X.prog X.w) X.A (forIn ifs true fun c r=>if r=true then do let ok ←isTrue c X.env (eval c X.env);pure (ForInStep.yield ok) else pure (ForInStep.yield r)) (TP X pins σ Q) X.xe s
theorem zbg_ {S:Type} {X:Cx} {ifs:List Expr} {p:Pu Bool} (h:ATs X ifs p):AEts (S:=S) X ifs (ePu p):=fun OK x k G F σ H ρ Q hO hX St ok kk=>h G F σ H ρ Q St (W.of hO hX ok fun d F' H' s S' o=>kk d F' H' ρ s S' o)
theorem Xw_ {S:Type} {X:Cx} {c:Expr} {m:Ev S Bool} (h:AEt X c m):AEts X [c] m:=fun OK x k G F σ H ρ Q hO hX St ok kk pins s I=>Vz_ yz_ pins s σ H Q I (h OK x k G F σ H ρ Q hO hX St ok kk)
theorem W.rets {X:Cx} {G:Gh} {F:Hp} {σ:L2.St} {ρ:En} {α:Type} {m:M α} {a:α} {C:α→Hp→Hp→Prop} (e:m=.ret a) (h:∀ F' H',Same F F'→StOk X.K G F' σ H' ρ→C a F' H'):W X G F σ ρ m C:=by subst e;exact h
theorem XD_:∀ (sh:List Kd) (s:SOf sh),(wr sh s).length=sh.length:=by
 intro sh
 induction sh with
 | nil=>intro s;rfl
 | cons a r ih=>intro s;cases a<;>simp [wr,ih]
inductive CIv {τ:Type} (K:Fg) (G:Gh) (σ:L2.St) (k:Nat) (ds:List D) (F1:Hp) (en:τ→En) (go:Nat→τ→List D→Prop) (out:List D):Nat→Nat→List V→L2.St→Hp→Prop
 | mk {i:Nat} {vs:List V} {σ':L2.St} {H':Hp} (F':Hp) (acc rest:List D) (s:τ) (hi:i≤ds.length) (s2:Same F1 F') (S2:StOk K G F' σ' H' (en s)) (kp:∀ j,j<σ.length→σ'[j]? = σ[j]?) (hl:σ'.length=σ.length+k) (rp:RepL K F' vs acc) (g:go i s rest) (eo:out=acc++rest):CIv K G σ k ds F1 en go out i (ds.length - i) vs σ' H'
theorem CIv.on {τ:Type} {K:Fg} {G:Gh} {σ:L2.St} {k:Nat} {ds:List D} {F1:Hp} {en:τ→En} {go:Nat→τ→List D→Prop} {out:List D} {i:Nat} {vs:List V} {σ':L2.St} {H':Hp} (F':Hp) (acc rest:List D) (s:τ) (hi:i<ds.length) (s2:Same F1 F') (S2:StOk K G F' σ' H' (en s)) (kp:∀ j,j<σ.length→σ'[j]? = σ[j]?) (hl:σ'.length=σ.length+k) (rp:RepL K F' vs acc) (g:go (i+1) s rest) (eo:out=acc++rest):∃ m',m'<ds.length - i∧CIv K G σ k ds F1 en go out (i+1) m' vs σ' H' :=
 ⟨ds.length - (i+1),by lia,⟨F',acc,rest,s,hi,s2,S2,kp,hl,rp,g,eo⟩⟩
theorem Q1_ {step:D→M (Option D)} {d:D} {r rest:List D} (h:jA_ step (d::r)=.ret rest):∃ o rest',step d=.ret o∧jA_ step r=.ret rest'∧rest=o.toList++rest':=by
 unfold jA_ at h
 cases hs:step d with
 | bad=>rw [hs] at h;cases h
 | exc e=>rw [hs] at h;cases h
 | ret o =>
  rw [hs,jY_,uF_] at h
  cases hr:jA_ step r with
  | bad=>rw [hr] at h;cases h
  | exc e=>rw [hr] at h;cases h
  | ret rest'=>rw [hr,uF_] at h;cases h;exact ⟨o,rest',rfl,rfl,rfl⟩
theorem Q0_ {T:Type} {step:T→D→M (Option D×T)} {d:D} {r rest:List D} {s sf:T} (h:uS_ step (d::r) s=.ret (rest,sf)):∃ o sn rest',step s d=.ret (o,sn)∧uS_ step r sn=.ret (rest',sf)∧rest=o.toList++rest':=by
 unfold uS_ at h
 cases hs:step s d with
 | bad=>rw [hs] at h;cases h
 | exc e=>rw [hs] at h;cases h
 | ret o =>
  obtain ⟨o,sn⟩:=o
  rw [hs,jY_,uF_] at h
  cases hr:uS_ step r sn with
  | bad=>rw [hr] at h;cases h
  | exc e=>rw [hr] at h;cases h
  | ret q'=>obtain ⟨rest',sf'⟩:=q';rw [hr,uF_] at h;cases h;exact ⟨o,sn,rest',rfl,hr,rfl⟩
theorem Yc_ {A B:Type} {m:M A} {f:A→M B} {b:B} (h:bd m f=.ret b):∃ a,m=.ret a∧f a=.ret b:=by
 cases m with
 | bad=>cases h
 | exc e=>cases h
 | ret a=>exact ⟨a,rfl,h⟩
section
variable {X:Cx}
noncomputable def Yi_ (X:Cx) (N':List Str) (scope:Scope) (tg:Expr):TG:=fun v σ H Q=>∀ cl s H0 fp C,QH_ (zF_ X N' scope cl s H0 fp C) tg v σ H Q
noncomputable def Yh_ (X:Cx) (N':List Str) (scope:Scope) (ifs:List Expr):TT:=fun σ H Q=>∀ cl s0 H0 fp C,∀ (pins:List (Addr×Obj)) (s:Shared),Inv (zF_ X N' scope cl s0 H0 fp C) pins σ H s →
  wpAny (model X.prog X.w) (zF_ X N' scope cl s0 H0 fp C).A (forIn ifs true fun c r=>if r=true then do let ok ←isTrue c (zF_ X N' scope cl s0 H0 fp C).env (eval c (zF_ X N' scope cl s0 H0 fp C).env);pure (ForInStep.yield ok) else pure (ForInStep.yield r)) (TP (zF_ X N' scope cl s0 H0 fp C) pins σ Q) (zF_ X N' scope cl s0 H0 fp C).xe s
noncomputable def Yj_ (X:Cx) (N':List Str) (scope:Scope) (e:Expr):TE:=fun σ H Q=>∀ cl s H0 fp C,tSem (zF_ X N' scope cl s H0 fp C) e σ H Q
variable {elt tg iter:Expr} {ifs:List Expr} {scope:Scope} {pos:Pos} {N':List Str} {k:Nat}
theorem YM_ {it:Pu (List D)} {t:Tg (Option D)} {pt:Pu Bool} {pe:Pu D} {G:Gh} {F:Hp} {σ:L2.St} {H:Hp} {ρ:En} {Q:VK} (hi:AI X tg iter it)
  (hg:∀ cl s H fp C,AG (zF_ X N' scope cl s H fp C) X.N.length tg t) (ht:∀ cl s H fp C,ATs (zF_ X N' scope cl s H fp C) ifs pt) (he:∀ cl s H fp C,AP (zF_ X N' scope cl s H fp C) elt pe)
  (hσ:σ.length=X.N.length) (St:StOk X.K G F σ H ρ) (w:W X G F σ ρ (VL_ k it t pt pe ρ) fun ds F' H'=>∀ v,Frs X.K G F' σ H' ρ v (.l ds)→Q v H') :
  WS_ (yM_ X tg iter) k (Yi_ X N' scope tg) (Yh_ X N' scope ifs) (Yj_ X N' scope elt) σ H Q:=by
 refine hi G F σ H ρ _ St (w.bind.imp fun ds F1 H1 s1 S1 w1 J wk=>?_)
 have hP:∀ i a,G.P i=some a→i<σ.length:=fun i a h=>(List.getElem?_eq_some_iff.mp (S1.pp i a h).1).1
 have hln:σ.length=ρ.length:=S1.ln
 have wc:=w1.bind
 revert wc
 generalize hstep:(fun d=>t d (fun ρ1=>bd (pt ρ1) fun b=>if b then bd (pe ρ1) fun v=>.ret (some v) else .ret none) (ρ++List.replicate k none))=step
 intro wc
 cases hcc:jA_ step ds with
 | bad=>rw [hcc] at wc;exact wc.elim
 | exc e=>exact (Qq_ hcc).elim
 | ret out =>
  rw [hcc] at wc
  have wf:∀ F' H',Same F1 F'→StOk X.K G F' σ H' ρ→W X G F' σ ρ (fitM out) fun ds F' H'=>∀ v,Frs X.K G F' σ H' ρ v (.l ds)→Q v H':=wc
  have hfit:out.length≤sizeLine:=(wf F1 H1 (Same.refl _) S1).fit.1
  have fin:∀ F' H',Same F1 F'→StOk X.K G F' σ H' ρ→∀ v,Frs X.K G F' σ H' ρ v (.l out)→Q v H':=fun F' H' s' S'=>(wf F' H' s' S').fit.2 F' H' (Same.refl _) S'
  have grown:∀ {F' H' σ' ρ'},StOk X.K G F' σ' H' ρ'→(∀ j,j<σ.length→σ'[j]? = σ[j]? ∧ ρ'[j]? = ρ[j]?)→σ'.length=σ.length+k→StOk X.K G F' σ' H' (ρ++List.replicate k none):=fun {F' H' σ' ρ'} S' kp hl=>by
   refine S'.weak (by have:=S'.ln;simp;lia) (fun i av q=>?_) (fun i c q=>?_)
   ·have q':=yi_ q
    have hi:i<σ.length:=by rw [hln];exact (List.getElem?_eq_some_iff.mp q').1
    rw [(kp i hi).2];exact q'
   ·obtain ⟨a,ha⟩:=S'.pq i c q
    have hi:=hP i a ha
    rw [List.getElem?_append_left (by lia),←(kp i hi).2]
    exact q
  refine ⟨CIv X.K G σ k ds F1 (fun _:Unit=>ρ++List.replicate k none) (fun i _ rest=>jA_ step (ds.drop i)=.ret rest) out,
   ⟨_,⟨F1,[],out,(),Nat.zero_le _,Same.refl _,S1.grow k,fun j hj=>by rw [List.getElem?_append_left hj],by simp,.nil,hcc,rfl⟩⟩,?_⟩
  rintro i m vs σ' H' ⟨F',acc,rest,_,hi,s2,S2,kp,hlen,rp,go,eo⟩
  refine ⟨by rw [rp.length];rw [eo,List.length_append] at hfit;lia,?_⟩
  by_cases hlt:i<ds.length
  ·refine .inr ⟨wk.go i G F' σ' H' _ s2 S2 hlt,fun x H2 y cl s0 H0 fp C=>?_⟩
   obtain ⟨F3,s3,S3,r3⟩:=wk.yld i G F' σ' H' _ x H2 ds[i] s2 S2 (List.getElem?_eq_getElem hlt) y
   rw [List.drop_eq_getElem_cons hlt] at go
   obtain ⟨o,rest',hst,hr,er⟩:=Q1_ go
   subst er
   clear go
   rw [←hstep] at hst
   refine hg cl s0 H0 fp C (fun m=>m=.ret o) _ G F3 σ' H2 _ x ds[i] _ (fun z=>nomatch z) S3 r3 hst fun σ3 ρ3 S4 kp3 hl3 ml3 o4=>?_
   have kp':∀ j,j<σ.length→σ3[j]? = σ[j]? ∧ ρ3[j]? = ρ[j]?:=fun j hj=>⟨((kp3 j (by lia)).1).trans (kp j hj),by rw [(kp3 j (by lia)).2,List.getElem?_append_left (by lia)]⟩
   obtain ⟨b,hpt,o4⟩:=Yc_ o4
   intro cl s0 H0 fp C
   refine ht cl s0 H0 fp C G F3 σ3 H2 ρ3 _ S4 (W.rets hpt fun F5 H5 s5 S5=>?_)
   cases b with
   | true =>
    refine iteT ?_
    obtain ⟨v,hpe,o5⟩:=Yc_ (m:=pe ρ3) o4
    cases o5
    intro cl s0 H0 fp C
    refine he cl s0 H0 fp C G F5 σ3 H5 ρ3 _ S5 (W.rets hpe fun F6 H6 s6 S6 u ru=>?_)
    exact CIv.on F6 (acc++[v]) rest' () hlt (((s2.trans s3).trans s5).trans s6) (grown S6 kp' (by lia)) (fun j hj=>(kp' j hj).1) (by lia) ((rp.mono ((s3.trans s5).trans s6)).append (.cons ru .nil)) hr (by rw [eo];simp)
   | false =>
    refine iteF ?_
    have o4':(M.ret none:M (Option D))=M.ret o:=o4
    cases o4'
    exact CIv.on F5 acc rest' () hlt ((s2.trans s3).trans s5) (grown S5 kp' (by lia)) (fun j hj=>(kp' j hj).1) (by lia) (rp.mono (s3.trans s5)) hr (by rw [eo];simp)
  ·have ei:i=ds.length:=by lia
   subst ei
   rw [List.drop_length] at go
   cases go
   rw [List.append_nil] at eo
   subst eo
   refine .inl ⟨wk.stop G F' σ' H' _ s2 S2,fun p hp=>?_⟩
   have Ssh:=S2.shrink (n:=σ.length) (by simp;lia) hP
   have e1:σ'.take σ.length=σ:=Jh_ kp rfl
   have e2:(ρ++List.replicate k none).take σ.length=ρ:=by rw [hln,List.take_left]
   rw [e1,e2] at Ssh
   obtain ⟨S5,r5⟩:=Ssh.newLst hp rp
   exact fin F' _ s2 S5 _ r5
theorem Ub_ {it:Pu (List D)} {t:Tg (Option D)} {pt:Pu Bool} {pe:Pu D} (hc:X.calm=true) (Sc:CompOk X N' k scope) (hi:AI X tg iter it)
  (hg:∀ cl s H fp C,AG (zF_ X N' scope cl s H fp C) X.N.length tg t) (ht:∀ cl s H fp C,ATs (zF_ X N' scope cl s H fp C) ifs pt) (he:∀ cl s H fp C,AP (zF_ X N' scope cl s H fp C) elt pe)
  (hs:∀ x,foldedSetIterable iter X.env x=pure x):AL X (.ListComp elt [⟨tg,iter,ifs,0⟩] scope pos) (VL_ k it t pt pe):=by
 intro G F σ H ρ Q St w;unfold tSem;intro pins s I
 refine VH_ (wi:=yM_ X tg iter) (g:=Yi_ X N' scope tg) (tc:=Yh_ X N' scope ifs) (te:=Yj_ X N' scope elt) hc Sc (fun x hx hf=>I.ok.has x.1 (Sc.free x hx hf)) Jo_
  (fun cl s H fp C pins s' σ H v u Q I r h=>ZA_ pins s' σ H v u Q I r (h cl _ _ fp C)) (fun cl s H fp C pins s' σ H Q I h=>h cl _ _ fp C pins s' I) (fun cl s H fp C pins s' σ H Q I h=>zs_ pins s' σ H Q I (h cl _ _ fp C)) hs pins s σ H Q I (YM_ hi hg ht he I.len St w)
theorem Qo_ {S:Type} {sh:List Kd} {it:Ev S (List D)} {t:Tg (Option D×SOf sh)} {et:Ev (Option D×SOf sh) Bool} {ee:Ev (Option D×SOf sh) D} {OK:M S→Prop} {x:Ex→En→M S} {kk:List D→En→M S} {G:Gh} {F:Hp} {σ:L2.St} {H:Hp} {ρ:En} {Q:VK} (hi:AEi X tg iter it)
  (hg:∀ cl s H fp C,AG (zF_ X N' scope cl s H fp C) X.N.length tg t) (ht:∀ cl s H fp C,AEts (zF_ X N' scope cl s H fp C) ifs et) (he:∀ cl s H fp C,AE (zF_ X N' scope cl s H fp C) elt ee)
  (hσ:σ.length=X.N.length) (hO:KOk OK) (hX:XL X OK x G) (St:StOk X.K G F σ H ρ) (ok:OK (zaQ_ sh k it t et ee x kk ρ)) (k2:∀ ds v F' H' ρ',Same F F'→StOk X.K G F' σ H' ρ'→Frs X.K G F' σ H' ρ' v (.l ds)→OK (kk ds ρ')→Q v H') :
  WS_ (yM_ X tg iter) k (Yi_ X N' scope tg) (Yh_ X N' scope ifs) (Yj_ X N' scope elt) σ H Q:=by
 refine hi OK x _ G F σ H ρ _ hO hX St ok fun ds J F1 H1 ρ1 s1 S1 wk o1=>?_
 obtain ⟨s0,e0,o0⟩:=Zz_ hO o1
 clear o1
 have S0:=S1.rd e0
 have hshl:sh.length=σ.length:=(XD_ sh s0).symm.trans S0.ln.symm
 have hlen0:∀ s:SOf sh,(wr sh s).length=σ.length:=fun s=>(XD_ sh s).trans hshl
 have hP:∀ i a,G.P i=some a→i<σ.length:=fun i a h=>(List.getElem?_eq_some_iff.mp (S1.pp i a h).1).1
 revert o0
 generalize hstep:(fun (s:SOf sh) d=>t d (fun ρ2=>et (fun e _=>.exc e) (fun b ρ3=>if b then ee (fun e _=>.exc e) (fun v ρ4=>rdk sh (fun s'=>.ret (some v,s')) (ρ4.take sh.length)) ρ3 else rdk sh (fun s'=>.ret (none,s')) (ρ3.take sh.length)) ρ2) (wr sh s++List.replicate k none))=step
 intro o0
 cases hcc:uS_ step ds s0 with
 | bad=>rw [hcc] at o0;exact (hO o0).elim
 | exc e=>exact (Qp_ hcc).elim
 | ret q =>
  obtain ⟨out,sf⟩:=q
  rw [hcc,zcr_] at o0
  obtain ⟨hfit,o0⟩:=zcN_ hO o0
  have again:∀ {F' H' σ' ρ'} {s':SOf sh},StOk X.K G F' σ' H' ρ'→(∀ j,j<σ.length→σ'[j]? = σ[j]?)→σ'.length=σ.length+k→rd sh (ρ'.take sh.length)=some s'→StOk X.K G F' σ' H' (wr sh s'++List.replicate k none):=fun {F' H' σ' ρ' s'} S' kp hl e'=>by
   obtain ⟨h1,h2,h3⟩:=JM_ sh _ s' e'
   have hρ':ρ'.length=σ.length+k:=by rw [←S'.ln];exact hl
   refine S'.weak (by simp [hlen0];lia) (fun i av q=>?_) (fun i c q=>?_)
   ·have q':=yi_ q
    have:=h2 i av q'
    have hi:i<sh.length:=by
     have:=(List.getElem?_eq_some_iff.mp this).1
     rw [List.length_take] at this;lia
    rw [List.getElem?_take_of_lt hi] at this
    exact this
   ·obtain ⟨a,ha⟩:=S'.pq i c q
    have hi:=hP i a ha
    rw [List.getElem?_append_left (by rw [hlen0];exact hi)]
    exact h3 i c (by rw [List.getElem?_take_of_lt (by lia)];exact q)
  refine ⟨CIv X.K G σ k ds F1 (fun s=>wr sh s++List.replicate k none) (fun i s rest=>uS_ step (ds.drop i) s=.ret (rest,sf)) out,
   ⟨_,⟨F1,[],out,s0,Nat.zero_le _,Same.refl _,S0.grow k,fun j hj=>by rw [List.getElem?_append_left hj],by simp,.nil,hcc,rfl⟩⟩,?_⟩
  rintro i m vs σ' H' ⟨F',acc,rest,sc,hi,s2,S2,kp,hlen,rp,go,eo⟩
  refine ⟨by rw [rp.length];rw [eo,List.length_append] at hfit;lia,?_⟩
  by_cases hlt:i<ds.length
  ·refine .inr ⟨wk.go i G F' σ' H' _ s2 S2 hlt,fun x H2 y cl sx H0 fp C=>?_⟩
   obtain ⟨F3,s3,S3,r3⟩:=wk.yld i G F' σ' H' _ x H2 ds[i] s2 S2 (List.getElem?_eq_getElem hlt) y
   rw [List.drop_eq_getElem_cons hlt] at go
   obtain ⟨o,sn,rest',hst,hr,er⟩:=Q0_ go
   subst er
   clear go
   rw [←hstep] at hst
   refine hg cl sx H0 fp C (fun m=>m=.ret (o,sn)) _ G F3 σ' H2 _ x ds[i] _ (fun z=>nomatch z) S3 r3 hst fun σ3 ρ3 S4 kp3 hl3 ml3 o4=>?_
   have kp':∀ j,j<σ.length→σ3[j]? = σ[j]?:=fun j hj=>((kp3 j (by lia)).1).trans (kp j hj)
   intro cl sx H0 fp C
   refine ht cl sx H0 fp C (fun m=>m=.ret (o,sn)) (fun e _=>.exc e) _ G F3 σ3 H2 ρ3 _ (fun z=>nomatch z) (fun F ρ e z=>nomatch z) S4 o4 fun b F5 H5 ρ5 s5 S5 o5=>?_
   cases b with
   | true =>
    refine iteT ?_
    intro cl sx H0 fp C
    refine he cl sx H0 fp C (fun m=>m=.ret (o,sn)) (fun e _=>.exc e) _ G F5 σ3 H5 ρ5 _ (fun z=>nomatch z) (fun F ρ e z=>nomatch z) S5 o5 fun v u F6 H6 ρ6 s6 S6 ru o6=>?_
    obtain ⟨s',e',o'⟩:=Zz_ (OK:=fun m=>m=.ret (o,sn)) (fun z=>nomatch z) o6
    cases o'
    exact CIv.on F6 (acc++[v]) rest' sn hlt (((s2.trans s3).trans s5).trans s6) (again S6 kp' (by lia) e') kp' (by lia) ((rp.mono ((s3.trans s5).trans s6)).append (.cons ru .nil)) hr (by rw [eo];simp)
   | false =>
    refine iteF ?_
    obtain ⟨s',e',o'⟩:=Zz_ (OK:=fun m=>m=.ret (o,sn)) (fun z=>nomatch z) o5
    cases o'
    exact CIv.on F5 acc rest' sn hlt ((s2.trans s3).trans s5) (again S5 kp' (by lia) e') kp' (by lia) (rp.mono (s3.trans s5)) hr (by rw [eo];simp)
  ·have ei:i=ds.length:=by lia
   subst ei
   rw [List.drop_length] at go
   cases go
   rw [List.append_nil] at eo
   subst eo
   refine .inl ⟨wk.stop G F' σ' H' _ s2 S2,fun p hp=>?_⟩
   have Ssh:=S2.shrink (n:=σ.length) (by simp [hlen0]) hP
   have e1:σ'.take σ.length=σ:=Jh_ kp rfl
   have e2:(wr sh sf++List.replicate k none).take σ.length=wr sh sf:=by rw [←hlen0 sf,List.take_left]
   rw [e1,e2] at Ssh
   obtain ⟨S5,r5⟩:=Ssh.newLst hp rp
   exact k2 _ _ F' _ _ (s1.trans s2) S5 r5 o0
theorem Xx_ {S:Type} {sh:List Kd} {it:Ev S (List D)} {t:Tg (Option D×SOf sh)} {et:Ev (Option D×SOf sh) Bool} {ee:Ev (Option D×SOf sh) D} (hc:X.calm=true) (Sc:CompOk X N' k scope) (hi:AEi X tg iter it)
  (hg:∀ cl s H fp C,AG (zF_ X N' scope cl s H fp C) X.N.length tg t) (ht:∀ cl s H fp C,AEts (zF_ X N' scope cl s H fp C) ifs et) (he:∀ cl s H fp C,AE (zF_ X N' scope cl s H fp C) elt ee)
  (hs:∀ x,foldedSetIterable iter X.env x=pure x):AEl X (.ListComp elt [⟨tg,iter,ifs,0⟩] scope pos) (zaQ_ sh k it t et ee):=by
 intro OK x kk G F σ H ρ Q hO hX St ok k2;unfold tSem;intro pins s I
 refine VH_ (wi:=yM_ X tg iter) (g:=Yi_ X N' scope tg) (tc:=Yh_ X N' scope ifs) (te:=Yj_ X N' scope elt) hc Sc (fun x hx hf=>I.ok.has x.1 (Sc.free x hx hf)) Jo_
  (fun cl s H fp C pins s' σ H v u Q I r h=>ZA_ pins s' σ H v u Q I r (h cl _ _ fp C)) (fun cl s H fp C pins s' σ H Q I h=>h cl _ _ fp C pins s' I) (fun cl s H fp C pins s' σ H Q I h=>zs_ pins s' σ H Q I (h cl _ _ fp C)) hs pins s σ H Q I (Qo_ hi hg ht he I.len hO hX St ok k2)
theorem zaX_ {S:Type} {pos' spos:Pos} {i:Nat} {y:Str} {it:Pu (List D)} {t:Tg (Option D)} {pt:Pu Bool} {pe:Pu D}
  (hN:X.N.Nodup) (hy:X.N[i]? = some y) (hly:Loc X.env.scope y) (hfn:X.fn y=true∨X.env.scope.names.lookup y=some .local) (hc:X.calm=true) (Sc:CompOk X N' k scope) (hi:AI X tg iter it)
  (hg:∀ cl s H fp C,AG (zF_ X N' scope cl s H fp C) X.N.length tg t) (ht:∀ cl s H fp C,ATs (zF_ X N' scope cl s H fp C) ifs pt) (he:∀ cl s H fp C,AP (zF_ X N' scope cl s H fp C) elt pe)
  (hsw:swapsWith (.ListComp elt [⟨tg,iter,ifs,0⟩] scope pos) (some (.Name y pos')) spos.line X.env=pure true) (hs:∀ x,foldedSetIterable iter X.env x=pure x) :
  AS (S:=S) X (.Assign [.Name y pos'] (.ListComp elt [⟨tg,iter,ifs,0⟩] scope pos) spos) (zbu_ i (ePu (VL_ k it t pt pe))):=by
 intro OK K G F σ H ρ E hO hX St ok eo;unfold Z2_;intro pins s I
 refine yN_ (wi:=yM_ X tg iter) (g:=Yi_ X N' scope tg) (tc:=Yh_ X N' scope ifs) (te:=Yj_ X N' scope elt) hN hy hly hfn hc Sc (fun x hx hf=>I.ok.has x.1 (Sc.free x hx hf)) Jo_
  (fun cl s H fp C pins s' σ H v u Q I r h=>ZA_ pins s' σ H v u Q I r (h cl _ _ fp C)) (fun cl s H fp C pins s' σ H Q I h=>h cl _ _ fp C pins s' I) (fun cl s H fp C pins s' σ H Q I h=>zs_ pins s' σ H Q I (h cl _ _ fp C)) hsw hs pins s σ H E I ?_
 refine YM_ hi hg ht he I.len St ?_
 refine W.of hO hX ok fun d F' H' s S' o v r=>?_
 have o':OK (match y9_ ρ i with|true=>K.nx (ρ.set i (some (.ol (.l d))))|false=>.bad):=o
 split at o'
 ·rename_i ho
  obtain ⟨hl,hop⟩:=jP_ ho
  exact eo.nx F' _ H' _ s (S'.store hop hl (.inr ⟨.l d,rfl,r⟩)) o'
 ·exact (hO o').elim
theorem uG_ {S:Type} {pos' spos:Pos} {i:Nat} {y:Str} {it:Pu (List D)} {t:Tg (Option D)} {pt:Pu Bool} {pe:Pu D}
  (hN:X.N.Nodup) (hy:X.N[i]? = some y) (hly:Loc X.env.scope y) (hfn:X.fn y=true∨X.env.scope.names.lookup y=some .local) (hc:X.calm=true) (Sc:CompOk X N' k scope) (hi:AI X tg iter it)
  (hg:∀ cl s H fp C,AG (zF_ X N' scope cl s H fp C) X.N.length tg t) (ht:∀ cl s H fp C,ATs (zF_ X N' scope cl s H fp C) ifs pt) (he:∀ cl s H fp C,AP (zF_ X N' scope cl s H fp C) elt pe)
  (hsw:swapsWith (.ListComp elt [⟨tg,iter,ifs,0⟩] scope pos) (some (.Name y pos')) spos.line X.env=pure true) (hs:∀ x,foldedSetIterable iter X.env x=pure x) :
  AS (S:=S) X (.Assign [.Name y pos'] (.ListComp elt [⟨tg,iter,ifs,0⟩] scope pos) spos) (sSet i (ePu (pZ (VL_ k it t pt pe)))):=by
 intro OK K G F σ H ρ E hO hX St ok eo;unfold Z2_;intro pins s I
 refine yN_ (wi:=yM_ X tg iter) (g:=Yi_ X N' scope tg) (tc:=Yh_ X N' scope ifs) (te:=Yj_ X N' scope elt) hN hy hly hfn hc Sc (fun x hx hf=>I.ok.has x.1 (Sc.free x hx hf)) Jo_
  (fun cl s H fp C pins s' σ H v u Q I r h=>ZA_ pins s' σ H v u Q I r (h cl _ _ fp C)) (fun cl s H fp C pins s' σ H Q I h=>h cl _ _ fp C pins s' I) (fun cl s H fp C pins s' σ H Q I h=>zs_ pins s' σ H Q I (h cl _ _ fp C)) hsw hs pins s σ H E I ?_
 refine YM_ hi hg ht he I.len St ?_
 have w:W X G F σ ρ (pZ (VL_ k it t pt pe) ρ) (fun d F' H'=>∀ v,Rep X.K F' v d→Wi_ i v σ H' E.nx):=W.of hO hX ok fun d F' H' s S' o v r=>by
  have o':OK (match y9_ ρ i with|true=>K.nx (ρ.set i (some (.fz d)))|false=>.bad):=o
  split at o'
  ·rename_i ho
   obtain ⟨hl,hop⟩:=jP_ ho
   exact eo.nx F' _ H' _ s (S'.store hop hl (.inl ⟨d,rfl,r⟩)) o'
  ·exact (hO o').elim
 refine w.bind.imp fun ds F' H' s1 S1 w1 v fr=>?_
 obtain ⟨F2,s2,S2,r2⟩:=S1.settle (v:=v) (ds:=ds) fr
 exact w1 F2 H' s2 S2 v r2
theorem YP_ {S:Type} {pos' spos:Pos} {i:Nat} {y:Str} {sh:List Kd} {it:Ev S (List D)} {t:Tg (Option D×SOf sh)} {et:Ev (Option D×SOf sh) Bool} {ee:Ev (Option D×SOf sh) D}
  (hN:X.N.Nodup) (hy:X.N[i]? = some y) (hly:Loc X.env.scope y) (hfn:X.fn y=true∨X.env.scope.names.lookup y=some .local) (hc:X.calm=true) (Sc:CompOk X N' k scope) (hi:AEi X tg iter it)
  (hg:∀ cl s H fp C,AG (zF_ X N' scope cl s H fp C) X.N.length tg t) (ht:∀ cl s H fp C,AEts (zF_ X N' scope cl s H fp C) ifs et) (he:∀ cl s H fp C,AE (zF_ X N' scope cl s H fp C) elt ee)
  (hsw:swapsWith (.ListComp elt [⟨tg,iter,ifs,0⟩] scope pos) (some (.Name y pos')) spos.line X.env=pure true) (hs:∀ x,foldedSetIterable iter X.env x=pure x) :
  AS X (.Assign [.Name y pos'] (.ListComp elt [⟨tg,iter,ifs,0⟩] scope pos) spos) (sSet i (eZ (zaQ_ sh k it t et ee))):=by
 intro OK K G F σ H ρ E hO hX St ok eo;unfold Z2_;intro pins s I
 refine yN_ (wi:=yM_ X tg iter) (g:=Yi_ X N' scope tg) (tc:=Yh_ X N' scope ifs) (te:=Yj_ X N' scope elt) hN hy hly hfn hc Sc (fun x hx hf=>I.ok.has x.1 (Sc.free x hx hf)) Jo_
  (fun cl s H fp C pins s' σ H v u Q I r h=>ZA_ pins s' σ H v u Q I r (h cl _ _ fp C)) (fun cl s H fp C pins s' σ H Q I h=>h cl _ _ fp C pins s' I) (fun cl s H fp C pins s' σ H Q I h=>zs_ pins s' σ H Q I (h cl _ _ fp C)) hsw hs pins s σ H E I ?_
 refine Qo_ hi hg ht he I.len hO hX St ok fun ds v F' H' ρ' s S' r o=>?_
 have o':OK (match y9_ ρ' i with|true=>K.nx (ρ'.set i (some (.fz (.list ds))))|false=>.bad):=o
 split at o'
 ·rename_i ho
  obtain ⟨hl,hop⟩:=jP_ ho
  obtain ⟨F2,s2,S2,r2⟩:=S'.settle (v:=v) (ds:=ds) r
  exact eo.nx F2 _ H' _ (s.trans s2) (S2.store hop hl (.inl ⟨_,rfl,r2⟩)) o'
 ·exact (hO o').elim
end
end L4
set_option Elab.async false
set_option linter.all false
set_option maxRecDepth 100000
namespace HT
open PySem PySem.Spec PyProof.Rows
section
variable {prog:Program} {w:World} {A:Around} {E:Value→Shared→Prop} {s:Shared}
theorem getItem_tuple_all {t sl:Addr} {items:Array Value} {vl vu:Value} {lo hi:Option Int} {Q:Value→Shared→Prop} (ht:IsTup s.heap t items) (hs:s.heap.IsSliceOf sl vl vu .none) (pl:IsPart vl lo) (pu:IsPart vu hi)
  (hw:sIx items.size 0 lo=0∧sIx items.size items.size hi=items.size) (h:Q (.ref t) s):wpAny (model prog w) A (getItem (.ref t) (.ref sl)) Q E s:=by
 obtain ⟨os,hos,hcs,hds⟩:=id hs
 have hTs:s.TypeIs (.ref sl) "slice":=⟨os,hos,hcs⟩
 unfold getItem
 try with_reducible refine wpAny_holding ?_
 first|refine wpAny_bind (wpAny_pure ?_)|skip
 refine wpAny_bind (wpAny_sequenceKey ht.typeIs (by decide) ?_)
 refine wpAny_bind (wpAny_callSpecial?_slot (name:=Str.ofString "__getitem__") ht.typeIs PyProof.Rows.slot_tuple_getitem
  (wpAny_call_entry PyProof.Rows.slot_tuple_getitem ht.typeIs entry_tuple_getitem ?_ (args_tuple_getitem _ _)))
 show wpAny _ _ (Builtin.Tuple.tupleItemsOf (.ref t) >>= _) _ _ s
 refine wpAny_bind (tupleItemsOf_ ht ?_)
 refine wpAny_bind (wpAny_typeOf hTs ?_)
 rw [if_pos (by decide)]
 refine wpAny_bind (uZ_ hs pl pu ?_)
 have hyes:((((sIx items.size 0 lo:Nat):Int)==0&&(1:Int)==1&&(sIx items.size items.size hi - sIx items.size 0 lo)==items.size)=true):=by
  rw [hw.1,hw.2]
  simp
 show wpAny _ _ (if (((sIx items.size 0 lo:Nat):Int)==0&&(1:Int)==1&&(sIx items.size items.size hi - sIx items.size 0 lo)==items.size)=true then _ else _) _ _ s
 rw [if_pos hyes]
 obtain ⟨o,ho,hc,n,hd⟩:=id ht
 have hex:∀ {Q':Bool→Shared→Prop},Q' true s→wpAny (model prog w) A.in1 (Builtin.Tuple.tupleIsExact (.ref t)) Q' E s:=fun {Q'} q=>by
  unfold Builtin.Tuple.tupleIsExact
  refine wpAny_bind (wpAny_typeOf ht.typeIs (wpAny_pure ?_))
  exact q
 first
  | exact wpAny_bind (hex (wpAny_bind (wpAny_rule (wpAny_pure ⟨_,rfl,wpAny_pure h⟩))))
  | exact wpAny_bind (wpAny_bind (hex (wpAny_bind (wpAny_rule (wpAny_pure (wpAny_pure ⟨_,rfl,wpAny_pure h⟩))))))
end
end HT
namespace L4
open PySem PySem.Spec PyProof.Rows L2 L3
noncomputable def cutD (ds:List D) (lo hi:Option Int):List D:=(ds.drop (HT.sIx ds.length 0 lo)).take (HT.sIx ds.length ds.length hi - HT.sIx ds.length 0 lo)
theorem Wr_ {K:Fg} {F:Hp} {vs:List V} {ds:List D} (r:RepL K F vs ds) (lo hi:Option Int):RepL K F (cutV vs lo hi) (cutD ds lo hi):=by
 unfold cutV cutD
 rw [r.length]
 exact (r.drop _).take _
noncomputable def rSlA (K:Fg):V→Option Int→Option Int→Hp→VK→Prop:=fun x lo hi H Q=>∃ a xs,x=.ref a∧SqT K H a xs∧(HT.sIx xs.length 0 lo=0∧HT.sIx xs.length xs.length hi=xs.length)∧Q x H
theorem sl_tupA {X:Cx}:SlR X (rSlA X.K):=by
 intro pins s σ H x v vl vu lo hi sl Q I rx hs pl pu h
 obtain ⟨a,xs,rfl,hx,hw,q⟩:=h
 cases rx
 obtain ⟨its,r,ht,hz⟩:=I.tuple hx
 have hlen:its.toArray.size=xs.length:=by rw [List.size_toArray];exact r.length.symm
 refine ⟨"tuple",_,PyProof.Rows.slot_tuple_getitem.lookup,ht.typeIs,?_⟩
 exact HT.getItem_tuple_all ht hs pl pu (by rw [hlen];exact hw) ⟨.ref a,H,I,rfl,q⟩
noncomputable def pNoI:Pu (Option Int):=fun _=>.ret none
noncomputable def asI (d:D):M (Option Int):=match d with
 | .int i=>.ret (some i)
 | _=>.bad
noncomputable def pInt (p:Pu D):Pu (Option Int):=fun ρ=>bd (p ρ) asI
noncomputable def fCut (d:D) (lo hi:Option Int):Option D:=match d with
 | .tuple ds=>some (.tuple (cutD ds lo hi))
 | .list ds=>some (.list (cutD ds lo hi))
 | _=>none
noncomputable def zeh_ (d:D) (lo hi:Option Int):Option (List D):=match d with
 | .list ds=>some (cutD ds lo hi)
 | _=>none
noncomputable def zcd_ (p:Pu D) (l h:Pu (Option Int)):Pu D:=fun ρ=>bd (p ρ) fun d=>bd (l ρ) fun lo=>bd (h ρ) fun hi=>oM (fCut d lo hi)
noncomputable def APo (X:Cx) (e:Option Expr) (p:Pu (Option Int)):Prop :=
 ∀ (G:Gh) (F:Hp) (σ:L2.St) (H:Hp) (ρ:En) (Q:Option Int→Hp→Prop),StOk X.K G F σ H ρ→W X G F σ ρ (p ρ) (fun d F' H'=>Q d H')→∀ (pins:List (Addr×Obj)) (s:Shared),Inv X pins σ H s →
  wpAny (model X.prog X.w) X.A (evalPart e X.env) (fun u s'=>∃ o H',Inv X pins σ H' s'∧IsPart u o∧Q o H') X.xe s
noncomputable def zdk_ (X:Cx) (e:Option Expr):TO:=fun σ H Q=>∀ (pins:List (Addr×Obj)) (s:Shared),Inv X pins σ H s→wpAny (model X.prog X.w) X.A (evalPart e X.env) (fun u s'=>∃ o H',Inv X pins σ H' s'∧IsPart u o∧Q o H') X.xe s
theorem XI_ {X:Cx} {e:Option Expr}:PO X e (zdk_ X e):=fun pins s σ H Q I h=>h pins s I
section
variable {X:Cx} {e:Expr} {lo hi:Option Expr} {p:Pu D} {pl ph:Pu (Option Int)} {pos p2:Pos}
theorem J9_:APo X none pNoI:=fun G F σ H ρ Q S w pins s I=>zan_ pins s σ H Q I (w F H (Same.refl _) S)
theorem J8_ (h:AP X e p):APo X (some e) (pInt p):=fun G F σ H ρ Q S w pins s I=>zam_ zs_ pins s σ H Q I (h G F σ H ρ _ S (w.bind.imp fun d F1 H1 s1 S1 w1 v r=>by
 cases r with
 | int i=>exact ⟨i,rfl,w1 F1 H1 (Same.refl _) S1⟩
 | bl b=>exact w1.elim
 | non=>exact w1.elim
 | str i=>exact w1.elim
 | tup _ _=>exact w1.elim
 | lst _ _=>exact w1.elim
 | dct _ _ _=>exact w1.elim
 | dck _ _ _=>exact w1.elim
 | exc _ _ _ _ _=>exact w1.elim
 | fn _=>exact w1.elim))
theorem Ua_ (he:AO X e p) (hl:APo X lo pl) (hh:APo X hi ph):AP X (.Subscript e (.Slice lo hi none p2) pos) (zcd_ p pl ph) :=
 fun G F σ H ρ Q S w=>sem (W3_ (sl_tup.or (sl_tupA.or X8_)) zs_ XI_ XI_) (he G F σ H ρ _ S (w.bind.imp fun d F1 H1 s1 S1 w1 x hx =>
  hl G F1 σ H1 ρ _ S1 (w1.bind.imp fun lo F2 H2 s2 S2 w2=>hh G F2 σ H2 ρ _ S2 (w2.bind.imp fun hi F3 H3 s3 S3 w3=>by
   obtain ⟨res,hr,k⟩:=w3.opt
   have ox:=(hx.mono (s2.trans s3)).or S3
   cases d<;>try (cases hr)
   ·obtain ⟨a,vs,rfl,h1,h2⟩:=ox.list S3.fh
    refine .inr (.inr ⟨a,vs,rfl,h1,fun q hq=>?_⟩)
    obtain ⟨S4,r4⟩:=S3.newLst hq (Wr_ h2 lo hi)
    obtain ⟨F5,s5,S5,r5⟩:=S4.settle r4
    exact k F5 _ s5 S5 _ r5
   ·rename_i ds
    obtain ⟨a,vs,rfl,h1,h2⟩:=ox.tuple S3.fh
    by_cases hw:HT.sIx vs.length 0 lo=0∧HT.sIx vs.length vs.length hi=vs.length
    ·refine .inr (.inl ⟨a,vs,rfl,h1,hw,k F3 H3 (Same.refl _) S3 _ ?_⟩)
     have:cutD ds lo hi=ds:=by
      unfold cutD
      rw [←h2.length,hw.1,hw.2]
      simp [h2.length]
     rw [this]
     exact ox.tup'
    ·refine .inl ⟨a,vs,rfl,h1,hw,fun q hq=>?_⟩
     obtain ⟨s4,S4,r4⟩:=S3.newTup hq (Wr_ h2 lo hi)
     exact k _ _ s4 S4 _ r4))))
end
noncomputable def Xa_ (d e:D):Option Bool:=match d,e with
 | .bool a,.bool b=>some (a==b)
 | _,.none=>some (isNone d)
 | _,_=>none
section
variable {X:Cx}
theorem zav_:OpR X (compareOp .Is) (rD2 X.K Xa_):=by
 intro pins s σ H x y v u Q I rx ry ⟨d,e,b,r1,r2,ho,q⟩
 unfold Xa_ at ho
 split at ho
 ·cases ho
  cases r1
  cases r2
  cases rx
  cases ry
  exact PyProof.Rows.is_bool ⟨.bl _,H,I,rfl,q⟩
 ·exact zau_ pins s σ H x y v u Q I rx ry ⟨d,.none,b,r1,r2,by rw [←ho];rfl,q⟩
 ·cases ho
end
noncomputable def boolsOf:List D→Option (List Bool)
 | []=>some []
 | .bool b::r=>match boolsOf r with
  | some l=>some (b::l)
  | none=>none
 | _=>none
noncomputable def fAll:List D→Option Bool
 | [.list ds]=>(boolsOf ds).map fun bs=>bs.all id
 | _=>none
noncomputable def fInt:List D→Option D
 | [.int i]=>some (.int i)
 | [.bool b]=>some (.int (if b then 1 else 0))
 | _=>none
theorem zcu_ {K:Fg}:Ug_ K (fun xs H Q=>(∃ i,xs=[.int i]∧Q (.int i) H)∨∃ k,xs=[.bl k]∧Q (.int (if k then 1 else 0)) H) fInt:=by
 intro G F σ H ρ xs ds res Q S o e k
 unfold fInt at e
 split at e
 ·cases e
  obtain ⟨v,r,rfl,ho,hr⟩:=jD_ o
  obtain rfl:=ur_ hr
  exact .inl ⟨_,by rw [ho.int],k _ F H (Same.refl _) S (.int _)⟩
 ·cases e
  obtain ⟨v,r,rfl,ho,hr⟩:=jD_ o
  obtain rfl:=ur_ hr
  exact .inr ⟨_,by rw [ho.bool],k _ F H (Same.refl _) S (.int _)⟩
 ·cases e
theorem zbb_ {X:Cx} {x:Str} {v:V} {u:Value} {d:D} {pos:Pos} (hg:Gl X x) (hm:X.mg x=some u) (r:RelV v u) (rp:∀ F,Rep X.K F v d) (hd:(x==("__debug__" : Str))=false):AP X (.Name x pos) (pCon d) :=
 Yd_ (Yp_ hg hm r hd) rp
end L4
set_option Elab.async false
set_option linter.all false
set_option maxRecDepth 100000
namespace L4
open PySem PySem.Spec PyProof.Rows L2 L3
section
variable {S:Type}
noncomputable def putD (ds:List D) (j d:D):Option (List D):=match j with
 | .int k=>(ixN ds.length k).map fun q=>ds.set q d
 | _=>none
noncomputable def sPut (i:Nat) (mi me:Ev S D):SM S:=fun K ρ=>me K.x (fun d ρ1=>match ownL ρ1 i with
 | some _=>mi K.x (fun j ρ2=>match ownL ρ2 i with
  | some ds=>(oM (putD ds j d)).on (fun e=>K.x e ρ2) (fun ds'=>K.nx (setO ρ2 i ds'))
  | none=>.bad) ρ1
 | none=>.bad) ρ
noncomputable def sAug (i:Nat) (f:D→D→Option D) (me:Ev S D):SM S:=fun K ρ=>match ρ[i]? with
 | some (some (.fz x))=>me K.x (fun d ρ1=>(oM (f x d)).on (fun e=>K.x e ρ1) (fun r=>match y9_ ρ1 i with
  | true=>K.nx (ρ1.set i (some (.fz r)))
  | false=>.bad)) ρ
 | _=>.bad
noncomputable def ipD (f:D→D→Option D) (K:Fg) (t:TIp):Prop:=∀ (x y:V) (dx dy r:D) (F H:Hp) (Q:VK),Rep K F x dx→Rep K F y dy→f dx dy=some r→(∀ v,Rep K F v r→Q v H)→t x y H Q
variable {X:Cx} {a b e:Expr} {mi me:Ev S D} {pos pos' tpos apos cpos:Pos} {ml:Ev S (List D)}
theorem XZ_ {i:Nat} {x:Str} (hN:X.N[i]? = some x) (hv:Vis X.env.scope x) (hi:AE X b mi) (he:AE X e me) (ha:∀ v,assign (.Subscript (.Name x pos') b tpos) X.env v=(do
   let ov ←holding [v] (eval (.Name x pos') X.env)
   let iv ←holding [v,ov] (eval b X.env)
   standAt tpos
   holding [v,ov,iv] (setItem ov iv v)
   release [v,ov,iv] []))
  (hs:swapsWithSole [.Subscript (.Name x pos') b tpos] e pos.line X.env=pure false) (hw:swappedStores [.Subscript (.Name x pos') b tpos] e X.env=pure none)
  (h1:(assignEach [.Subscript (.Name x pos') b tpos] X.env).map (·.2)=[assign (.Subscript (.Name x pos') b tpos) X.env])
  (hd:(x==("__debug__" : Str))=false:=by decide) (hcd:(x==("__classdict__" : Str))=false:=by decide):AS X (.Assign [.Subscript (.Name x pos') b tpos] e pos) (sPut i mi me):=fun OK K G F σ H ρ E hO hX St ok eo =>
 semS (zbQ_ zs_ (zbU_ (Jp_ hN hv hd hcd) zs_ set_list ha) hs hw h1) (he OK K.x _ G F σ H ρ _ hO hX St ok fun d v F1 H1 ρ1 s1 S1 r1 o1=>by
  split at o1
  case h_2=>exact (hO o1).elim
  rename_i ds0 hd0
  obtain ⟨a,vs0,ea,_,_⟩:=ZB_ S1 hd0
  refine ⟨_,ea,hi OK K.x _ G F1 σ H1 ρ1 _ hO hX S1 o1 fun j u F2 H2 ρ2 s2 S2 r2 o2=>?_⟩
  split at o2
  case h_2=>exact (hO o2).elim
  rename_i ds hds
  obtain ⟨ds',hp,o3⟩:=y2_ hO o2
  obtain ⟨a',vs,ea',hh,rv⟩:=ZB_ S2 hds
  rw [ea] at ea'
  injection ea' with ea';injection ea' with ea';injection ea' with ea'
  subst ea'
  unfold putD at hp
  split at hp
  ·rename_i k
   obtain ⟨q,hq,rfl⟩:=Option.map_eq_some_iff.mp hp
   cases r2
   refine ⟨a,vs,k,q,rfl,rfl,hh,by rw [rv.length];exact hq,?_⟩
   exact eo.nx F2 σ _ _ (s1.trans s2) (VN_ S2 hds ea (RepL.set (r1.mono s2) q rv)) o3
  ·cases hp)
theorem zcW_ {i:Nat} {x:Str} {op:Operator} {t:TIp} {f:D→D→Option D} (hN:X.N.Nodup) (hi:X.N[i]? = some x) (hx:Loc X.env.scope x) (ho:PIp X op t) (hf:ipD f X.K t) (he:AE X e me) (hfn:X.fn x=true∨X.env.scope.names.lookup x=some .local) :
  AS X (.AugAssign (.Name x pos') op e pos) (sAug i f me):=fun OK K G F σ H ρ E hO hX St ok eo =>
 semS (zbP_ hN hi hx zs_ ho hfn) (by
  unfold sAug at ok
  split at ok
  case h_2=>exact (hO ok).elim
  rename_i dx hdx
  obtain ⟨v,ev,rv⟩:=St.fz i dx hdx
  refine ⟨v,ev,he OK K.x _ G F σ H ρ _ hO hX St ok fun d u F1 H1 ρ1 s1 S1 r1 o1=>?_⟩
  obtain ⟨r,er,o2⟩:=y2_ hO o1
  refine hf v u dx d r F1 H1 _ (rv.mono s1) r1 er fun z rz=>?_
  split at o2
  ·rename_i hok
   obtain ⟨hl,hop⟩:=jP_ hok
   exact eo.nx F1 _ H1 _ s1 (S1.store hop hl (.inl ⟨r,rfl,rz⟩)) o2
  ·exact (hO o2).elim)
end
end L4
set_option Elab.async false
set_option linter.all false
set_option maxRecDepth 100000
namespace L4
open PySem PySem.Spec PyProof.Rows L2 L3
noncomputable def kindB (k:NameKind):Option NameKind→Bool
 | some k'=>k==k'
 | none=>false
noncomputable def Ws_ (N N':List Str) (k:Nat) (scope sc:Scope):Bool :=
 (scope.kind==.function)&&(N'.length==N.length+k)&&scope.names.all (fun y=>y.2 != .cell)&&scope.names.all (fun y=>y.2 != .local||kindB .local (scope.names.lookup y.1))
  && ((List.range N.length).all fun i=>match N'[i]? with
   | some x=>!(kindB .free (scope.names.lookup x)||kindB .local (scope.names.lookup x)||kindB .cell (scope.names.lookup x))||(N[i]? == some x&&kindB .free (scope.names.lookup x))
   | none=>true)
  && scope.names.all (fun y=>y.2 != .free||kindB .cell (sc.names.lookup y.1)||kindB .free (sc.names.lookup y.1))
theorem Zl_ {k:NameKind} {o:Option NameKind} (h:kindB k o=true):o=some k:=by
 cases o with
 | none=>cases h
 | some k'=>simp [kindB] at h;rw [h]
theorem Xj_ {k:NameKind} {o:Option NameKind} (h:o=some k):kindB k o=true:=by subst h;simp [kindB]
theorem jj_ {X:Cx} {N N':List Str} {k:Nat} {scope sc:Scope} (h:Ws_ N N' k scope sc=true) (hN:X.N=N) (hs:X.env.scope=sc):CompOk X N' k scope:=by
 subst hN hs
 simp only [Ws_,Bool.and_eq_true,List.all_eq_true,beq_iff_eq,Bool.or_eq_true,bne_iff_ne,ne_eq] at h
 obtain ⟨⟨⟨⟨⟨h1,h2⟩,h3⟩,h4⟩,h5⟩,h6⟩:=h
 refine ⟨h1,h2,fun y hy=>h3 y hy,fun y hy hl=>?_,fun i x hi hx _ hk=>?_,fun y hy hf=>?_⟩
 ·rcases h4 y hy with z|z
  ·exact absurd hl z
  ·exact Zl_ z
 ·have:=h5 i (List.mem_range.mpr hi)
  rw [hx] at this
  simp only [Bool.or_eq_true,Bool.not_eq_true',Bool.and_eq_true,beq_iff_eq] at this
  rcases this with z|⟨z1,z2⟩
  ·exfalso
   rcases hk with hk|hk|hk<;>simp [Xj_ hk] at z
  ·exact ⟨z1,Zl_ z2⟩
 ·rcases h6 y hy with (z|z)|z
  ·exact absurd hf z
  ·exact .inl (Zl_ z)
  ·exact .inr (Zl_ z)
section
variable {S:Type} {X:Cx} {a b e:Expr} {ms:Ev S (List D)} {pos:Pos}
noncomputable def sPar (i j:Nat) (ms:Ev S (List D)):SM S:=fun K ρ=>ms K.x (fun ds ρ1=>match ds with
 | [u,v]=>(match y9_ ρ1 i&&y9_ (ρ1.set i (some (.fz u))) j with
  | true=>K.nx ((ρ1.set i (some (.fz u))).set j (some (.fz v)))
  | false=>.bad)
 | _=>.bad) ρ
theorem X0_ {i j:Nat} {x y:Str} {px py pt:Pos} {kt k2 pt2} (hc:X.calm=true) (hN:X.N.Nodup) (hi:X.N[i]? = some x) (hj:X.N[j]? = some y) (hij:i≠j)
  (hx:X.env.scope.names.lookup x=some .local) (hy:X.env.scope.names.lookup y=some .local) (ha:AEa X [a,b] ms)
  (hw:swappedStores [.Tuple [.Name x px,.Name y py] kt pt] (.Tuple [a,b] k2 pt2) X.env=pure (some [x,y]))
  (hs:swapsWithSole [.Tuple [.Name x px,.Name y py] kt pt] (.Tuple [a,b] k2 pt2) pos.line X.env=pure false) :
  AS X (.Assign [.Tuple [.Name x px,.Name y py] kt pt] (.Tuple [a,b] k2 pt2) pos) (sPar i j ms):=fun OK K G F σ H ρ E hO hX St ok eo =>
 semS (zbN_ hc hN hi hj hij hx hy j7_ hw hs) (ha OK K.x _ G F σ H ρ _ hO hX St ok fun ds vs F1 H1 ρ1 s1 S1 hl r1 o1=>by
  split at o1
  ·split at o1
   ·rename_i _ u v _ hok
    rw [Bool.and_eq_true] at hok
    obtain ⟨h1,h2⟩:=jP_ hok.1
    obtain ⟨h3,h4⟩:=jP_ hok.2
    cases r1 with
    | cons ra rb =>
     cases rb with
     | cons rb rc =>
      cases rc
      refine ⟨_,_,rfl,eo.nx F1 _ H1 _ s1 ?_ o1⟩
      exact (S1.store h2 h1 (.inl ⟨u,rfl,ra⟩)).store h4 h3 (.inl ⟨v,rfl,rb⟩)
   ·exact (hO o1).elim
  ·exact (hO o1).elim)
end
theorem V5_ {K:Fg} {H:Hp} {a:Addr} {ns:List Int} {mf:List D→M D} (hS:SqL K H a (ns.map V.int)) (h:mf [.list (ns.map PyData.int)]=.ret (.bool true)):spD K 1 mf [.ref a] H (fun v _=>v=.bl true) fun _ _ _=>False:=by
 refine ⟨⟨fun _=>none,fun _=>none,H⟩,H,[.list (ns.map PyData.int)],rfl,⟨Same.refl _,fun b o z=>(nomatch z),fun b o z=>(nomatch z),rfl,fun i d z=>?_,fun i c z=>(yD_ (ds:=[.list (ns.map PyData.int)]) z).elim,fun i j c e a z=>(yD_ (ds:=[.list (ns.map PyData.int)]) z).elim,fun i a z=>(nomatch z),fun i c z=>?_,Same.refl _⟩,?_⟩
 ·obtain ⟨d',e,q⟩:=ZM_ (ds:=[.list (ns.map PyData.int)]) z
  cases e
  cases i with
  | zero=>simp at q;subst q;exact ⟨_,rfl,.lst hS (RepL.ints ns)⟩
  | succ i=>simp at q
 ·obtain ⟨d',e,q⟩:=ZM_ (ds:=[.list (ns.map PyData.int)]) z
  cases e
 ·rw [h]
  intro v F' H' s S' r
  cases r
  rfl
end L4
namespace HT
end HT
set_option Elab.async false
set_option linter.all false
set_option maxRecDepth 100000
namespace L4
open PySem PySem.Spec PyProof.Rows L2 L3
section
variable {X:Cx} {a:Expr} {pa:Pu D} {pos:Pos} {ta:TE}
theorem zaq_ (ha:PE X a ta):PE X (.UnaryOp .Not a pos) (fun σ H Q=>ta σ H fun x H'=>∃ k,TruV X.K x H' k∧Q (.bl (!k)) H'):=by
 intro pins s σ H Q I h
 refine UnaryOp_ (thn (ha pins s σ H _ I h) fun v s1 ⟨x,H1,I1,r1,q1⟩=>?_)
 obtain ⟨k,q1,q2⟩:=q1
 exact not_of (thn (zbl_ pins s1 σ H1 x v (fun c H'=>Q (.bl (!c)) H') I1 r1 ⟨k,q1,q2⟩) fun c s2 ⟨H2,I2,q⟩=>⟨.bl (!c),H2,I2,rfl,q⟩)
theorem WF_ (ha:AO X a pa):AB X (.UnaryOp .Not a pos) (pNot (pTru pa)) :=
 fun G F σ H ρ Q S w=>sem (zaq_ zs_) (ha G F σ H ρ _ S (w.bind.bind.imp fun x F1 H1 s1 S1 w1 v hv=>by
  obtain ⟨bb,hb,k⟩:=w1.opt
  refine ⟨bb,?_,k F1 H1 (Same.refl _) S1 F1 H1 (Same.refl _) S1⟩
  have o:=hv.or S1
  cases x with
  | none=>rw [o.none];cases hb;exact rfl
  | bool i=>rw [o.bool];cases hb;exact rfl
  | int i=>rw [o.int];cases hb;exact rfl
  | str i =>
   rw [o.str]
   unfold truD at hb
   dsimp only at hb
   split at hb
   ·rename_i hl;cases hb;exact ⟨hl,rfl⟩
   ·cases hb
  | list ds=>obtain ⟨a,vs,rfl,h1,h2⟩:=o.list S1.fh;cases hb;exact .inl ⟨vs,h1,(y4_ h2).symm⟩
  | tuple ds=>obtain ⟨a,vs,rfl,h1,h2⟩:=o.tuple S1.fh;cases hb;exact .inr (.inl ⟨vs,h1,(y4_ h2).symm⟩)
  | dict ds=>cases hb))
end
noncomputable def isStar:Expr→Bool
 | .Starred _ _=>true
 | _=>false
theorem za_ {env:Env}:∀ {e:Expr} {es:List Expr},isStar e=false→starEach (e::es) env=(false,eval e env)::starEach es env:=by
 intro e es h
 cases e<;>first|rfl|cases h
end L4
set_option Elab.async false
set_option linter.all false
set_option maxRecDepth 100000
namespace L4
open PySem PySem.Spec PyProof.Rows L2 L3
noncomputable def forS {S T:Type}:(T→D→(T→M S)→M S)→List D→T→(T→M S)→M S:=Classical.choose (⟨@forC S T,rfl⟩:∃ f,f = @forC S T)
theorem ZN_ {S T:Type} : @forS S T = @forC S T:=Classical.choose_spec (⟨@forC S T,rfl⟩:∃ f,f = @forC S T)
section
variable {S:Type}
noncomputable def zab_ (sh:List Kd) (it:Ev S (List D)) (t:Tg S) (mb:SM S):SM S:=fun K ρ=>it K.x (fun ds ρ1=>rdk sh (fun s=>forS (fun s d kn=>t d (fun ρ2=>mb (Xe_ sh K kn) ρ2) (wr sh s)) ds s (fun s'=>K.nx (wr sh s'))) ρ1) ρ
theorem WU_ (sh:List Kd) (it:Ev S (List D)) (t:Tg S) (mb:SM S):zab_ sh it t mb=sFor sh it t mb:=by
 unfold zab_ sFor
 rw [ZN_]
variable {X:Cx} {mb:SM S} {c:Expr} {mt:Ev S Bool} {ml:Ev S (List D)} {pos:Pos}
theorem ud_ {tg iter:Expr} {body:List Stmt} {sh:List Kd} {t:Tg S} (hp:PassesOwn (model X.prog X.w) X.A X.env X.xe) (hc:X.calm=true) (hi:AEi X tg iter ml) (hg:AG X 0 tg t) (hb:ASs X body mb)
  (hs:∀ x,foldedSetIterable iter X.env x=pure x):AS X (.For tg iter body [] pos) (zab_ sh ml t mb):=by
 rw [WU_]
 exact zcV_ hp hc hi hg hb hs
end
end L4
set_option Elab.async false
set_option linter.all false
set_option maxRecDepth 100000
namespace HT
open PySem PySem.Spec PyProof.Rows
theorem noFill_tuple_mul:fillsNumberSlot (.type "tuple") "mul" = pure false :=
 PySem.fillsNumberSlot_seq (id := "tuple.__mul__") (r:=some (.builtin "tuple.__rmul__")) PySem.F.slot_tuple_mul.lookup (by decide +kernel) PySem.F.slot_tuple_rmul.lookup (by decide +kernel)
theorem repeat_tuple:seqRepeat? (.type "tuple")=pure (some (.builtin "tuple.__mul__")):=by
 unfold seqRepeat?
 rw [PySem.seqSlot_of (T := "tuple") (name := "__mul__") (id := "tuple.__mul__") PySem.F.slot_tuple_mul.lookup (by decide +kernel),PySem.seqSlot_of (T := "tuple") (name := "__rmul__") (id := "tuple.__rmul__") PySem.F.slot_tuple_rmul.lookup (by decide +kernel)]
 rfl
theorem rmul_int_tuple (a:Int) (t:Tok) (l:Addr) (items:Array Value) (n:Nat) (d:Option Addr) (sl:Array (Option Value)) :
  Meets (Builtin.«int.__rmul__» ⟨[.int a t,.ref l],[]⟩) (fun _ R s=>s.heap.get? l=some { cls:=.type "tuple",dict:=d,data:=.seq items n,slots:=sl }∧R (.ok (.ret Value.notImplemented)) s) :=
 .of_wp fun prog w A R s h=>by obtain ⟨hp,g,dd,tk,os⟩:=s;obtain ⟨hl,h⟩:=h;wp_walk;exact ⟨_,rfl,h⟩
theorem tuple_mulW (l:Addr) (items:Array Value) (n:Nat) (d:Option Addr) (sl:Array (Option Value)) (x:Int) (u:Tok) (h2:2≤x) (h3:x<2^63) (he:items.isEmpty=false) (hz:items.size*x≤(sizeLine:Int)) (hz2:(List.foldl (fun x1 x2=>x1++x2) #[] (List.replicate x.toNat items)).size≤sizeLine) :
  Meets (Builtin.«tuple.__mul__» ⟨[.ref l,.int x u],[]⟩) (fun _ R s=>s.heap.get? l=some { cls:=.type "tuple",dict:=d,data:=.seq items n,slots:=sl }∧R (.ok (.ret (Value.ref s.heap.objs.size))) { s with heap:=s.heap.push { cls:=Value.type "tuple",data:=Data.seq (List.foldl (fun x1 x2=>x1++x2) #[] (List.replicate x.toNat items)) } }) :=
 .of_wp fun prog w A R s h=>by
  obtain ⟨hp,g,dd,tk,os⟩:=s;obtain ⟨hl,h⟩:=h
  have f1:=AutoSeq1.idx_int;have f2:=AutoSeq1.sub_tuple_tuple
  have hs:(sizeLine:Int)≤(2^63 - 1) / 8:=by decide
  wp_walk
  rw [if_neg (by simp;lia)]
  wp_walk using wpAny_loadPart' hl
  rw [if_neg (by simp [he];lia)]
  wp_walk using wpAny_loadPart' hl
  rw [if_neg (by simp [he];lia)]
  wp_walk using wpAny_loadPart' hl
  rw [if_neg (by lia)]
  wp_walk using wpAny_loadPart' hl
  rw [if_neg (by unfold Builtin.Tuple.tupleTooMany;simp;lia)]
  wp_walk using wpAny_loadPart' hl
  exact ⟨_,rfl,h⟩
theorem tuple_mulW1 (l:Addr) (items:Array Value) (n:Nat) (d:Option Addr) (sl:Array (Option Value)) (u:Tok) :
  Meets (Builtin.«tuple.__mul__» ⟨[.ref l,.int 1 u],[]⟩) (fun _ R s=>s.heap.get? l=some { cls:=.type "tuple",dict:=d,data:=.seq items n,slots:=sl }∧R (.ok (.ret (Value.ref l))) s) :=
 .of_wp fun prog w A R s h=>by
  obtain ⟨hp,g,dd,tk,os⟩:=s;obtain ⟨hl,h⟩:=h
  have f1:=AutoSeq1.idx_int;have f2:=AutoSeq1.sub_tuple_tuple
  wp_walk using wpAny_loadPart' hl
  exact ⟨_,rfl,h⟩
theorem tuple_mulW0 (l:Addr) (items:Array Value) (n:Nat) (d:Option Addr) (sl:Array (Option Value)) (x:Int) (u:Tok) (h1 : -(2^63)≤x) (h0:x≤0) (he:items.isEmpty=false) :
  Meets (Builtin.«tuple.__mul__» ⟨[.ref l,.int x u],[]⟩) (fun _ R s=>s.heap.get? l=some { cls:=.type "tuple",dict:=d,data:=.seq items n,slots:=sl }∧R (.ok (.ret (Value.ref s.heap.objs.size))) { s with heap:=s.heap.push { cls:=Value.type "tuple",data:=Data.seq #[] } }) :=
 .of_wp fun prog w A R s h=>by
  obtain ⟨hp,g,dd,tk,os⟩:=s;obtain ⟨hl,h⟩:=h
  have f1:=AutoSeq1.idx_int;have f2:=AutoSeq1.sub_tuple_tuple
  wp_walk
  rw [if_neg (by simp;lia)]
  wp_walk using wpAny_loadPart' hl
  rw [if_neg (by simp [he];lia)]
  wp_walk using wpAny_loadPart' hl
  exact ⟨_,rfl,h⟩
end HT
namespace L4
open PySem PySem.Spec PyProof.Rows L2 L3
noncomputable def yB_:D→D→Option D
 | .tuple (a::r),.int k=>if decide (-(2^63)≤k)&&decide (k<2^63)&&decide ((a::r).length*k.toNat≤sizeLine) then some (.tuple (List.replicate k.toNat (a::r)).flatten) else none
 | _,_=>none
noncomputable def zbF_ (K:Fg):R2:=fun x y H Q=>∃ l k xs,x=.ref l∧y=.int k∧SqT K H l xs∧xs≠[] ∧ -(2^63)≤k∧k<2^63∧xs.length*k.toNat≤sizeLine ∧
 (k=1→Q (.ref l) H)∧(k≠1→∀ p,H p=none→Q (.ref p) (upd H p (.tup (List.replicate k.toNat xs).flatten)))
section
variable {X:Cx}
theorem zaw_:OpR X (binaryOp .Mult) (zbF_ X.K):=by
 intro pins s σ H x y v u Q I rx ry h
 obtain ⟨l,k,xs,rfl,rfl,hH,hne,h1,h2,hz,q1,q2⟩:=h
 cases rx
 obtain ⟨t,rfl⟩:=ry
 obtain ⟨its,r,p1,_⟩:=I.tuple hH
 obtain ⟨⟨cls,dd,data,sl⟩,ho,hc,n,hd⟩:=id p1
 simp only at hc hd
 subst hc hd
 have hne':its.toArray.isEmpty=false:=by
  have:its≠[]:=fun z=>hne (r.nil_iff.mp z)
  cases its with
  | nil=>exact absurd rfl this
  | cons a b=>simp
 have hlen:its.length=xs.length:=r.length.symm
 have road:wpAny (model X.prog X.w) X.A (call (.builtin "tuple.__mul__") [.ref l,.int k t]) (EP X pins σ Q) X.xe s→wpAny (model X.prog X.w) X.A (binaryOp .Mult (.ref l) (.int k t)) (EP X pins σ Q) X.xe s:=fun hgo =>
  wpAny_binaryOp_repeat_ref (T := "tuple") (U := "int") (by decide) ⟨_,ho,rfl⟩ (fun s'=>typeIs_int s' k t) HT.noFill_tuple_mul F.fills_int_mul F.slot_int_rmul HT.repeat_tuple F.slot_int_index.lookup
   (call_meets F.slot_int_rmul (typeIs_int s k t) F.entry_int_rmul (F.args_int_rmul_2 _ _) (HT.rmul_int_tuple k t l its.toArray n dd sl) ⟨ho,rfl,⟨_,ho,rfl⟩,hgo⟩)
 refine road ?_
 by_cases k1:k=1
 ·subst k1
  exact call_meets PySem.F.slot_tuple_mul ⟨_,ho,rfl⟩ PySem.F.entry_tuple_mul (PySem.F.args_tuple_mul_2 _ _) (HT.tuple_mulW1 l its.toArray n dd sl t) ⟨ho,⟨.ref l,H,I,rfl,q1 rfl⟩⟩
 ·by_cases k0:k≤0
  ·refine call_meets PySem.F.slot_tuple_mul ⟨_,ho,rfl⟩ PySem.F.entry_tuple_mul (PySem.F.args_tuple_mul_2 _ _) (HT.tuple_mulW0 l its.toArray n dd sl k t h1 k0 hne') ⟨ho,?_⟩
   have e:(List.replicate k.toNat xs).flatten=[]:=by rw [show k.toNat=0 by lia];rfl
   have q:=q2 k1
   rw [e] at q
   refine ⟨.ref s.heap.objs.size,_,I.laid (t':=s.toks) (o:=.tup []) (fun b ob q=>Heap.get?_push_of_some _ q) (Nat.le_refl _) ?_,rfl,q _ (I.hok.fresh (Nat.le_refl _))⟩
   exact ⟨Nat.zero_le _,[],.nil,IsTup.new _ _,TupN.new _ _⟩
  ·have f0:List.foldl (fun x1 x2=>x1++x2) #[] (List.replicate k.toNat its.toArray)=(List.replicate k.toNat its).flatten.toArray:=by
    have:=foldl_rep its k.toNat []
    rw [List.nil_append] at this
    exact this
   have hsz:(List.replicate k.toNat its).flatten.length≤sizeLine:=by rw [len_rep,hlen,Nat.mul_comm];exact hz
   refine call_meets PySem.F.slot_tuple_mul ⟨_,ho,rfl⟩ PySem.F.entry_tuple_mul (PySem.F.args_tuple_mul_2 _ _) (HT.tuple_mulW l its.toArray n dd sl k t (by lia) h2 hne' ?_ (by rw [f0,List.size_toArray];exact hsz)) ⟨ho,?_⟩
   ·rw [List.size_toArray,hlen]
    have:((xs.length*k.toNat:Nat):Int)≤(sizeLine:Int):=Int.ofNat_le.mpr hz
    rw [Int.natCast_mul,Int.toNat_of_nonneg (by lia)] at this
    exact this
   ·rw [f0]
    refine ⟨.ref s.heap.objs.size,_,I.laid (t':=s.toks) (o:=.tup (List.replicate k.toNat xs).flatten) (fun b ob q=>Heap.get?_push_of_some _ q) (Nat.le_refl _) ?_,rfl,q2 k1 _ (I.hok.fresh (Nat.le_refl _))⟩
    exact ⟨by rw [len_rep,Nat.mul_comm];exact hz,_,r.rep k.toNat,IsTup.new _ _,TupN.new _ _⟩
end
theorem WV_ {K:Fg} {F:Hp} {vs:List V} {ds:List D} (r:RepL K F vs ds) (n:Nat):RepL K F (List.replicate n vs).flatten (List.replicate n ds).flatten:=by
 induction n with
 | zero=>exact .nil
 | succ n ih=>rw [List.replicate_succ,List.replicate_succ,List.flatten_cons,List.flatten_cons];exact r.append ih
theorem zaz_ {K:Fg}:OpD K (zbF_ K) yB_:=by
 intro G F σ H ρ x y dx dy res Q S ox oy e k
 unfold yB_ at e
 split at e
 ·rename_i a r j
  split at e
  ·rename_i hc
   cases e
   simp only [Bool.and_eq_true,decide_eq_true_eq] at hc
   obtain ⟨l,vs,rfl,h1,h2⟩:=ox.tuple S.fh
   have hne:vs≠[]:=by cases h2;simp
   refine ⟨l,j,vs,rfl,oy.int,h1,hne,hc.1.1,hc.1.2,by rw [h2.length];exact hc.2,fun j1=>?_,fun j1 p hp=>?_⟩
   ·subst j1
    refine k _ F H (Same.refl _) S ?_
    have:(List.replicate (1:Int).toNat (a::r)).flatten=a::r:=by simp
    rw [this]
    exact ox.tup'
   ·obtain ⟨s2,S2,r2⟩:=S.newTup hp (WV_ h2 j.toNat)
    exact k _ _ _ s2 S2 r2
  ·cases e
 ·cases e
end L4
set_option Elab.async false
set_option linter.all false
set_option maxRecDepth 100000
namespace PySem
open Sem (wp)
open AutoSeq1 (wpAny_loadPart')
section
variable {prog:Program} {w:World} {A:Around} {E:Value→Shared→Prop} {s:Shared}
theorem yQ_ {it t:Addr} {i:Nat} {items} {x:Value} {Q:Value→Shared→Prop} (hit:s.heap.IsTupleIter it t i)
  (ht:s.heap.IsTuple t items) (hx:items[i]? = some x)
  (hQ:∀ h',h'.IsTupleIter it t (i+1)→Heap.SameBut it s.heap h'→Q x { s with heap:=h' }) :
  wpAny (model prog w) A (Builtin.SmallTypes.nextOf (.ref it)) Q E s:=by
 obtain ⟨o,ho,hc,hd⟩:=id hit
 obtain ⟨ol,hol,_,nl,hdl⟩:=ht
 unfold Builtin.SmallTypes.nextOf
 refine wpAny_bind (wpAny_callSpecial?_slot (name:=Str.ofString "__next__") hit.typeIs F.slot_tuple_iterator_next
  (wpAny_call_entry F.slot_tuple_iterator_next hit.typeIs F.entry_tuple_iterator_next ?_ (F.args_tuple_iterator_next_1 _)))
 show wpAny _ _ (field (.ref it) 0 >>= _) _ _ s
 refine wpAny_bind (wpAny_field ho hd (x:=.ref t) rfl ?_)
 show wpAny _ _ (if (Value.ref t==Value.none)=true then _ else _) _ _ s
 rw [if_neg (show ¬ ((Value.ref t==Value.none)=true) from Bool.false_ne_true)]
 show wpAny _ _ (field (.ref it) 1 >>= _) _ _ s
 refine wpAny_bind (wpAny_field ho hd (x:=.int i 0) rfl ?_)
 show wpAny _ _ (seqItems? (.ref t) >>= _) _ _ s
 refine wpAny_bind (wpAny_seqItems hol hdl ?_)
 simp only [Int.toNat_natCast,hx]
 refine wpAny_bind (wpAny_setField ho hd (by simp) (wpAny_pure ⟨x,rfl,wpAny_pure (hQ _ ?_ (Heap.SameBut.update ..))⟩))
 exact ⟨_,Heap.get?_update_self _ ho (Obj.isFreed_of_fields (Obj.data_mapFields hd _)),(Obj.cls_mapFields ..).trans hc,by
  rw [Obj.data_mapFields hd];simp [rawInt]⟩
theorem UI_ {it t:Addr} {i:Nat} {items} {Q:Value→Shared→Prop} (hh:A.handled=none)
  (hit:s.heap.IsTupleIter it t i) (ht:s.heap.IsTuple t items) (hx:items[i]? = none)
  (hE:∀ h' e,Heap.ExtBut it s.heap h'→(∃ o,h'.get? e=some o∧o.cls=.type "StopIteration")→E (.ref e) { s with heap:=h' }) :
  wpAny (model prog w) A (Builtin.SmallTypes.nextOf (.ref it)) Q E s:=by
 obtain ⟨o,ho,hc,hd⟩:=id hit
 obtain ⟨ol,hol,_,nl,hdl⟩:=ht
 unfold Builtin.SmallTypes.nextOf
 refine wpAny_bind (wpAny_callSpecial?_slot (name:=Str.ofString "__next__") hit.typeIs F.slot_tuple_iterator_next
  (wpAny_call_entry F.slot_tuple_iterator_next hit.typeIs F.entry_tuple_iterator_next ?_ (F.args_tuple_iterator_next_1 _)))
 show wpAny _ _ (field (.ref it) 0 >>= _) _ _ s
 refine wpAny_bind (wpAny_field ho hd (x:=.ref t) rfl ?_)
 show wpAny _ _ (if (Value.ref t==Value.none)=true then _ else _) _ _ s
 rw [if_neg (show ¬ ((Value.ref t==Value.none)=true) from Bool.false_ne_true)]
 show wpAny _ _ (field (.ref it) 1 >>= _) _ _ s
 refine wpAny_bind (wpAny_field ho hd (x:=.int i 0) rfl ?_)
 show wpAny _ _ (seqItems? (.ref t) >>= _) _ _ s
 refine wpAny_bind (wpAny_seqItems hol hdl ?_)
 simp only [Int.toNat_natCast,hx]
 refine wpAny_bind (wpAny_rule (wpAny_bind (wpAny_setField ho hd (by simp) ?_)))
 first
  | (show wpAny _ _ (newExc (.type "StopIteration") [] >>= _) _ _ _
     refine wpAny_bind ?_
     simp only [newExc,newTuple]
     refine wpAny_bind (wpAny_newObj_type ?_ (by size_fits))
     refine wpAny_bind (m:=firstArgMember _ _) (wpAny_of_eq (a:=Value.none) (by first|rfl|(simp only [firstArgMember];rfl)) ?_)
     refine wpAny_newObj_type ?_ (by size_fits)
     simp only [raiseNew]
     refine wpAny_bind (wpAny_handled ?_)
     first|rw [show A.in1.handled=none from hh]|rw [hh]
     refine wpAny_bind (wpAny_pure (wpAny_throw ?_))
     exact hE _ _ (((Heap.SameBut.update ..).extBut.push _).push _) ⟨_,Heap.get?_push_size _ rfl,rfl⟩)
  | (refine wpAny_bind (wpAny_letGo ?_)
     show wpAny _ _ (newExc (.type "StopIteration") [] >>= _) _ _ _
     refine wpAny_bind ?_
     simp only [newExc,newTuple]
     refine wpAny_bind (wpAny_newObj_type ?_ (by size_fits))
     refine wpAny_bind (m:=firstArgMember _ _) (wpAny_of_eq (a:=Value.none) (by first|rfl|(simp only [firstArgMember];rfl)) ?_)
     refine wpAny_newObj_type ?_ (by size_fits)
     simp only [raiseNew]
     refine wpAny_bind (wpAny_handled ?_)
     first|rw [show A.in1.handled=none from hh]|rw [hh]
     refine wpAny_bind (wpAny_pure (wpAny_throw ?_))
     exact hE _ _ (((Heap.SameBut.update ..).extBut.push _).push _) ⟨_,Heap.get?_push_size _ rfl,rfl⟩)
structure Zt (h:Heap) (z p q i1 i2 l1 l2:Addr) (f0 u v:Value) (k1 k2:Nat):Prop where
 z0:IsZip h z p q f0
 p0:IsPair h p (.ref i1) (.ref i2)
 q0:IsPair h q u v
 a0:h.IsTupleIter i1 l1 k1
 b0:h.IsTupleIter i2 l2 k2
theorem Vd_ {z p q i1 i2 l1 l2:Addr} {k:Nat} {xs ys:Array Value} {x y u v:Value} {Q:Value→Shared→Prop} (D:ZipApart z p q i1 i2 l1 l2)
  (T:Zt s.heap z p q i1 i2 l1 l2 .none u v k k) (e1:s.heap.IsTuple l1 xs) (e2:s.heap.IsTuple l2 ys) (hx:xs[k]? = some x) (hy:ys[k]? = some y)
  (hQ:∀ h',Zt h' z p q i1 i2 l1 l2 (rawInt s.heap.objs.size) x y (k+1) (k+1)→IsPair h' s.heap.objs.size x y →
   (∀ c o,c≠z→c≠q→c≠i1→c≠i2→s.heap.get? c=some o→h'.get? c=some o)→Q (.ref s.heap.objs.size) { s with heap:=h' }) :
  wpAny (model prog w) A (Builtin.«zip.__next__» ⟨[.ref z],[]⟩) (fun fin s'=>∃ r,fin=.done (.ret r)∧Q r s') E s:=by
 have z0:=T.z0
 show wpAny _ _ (field (.ref z) 2 >>= _) _ _ _
 refine wpAny_bind (wpAny_field z0 rfl (x:=.bool false) rfl ?_)
 show wpAny _ _ (field (.ref z) 3 >>= _) _ _ _
 refine wpAny_bind (wpAny_field z0 rfl (x:=.ref p) rfl (wpAny_bind (wpAny_seqItems T.p0 rfl ?_)))
 show wpAny _ _ (Builtin.SmallTypes.ownedTupleIsFree (.ref z) >>= _) _ _ _
 refine wpAny_bind ?_
 unfold Builtin.SmallTypes.ownedTupleIsFree
 refine wpAny_bind (wpAny_field z0 rfl (x:=.none) rfl (wpAny_pure ?_))
 simp only [if_true]
 refine wpAny_bind (wpAny_rule (wpAny_bind (wpAny_field z0 rfl (x:=.ref q) rfl ?_)))
 refine wpAny_bind (wpAny_setField_rec z0 (by simp) fun g1 (z1:IsZip g1 z p q .ellipsis) (m1:Heap.SameBut z s.heap g1)=>wpAny_bind ?_)
 simp only [List.zipIdx_cons,List.zipIdx_nil,List.forIn_cons,List.forIn_nil]
 refine wpAny_bind (wpAny_bind (wpAny_onRaise ?_))
 show wpAny _ _ (Builtin.SmallTypes.nextOf (.ref i1) >>= _) _ _ _
 refine wpAny_bind (yQ_ (T.a0.at fun o e=>m1.extBut _ _ D.i1z e) (e1.extBut m1.extBut D.l1z) hx fun g2 a2 (m2:Heap.SameBut i1 g1 g2)=>wpAny_pure ?_)
 have q2:IsPair g2 q u v:=m2.extBut _ _ D.TOi1 (m1.extBut _ _ D.TOz T.q0)
 refine wpAny_bind (wpAny_seqItems q2 rfl (wpAny_bind (wpAny_updateSeq_pair q2 fun g3 (q3:IsPair g3 q x v) (m3:Heap.SameBut q g2 g3)=>wpAny_bind (wpAny_letGo (wpAny_pure ?_)))))
 refine wpAny_bind (wpAny_bind (wpAny_onRaise ?_))
 show wpAny _ _ (Builtin.SmallTypes.nextOf (.ref i2) >>= _) _ _ _
 refine wpAny_bind (yQ_ (T.b0.at fun o e=>m3.extBut _ _ D.TOi2.symm (m2.extBut _ _ D.i12.symm (m1.extBut _ _ D.i2z e)))
  (((e2.extBut m1.extBut D.l2z).extBut m2.extBut D.l2i1).extBut m3.extBut D.l2TO) hy fun g4 b4 (m4:Heap.SameBut i2 g3 g4)=>wpAny_pure ?_)
 have q4:IsPair g4 q x v:=m4.extBut _ _ D.TOi2 q3
 refine wpAny_bind (wpAny_seqItems q4 rfl (wpAny_bind (wpAny_updateSeq_pair q4 fun g5 (q5:IsPair g5 q x y) (m5:Heap.SameBut q g4 g5)=>wpAny_bind (wpAny_letGo (wpAny_pure (wpAny_pure ?_))))))
 refine wpAny_bind (wpAny_seqItems q5 rfl (wpAny_bind (wpAny_newTuple ?_)))
 have sz:g5.objs.size=s.heap.objs.size:=by rw [m5.1,m4.1,m3.1,m2.1,m1.1]
 have z5:IsZip g5 z p q .ellipsis:=m5.extBut _ _ D.TOz.symm (m4.extBut _ _ D.i2z.symm (m3.extBut _ _ D.TOz.symm (m2.extBut _ _ D.i1z.symm z1)))
 have k5:∀ c o,c≠z→c≠q→c≠i1→c≠i2→s.heap.get? c=some o→g5.get? c=some o:=fun c o c1 c2 c3 c4 e =>
  m5.extBut _ _ c2 (m4.extBut _ _ c4 (m3.extBut _ _ c2 (m2.extBut _ _ c3 (m1.extBut _ _ c1 e))))
 have a5:g5.IsTupleIter i1 l1 (k+1):=a2.at fun o e=>m5.extBut _ _ D.TOi1.symm (m4.extBut _ _ D.i12 (m3.extBut _ _ D.TOi1.symm e))
 have b5:g5.IsTupleIter i2 l2 (k+1):=b4.at fun o e=>m5.extBut _ _ D.TOi2.symm e
 have lz:z<g5.objs.size:=Heap.lt_size z5
 show wpAny _ _ (Builtin.SmallTypes.ownedTupleHandOut (.ref z) (.ref g5.objs.size) >>= _) _ _ _
 refine wpAny_bind ?_
 unfold Builtin.SmallTypes.ownedTupleHandOut
 have z6:IsZip (g5.push { cls:=.type "tuple",data:=.seq #[x,y] }) z p q .ellipsis:=Heap.get?_push_of_some _ z5
 refine wpAny_bind (wpAny_setField_rec z6 (by simp) fun g7 (z7:IsZip g7 z p q (rawInt g5.objs.size)) m7=>?_)
 refine wpAny_setField_rec z7 (by simp) fun g8 (z8:IsZip g8 z p q (rawInt g5.objs.size)) m8=>?_
 have up:∀ c o,c≠z→g5.get? c=some o→g8.get? c=some o:=fun c o c1 e=>m8.extBut _ _ c1 (m7.extBut _ _ c1 (Heap.get?_push_of_some _ e))
 have t8:IsPair g8 g5.objs.size x y:=m8.extBut _ _ (Nat.ne_of_gt lz) (m7.extBut _ _ (Nat.ne_of_gt lz) (Heap.get?_push_size _ rfl))
 rw [sz] at z8 t8
 refine wpAny_pure ⟨_,rfl,?_⟩
 show Q (.ref g5.objs.size) _
 rw [sz]
 exact hQ g8 ⟨z8,up _ _ D.TIz (k5 _ _ D.TIz D.TITO D.TIi1 D.TIi2 T.p0),up _ _ D.TOz q5,a5.at fun o e=>up _ o D.i1z e,b5.at fun o e=>up _ o D.i2z e⟩ t8 fun c o c1 c2 c3 c4 e=>up c o c1 (k5 c o c1 c2 c3 c4 e)
theorem WL_ {z p q i1 i2 l1 l2:Addr} {k:Nat} {xs ys:Array Value} {u v:Value} {Q:Fin→Shared→Prop} (hh:A.handled=none) (D:ZipApart z p q i1 i2 l1 l2)
  (T:Zt s.heap z p q i1 i2 l1 l2 .none u v k k) (e1:s.heap.IsTuple l1 xs) (e2:s.heap.IsTuple l2 ys) (en:xs[k]? = none∨ys[k]? = none)
  (hE:∀ h' e,(∀ c o,c≠z→c≠q→c≠i1→c≠i2→s.heap.get? c=some o→h'.get? c=some o)→(∃ o,h'.get? e=some o∧o.cls=.type "StopIteration")→E (.ref e) { s with heap:=h' }) :
  wpAny (model prog w) A (Builtin.«zip.__next__» ⟨[.ref z],[]⟩) Q E s:=by
 have z0:=T.z0
 show wpAny _ _ (field (.ref z) 2 >>= _) _ _ _
 refine wpAny_bind (wpAny_field z0 rfl (x:=.bool false) rfl ?_)
 show wpAny _ _ (field (.ref z) 3 >>= _) _ _ _
 refine wpAny_bind (wpAny_field z0 rfl (x:=.ref p) rfl (wpAny_bind (wpAny_seqItems T.p0 rfl ?_)))
 show wpAny _ _ (Builtin.SmallTypes.ownedTupleIsFree (.ref z) >>= _) _ _ _
 refine wpAny_bind ?_
 unfold Builtin.SmallTypes.ownedTupleIsFree
 refine wpAny_bind (wpAny_field z0 rfl (x:=.none) rfl (wpAny_pure ?_))
 simp only [if_true]
 refine wpAny_bind (wpAny_rule (wpAny_bind (wpAny_field z0 rfl (x:=.ref q) rfl ?_)))
 refine wpAny_bind (wpAny_setField_rec z0 (by simp) fun g1 (z1:IsZip g1 z p q .ellipsis) (m1:Heap.SameBut z s.heap g1)=>wpAny_bind ?_)
 simp only [List.zipIdx_cons,List.zipIdx_nil,List.forIn_cons,List.forIn_nil]
 refine wpAny_bind (wpAny_bind (wpAny_onRaise ?_))
 show wpAny _ _ (Builtin.SmallTypes.nextOf (.ref i1) >>= _) _ _ _
 have a1:g1.IsTupleIter i1 l1 k:=T.a0.at fun o e=>m1.extBut _ _ D.i1z e
 cases hx:xs[k]? with
 | none =>
  refine wpAny_bind (UI_ hh a1 (e1.extBut m1.extBut D.l1z) hx fun g2 e (m2:Heap.ExtBut i1 g1 g2) ⟨oe,ho,hc⟩=>?_)
  have z2:IsZip g2 z p q .ellipsis:=m2 _ _ D.i1z.symm z1
  have ne:e≠z:=fun x=>by subst x;rw [z2] at ho;cases ho;simp at hc
  exact wpAny_setField_rec z2 (by simp) fun g3 _ m3=>hE g3 e (fun c o c1 _ c3 _ x=>m3.extBut _ _ c1 (m2 _ _ c3 (m1.extBut _ _ c1 x))) ⟨oe,m3.extBut _ _ ne ho,hc⟩
 | some x =>
  have hy:ys[k]? = none:=by rcases en with h|h;rw [hx] at h;cases h;exact h
  refine wpAny_bind (yQ_ a1 (e1.extBut m1.extBut D.l1z) hx fun g2 a2 (m2:Heap.SameBut i1 g1 g2)=>wpAny_pure ?_)
  have q2:IsPair g2 q u v:=m2.extBut _ _ D.TOi1 (m1.extBut _ _ D.TOz T.q0)
  refine wpAny_bind (wpAny_seqItems q2 rfl (wpAny_bind (wpAny_updateSeq_pair q2 fun g3 (q3:IsPair g3 q x v) (m3:Heap.SameBut q g2 g3)=>wpAny_bind (wpAny_letGo (wpAny_pure ?_)))))
  refine wpAny_bind (wpAny_bind (wpAny_onRaise ?_))
  show wpAny _ _ (Builtin.SmallTypes.nextOf (.ref i2) >>= _) _ _ _
  refine wpAny_bind (UI_ hh (T.b0.at fun o e=>m3.extBut _ _ D.TOi2.symm (m2.extBut _ _ D.i12.symm (m1.extBut _ _ D.i2z e)))
   (((e2.extBut m1.extBut D.l2z).extBut m2.extBut D.l2i1).extBut m3.extBut D.l2TO) hy fun g4 e (m4:Heap.ExtBut i2 g3 g4) ⟨oe,ho,hc⟩=>?_)
  have z4:IsZip g4 z p q .ellipsis:=m4 _ _ D.i2z.symm (m3.extBut _ _ D.TOz.symm (m2.extBut _ _ D.i1z.symm z1))
  have ne:e≠z:=fun x=>by subst x;rw [z4] at ho;cases ho;simp at hc
  exact wpAny_setField_rec z4 (by simp) fun g5 _ m5=>hE g5 e (fun c o c1 c2 c3 c4 x=>m5.extBut _ _ c1 (m4 _ _ c4 (m3.extBut _ _ c2 (m2.extBut _ _ c3 (m1.extBut _ _ c1 x))))) ⟨oe,m5.extBut _ _ ne ho,hc⟩
noncomputable abbrev zT1 (h:Heap) (l1:Addr):Heap:=h.push { cls:=.type "tuple_iterator",data:=.fields #[.ref l1,.int 0 0] }
noncomputable abbrev zT2 (h:Heap) (l1 l2:Addr):Heap:=(zT1 h l1).push { cls:=.type "tuple_iterator",data:=.fields #[.ref l2,.int 0 0] }
noncomputable abbrev zT3 (h:Heap) (l1 l2:Addr):Heap:=(zT2 h l1 l2).push { cls:=.type "tuple",data:=.seq #[.ref h.objs.size,.ref (zT1 h l1).objs.size] }
noncomputable abbrev zT4 (h:Heap) (l1 l2:Addr):Heap:=(zT3 h l1 l2).push { cls:=.type "tuple",data:=.seq #[.none,.none] }
noncomputable abbrev zT5 (h:Heap) (l1 l2:Addr):Heap:=(zT4 h l1 l2).push { cls:=.type "zip",data:=.fields #[.none,.bool false,.bool false,.ref (zT2 h l1 l2).objs.size,.ref (zT3 h l1 l2).objs.size] }
theorem WK_ (l1 l2:Addr) (xs ys:Array Value) :
  Meets (Builtin.«zip.__new__» ⟨[.type "zip",.ref l1,.ref l2],[]⟩) (fun _ R s=>s.heap.IsTuple l1 xs∧s.heap.IsTuple l2 ys ∧
   R (.ok (.ret (.ref (zT4 s.heap l1 l2).objs.size))) { s with heap:=zT5 s.heap l1 l2 }) :=
 .of_wp fun prog w A R s h=>by
  obtain ⟨hp,g,d,tk,os⟩:=s;obtain ⟨e1,e2,h⟩:=h
  have hsub:=sub_zip
  have L1:Heap.IsTuple (Shared.heap ⟨hp,g,d,tk,os⟩) l1 xs:=e1
  have L2:Heap.IsTuple (Shared.heap ⟨hp.push { cls:=.type "tuple_iterator",data:=.fields #[.ref l1,.int 0 0] },g,d,tk,os⟩) l2 ys:=by
   obtain ⟨o,ho,r⟩:=e2
   exact ⟨o,Heap.get?_push_of_some _ ho,r⟩
  wp_walk using wpAny_pyIter_tuple L1,wpAny_pyIter_tuple L2
  exact ⟨_,rfl,h⟩
theorem Ve_ {l1 l2:Addr} {xs ys:Array Value} {Q:Value→Shared→Prop} (e1:s.heap.IsTuple l1 xs) (e2:s.heap.IsTuple l2 ys)
  (h:∀ h',Zt h' (s.heap.objs.size+4) (s.heap.objs.size+2) (s.heap.objs.size+3) s.heap.objs.size (s.heap.objs.size+1) l1 l2 .none .none .none 0 0 →
   (∀ c o,s.heap.get? c=some o→h'.get? c=some o)→Q (.ref (s.heap.objs.size+4)) { s with heap:=h' }) :
  wpAny (model prog w) A (call (.type "zip") [.ref l1,.ref l2]) Q E s:=by
 refine callType_new F.called_zip (by decide) (F.typeCall_zip_2 _ _) (F.newCall_zip_2 _ _) (fun obj=>F.args_object_init_3 obj _ _) F.entry_zip_new
  (WK_ l1 l2 xs ys) ⟨e1,e2,?_⟩
 have y1:(zT1 s.heap l1).objs.size=s.heap.objs.size+1:=Heap.size_push ..
 have y2:(zT2 s.heap l1 l2).objs.size=s.heap.objs.size+2:=by rw [Heap.size_push,y1]
 have y3:(zT3 s.heap l1 l2).objs.size=s.heap.objs.size+3:=by rw [Heap.size_push,y2]
 have y4:(zT4 s.heap l1 l2).objs.size=s.heap.objs.size+4:=by rw [Heap.size_push,y3]
 have g5:(zT5 s.heap l1 l2).get? (zT4 s.heap l1 l2).objs.size=some _:=Heap.get?_push_size _ rfl
 have g4:(zT5 s.heap l1 l2).get? (zT3 s.heap l1 l2).objs.size=some _:=Heap.get?_push_of_some _ (Heap.get?_push_size _ rfl)
 have g3:(zT5 s.heap l1 l2).get? (zT2 s.heap l1 l2).objs.size=some _:=Heap.get?_push_of_some _ (Heap.get?_push_of_some _ (Heap.get?_push_size _ rfl))
 have g2:(zT5 s.heap l1 l2).get? (zT1 s.heap l1).objs.size=some _:=Heap.get?_push_of_some _ (Heap.get?_push_of_some _ (Heap.get?_push_of_some _ (Heap.get?_push_size _ rfl)))
 have g1:(zT5 s.heap l1 l2).get? s.heap.objs.size=some _:=Heap.get?_push_of_some _ (Heap.get?_push_of_some _ (Heap.get?_push_of_some _ (Heap.get?_push_of_some _ (Heap.get?_push_size _ rfl))))
 show _∧_
 rw [y2,y3,y4] at g5
 rw [y1,y2] at g3
 rw [y3] at g4
 rw [y1] at g2
 rw [y4]
 exact ⟨⟨_,g5,rfl⟩,h _ ⟨g5,g3,g4,⟨_,g1,rfl,rfl⟩,⟨_,g2,rfl,rfl⟩⟩ fun c o x=>Heap.get?_push_of_some _ (Heap.get?_push_of_some _ (Heap.get?_push_of_some _ (Heap.get?_push_of_some _ (Heap.get?_push_of_some _ x))))⟩
end
end PySem
set_option Elab.async false
set_option linter.all false
set_option maxRecDepth 100000
namespace L4
open PySem PySem.Spec PyProof.Rows L2 L3
noncomputable def Itz (K:Fg) (a b:Addr):It :=
 ⟨fun i H=>∃ xs x ys y,SqT K H a xs∧xs[i]? = some x∧SqT K H b ys∧ys[i]? = some y,
  fun i H r H'=>∃ p x y,(∀ xs,SqT K H a xs→xs[i]? = some x)∧(∀ ys,SqT K H b ys→ys[i]? = some y)∧H p=none∧r=.ref p∧H'=upd H p (.tup [x,y]),
  fun i H=>∃ xs ys,SqT K H a xs∧SqT K H b ys∧(xs.length≤i∨ys.length≤i)⟩
theorem Yx_ {X:Cx} {pins:List (Addr×Obj)} {σ:L2.St} {H:Hp} {s:Shared} {h':Heap} {t':Nat} {fp:List Addr} (I:Inv X pins σ H s) (hf:∀ b∈fp,FpOk X pins H b)
  (k:∀ b o,b∉fp→s.heap.get? b=some o→h'.get? b=some o):Inv X pins σ H { s with heap:=h',toks:=t' }:=by
 have nit:∀ b u,H b=some u→b∉fp:=fun b u e z=>by rw [(hf b z).1] at e;cases e
 refine I.step (g':=s.gens) (d':=s.drawn) (ch:=fp) (fun b hb=>?_) (fun b o _ _ hc e _=>k b o hc e) (fun b o _ _ hc e _=>⟨o.slots,k b o hc e⟩) (fun _ _ _ _ n=>n)
  (fun b o hc e=>⟨o,k b o hc e⟩) (fun _ _ e=>e) (fun _ _ _ e=>e) (fun b ps e=>⟨#[],by rw [e];simp⟩) (fun m hm=>?_) (fun b u e=>?_) I.bare
 ·obtain ⟨f0,f1,f2,f3,f4,f5⟩:=hf b hb
  exact ⟨f3,f1,f4,f5⟩
 ·obtain ⟨o,es,ep,ho,r⟩:=hm
  exact ⟨o,es,ep,k _ o (fun z=>(hf _ z).2.1 rfl) ho,r⟩
 ·refine (I.hok b u e).stay (fun c v hc q=>k c v ?_ q) (fun _ q=>q) fun _ _ q=>q
  rcases hc with z|z
  ·rw [z];exact nit b u e
  ·exact nit c _ z
theorem W8_ {X:Cx} {pins:List (Addr×Obj)} {σ:L2.St} {H:Hp} {s:Shared} {ch:List Addr} {x y:V} {x' y':Value} {t:Nat} {h2:Heap} (I:Inv X pins σ H s) (hf:∀ c∈ch,FpOk X pins H c) (ru:RelV x x') (ru2:RelV y y')
  (keep2:∀ c o,c∉ch→s.heap.get? c=some o→h2.get? c=some o) (tup2:h2.get? s.heap.objs.size=some { cls:=.type "tuple",data:=.seq #[x',y'] }) :
  Inv X pins σ (upd H s.heap.objs.size (.tup [x,y])) { s with heap:=h2,toks:=t }:=by
 have fr:=I.fresh
 have nit:∀ c o,H c=some o→c∉ch:=fun c o e m=>by rw [(hf c m).1] at e;cases e
 have hok:HOk X.prog X.w (upd H s.heap.objs.size (.tup [x,y])) h2:=fun c ob e=>by
  by_cases hb:c=s.heap.objs.size
  ·subst hb
   rw [zy_] at e
   cases e
   exact ⟨by show 2≤sizeLine;decide,[x',y'],.cons ru (.cons ru2 .nil),⟨_,tup2,rfl,_,rfl⟩,⟨_,tup2,rfl⟩⟩
  ·rw [zp_ hb] at e
   refine (I.hok c ob e).stay (fun c' v' hc' e'=>?_) (fun c' e'=>by rw [zp_ (zq_ e' fr)];exact e') fun c' ys e'=>by rw [zp_ (zq_ e' fr)];exact e'
   rcases hc' with z'|z'
   ·rw [z'] at e' ⊢;exact keep2 c v' (nit c ob e) e'
   ·exact keep2 c' v' (nit c' _ z') e'
 refine I.step (g':=s.gens) (d':=s.drawn) (t':=t) (h':=h2) (ch:=ch) (fun c hc=>?_) (fun c o _ _ hch e _=>keep2 c o hch e) (fun c o _ _ hch e _=>⟨o.slots,keep2 c o hch e⟩)
  (fun c o _ e n=>by rw [zp_ (Nat.ne_of_lt (Heap.lt_size e))];exact n) (fun c o hch e=>⟨o,keep2 c o hch e⟩)
  (fun c ys e=>by rw [zp_ (zq_ e fr)];exact e) (fun c o u' e=>by rw [zp_ (zq_ e fr)];exact e) (fun c ps e=>⟨#[],by rw [zp_ (zq_ e fr),e];simp⟩) (fun m hm=>?_) hok I.bare
 ·obtain ⟨f0,f1,f2,f3,f4,f5⟩:=hf c hc
  exact ⟨f3,f1,f4,f5⟩
 ·obtain ⟨o,es,ep,ho',r⟩:=hm
  exact ⟨o,es,ep,keep2 _ o (fun m=>(hf _ m).2.1 rfl) ho',r⟩
theorem WR_ {P:Program} {w:World} {K:Fg} {elts:List Expr} {x1:Nat} {pos:Pos} (a b z p q i1 i2:Addr) (D:ZipApart z p q i1 i2 a b) :
  Turn P w K (.Tuple elts x1 pos) (Itz K a b) [z,p,q,i1,i2] z (fun i h=>∃ u v,Zt h z p q i1 i2 a b .none u v i i) where
 mem:=by simp
 obj:=fun i h ⟨u,v,T⟩ c hc=>by
  simp only [List.mem_cons,List.not_mem_nil,or_false] at hc
  rcases hc with rfl|rfl|rfl|rfl|rfl
  ·exact ⟨_,T.z0,fun v z=>nomatch z⟩
  ·exact ⟨_,T.p0,fun v z=>nomatch z⟩
  ·exact ⟨_,T.q0,fun v z=>nomatch z⟩
  ·obtain ⟨o,e1,c,d⟩:=T.a0
   exact ⟨o,e1,fun v z=>by rw [d] at z;cases z⟩
  ·obtain ⟨o,e1,c,d⟩:=T.b0
   exact ⟨o,e1,fun v z=>by rw [d] at z;cases z⟩
 keep:=fun i h h' ⟨u,v,T⟩ k=>⟨u,v,k z (by simp) _ T.z0,k p (by simp) _ T.p0,k q (by simp) _ T.q0,T.a0.at fun o e=>k i1 (by simp) o e,T.b0.at fun o e=>k i2 (by simp) o e⟩
 item:=by
  intro X hP hw hK hc i pins s σ H E I hf ⟨u,v,T⟩ hg
  subst hP hw hK
  obtain ⟨xs,x,ys,y,hq,hx,hq2,hy⟩:=hg
  obtain ⟨its,rv,pa,hz⟩:=I.tuple hq
  obtain ⟨jts,rv2,pb,hz2⟩:=I.tuple hq2
  obtain ⟨x',hu,ru⟩:=rv.get hx
  obtain ⟨y',hu2,ru2⟩:=rv2.get hy
  have hT:s.TypeIs (.ref z) "zip":=⟨_,T.z0,rfl⟩
  unfold pyNext
  refine wpAny_bind (wpAny_attempt (wpAny_callSpecial?_slot (name:=Str.ofString "__next__") hT F.slot_zip_next
   (wpAny_call_entry F.slot_zip_next hT F.entry_zip_next (Vd_ D T (show s.heap.IsTuple a its.toArray from pa) (show s.heap.IsTuple b jts.toArray from pb) (x:=x') (y:=y') (by simpa using hu) (by simpa using hu2) fun h1 T1 t1 k1=>wpAny_pure ?_) (F.args_zip_next_1 _))))
  refine ⟨_,rfl,wpAny_letOwnedTupleGo_zip T1.z0 fun h2 z2 (m2:Heap.SameBut z h1 h2)=>?_⟩
  have lt:∀ {c o},s.heap.get? c=some o→s.heap.objs.size≠c:=fun e=>Nat.ne_of_gt (Heap.lt_size e)
  have ltz:=lt T.z0
  have ltp:=lt T.p0
  have ltq:=lt T.q0
  have lt1:s.heap.objs.size≠i1:=by obtain ⟨_,e,_⟩:=T.a0;exact lt e
  have lt2:s.heap.objs.size≠i2:=by obtain ⟨_,e,_⟩:=T.b0;exact lt e
  have keep2:∀ c o,c∉[z,p,q,i1,i2]→s.heap.get? c=some o→h2.get? c=some o:=fun c o hc e=>by
   simp only [List.mem_cons,List.not_mem_nil,or_false,not_or] at hc
   exact m2.extBut _ _ hc.1 (k1 c o hc.1 hc.2.2.1 hc.2.2.2.1 hc.2.2.2.2 e)
  have tup2:h2.get? s.heap.objs.size=some { cls:=.type "tuple",data:=.seq #[x',y'] }:=m2.extBut _ _ ltz t1
  have I1:Inv X pins σ (upd H s.heap.objs.size (.tup [x,y])) { s with heap:=h2,toks:=s.toks }:=W8_ I hf ru ru2 keep2 tup2
  refine ⟨.ref s.heap.objs.size,_,I1,rfl,⟨_,x,y,fun ys' hy'=>by rw [I.tuple_inj hy' hq];exact hx,fun ys' hy'=>by rw [I.tuple_inj hy' hq2];exact hy,I.fresh,rfl,rfl⟩,
   ⟨x',y',z2,m2.extBut _ _ D.TIz T1.p0,m2.extBut _ _ D.TOz T1.q0,T1.a0.at fun o e=>m2.extBut _ _ D.i1z e,T1.b0.at fun o e=>m2.extBut _ _ D.i2z e⟩,fun c hc=>?_⟩
  have nc:c≠s.heap.objs.size:=by
   simp only [List.mem_cons,List.not_mem_nil,or_false] at hc
   rcases hc with rfl|rfl|rfl|rfl|rfl
   ·exact ltz.symm
   ·exact ltp.symm
   ·exact ltq.symm
   ·exact lt1.symm
   ·exact lt2.symm
  rw [zp_ nc]
  exact (hf c hc).1
 done:=by
  intro X hP hw hK hc i pins s σ H E I hf ⟨u,v,T⟩ hg
  subst hP hw hK
  obtain ⟨xs,ys,hq,hq2,hl⟩:=hg
  obtain ⟨its,rv,pa,hz⟩:=I.tuple hq
  obtain ⟨jts,rv2,pb,hz2⟩:=I.tuple hq2
  have l1:=rv.length
  have l2:=rv2.length
  have hT:s.TypeIs (.ref z) "zip":=⟨_,T.z0,rfl⟩
  unfold pyNext
  refine wpAny_bind (wpAny_attempt (wpAny_callSpecial?_slot (name:=Str.ofString "__next__") hT F.slot_zip_next
   (wpAny_call_entry F.slot_zip_next hT F.entry_zip_next (WL_ (I.ok.hd hc) D T (show s.heap.IsTuple a its.toArray from pa) (show s.heap.IsTuple b jts.toArray from pb)
    (hl.imp (fun h=>by simp;lia) (fun h=>by simp;lia)) fun h' e k he=>?_) (F.args_zip_next_1 _))))
  obtain ⟨o,ho,hcl⟩:=he
  refine wpAny_bind (wpAny_isInstance (T := "StopIteration") (b:=true) ⟨o,ho,hcl⟩ isSubtype_stop ?_)
  exact wpAny_pure ⟨rfl,Yx_ (t':=s.toks) I hf fun c o hc e=>by
   simp only [List.mem_cons,List.not_mem_nil,or_false,not_or] at hc
   exact k c o hc.1 hc.2.2.1 hc.2.2.2.1 hc.2.2.2.2 e⟩
 self:=fun _ _ _ _ _ ⟨u,v,T⟩ h=>wpAny_pyIter_zip T.z0 h
noncomputable def zipD (as bs:List D):List D:=List.zipWith (fun x y=>PyData.tuple [x,y]) as bs
theorem WO_ {K:Fg} {F:Hp} {a b:Addr} {vs ws:List V} {as bs:List D} (h:SqT K F a vs) (r:RepL K F vs as) (h2:SqT K F b ws) (r2:RepL K F ws bs):Walk K (Itz K a b) (zipD as bs) F where
 go:=fun i G F2 σ H2 ρ s S hi=>by
  simp only [zipD,List.length_zipWith] at hi
  have i1:i<vs.length:=by rw [r.length];lia
  have i2:i<ws.length:=by rw [r2.length];lia
  exact ⟨vs,vs[i],ws,ws[i],zU_ S.fh (zU_ s h),by simp [i1],zU_ S.fh (zU_ s h2),by simp [i2]⟩
 yld:=fun i G F2 σ H2 ρ x H3 d s S hd ⟨p,y,y',hy,hy',hp,hx,hH⟩=>by
  subst hx hH
  unfold zipD at hd
  rw [List.getElem?_zipWith] at hd
  cases e:as[i]? with
  | none=>rw [e] at hd;cases hd
  | some d1 =>
   cases e':bs[i]? with
   | none=>rw [e,e'] at hd;cases hd
   | some d2 =>
    rw [e,e'] at hd
    simp at hd
    subst hd
    obtain ⟨v,g1,g2⟩:=r.get e
    obtain ⟨v',g3,g4⟩:=r2.get e'
    have z1:=hy vs (zU_ S.fh (zU_ s h))
    have z2:=hy' ws (zU_ S.fh (zU_ s h2))
    rw [g1] at z1
    rw [g3] at z2
    cases z1
    cases z2
    obtain ⟨s2,S2,r2⟩:=S.newTup hp (RepL.cons (g2.mono s) (RepL.cons (g4.mono s) RepL.nil))
    exact ⟨_,s2,S2,r2⟩
 stop:=fun G F2 σ H2 ρ s S=>⟨vs,ws,zU_ S.fh (zU_ s h),zU_ S.fh (zU_ s h2),by
  rw [r.length,r2.length];simp only [zipD,List.length_zipWith];lia⟩
end L4
set_option Elab.async false
set_option linter.all false
set_option maxRecDepth 100000
namespace L4
open PySem PySem.Spec PyProof.Rows L2 L3
noncomputable def iZip (K:Fg) (tl:TA):TI:=fun σ H R=>tl σ H fun xs H1=>∃ a b,xs=[.ref a,.ref b]∧(∃ ys,SqT K H1 a ys)∧(∃ ys,SqT K H1 b ys)∧R (Itz K a b) H1
theorem zbR_ {X:Cx} {e1 e2:Expr} {tl:TA} {elts:List Expr} {x1:Nat} {tp p pos:Pos} (hg:Gl X "zip") (hm:X.mg "zip" = none) (ha:PA X [e1,e2] tl)
  (hs:starEach [e1,e2] X.env=[(false,eval e1 X.env),(false,eval e2 X.env)]) (hs2:starEach [e2] X.env=[(false,eval e2 X.env)]) :
  PI X (.Tuple elts x1 tp) (.Call (.Name "zip" p) [e1,e2] [] pos) (iZip X.K tl):=by
 intro pins s σ H R I h
 refine Call_ (Jt_ I hg hm (show bootBuiltins "zip" = some (.type "zip") by decide +kernel) (PyProof.Rows.callWith_type1 (thn (ha pos pins s σ H _ I h) fun us s1 ⟨vs,H1,I1,r1,q1⟩=>?_) (by rw [hs,hs2]) (by rw [hs2];rfl)) (by decide) (by decide))
 obtain ⟨a,b,rfl,⟨ys,hq⟩,⟨zs,hq2⟩,q⟩:=q1
 cases r1 with
 | cons r rr =>
  cases rr with
  | cons r' rr =>
   cases rr
   cases r
   cases r'
   obtain ⟨its,rv,pt,hz⟩:=I1.tuple hq
   obtain ⟨jts,rv2,pt2,hz2⟩:=I1.tuple hq2
   have la:a<s1.heap.objs.size:=by obtain ⟨o,e1,_⟩:=pt;exact Heap.lt_size e1
   have lb:b<s1.heap.objs.size:=by obtain ⟨o,e1,_⟩:=pt2;exact Heap.lt_size e1
   refine Ve_ (show s1.heap.IsTuple a its.toArray from pt) (show s1.heap.IsTuple b jts.toArray from pt2) fun h' T hk=>?_
   refine wpAny_pyIter_zip (s:={ s1 with heap:=h' }) T.z0 ?_
   refine ⟨s1.heap.objs.size+4,[s1.heap.objs.size+4,s1.heap.objs.size+2,s1.heap.objs.size+3,s1.heap.objs.size,s1.heap.objs.size+1],_,_,H1,rfl,I1.kept (t':=s1.toks) hk,WR_ a b _ _ _ _ _ (zipApart_new la lb),⟨_,_,T⟩,fun c hc=>?_,q⟩
   have:s1.heap.objs.size≤c:=by
    simp only [List.mem_cons,List.not_mem_nil,or_false] at hc
    rcases hc with rfl|rfl|rfl|rfl|rfl<;>simp
   exact I1.fpOk this (I1.hok.fresh this)
noncomputable def fZip:List D→Option (List D)
 | [.tuple as,.tuple bs]=>some (zipD as bs)
 | _=>none
section
variable {X:Cx} {tg e1 e2:Expr} {ps:(List D→M (List D))→Pu (List D)} {p pos tp:Pos} {elts:List Expr} {x1:Nat}
theorem zbh_ {F H:Hp} {vs:List V} {ds out:List D} {R:It→Hp→Prop} (s:Same F H) (r:RepL X.K F vs ds) (h:fZip ds=some out) (k:∀ J,Walk X.K J out F→R J H) :
  ∃ a b,vs=[.ref a,.ref b]∧(∃ ys,SqT X.K H a ys)∧(∃ ys,SqT X.K H b ys)∧R (Itz X.K a b) H:=by
 unfold fZip at h
 split at h
 ·cases h
  obtain ⟨v,u,rfl,r1,r2⟩:=r.two_inv
  obtain ⟨a,as,rfl,a1,a2⟩:=r1.tup_inv
  obtain ⟨b,bs,rfl,b1,b2⟩:=r2.tup_inv
  exact ⟨_,_,rfl,⟨_,SqT.of (s _ _ a1)⟩,⟨_,SqT.of (s _ _ b1)⟩,k _ (WO_ (SqT.of a1) a2 (SqT.of b1) b2)⟩
 ·cases h
theorem zcY_ {ps:Pa (List D)} (hg:Gl X "zip") (hm:X.mg "zip" = none) (ha:AA X [e1,e2] ps) (hs:starEach [e1,e2] X.env=[(false,eval e1 X.env),(false,eval e2 X.env)]) (hs2:starEach [e2] X.env=[(false,eval e2 X.env)]):AI X (.Tuple elts x1 tp) (.Call (.Name "zip" p) [e1,e2] [] pos) (VM_ fZip ps) :=
 fun G F σ H ρ R S w=>semI (zbR_ hg hm j7_ hs hs2) (ha G F σ H ρ _ _ _ S w fun ds vs F1 H1 s1 S1 _ r1 w1=>by
  obtain ⟨out,hd,k⟩:=w1.opt
  exact zbh_ S1.fh r1 hd (k F1 H1 (Same.refl _) S1))
end
end L4
set_option Elab.async false
set_option linter.all false
set_option maxRecDepth 100000
namespace L4
open PySem PySem.Spec PyProof.Rows L2 L3
noncomputable def u4_:D→Bool
 | .int _=>true
 | .str _=>true
 | _=>false
noncomputable def yk_:D→Bool
 | .tuple ds=>ds.all u4_
 | _=>false
noncomputable def V6_:D→D→Bool
 | .int i,.int j=>decide (i=j)
 | .str i,.str j=>decide (i=j)
 | _,_=>false
noncomputable def Yz_:List D→List D→Bool
 | [],[]=>true
 | a::r,b::t=>V6_ a b&&Yz_ r t
 | _,_=>false
noncomputable def keyQ:D→D→Bool
 | .tuple a,.tuple b=>Yz_ a b
 | a,b=>V6_ a b
noncomputable def keyOk (es:List (D×D)) (k:D):Bool:=(yk_ k&&es.all fun p=>yk_ p.1)||(u4_ k&&es.all fun p=>u4_ p.1)
theorem YB_ {es:List (D×D)} {k:D} (h:keyOk es k=true):isXe es=false:=by
 unfold isXe
 split
 ·simp [keyOk,yk_,u4_] at h
 ·simp [keyOk,yk_,u4_] at h
 ·rfl
noncomputable def getE (es:List (D×D)) (k:D):Option D:=(es.find? fun p=>keyQ p.1 k).map (·.2)
noncomputable def putE (es:List (D×D)) (k d:D):List (D×D):=if es.any (fun p=>keyQ p.1 k) then es.map (fun p=>if keyQ p.1 k then (p.1,d) else p) else es++[(k,d)]
theorem Qi_ (a b:Key):V6_ (keyD a) (keyD b)=decide (a=b):=by
 cases a<;>cases b<;>simp [V6_,keyD]
theorem Qh_:∀ (a b:List Key),Yz_ (a.map keyD) (b.map keyD)=decide (a=b)
 | [],[]=>by simp [Yz_]
 | [],_::_=>by simp [Yz_]
 | _::_,[]=>by simp [Yz_]
 | x::xs,y::ys=>by
  simp only [List.map_cons,Yz_,Qi_,Qh_ xs ys]
  by_cases h:x=y<;>by_cases g:xs=ys<;>simp [h,g]
theorem XO_ (a b:List Key):keyQ (keyT a) (keyT b)=decide (a=b):=Qh_ a b
theorem XP_ (a b:Key):keyQ (keyD a) (keyD b)=decide (a=b):=by
 have h:keyQ (keyD a) (keyD b)=V6_ (keyD a) (keyD b):=by cases a<;>cases b<;>rfl
 rw [h];exact Qi_ a b
theorem yG_ {d:D} (h:u4_ d=true):∃ k,d=keyD k:=by
 cases d<;>first|exact ⟨.inl _,rfl⟩|exact ⟨.inr _,rfl⟩|cases h
theorem Jv_:∀ {ds:List D},ds.all u4_=true→∃ k:List Key,ds=k.map keyD
 | [],_=>⟨[],rfl⟩
 | d::ds,h=>by
  rw [List.all_cons,Bool.and_eq_true] at h
  obtain ⟨k,rfl⟩:=yG_ h.1
  obtain ⟨ks,rfl⟩:=Jv_ h.2
  exact ⟨k::ks,rfl⟩
theorem ZJ_ {d:D} (h:yk_ d=true):∃ k,d=keyT k:=by
 cases d<;>first|cases h|skip
 obtain ⟨k,rfl⟩:=Jv_ h
 exact ⟨k,rfl⟩
theorem Xm_ (k:Key):yk_ (keyD k)=false:=by cases k<;>rfl
theorem Xn_ (k:List Key):u4_ (keyT k)=false:=rfl
section
variable {K:Fg} {F H:Hp} {v:V}
theorem Zi_ {k:Key} (r:Rep K F v (keyD k)):v=kV k:=by
 cases k with
 | inl i=>cases (show Rep K F v (.int i) from r);rfl
 | inr i=>cases (show Rep K F v (.str i) from r);rfl
theorem Us_:∀ {vs:List V} {k:List Key},RepL K F vs (k.map keyD)→vs=k.map kV
 | _,[],r=>by rw [List.map_nil] at r;cases r;rfl
 | _,k::ks,r=>by
  rw [List.map_cons] at r
  cases r with
  | cons a b=>rw [Zi_ a,Us_ b];rfl
theorem JL_ {k:List Key} (r:Rep K F v (keyT k)):∃ b,v=.ref b∧F b=some (.tup (k.map kV)):=by
 unfold keyT at r
 cases r with
 | tup h1 h2=>rw [Us_ h2] at h1;exact ⟨_,rfl,h1⟩
noncomputable def DT (K:Fg) (F H:Hp) (a:Addr) (es:List (D×D)):Prop:=∃ kvs,H a=some (.dT kvs)∧es.map (·.1)=kvs.map (fun p=>keyT p.1)∧RepL K F (kvs.map (·.2)) (es.map (·.2))
noncomputable def DK (K:Fg) (F H:Hp) (a:Addr) (es:List (D×D)):Prop:=∃ kvs,H a=some (.dK kvs)∧es.map (·.1)=kvs.map (fun p=>keyD p.1)∧RepL K F (kvs.map (·.2)) (es.map (·.2))
theorem OR.dict {es:List (D×D)} (s:Same F H) (h:OR K F H v (.dict es)) (hx:isXe es=false):∃ a,v=.ref a∧(DT K F H a es∨DK K F H a es):=by
 rcases h with h|⟨a,c,e,e2,h1⟩
 ·cases h with
  | dct h1 h2 h3=>exact ⟨_,rfl,.inl ⟨_,s _ _ h1,h2,h3⟩⟩
  | dck h1 h2 h3=>exact ⟨_,rfl,.inr ⟨_,s _ _ h1,h2,h3⟩⟩
  | exc _ _ _ _ _=>cases hx
  | fn _=>cases hx
 ·cases c<;>cases e2
  ·exact ⟨a,e,.inl h1⟩
  ·exact ⟨a,e,.inr h1⟩
theorem YE_ {κ:Type} [DecidableEq κ] {kd:κ→D} (inj:∀ a b,keyQ (kd a) (kd b)=decide (a=b)) (k:κ):∀ {kvs:List (κ×V)} {es:List (D×D)},es.map (·.1)=kvs.map (fun p=>kd p.1)→RepL K F (kvs.map (·.2)) (es.map (·.2)) →
  (∃ d v,getE es (kd k)=some d∧valV kvs k=some v∧Rep K F v d)∨(getE es (kd k)=none∧valV kvs k=none)
 | [],[],_,_=>.inr ⟨rfl,rfl⟩
 | [],_::_,e,_=>by simp at e
 | _::_,[],e,_=>by simp at e
 | p::kvs,q::es,e,r=>by
  simp only [List.map_cons,List.cons.injEq] at e
  cases r with
  | cons r1 r2 =>
   unfold getE valV
   rw [List.find?_cons,List.find?_cons,e.1,inj]
   by_cases h:p.1=k
   ·simp only [h,decide_true]
    exact .inl ⟨_,_,rfl,rfl,r1⟩
   ·simp only [h,decide_false]
    exact YE_ inj k e.2 r2
theorem Vy_ {κ:Type} [DecidableEq κ] {kd:κ→D} (inj:∀ a b,keyQ (kd a) (kd b)=decide (a=b)) (k:κ) {d:D} (rv:Rep K F v d):∀ {kvs:List (κ×V)} {es:List (D×D)},es.map (·.1)=kvs.map (fun p=>kd p.1)→RepL K F (kvs.map (·.2)) (es.map (·.2)) →
  (putE es (kd k) d).map (·.1)=(putK kvs k v).map (fun p=>kd p.1)∧RepL K F ((putK kvs k v).map (·.2)) ((putE es (kd k) d).map (·.2)):=by
 intro kvs es e r
 have any:∀ {kvs:List (κ×V)} {es:List (D×D)},es.map (·.1)=kvs.map (fun p=>kd p.1)→(es.any fun p=>keyQ p.1 (kd k))=kvs.any fun p=>decide (p.1=k):=by
  intro kvs
  induction kvs with
  | nil=>intro es e;cases es with
   | nil=>rfl
   | cons _ _=>simp at e
  | cons p kvs ih=>intro es e;cases es with
   | nil=>simp at e
   | cons q es =>
    simp only [List.map_cons,List.cons.injEq] at e
    rw [List.any_cons,List.any_cons,ih e.2,e.1,inj]
 have mp:∀ {kvs:List (κ×V)} {es:List (D×D)},es.map (·.1)=kvs.map (fun p=>kd p.1)→RepL K F (kvs.map (·.2)) (es.map (·.2)) →
   (es.map fun p=>if keyQ p.1 (kd k) then (p.1,d) else p).map (·.1)=(kvs.map fun p=>if p.1=k then (p.1,v) else p).map (fun p=>kd p.1) ∧
   RepL K F ((kvs.map fun p=>if p.1=k then (p.1,v) else p).map (·.2)) ((es.map fun p=>if keyQ p.1 (kd k) then (p.1,d) else p).map (·.2)):=by
  intro kvs
  induction kvs with
  | nil=>intro es e r;cases es with
   | nil=>exact ⟨rfl,.nil⟩
   | cons _ _=>simp at e
  | cons p kvs ih=>intro es e r;cases es with
   | nil=>simp at e
   | cons q es =>
    simp only [List.map_cons,List.cons.injEq] at e
    cases r with
    | cons r1 r2 =>
     obtain ⟨i1,i2⟩:=ih e.2 r2
     simp only [List.map_cons,e.1,inj]
     by_cases h:p.1=k
     ·simp only [h,decide_true,if_true,List.cons.injEq]
      exact ⟨⟨trivial,i1⟩,.cons rv i2⟩
     ·simp only [h,decide_false,if_false,List.cons.injEq]
      exact ⟨⟨by simpa using e.1,i1⟩,.cons r1 i2⟩
 unfold putE putK
 rw [any e]
 by_cases h:(kvs.any fun p=>decide (p.1=k))=true
 ·rw [if_pos h,if_pos h];exact mp e r
 ·rw [if_neg h,if_neg h]
  refine ⟨by simp [e],?_⟩
  rw [List.map_append,List.map_append]
  exact r.append (.cons rv .nil)
end
noncomputable def QC_ (H:Hp) (a:Addr):Prop:=H a=some (.dT [])∨H a=some (.dK [])
theorem JA_ {X:Cx} {pins:List (Addr×Obj)} {σ:L2.St} {H:Hp} {s:Shared} {a:Addr} (I:Inv X pins σ H s) (h:QC_ H a) :
  s.heap.DictOfH (tupleKind (z2_ X.prog X.w)) a []∧s.heap.DictOf (z2_ X.prog X.w) a []∧(a==sysModules)=false:=by
 rcases h with h|h
 ·obtain ⟨z,y,xs,kt,o,es,ep,h1,h2,h3,h4,h5,h6⟩:=zcO_ I.hok h
  cases kt
  have e0:es = #[]:=by
   have:es.toList=[]:=h4
   exact Array.toList_inj.mp this
  subst e0
  exact ⟨⟨o,_,ep,h1,h2,h3,rfl,(fun x hx=>by simp at hx),List.nodup_nil⟩,⟨o,_,ep,h1,h2,h3,fun e he=>by simp at he,.nil,List.nodup_nil⟩,y⟩
 ·obtain ⟨z,y,vs,kv,o,es,ep,h1,h2,h3,h4,h5,h6⟩:=zcP_ I.hok h
  cases kv
  have e0:es = #[]:=by
   have:es.toList=[]:=by
    generalize es.toList=l at h5
    cases h5
    rfl
   exact Array.toList_inj.mp this
  subst e0
  exact ⟨⟨o,_,ep,h1,h2,h3,rfl,(fun x hx=>by simp at hx),List.nodup_nil⟩,⟨o,_,ep,h1,h2,h3,fun e he=>by simp at he,.nil,List.nodup_nil⟩,y⟩
theorem DT.empty {K:Fg} {F H:Hp} {a:Addr} (h:DT K F H a []):QC_ H a:=by
 obtain ⟨kvs,h1,h2,_⟩:=h
 cases kvs with
 | nil=>exact .inl h1
 | cons _ _=>simp at h2
theorem DK.empty {K:Fg} {F H:Hp} {a:Addr} (h:DK K F H a []):QC_ H a:=by
 obtain ⟨kvs,h1,h2,_⟩:=h
 cases kvs with
 | nil=>exact .inr h1
 | cons _ _=>simp at h2
noncomputable def KeyV (H:Hp) (y:V):Prop:=(∃ k,y=kV k)∨∃ (b:Addr) (ks:List Key),y=.ref b∧H b=some (.tup (ks.map kV))
noncomputable def DAsk (H:Hp) (a:Addr) (y:V) (o:Option V):Prop:=DGet H a y o∨(QC_ H a∧KeyV H y∧o=none)
theorem WB_ {K:Fg} {F H:Hp} {a:Addr} {y:V} {es:List (D×D)} {k:D} (s:Same F H) (h:DT K F H a es∨DK K F H a es) (r:Rep K F y k) (hk:keyOk es k=true) :
  (∃ d v,getE es k=some d∧DAsk H a y (some v)∧Rep K F v d)∨(getE es k=none∧DAsk H a y none):=by
 unfold keyOk at hk
 rw [Bool.or_eq_true,Bool.and_eq_true,Bool.and_eq_true] at hk
 have kT:yk_ k=true→KeyV H y:=fun h=>by
  obtain ⟨ks,rfl⟩:=ZJ_ h
  obtain ⟨b,rfl,hb⟩:=JL_ r
  exact .inr ⟨b,ks,rfl,s _ _ hb⟩
 have kK:u4_ k=true→KeyV H y:=fun h=>by
  obtain ⟨ks,rfl⟩:=yG_ h
  exact .inl ⟨ks,Zi_ r⟩
 cases es with
 | nil =>
  refine .inr ⟨rfl,.inr ⟨?_,?_,rfl⟩⟩
  ·rcases h with h|h
   ·exact h.empty
   ·exact h.empty
  ·rcases hk with hk|hk
   ·exact kT hk.1
   ·exact kK hk.1
 | cons p es =>
  rcases h with ⟨kvs,h1,h2,h3⟩|⟨kvs,h1,h2,h3⟩
  ·rcases hk with ⟨hk,_⟩|⟨_,hk⟩
   ·obtain ⟨ks,rfl⟩:=ZJ_ hk
    obtain ⟨b,rfl,hb⟩:=JL_ r
    rcases YE_ XO_ ks h2 h3 with ⟨d,v,e1,e2,e3⟩|⟨e1,e2⟩
    ·exact .inl ⟨d,v,e1,.inl (e2▸DGet.t h1 (s _ _ hb)),e3⟩
    ·exact .inr ⟨e1,.inl (e2▸DGet.t h1 (s _ _ hb))⟩
   ·exfalso
    cases kvs with
    | nil=>simp at h2
    | cons q kvs =>
     simp only [List.map_cons,List.cons.injEq] at h2
     rw [List.all_cons,h2.1,Xn_,Bool.false_and] at hk
     cases hk
  ·rcases hk with ⟨_,hk⟩|⟨hk,_⟩
   ·exfalso
    cases kvs with
    | nil=>simp at h2
    | cons q kvs =>
     simp only [List.map_cons,List.cons.injEq] at h2
     rw [List.all_cons,h2.1,Xm_,Bool.false_and] at hk
     cases hk
   ·obtain ⟨ks,rfl⟩:=yG_ hk
    obtain rfl:=Zi_ r
    rcases YE_ XP_ ks h2 h3 with ⟨d,v,e1,e2,e3⟩|⟨e1,e2⟩
    ·exact .inl ⟨d,v,e1,.inl (e2▸DGet.k h1),e3⟩
    ·exact .inr ⟨e1,.inl (e2▸DGet.k h1)⟩
section
variable {X:Cx} {pins:List (Addr×Obj)} {σ:L2.St} {H:Hp} {s:Shared} {a:Addr} {y d:V} {u r:Value} {o:Option V} {A:Around} {E:Value→Shared→Prop}
theorem a_in {Q:Value→Shared→Prop} (hu:A.units+1<cLine) (I:Inv X pins σ H s) (g:DAsk H a y o) (ry:RelV y u) (h:∀ s',Inv X pins σ H s'→Q (.bool o.isSome) s') :
  wpAny (model X.prog X.w) A (compareOp .In u (.ref a)) Q E s:=by
 rcases g with g|⟨e,k,rfl⟩
 ·exact d_in hu I g ry h
 ·obtain ⟨h1,h2,hd⟩:=JA_ I e
  rcases k with ⟨k,rfl⟩|⟨b,ks,rfl,hb⟩
  ·exact wpAny_in_of (YC_ ry) hd h2.mapOf (h _ (I.tok _))
  ·cases (show u=Value.ref b from ry)
   exact wpAny_in_heap (tupleKind_room_in1 hu) (ZI_ I.hok hb) hd h1 (h _ (I.tok _))
theorem zdc_ {Q:Value→Shared→Prop} (hu:A.units+1<cLine) (I:Inv X pins σ H s) (g:DAsk H a y o) (ry:RelV y u) (rd:RelV d r) (h:∀ w' s',Inv X pins σ H s'→RelV (o.getD d) w'→Q w' s') :
  wpAny (model X.prog X.w) A (call (.builtin "dict.get") [.ref a,u,r]) Q E s:=by
 rcases g with g|⟨e,k,rfl⟩
 ·exact zcR_ hu I g ry rd h
 ·obtain ⟨h1,h2,hd⟩:=JA_ I e
  rcases k with ⟨k,rfl⟩|⟨b,ks,rfl,hb⟩
  ·exact call_meetsIn PySem.F.slot_dict_get h2.typeIs PySem.F.entry_dict_get (PySem.F.args_dict_get_3 _ _ _) (meets_dict_get_default (z2_ X.prog X.w) a (YC_ ry) hd r) ⟨_,h2.mapOf,h _ _ (I.tok _) rd⟩
  ·cases (show u=Value.ref b from ry)
   exact call_meetsIn PySem.F.slot_dict_get h1.typeIs PySem.F.entry_dict_get (PySem.F.args_dict_get_3 _ _ _) (meetsH_dict_get_default (tupleKind (z2_ X.prog X.w)) a b hd r) ⟨tupleKind_room_in1 hu,ks,[],ZI_ I.hok hb,h1,h _ _ (I.tok _) rd⟩
theorem DT.isD {K:Fg} {F:Hp} {es:List (D×D)} (h:DT K F H a es∨DK K F H a es):IsD H a:=by
 rcases h with ⟨kvs,h1,_⟩|⟨kvs,h1,_⟩
 ·exact .inr ⟨_,.inl h1⟩
 ·exact .inl ⟨_,.inl h1⟩
end
end L4
set_option Elab.async false
set_option linter.all false
set_option maxRecDepth 100000
namespace L4
open PySem PySem.Spec PyProof.Rows L2 L3
noncomputable def QZ_:D→D→D→Option D
 | .dict es,k,z=>if keyOk es k then some ((getE es k).getD z) else none
 | _,_,_=>none
noncomputable def uN_ (d c:D):Option Bool:=match c with
 | .dict es=>if keyOk es d then some (getE es d).isSome else none
 | _=>opIn d c
noncomputable def zt_ (x y:D):Option D:=match x with
 | .dict es=>if keyOk es y then getE es y else none
 | _=>opIx x y
noncomputable def zcf_ (po pe pf:Pu D):Pu D:=fun ρ=>bd (po ρ) fun d=>bd (noX (pe ρ)) fun k=>bd (noX (pf ρ)) fun z=>oM (QZ_ d k z)
theorem W.nx {X:Cx} {G:Gh} {F:Hp} {σ:L2.St} {ρ:En} {α:Type} {m:M α} {C:α→Hp→Hp→Prop} (h:W X G F σ ρ (noX m) C):W X G F σ ρ m C:=by
 cases m with
 | ret a=>exact h
 | exc x=>exact h.elim
 | bad=>exact h.elim
noncomputable def zbq_ (td ty tx:TE):TE:=fun σ H Q=>td σ H fun x H1=>∃ a,x=.ref a∧IsD H1 a∧ty σ H1 fun y H2=>tx σ H2 fun z H3=>∃ o,DAsk H3 a y o∧Q (o.getD z) H3
section
variable {X:Cx} {o e f:Expr} {apos cpos:Pos} {td ty tx:TE}
theorem W6_ (hu:X.A.units+1<cLine) (ho:PE X o td) (he:PE X e ty) (hf:PE X f tx) (m:M2 X o "get" apos e f cpos):PE X (.Call (.Attribute o "get" apos) [e,f] [] cpos) (zbq_ td ty tx):=by
 intro pins s σ H Q I h
 refine wpAny_Call_method m.base m.few m.line PySem.F.plainAttrs_dict PySem.F.slot_dict_get PySem.F.type_dict_get (thn (ho pins s σ H _ I h) fun u s1 ⟨x,H1,I1,rx,a,ex,d,q1⟩=>?_)
 subst ex
 obtain rfl:u=Value.ref a:=rx
 obtain ⟨t1,t2,_⟩:=zcI_ I1 d
 refine ⟨t1,t2,?_⟩
 rw [m.trees]
 refine Calls.callWith_builtin rfl (Calls.evalArgs_plain (Calls.spliced_cons (thn (he pins s1 σ H1 _ I1 q1) fun iv s2 ⟨y,H2,I2,ry,q2⟩ =>
  Calls.spliced_cons (thn (hf pins s2 σ H2 _ I2 q2) fun fv s3 ⟨z,H3,I3,rz,ov,g,q3⟩=>Calls.spliced_nil ?_))))
 exact zdc_ hu I3 g ry rz fun w' s4 I4 rw'=>⟨_,H3,I4,rw',q3⟩
end
section
variable {X:Cx} {o e f:Expr} {apos cpos pos:Pos} {po pe pf:Pu D}
theorem Qx_ (hu:X.A.units+1100<cLine) (ho:AO X o po) (he:AP X e pe) (hf:AP X f pf) (m:M2 X o "get" apos e f cpos):AP X (.Call (.Attribute o "get" apos) [e,f] [] cpos) (zcf_ po pe pf) :=
 fun G F σ H ρ Q S w=>sem (W6_ (by lia) zs_ zs_ zs_ m) (ho G F σ H ρ _ S (w.bind.imp fun d F1 H1 s1 S1 w1 v hv=>by
  have hd:∃ es,d=.dict es∧isXe es=false:=by
   cases hk:pe ρ with
   | ret k=>cases hz:pf ρ with
    | ret z =>
     rw [hk] at w1;simp only [jY_,uF_] at w1;rw [hz] at w1;simp only [jY_,uF_] at w1
     obtain ⟨res,e,_⟩:=w1.opt
     cases d with
     | dict es =>
      dsimp only [QZ_] at e
      split at e
      ·rename_i hk;exact ⟨es,rfl,YB_ hk⟩
      ·cases e
     | _=>cases e
    | exc x=>rw [hk] at w1;simp only [jY_,uF_] at w1;rw [hz] at w1;exact w1.elim
    | bad=>rw [hk] at w1;simp only [jY_,uF_] at w1;rw [hz] at w1;exact w1.elim
   | exc x=>rw [hk] at w1;exact w1.elim
   | bad=>rw [hk] at w1;exact w1.elim
  obtain ⟨es,rfl,hnx⟩:=hd
  obtain ⟨a,rfl,hh⟩:=(hv.or S1).dict S1.fh hnx
  refine ⟨a,rfl,DT.isD hh,he G F1 σ H1 ρ _ S1 (w1.bind.nx.imp fun k F2 H2 s2 S2 w2 y hy=>hf G F2 σ H2 ρ _ S2 (w2.bind.nx.imp fun z F3 H3 s3 S3 w3 zv hz=>?_))⟩
  obtain ⟨res,e,kk⟩:=w3.opt
  dsimp only [QZ_] at e
  split at e
  case isFalse=>cases e
  rename_i hk
  cases e
  obtain ⟨a',ea,hh3⟩:=(((hv.mono s2).mono s3).or S3).dict S3.fh hnx
  cases ea
  rcases WB_ S3.fh hh3 (hy.mono s3) hk with ⟨d,v,e1,g,r⟩|⟨e1,g⟩
  ·refine ⟨some v,g,?_⟩
   rw [e1] at kk
   exact kk F3 H3 (Same.refl _) S3 v r
  ·refine ⟨none,g,?_⟩
   rw [e1] at kk
   exact kk F3 H3 (Same.refl _) S3 zv hz))
end
noncomputable def rDin (neg:Bool):R2:=fun x y H Q=>∃ a o,y=.ref a∧DAsk H a x o∧Q (.bl (if neg then !o.isSome else o.isSome)) H
noncomputable def rInA (K:Fg):R2:=fun x y H Q=>rD2 K opIn x y H Q∨rDin false x y H Q
noncomputable def rDIx:R2:=fun x y H Q=>∃ a v,x=.ref a∧DGet H a y (some v)∧Q v H
noncomputable def rIxA (K:Fg):R2:=fun x y H Q=>rIx K x y H Q∨rDIx x y H Q
section
variable {X:Cx}
theorem yO_ (hu:X.A.units+1100<cLine):OpR X (compareOp .In) (rInA X.K):=OpR.or (zcj_ hu) (by
 intro pins s σ H x y v u Q I rx ry ⟨a,o,e,g,q⟩
 subst e
 obtain rfl:u=Value.ref a:=ry
 exact a_in (by lia) I g rx fun s' I'=>⟨.bl _,H,I',rfl,q⟩)
theorem zaH_ (hu:X.A.units+1100<cLine):IxR X rDIx:=by
 intro value slice pins s σ H x y v u Q I rx ry ⟨a,w,e,g,q⟩ hs
 subst e
 obtain rfl:v=Value.ref a:=rx
 have hT:s.TypeIs (.ref a) "dict":=YL_ I g
 unfold subscriptTail
 refine wpAny_bind ?_
 rw [getitemInPython_of_ne hT.not_modules]
 refine wpAny_bind (wpAny_specialOf hT PySem.F.slot_dict_getitem.lookup ?_)
 have h₂:wpAny (model X.prog X.w) X.A (getItem (.ref a) u) (EP X pins σ Q) X.xe s:=Wq_ (by lia) I g ry fun w' s3 I3 rw'=>⟨w,H,I3,rw',q⟩
 have fin:wpAny (model X.prog X.w) X.A (subscripted slice false (.ref a) u) (fun r s₃=>wpAny (model X.prog X.w) X.A (letTemporaryGo value (.ref a) r >>= fun _=>pure r) (EP X pins σ Q) X.xe s₃) X.xe s:=by
  rw [hs]
  exact wpAny_operating (wpAny_mono h₂ (fun r s₃ h₃=>wpAny_bind (wpAny_letTemporaryGo (wpAny_pure h₃))) fun _ _ x=>x)
 first
  | exact wpAny_pure (wpAny_bind fin)
  | exact wpAny_bind (wpAny_pure (wpAny_bind fin))
  | exact wpAny_bind fin
theorem zo_ (hu:X.A.units+1100<cLine):IxR X (rIxA X.K):=IxR.or zcE_ (zaH_ hu)
theorem UO_ {K:Fg} {F H:Hp} {y:V} {es:List (D×D)} {k:D} (h:OR K F H y k) (hk:keyOk es k=true):Rep K F y k:=by
 rcases h with h|⟨a,c,e,e2,h1⟩
 ·exact h
 ·exfalso
  subst e2
  unfold keyOk at hk
  cases c<;>simp [OC.d,yk_,u4_] at hk
theorem Js_ {K:Fg}:OpB K (rInA K) uN_:=by
 intro G F σ H ρ x y dx dy res Q S ox oy e k
 unfold uN_ at e
 split at e
 ·rename_i es
  split at e
  case isFalse=>cases e
  rename_i hk
  cases e
  obtain ⟨a,rfl,hh⟩:=oy.dict S.fh (YB_ hk)
  rcases WB_ S.fh hh (UO_ ox hk) hk with ⟨d,v,e1,g,r⟩|⟨e1,g⟩
  ·exact .inr ⟨a,_,rfl,g,by rw [e1] at k;exact k⟩
  ·exact .inr ⟨a,_,rfl,g,by rw [e1] at k;exact k⟩
 ·exact .inl (jl_ G F σ H ρ x y dx dy res Q S ox oy e k)
theorem zn_ {K:Fg}:OpD K (rIxA K) zt_:=by
 intro G F σ H ρ x y dx dy res Q S ox oy e k
 unfold zt_ at e
 split at e
 ·rename_i es
  split at e
  case isFalse=>cases e
  rename_i hk
  obtain ⟨a,rfl,hh⟩:=ox.dict S.fh (YB_ hk)
  rcases WB_ S.fh hh (UO_ oy hk) hk with ⟨d,v,e1,g,r⟩|⟨e1,g⟩
  ·rw [e1] at e
   cases e
   rcases g with g|⟨_,_,z⟩
   ·exact .inr ⟨a,v,rfl,g,k v F H (Same.refl _) S r⟩
   ·cases z
  ·rw [e1] at e;cases e
 ·exact .inl (zdF_ G F σ H ρ x y dx dy res Q S ox oy e k)
end
noncomputable def ownD (ρ:En) (i:Nat):Option (Bool×List (D×D)):=match ρ[i]? with
 | some (some (.ol (.t es)))=>some (true,es)
 | some (some (.ol (.k es)))=>some (false,es)
 | _=>none
noncomputable def ocD (t:Bool) (es:List (D×D)):OC:=if t then .t es else .k es
theorem Qa_ {ρ:En} {i:Nat} {t:Bool} {es:List (D×D)} (h:ownD ρ i=some (t,es)):ρ[i]? = some (some (.ol (ocD t es))):=by
 unfold ownD at h
 split at h
 ·rename_i q;cases h;exact q
 ·rename_i q;cases h;exact q
 ·cases h
noncomputable def keyOf (t:Bool) (k:D):Bool:=if t then yk_ k else u4_ k
noncomputable def dPut (t:Bool) (es:List (D×D)) (k d:D):Option (List (D×D)):=if keyOf t k&&decide (es.length<sizeLine) then some (putE es k d) else none
section
variable {S:Type}
noncomputable def zbx_ (t:Bool) (i:Nat):SM S:=fun K ρ=>match y9_ ρ i with
 | true=>K.nx (ρ.set i (some (.ol (ocD t []))))
 | false=>.bad
noncomputable def zbw_ (i:Nat) (mi me:Ev S D):SM S:=fun K ρ=>me K.x (fun d ρ1=>match ownD ρ1 i with
 | some _=>mi K.x (fun j ρ2=>match ownD ρ2 i with
  | some (t,es)=>(oM (dPut t es j d)).on (fun e=>K.x e ρ2) (fun es'=>K.nx (ρ2.set i (some (.ol (ocD t es')))))
  | none=>.bad) ρ1
 | none=>.bad) ρ
variable {X:Cx} {b e:Expr} {mi me:Ev S D} {pos pos' tpos:Pos}
theorem zba_ (t:Bool) {i:Nat} {x:Str} (hN:X.N.Nodup) (hi:X.N[i]? = some x) (hx:Loc X.env.scope x) (hs:swapsWith (.Dict [] [] tpos) (some (.Name x pos')) pos.line X.env=pure false) (hf:X.fn x=true∨X.env.scope.names.lookup x=some .local) :
  AS (S:=S) X (.Assign [.Name x pos'] (.Dict [] [] tpos) pos) (zbx_ t i):=fun OK K G F σ H ρ E hO hX St ok eo=>by
 unfold zbx_ at ok
 split at ok
 case h_2=>exact (hO ok).elim
 rename_i ho
 obtain ⟨hl,hop⟩:=jP_ ho
 cases t with
 | true=>exact semS (Y7_ hN hi hx W4_ hs hf) fun p hp=>eo.nx F _ _ _ (Same.refl _) ((St.lay (o:=.dT []) hp).store hop hl (.inr ⟨.t [],rfl,p,rfl,⟨St.fh.free hp,St.oh.free hp,[],zy_,rfl,.nil⟩,St.fresh_ne hp⟩)) ok
 | false=>exact semS (Y7_ hN hi hx W5_ hs hf) fun p hp=>eo.nx F _ _ _ (Same.refl _) ((St.lay (o:=.dK []) hp).store hop hl (.inr ⟨.k [],rfl,p,rfl,⟨St.fh.free hp,St.oh.free hp,[],zy_,rfl,.nil⟩,St.fresh_ne hp⟩)) ok
theorem zaZ_ (hu:X.A.units+1100<cLine) {i:Nat} {x:Str} (hN:X.N[i]? = some x) (hv:Vis X.env.scope x) (hi:AE X b mi) (he:AE X e me)
  (hs:swapsWith e (some (.Subscript (.Name x pos') b tpos)) pos.line X.env=pure false)
  (hd:(x==("__debug__" : Str))=false:=by decide) (hcd:(x==("__classdict__" : Str))=false:=by decide):AS X (.Assign [.Subscript (.Name x pos') b tpos] e pos) (zbw_ i mi me):=fun OK K G F σ H ρ E hO hX St ok eo =>
 semS (zal_ (by lia) (Jp_ hN hv hd hcd) zs_ zs_ hs) (he OK K.x _ G F σ H ρ _ hO hX St ok fun d v F1 H1 ρ1 s1 S1 r1 o1=>by
  split at o1
  case h_2=>exact (hO o1).elim
  rename_i te0 hd0
  obtain ⟨t0,es0⟩:=te0
  obtain ⟨a,ea,_⟩:=S1.ow i _ (.inl (Qa_ hd0))
  refine ⟨_,ea,hi OK K.x _ G F1 σ H1 ρ1 _ hO hX S1 o1 fun j u F2 H2 ρ2 s2 S2 r2 o2=>?_⟩
  split at o2
  case h_2=>exact (hO o2).elim
  rename_i t es hds
  obtain ⟨es',hp,o3⟩:=y2_ hO o2
  have hown:=Qa_ hds
  obtain ⟨a',ea',oa⟩:=S2.ow i _ (.inl hown)
  rw [ea] at ea'
  injection ea' with ea';injection ea' with ea';injection ea' with ea'
  subst ea'
  unfold dPut at hp
  split at hp
  case isFalse=>cases hp
  rename_i hc
  cases hp
  rw [Bool.and_eq_true,decide_eq_true_eq] at hc
  cases t with
  | true =>
   obtain ⟨ks,rfl⟩:=ZJ_ hc.1
   obtain ⟨b,rfl,hb⟩:=JL_ r2
   obtain ⟨kvs,h1,h2,h3⟩:=(show Held X.K F2 H2 a (.t es) from oa.he)
   obtain ⟨p1,p2⟩:=Vy_ XO_ ks (r1.mono s2) h2 h3
   have hlen:kvs.length=es.length:=by have:=congrArg List.length h2;simpa using this.symm
   refine ⟨a,_,rfl,DPut.t h1 (S2.fh _ _ hb) (by lia),eo.nx F2 σ _ _ (s1.trans s2) ?_ o3⟩
   have:=S2.change (.inl hown) ea (c':=.t (putE es (keyT ks) d)) (o:=.dT (putK kvs ks v)) ⟨_,zy_,p1,p2⟩
   rw [hown] at this
   exact this
  | false =>
   obtain ⟨ks,rfl⟩:=yG_ hc.1
   obtain rfl:=Zi_ r2
   obtain ⟨kvs,h1,h2,h3⟩:=(show Held X.K F2 H2 a (.k es) from oa.he)
   obtain ⟨p1,p2⟩:=Vy_ XP_ ks (r1.mono s2) h2 h3
   have hlen:kvs.length=es.length:=by have:=congrArg List.length h2;simpa using this.symm
   refine ⟨a,_,rfl,DPut.k h1 (by lia),eo.nx F2 σ _ _ (s1.trans s2) ?_ o3⟩
   have:=S2.change (.inl hown) ea (c':=.k (putE es (keyD ks) d)) (o:=.dK (putK kvs ks v)) ⟨_,zy_,p1,p2⟩
   rw [hown] at this
   exact this)
end
end L4
set_option Elab.async false
set_option linter.all false
set_option maxRecDepth 100000
namespace HT
open PySem PyProof.Rows
noncomputable def lexLe:List Int→List Int→Bool
 | [],[]=>true
 | [],_::_=>true
 | _::_,[]=>false
 | x::xs,y::ys=>if x=y then lexLe xs ys else decide (x≤y)
theorem QS_ (x y:Int) (xs ys:List Int):lexLe (x::xs) (y::ys)=if x=y then lexLe xs ys else decide (x≤y):=rfl
theorem JX_:lexLe [] []=true:=rfl
theorem Z9_ (y:Int) (ys:List Int):lexLe [] (y::ys)=true:=rfl
theorem Ja_ (x:Int) (xs:List Int):lexLe (x::xs) []=false:=rfl
theorem WY_ (A:Around) (s:Shared) (a:Int) (t:Tok) (c:Int) (u:Tok) (prog:Program) (w:World) (E:Value→Shared→Prop) (Q:Value→Shared→Prop) (h:Q (.bool (decide (a≤c))) s) :
  wpAny (model prog w) A (richCompare .LtE (.int a t) (.int c u)) Q E s :=
 (PyProof.Rows.le_int h:wpAny (model prog w) A (compareOp .LtE (.int a t) (.int c u)) Q E s)
section
open PySem.SeqAt
open PySem.AutoSeq1 (wpAny_loadPart')
open PySem.MeetsSeq PySem.MeetsSeq2 PySem.MeetsSeq3
theorem JI_ (l b:Addr) (items items2:Array Value) (n n2:Nat) (dd dd2:Option Addr) (sl sl2:Array (Option Value)) (ns ms:List Int) (hi:IntsAre items.toList ns) (hj:IntsAre items2.toList ms) :
  Meets (Builtin.«tuple.__le__» ⟨[.ref l,.ref b],[]⟩)
   (fun _ R s=>s.heap.get? l=some { cls:=.type "tuple",dict:=dd,data:=.seq items n,slots:=sl }∧s.heap.get? b=some { cls:=.type "tuple",dict:=dd2,data:=.seq items2 n2,slots:=sl2 } ∧
    R (.ok (.ret (.bool (lexLe ns ms)))) s) :=
 .of_wp fun prog w A R s h=>by
  obtain ⟨hp,g,d,tk,os⟩:=s;obtain ⟨hl,hb,h⟩:=h
  have f2:=AutoSeq1.sub_tuple_tuple
  have z1:items.size=ns.length:=by rw [←hi.length];simp
  have z2:items2.size=ms.length:=by rw [←hj.length];simp
  wp_walk using wpAny_loadPart' hl,wpAny_loadPart' hb,wpAny_forIn_list _ (fun rest b s'=>b.1=none∧s'=⟨hp,g,d,tk,os⟩∧∃ (vs ws:List Value) (ns' ms':List Int),rest=vs.zip ws ∧
   IntsAre vs ns'∧IntsAre ws ms'∧ns'.length+items2.size=ms'.length+items.size∧R (.ok (.ret (.bool (lexLe ns' ms')))) ⟨hp,g,d,tk,os⟩) _
  case turn =>
   rintro ⟨y,x⟩ rest b s' ⟨hb',rfl,vs,ws,ns',ms',hz,hvi,hwi,hlen,hR⟩
   cases hvi with
   | nil=>rw [List.zip_nil_left] at hz;cases hz
   | cons a t hvi' =>
    cases hwi with
    | nil=>rw [List.zip_nil_right] at hz;cases hz
    | cons c u hwi' =>
     rw [List.zip_cons_cons] at hz
     injection hz with hyx hrest
     injection hyx with hy hx
     subst hy hx
     rw [QS_] at hR
     simp only [List.length_cons] at hlen
     obtain ⟨e,he,hiff⟩:=Qn_ A.in1 ⟨hp,g,d,tk,os⟩ a t c u
     refine wpAny_bind (he prog w _ _ ?_)
     cases e with
     | true =>
      rw [if_pos (hiff.mp rfl)] at hR
      wp_walk
      exact ⟨rfl,rfl,_,_,_,_,hrest,hvi',hwi',by lia,hR⟩
     | false =>
      rw [if_neg (fun q=>absurd (hiff.mpr q) Bool.false_ne_true)] at hR
      have hri:=WY_ A.in1 ⟨hp,g,d,tk,os⟩ a t c u prog w
      wp_walk using hri
      exact ⟨_,rfl,by simpa using hR⟩
  case fin =>
   rintro ⟨b1,b2⟩ s' ⟨hb',rfl,vs,ws,ns',ms',hz,hvi,hwi,hlen,hR⟩
   simp only at hb'
   subst hb'
   have hv:lexLe ns' ms'=decide (items.size≤items2.size):=by
    cases hvi with
    | nil =>
     cases hwi with
     | nil =>
      simp only [List.length_nil] at hlen
      rw [JX_]
      exact (decide_eq_true (by lia)).symm
     | cons c u hw =>
      simp only [List.length_nil,List.length_cons] at hlen
      rw [Z9_]
      exact (decide_eq_true (by lia)).symm
    | cons a t hv =>
     cases hwi with
     | nil =>
      simp only [List.length_nil,List.length_cons] at hlen
      rw [Ja_]
      exact (decide_eq_false (by lia)).symm
     | cons c u hw =>
      rw [List.zip_cons_cons] at hz
      cases hz
   rw [hv] at hR
   wp_walk
   exact ⟨_,rfl,by simpa [Builtin.Tuple.tupleCompareSizes] using hR⟩
  case h =>
   exact ⟨rfl,rfl,items.toList,items2.toList,ns,ms,rfl,hi,hj,by lia,h⟩
end
section
variable {prog:Program} {w:World} {A:Around} {E:Value→Shared→Prop} {s:Shared}
theorem le_tupInts {l b:Addr} {items items2:Array Value} {ns ms:List Int} {Q:Value→Shared→Prop} (hl:IsTup s.heap l items) (hb:IsTup s.heap b items2) (hi:IntsAre items.toList ns) (hj:IntsAre items2.toList ms)
  (hu:A.units<cLine) (h:Q (.bool (lexLe ns ms)) s):wpAny (model prog w) A (compareOp .LtE (.ref l) (.ref b)) Q E s:=by
 obtain ⟨⟨cls,dd,data,sl⟩,ho,hc,n,hd⟩:=id hl
 obtain ⟨⟨cls2,dd2,data2,sl2⟩,ho2,hc2,n2,hd2⟩:=id hb
 simp only at hc hd hc2 hd2
 subst hc hd hc2 hd2
 exact richCompare_meets_room (op:=.LtE) ⟨_,ho,rfl⟩ ⟨_,ho2,rfl⟩ PySem.F.slot_tuple_le PySem.F.entry_tuple_le (PySem.F.args_tuple_le_2 _ _) (JI_ l b items items2 n n2 dd dd2 sl sl2 ns ms hi hj)
  ⟨ho,ho2,show Value.bool (lexLe ns ms)≠Value.notImplemented∧Q (.bool (lexLe ns ms)) s from ⟨(fun x=>nomatch x),h⟩⟩ hu
end
end HT
namespace L4
open PySem PySem.Spec PyProof.Rows L2 L3
noncomputable def rLeT (K:PySem.W.Frag):R2:=fun x y H Q=>∃ a b ns ms,x=.ref a∧y=.ref b∧SqT K H a (ns.map V.int)∧SqT K H b (ms.map V.int)∧Q (.bl (HT.lexLe ns ms)) H
theorem zcm_ {X:Cx} (hu:X.A.units<cLine):OpR X (compareOp .LtE) (rLeT X.K):=by
 intro pins s σ H x y v u Q I rx ry h
 obtain ⟨a,b,ns,ms,rfl,rfl,ha,hb,q⟩:=h
 cases rx
 cases ry
 obtain ⟨its,r1,p1,_⟩:=I.tuple ha
 obtain ⟨its2,r2,p2,_⟩:=I.tuple hb
 have i1:IntsAre its.toArray.toList ns:=intsAre_of r1
 have i2:IntsAre its2.toArray.toList ms:=intsAre_of r2
 exact HT.le_tupInts p1 p2 i1 i2 hu ⟨.bl (HT.lexLe ns ms),H,I,rfl,q⟩
noncomputable def W9_ (x y:D):Option Bool:=match x,y with
 | .tuple a,.tuple b=>match intsOf a,intsOf b with
  | some m,some n=>some (HT.lexLe m n)
  | _,_=>none
 | x,y=>opLe x y
noncomputable def Ux_ (x y:D):Option Bool:=match x,y with
 | .tuple a,.tuple b=>match intsOf a,intsOf b with
  | some m,some n=>some (HT.lexLt m n)
  | _,_=>none
 | x,y=>opLt x y
noncomputable def rLeA (K:Fg):R2:=fun x y H Q=>rI0 (fun i j=>.bl (decide (i≤j))) x y H Q∨rLeT K x y H Q
noncomputable def rLtA (K:Fg):R2:=fun x y H Q=>rI0 (fun i j=>.bl (decide (i<j))) x y H Q∨rLtT K x y H Q
theorem zcn_ {X:Cx} (hu:X.A.units+1100<cLine):OpR X (compareOp .LtE) (rLeA X.K):=OpR.or zdC_ (zcm_ (by lia))
theorem VO_ {X:Cx} (hu:X.A.units+1100<cLine):OpR X (compareOp .Lt) (rLtA X.K):=OpR.or zdB_ (zcl_ (by lia))
theorem zct_ {K:Fg}:OpB K (rLeA K) W9_:=by
 intro G F σ H ρ x y dx dy res Q S ox oy e k
 unfold W9_ at e
 split at e
 ·rename_i a b
  split at e
  ·rename_i m n hm hn
   cases e
   obtain ⟨p,vs,rfl,h1,h2⟩:=ox.tuple S.fh
   obtain ⟨q,us,rfl,g1,g2⟩:=oy.tuple S.fh
   rw [u6_ hm] at h2
   rw [u6_ hn] at g2
   rw [u5_ h2] at h1
   rw [u5_ g2] at g1
   exact .inr ⟨p,q,m,n,rfl,rfl,h1,g1,k⟩
  ·cases e
 ·exact .inl (zdE_ G F σ H ρ x y dx dy res Q S ox oy e k)
theorem VU_ {K:Fg}:OpB K (rLtA K) Ux_:=by
 intro G F σ H ρ x y dx dy res Q S ox oy e k
 unfold Ux_ at e
 split at e
 ·rename_i a b
  split at e
  ·rename_i m n hm hn
   cases e
   obtain ⟨p,vs,rfl,h1,h2⟩:=ox.tuple S.fh
   obtain ⟨q,us,rfl,g1,g2⟩:=oy.tuple S.fh
   rw [u6_ hm] at h2
   rw [u6_ hn] at g2
   rw [u5_ h2] at h1
   rw [u5_ g2] at g1
   exact .inr ⟨p,q,m,n,rfl,rfl,h1,g1,k⟩
  ·cases e
 ·exact .inl (zdD_ G F σ H ρ x y dx dy res Q S ox oy e k)
end L4
namespace PySem
end PySem
namespace HT
end HT
set_option Elab.async false
set_option linter.all false
set_option maxRecDepth 100000
namespace L4
open PySem PySem.Spec PyProof.Rows L2 L3 PySem.W
section
variable {prog:Program} {w:World} {A:Around} {E:Value→Shared→Prop} {K:Frag} {C D fI:Addr} {h:Heap} {g:Array GenState} {d:Drawn} {t:Nat} {os:OsState} {rest:List Value}
noncomputable abbrev newX (h:Heap) (C:Addr) (rest:List Value):Heap:=(h.push { cls:=.type "tuple",data:=.seq rest.toArray }).push { cls:=.ref C,data:=.fields #[.ref h.objs.size,.none,.none,.none,.bool false,.none] }
theorem UJ_ {b:Addr} {o:Obj} (q:h.get? b=some o):(newX h C rest).get? b=some o:=Heap.get?_push_of_some _ (Heap.get?_push_of_some _ q)
theorem VY_:(newX h C rest).get? (h.objs.size+1)=some { cls:=.ref C,data:=.fields #[.ref h.objs.size,.none,.none,.none,.bool false,.none] }:=by
 have z:=Heap.get?_push_size (h.push { cls:=.type "tuple",data:=.seq rest.toArray }) (o:={ cls:=.ref C,data:=.fields #[.ref h.objs.size,.none,.none,.none,.bool false,.none] }) rfl
 rwa [Heap.size_push] at z
theorem UL_ (X:K.In h) (c:XC K C D fI) {Q:Fin→Shared→Prop} (hz:rest.length≤sizeLine)
  (hq:wpAny (model prog w) A (call (.ref fI) (.ref (h.objs.size+1)::rest)) (fun r s'=>r=.none∧Q (.done (.ret (.ref (h.objs.size+1)))) s') E ⟨newX h C rest,g,d,t,os⟩) :
  wpAny (model prog w) A (Builtin.«type.__call__» ⟨.ref C::rest,[]⟩) Q E ⟨h,g,d,t,os⟩:=by
 obtain ⟨nm,q,N,bs,sn,sub,ab,col,dd,k0,k1,k2,k3,k5,lk⟩:=c.obj
 have hC:=X _ _ lk
 have T:OwnTail h bmV (.ref D::bmV):=tail_of_in X c.tl
 have B:=F.excBase_ValueError
 repeat (first|with_reducible refine wpAny_loadPart_at hC ?_|with_reducible refine wpAny_madeBy_exc hC ?_|wp_step)
 refine codeAny_call_builtin_code (Code.quiet_builtin _ B.quiet) (wpAny_check_new_subT B T hC (codeAny_exc_new_subT B T hC ?_ hz))
 show wpAny _ _ _ _ _ _
 have X1:K.In (newX h C rest):=X.keeps fun b o z=>UJ_ z
 have LI:=looks_findIn (M:=model prog w) X1 c.ini
 have LB:=bind_fn (M:=model prog w) X1 (.ref (h.objs.size+1)) c.fn
 have hC1:=UJ_ (rest:=rest) (C:=C) hC
 have yes:(Value.ref C::.ref D::bmV).contains (.ref C)=true:=by simp
 unfold isInstance
 repeat (first|with_reducible refine wpAny_loadPart_at VY_ ?_|(with_reducible refine wpAny_isSubtype_exc hC1 ?_;rw [yes])|wp_step)
 show wpAny _ _ (typeLookup (.ref C) _) _ _ _
 refine LI.at ?_
 refine wpAny_holding (wpAny_bind (LB.at ?_))
 refine wpAny_bind (wpAny_mono hq (fun r s' z=>?_) fun _ _ z=>z)
 obtain ⟨rfl,z⟩:=z
 wp_walk
 exact z
theorem call_exc (X:K.In h) (c:XC K C D fI) {Q:Value→Shared→Prop} (hz:rest.length≤sizeLine)
  (hq:wpAny (model prog w) (A.under (.builtin "type.__call__" ⟨.ref C::rest,[]⟩)) (call (.ref fI) (.ref (h.objs.size+1)::rest)) (fun r s'=>r=.none∧Q (.ref (h.objs.size+1)) s') E ⟨newX h C rest,g,d,t,os⟩) :
  wpAny (model prog w) A (call (.ref C) rest) Q E ⟨h,g,d,t,os⟩:=by
 obtain ⟨nm,q,N,bs,sn,sub,ab,col,dd,k0,k1,k2,k3,k5,lk⟩:=c.obj
 have hC:=X _ _ lk
 have f1:=tc_lookup
 have f2:=tc_bind (.ref C)
 have ty:(⟨h,g,d,t,os⟩:Shared).TypeIs (.ref C) "type":=⟨_,hC,rfl⟩
 refine wpAny_call (codeAny_of_tree ?_)
 show wpAny _ _ (callAny (.ref C) _) _ _ _
 repeat (any_goals (first|assumption|with_reducible refine wpAny_loadPart_at hC ?_|wp_step))
 refine ⟨rfl,codeAny_call_builtin_at (Code.quiet_builtin _ (by decide +kernel)) entry_typeCall (wpAny_check_type_call_sub hC (UL_ X c hz ?_))⟩
 exact hq
end
end L4
set_option Elab.async false
set_option linter.all false
set_option maxRecDepth 100000
namespace L4
open PySem PySem.Spec PyProof.Rows L2 L3
noncomputable def XN (e C:Addr) (dd:Option Addr):Heap→Prop:=fun h=>∃ oe vs,h.get? e=some oe∧oe.cls=.ref C∧oe.dict=dd∧oe.data=.fields vs∧1<vs.size∧vs[1]? = some .none
section
variable {P:Program} {w:World} {h h':Heap} {e C dx:Addr} {dd:Option Addr} {H:Hp} {fs:List (Str×V)}
theorem XN.ok {H':Hp} (x:XN e C dd h):ObjOk P w H' h e (.ext (XN e C dd)):=by
 obtain ⟨oe,vs,q,r⟩:=x
 exact ⟨⟨oe,vs,q,r⟩,⟨oe,q⟩,fun h1 h2 ⟨o,vs,z,r⟩ k=>⟨o,vs,k o z,r⟩⟩
end
end L4
set_option Elab.async false
set_option linter.all false
set_option maxRecDepth 100000
namespace L4
open PySem PySem.Spec PyProof.Rows L2 L3
noncomputable def spI (C:Addr) (fl:List Str):Sp:=fun vs H Q _=>∃ e args,vs=.ref e::args∧args.length=fl.length∧H e=some (.ext (XN e C none)) ∧
 ((fl=[]∧Q .non H)∨(fl≠[]∧∀ dx,H dx=none→dx≠e→Q .non (upd (upd H dx (.ext (XD dx (fl.zip args)))) e (.ext (XN e C (some dx))))))
section
variable {P:Program} {w:World} {K:Fg} {mg:Str→Option Value} {base:Heap} {qual:Str} {st:Stmt} {f:Addr} {fd:FuncData} {k:Nat} {C D:Addr} {f1 f2 q1 q2 self:Str} {a1 a2 a3 a4 b1 b2 b3 b4:Pos}
theorem zdK_ (Fn:Fun K "__init__" qual st f fd) (Sc:FnScope [self] [self] (ze_ st)) (hb:zr_ st=[.Pass a1]):FnOk P w K mg base (CX1 P w) (k+1) f fd [self] (spI C []):=by
 refine fn_x Fn Sc (fun vs H Q E h=>?_) (fun cdv A outer s H vs Q E hr h=>?_)
 ·obtain ⟨e,args,rfl,hl,_⟩:=h;simp at hl ⊢;exact hl
 ·obtain ⟨e,args,rfl,hl,he,h⟩:=h
  rcases h with ⟨_,h⟩|⟨h,_⟩
  ·rw [hb]
   exact ⟨_,Y6_ zaj_ VB_,h⟩
  ·exact absurd rfl h
end
end L4
set_option Elab.async false
set_option linter.all false
set_option maxRecDepth 100000
namespace L4
open PySem PySem.Spec PyProof.Rows L2 L3
section
variable {M:Model} {A:Around} {E:Value→Shared→Prop} {s:Shared} {env:Env} {K:Fg} {C D fI:Addr}
theorem Yo_ {x:Sem Value} {Q:Flow→Shared→Prop} (c:XC K C D fI) (hh:A.handled=none)
  (h:wpAny M A x (fun v s1=>∃ e oe vs,v=.ref e∧K.In s1.heap∧s1.heap.get? e=some oe∧oe.cls=.ref C∧oe.data=.fields vs∧vs[1]? = some .none∧E (.ref e) s1) E s) :
  wpAny M A (raiseStmt env (some x) none) Q E s:=by
 obtain ⟨nm,q,N,bs,sn,sub,ab,col,dd,k0,k1,k2,k3,k5,lk⟩:=c.obj
 have isB:(Value.ref C::.ref D::bmV).contains (.type "BaseException")=true:=by rfl
 unfold raiseStmt
 refine wpAny_bind (wpAny_mono h (fun v s1 z=>?_) fun _ _ z=>z)
 obtain ⟨e,oe,vs,rfl,X,he,hc,hd,h1,hE⟩:=z
 obtain ⟨hp,g,d,t,os⟩:=s1
 have hC:=X _ _ lk
 repeat (first|(with_reducible refine wpAny_loadPart_at he ?_;rw [hc])|with_reducible refine wpAny_loadPart_at hC ?_|(with_reducible refine wpAny_isSubtype_exc hC ?_;rw [isB])|with_reducible refine wpAny_field he hd h1 ?_|wp_step)
 exact wpAny_raiseNew_none hh hE
end
noncomputable def MadeX (H H':Hp) (e C:Addr) (fl:List Str) (vs:List V) (dd:Option Addr):Prop :=
 (fl=[]∧dd=none∧H'=upd H e (.ext (XN e C none)))∨(fl≠[]∧∃ dx,dd=some dx∧H dx=none∧dx≠e∧H'=upd (upd (upd H e (.ext (XN e C none))) dx (.ext (XD dx (fl.zip vs)))) e (.ext (XN e C (some dx))))
section
variable {X:Cx} {pins:List (Addr×Obj)} {σ:L2.St} {H:Hp} {s:Shared} {C D fI:Addr} {fd:FuncData} {ps fl:List Str} {k:Nat} {us:List Value} {vs:List V} {Q:Value→Shared→Prop} {E:Value→Shared→Prop}
theorem Xo_ (I:Inv X pins σ H s):Inv X pins σ (upd H (s.heap.objs.size+1) (.ext (XN (s.heap.objs.size+1) C none))) { s with heap:=newX s.heap C us }:=by
 have I1:=I.kept (h':=s.heap.push { cls:=.type "tuple",data:=.seq us.toArray }) (t':=s.toks) fun b u q=>Heap.get?_push_of_some _ q
 refine I1.laid (a:=s.heap.objs.size+1) (t':=s.toks) (h':=newX s.heap C us) (fun b u q=>Heap.get?_push_of_some _ q) (Nat.le_of_eq (Heap.size_push _ _)) ?_
 exact XN.ok ⟨_,_,VY_,rfl,rfl,rfl,(show 1<6 from by decide),rfl⟩
theorem Vt_ (c:XC X.K C D fI) (Fn:FnOk X.prog X.w X.K X.mg X.base (CX1 X.prog X.w) k fI fd ps (spI C fl)) (hr:Room (k+1) X.A) (hb:L2.Binds X.K fd ps []) (I:Inv X pins σ H s) (r:Vals vs us) (hl:vs.length=fl.length) (hz:us.length≤sizeLine)
  (h:∀ e dd H' s',s.heap.objs.size≤e→Inv X pins σ H' s'→MadeX H H' e C fl vs dd→H' e=some (.ext (XN e C dd))→Q (.ref e) s'):wpAny (model X.prog X.w) X.A (call (.ref C) us) Q E s:=by
 have I2:=Xo_ (C:=C) (us:=us) I
 have hn:H (s.heap.objs.size+1)=none:=I.hok.fresh (Nat.le_succ _)
 obtain ⟨hp,g,d,t,os⟩:=s
 have sp:∀ E',spI C fl (V.ref (hp.objs.size+1)::vs) (upd H (hp.objs.size+1) (.ext (XN (hp.objs.size+1) C none))) (fun v H'=>v=.non∧∃ dd,MadeX H H' (hp.objs.size+1) C fl vs dd∧H' (hp.objs.size+1)=some (.ext (XN (hp.objs.size+1) C dd))) E':=by
  intro E'
  refine ⟨_,vs,rfl,hl,zy_,?_⟩
  by_cases z:fl=[]
  ·exact .inl ⟨z,rfl,none,.inl ⟨z,rfl,rfl⟩,zy_⟩
  ·exact .inr ⟨z,fun dx q ne=>⟨rfl,some dx,.inr ⟨z,dx,rfl,by rw [zp_ ne] at q;exact q,ne,rfl⟩,zy_⟩⟩
 have r2:Vals (V.ref (hp.objs.size+1)::vs) (Value.ref (hp.objs.size+1)::us):=.cons rfl r
 have hl2:((Value.ref (hp.objs.size+1)::us)++[]).length=ps.length:=by
  have e:=r2.length
  rw [Fn.len _ _ _ _ (sp fun _ _ _=>False)] at e
  rw [List.append_nil]
  exact e.symm
 refine call_exc I.kIn c hz (wpAny_call (codeAny_mono (Fn.run _ X.stack _ _ ⟨Value.ref (hp.objs.size+1)::us,[]⟩ (Value.ref (hp.objs.size+1)::us) _ _ (fun _ _ _=>False) (hr.make C us []) (I2.env0.make C us []) (by
  have:=hb _ (Value.ref (hp.objs.size+1)::us) I2.kIn hl2
  rw [List.append_nil] at this
  exact this) r2 (sp _)) fun r s' q=>?_))
 cases r with
 | error e=>obtain ⟨_,_,_,_,_,_,_,_,_,_,z⟩:=q;exact z.elim
 | ok fl' =>
  cases fl' with
  | ret u =>
   obtain ⟨v,H',I3,rv,ev,dd,mk,he⟩:=I2.after q
   subst ev
   exact ⟨rv,h _ dd H' s' (Nat.le_succ _) I3 mk he⟩
  | next=>exact False.elim q
  | brk=>exact False.elim q
  | cont=>exact False.elim q
end
end L4
set_option Elab.async false
set_option linter.all false
set_option maxRecDepth 100000
namespace L4
open PySem PySem.Spec PyProof.Rows L2 L3
structure CCl (P:Program) (w:World) (K:Fg) (mg:Str→Option Value) (base:Heap) (x:Str) (k:Nat) (fl:List Str):Prop where
 ex:∃ C D fI fd ps,XC K C D fI∧FnOk P w K mg base (CX1 P w) k fI fd ps (spI C fl)∧L2.Binds K fd ps []∧mg x=some (.ref C)∧XQ K C x∧PySem.W.keepIn K (.ref C)=true∧(∀ f∈fl,WJ_ K C f)∧PySem.W.exmOne K (.ref C) (.ref C)=some true
noncomputable def zaa_ {S:Type} (x:Str):SM S:=fun K ρ=>K.x ⟨x,[]⟩ ρ
theorem X2_ {K:Fg} {F:Hp}:∀ {fl:List Str} {vs:List V} {ds:List D},RepL K F vs ds→fl.length=vs.length→Paired (fun (p:Str×V) (q:Str×D)=>p.1=q.1∧Rep K F p.2 q.2) (fl.zip vs) (fl.zip ds)
:=by
 intro fl vs ds r h
 induction vs generalizing fl ds with
 | nil=>cases r;rw [List.zip_nil_right,List.zip_nil_right];exact .nil
 | cons v vs ih=>cases r with
  | cons a b=>cases fl with
   | nil=>cases h
   | cons f fl=>exact .cons ⟨rfl,a⟩ (ih b (Nat.succ.inj h))
section
variable {X:Cx} {pins:List (Addr×Obj)} {σ:L2.St} {H H':Hp} {s:Shared} {e C:Addr} {dd:Option Addr} {fl:List Str} {vs:List V} {ds:List D} {G:Gh} {F:Hp} {ρ:En} {x:Str}
theorem WZ_ (I:Inv X pins σ H' s) (hs:X.s₀.heap.objs.size≤e) (hn:H e=none) (mk:MadeX H H' e C fl vs dd) (he:H' e=some (.ext (XN e C dd))) (St:StOk X.K G F σ H ρ) (r:RepL X.K F vs ds) (hl:fl.length=vs.length)
  (hc:XQ X.K C x) (xw:XW X G F ρ ⟨x,fl.zip ds⟩):X.xe (.ref e) s:=by
 obtain ⟨⟨oe,ws,q1,q2,q3,q4,q5,q6⟩,_⟩:=I.hok e _ he
 have I2:Inv X pins σ (upd H' e (.ext (XO e C dd))) s:=by
  have:=I.write (x:=e) (e:=e) (o:=.ext (XO e C dd)) (h':=s.heap) (t':=s.toks) (by rw [he];exact True.intro) (.inl rfl) (fun b u _ z=>z) ⟨_,q1⟩ (XO.ok ⟨oe,q1,q2,q3,by unfold PySem.W.notCls;rw [q4]⟩)
  exact this
 have low:∀ b u,b≠e→H b=some u→upd H' e (.ext (XO e C dd)) b=some u:=fun b u ne z=>by
  rw [zp_ ne]
  rcases mk with ⟨_,_,rfl⟩|⟨_,dx,_,hd,_,rfl⟩
  ·rw [zp_ ne];exact z
  ·rw [zp_ ne,zp_ (fun y=>by subst y;rw [hd] at z;cases z),zp_ ne];exact z
 have ne:∀ b u,H b=some u→b≠e:=fun b u z y=>by subst y;rw [hn] at z;cases z
 have xs:XS (upd H' e (.ext (XO e C dd))) s.heap X.s₀.heap.objs.size e C dd:=⟨hs,zy_,oe,ws,q1,q2,q3,q4,q5,.inl q6⟩
 have nt:∀ b,¬ TbOf s.heap e b:=fun b ⟨oe',vs',z1,z2,z3⟩=>by
  rw [q1] at z1;cases z1
  rw [q4] at z2;cases z2
  rw [q6] at z3;cases z3
 have fh0:Same F (upd H' e (.ext (XO e C dd))):=fun b u z=>low b u (ne b u (St.fh b u z)) (St.fh b u z)
 have oh0:Same G.O (upd H' e (.ext (XO e C dd))):=fun b u z=>low b u (ne b u (St.oh b u z)) (St.oh b u z)
 rcases mk with ⟨z,rfl,_⟩|⟨z,dx,rfl,hd,nx,rfl⟩
 ·subst z
  refine xw F _ s e C none pins σ ⟨fh0,oh0,St.fo,St.fb⟩ (St.fzok (Same.refl _)) I2 xs (fun p _=>nt p.1) ⟨hc,[],.inl ⟨rfl,rfl⟩,.nil⟩
 ·have fd:F dx=none:=St.fh.free hd
  have od:G.O dx=none:=St.oh.free hd
  have sm:Same F (upd F dx (.ext (XD dx (fl.zip vs)))):=uf_ fd
  refine xw (upd F dx (.ext (XD dx (fl.zip vs)))) _ s e C (some dx) pins σ ⟨fun b u z=>?_,oh0,fun b u z=>?_,St.fb.trans sm⟩ (St.fzok sm) I2 xs (fun p _=>nt p.1) ⟨hc,_,.inr ⟨dx,rfl,zy_⟩,X2_ (r.mono sm) hl⟩
  ·by_cases y:b=dx
   ·subst y
    rw [zy_] at z
    cases z
    rw [zp_ nx,zp_ nx,zy_]
   ·rw [zp_ y] at z
    exact fh0 b u z
  ·rw [zp_ (zq_ z od)]
   exact St.fo b u z
end
section
variable {S:Type} {X:Cx} {k:Nat} {x:Str} {fl:List Str} {p cpos pos:Pos} {e:Expr} {es:List Expr} {ms:Ev S (List D)}
theorem WC_ (C:CCl X.prog X.w X.K X.mg X.base x k []) (hr:Room (k+1) X.A) (hg:Gl X x) (hdb:(x==("__debug__" : Str))=false) :
  AS (S:=S) X (.Raise (some (.Call (.Name x p) [] [] cpos)) none pos) (zaa_ x):=by
 obtain ⟨Cl,D,fI,fd,ps,c,Fn,hb,hm,hc,kp,_⟩:=C.ex
 intro OK K G F σ H ρ E hO hX St ok eo
 unfold Z2_
 intro pins s I
 rw [arm_exec_Raise]
 refine wpAny_bind (wpAny_standAt (Yo_ c hr.hd ?_))
 refine wpAny_bind (wpAny_mono (wpAny_Call_Name_kw (JZ_ I hg hm (PySem.W.callWith_K0 I.kIn kp (Q:=fun v s1=>∃ e oe vs,v=.ref e∧X.K.In s1.heap∧s1.heap.get? e=some oe∧oe.cls=.ref Cl∧oe.data=.fields vs∧vs[1]? = some .none∧X.xe (.ref e) s1) ?_) hdb)) (fun v s3 z=>wpAny_bind (wpAny_standAt (wpAny_pure z))) fun _ _ z=>z)
 refine Vt_ (vs:=[]) (us:=[]) c Fn hr hb I .nil rfl (Nat.zero_le _) fun a dd H2 s2 hs I2 mk hh=>?_
 obtain ⟨⟨oe,ws,q1,q2,q3,q4,q5,q6⟩,_⟩:=I2.hok a _ hh
 exact ⟨a,oe,ws,rfl,I2.kIn,q1,q2,q4,q6,WZ_ (fl:=[]) (ds:=[]) I2 (Nat.le_trans I.sz hs) (I.hok.fresh hs) mk hh St .nil rfl hc (hX F ρ _ ok)⟩
end
end L4
set_option Elab.async false
set_option linter.all false
set_option maxRecDepth 100000
namespace L4
open PySem PySem.Spec PyProof.Rows L2 L3
section
variable {prog:Program} {w:World} {A:Around} {E:Value→Shared→Prop} {s:Shared} {env:Env} {K:Fg} {e C:Addr}
theorem Wg_ {t:Expr} {n:Str} {b0:Stmt} {suite:List Stmt} {pos:Pos} {rest:List ExceptHandler} {Q:Flow→Shared→Prop}
  (h:wpAny (model prog w) (A.mark (some (.ref e))) (eval t env) (fun c s1=>K.In s1.heap∧PySem.W.exmOne K (.ref C) c=some true∧(∃ oe,s1.heap.get? e=some oe∧oe.cls=.ref C) ∧
   wpAny (model prog w) (A.mark (some (.ref e))) (setFlight (.ref e) none) (fun _ s2=>wpAny (model prog w) (A.mark (some (.ref e))) (storeName env n (.ref e)) (fun _ s3 =>
    wpAny (model prog w) (A.mark (some (.ref e))) (execs (b0::suite) env) (fun f s4=>wpAny (model prog w) A (do bindName env n .none;unbindBehindTheSuite env n pos) (fun _ s5=>Q f s5) E s4) (fun _ _=>False) s3) (fun _ _=>False) s2) (fun _ _=>False) s1) (fun _ _=>False) s) :
  wpAny (model prog w) A (handleBy (.ref e) env (.ExceptHandler (some t) (some n) (b0::suite) pos::rest)) Q E s:=by
 refine wpAny_handleBy_cons (codeAny_handlers_test (wpAny_mono h (fun c s1 z=>?_) fun _ _ z=>z.elim)) (fun z=>nomatch z)
 obtain ⟨X,hx,⟨oe,he,hc⟩,k⟩:=z
 have LT:PySem.W.Looks (model prog w) s1.heap (typeOf (.ref e)) (.ref C):=hc▸(PySem.W.Looks.ld he).andThen .now
 obtain ⟨hp,g,d,tk,os⟩:=s1
 refine (PySem.W.exm_one (M:=model prog w) X LT hx).at ?_
 refine codeAny_handlers_suite_as (wpAny_mono k (fun _ s2 k2=>wpAny_mono k2 (fun _ s3 k3=>wpAny_mono k3 (fun f s4 k4=>k4) fun _ _ z=>z.elim) fun _ _ z=>z.elim) fun _ _ z=>z.elim)
theorem name_goes {n:Str} {pos:Pos} {m:Str→Option Value} {Q:Unit→Shared→Prop} (hl:env.kindOf n=some .local) (hn:s.heap.Ns env.locals m) (hk:env.scope.kind=.function)
  (k:∀ h' v t',h'.Ns env.locals (fun y=>if y=n then v else m y)→Heap.SameBut env.locals s.heap h'→Q () { s with heap:=h',toks:=t' }):wpAny (model prog w) A (do bindName env n .none;unbindBehindTheSuite env n pos) Q E s:=by
 have hc:(env.scope.kind==.class||(env.scope.kind==.module&&env.locals != env.globals))=false:=by rw [hk];rfl
 refine wpAny_bind (wpAny_bindName (wpAny_storeName_local hl hn (fun h1 n1 b1=>?_) hc))
 simp only [unbindBehindTheSuite,unbindName]
 refine wpAny_onRaise (wpAny_bind (wpAny_point (wpAny_bind ?_)))
 unfold deleteName
 simp only [hl,hc]
 rw [if_neg (by decide)]
 refine wpAny_bind (wpAny_nsDel_keeps n1 fun h2 v n2 b2=>?_)
 simp only [if_true,Option.isSome_some,Bool.not_true,Bool.false_eq_true,if_false]
 refine wpAny_pure (wpAny_point (k h2 v _ ?_ (b1.trans b2)))
 refine (show (fun y=>if y=n then v else if y=n then some Value.none else m y)=(fun y=>if y=n then v else m y) from ?_)▸n2
 funext y
 by_cases q:y=n
 ·rw [if_pos q,if_pos q]
 ·rw [if_neg q,if_neg q,if_neg q]
end
section
variable {X:Cx} {pins:List (Addr×Obj)} {σ:L2.St} {H:Hp} {s:Shared} {j:Nat} {n:Str} {A:Around} {E:Value→Shared→Prop}
theorem zaJ_ {pos:Pos} {Q:Unit→Shared→Prop} (I:Inv X pins σ H s) (hN:X.N.Nodup) (hj:X.N[j]? = some n) (hl:X.env.kindOf n=some .local)
  (k:∀ s',Inv X pins (σ.set j none) H s'→Q () s'):wpAny (model X.prog X.w) A (do bindName X.env n .none;unbindBehindTheSuite X.env n pos) Q E s:=by
 obtain ⟨m,hn,hv⟩:=id I.loc
 refine name_goes hl hn I.ok.kind fun h' v t' n1 b1=>k _ ?_
 have neL:∀ b o,X.s₀.heap.get? b=some o→b≠X.env.locals:=fun b o q=>Nat.ne_of_lt (Nat.lt_of_lt_of_le (Heap.lt_size q) I.ok.above)
 refine ⟨I.ok,I.os,I.bare,⟨fun b o q z hb hx=>?_,fun b o q z hb hx=>?_,I.base.free,fun b o q hx=>?_,I.base.tups,I.base.frzs,I.base.tbls⟩,⟨_,n1,fun i x u q1 q2 q3=>?_⟩,fun x c q=>?_,I.free,I.freeC,fun p hp=>?_,fun b o q=>?_,by simpa using I.len⟩
 ·exact (b1.2 b (neL b o q)).trans (I.base.keep b o q z hb hx)
 ·obtain ⟨sl,r⟩:=I.base.slot b o q z hb hx
  exact ⟨sl,(b1.2 b (neL b o q)).trans r⟩
 ·obtain ⟨o',r⟩:=I.base.there b o q hx
  exact ⟨o',(b1.2 b (neL b o q)).trans r⟩
 ·have ne:i≠j:=fun z=>by
   subst z
   have hi:i<σ.length:=by rw [I.len];exact (List.getElem?_eq_some_iff.mp q1).1
   rw [List.getElem?_set_self hi] at q2
   cases q2
  rw [List.getElem?_set_ne (Ne.symm ne)] at q2
  obtain ⟨w',r,l⟩:=hv i x u q1 q2 q3
  refine ⟨w',r,?_⟩
  rcases l with ⟨l1,l2⟩|⟨l1,c,l2,l3⟩
  ·refine .inl ⟨l1,?_⟩
   have nx:x≠n:=fun z=>by subst z;exact ne (JS_ hN q1 hj)
   show (if x=n then v else m x)=_
   rw [if_neg nx];exact l2
  ·refine .inr ⟨l1,c,l2,?_⟩
   obtain ⟨oc,g1,g2⟩:=l3
   exact ⟨oc,(b1.2 c (I.cne x c l2)).trans g1,g2⟩
 ·obtain ⟨v',oc,g1,g2⟩:=I.cell x c q
  exact ⟨v',oc,(b1.2 c (I.cne x c q)).trans g1,g2⟩
 ·obtain ⟨g1,g2,g3,g4⟩:=I.pin p hp
  exact ⟨(b1.2 p.1 g3).trans g1,g2,g3,g4⟩
 ·refine (I.hok b o q).stay (fun c u hc r=>(b1.2 c ?_).trans r) (fun _ r=>r) fun _ _ r=>r
  rintro rfl
  rcases hc with z|z
  ·rw [←z,I.free] at q;cases q
  ·rw [I.free] at z;cases z
noncomputable abbrev cau (X:Cx) (e:Addr):Cx:={ X with A:=X.A.mark (some (.ref e)),calm:=false,xe:=fun _ _=>False }
theorem U2_ {e:Addr} (I:Inv X pins σ H s):Inv (cau X e) pins σ H s :=
 ⟨⟨I.ok.mod,I.ok.kind,I.ok.glob,I.ok.blt,I.ok.above,I.ok.inj,I.ok.has,I.ok.cab,(fun z=>nomatch z),I.ok.frames,I.ok.stk,I.ok.exf,I.ok.bs,I.ok.bsz,I.ok.noex,I.ok.exfs,I.ok.funs,I.ok.frf⟩,I.os,I.bare,I.base,I.loc,I.cell,I.free,I.freeC,I.pin,I.hok,I.len⟩
theorem Q3_ {e:Addr} (h:X.calm=true→X.A.handled=none) (I:Inv (cau X e) pins σ H s):Inv X pins σ H s :=
 ⟨⟨I.ok.mod,I.ok.kind,I.ok.glob,I.ok.blt,I.ok.above,I.ok.inj,I.ok.has,I.ok.cab,h,I.ok.frames,I.ok.stk,I.ok.exf,I.ok.bs,I.ok.bsz,I.ok.noex,I.ok.exfs,I.ok.funs,I.ok.frf⟩,I.os,I.bare,I.base,I.loc,I.cell,I.free,I.freeC,I.pin,I.hok,I.len⟩
end
end L4
set_option Elab.async false
set_option linter.all false
set_option maxRecDepth 100000
namespace L4
open PySem PySem.Spec PyProof.Rows L2 L3
section
variable {M:Model} {A:Around} {E:Value→Shared→Prop} {s:Shared} {e C:Addr} {dd:Option Addr} {H:Hp} {lo:Nat}
theorem flight_again {Q:Unit→Shared→Prop} (fs:List Addr) (xs:XS H s.heap lo e C dd) (k:∀ h',Mv fs s.heap h' e→XS H h' lo e C dd→Q () { s with heap:=h' }):wpAny M A (setFlight (.ref e) none) Q E s:=by
 obtain ⟨oe,vs,he,hc,hdd,hd,hz,tb⟩:=xs.obj
 simp only [setFlight]
 rcases tb with tb|⟨T,oT,ts,tb,hTe,hTl,hTn,hT,hTd,t3⟩
 ·refine wpAny_bind (wpAny_field he hd tb ?_)
  rw [if_neg (by decide)]
  exact wpAny_pure (k s.heap ⟨fun _ _ q _ _ _=>q,fun b o q _ _=>⟨o.slots,q⟩,fun b o q=>⟨o,q⟩⟩ xs)
 ·refine wpAny_bind (wpAny_field he hd tb ?_)
  rw [if_pos (by simp)]
  have z3:3<ts.size:=(Array.getElem?_eq_some_iff.mp t3).1
  have isT:TbOf s.heap e T:=⟨oe,vs,he,hd,tb⟩
  have off:∀ b,b≠T→(s.heap.update T (Obj.mapFields (·.setIfInBounds 3 ((none:Option Addr).elim Value.none fun f=>rawInt f)))).get? b=s.heap.get? b:=fun b hb=>Heap.get?_update_other _ _ (Ne.symm hb)
  have T0:(s.heap.update T (Obj.mapFields (·.setIfInBounds 3 ((none:Option Addr).elim Value.none fun f=>rawInt f)))).get? T=some (oT.mapFields (·.setIfInBounds 3 ((none:Option Addr).elim Value.none fun f=>rawInt f))):=Heap.get?_update_self _ hT (Obj.isFreed_of_fields (Obj.data_mapFields hTd _))
  have nt:∀ b,¬ TbOf s.heap e b→b≠T:=fun b z q=>z (q▸isT)
  refine wpAny_setField hT hTd z3 (k _ ⟨fun b o q _ _ z=>(off b (nt b z)).trans q,fun b o q _ z=>⟨o.slots,(off b (nt b z)).trans q⟩,fun b o q=>?_⟩ ⟨xs.yg,xs.trk,oe,vs,(off e (Ne.symm hTe)).trans he,hc,hdd,hd,hz,.inr ⟨T,_,_,tb,hTe,hTl,hTn,T0,Obj.data_mapFields hTd _,by simp [z3]⟩⟩)
  by_cases z:b=T
  ·subst z;exact ⟨_,T0⟩
  ·exact ⟨o,(off b z).trans q⟩
end
theorem _root_.L3.StOk.setdead {K:Fg} {G:Gh} {F H:Hp} {σ:L2.St} {ρ:En} (S:StOk K G F σ H ρ) {j:Nat} (hj:∀ av,ρ[j]? ≠ some (some av)) (u:Option V):StOk K G F (σ.set j u) H ρ:=by
 have ne:∀ i av,ρ[i]? = some (some av)→i≠j:=fun i av q z=>by subst z;exact hj av q
 have at_:∀ i av,ρ[i]? = some (some av)→(σ.set j u)[i]? = σ[i]?:=fun i av q=>List.getElem?_set_ne (Ne.symm (ne i av q))
 have ao:∀ i c,own ρ i c→(σ.set j u)[i]? = σ[i]?:=fun i c q=>by rcases q with q|q<;>exact at_ i _ q
 refine ⟨S.fh,S.oh,S.fo,by simpa using S.ln,fun i d q=>by rw [at_ i _ q];exact S.fz i d q,fun i c q=>by rw [ao i c q];exact S.ow i c q,fun i k c e a q1 q2 z1 z2=>?_,fun i a q=>?_,S.pq,S.fb⟩
 ·rw [ao i c q1] at z1
  rw [ao k e q2] at z2
  exact S.dj i k c e a q1 q2 z1 z2
 ·obtain ⟨z1,c,z2⟩:=S.pp i a q
  exact ⟨by rw [at_ i _ z2];exact z1,c,z2⟩
end L4
set_option Elab.async false
set_option linter.all false
set_option maxRecDepth 100000
namespace L4
open PySem PySem.Spec PyProof.Rows L2 L3
theorem av {X:Cx} (i:Nat) {x:Str} {pos:Pos} (hN:X.N[i]? = some x:=by rfl) (hv:Vis X.env.scope x:=by first|exact Or.inl rfl|exact Or.inr (Or.inl rfl)|exact Or.inr (Or.inr rfl))
  (hd:(x==("__debug__" : Str))=false:=by decide) (hcd:(x==("__classdict__" : Str))=false:=by decide):AP X (.Name x pos) (pVar i):=zcX_ hN hv hd hcd
end L4
set_option Elab.async false
set_option linter.all false
set_option maxRecDepth 100000
namespace L4
open PySem PySem.Spec PyProof.Rows L2 L3
theorem lenS {α:Type} {us:List α} {n:Nat} (h:us.length=n+1):∃ a r,us=a::r∧r.length=n:=by
 cases us with
 | nil=>exact absurd h (Nat.succ_ne_zero n).symm
 | cons a r=>exact ⟨a,r,rfl,Nat.succ.inj h⟩
theorem len1 {α:Type} {us:List α} (h:us.length=1):∃ a0,us=[a0]:=by
 obtain ⟨a0,r,rfl,h0⟩:=lenS h
 obtain rfl:=List.eq_nil_of_length_eq_zero h0
 exact ⟨a0,rfl⟩
theorem len2 {α:Type} {us:List α} (h:us.length=2):∃ a0 a1,us=[a0,a1]:=by
 obtain ⟨a0,r,rfl,h0⟩:=lenS h
 obtain ⟨a1,rfl⟩:=len1 h0
 exact ⟨a0,a1,rfl⟩
theorem len3 {α:Type} {us:List α} (h:us.length=3):∃ a0 a1 a2,us=[a0,a1,a2]:=by
 obtain ⟨a0,r,rfl,h0⟩:=lenS h
 obtain ⟨a1,a2,rfl⟩:=len2 h0
 exact ⟨a0,a1,a2,rfl⟩
theorem len4 {α:Type} {us:List α} (h:us.length=4):∃ a0 a1 a2 a3,us=[a0,a1,a2,a3]:=by
 obtain ⟨a0,r,rfl,h0⟩:=lenS h
 obtain ⟨a1,a2,a3,rfl⟩:=len3 h0
 exact ⟨a0,a1,a2,a3,rfl⟩
theorem bnd1 {K:Fg} {x qual:Str} {st:Stmt} {f:Addr} {fd:FuncData} {p0:Str} (F:Fun K x qual st f fd)
  (h:∀ (kV doc pm:Value) (an:Option Addr) (cdv ct:Value) (u0:Value),bindArgs (PySem.W.fnOf x qual (zx_ st) (zr_ st) (ze_ st) .none kV doc pm an cdv ct) ⟨[u0],[]⟩=pure (List.zip [p0] [u0])):Binds K fd [p0] [] :=
 F.binds fun a b c d e g us hl=>by obtain ⟨u0,rfl⟩:=len1 hl;exact h a b c d e g u0
theorem bnd2 {K:Fg} {x qual:Str} {st:Stmt} {f:Addr} {fd:FuncData} {p0 p1:Str} (F:Fun K x qual st f fd)
  (h:∀ (kV doc pm:Value) (an:Option Addr) (cdv ct:Value) (u0 u1:Value),bindArgs (PySem.W.fnOf x qual (zx_ st) (zr_ st) (ze_ st) .none kV doc pm an cdv ct) ⟨[u0,u1],[]⟩=pure (List.zip [p0,p1] [u0,u1])):Binds K fd [p0,p1] [] :=
 F.binds fun a b c d e g us hl=>by obtain ⟨u0,u1,rfl⟩:=len2 hl;exact h a b c d e g u0 u1
theorem bnd3 {K:Fg} {x qual:Str} {st:Stmt} {f:Addr} {fd:FuncData} {p0 p1 p2:Str} (F:Fun K x qual st f fd)
  (h:∀ (kV doc pm:Value) (an:Option Addr) (cdv ct:Value) (u0 u1 u2:Value),bindArgs (PySem.W.fnOf x qual (zx_ st) (zr_ st) (ze_ st) .none kV doc pm an cdv ct) ⟨[u0,u1,u2],[]⟩=pure (List.zip [p0,p1,p2] [u0,u1,u2])):Binds K fd [p0,p1,p2] [] :=
 F.binds fun a b c d e g us hl=>by obtain ⟨u0,u1,u2,rfl⟩:=len3 hl;exact h a b c d e g u0 u1 u2
theorem bnd4 {K:Fg} {x qual:Str} {st:Stmt} {f:Addr} {fd:FuncData} {p0 p1 p2 p3:Str} (F:Fun K x qual st f fd)
  (h:∀ (kV doc pm:Value) (an:Option Addr) (cdv ct:Value) (u0 u1 u2 u3:Value),bindArgs (PySem.W.fnOf x qual (zx_ st) (zr_ st) (ze_ st) .none kV doc pm an cdv ct) ⟨[u0,u1,u2,u3],[]⟩=pure (List.zip [p0,p1,p2,p3] [u0,u1,u2,u3])):Binds K fd [p0,p1,p2,p3] [] :=
 F.binds fun a b c d e g us hl=>by obtain ⟨u0,u1,u2,u3,rfl⟩:=len4 hl;exact h a b c d e g u0 u1 u2 u3
end L4
set_option Elab.async false
set_option linter.all false
set_option maxRecDepth 100000
namespace L4
open PySem PySem.Spec PyProof.Rows L2 L3
noncomputable def y5_ (tb:List (Str×Bool)):D→Option Bool
 | .dict ((.none,.str c)::_)=>tb.lookup c
 | _=>none
noncomputable def VK_ (tb:List (Str×Bool)) (p:Pu D):Pu Bool:=fun ρ=>bd (p ρ) fun d=>oM (y5_ tb d)
noncomputable def Inst1 (K:Fg) (cv:Value):List (Str×Bool)→Prop
 | []=>True
 | (c,b)::r=>(∃ C,PySem.W.nsIn K mainGlobals c=some (some (.ref C))∧PySem.W.kitOne K (.ref C) cv=some b)∧Inst1 K cv r
noncomputable def InstT (K:Fg) (its:List Value):List (Str×Bool)→Prop
 | []=>True
 | (c,b)::r=>(∃ C,PySem.W.nsIn K mainGlobals c=some (some (.ref C))∧PySem.W.kitAny K (.ref C) its=some b)∧InstT K its r
theorem Inst1.at {K:Fg} {cv:Value}:∀ {tb:List (Str×Bool)} {c:Str} {b:Bool} {C:Addr},Inst1 K cv tb→tb.lookup c=some b→PySem.W.nsIn K mainGlobals c=some (some (.ref C))→PySem.W.kitOne K (.ref C) cv=some b
 | (d,b')::r,c,b,C,h,l,n=>by
  rw [List.lookup_cons] at l
  cases q:c==d with
  | true =>
   rw [q] at l
   cases l
   have:c=d:=by simpa using q
   subst this
   obtain ⟨⟨C',n',k⟩,_⟩:=h
   rw [n] at n'
   cases n'
   exact k
  | false=>rw [q] at l;exact Inst1.at h.2 l n
theorem InstT.at {K:Fg} {its:List Value}:∀ {tb:List (Str×Bool)} {c:Str} {b:Bool} {C:Addr},InstT K its tb→tb.lookup c=some b→PySem.W.nsIn K mainGlobals c=some (some (.ref C))→PySem.W.kitAny K (.ref C) its=some b
 | (d,b')::r,c,b,C,h,l,n=>by
  rw [List.lookup_cons] at l
  cases q:c==d with
  | true =>
   rw [q] at l
   cases l
   have:c=d:=by simpa using q
   subst this
   obtain ⟨⟨C',n',k⟩,_⟩:=h
   rw [n] at n'
   cases n'
   exact k
  | false=>rw [q] at l;exact InstT.at h.2 l n
theorem XU_ {K:Fg} {F:Hp} {v:V} {c:Str} {es:List (D×D)} (r:Rep K F v (.dict ((.none,.str c)::es))):∃ a C dd fv,v=.ref a∧F a=some (.ext (XO a C dd))∧XQ K C c∧FX F dd fv∧es.map (·.1)=fv.map (fun p=>.str p.1)∧RepL K F (fv.map (·.2)) (es.map (·.2)):=by
 cases r with
 | dct _ h _=>exact absurd (zcG_ h) (by simp [isXe])
 | dck _ h _=>exact absurd (zcH_ h) (by simp [isXe])
 | exc h1 q fx h2 h3=>exact ⟨_,_,_,_,rfl,h1,q,fx,h2,h3⟩
theorem FX.xat {F H:Hp} {a C:Addr} {dd:Option Addr} {fv:List (Str×V)} (s:Same F H) (h1:F a=some (.ext (XO a C dd))) (fx:FX F dd fv):XAt H a C dd:=⟨s _ _ h1,fun dx z=>by
 rcases fx with ⟨z',_⟩|⟨dx',z',y⟩
 ·rw [z'] at z;cases z
 ·rw [z'] at z;cases z;exact ⟨_,s _ _ y⟩⟩
noncomputable def zbH_ (K:Fg) (tb:List (Str×Bool)) (vc:V):List V→Hp→VK→Prop:=fun xs H Q=>∃ v d b,xs=[v,vc]∧Rep K H v d∧y5_ tb d=some b∧Q (.bl b) H
noncomputable def zbG_ (K:Fg) (tb:List (Str×Bool)) (vcs:List V):List V→Hp→VK→Prop:=fun xs H Q=>∃ v p d b,xs=[v,.ref p]∧H p=some (.tup vcs)∧Rep K H v d∧y5_ tb d=some b∧Q (.bl b) H
theorem UQ_ {tb:List (Str×Bool)} {d:D} {b:Bool} (h:y5_ tb d=some b):∃ c es,d=.dict ((.none,.str c)::es)∧tb.lookup c=some b:=by
 unfold y5_ at h
 split at h
 ·exact ⟨_,_,rfl,h⟩
 ·cases h
theorem Q6_ {X:Cx} {tb:List (Str×Bool)} {vc:V} {cv:Value} (hv:RelV vc cv) (hu:∀ u,RelV vc u→u=cv) (ht:Inst1 X.K cv tb):CallR X (.builtin "isinstance") (zbH_ X.K tb vc):=by
 intro pins s σ H xs us Q I r h
 obtain ⟨v,d,b,rfl,rp,hb,q⟩:=h
 obtain ⟨u,w,rfl,ru,rw'⟩:=vals2 r
 have:=hu w rw'
 subst this
 obtain ⟨c,es,rfl,hl⟩:=UQ_ hb
 obtain ⟨a,C,dd,fv,rfl,h1,xq,fx,_,_⟩:=XU_ rp
 cases ru
 obtain ⟨D,fI,xc⟩:=xq.xc
 exact QV_ I xc xq.kc (fx.xat (Same.refl _) h1) (ht.at hl xq.ns) fun tk=>⟨.bl _,H,I.tok tk,rfl,q⟩
theorem Q5_ {X:Cx} {tb:List (Str×Bool)} {vcs:List V} {its:List Value} (hu:∀ us,Vals vcs us→us=its) (ht:InstT X.K its tb):CallR X (.builtin "isinstance") (zbG_ X.K tb vcs):=by
 intro pins s σ H xs us Q I r h
 obtain ⟨v,p,d,b,rfl,hp,rp,hb,q⟩:=h
 obtain ⟨u,w,rfl,ru,rw'⟩:=vals2 r
 cases rw'
 obtain ⟨c,es,rfl,hl⟩:=UQ_ hb
 obtain ⟨a,C,dd,fv,rfl,h1,xq,fx,_,_⟩:=XU_ rp
 cases ru
 obtain ⟨D,fI,xc⟩:=xq.xc
 obtain ⟨its',rv,⟨o,e1,e2,n',e3⟩,hz⟩:=I.tuple (SqT.of hp)
 have:=hu its' rv
 subst this
 obtain ⟨cl,d1,da,sl⟩:=o
 dsimp only at e2 e3
 subst e2 e3
 exact YD_ I xc xq.kc (fx.xat (Same.refl _) h1) e1 (ht.at hl xq.ns) fun tk=>⟨.bl _,H,I.tok tk,rfl,q⟩
noncomputable def tCs:List V→TA
 | []=>tNil
 | v::r=>zbp_ (tC v) (tCs r)
theorem XE_ {σ:L2.St} {H:Hp}:∀ {vs:List V} {Q:List V→Hp→Prop},Q vs H→tCs vs σ H Q
 | [],Q,h=>h
 | v::r,Q,h=>by
  show tCs r σ H fun ys H2=>Q (v::ys) H2
  exact XE_ h
section
variable {X:Cx} {e t:Expr} {ts:List Expr} {p:Pu D} {pos p1 p2:Pos} {tb:List (Str×Bool)} {x1:ExprContext}
theorem QA_ {vc:V} {cv:Value} (hv:RelV vc cv) (hu:∀ u,RelV vc u→u=cv) (htb:Inst1 X.K cv tb) (hg:Gl X "isinstance") (hm:X.mg "isinstance" = none) (ht:PE X t (tC vc)) (ha:AP X e p) (hs:starEach [e,t] X.env=(false,eval e X.env)::starEach [t] X.env) (hs2:starEach [t] X.env=(false,eval t X.env)::starEach [] X.env)
  (hpl:(backTo pos (starEach [t] X.env)).any (·.1)=false):AB X (.Call (.Name "isinstance" p1) [e,t] [] pos) (VK_ tb p) :=
 fun G F σ H ρ Q S w=>sem (Zj_ (Q6_ hv hu htb) hg hm (by decide +kernel) (uL_ zs_ (uL_ ht Jr_ hs2) hs) (by decide) (by decide) hs hpl) (ha G F σ H ρ _ S (w.bind.imp fun d F1 H1 s1 S1 w1 v hv=>by
  obtain ⟨b,hb,k⟩:=w1.opt
  exact ⟨v,d,b,rfl,hv.mono S1.fh,hb,k F1 H1 (Same.refl _) S1⟩))
end
end L4
set_option Elab.async false
set_option linter.all false
set_option maxRecDepth 100000
namespace L4
open PySem PySem.Spec PyProof.Rows L2 L3
section
variable {X:Cx} {e:Expr} {ts:List Expr} {p:Pu D} {pos p1 p2:Pos} {tb:List (Str×Bool)}
theorem XA_ {vcs:List V} {its:List Value} {x1} (hu:∀ us,Vals vcs us→us=its) (htb:InstT X.K its tb) (hg:Gl X "isinstance") (hm:X.mg "isinstance" = none) (ht:PA X ts (tCs vcs)) (hl:vcs.length≤1000) (ha:AP X e p)
  (hs:starEach [e,.Tuple ts x1 p2] X.env=(false,eval e X.env)::starEach [.Tuple ts x1 p2] X.env) (hs2:starEach [.Tuple ts x1 p2] X.env=(false,eval (.Tuple ts x1 p2) X.env)::starEach [] X.env)
  (hpl:(backTo pos (starEach [.Tuple ts x1 p2] X.env)).any (·.1)=false):AB X (.Call (.Name "isinstance" p1) [e,.Tuple ts x1 p2] [] pos) (VK_ tb p) :=
 fun G F σ H ρ Q S w=>sem (Zj_ (Q5_ hu htb) hg hm (by decide +kernel) (uL_ zs_ (uL_ (VG_ ht) Jr_ hs2) hs) (by decide) (by decide) hs hpl) (ha G F σ H ρ _ S (w.bind.imp fun d F1 H1 s1 S1 w1 v hv=>by
  obtain ⟨b,hb,k⟩:=w1.opt
  refine XE_ ⟨UN_ hl,fun q hq=>?_⟩
  have S2:=S1.lay (o:=.tup vcs) hq
  exact ⟨v,q,d,b,rfl,zy_,hv.mono S2.fh,hb,k F1 _ (Same.refl _) S2⟩))
end
noncomputable def zdd_ (K:Fg) (f:Str):List Str→Prop
 | []=>True
 | c::r=>(∃ C,PySem.W.nsIn K mainGlobals c=some (some (.ref C))∧WJ_ K C f)∧zdd_ K f r
noncomputable abbrev _root_.L2.Cx.wishP (X:Cx) (E:Value→Shared→Prop) (pn:List (Addr×Obj)):Cx:={ X with xe:=E,pn:=pn }
section
variable {X:Cx} {pins pins':List (Addr×Obj)} {σ:L2.St} {H:Hp} {s:Shared} {E:Value→Shared→Prop}
theorem _root_.L2.Inv.wishP (I:Inv X pins σ H s) (E:Value→Shared→Prop):Inv (X.wishP E (X.pn++pins)) [] σ H s :=
 ⟨⟨I.ok.mod,I.ok.kind,I.ok.glob,I.ok.blt,I.ok.above,I.ok.inj,I.ok.has,I.ok.cab,I.ok.hd,I.ok.frames,I.ok.stk,I.ok.exf,I.ok.bs,I.ok.bsz,I.ok.noex,I.ok.exfs,I.ok.funs,I.ok.frf⟩,I.os,I.bare,I.base,I.loc,I.cell,I.free,I.freeC,fun p hp=>I.pin p (by simpa using hp),I.hok,I.len⟩
theorem _root_.L2.Inv.unwishP (I:Inv (X.wishP E (X.pn++pins)) pins' σ H s):Inv X pins σ H s :=
 ⟨⟨I.ok.mod,I.ok.kind,I.ok.glob,I.ok.blt,I.ok.above,I.ok.inj,I.ok.has,I.ok.cab,I.ok.hd,I.ok.frames,I.ok.stk,I.ok.exf,I.ok.bs,I.ok.bsz,I.ok.noex,I.ok.exfs,I.ok.funs,I.ok.frf⟩,I.os,I.bare,I.base,I.loc,I.cell,I.free,I.freeC,fun p hp=>I.pin p (List.mem_append_left _ hp),I.hok,I.len⟩
theorem QJ_ {Dd:Ends} {f:Flow} {s':Shared} (h:SP (X.wishP E (X.pn++pins)) [] Dd f s'):SP X pins Dd f s':=by
 cases f with
 | next=>obtain ⟨σ',H',I,q⟩:=h;exact ⟨σ',H',I.unwishP,q⟩
 | brk=>obtain ⟨σ',H',I,q⟩:=h;exact ⟨σ',H',I.unwishP,q⟩
 | cont=>obtain ⟨σ',H',I,q⟩:=h;exact ⟨σ',H',I.unwishP,q⟩
 | ret u=>obtain ⟨v,σ',H',I,r,q⟩:=h;exact ⟨v,σ',H',I.unwishP,r,q⟩
end
theorem _root_.L3.StOk.reB {K:Fg} {G:Gh} {F H B:Hp} {σ:L2.St} {ρ:En} (S:StOk K { G with B:=B } F σ H ρ) (h:Same G.B F):StOk K G F σ H ρ :=
 ⟨S.fh,S.oh,S.fo,S.ln,S.fz,fun i c q=>by obtain ⟨a,e,oa⟩:=S.ow i c q;exact ⟨a,e,oa.nf,oa.no,oa.he⟩,S.dj,S.pp,S.pq,h⟩
theorem _root_.L3.StOk.toB {K:Fg} {G:Gh} {F H:Hp} {σ:L2.St} {ρ:En} (S:StOk K G F σ H ρ):StOk K { G with B:=F } F σ H ρ :=
 ⟨S.fh,S.oh,S.fo,S.ln,S.fz,fun i c q=>by obtain ⟨a,e,oa⟩:=S.ow i c q;exact ⟨a,e,oa.nf,oa.no,oa.he⟩,S.dj,S.pp,S.pq,Same.refl _⟩
noncomputable def noOp (ρ:En):Bool:=ρ.all fun x=>match x with
 | some (.op _)=>false
 | _=>true
noncomputable def JO_ (sh:List Kd):Bool:=sh.all fun k=>match k with
 | .f=>true
 | .dead=>true
 | _=>false
theorem JN_:∀ {sh:List Kd} {s:SOf sh} {i:Nat} {av:AV},JO_ sh=true→(wr sh s)[i]? = some (some av)→∃ d,av=.fz d
 | [],s,i,av,_,q=>by simp [wr] at q
 | .f::r,s,0,av,h,q=>by simp [wr] at q;exact ⟨_,q.symm⟩
 | .f::r,s,i+1,av,h,q=>JN_ (sh:=r) (s:=s.2) (i:=i) (by simpa [JO_] using h) (by simpa [wr] using q)
 | .dead::r,s,0,av,h,q=>by simp [wr] at q
 | .dead::r,s,i+1,av,h,q=>JN_ (sh:=r) (s:=s) (i:=i) (by simpa [JO_] using h) (by simpa [wr] using q)
 | .o::r,s,i,av,h,q=>by simp [JO_] at h
 | .p::r,s,i,av,h,q=>by simp [JO_] at h
 | .t::r,s,i,av,h,q=>by simp [JO_] at h
 | .k::r,s,i,av,h,q=>by simp [JO_] at h
noncomputable def VS_ {S:Type} (cs:List Str) (c:Str) (m:M S):M S:=match cs.contains c with
 | true=>m
 | false=>.bad
noncomputable def tryE {S A B:Type} (m:M (A ⊕ (Ex×B))) (k:A→M S) (h:Ex→B→M S):M S:=bd m fun r=>match r with
 | .inl a=>k a
 | .inr p=>h p.1 p.2
noncomputable def onX {S T:Type} (h:Ex→M T) (m:M S) (k:S→M T):M T:=m.on h k
noncomputable def KB (sh shx:List Kd):KS (SOf sh ⊕ (Ex×SOf shx)):=⟨rdk sh fun s=>.ret (.inl s),fun _ _=>.bad,fun _ _=>.bad,fun _=>.bad,fun _=>.bad,fun ex ρ=>rdk shx (fun s=>.ret (.inr (ex,s))) ρ⟩
noncomputable def KH {S:Type} (j:Nat) (K:KS S):KS S:=⟨fun ρ=>K.nx (ρ.set j none),fun _ _=>.bad,fun _ _=>.bad,fun _=>.bad,fun _=>.bad,fun _ _=>.bad⟩
noncomputable def sTry {S:Type} (j:Nat) (cs:List Str) (sh shx:List Kd) (mb:SM (SOf sh ⊕ (Ex×SOf shx))) (mh:SM S):SM S:=fun K ρ=>match noOp ρ with
 | true=>tryE (mb (KB sh shx) ρ) (fun s=>K.nx (wr sh s)) fun ex s=>VS_ cs ex.cls (mh (KH j K) ((wr shx s).set j (some (.fz (encX ex)))))
 | false=>.bad
noncomputable def HandL (K:Fg) (hv:Value):List Str→Prop
 | []=>True
 | c::r=>(∃ C,PySem.W.nsIn K mainGlobals c=some (some (.ref C))∧PySem.W.exmOne K (.ref C) hv=some true)∧HandL K hv r
theorem HandL.at {K:Fg} {hv:Value}:∀ {cs:List Str} {c:Str} {C:Addr},HandL K hv cs→cs.contains c=true→PySem.W.nsIn K mainGlobals c=some (some (.ref C))→PySem.W.exmOne K (.ref C) hv=some true
 | d::r,c,C,h,l,n=>by
  rw [List.contains_cons,Bool.or_eq_true] at l
  rcases l with q|q
  ·have:c=d:=by simpa using q
   subst this
   obtain ⟨⟨C',n',k⟩,_⟩:=h
   rw [n] at n'
   cases n'
   exact k
  ·exact HandL.at h.2 q n
section
variable {S:Type} {X:Cx} {j:Nat} {x n:Str} {b0:Stmt} {body suite:List Stmt} {pC ph pos:Pos} {cs:List Str} {sh shx:List Kd} {hv:Value} {mb:SM (SOf sh ⊕ (Ex×SOf shx))} {mh:SM S}
theorem zcU_ (hmx:X.mg x=some hv) (hgx:Gl X x) (hcs:HandL X.K hv cs) (hb:∀ E pn,ASs (X.wishP E pn) body mb) (hh:∀ a,ASs (cau X a) (b0::suite) mh) (hF:JO_ shx=true)
  (hN:X.N.Nodup) (hj:X.N[j]? = some n) (hnl:X.env.scope.names.lookup n=some .local) (stk:X.stack=X.env::X.outer) (frm:X.env.frame=some X.env.locals) (hdx:(x==("__debug__" : Str))=false) :
  AS X (.Try body [.ExceptHandler (some (.Name x pC)) (some n) (b0::suite) ph] [] [] pos) (sTry j cs sh shx mb mh):=by
 intro OK K G F σ H ρ E hO hX St ok eo
 unfold sTry at ok
 cases hq:noOp ρ with
 | false=>rw [hq] at ok;exact (hO ok).elim
 | true =>
 rw [hq] at ok
 dsimp only at ok
 have noP:∀ i a,G.P i≠some a:=fun i a z=>by
  obtain ⟨_,c,q⟩:=St.pp i a z
  unfold noOp at hq
  have:=List.all_eq_true.mp hq _ (List.mem_of_getElem? q)
  cases this
 unfold Z2_
 intro pins s I
 rw [arm_exec_Try]
 refine wpAny_bind (wpAny_standAt (wpAny_tryStmt_except ?_))
 generalize hXE:(fun (e:Value) (s1:Shared)=>wpAny (model X.prog X.w) X.A (noteFrame e X.env) (fun _ s2=>wpAny (model X.prog X.w) X.A (setFlight e none) (fun _ s3=>wpAny (model X.prog X.w) X.A (handleBy e X.env [.ExceptHandler (some (.Name x pC)) (some n) (b0::suite) ph]) (SP X pins E) X.xe s3) X.xe s2) X.xe s1)=XE
 let E1:Ends:={ nx:=E.nx,rt:=fun _ _=>False,bk:=fun _ _=>False,ct:=fun _ _=>False }
 let OK1:M (SOf sh ⊕ (Ex×SOf shx))→Prop:=fun m=>OK (tryE m (fun s=>K.nx (wr sh s)) fun ex s=>VS_ cs ex.cls (mh (KH j K) ((wr shx s).set j (some (.fz (encX ex))))))
 have hO1:KOk OK1:=fun z=>hO z
 have bsem:Um_ (X.wishP XE (X.pn++pins)) body E1 σ H:=by
  refine hb XE (X.pn++pins) OK1 (KB sh shx) { G with B:=F } F σ H ρ E1 hO1 ?_ St.toB ok ⟨?_,fun F' σ' H' ρ' d v s S' r o=>(hO1 o).elim,fun F' σ' H' ρ' d v s S' r o=>(hO1 o).elim,fun F' σ' H' ρ' s S' o=>(hO1 o).elim,fun F' σ' H' ρ' s S' o=>(hO1 o).elim⟩
  ·
   intro F1 ρ1 ex o1
   intro F' H' s' a C dd pins' σ' g fz I' xs hp xr
   have o2:OK1 (rdk shx (fun s=>.ret (.inr (ex,s))) ρ1):=o1
   unfold rdk at o2
   cases hr:rd shx ρ1 with
   | none=>rw [hr] at o2;exact (hO1 o2).elim
   | some sx =>
   rw [hr] at o2
   have o3:OK (VS_ cs ex.cls (mh (KH j K) ((wr shx sx).set j (some (.fz (encX ex)))))):=o2
   unfold VS_ at o3
   cases hc:cs.contains ex.cls with
   | false=>rw [hc] at o3;exact (hO o3).elim
   | true =>
   rw [hc] at o3
   dsimp only at o3
   have I2:Inv X pins σ' H' s':=I'.unwishP
   have hlo:X.s₀.heap.objs.size≤X.s₀.heap.objs.size:=Nat.le_refl _
   have hp2:∀ p∈X.pn++pins,¬ TbOf s'.heap a p.1:=fun p q=>hp p (List.mem_append_left _ q)
   show XE (.ref a) s'
   subst hXE
   refine Qc_ (lo:=X.s₀.heap.objs.size) (base:=X.base) (env:=X.env) (outer:=X.outer) (L:=X.env.locals) (P:=X.prog) (w:=X.w) (I2.ok.frames.trans (congrArg some stk)) (stk▸I2.stack) frm I2.hok xs fun h3 m3 xs3 tn=>?_
   have I3:Inv X pins σ' H' { s' with heap:=h3 }:=Inv.mv I2 (by rw [stk];exact m3) xs xs3 hlo hp2 s'.toks
   have hp3:∀ p∈X.pn++pins,¬ TbOf h3 a p.1:=fun p q z=>absurd (Nat.lt_of_lt_of_le (Heap.lt_size (I2.pin p q).1) (tn _ z)) (Nat.lt_irrefl _)
   refine Wg_ (K:=X.K) (C:=C) (JZ_ (X:=cau X a) (U2_ I3) hgx hmx ⟨I3.kIn,hcs.at hc xr.1.ns,?_,?_⟩ hdx)
   ·obtain ⟨oe,_,q1,q2,_⟩:=xs3.obj
    exact ⟨oe,q1,q2⟩
   refine flight_again (s:={ s' with heap:=h3 }) (frs X.stack) xs3 fun h4 m4 xs4=>?_
   have I4:Inv X pins σ' H' { s' with heap:=h4 }:=Inv.mv (s:={ s' with heap:=h3 }) I3 m4 xs3 xs4 hlo hp3 s'.toks
   refine ye_ I4 hN hj (.inl hnl) (v:=.ref a) rfl (fun s5 I5=>?_) (.inr hnl)
   have oa:G.O a=none:=by
    cases q:G.O a with
    | none=>rfl
    | some o =>
     have h1:=g.oh a o q
     rw [xs.trk] at h1
     cases h1
     exact ((g.fo a _ q).2:False).elim
   obtain ⟨F2,sm2,fh2,fo2,ra⟩:∃ F2,Same F' F2∧Same F2 H'∧(∀ b o,G.O b=some o→F2 b=none∧NoTE o)∧Rep X.K F2 (.ref a) (encX ex):=by
    cases q:F' a with
    | some o =>
     have h1:=g.fh a o q
     rw [xs.trk] at h1
     cases h1
     exact ⟨F',Same.refl _,g.fh,g.fo,xr.rep q⟩
    | none =>
     have sm:=uf_ (F:=F') (o:=.ext (XO a C dd)) q
     refine ⟨upd F' a (.ext (XO a C dd)),sm,fun b u z=>?_,fun b u z=>?_,(xr.mono sm).rep zy_⟩
     ·by_cases y:b=a
      ·subst y;rw [zy_] at z;cases z;exact xs.trk
      ·rw [zp_ y] at z;exact g.fh b u z
     ·rw [zp_ (zq_ z oa)];exact g.fo b u z
   have FB:Same F F':=g.fb
   have hjl:j<σ'.length:=by rw [I2.len];exact (List.getElem?_eq_some_iff.mp hj).1
   obtain ⟨wl,w1,w2⟩:=JM_ shx ρ1 sx hr
   have hjr:j<(wr shx sx).length:=by rw [wl,←fz.ln];exact hjl
   have only:∀ i av,((wr shx sx).set j (some (.fz (encX ex))))[i]? = some (some av)→∃ d,av=AV.fz d:=fun i av q=>by
    by_cases y:i=j
    ·rw [y,List.getElem?_set_self hjr] at q;injection q with q;injection q with q;exact ⟨_,q.symm⟩
    ·rw [List.getElem?_set_ne (Ne.symm y)] at q;exact JN_ hF q
   have noown:∀ i c,¬ own ((wr shx sx).set j (some (.fz (encX ex)))) i c:=fun i c q=>by
    rcases q with q|q<;>(obtain ⟨d,z⟩:=only i _ q;cases z)
   have S3:StOk X.K G F2 (σ'.set j (some (V.ref a))) H' ((wr shx sx).set j (some (.fz (encX ex)))):=by
    refine ⟨fh2,g.oh,fo2,by simp [wl,fz.ln],fun i d q=>?_,fun i c q=>(noown i c q).elim,fun i k c e b q=>(noown i c q).elim,fun i b z=>(noP i b z).elim,fun i c q=>?_,(St.fb.trans FB).trans sm2⟩
    ·by_cases y:i=j
     ·rw [y,List.getElem?_set_self hjr] at q
      injection q with q;injection q with q;injection q with q
      rw [←q,y]
      exact ⟨_,List.getElem?_set_self hjl,ra⟩
     ·rw [List.getElem?_set_ne (Ne.symm y)] at q
      obtain ⟨v,e1,r1⟩:=fz.fz i d (w1 i _ q)
      exact ⟨v,by rw [List.getElem?_set_ne (Ne.symm y)];exact e1,r1.mono sm2⟩
    ·obtain ⟨d,z⟩:=only i _ q;cases z
   have suite':=hh a OK (KH j K) G F2 _ H' _ { nx:=fun σ6 H6=>∃ F6 ρ6,Same F2 F6∧StOk X.K G F6 σ6 H6 ρ6∧OK (K.nx (ρ6.set j none)),rt:=fun _ _=>False,bk:=fun _ _=>False,ct:=fun _ _=>False } hO (fun _ _ _ z=>(hO z).elim) S3 o3
    ⟨fun F6 σ6 H6 ρ6 s6 S6 o6=>⟨F6,ρ6,s6,S6,o6⟩,fun F' σ' H' ρ' d v s S' r o=>(hO o).elim,fun F' σ' H' ρ' d v s S' r o=>(hO o).elim,fun F' σ' H' ρ' s S' o=>(hO o).elim,fun F' σ' H' ρ' s S' o=>(hO o).elim⟩
   unfold Um_ at suite'
   refine wpAny_mono (suite' pins s5 (U2_ I5)) (fun f s6 z=>?_) fun _ _ z=>z
   cases f with
   | next =>
    obtain ⟨σ6,H6,I6,F6,ρ6,s6,S6,o6⟩:=z
    refine zaJ_ (Q3_ I2.ok.hd I6) hN hj hnl fun s7 I7=>⟨σ6.set j none,H6,I7,?_⟩
    have S7:StOk X.K G F6 σ6 H6 (ρ6.set j none):=by
     refine S6.weak (by simp) (fun i av q=>?_) (fun i c q=>?_)
     ·by_cases y:i=j
      ·rw [y,List.getElem?_set] at q
       simp at q
      ·rw [List.getElem?_set_ne (Ne.symm y)] at q;exact q
     ·obtain ⟨b,z⟩:=S6.pq i c q
      exact (noP i b z).elim
    refine eo.nx F6 _ H6 (ρ6.set j none) ((FB.trans sm2).trans s6) (S7.setdead (fun av q=>?_) none) o6
    rw [List.getElem?_set] at q
    simp at q
   | brk=>obtain ⟨_,_,_,z⟩:=z;exact z.elim
   | cont=>obtain ⟨_,_,_,z⟩:=z;exact z.elim
   | ret u=>obtain ⟨_,_,_,_,_,z⟩:=z;exact z.elim
  ·intro F' σ' H' ρ' s1 S' o
   have o2:OK1 (rdk sh (fun s=>.ret (.inl s)) ρ'):=o
   unfold rdk at o2
   cases hr:rd sh ρ' with
   | none=>rw [hr] at o2;exact (hO1 o2).elim
   | some sx =>
   rw [hr] at o2
   have S2:StOk X.K G F' σ' H' ρ':=S'.reB (St.fb.trans s1)
   exact eo.nx F' σ' H' (wr sh sx) s1 (S2.rd hr) o2
 unfold Um_ at bsem
 refine wpAny_mono (bsem [] s (I.wishP XE)) (fun f s1 z=>?_) fun e s1 z=>by subst hXE;exact z
 have z2:=QJ_ z
 cases f with
 | next=>exact wpAny_execs_nil z2
 | brk=>obtain ⟨_,_,_,z⟩:=z2;exact z.elim
 | cont=>obtain ⟨_,_,_,z⟩:=z2;exact z.elim
 | ret u=>obtain ⟨_,_,_,_,_,z⟩:=z2;exact z.elim
end
end L4
set_option Elab.async false
set_option linter.all false
set_option maxRecDepth 100000
namespace L4
open PySem PySem.Spec PyProof.Rows L2 L3
theorem WW_ {a:Addr}:∀ u,RelV (.ref a) u→u=.ref a:=fun u h=>h
theorem Ut_:∀ {Cs:List Addr} (us:List Value),Vals (Cs.map V.ref) us→us=Cs.map Value.ref
 | [],us,h=>by cases h;rfl
 | C::r,us,h=>by
  rw [List.map_cons] at h
  cases h with
  | cons a b=>rw [Ut_ _ b];cases a;rfl
noncomputable def MgL (mg:Str→Option Value):List Str→List Addr→Prop
 | [],[]=>True
 | c::r,C::t=>mg c=some (.ref C)∧MgL mg r t
 | _,_=>False
inductive NamesOf (X:Cx):List Str→List Expr→Prop
 | nil:NamesOf X [] []
 | cons {c:Str} {p:Pos} {cs:List Str} {ts:List Expr} (hg:Gl X c) (hd:(c==("__debug__" : Str))=false) (hs:starEach (.Name c p::ts) X.env=(false,eval (.Name c p) X.env)::starEach ts X.env) (r:NamesOf X cs ts):NamesOf X (c::cs) (.Name c p::ts)
theorem Y9_ {X:Cx}:∀ {cs:List Str} {ts:List Expr} {Cs:List Addr},NamesOf X cs ts→MgL X.mg cs Cs→PA X ts (tCs (Cs.map V.ref))
 | _,_,[],.nil,_=>Jr_
 | _,_,C::Cs,.nil,h=>h.elim
 | _,_,[],.cons _ _ _ _,h=>h.elim
 | _,_,C::Cs,.cons hg hd hs r,h=>uL_ (Yp_ hg h.1 (show RelV (.ref C) (.ref C) from rfl) hd) (Y9_ r h.2) hs
theorem V2_ {mg:Str→Option Value}:∀ {cs:List Str} {Cs:List Addr},MgL mg cs Cs→Cs.length=cs.length
 | [],[],_=>rfl
 | [],_::_,h=>h.elim
 | _::_,[],h=>h.elim
 | _::_,_::_,h=>by simp [V2_ h.2]
section
variable {X:Cx} {e:Expr} {ts:List Expr} {p:Pu D} {pos p1 p2:Pos} {tb:List (Str×Bool)}
theorem XB_ {c:Str} (h:∃ C,X.mg c=some (.ref C)∧Inst1 X.K (.ref C) tb) (hgc:Gl X c) (hm:X.mg "isinstance" = none) (hg:Gl X "isinstance") (ha:AP X e p) (hs:starEach [e,.Name c p2] X.env=(false,eval e X.env)::starEach [.Name c p2] X.env) (hs2:starEach [.Name c p2] X.env=(false,eval (.Name c p2) X.env)::starEach [] X.env)
  (hpl:(backTo pos (starEach [.Name c p2] X.env)).any (·.1)=false) (hd:(c==("__debug__" : Str))=false):AB X (.Call (.Name "isinstance" p1) [e,.Name c p2] [] pos) (VK_ tb p):=by
 obtain ⟨C,h1,h2⟩:=h
 exact QA_ (vc:=.ref C) rfl WW_ h2 hg hm (Yp_ hgc h1 rfl hd) ha hs hs2 hpl
theorem Xz_ {c:Str} {T:String} (h:Inst1 X.K (.type T) tb) (hgc:Gl X c) (hmc:X.mg c=none) (hb:bootBuiltins c=some (.type T)) (hm:X.mg "isinstance" = none) (hg:Gl X "isinstance") (ha:AP X e p) (hs:starEach [e,.Name c p2] X.env=(false,eval e X.env)::starEach [.Name c p2] X.env) (hs2:starEach [.Name c p2] X.env=(false,eval (.Name c p2) X.env)::starEach [] X.env)
  (hpl:(backTo pos (starEach [.Name c p2] X.env)).any (·.1)=false) (hn:c ≠ "__name__") (hd:(c==("__debug__" : Str))=false):AB X (.Call (.Name "isinstance" p1) [e,.Name c p2] [] pos) (VK_ tb p) :=
 QA_ (vc:=.ty T) rfl (fun u h=>h) h hg hm (zas_ hgc hmc hb rfl hn hd) ha hs hs2 hpl
theorem WG_ {cs:List Str} {x1} (h:∃ Cs,MgL X.mg cs Cs∧InstT X.K (Cs.map Value.ref) tb) (hn:NamesOf X cs ts) (hl:cs.length≤1000) (hm:X.mg "isinstance" = none) (hg:Gl X "isinstance") (ha:AP X e p)
  (hs:starEach [e,.Tuple ts x1 p2] X.env=(false,eval e X.env)::starEach [.Tuple ts x1 p2] X.env) (hs2:starEach [.Tuple ts x1 p2] X.env=(false,eval (.Tuple ts x1 p2) X.env)::starEach [] X.env)
  (hpl:(backTo pos (starEach [.Tuple ts x1 p2] X.env)).any (·.1)=false):AB X (.Call (.Name "isinstance" p1) [e,.Tuple ts x1 p2] [] pos) (VK_ tb p):=by
 obtain ⟨Cs,h1,h2⟩:=h
 exact XA_ (vcs:=Cs.map V.ref) Ut_ h2 hg hm (Y9_ hn h1) (by rw [List.length_map,V2_ h1];exact hl) ha hs hs2 hpl
end
section
variable {S:Type} {X:Cx} {j:Nat} {x n:Str} {b0:Stmt} {body suite:List Stmt} {pC ph pos:Pos} {cs:List Str} {sh shx:List Kd} {mb:SM (SOf sh ⊕ (Ex×SOf shx))} {mh:SM S}
theorem zaW_ (h:∃ hv,X.mg x=some hv∧HandL X.K hv cs) (hgx:Gl X x) (hb:∀ E pn,ASs (X.wishP E pn) body mb) (hh:∀ a,ASs (cau X a) (b0::suite) mh) (hF:JO_ shx=true)
  (hN:X.N.Nodup) (hj:X.N[j]? = some n) (hnl:X.env.scope.names.lookup n=some .local) (stk:X.stack=X.env::X.outer) (frm:X.env.frame=some X.env.locals) (hdx:(x==("__debug__" : Str))=false) :
  AS X (.Try body [.ExceptHandler (some (.Name x pC)) (some n) (b0::suite) ph] [] [] pos) (sTry j cs sh shx mb mh):=by
 obtain ⟨hv,h1,h2⟩:=h
 exact zcU_ h1 hgx h2 hb hh hF hN hj hnl stk frm hdx
end
theorem zdh_ {K:Fg} {C:Addr} (h:(["bool", "int", "str", "list", "tuple", "dict"].all fun T=>PySem.W.kitOne K (.ref C) (.type T)==some false)=true):∀ T,tyOk T=true→PySem.W.kitOne K (.ref C) (.type T)=some false:=fun T hT=>by
 have h':∀ T∈["bool", "int", "str", "list", "tuple", "dict"],PySem.W.kitOne K (.ref C) (.type T)=some false:=fun T q=>by
  have:=List.all_eq_true.mp h T q
  simpa using this
 apply h'
 simp only [tyOk,Bool.or_eq_true,beq_iff_eq] at hT
 rcases hT with ((((rfl|rfl)|rfl)|rfl)|rfl)|rfl<;>simp
noncomputable def ipM:TIp:=fun x y H Q=>∃ i j,x=.int i∧y=.int j∧CMul i j∧Q (.int (i*j)) H
theorem zcJ_ {X:Cx}:PIp X .Mult ipM:=by
 intro pins s σ H x y v u Q I r1 r2 h
 obtain ⟨i,j,e1,e2,hc,q⟩:=h
 subst e1;subst e2
 obtain ⟨t,rfl⟩:=r1
 obtain ⟨t',rfl⟩:=r2
 exact imul_int ⟨.int _,H,I.tok _,⟨_,rfl⟩,q⟩ hc.ok
theorem zaI_ {K:Fg}:ipD z1_ K ipM:=fun x y dx dy r F H Q r1 r2 e k=>by
 cases dx<;>first|exact noS e|(cases dy<;>try (exact noS e))
 rename_i i j
 dsimp only [z1_] at e
 split at e
 ·rename_i hc
  cases e
  obtain rfl:=r1.int_inv;obtain rfl:=r2.int_inv
  unfold VZ_ at hc
  simp only [Bool.or_eq_true,Bool.and_eq_true,decide_eq_true_eq] at hc
  exact ⟨_,_,rfl,rfl,hc,k _ (.int _)⟩
 ·cases e
end L4
set_option Elab.async false
set_option linter.all false
set_option maxRecDepth 100000
set_option maxHeartbeats 8000000
namespace K14
open PySem PySem.Spec PyProof.Rows L2 L3 L4
noncomputable section
noncomputable def top (i:Nat):Stmt:=PySem.Challenge.pw_passersby_k14_how_many_rooms.main.body.getD i (.Pass ⟨0,0,0,0⟩)
structure BN (mg:Str→Option Value):Prop where
 range:mg "range" = none
 len:mg "len" = none
 tuple:mg "tuple" = none
 list:mg "list" = none
 max:mg "max" = none
 min:mg "min" = none
 sum:mg "sum" = none
 abs:mg "abs" = none
 repr:mg "repr" = none
 enumerate:mg "enumerate" = none
 isinstance:mg "isinstance" = none
 all:mg "all" = none
 any:mg "any" = none
 int:mg "int" = none
 str:mg "str" = none
 bool:mg "bool" = none
 zip:mg "zip" = none
 sorted:mg "sorted" = none
 set:mg "set" = none
 dict:mg "dict" = none
 reversed:mg "reversed" = none
 ValueError:mg "ValueError" = none
structure KX (K:Fg) (mg:Str→Option Value):Prop where
 t_NoCrowd_NoLine_NoMeeting_NoPaper_NoRule_NoText:∃ Cs,MgL mg ["NoCrowd", "NoLine", "NoMeeting", "NoPaper", "NoRule", "NoText"] Cs∧InstT K (Cs.map Value.ref) [("TooMany",false)]
 i_TooMany:∃ C,mg "TooMany" = some (.ref C)∧Inst1 K (.ref C) [("TooMany",true)]
 i_ValueError:Inst1 K (.type "ValueError") [("TooMany",true)]
 h_PassError:∃ hv,mg "PassError" = some hv∧HandL K hv ["TooMany"]
structure KN (mg:Str→Option Value):Prop where
 MOST_ROOMS:∃ u,mg "MOST_ROOMS" = some u∧RelV (.int 40) u
section
variable {P:Program} {w:World} {K:Fg} {mg:Str→Option Value} {base:Heap}
noncomputable def zaS_ (s:Stmt):List Stmt:=match s with
 | .ClassDef _ _ _ b _ _ _ _ _ _ _=>b
 | _=>[]
noncomputable abbrev jc_:Stmt:=(zaS_ (top 5)).getD 0 (.Pass ⟨0,0,0,0⟩)
theorem Zv_:FnScope ["self"] ["self"] (ze_ jc_):=⟨rfl,rfl,rfl,by decide +kernel,rfl,by decide +kernel,by decide +kernel⟩
theorem Q2_ {Cl D f:Addr} {fd:FuncData} (Fn:Fun K "__init__" "TooMany.__init__" jc_ f fd) (c:XC K Cl D f) (hm:mg "TooMany" = some (.ref Cl)) (hc:XQ K Cl "TooMany") (kp:PySem.W.keepIn K (.ref Cl)=true) (na:∀ f∈([]:List Str),WJ_ K Cl f) (ex:PySem.W.exmOne K (.ref Cl) (.ref Cl)=some true):CCl P w K mg base "TooMany" 1 [] :=
 ⟨Cl,D,f,fd,["self"],c,zdK_ (k:=0) Fn Zv_ rfl,(bnd1 Fn fun _ _ _ _ _ _ _=>rfl),hm,hc,kp,na,ex⟩
noncomputable abbrev jI_:Stmt:=top 10
noncomputable abbrev Q9_:List Str:=["rule", "turns", "meeting"]
theorem sc_turns_of:FnScope Q9_ ["rule"] (ze_ jI_):=⟨rfl,rfl,rfl,by decide +kernel,rfl,by decide +kernel,by decide +kernel⟩
noncomputable def J5_ (v_turns:List (D×D)):M D :=
 .ret (PyData.dict v_turns)
noncomputable def yI_ (v_turns:List (D×D)) (d_:D) (kn3:List (D×D)×Unit→M D):M D :=
 bd (bd (asI (.int 2)) fun lo4=>oM (fCut d_ lo4 none)) fun x5=>bd (bd (asI (.int 2)) fun hi6=>oM (fCut d_ none hi6)) fun x7=>bd (oM (dPut true v_turns x7 x5)) fun l8=>kn3 (l8,())
noncomputable def uC_ (p_rule:D):M D :=
 bd (bd (oM (zt_ p_rule (.int 2))) fun x1=>oM (seqD x1)) fun l2=>forS (fun s9 d10 kn=>yI_ s9.1 d10 kn) l2 ([],()) (fun s9=>J5_ s9.1)
noncomputable def uO_:List D→M D:=fun l=>match l with
 | [p_rule]=>uC_ p_rule
 | _=>.bad
set_option maxHeartbeats 4000000 in
theorem YG_ {f:Addr} {fd:FuncData} (Fn:Fun K "turns_of" "turns_of" jI_ f fd) (B:BN mg) (Kn:KN mg) (Kx:KX K mg):FnOk P w K mg base (CX1 P w) 1 f fd ["rule"] (spD K 1 uO_) :=
 jZ_ (k:=0) Fn sc_turns_of (fun cdv A outer s H E hr =>
 (zd_ (zM_ (sh:=[.f,.t,.dead]) (zba_ true (i:=1) sc_turns_of.nd rfl (by first|exact Or.inl rfl|exact Or.inr rfl) rfl (.inl rfl)))
  (zd_ (ud_ (sh:=[.dead,.t,.dead]) PassesOwn.leaving rfl (uH_ (Qy_ (zG_ (zo_ (zg_ hr)) zn_ (ao (av 0)) (ao zc_) (fun _ _=>rfl)))) (zS_ (i:=2) (Nat.zero_le _) sc_turns_of.nd rfl (by first|exact Or.inl rfl|exact Or.inr rfl) (.inl rfl))
  (zk_ (zaZ_ (zg_ hr) (i:=1) rfl (by first|exact Or.inl rfl|exact Or.inr (Or.inl rfl)|exact Or.inr (Or.inr rfl)) (zi_ (Ua_ (ao (av 2)) J9_ (J8_ zc_))) (zi_ (Ua_ (ao (av 2)) (J8_ zc_) J9_)) rfl)) (fun _=>rfl))
  (zk_ (X1_ (i:=1) (zB_ (zi_ (av 1))))))))
 (fun ds hl=>match ds,hl with | [p_rule],_=>by kernel_rfl)
theorem Yq_ {f:Addr} {fd:FuncData} (Fn:Fun K "turns_of" "turns_of" jI_ f fd) (hmg:mg "turns_of" = some (.ref f)) (B:BN mg) (Kn:KN mg) (Kx:KX K mg):CF P w K mg base "turns_of" 1 (spD K 1 uO_) :=
 ⟨f,fd,["rule"],YG_ Fn B Kn Kx,hmg,Fn.kp,(bnd1 Fn fun _ _ _ _ _ _ _=>rfl)⟩
noncomputable abbrev z6_:Stmt:=top 11
noncomputable abbrev Ue_:List Str:=["turns", "one", "other", "turned"]
theorem sc_turned_from:FnScope Ue_ ["turns", "one", "other"] (ze_ z6_):=⟨rfl,rfl,rfl,by decide +kernel,rfl,by decide +kernel,by decide +kernel⟩
noncomputable def jH_ (p_turns:D) (p_one:D) (p_other:D):M D :=
 bd (oM (W9_ p_one p_other)) fun b1=>if b1 then
  bd (oM (QZ_ p_turns (.tuple [p_one,p_other]) (.tuple [p_one,p_other]))) fun x2=>.ret x2
  else
  bd (oM (QZ_ p_turns (.tuple [p_other,p_one]) (.tuple [p_other,p_one]))) fun x3=>bd (bd (oM (zt_ x3 (.int 1))) fun x4=>bd (oM (zt_ x3 (.int 0))) fun x5=>.ret (.tuple [x4,x5])) fun x6=>.ret x6
noncomputable def jQ_:List D→M D:=fun l=>match l with
 | [p_turns,p_one,p_other]=>jH_ p_turns p_one p_other
 | _=>.bad
set_option maxHeartbeats 4000000 in
theorem Jb_ {f:Addr} {fd:FuncData} (Fn:Fun K "turned_from" "turned_from" z6_ f fd) (B:BN mg) (Kn:KN mg) (Kx:KX K mg):FnOk P w K mg base (CX1 P w) 1 f fd ["turns", "one", "other"] (spD K 3 jQ_) :=
 jZ_ (k:=0) Fn sc_turned_from (fun cdv A outer s H E hr =>
 (zd_ (jO_ (z4_ (zA_ (zcn_ (zg_ hr)) zct_ (ao (av 1)) (ao (av 2)) rfl))
  (zk_ (zB_ (zi_ (Qx_ (zg_ hr) (ao (av 0)) (zN_ (zb_ (av 1) (zb_ (av 2) zj_ (za_ rfl)) (za_ rfl)) (by decide +kernel)) (zN_ (zb_ (av 1) (zb_ (av 2) zj_ (za_ rfl)) (za_ rfl)) (by decide +kernel)) ⟨rfl,rfl,rfl,rfl⟩))))
  zL_)
  (zd_ (zM_ (sh:=[.dead,.dead,.dead,.f]) (zH_ (i:=3) sc_turned_from.nd rfl (by first|exact Or.inl rfl|exact Or.inr rfl) (zi_ (Qx_ (zg_ hr) (ao (av 0)) (zN_ (zb_ (av 2) (zb_ (av 1) zj_ (za_ rfl)) (za_ rfl)) (by decide +kernel)) (zN_ (zb_ (av 2) (zb_ (av 1) zj_ (za_ rfl)) (za_ rfl)) (by decide +kernel)) ⟨rfl,rfl,rfl,rfl⟩)) rfl (.inl rfl)))
  (zk_ (zB_ (zi_ (zN_ (zb_ (zG_ (zo_ (zg_ hr)) zn_ (ao (av 3)) (ao zc_) (fun _ _=>rfl)) (zb_ (zG_ (zo_ (zg_ hr)) zn_ (ao (av 3)) (ao zc_) (fun _ _=>rfl)) zj_ (za_ rfl)) (za_ rfl)) (by decide +kernel))))))))
 (fun ds hl=>match ds,hl with | [p_turns,p_one,p_other],_=>by kernel_rfl)
theorem Z6_ {f:Addr} {fd:FuncData} (Fn:Fun K "turned_from" "turned_from" z6_ f fd) (hmg:mg "turned_from" = some (.ref f)) (B:BN mg) (Kn:KN mg) (Kx:KX K mg):CF P w K mg base "turned_from" 1 (spD K 3 jQ_) :=
 ⟨f,fd,["turns", "one", "other"],Jb_ Fn B Kn Kx,hmg,Fn.kp,(bnd3 Fn fun _ _ _ _ _ _ _ _ _=>rfl)⟩
noncomputable abbrev zX_:Stmt:=top 15
noncomputable abbrev Jd_:List Str:=["one", "other", "word"]
theorem Zu_:FnScope Jd_ ["one", "other", "word"] (ze_ zX_):=⟨rfl,rfl,rfl,by decide +kernel,rfl,by decide +kernel,by decide +kernel⟩
noncomputable def jo_ (p_one:D) (p_other:D) (p_word:D):M D :=
 bd (oM (opEq p_word (.str "both"))) fun b1=>if b1 then
  bd (bd (bd (asB p_one) fun b2=>if b2 then asB p_other else .ret false) fun b3=>.ret (.bool b3)) fun x4=>.ret x4
  else
  bd (bd (bd (asB p_one) fun b5=>if b5 then .ret true else asB p_other) fun b6=>.ret (.bool b6)) fun x7=>.ret x7
noncomputable def jE_:List D→M D:=fun l=>match l with
 | [p_one,p_other,p_word]=>jo_ p_one p_other p_word
 | _=>.bad
set_option maxHeartbeats 4000000 in
theorem ZO_ {f:Addr} {fd:FuncData} (Fn:Fun K "paired_truth" "paired_truth" zX_ f fd) (B:BN mg) (Kn:KN mg) (Kx:KX K mg):FnOk P w K mg base (CX1 P w) 1 f fd ["one", "other", "word"] (spD K 3 jE_) :=
 jZ_ (k:=0) Fn Zu_ (fun cdv A outer s H E hr =>
 (zd_ (jO_ (z4_ (zA_ (z0_ (zg_ hr)) jl_ (ao (av 2)) (ao jb_) rfl))
  (zk_ (zB_ (zi_ (ap_b (WI_ (XC_ (av 0)) (WE_ (XC_ (av 1))))))))
  zL_)
  (zk_ (zB_ (zi_ (ap_b (zdX_ (XC_ (av 0)) (WE_ (XC_ (av 1))))))))))
 (fun ds hl=>match ds,hl with | [p_one,p_other,p_word],_=>by kernel_rfl)
theorem ZE_ {f:Addr} {fd:FuncData} (Fn:Fun K "paired_truth" "paired_truth" zX_ f fd) (hmg:mg "paired_truth" = some (.ref f)) (B:BN mg) (Kn:KN mg) (Kx:KX K mg):CF P w K mg base "paired_truth" 1 (spD K 3 jE_) :=
 ⟨f,fd,["one", "other", "word"],ZO_ Fn B Kn Kx,hmg,Fn.kp,(bnd3 Fn fun _ _ _ _ _ _ _ _ _=>rfl)⟩
noncomputable abbrev zY_:Stmt:=top 16
noncomputable abbrev Je_:List Str:=["one", "other", "many", "rooms", "ones", "others", "meets", "low", "high", "left", "right", "c", "d"]
theorem sc_paired_meets:FnScope Je_ ["one", "other"] (ze_ zY_):=⟨rfl,rfl,rfl,by decide +kernel,rfl,by decide +kernel,by decide +kernel⟩
noncomputable def yY_ (v_many:D) (v_rooms:D) (v_ones:D) (v_others:D) (v_meets:List D):M D :=
 .ret (PyData.list v_meets)
noncomputable def jM_ (kn7:D×D×D×D×List D×Unit→M D) (v_many:D) (v_rooms:D) (v_ones:D) (v_others:D) (v_meets:List D) (v_low:D):M D :=
 kn7 (v_many,v_rooms,v_ones,v_others,v_meets,())
noncomputable def jm_ (kn7:D×D×D×D×List D×Unit→M D) (v_many:D) (v_rooms:D) (v_ones:D) (v_others:D) (v_meets:List D) (v_low:D) (d_:D) (kn9:D×D×D×D×List D×D×Unit→M D):M D :=
 bd (bd (oM (ZD_ v_low v_many)) fun x10=>bd (oM (ZD_ d_ v_many)) fun x11=>jH_ v_ones x10 x11) fun x12=>bd (bd (oM (uy_ v_low v_many)) fun x13=>bd (oM (uy_ d_ v_many)) fun x14=>jH_ v_others x13 x14) fun x15=>bd (bd (bd (oM (zt_ x12 (.int 0))) fun x16=>oM (z1_ x16 v_many)) fun x17=>bd (oM (zt_ x15 (.int 0))) fun x18=>oM (zC_ x17 x18)) fun x19=>bd (bd (bd (oM (zt_ x12 (.int 1))) fun x20=>oM (z1_ x20 v_many)) fun x21=>bd (oM (zt_ x15 (.int 1))) fun x22=>oM (zC_ x21 x22)) fun x23=>bd (oM (opNe (.tuple [x19,x23]) (.tuple [v_low,d_]))) fun b24=>if b24 then
  bd (oM (mApp v_meets [(.tuple [v_low,d_,x19,x23])])) fun l25=>kn9 (v_many,v_rooms,v_ones,v_others,l25,v_low,())
  else
  kn9 (v_many,v_rooms,v_ones,v_others,v_meets,v_low,())
noncomputable def uD_ (v_many:D) (v_rooms:D) (v_ones:D) (v_others:D) (v_meets:List D) (d_:D) (kn7:D×D×D×D×List D×Unit→M D):M D :=
 bd (oM (u7_ [d_,v_rooms])) fun l8=>forS (fun s26 d27 kn=>jm_ kn7 s26.1 s26.2.1 s26.2.2.1 s26.2.2.2.1 s26.2.2.2.2.1 s26.2.2.2.2.2.1 d27 kn) l8 (v_many,v_rooms,v_ones,v_others,v_meets,d_,()) (fun s26=>jM_ kn7 s26.1 s26.2.1 s26.2.2.1 s26.2.2.2.1 s26.2.2.2.2.1 s26.2.2.2.2.2.1)
noncomputable def jR_ (p_one:D) (p_other:D):M D :=
 bd (oM (zt_ p_other (.int 0))) fun x1=>bd (bd (oM (zt_ p_one (.int 0))) fun x2=>oM (z1_ x2 x1)) fun x3=>bd (uC_ p_one) fun x4=>bd (uC_ p_other) fun x5=>bd (oM (ja_ [x3])) fun l6=>forS (fun s28 d29 kn=>uD_ s28.1 s28.2.1 s28.2.2.1 s28.2.2.2.1 s28.2.2.2.2.1 d29 kn) l6 (x1,x3,x4,x5,[],()) (fun s28=>yY_ s28.1 s28.2.1 s28.2.2.1 s28.2.2.2.1 s28.2.2.2.2.1)
noncomputable def jF_:List D→M D:=fun l=>match l with
 | [p_one,p_other]=>jR_ p_one p_other
 | _=>.bad
set_option maxHeartbeats 4000000 in
theorem ZP_ {f:Addr} {fd:FuncData} (Fn:Fun K "paired_meets" "paired_meets" zY_ f fd) (B:BN mg) (Kn:KN mg) (Kx:KX K mg) (C_turns_of:CF P w K mg base "turns_of" 1 (spD K 1 uO_)) (C_turned_from:CF P w K mg base "turned_from" 1 (spD K 3 jQ_)):FnOk P w K mg base (CX1 P w) 2 f fd ["one", "other"] (spD K 2 jF_) :=
 jZ_ (k:=1) Fn sc_paired_meets (fun cdv A outer s H E hr =>
 (zd_ (zM_ (sh:=[.f,.f,.f,.dead,.dead,.dead,.dead,.dead,.dead,.dead,.dead,.dead,.dead]) (zH_ (i:=2) sc_paired_meets.nd rfl (by first|exact Or.inl rfl|exact Or.inr rfl) (zi_ (zG_ (zo_ (zg_ hr)) zn_ (ao (av 1)) (ao zc_) (fun _ _=>rfl))) rfl (.inl rfl)))
  (zd_ (zM_ (sh:=[.f,.f,.f,.f,.dead,.dead,.dead,.dead,.dead,.dead,.dead,.dead,.dead]) (zH_ (i:=3) sc_paired_meets.nd rfl (by first|exact Or.inl rfl|exact Or.inr rfl) (zi_ (zl_ u0_ u2_ (ao (zG_ (zo_ (zg_ hr)) zn_ (ao (av 0)) (ao zc_) (fun _ _=>rfl))) (ao (av 2)))) rfl (.inl rfl)))
  (zd_ (zM_ (sh:=[.dead,.f,.f,.f,.f,.dead,.dead,.dead,.dead,.dead,.dead,.dead,.dead]) (zH_ (i:=4) sc_paired_meets.nd rfl (by first|exact Or.inl rfl|exact Or.inr rfl) (zi_ (jV_ C_turns_of (hr.mono (by decide)) rfl (zb_ (av 0) zj_ (za_ rfl)) rfl (by decide) rfl rfl)) rfl (.inl rfl)))
  (zd_ (zM_ (sh:=[.dead,.dead,.f,.f,.f,.f,.dead,.dead,.dead,.dead,.dead,.dead,.dead]) (zH_ (i:=5) sc_paired_meets.nd rfl (by first|exact Or.inl rfl|exact Or.inr rfl) (zi_ (jV_ C_turns_of (hr.mono (by decide)) rfl (zb_ (av 1) zj_ (za_ rfl)) rfl (by decide) rfl rfl)) rfl (.inl rfl)))
  (zd_ (zM_ (sh:=[.dead,.dead,.f,.f,.f,.f,.o,.dead,.dead,.dead,.dead,.dead,.dead]) (ZU_ (i:=6) sc_paired_meets.nd rfl (by first|exact Or.inl rfl|exact Or.inr rfl) (JD_ (yL_ zj_ (by decide +kernel))) rfl (.inl rfl)))
  (zd_ (ud_ (sh:=[.dead,.dead,.f,.f,.f,.f,.o,.dead,.dead,.dead,.dead,.dead,.dead]) PassesOwn.leaving rfl (uH_ (zW_ rfl B.range (zb_ (av 3) zj_ (za_ rfl)) rfl)) (zS_ (i:=7) (Nat.zero_le _) sc_paired_meets.nd rfl (by first|exact Or.inl rfl|exact Or.inr rfl) (.inl rfl))
  (zk_ (ud_ (sh:=[.dead,.dead,.f,.f,.f,.f,.o,.f,.dead,.dead,.dead,.dead,.dead]) PassesOwn.leaving rfl (uH_ (ZY_ rfl B.range (zb_ (av 7) (zb_ (av 3) zj_ (za_ rfl)) (za_ rfl)) rfl rfl)) (zS_ (i:=8) (Nat.zero_le _) sc_paired_meets.nd rfl (by first|exact Or.inl rfl|exact Or.inr rfl) (.inl rfl))
  (zd_ (zM_ (sh:=[.dead,.dead,.f,.f,.f,.f,.o,.f,.f,.f,.dead,.dead,.dead]) (zH_ (i:=9) sc_paired_meets.nd rfl (by first|exact Or.inl rfl|exact Or.inr rfl) (zi_ (jV_ C_turned_from (hr.mono (by decide)) rfl (zb_ (av 4) (zb_ (zl_ ZC_ UD_ (ao (av 7)) (ao (av 2))) (zb_ (zl_ ZC_ UD_ (ao (av 8)) (ao (av 2))) zj_ (za_ rfl)) (za_ rfl)) (za_ rfl)) rfl (by decide) rfl rfl)) rfl (.inl rfl)))
  (zd_ (zM_ (sh:=[.dead,.dead,.f,.f,.f,.f,.o,.f,.f,.f,.f,.dead,.dead]) (zH_ (i:=10) sc_paired_meets.nd rfl (by first|exact Or.inl rfl|exact Or.inr rfl) (zi_ (jV_ C_turned_from (hr.mono (by decide)) rfl (zb_ (av 5) (zb_ (zl_ u1_ u3_ (ao (av 7)) (ao (av 2))) (zb_ (zl_ u1_ u3_ (ao (av 8)) (ao (av 2))) zj_ (za_ rfl)) (za_ rfl)) (za_ rfl)) rfl (by decide) rfl rfl)) rfl (.inl rfl)))
  (zd_ (zM_ (sh:=[.dead,.dead,.f,.f,.f,.f,.o,.f,.f,.f,.f,.f,.dead]) (zH_ (i:=11) sc_paired_meets.nd rfl (by first|exact Or.inl rfl|exact Or.inr rfl) (zi_ (zl_ zw_ zP_ (ao (zl_ u0_ u2_ (ao (zG_ (zo_ (zg_ hr)) zn_ (ao (av 9)) (ao zc_) (fun _ _=>rfl))) (ao (av 2)))) (ao (zG_ (zo_ (zg_ hr)) zn_ (ao (av 10)) (ao zc_) (fun _ _=>rfl))))) rfl (.inl rfl)))
  (zd_ (zM_ (sh:=[.dead,.dead,.f,.f,.f,.f,.o,.f,.f,.dead,.dead,.f,.f]) (zH_ (i:=12) sc_paired_meets.nd rfl (by first|exact Or.inl rfl|exact Or.inr rfl) (zi_ (zl_ zw_ zP_ (ao (zl_ u0_ u2_ (ao (zG_ (zo_ (zg_ hr)) zn_ (ao (av 9)) (ao zc_) (fun _ _=>rfl))) (ao (av 2)))) (ao (zG_ (zo_ (zg_ hr)) zn_ (ao (av 10)) (ao zc_) (fun _ _=>rfl))))) rfl (.inl rfl)))
  (zk_ (jO_ (z4_ (zA_ (Uw_ (zg_ hr)) jl_ (ao (zN_ (zb_ (av 11) (zb_ (av 12) zj_ (za_ rfl)) (za_ rfl)) (by decide +kernel))) (ao (zN_ (zb_ (av 7) (zb_ (av 8) zj_ (za_ rfl)) (za_ rfl)) (by decide +kernel))) rfl))
  (zk_ (ZV_ (i:=6) rfl (by first|exact Or.inl rfl|exact Or.inr (Or.inl rfl)|exact Or.inr (Or.inr rfl)) (zf_ (zi_ (zN_ (zb_ (av 7) (zb_ (av 8) (zb_ (av 11) (zb_ (av 12) zj_ (za_ rfl)) (za_ rfl)) (za_ rfl)) (za_ rfl)) (by decide +kernel))) zm_ (za_ rfl)) rfl rfl rfl rfl rfl rfl))
  zL_)))))) (fun _=>rfl))) (fun _=>rfl))
  (zk_ (X1_ (i:=6) (zB_ (zi_ (av 6))))))))))))
 (fun ds hl=>match ds,hl with | [p_one,p_other],_=>by kernel_rfl)
theorem ZF_ {f:Addr} {fd:FuncData} (Fn:Fun K "paired_meets" "paired_meets" zY_ f fd) (hmg:mg "paired_meets" = some (.ref f)) (B:BN mg) (Kn:KN mg) (Kx:KX K mg) (C_turns_of:CF P w K mg base "turns_of" 1 (spD K 1 uO_)) (C_turned_from:CF P w K mg base "turned_from" 1 (spD K 3 jQ_)):CF P w K mg base "paired_meets" 2 (spD K 2 jF_) :=
 ⟨f,fd,["one", "other"],ZP_ Fn B Kn Kx C_turns_of C_turned_from,hmg,Fn.kp,(bnd2 Fn fun _ _ _ _ _ _ _ _=>rfl)⟩
noncomputable abbrev j0_:Stmt:=top 14
noncomputable abbrev Uf_:List Str:=["one", "other", "word", "many", "rooms", "starts", "says"]
theorem sc_beside:FnScope Uf_ ["one", "other", "word"] (ze_ j0_):=⟨rfl,rfl,rfl,by decide +kernel,rfl,by decide +kernel,by decide +kernel⟩
noncomputable abbrev N_beside_0:List Str:=["one", "other", "word", "many", "rooms", "starts", "says", "i", "j"]
theorem yE_:N_beside_0.Nodup:=by decide +kernel
noncomputable abbrev N_beside_1:List Str:=["one", "other", "word", "many", "rooms", "starts", "says", "pair"]
theorem JU_:N_beside_1.Nodup:=by decide +kernel
noncomputable def uX_ (p_one:D) (p_other:D) (p_word:D):M D :=
 bd (oM (zt_ p_other (.int 0))) fun x1=>bd (bd (oM (zt_ p_one (.int 0))) fun x2=>oM (z1_ x2 x1)) fun x3=>bd (oM (opGt x3 (.int 40))) fun b4=>if b4 then
  .exc ⟨"TooMany",[]⟩
  else
  bd (bd (bd (bd (oM (zt_ p_one (.int 1))) fun x5=>bd (oM (zt_ p_other (.int 1))) fun x6=>oM (fZip [x5,x6])) fun l12=>bd (jA_ (fun d7=>un2 d7 fun y8 y9=>bd (bd (oM (z1_ y8 x1)) fun x10=>oM (zC_ x10 y9)) fun x11=>.ret (some x11)) l12) fitM) fun l13=>.ret (PyData.list l13)) fun x14=>bd (bd (bd (oM (ja_ [x3])) fun l23=>bd (jA_ (fun d15=>bd (bd (bd (oM (zt_ p_one (.int 3))) fun x16=>bd (oM (ZD_ d15 x1)) fun x17=>oM (zt_ x16 x17)) fun x18=>bd (bd (oM (zt_ p_other (.int 3))) fun x19=>bd (oM (uy_ d15 x1)) fun x20=>oM (zt_ x19 x20)) fun x21=>jo_ x18 x21 p_word) fun x22=>.ret (some x22)) l23) fitM) fun l24=>.ret (PyData.list l24)) fun x25=>bd (bd (oM (jS_ [x14])) fun x26=>bd (bd (jR_ p_one p_other) fun x27=>oM (jS_ [x27])) fun x28=>bd (oM (jS_ [x25])) fun x29=>.ret (.tuple [x3,x26,x28,x29])) fun x30=>.ret x30
noncomputable def uz_:List D→M D:=fun l=>match l with
 | [p_one,p_other,p_word]=>uX_ p_one p_other p_word
 | _=>.bad
set_option maxHeartbeats 4000000 in
theorem Wk_ {f:Addr} {fd:FuncData} (Fn:Fun K "beside" "beside" j0_ f fd) (B:BN mg) (Kn:KN mg) (Kx:KX K mg) (C_paired_truth:CF P w K mg base "paired_truth" 1 (spD K 3 jE_)) (C_paired_meets:CF P w K mg base "paired_meets" 2 (spD K 2 jF_)) (X_TooMany:CCl P w K mg base "TooMany" 1 []):FnOk P w K mg base (CX1 P w) 3 f fd ["one", "other", "word"] (spD K 3 uz_) :=
 jZ_ (k:=2) Fn sc_beside (fun cdv A outer s H E hr =>
 (zd_ (zM_ (sh:=[.f,.f,.f,.f,.dead,.dead,.dead]) (zH_ (i:=3) sc_beside.nd rfl (by first|exact Or.inl rfl|exact Or.inr rfl) (zi_ (zG_ (zo_ (zg_ hr)) zn_ (ao (av 1)) (ao zc_) (fun _ _=>rfl))) rfl (.inl rfl)))
  (zd_ (zM_ (sh:=[.f,.f,.f,.f,.f,.dead,.dead]) (zH_ (i:=4) sc_beside.nd rfl (by first|exact Or.inl rfl|exact Or.inr rfl) (zi_ (zl_ u0_ u2_ (ao (zG_ (zo_ (zg_ hr)) zn_ (ao (av 0)) (ao zc_) (fun _ _=>rfl))) (ao (av 3)))) rfl (.inl rfl)))
  (zd_ (jO_ (z4_ (zA_ VQ_ VV_ (ao (av 4)) (ao (zbb_ rfl Kn.MOST_ROOMS.choose_spec.1 Kn.MOST_ROOMS.choose_spec.2 (fun _=>.int _) (by decide))) rfl))
  (zk_ (WC_ X_TooMany (hr.mono (by decide)) rfl (by decide)))
  zL_)
  (zd_ (zM_ (sh:=[.f,.f,.f,.f,.f,.f,.dead]) (uG_ (i:=5) sc_beside.nd rfl (by first|exact Or.inl rfl|exact Or.inr rfl) (.inl rfl) (N':=N_beside_0) (k:=2) rfl (jj_ (N:=Uf_) (sc:=(ze_ j0_)) (by decide +kernel) rfl rfl) (zcY_ rfl B.zip (zb_ (zG_ (zo_ (zg_ hr)) zn_ (ao (av 0)) (ao zc_) (fun _ _=>rfl)) (zb_ (zG_ (zo_ (zg_ hr)) zn_ (ao (av 1)) (ao zc_) (fun _ _=>rfl)) zj_ (za_ rfl)) (za_ rfl)) rfl rfl) (fun cl s' H' fp C'=>(zbe_ rfl (Qz_ (zS_ (i:=7) (show 7≤7 by decide) yE_ rfl (by first|exact Or.inl rfl|exact Or.inr rfl) (.inr rfl)) (Qz_ (zS_ (i:=8) (show 7≤8 by decide) yE_ rfl (by first|exact Or.inl rfl|exact Or.inr rfl) (.inr rfl)) zbc_ rfl) rfl) rfl rfl)) (fun cl s' H' fp C'=>yc_) (fun cl s' H' fp C'=>(zl_ zw_ zP_ (ao (zl_ u0_ u2_ (ao (av 7)) (ao (av 3)))) (ao (av 8)))) rfl (fun _=>rfl)))
  (zd_ (zM_ (sh:=[.f,.f,.dead,.dead,.f,.f,.f]) (uG_ (i:=6) sc_beside.nd rfl (by first|exact Or.inl rfl|exact Or.inr rfl) (.inl rfl) (N':=N_beside_1) (k:=1) rfl (jj_ (N:=Uf_) (sc:=(ze_ j0_)) (by decide +kernel) rfl rfl) (zW_ rfl B.range (zb_ (av 4) zj_ (za_ rfl)) rfl) (fun cl s' H' fp C'=>(zS_ (i:=7) (show 7≤7 by decide) JU_ rfl (by first|exact Or.inl rfl|exact Or.inr rfl) (.inr rfl))) (fun cl s' H' fp C'=>yc_) (fun cl s' H' fp C'=>(jV_ C_paired_truth (hr.mono (by decide)) rfl (zb_ (zG_ (zo_ (zg_ hr)) zn_ (ao (zG_ (zo_ (zg_ hr)) zn_ (ao (av 0)) (ao zc_) (fun _ _=>rfl))) (ao (zl_ ZC_ UD_ (ao (av 7)) (ao (av 3)))) (fun _ _=>rfl)) (zb_ (zG_ (zo_ (zg_ hr)) zn_ (ao (zG_ (zo_ (zg_ hr)) zn_ (ao (av 1)) (ao zc_) (fun _ _=>rfl))) (ao (zl_ u1_ u3_ (ao (av 7)) (ao (av 3)))) (fun _ _=>rfl)) (zb_ (av 2) zj_ (za_ rfl)) (za_ rfl)) (za_ rfl)) rfl (by decide) rfl rfl)) rfl (fun _=>rfl)))
  (zk_ (zB_ (zi_ (zN_ (zb_ (av 4) (zb_ (zV_ zv_ jk_ rfl B.tuple (by decide +kernel) (zu_ (ao (av 5)) zK_ (za_ rfl)) (by decide) (by decide) rfl rfl) (zb_ (zV_ zv_ jk_ rfl B.tuple (by decide +kernel) (zu_ (ao (jV_ C_paired_meets (hr.mono (by decide)) rfl (zb_ (av 0) (zb_ (av 1) zj_ (za_ rfl)) (za_ rfl)) rfl (by decide) rfl rfl)) zK_ (za_ rfl)) (by decide) (by decide) rfl rfl) (zb_ (zV_ zv_ jk_ rfl B.tuple (by decide +kernel) (zu_ (ao (av 6)) zK_ (za_ rfl)) (by decide) (by decide) rfl rfl) zj_ (za_ rfl)) (za_ rfl)) (za_ rfl)) (za_ rfl)) (by decide +kernel)))))))))))
 (fun ds hl=>match ds,hl with | [p_one,p_other,p_word],_=>by kernel_rfl)
theorem VW_ {f:Addr} {fd:FuncData} (Fn:Fun K "beside" "beside" j0_ f fd) (hmg:mg "beside" = some (.ref f)) (B:BN mg) (Kn:KN mg) (Kx:KX K mg) (C_paired_truth:CF P w K mg base "paired_truth" 1 (spD K 3 jE_)) (C_paired_meets:CF P w K mg base "paired_meets" 2 (spD K 2 jF_)) (X_TooMany:CCl P w K mg base "TooMany" 1 []):CF P w K mg base "beside" 3 (spD K 3 uz_) :=
 ⟨f,fd,["one", "other", "word"],Wk_ Fn B Kn Kx C_paired_truth C_paired_meets X_TooMany,hmg,Fn.kp,(bnd3 Fn fun _ _ _ _ _ _ _ _ _=>rfl)⟩
noncomputable abbrev jJ_:Stmt:=top 18
noncomputable abbrev Va_:List Str:=["word"]
theorem Yl_:FnScope Va_ ["word"] (ze_ jJ_):=⟨rfl,rfl,rfl,by decide +kernel,rfl,by decide +kernel,by decide +kernel⟩
noncomputable def j6_ (p_word:D):M D :=
 bd (oM (uN_ p_word (.tuple [(.str "both"),(.str "either")]))) fun b1=>if b1 then
  .ret (.int 2)
  else
  bd (bd (oM (opEq p_word (.str "not"))) fun b2=>if b2 then .ret (.int 1) else .ret (.int 0)) fun x3=>.ret x3
noncomputable def uP_:List D→M D:=fun l=>match l with
 | [p_word]=>j6_ p_word
 | _=>.bad
set_option maxHeartbeats 4000000 in
theorem YH_ {f:Addr} {fd:FuncData} (Fn:Fun K "parts_of" "parts_of" jJ_ f fd) (B:BN mg) (Kn:KN mg) (Kx:KX K mg):FnOk P w K mg base (CX1 P w) 1 f fd ["word"] (spD K 1 uP_) :=
 jZ_ (k:=0) Fn Yl_ (fun cdv A outer s H E hr =>
 (zd_ (jO_ (z4_ (zA_ (yO_ (zg_ hr)) Js_ (ao (av 0)) (ao (zN_ (zb_ jb_ (zb_ jb_ zj_ (za_ rfl)) (za_ rfl)) (by decide +kernel))) rfl))
  (zk_ (zB_ (zi_ zc_)))
  zL_)
  (zk_ (zB_ (zi_ (ZW_ (zA_ (z0_ (zg_ hr)) jl_ (ao (av 0)) (ao jb_) rfl) zc_ zc_))))))
 (fun ds hl=>match ds,hl with | [p_word],_=>by kernel_rfl)
theorem Yr_ {f:Addr} {fd:FuncData} (Fn:Fun K "parts_of" "parts_of" jJ_ f fd) (hmg:mg "parts_of" = some (.ref f)) (B:BN mg) (Kn:KN mg) (Kx:KX K mg):CF P w K mg base "parts_of" 1 (spD K 1 uP_) :=
 ⟨f,fd,["word"],YH_ Fn B Kn Kx,hmg,Fn.kp,(bnd1 Fn fun _ _ _ _ _ _ _=>rfl)⟩
noncomputable abbrev jq_:Stmt:=top 20
noncomputable abbrev YR_:List Str:=["question", "word", "rooms", "part"]
theorem sc_rooms_for:FnScope YR_ ["question"] (ze_ jq_):=⟨rfl,rfl,rfl,by decide +kernel,rfl,by decide +kernel,by decide +kernel⟩
noncomputable def Jc_ (self:D→M D) (v_rooms:D):M D :=
 .ret v_rooms
noncomputable def ut_ (self:D→M D) (v_rooms:D) (d_:D) (kn12:D×Unit→M D):M D :=
 bd (self d_) fun x13=>bd (oM (z1_ v_rooms x13)) fun x14=>kn12 (x14,())
noncomputable def uU_ (self:D→M D) (p_question:D):M D :=
 bd (oM (zt_ p_question (.int 0))) fun x1=>bd (oM (opEq x1 (.str "least"))) fun b2=>if b2 then
  bd (bd (oM (zt_ p_question (.int 2))) fun x3=>oM (zC_ x3 (.int 1))) fun x4=>.ret x4
  else
  bd (oM (opEq x1 (.str "more"))) fun b5=>if b5 then
  .ret (.int 4)
  else
  bd (oM (opEq x1 (.str "rest"))) fun b6=>if b6 then
  bd (bd (oM (zt_ p_question (.int 2))) fun x7=>oM (zC_ x7 (.int 2))) fun x8=>.ret x8
  else
  bd (bd (bd (asI (.int 1)) fun lo9=>oM (fCut p_question lo9 none)) fun x10=>oM (seqD x10)) fun l11=>forS (fun s15 d16 kn=>ut_ self s15.1 d16 kn) l11 ((.int 1),()) (fun s15=>Jc_ self s15.1)
noncomputable def ua_:Nat→D→M D
 | 0=>fun _=>.bad
 | i+1=>uU_ (ua_ i)
noncomputable def ji_ (i:Nat):List D→M D:=fun l=>match l with
 | [p_question]=>ua_ i p_question
 | _=>.bad
set_option maxHeartbeats 4000000 in
theorem US_ {f:Addr} {fd:FuncData} (Fn:Fun K "rooms_for" "rooms_for" jq_ f fd) (B:BN mg) (Kn:KN mg) (Kx:KX K mg) (i:Nat) (Cself:CF P w K mg base "rooms_for" (1+i) (spD K 1 (ji_ i))):FnOk P w K mg base (CX1 P w) (1+i+1) f fd ["question"] (spD K 1 (ji_ (i+1))) :=
 jZ_ (k:=1+i) Fn sc_rooms_for (fun cdv A outer s H E hr =>
 (zd_ (zM_ (sh:=[.f,.f,.dead,.dead]) (zH_ (i:=1) sc_rooms_for.nd rfl (by first|exact Or.inl rfl|exact Or.inr rfl) (zi_ (zG_ (zo_ (zg_ hr)) zn_ (ao (av 0)) (ao zc_) (fun _ _=>rfl))) rfl (.inl rfl)))
  (zd_ (jO_ (z4_ (zA_ (z0_ (zg_ hr)) jl_ (ao (av 1)) (ao jb_) rfl))
  (zk_ (zB_ (zi_ (zl_ zw_ zP_ (ao (zG_ (zo_ (zg_ hr)) zn_ (ao (av 0)) (ao zc_) (fun _ _=>rfl))) (ao zc_)))))
  zL_)
  (zd_ (jO_ (z4_ (zA_ (z0_ (zg_ hr)) jl_ (ao (av 1)) (ao jb_) rfl))
  (zk_ (zB_ (zi_ zc_)))
  zL_)
  (zd_ (jO_ (z4_ (zA_ (z0_ (zg_ hr)) jl_ (ao (av 1)) (ao jb_) rfl))
  (zk_ (zB_ (zi_ (zl_ zw_ zP_ (ao (zG_ (zo_ (zg_ hr)) zn_ (ao (av 0)) (ao zc_) (fun _ _=>rfl))) (ao zc_)))))
  zL_)
  (zd_ (zM_ (sh:=[.f,.dead,.f,.dead]) (zH_ (i:=2) sc_rooms_for.nd rfl (by first|exact Or.inl rfl|exact Or.inr rfl) (zi_ zc_) rfl (.inl rfl)))
  (zd_ (ud_ (sh:=[.dead,.dead,.f,.dead]) PassesOwn.leaving rfl (uH_ (Qy_ (Ua_ (ao (av 0)) (J8_ zc_) J9_))) (zS_ (i:=3) (Nat.zero_le _) sc_rooms_for.nd rfl (by first|exact Or.inl rfl|exact Or.inr rfl) (.inl rfl))
  (zk_ (zcW_ (i:=2) sc_rooms_for.nd rfl (by first|exact Or.inl rfl|exact Or.inr rfl) zcJ_ zaI_ (zi_ (jV_ Cself (hr.mono (by omega)) rfl (zb_ (av 3) zj_ (za_ rfl)) rfl (by decide) rfl rfl)) (.inl rfl))) (fun _=>rfl))
  (zk_ (zB_ (zi_ (av 2)))))))))))
 (fun ds hl=>match ds,hl with | [p_question],_=>by kernel_rfl)
theorem Uz_ {f:Addr} {fd:FuncData} (Fn:Fun K "rooms_for" "rooms_for" jq_ f fd) (hmg:mg "rooms_for" = some (.ref f)) (B:BN mg) (Kn:KN mg) (Kx:KX K mg) (i:Nat):CF P w K mg base "rooms_for" (1+i) (spD K 1 (ji_ i)):=by
 induction i with
 | zero =>
  have e:ji_ 0=fun _=>.bad:=by
   funext l;unfold ji_;split<;>rfl
  rw [e]
  exact CF.zero (ps:=["question"]) _ _ hmg Fn.kp (bnd1 Fn fun _ _ _ _ _ _ _=>rfl)
 | succ i ih=>exact ⟨f,fd,["question"],US_ Fn B Kn Kx  i ih,hmg,Fn.kp,(bnd1 Fn fun _ _ _ _ _ _ _=>rfl)⟩
noncomputable abbrev je_:Stmt:=top 23
noncomputable abbrev ZZ_:List Str:=["some", "sorts"]
theorem Uq_:FnScope ZZ_ ["some", "sorts"] (ze_ je_):=⟨rfl,rfl,rfl,by decide +kernel,rfl,by decide +kernel,by decide +kernel⟩
noncomputable abbrev N_starts_of_0:List Str:=["some", "sorts", "sort"]
theorem Za_:N_starts_of_0.Nodup:=by decide +kernel
noncomputable def j9_ (p_some:D) (p_sorts:D):M D :=
 bd (bd (bd (bd (oM (ja_ [p_sorts])) fun l4=>bd (jA_ (fun d1=>bd (bd (oM (uN_ d1 p_some)) fun b2=>if b2 then .ret (.int 1) else .ret (.int 0)) fun x3=>.ret (some x3)) l4) fitM) fun l5=>.ret (PyData.list l5)) fun x6=>oM (jS_ [x6])) fun x7=>.ret x7
noncomputable def jx_:List D→M D:=fun l=>match l with
 | [p_some,p_sorts]=>j9_ p_some p_sorts
 | _=>.bad
set_option maxHeartbeats 4000000 in
theorem UR_ {f:Addr} {fd:FuncData} (Fn:Fun K "starts_of" "starts_of" je_ f fd) (B:BN mg) (Kn:KN mg) (Kx:KX K mg):FnOk P w K mg base (CX1 P w) 1 f fd ["some", "sorts"] (spD K 2 jx_) :=
 jZ_ (k:=0) Fn Uq_ (fun cdv A outer s H E hr =>
 (zk_ (zB_ (zi_ (zV_ zv_ jk_ rfl B.tuple (by decide +kernel) (zu_ (ao (ap_z (Ub_ (N':=N_starts_of_0) (k:=1) rfl (jj_ (N:=ZZ_) (sc:=(ze_ je_)) (by decide +kernel) rfl rfl) (zW_ rfl B.range (zb_ (av 1) zj_ (za_ rfl)) rfl) (fun cl s' H' fp C'=>(zS_ (i:=2) (show 2≤2 by decide) Za_ rfl (by first|exact Or.inl rfl|exact Or.inr rfl) (.inr rfl))) (fun cl s' H' fp C'=>yc_) (fun cl s' H' fp C'=>(ZW_ (zA_ (yO_ (zg_ hr)) Js_ (ao (av 2)) (ao (av 0)) rfl) zc_ zc_)) (fun _=>rfl)))) zK_ (za_ rfl)) (by decide) (by decide) rfl rfl)))))
 (fun ds hl=>match ds,hl with | [p_some,p_sorts],_=>by kernel_rfl)
theorem Uy_ {f:Addr} {fd:FuncData} (Fn:Fun K "starts_of" "starts_of" je_ f fd) (hmg:mg "starts_of" = some (.ref f)) (B:BN mg) (Kn:KN mg) (Kx:KX K mg):CF P w K mg base "starts_of" 1 (spD K 2 jx_) :=
 ⟨f,fd,["some", "sorts"],UR_ Fn B Kn Kx,hmg,Fn.kp,(bnd2 Fn fun _ _ _ _ _ _ _ _=>rfl)⟩
noncomputable abbrev z5_:Stmt:=top 24
noncomputable abbrev y7_:List Str:=["some", "n", "sorts", "meets", "a", "b", "says"]
theorem sc_made_least:FnScope y7_ ["some", "n", "sorts"] (ze_ z5_):=⟨rfl,rfl,rfl,by decide +kernel,rfl,by decide +kernel,by decide +kernel⟩
noncomputable abbrev N_made_least_0:List Str:=["some", "n", "sorts", "meets", "a", "b", "says", "room"]
theorem yR_:N_made_least_0.Nodup:=by decide +kernel
noncomputable def yb_ (v_some:D) (v_n:D) (v_sorts:D) (v_meets:List D):M D :=
 bd (bd (bd (bd (oM (zC_ v_n (.int 1))) fun x2=>oM (ja_ [x2])) fun l6=>bd (jA_ (fun d3=>bd (bd (oM (opEq d3 v_n)) fun b4=>.ret (.bool b4)) fun x5=>.ret (some x5)) l6) fitM) fun l7=>.ret (PyData.list l7)) fun x8=>bd (bd (oM (zC_ v_n (.int 1))) fun x9=>bd (j9_ v_some v_sorts) fun x10=>bd (oM (jS_ [(PyData.list v_meets)])) fun x11=>bd (oM (jS_ [x8])) fun x12=>.ret (.tuple [x9,x10,x11,x12])) fun x13=>.ret x13
noncomputable def ub_ (kn14:D×D×D×List D×Unit→M D) (v_some:D) (v_n:D) (v_sorts:D) (v_meets:List D) (v_a:D):M D :=
 bd (oM (mApp v_meets [(.tuple [v_a,v_n,v_n,v_n])])) fun l16=>kn14 (v_some,v_n,v_sorts,l16,())
noncomputable def u9_ (kn14:D×D×D×List D×Unit→M D) (v_some:D) (v_n:D) (v_sorts:D) (v_meets:List D) (v_a:D) (d_:D) (kn17:D×D×D×List D×D×Unit→M D):M D :=
 bd (oM (opGt v_a (.int 0))) fun b18=>if b18 then
  bd (bd (bd (oM (zC_ v_a d_)) fun x19=>oM (Ux_ x19 v_n)) fun b21=>if b21 then bd (oM (zC_ v_a d_)) fun x20=>.ret (.tuple [v_a,d_,(.int 0),x20]) else .ret (.tuple [v_a,d_,v_n,v_n])) fun x22=>bd (oM (mApp v_meets [x22])) fun l23=>kn17 (v_some,v_n,v_sorts,l23,v_a,())
  else
  kn17 (v_some,v_n,v_sorts,v_meets,v_a,())
noncomputable def ya_ (v_some:D) (v_n:D) (v_sorts:D) (v_meets:List D) (d_:D) (kn14:D×D×D×List D×Unit→M D):M D :=
 bd (oM (u7_ [d_,v_n])) fun l15=>forS (fun s24 d25 kn=>u9_ kn14 s24.1 s24.2.1 s24.2.2.1 s24.2.2.2.1 s24.2.2.2.2.1 d25 kn) l15 (v_some,v_n,v_sorts,v_meets,d_,()) (fun s24=>ub_ kn14 s24.1 s24.2.1 s24.2.2.1 s24.2.2.2.1 s24.2.2.2.2.1)
noncomputable def uo_ (p_some:D) (p_n:D) (p_sorts:D):M D :=
 bd (oM (ja_ [p_n])) fun l1=>forS (fun s26 d27 kn=>ya_ s26.1 s26.2.1 s26.2.2.1 s26.2.2.2.1 d27 kn) l1 (p_some,p_n,p_sorts,[],()) (fun s26=>yb_ s26.1 s26.2.1 s26.2.2.1 s26.2.2.2.1)
noncomputable def j2_:List D→M D:=fun l=>match l with
 | [p_some,p_n,p_sorts]=>uo_ p_some p_n p_sorts
 | _=>.bad
set_option maxHeartbeats 4000000 in
theorem J0_ {f:Addr} {fd:FuncData} (Fn:Fun K "made_least" "made_least" z5_ f fd) (B:BN mg) (Kn:KN mg) (Kx:KX K mg) (C_starts_of:CF P w K mg base "starts_of" 1 (spD K 2 jx_)):FnOk P w K mg base (CX1 P w) 2 f fd ["some", "n", "sorts"] (spD K 3 j2_) :=
 jZ_ (k:=1) Fn sc_made_least (fun cdv A outer s H E hr =>
 (zd_ (zM_ (sh:=[.f,.f,.f,.o,.dead,.dead,.dead]) (ZU_ (i:=3) sc_made_least.nd rfl (by first|exact Or.inl rfl|exact Or.inr rfl) (JD_ (yL_ zj_ (by decide +kernel))) rfl (.inl rfl)))
  (zd_ (ud_ (sh:=[.f,.f,.f,.o,.dead,.dead,.dead]) PassesOwn.leaving rfl (uH_ (zW_ rfl B.range (zb_ (av 1) zj_ (za_ rfl)) rfl)) (zS_ (i:=4) (Nat.zero_le _) sc_made_least.nd rfl (by first|exact Or.inl rfl|exact Or.inr rfl) (.inl rfl))
  (zd_ (ud_ (sh:=[.f,.f,.f,.o,.f,.dead,.dead]) PassesOwn.leaving rfl (uH_ (ZY_ rfl B.range (zb_ (av 4) (zb_ (av 1) zj_ (za_ rfl)) (za_ rfl)) rfl rfl)) (zS_ (i:=5) (Nat.zero_le _) sc_made_least.nd rfl (by first|exact Or.inl rfl|exact Or.inr rfl) (.inl rfl))
  (zk_ (jO_ (z4_ (zA_ VQ_ VV_ (ao (av 4)) (ao zc_) rfl))
  (zk_ (ZV_ (i:=3) rfl (by first|exact Or.inl rfl|exact Or.inr (Or.inl rfl)|exact Or.inr (Or.inr rfl)) (zf_ (zi_ (ZW_ (zA_ (VO_ (zg_ hr)) VU_ (ao (zl_ zw_ zP_ (ao (av 4)) (ao (av 5)))) (ao (av 1)) rfl) (zN_ (zb_ (av 4) (zb_ (av 5) (zb_ zc_ (zb_ (zl_ zw_ zP_ (ao (av 4)) (ao (av 5))) zj_ (za_ rfl)) (za_ rfl)) (za_ rfl)) (za_ rfl)) (by decide +kernel)) (zN_ (zb_ (av 4) (zb_ (av 5) (zb_ (av 1) (zb_ (av 1) zj_ (za_ rfl)) (za_ rfl)) (za_ rfl)) (za_ rfl)) (by decide +kernel)))) zm_ (za_ rfl)) rfl rfl rfl rfl rfl rfl))
  zL_)) (fun _=>rfl))
  (zk_ (ZV_ (i:=3) rfl (by first|exact Or.inl rfl|exact Or.inr (Or.inl rfl)|exact Or.inr (Or.inr rfl)) (zf_ (zi_ (zN_ (zb_ (av 4) (zb_ (av 1) (zb_ (av 1) (zb_ (av 1) zj_ (za_ rfl)) (za_ rfl)) (za_ rfl)) (za_ rfl)) (by decide +kernel))) zm_ (za_ rfl)) rfl rfl rfl rfl rfl rfl))) (fun _=>rfl))
  (zd_ (zM_ (sh:=[.f,.f,.f,.o,.dead,.dead,.f]) (uG_ (i:=6) sc_made_least.nd rfl (by first|exact Or.inl rfl|exact Or.inr rfl) (.inl rfl) (N':=N_made_least_0) (k:=1) rfl (jj_ (N:=y7_) (sc:=(ze_ z5_)) (by decide +kernel) rfl rfl) (zW_ rfl B.range (zb_ (zl_ zw_ zP_ (ao (av 1)) (ao zc_)) zj_ (za_ rfl)) rfl) (fun cl s' H' fp C'=>(zS_ (i:=7) (show 7≤7 by decide) yR_ rfl (by first|exact Or.inl rfl|exact Or.inr rfl) (.inr rfl))) (fun cl s' H' fp C'=>yc_) (fun cl s' H' fp C'=>(ap_b (WH_ (z0_ (zg_ hr)) jl_ (ao (av 7)) (ao (av 1)) rfl))) rfl (fun _=>rfl)))
  (zk_ (zB_ (zi_ (zN_ (zb_ (zl_ zw_ zP_ (ao (av 1)) (ao zc_)) (zb_ (jV_ C_starts_of (hr.mono (by decide)) rfl (zb_ (av 0) (zb_ (av 2) zj_ (za_ rfl)) (za_ rfl)) rfl (by decide) rfl rfl) (zb_ (zV_ zv_ jk_ rfl B.tuple (by decide +kernel) (zu_ (yd_ (i:=3) rfl (by first|exact Or.inl rfl|exact Or.inr (Or.inl rfl)|exact Or.inr (Or.inr rfl))) zK_ (za_ rfl)) (by decide) (by decide) rfl rfl) (zb_ (zV_ zv_ jk_ rfl B.tuple (by decide +kernel) (zu_ (ao (av 6)) zK_ (za_ rfl)) (by decide) (by decide) rfl rfl) zj_ (za_ rfl)) (za_ rfl)) (za_ rfl)) (za_ rfl)) (by decide +kernel)))))))))
 (fun ds hl=>match ds,hl with | [p_some,p_n,p_sorts],_=>by kernel_rfl)
theorem JP_ {f:Addr} {fd:FuncData} (Fn:Fun K "made_least" "made_least" z5_ f fd) (hmg:mg "made_least" = some (.ref f)) (B:BN mg) (Kn:KN mg) (Kx:KX K mg) (C_starts_of:CF P w K mg base "starts_of" 1 (spD K 2 jx_)):CF P w K mg base "made_least" 2 (spD K 3 j2_) :=
 ⟨f,fd,["some", "n", "sorts"],J0_ Fn B Kn Kx C_starts_of,hmg,Fn.kp,(bnd3 Fn fun _ _ _ _ _ _ _ _ _=>rfl)⟩
noncomputable abbrev jr_:Stmt:=top 25
noncomputable abbrev YS_:List Str:=["these", "those", "sorts", "starts", "sort", "meets"]
theorem sc_made_more:FnScope YS_ ["these", "those", "sorts"] (ze_ jr_):=⟨rfl,rfl,rfl,by decide +kernel,rfl,by decide +kernel,by decide +kernel⟩
noncomputable def yq_ (v_these:D) (v_those:D) (v_starts:List D):M D :=
 bd (bd (oM (jS_ [(PyData.list v_starts)])) fun x2=>.ret (.tuple [(.int 4),x2,(.tuple [(.tuple [(.int 0),(.int 1),(.int 2),(.int 3)]),(.tuple [(.int 0),(.int 3),(.int 0),(.int 2)]),(.tuple [(.int 1),(.int 2),(.int 1),(.int 3)]),(.tuple [(.int 2),(.int 3),(.int 3),(.int 3)])]),(.tuple [(.bool true),(.bool false),(.bool true),(.bool false)])])) fun x3=>.ret x3
noncomputable def yp_ (v_these:D) (v_those:D) (v_starts:List D) (d_:D) (kn4:D×D×List D×Unit→M D):M D :=
 bd (oM (uN_ d_ v_these)) fun b5=>if b5 then
  bd (oM (mApp v_starts [(.int 0)])) fun l6=>kn4 (v_these,v_those,l6,())
  else
  bd (bd (oM (uN_ d_ v_those)) fun b7=>if b7 then .ret (.int 1) else .ret (.int 3)) fun x8=>bd (oM (mApp v_starts [x8])) fun l9=>kn4 (v_these,v_those,l9,())
noncomputable def uW_ (p_these:D) (p_those:D) (p_sorts:D):M D :=
 bd (oM (ja_ [p_sorts])) fun l1=>forS (fun s10 d11 kn=>yp_ s10.1 s10.2.1 s10.2.2.1 d11 kn) l1 (p_these,p_those,[],()) (fun s10=>yq_ s10.1 s10.2.1 s10.2.2.1)
noncomputable def uj_:List D→M D:=fun l=>match l with
 | [p_these,p_those,p_sorts]=>uW_ p_these p_those p_sorts
 | _=>.bad
set_option maxHeartbeats 4000000 in
theorem UU_ {f:Addr} {fd:FuncData} (Fn:Fun K "made_more" "made_more" jr_ f fd) (B:BN mg) (Kn:KN mg) (Kx:KX K mg):FnOk P w K mg base (CX1 P w) 1 f fd ["these", "those", "sorts"] (spD K 3 uj_) :=
 jZ_ (k:=0) Fn sc_made_more (fun cdv A outer s H E hr =>
 (zd_ (zM_ (sh:=[.f,.f,.f,.o,.dead,.dead]) (ZU_ (i:=3) sc_made_more.nd rfl (by first|exact Or.inl rfl|exact Or.inr rfl) (JD_ (yL_ zj_ (by decide +kernel))) rfl (.inl rfl)))
  (zd_ (ud_ (sh:=[.f,.f,.dead,.o,.dead,.dead]) PassesOwn.leaving rfl (uH_ (zW_ rfl B.range (zb_ (av 2) zj_ (za_ rfl)) rfl)) (zS_ (i:=4) (Nat.zero_le _) sc_made_more.nd rfl (by first|exact Or.inl rfl|exact Or.inr rfl) (.inl rfl))
  (zk_ (jO_ (z4_ (zA_ (yO_ (zg_ hr)) Js_ (ao (av 4)) (ao (av 0)) rfl))
  (zk_ (ZV_ (i:=3) rfl (by first|exact Or.inl rfl|exact Or.inr (Or.inl rfl)|exact Or.inr (Or.inr rfl)) (zf_ (zi_ zc_) zm_ (za_ rfl)) rfl rfl rfl rfl rfl rfl))
  (zk_ (ZV_ (i:=3) rfl (by first|exact Or.inl rfl|exact Or.inr (Or.inl rfl)|exact Or.inr (Or.inr rfl)) (zf_ (zi_ (ZW_ (zA_ (yO_ (zg_ hr)) Js_ (ao (av 4)) (ao (av 1)) rfl) zc_ zc_)) zm_ (za_ rfl)) rfl rfl rfl rfl rfl rfl)))) (fun _=>rfl))
  (zd_ (zM_ (sh:=[.dead,.dead,.dead,.o,.dead,.f]) (zH_ (i:=5) sc_made_more.nd rfl (by first|exact Or.inl rfl|exact Or.inr rfl) (zi_ (zN_ (zb_ (zN_ (zb_ zc_ (zb_ zc_ (zb_ zc_ (zb_ zc_ zj_ (za_ rfl)) (za_ rfl)) (za_ rfl)) (za_ rfl)) (by decide +kernel)) (zb_ (zN_ (zb_ zc_ (zb_ zc_ (zb_ zc_ (zb_ zc_ zj_ (za_ rfl)) (za_ rfl)) (za_ rfl)) (za_ rfl)) (by decide +kernel)) (zb_ (zN_ (zb_ zc_ (zb_ zc_ (zb_ zc_ (zb_ zc_ zj_ (za_ rfl)) (za_ rfl)) (za_ rfl)) (za_ rfl)) (by decide +kernel)) (zb_ (zN_ (zb_ zc_ (zb_ zc_ (zb_ zc_ (zb_ zc_ zj_ (za_ rfl)) (za_ rfl)) (za_ rfl)) (za_ rfl)) (by decide +kernel)) zj_ (za_ rfl)) (za_ rfl)) (za_ rfl)) (za_ rfl)) (by decide +kernel))) rfl (.inl rfl)))
  (zk_ (zB_ (zi_ (zN_ (zb_ zc_ (zb_ (zV_ zv_ jk_ rfl B.tuple (by decide +kernel) (zu_ (yd_ (i:=3) rfl (by first|exact Or.inl rfl|exact Or.inr (Or.inl rfl)|exact Or.inr (Or.inr rfl))) zK_ (za_ rfl)) (by decide) (by decide) rfl rfl) (zb_ (av 5) (zb_ (zN_ (zb_ ZX_ (zb_ ZX_ (zb_ ZX_ (zb_ ZX_ zj_ (za_ rfl)) (za_ rfl)) (za_ rfl)) (za_ rfl)) (by decide +kernel)) zj_ (za_ rfl)) (za_ rfl)) (za_ rfl)) (za_ rfl)) (by decide +kernel)))))))))
 (fun ds hl=>match ds,hl with | [p_these,p_those,p_sorts],_=>by kernel_rfl)
theorem UB_ {f:Addr} {fd:FuncData} (Fn:Fun K "made_more" "made_more" jr_ f fd) (hmg:mg "made_more" = some (.ref f)) (B:BN mg) (Kn:KN mg) (Kx:KX K mg):CF P w K mg base "made_more" 1 (spD K 3 uj_) :=
 ⟨f,fd,["these", "those", "sorts"],UU_ Fn B Kn Kx,hmg,Fn.kp,(bnd3 Fn fun _ _ _ _ _ _ _ _ _=>rfl)⟩
noncomputable abbrev z7_:Stmt:=top 26
noncomputable abbrev yu_:List Str:=["some", "m", "r", "sorts", "words", "meets", "a", "b", "rest", "says"]
theorem sc_made_rest:FnScope yu_ ["some", "m", "r", "sorts"] (ze_ z7_):=⟨rfl,rfl,rfl,by decide +kernel,rfl,by decide +kernel,by decide +kernel⟩
noncomputable abbrev N_made_rest_0:List Str:=["some", "m", "r", "sorts", "words", "meets", "a", "b", "rest", "says", "room"]
theorem Zc_:N_made_rest_0.Nodup:=by decide +kernel
noncomputable abbrev N_made_rest_1:List Str:=["some", "m", "r", "sorts", "words", "meets", "a", "b", "rest", "says", "room"]
theorem Zb_:N_made_rest_1.Nodup:=by decide +kernel
noncomputable def yo_ (v_some:D) (v_m:D) (v_r:D) (v_sorts:D) (v_words:D) (v_meets:List D):M D :=
 bd (bd (bd (bd (oM (zC_ v_m (.int 2))) fun x8=>oM (ja_ [x8])) fun l14=>bd (jA_ (fun d9=>bd (bd (bd (bd (oM (zC_ v_m (.int 1))) fun x10=>.ret (.tuple [v_r,x10])) fun x11=>oM (uN_ d9 x11)) fun b12=>.ret (.bool b12)) fun x13=>.ret (some x13)) l14) fitM) fun l15=>.ret (PyData.list l15)) fun x16=>bd (bd (oM (zC_ v_m (.int 2))) fun x17=>bd (j9_ v_some v_sorts) fun x18=>bd (oM (jS_ [(PyData.list v_meets)])) fun x19=>bd (oM (jS_ [x16])) fun x20=>.ret (.tuple [x17,x18,x19,x20])) fun x21=>.ret x21
noncomputable def yn_ (kn22:D×D×D×D×D×List D×Unit→M D) (v_some:D) (v_m:D) (v_r:D) (v_sorts:D) (v_words:D) (v_meets:List D) (v_a:D):M D :=
 kn22 (v_some,v_m,v_r,v_sorts,v_words,v_meets,())
noncomputable def uu_ (kn22:D×D×D×D×D×List D×Unit→M D) (v_some:D) (v_m:D) (v_r:D) (v_sorts:D) (v_words:D) (v_meets:List D) (v_a:D) (d_:D) (kn27:D×D×D×D×D×List D×D×Unit→M D):M D :=
 bd (bd (oM (zt_ v_words v_a)) fun x28=>oM (opNe d_ x28)) fun b29=>if b29 then
  bd (bd (oM (zt_ v_words v_a)) fun x30=>.ret (.tuple [v_a,d_,v_a,x30])) fun x31=>bd (oM (mApp v_meets [x31])) fun l32=>kn27 (v_some,v_m,v_r,v_sorts,v_words,l32,v_a,())
  else
  kn27 (v_some,v_m,v_r,v_sorts,v_words,v_meets,v_a,())
noncomputable def uv_ (kn22:D×D×D×D×D×List D×Unit→M D) (v_some:D) (v_m:D) (v_r:D) (v_sorts:D) (v_words:D) (v_meets:List D) (v_a:D):M D :=
 bd (bd (bd (oM (zC_ v_m (.int 1))) fun x24=>.ret (.tuple [v_m,x24])) fun x25=>oM (seqD x25)) fun l26=>forS (fun s33 d34 kn=>uu_ kn22 s33.1 s33.2.1 s33.2.2.1 s33.2.2.2.1 s33.2.2.2.2.1 s33.2.2.2.2.2.1 s33.2.2.2.2.2.2.1 d34 kn) l26 (v_some,v_m,v_r,v_sorts,v_words,v_meets,v_a,()) (fun s33=>yn_ kn22 s33.1 s33.2.1 s33.2.2.1 s33.2.2.2.1 s33.2.2.2.2.1 s33.2.2.2.2.2.1 s33.2.2.2.2.2.2.1)
noncomputable def yl_ (kn22:D×D×D×D×D×List D×Unit→M D) (v_some:D) (v_m:D) (v_r:D) (v_sorts:D) (v_words:D) (v_meets:List D) (v_a:D) (d_:D) (kn35:D×D×D×D×D×List D×D×Unit→M D):M D :=
 bd (bd (oM (zC_ v_a d_)) fun x36=>oM (uy_ x36 v_m)) fun x37=>bd (bd (oM (zt_ v_words x37)) fun x38=>.ret (.tuple [v_a,d_,x37,x38])) fun x39=>bd (oM (mApp v_meets [x39])) fun l40=>kn35 (v_some,v_m,v_r,v_sorts,v_words,l40,v_a,())
noncomputable def ym_ (v_some:D) (v_m:D) (v_r:D) (v_sorts:D) (v_words:D) (v_meets:List D) (d_:D) (kn22:D×D×D×D×D×List D×Unit→M D):M D :=
 bd (oM (u7_ [d_,v_m])) fun l23=>forS (fun s41 d42 kn=>yl_ kn22 s41.1 s41.2.1 s41.2.2.1 s41.2.2.2.1 s41.2.2.2.2.1 s41.2.2.2.2.2.1 s41.2.2.2.2.2.2.1 d42 kn) l23 (v_some,v_m,v_r,v_sorts,v_words,v_meets,d_,()) (fun s41=>uv_ kn22 s41.1 s41.2.1 s41.2.2.1 s41.2.2.2.1 s41.2.2.2.2.1 s41.2.2.2.2.2.1 s41.2.2.2.2.2.2.1)
noncomputable def uV_ (p_some:D) (p_m:D) (p_r:D) (p_sorts:D):M D :=
 bd (bd (bd (oM (ja_ [p_m])) fun l4=>bd (jA_ (fun d1=>bd (bd (oM (opEq d1 p_r)) fun b2=>if b2 then oM (zC_ p_m (.int 1)) else .ret p_m) fun x3=>.ret (some x3)) l4) fitM) fun l5=>.ret (PyData.list l5)) fun x6=>bd (oM (ja_ [p_m])) fun l7=>forS (fun s43 d44 kn=>ym_ s43.1 s43.2.1 s43.2.2.1 s43.2.2.2.1 s43.2.2.2.2.1 s43.2.2.2.2.2.1 d44 kn) l7 (p_some,p_m,p_r,p_sorts,x6,[],()) (fun s43=>yo_ s43.1 s43.2.1 s43.2.2.1 s43.2.2.2.1 s43.2.2.2.2.1 s43.2.2.2.2.2.1)
noncomputable def ui_:List D→M D:=fun l=>match l with
 | [p_some,p_m,p_r,p_sorts]=>uV_ p_some p_m p_r p_sorts
 | _=>.bad
set_option maxHeartbeats 4000000 in
theorem UT_ {f:Addr} {fd:FuncData} (Fn:Fun K "made_rest" "made_rest" z7_ f fd) (B:BN mg) (Kn:KN mg) (Kx:KX K mg) (C_starts_of:CF P w K mg base "starts_of" 1 (spD K 2 jx_)):FnOk P w K mg base (CX1 P w) 2 f fd ["some", "m", "r", "sorts"] (spD K 4 ui_) :=
 jZ_ (k:=1) Fn sc_made_rest (fun cdv A outer s H E hr =>
 (zd_ (zM_ (sh:=[.f,.f,.f,.f,.f,.dead,.dead,.dead,.dead,.dead]) (uG_ (i:=4) sc_made_rest.nd rfl (by first|exact Or.inl rfl|exact Or.inr rfl) (.inl rfl) (N':=N_made_rest_0) (k:=1) rfl (jj_ (N:=yu_) (sc:=(ze_ z7_)) (by decide +kernel) rfl rfl) (zW_ rfl B.range (zb_ (av 1) zj_ (za_ rfl)) rfl) (fun cl s' H' fp C'=>(zS_ (i:=10) (show 10≤10 by decide) Zc_ rfl (by first|exact Or.inl rfl|exact Or.inr rfl) (.inr rfl))) (fun cl s' H' fp C'=>yc_) (fun cl s' H' fp C'=>(ZW_ (zA_ (z0_ (zg_ hr)) jl_ (ao (av 10)) (ao (av 2)) rfl) (zl_ zw_ zP_ (ao (av 1)) (ao zc_)) (av 1))) rfl (fun _=>rfl)))
  (zd_ (zM_ (sh:=[.f,.f,.f,.f,.f,.o,.dead,.dead,.dead,.dead]) (ZU_ (i:=5) sc_made_rest.nd rfl (by first|exact Or.inl rfl|exact Or.inr rfl) (JD_ (yL_ zj_ (by decide +kernel))) rfl (.inl rfl)))
  (zd_ (ud_ (sh:=[.f,.f,.f,.f,.f,.o,.dead,.dead,.dead,.dead]) PassesOwn.leaving rfl (uH_ (zW_ rfl B.range (zb_ (av 1) zj_ (za_ rfl)) rfl)) (zS_ (i:=6) (Nat.zero_le _) sc_made_rest.nd rfl (by first|exact Or.inl rfl|exact Or.inr rfl) (.inl rfl))
  (zd_ (ud_ (sh:=[.f,.f,.f,.f,.f,.o,.f,.dead,.dead,.dead]) PassesOwn.leaving rfl (uH_ (ZY_ rfl B.range (zb_ (av 6) (zb_ (av 1) zj_ (za_ rfl)) (za_ rfl)) rfl rfl)) (zS_ (i:=7) (Nat.zero_le _) sc_made_rest.nd rfl (by first|exact Or.inl rfl|exact Or.inr rfl) (.inl rfl))
  (zd_ (zM_ (sh:=[.f,.f,.f,.f,.f,.o,.f,.f,.f,.dead]) (zH_ (i:=8) sc_made_rest.nd rfl (by first|exact Or.inl rfl|exact Or.inr rfl) (zi_ (zl_ u1_ u3_ (ao (zl_ zw_ zP_ (ao (av 6)) (ao (av 7)))) (ao (av 1)))) rfl (.inl rfl)))
  (zk_ (ZV_ (i:=5) rfl (by first|exact Or.inl rfl|exact Or.inr (Or.inl rfl)|exact Or.inr (Or.inr rfl)) (zf_ (zi_ (zN_ (zb_ (av 6) (zb_ (av 7) (zb_ (av 8) (zb_ (zG_ (zo_ (zg_ hr)) zn_ (ao (av 4)) (ao (av 8)) (fun _ _=>rfl)) zj_ (za_ rfl)) (za_ rfl)) (za_ rfl)) (za_ rfl)) (by decide +kernel))) zm_ (za_ rfl)) rfl rfl rfl rfl rfl rfl))) (fun _=>rfl))
  (zk_ (ud_ (sh:=[.f,.f,.f,.f,.f,.o,.f,.dead,.dead,.dead]) PassesOwn.leaving rfl (uH_ (Qy_ (zN_ (zb_ (av 1) (zb_ (zl_ zw_ zP_ (ao (av 1)) (ao zc_)) zj_ (za_ rfl)) (za_ rfl)) (by decide +kernel)))) (zS_ (i:=7) (Nat.zero_le _) sc_made_rest.nd rfl (by first|exact Or.inl rfl|exact Or.inr rfl) (.inl rfl))
  (zk_ (jO_ (z4_ (zA_ (Uw_ (zg_ hr)) jl_ (ao (av 7)) (ao (zG_ (zo_ (zg_ hr)) zn_ (ao (av 4)) (ao (av 6)) (fun _ _=>rfl))) rfl))
  (zk_ (ZV_ (i:=5) rfl (by first|exact Or.inl rfl|exact Or.inr (Or.inl rfl)|exact Or.inr (Or.inr rfl)) (zf_ (zi_ (zN_ (zb_ (av 6) (zb_ (av 7) (zb_ (av 6) (zb_ (zG_ (zo_ (zg_ hr)) zn_ (ao (av 4)) (ao (av 6)) (fun _ _=>rfl)) zj_ (za_ rfl)) (za_ rfl)) (za_ rfl)) (za_ rfl)) (by decide +kernel))) zm_ (za_ rfl)) rfl rfl rfl rfl rfl rfl))
  zL_)) (fun _=>rfl)))) (fun _=>rfl))
  (zd_ (zM_ (sh:=[.f,.f,.dead,.f,.dead,.o,.dead,.dead,.dead,.f]) (uG_ (i:=9) sc_made_rest.nd rfl (by first|exact Or.inl rfl|exact Or.inr rfl) (.inl rfl) (N':=N_made_rest_1) (k:=1) rfl (jj_ (N:=yu_) (sc:=(ze_ z7_)) (by decide +kernel) rfl rfl) (zW_ rfl B.range (zb_ (zl_ zw_ zP_ (ao (av 1)) (ao zc_)) zj_ (za_ rfl)) rfl) (fun cl s' H' fp C'=>(zS_ (i:=10) (show 10≤10 by decide) Zb_ rfl (by first|exact Or.inl rfl|exact Or.inr rfl) (.inr rfl))) (fun cl s' H' fp C'=>yc_) (fun cl s' H' fp C'=>(ap_b (WH_ (yO_ (zg_ hr)) Js_ (ao (av 10)) (ao (zN_ (zb_ (av 2) (zb_ (zl_ zw_ zP_ (ao (av 1)) (ao zc_)) zj_ (za_ rfl)) (za_ rfl)) (by decide +kernel))) rfl))) rfl (fun _=>rfl)))
  (zk_ (zB_ (zi_ (zN_ (zb_ (zl_ zw_ zP_ (ao (av 1)) (ao zc_)) (zb_ (jV_ C_starts_of (hr.mono (by decide)) rfl (zb_ (av 0) (zb_ (av 3) zj_ (za_ rfl)) (za_ rfl)) rfl (by decide) rfl rfl) (zb_ (zV_ zv_ jk_ rfl B.tuple (by decide +kernel) (zu_ (yd_ (i:=5) rfl (by first|exact Or.inl rfl|exact Or.inr (Or.inl rfl)|exact Or.inr (Or.inr rfl))) zK_ (za_ rfl)) (by decide) (by decide) rfl rfl) (zb_ (zV_ zv_ jk_ rfl B.tuple (by decide +kernel) (zu_ (ao (av 9)) zK_ (za_ rfl)) (by decide) (by decide) rfl rfl) zj_ (za_ rfl)) (za_ rfl)) (za_ rfl)) (za_ rfl)) (by decide +kernel))))))))))
 (fun ds hl=>match ds,hl with | [p_some,p_m,p_r,p_sorts],_=>by kernel_rfl)
theorem UA_ {f:Addr} {fd:FuncData} (Fn:Fun K "made_rest" "made_rest" z7_ f fd) (hmg:mg "made_rest" = some (.ref f)) (B:BN mg) (Kn:KN mg) (Kx:KX K mg) (C_starts_of:CF P w K mg base "starts_of" 1 (spD K 2 jx_)):CF P w K mg base "made_rest" 2 (spD K 4 ui_) :=
 ⟨f,fd,["some", "m", "r", "sorts"],UT_ Fn B Kn Kx C_starts_of,hmg,Fn.kp,(bnd4 Fn fun _ _ _ _ _ _ _ _ _ _=>rfl)⟩
noncomputable abbrev uh_:Stmt:=top 22
noncomputable abbrev QB_:List Str:=["rule"]
theorem Vs_:FnScope QB_ ["rule"] (ze_ uh_):=⟨rfl,rfl,rfl,by decide +kernel,rfl,by decide +kernel,by decide +kernel⟩
noncomputable abbrev N_turned_0:List Str:=["rule", "truth"]
theorem JT_:N_turned_0.Nodup:=by decide +kernel
noncomputable def Zm_ (p_rule:D):M D :=
 bd (bd (oM (zt_ p_rule (.int 0))) fun x1=>bd (oM (zt_ p_rule (.int 1))) fun x2=>bd (oM (zt_ p_rule (.int 2))) fun x3=>bd (bd (bd (bd (bd (oM (zt_ p_rule (.int 3))) fun x4=>oM (seqD x4)) fun l9=>bd (jA_ (fun d5=>bd (bd (bd (oM (truD d5)) fun b6=>.ret (!b6)) fun b7=>.ret (.bool b7)) fun x8=>.ret (some x8)) l9) fitM) fun l10=>.ret (PyData.list l10)) fun x11=>oM (jS_ [x11])) fun x12=>.ret (.tuple [x1,x2,x3,x12])) fun x13=>.ret x13
noncomputable def yF_:List D→M D:=fun l=>match l with
 | [p_rule]=>Zm_ p_rule
 | _=>.bad
set_option maxHeartbeats 4000000 in
theorem Wj_ {f:Addr} {fd:FuncData} (Fn:Fun K "turned" "turned" uh_ f fd) (B:BN mg) (Kn:KN mg) (Kx:KX K mg):FnOk P w K mg base (CX1 P w) 1 f fd ["rule"] (spD K 1 yF_) :=
 jZ_ (k:=0) Fn Vs_ (fun cdv A outer s H E hr =>
 (zk_ (zB_ (zi_ (zN_ (zb_ (zG_ (zo_ (zg_ hr)) zn_ (ao (av 0)) (ao zc_) (fun _ _=>rfl)) (zb_ (zG_ (zo_ (zg_ hr)) zn_ (ao (av 0)) (ao zc_) (fun _ _=>rfl)) (zb_ (zG_ (zo_ (zg_ hr)) zn_ (ao (av 0)) (ao zc_) (fun _ _=>rfl)) (zb_ (zV_ zv_ jk_ rfl B.tuple (by decide +kernel) (zu_ (ao (ap_z (Ub_ (N':=N_turned_0) (k:=1) rfl (jj_ (N:=QB_) (sc:=(ze_ uh_)) (by decide +kernel) rfl rfl) (Qy_ (zG_ (zo_ (zg_ hr)) zn_ (ao (av 0)) (ao zc_) (fun _ _=>rfl))) (fun cl s' H' fp C'=>(zS_ (i:=1) (show 1≤1 by decide) JT_ rfl (by first|exact Or.inl rfl|exact Or.inr rfl) (.inr rfl))) (fun cl s' H' fp C'=>yc_) (fun cl s' H' fp C'=>(ap_b (WF_ (ao (av 1))))) (fun _=>rfl)))) zK_ (za_ rfl)) (by decide) (by decide) rfl rfl) zj_ (za_ rfl)) (za_ rfl)) (za_ rfl)) (za_ rfl)) (by decide +kernel))))))
 (fun ds hl=>match ds,hl with | [p_rule],_=>by kernel_rfl)
theorem VT_ {f:Addr} {fd:FuncData} (Fn:Fun K "turned" "turned" uh_ f fd) (hmg:mg "turned" = some (.ref f)) (B:BN mg) (Kn:KN mg) (Kx:KX K mg):CF P w K mg base "turned" 1 (spD K 1 yF_) :=
 ⟨f,fd,["rule"],Wj_ Fn B Kn Kx,hmg,Fn.kp,(bnd1 Fn fun _ _ _ _ _ _ _=>rfl)⟩
noncomputable abbrev Zw_:Stmt:=top 21
noncomputable abbrev zde_:List Str:=["question", "sorts", "word"]
theorem sc_made:FnScope zde_ ["question", "sorts"] (ze_ Zw_):=⟨rfl,rfl,rfl,by decide +kernel,rfl,by decide +kernel,by decide +kernel⟩
noncomputable def yJ_ (self:D→D→M D) (p_question:D) (p_sorts:D):M D :=
 bd (oM (zt_ p_question (.int 0))) fun x1=>bd (oM (opEq x1 (.str "least"))) fun b2=>if b2 then
  bd (bd (oM (zt_ p_question (.int 1))) fun x3=>bd (oM (zt_ p_question (.int 2))) fun x4=>uo_ x3 x4 p_sorts) fun x5=>.ret x5
  else
  bd (oM (opEq x1 (.str "more"))) fun b6=>if b6 then
  bd (bd (oM (zt_ p_question (.int 1))) fun x7=>bd (oM (zt_ p_question (.int 2))) fun x8=>uW_ x7 x8 p_sorts) fun x9=>.ret x9
  else
  bd (oM (opEq x1 (.str "rest"))) fun b10=>if b10 then
  bd (bd (oM (zt_ p_question (.int 1))) fun x11=>bd (oM (zt_ p_question (.int 2))) fun x12=>bd (oM (zt_ p_question (.int 3))) fun x13=>uV_ x11 x12 x13 p_sorts) fun x14=>.ret x14
  else
  bd (bd (j6_ x1) fun x15=>oM (opEq x15 (.int 1))) fun b16=>if b16 then
  bd (bd (bd (oM (zt_ p_question (.int 1))) fun x17=>self x17 p_sorts) fun x18=>Zm_ x18) fun x19=>.ret x19
  else
  bd (bd (bd (oM (zt_ p_question (.int 1))) fun x20=>self x20 p_sorts) fun x21=>bd (bd (oM (zt_ p_question (.int 2))) fun x22=>self x22 p_sorts) fun x23=>uX_ x21 x23 x1) fun x24=>.ret x24
noncomputable def ZS_:Nat→D→D→M D
 | 0=>fun _ _=>.bad
 | i+1=>yJ_ (ZS_ i)
noncomputable def yt_ (i:Nat):List D→M D:=fun l=>match l with
 | [p_question,p_sorts]=>ZS_ i p_question p_sorts
 | _=>.bad
set_option maxHeartbeats 4000000 in
theorem zaM_ {f:Addr} {fd:FuncData} (Fn:Fun K "made" "made" Zw_ f fd) (B:BN mg) (Kn:KN mg) (Kx:KX K mg) (C_beside:CF P w K mg base "beside" 3 (spD K 3 uz_)) (C_made_least:CF P w K mg base "made_least" 2 (spD K 3 j2_)) (C_made_more:CF P w K mg base "made_more" 1 (spD K 3 uj_)) (C_made_rest:CF P w K mg base "made_rest" 2 (spD K 4 ui_)) (C_parts_of:CF P w K mg base "parts_of" 1 (spD K 1 uP_)) (C_turned:CF P w K mg base "turned" 1 (spD K 1 yF_)) (i:Nat) (Cself:CF P w K mg base "made" (4+i) (spD K 2 (yt_ i))):FnOk P w K mg base (CX1 P w) (4+i+1) f fd ["question", "sorts"] (spD K 2 (yt_ (i+1))) :=
 jZ_ (k:=4+i) Fn sc_made (fun cdv A outer s H E hr =>
 (zd_ (zM_ (sh:=[.f,.f,.f]) (zH_ (i:=2) sc_made.nd rfl (by first|exact Or.inl rfl|exact Or.inr rfl) (zi_ (zG_ (zo_ (zg_ hr)) zn_ (ao (av 0)) (ao zc_) (fun _ _=>rfl))) rfl (.inl rfl)))
  (zd_ (jO_ (z4_ (zA_ (z0_ (zg_ hr)) jl_ (ao (av 2)) (ao jb_) rfl))
  (zk_ (zB_ (zi_ (jV_ C_made_least (hr.mono (by omega)) rfl (zb_ (zG_ (zo_ (zg_ hr)) zn_ (ao (av 0)) (ao zc_) (fun _ _=>rfl)) (zb_ (zG_ (zo_ (zg_ hr)) zn_ (ao (av 0)) (ao zc_) (fun _ _=>rfl)) (zb_ (av 1) zj_ (za_ rfl)) (za_ rfl)) (za_ rfl)) rfl (by decide) rfl rfl))))
  zL_)
  (zd_ (jO_ (z4_ (zA_ (z0_ (zg_ hr)) jl_ (ao (av 2)) (ao jb_) rfl))
  (zk_ (zB_ (zi_ (jV_ C_made_more (hr.mono (by omega)) rfl (zb_ (zG_ (zo_ (zg_ hr)) zn_ (ao (av 0)) (ao zc_) (fun _ _=>rfl)) (zb_ (zG_ (zo_ (zg_ hr)) zn_ (ao (av 0)) (ao zc_) (fun _ _=>rfl)) (zb_ (av 1) zj_ (za_ rfl)) (za_ rfl)) (za_ rfl)) rfl (by decide) rfl rfl))))
  zL_)
  (zd_ (jO_ (z4_ (zA_ (z0_ (zg_ hr)) jl_ (ao (av 2)) (ao jb_) rfl))
  (zk_ (zB_ (zi_ (jV_ C_made_rest (hr.mono (by omega)) rfl (zb_ (zG_ (zo_ (zg_ hr)) zn_ (ao (av 0)) (ao zc_) (fun _ _=>rfl)) (zb_ (zG_ (zo_ (zg_ hr)) zn_ (ao (av 0)) (ao zc_) (fun _ _=>rfl)) (zb_ (zG_ (zo_ (zg_ hr)) zn_ (ao (av 0)) (ao zc_) (fun _ _=>rfl)) (zb_ (av 1) zj_ (za_ rfl)) (za_ rfl)) (za_ rfl)) (za_ rfl)) rfl (by decide) rfl rfl))))
  zL_)
  (zd_ (jO_ (z4_ (zA_ (z0_ (zg_ hr)) jl_ (ao (jV_ C_parts_of (hr.mono (by omega)) rfl (zb_ (av 2) zj_ (za_ rfl)) rfl (by decide) rfl rfl)) (ao zc_) rfl))
  (zk_ (zB_ (zi_ (jV_ C_turned (hr.mono (by omega)) rfl (zb_ (jV_ Cself (hr.mono (by omega)) rfl (zb_ (zG_ (zo_ (zg_ hr)) zn_ (ao (av 0)) (ao zc_) (fun _ _=>rfl)) (zb_ (av 1) zj_ (za_ rfl)) (za_ rfl)) rfl (by decide) rfl rfl) zj_ (za_ rfl)) rfl (by decide) rfl rfl))))
  zL_)
  (zk_ (zB_ (zi_ (jV_ C_beside (hr.mono (by omega)) rfl (zb_ (jV_ Cself (hr.mono (by omega)) rfl (zb_ (zG_ (zo_ (zg_ hr)) zn_ (ao (av 0)) (ao zc_) (fun _ _=>rfl)) (zb_ (av 1) zj_ (za_ rfl)) (za_ rfl)) rfl (by decide) rfl rfl) (zb_ (jV_ Cself (hr.mono (by omega)) rfl (zb_ (zG_ (zo_ (zg_ hr)) zn_ (ao (av 0)) (ao zc_) (fun _ _=>rfl)) (zb_ (av 1) zj_ (za_ rfl)) (za_ rfl)) rfl (by decide) rfl rfl) (zb_ (av 2) zj_ (za_ rfl)) (za_ rfl)) (za_ rfl)) rfl (by decide) rfl rfl))))))))))
 (fun ds hl=>match ds,hl with | [p_question,p_sorts],_=>by kernel_rfl)
theorem zaB_ {f:Addr} {fd:FuncData} (Fn:Fun K "made" "made" Zw_ f fd) (hmg:mg "made" = some (.ref f)) (B:BN mg) (Kn:KN mg) (Kx:KX K mg) (C_beside:CF P w K mg base "beside" 3 (spD K 3 uz_)) (C_made_least:CF P w K mg base "made_least" 2 (spD K 3 j2_)) (C_made_more:CF P w K mg base "made_more" 1 (spD K 3 uj_)) (C_made_rest:CF P w K mg base "made_rest" 2 (spD K 4 ui_)) (C_parts_of:CF P w K mg base "parts_of" 1 (spD K 1 uP_)) (C_turned:CF P w K mg base "turned" 1 (spD K 1 yF_)) (i:Nat):CF P w K mg base "made" (4+i) (spD K 2 (yt_ i)):=by
 induction i with
 | zero =>
  have e:yt_ 0=fun _=>.bad:=by
   funext l;unfold yt_;split<;>rfl
  rw [e]
  exact CF.zero (ps:=["question", "sorts"]) _ _ hmg Fn.kp (bnd2 Fn fun _ _ _ _ _ _ _ _=>rfl)
 | succ i ih=>exact ⟨f,fd,["question", "sorts"],zaM_ Fn B Kn Kx C_beside C_made_least C_made_more C_made_rest C_parts_of C_turned i ih,hmg,Fn.kp,(bnd2 Fn fun _ _ _ _ _ _ _ _=>rfl)⟩
noncomputable abbrev ju_:Stmt:=top 28
noncomputable abbrev YV_:List Str:=["_law_script", "_law_k", "_law_cell", "_law_great"]
theorem sc__law_feed:FnScope YV_ ["_law_script", "_law_k"] (ze_ ju_):=⟨rfl,rfl,rfl,by decide +kernel,rfl,by decide +kernel,by decide +kernel⟩
noncomputable def uY_ (p_law_script:D) (p_law_k:D):M (List D) :=
 bd (bd (bd (oM (fLen [p_law_script])) fun x1=>oM (opGt x1 (.int 0))) fun b4=>if b4 then bd (bd (oM (fLen [p_law_script])) fun x2=>oM (uy_ p_law_k x2)) fun x3=>oM (zt_ p_law_script x3) else .ret (.int 0)) fun x5=>bd (bd (bd (oM (fAbs [x5])) fun x6=>bd (oM (VR_ (.int 10) (.int 18))) fun x7=>oM (opGe x6 x7)) fun b8=>if b8 then oM (fAbs [x5]) else .ret (.int 0)) fun x9=>bd (bd (bd (oM (uy_ x5 (.int 1000003))) fun x10=>bd (oM (z1_ (.int 7919) p_law_k)) fun x11=>oM (zC_ x10 x11)) fun x12=>.ret [x9,x12,(.int 0)]) fun l13=>.ret l13
noncomputable def un_:List D→M (List D):=fun l=>match l with
 | [p_law_script,p_law_k]=>uY_ p_law_script p_law_k
 | _=>.bad
set_option maxHeartbeats 4000000 in
theorem UY_ {f:Addr} {fd:FuncData} (Fn:Fun K "_law_feed" "_law_feed" ju_ f fd) (B:BN mg) (Kn:KN mg) (Kx:KX K mg):FnOk P w K mg base (CX1 P w) 1 f fd ["_law_script", "_law_k"] (spL K 2 un_) :=
 zcM_ (k:=0) Fn sc__law_feed (fun cdv A outer s H E hr =>
 (zd_ (zM_ (sh:=[.dead,.f,.f,.dead]) (zH_ (i:=2) sc__law_feed.nd rfl (by first|exact Or.inl rfl|exact Or.inr rfl) (zi_ (ZW_ (zA_ VQ_ VV_ (ao (jn_ u8_ UC_ rfl B.len PySem.boot_len (zu_ (ao (av 0)) zK_ (za_ rfl)) (by decide) (by decide) rfl rfl)) (ao zc_) rfl) (zG_ (zo_ (zg_ hr)) zn_ (ao (av 0)) (ao (zl_ u1_ u3_ (ao (av 1)) (ao (jn_ u8_ UC_ rfl B.len PySem.boot_len (zu_ (ao (av 0)) zK_ (za_ rfl)) (by decide) (by decide) rfl rfl)))) (fun _ _=>rfl)) zc_)) rfl (.inl rfl)))
  (zd_ (zM_ (sh:=[.dead,.f,.f,.f]) (zH_ (i:=3) sc__law_feed.nd rfl (by first|exact Or.inl rfl|exact Or.inr rfl) (zi_ (ZW_ (zA_ zcp_ zcv_ (ao (jn_ Qu_ XK_ rfl B.abs (by decide +kernel) (zu_ (ao (av 2)) zK_ (za_ rfl)) (by decide) (by decide) rfl rfl)) (ao (zl_ zck_ zcs_ (ao zc_) (ao zc_))) rfl) (jn_ Qu_ XK_ rfl B.abs (by decide +kernel) (zu_ (ao (av 2)) zK_ (za_ rfl)) (by decide) (by decide) rfl rfl) zc_)) rfl (.inl rfl)))
  (zk_ (zaY_ (JD_ (yL_ (zb_ (av 3) (zb_ (zl_ zw_ zP_ (ao (zl_ u1_ u3_ (ao (av 2)) (ao zc_))) (ao (zl_ u0_ u2_ (ao zc_) (ao (av 1))))) (zb_ zc_ zj_ (za_ rfl)) (za_ rfl)) (za_ rfl)) (by decide +kernel))))))))
 (fun ds hl=>match ds,hl with | [p_law_script,p_law_k],_=>by kernel_rfl)
theorem UH_ {f:Addr} {fd:FuncData} (Fn:Fun K "_law_feed" "_law_feed" ju_ f fd) (hmg:mg "_law_feed" = some (.ref f)) (B:BN mg) (Kn:KN mg) (Kx:KX K mg):CF P w K mg base "_law_feed" 1 (spL K 2 un_) :=
 ⟨f,fd,["_law_script", "_law_k"],UY_ Fn B Kn Kx,hmg,Fn.kp,(bnd2 Fn fun _ _ _ _ _ _ _ _=>rfl)⟩
noncomputable abbrev jt_:Stmt:=top 29
noncomputable abbrev YU_:List Str:=["_law_feed_here", "_law_many", "_law_digit", "_law_turn", "_law_one_here"]
theorem sc__law_next:FnScope YU_ ["_law_feed_here", "_law_many"] (ze_ jt_):=⟨rfl,rfl,rfl,by decide +kernel,rfl,by decide +kernel,by decide +kernel⟩
noncomputable def zh_ (p_law_feed_here:List D) (p_law_many:D):M (D×List D) :=
 bd (bd (oM (zt_ (PyData.list p_law_feed_here) (.int 0))) fun x1=>oM (opGt x1 (.int 0))) fun b2=>if b2 then
  bd (bd (oM (zt_ (PyData.list p_law_feed_here) (.int 0))) fun x3=>oM (uy_ x3 p_law_many)) fun x4=>bd (bd (oM (zt_ (PyData.list p_law_feed_here) (.int 0))) fun x5=>oM (ZD_ x5 p_law_many)) fun x6=>bd (oM (putD p_law_feed_here (.int 0) x6)) fun l7=>.ret (x4,l7)
  else
  bd (bd (oM (zt_ (PyData.list p_law_feed_here) (.int 2))) fun x8=>oM (zC_ x8 (.int 1))) fun x9=>bd (oM (putD p_law_feed_here (.int 2) x9)) fun l10=>bd (bd (bd (bd (bd (oM (zt_ (PyData.list l10) (.int 1))) fun x11=>bd (oM (z1_ (.int 41) x9)) fun x12=>oM (zC_ x11 x12)) fun x13=>oM (zC_ x13 (.int 3))) fun x15=>bd (bd (oM (z1_ x9 x9)) fun x14=>oM (zC_ x14 (.int 69621))) fun x16=>oM (z1_ x15 x16)) fun x17=>oM (uy_ x17 (.int 998244353))) fun x18=>bd (bd (bd (bd (bd (bd (bd (oM (uy_ x18 (.int 65519))) fun x19=>oM (zC_ x19 (.int 40692))) fun x20=>oM (z1_ x18 x20)) fun x21=>oM (zC_ x21 x9)) fun x22=>oM (uy_ x22 (.int 2147483629))) fun x23=>oM (ZD_ x23 (.int 13))) fun x24=>oM (uy_ x24 p_law_many)) fun x25=>.ret (x25,l10)
noncomputable def zz_:List D→List D→M (D×List D):=fun p_law_feed_here l=>match l with
 | [p_law_many]=>zh_ p_law_feed_here p_law_many
 | _=>.bad
set_option maxHeartbeats 4000000 in
theorem UX_ {f:Addr} {fd:FuncData} (Fn:Fun K "_law_next" "_law_next" jt_ f fd) (B:BN mg) (Kn:KN mg) (Kx:KX K mg):FnOk P w K mg base (CX1 P w) 1 f fd ["_law_feed_here", "_law_many"] (sp1 K 2 zz_) :=
 Jx_ (k:=0) Fn sc__law_next (fun cdv A outer s H E hr =>
 (zd_ (jO_ (z4_ (zA_ VQ_ VV_ (ao (zG_ (zo_ (zg_ hr)) zn_ (yd_ (i:=0) rfl (by first|exact Or.inl rfl|exact Or.inr (Or.inl rfl)|exact Or.inr (Or.inr rfl))) (ao zc_) (fun _ _=>rfl))) (ao zc_) rfl))
  (zd_ (zM_ (sh:=[.p,.f,.f,.dead,.dead]) (zH_ (i:=2) sc__law_next.nd rfl (by first|exact Or.inl rfl|exact Or.inr rfl) (zi_ (zl_ u1_ u3_ (ao (zG_ (zo_ (zg_ hr)) zn_ (yd_ (i:=0) rfl (by first|exact Or.inl rfl|exact Or.inr (Or.inl rfl)|exact Or.inr (Or.inr rfl))) (ao zc_) (fun _ _=>rfl))) (ao (av 1)))) rfl (.inl rfl)))
  (zd_ (zM_ (sh:=[.p,.dead,.f,.dead,.dead]) (XZ_ (i:=0) rfl (by first|exact Or.inl rfl|exact Or.inr (Or.inl rfl)|exact Or.inr (Or.inr rfl)) (zi_ zc_) (zi_ (zl_ ZC_ UD_ (ao (zG_ (zo_ (zg_ hr)) zn_ (yd_ (i:=0) rfl (by first|exact Or.inl rfl|exact Or.inr (Or.inl rfl)|exact Or.inr (Or.inr rfl))) (ao zc_) (fun _ _=>rfl))) (ao (av 1)))) (fun _=>rfl) rfl rfl rfl))
  (zk_ (zB_ (zi_ (av 2))))))
  zL_)
  (zd_ (zM_ (sh:=[.p,.f,.dead,.f,.dead]) (zH_ (i:=3) sc__law_next.nd rfl (by first|exact Or.inl rfl|exact Or.inr rfl) (zi_ (zl_ zw_ zP_ (ao (zG_ (zo_ (zg_ hr)) zn_ (yd_ (i:=0) rfl (by first|exact Or.inl rfl|exact Or.inr (Or.inl rfl)|exact Or.inr (Or.inr rfl))) (ao zc_) (fun _ _=>rfl))) (ao zc_))) rfl (.inl rfl)))
  (zd_ (zM_ (sh:=[.p,.f,.dead,.f,.dead]) (XZ_ (i:=0) rfl (by first|exact Or.inl rfl|exact Or.inr (Or.inl rfl)|exact Or.inr (Or.inr rfl)) (zi_ zc_) (zi_ (av 3)) (fun _=>rfl) rfl rfl rfl))
  (zd_ (zM_ (sh:=[.p,.f,.dead,.f,.f]) (zH_ (i:=4) sc__law_next.nd rfl (by first|exact Or.inl rfl|exact Or.inr rfl) (zi_ (zl_ u1_ u3_ (ao (zl_ u0_ u2_ (ao (zl_ zw_ zP_ (ao (zl_ zw_ zP_ (ao (zG_ (zo_ (zg_ hr)) zn_ (yd_ (i:=0) rfl (by first|exact Or.inl rfl|exact Or.inr (Or.inl rfl)|exact Or.inr (Or.inr rfl))) (ao zc_) (fun _ _=>rfl))) (ao (zl_ u0_ u2_ (ao zc_) (ao (av 3)))))) (ao zc_))) (ao (zl_ zw_ zP_ (ao (zl_ u0_ u2_ (ao (av 3)) (ao (av 3)))) (ao zc_))))) (ao zc_))) rfl (.inl rfl)))
  (zk_ (zB_ (zi_ (zl_ u1_ u3_ (ao (zl_ ZC_ UD_ (ao (zl_ u1_ u3_ (ao (zl_ zw_ zP_ (ao (zl_ u0_ u2_ (ao (av 4)) (ao (zl_ zw_ zP_ (ao (zl_ u1_ u3_ (ao (av 4)) (ao zc_))) (ao zc_))))) (ao (av 3)))) (ao zc_))) (ao zc_))) (ao (av 1)))))))))))
 (fun g ds hl=>match ds,hl with | [p_law_many],_=>by kernel_rfl)
theorem UG_ {f:Addr} {fd:FuncData} (Fn:Fun K "_law_next" "_law_next" jt_ f fd) (hmg:mg "_law_next" = some (.ref f)) (B:BN mg) (Kn:KN mg) (Kx:KX K mg):CF P w K mg base "_law_next" 1 (sp1 K 2 zz_) :=
 ⟨f,fd,["_law_feed_here", "_law_many"],UX_ Fn B Kn Kx,hmg,Fn.kp,(bnd2 Fn fun _ _ _ _ _ _ _ _=>rfl)⟩
noncomputable abbrev jK_:Stmt:=top 30
noncomputable abbrev Vb_:List Str:=["_law_feed_here", "_law_some_here"]
theorem Ym_:FnScope Vb_ ["_law_feed_here", "_law_some_here"] (ze_ jK_):=⟨rfl,rfl,rfl,by decide +kernel,rfl,by decide +kernel,by decide +kernel⟩
noncomputable def uE_ (p_law_feed_here:List D) (p_law_some_here:D):M (D×List D) :=
 bd (oM (fLen [p_law_some_here])) fun x1=>bd (zh_ p_law_feed_here x1) fun r2=>bd (oM (zt_ p_law_some_here r2.1)) fun x3=>.ret (x3,r2.2)
noncomputable def uQ_:List D→List D→M (D×List D):=fun p_law_feed_here l=>match l with
 | [p_law_some_here]=>uE_ p_law_feed_here p_law_some_here
 | _=>.bad
set_option maxHeartbeats 4000000 in
theorem YI_ {f:Addr} {fd:FuncData} (Fn:Fun K "_law_one" "_law_one" jK_ f fd) (B:BN mg) (Kn:KN mg) (Kx:KX K mg) (C__law_next:CF P w K mg base "_law_next" 1 (sp1 K 2 zz_)):FnOk P w K mg base (CX1 P w) 2 f fd ["_law_feed_here", "_law_some_here"] (sp1 K 2 uQ_) :=
 Jx_ (k:=1) Fn Ym_ (fun cdv A outer s H E hr =>
 (zk_ (zB_ (zda_ (zo_ (zg_ hr)) zn_ (zi_ (av 1)) (zT_ (i:=0) C__law_next (hr.mono (by decide)) rfl rfl (by first|exact Or.inl rfl|exact Or.inr (Or.inl rfl)|exact Or.inr (Or.inr rfl)) (zf_ (zi_ (jn_ u8_ UC_ rfl B.len PySem.boot_len (zu_ (ao (av 1)) zK_ (za_ rfl)) (by decide) (by decide) rfl rfl)) zm_ (za_ rfl)) rfl (by decide) rfl rfl) (fun _ _=>rfl)))))
 (fun g ds hl=>match ds,hl with | [p_law_some_here],_=>by kernel_rfl)
theorem Ys_ {f:Addr} {fd:FuncData} (Fn:Fun K "_law_one" "_law_one" jK_ f fd) (hmg:mg "_law_one" = some (.ref f)) (B:BN mg) (Kn:KN mg) (Kx:KX K mg) (C__law_next:CF P w K mg base "_law_next" 1 (sp1 K 2 zz_)):CF P w K mg base "_law_one" 2 (sp1 K 2 uQ_) :=
 ⟨f,fd,["_law_feed_here", "_law_some_here"],YI_ Fn B Kn Kx C__law_next,hmg,Fn.kp,(bnd2 Fn fun _ _ _ _ _ _ _ _=>rfl)⟩
noncomputable abbrev jf_:Stmt:=top 31
noncomputable abbrev Z0_:List Str:=["_law_feed_here", "_law_sorts", "_law_least", "_law_some_here"]
theorem sc__law_some:FnScope Z0_ ["_law_feed_here", "_law_sorts", "_law_least"] (ze_ jf_):=⟨rfl,rfl,rfl,by decide +kernel,rfl,by decide +kernel,by decide +kernel⟩
noncomputable abbrev N__law_some_0:List Str:=["_law_feed_here", "_law_sorts", "_law_least", "_law_some_here", "_law_sort"]
theorem Zd_:N__law_some_0.Nodup:=by decide +kernel
noncomputable def uc_ (p_law_feed_here:List D) (p_law_sorts:D) (p_law_least:D):M (D×List D) :=
 bd (oM (ja_ [p_law_sorts])) fun l1=>bd (uS_ (fun s2 d3=>bd (zh_ s2.1 (.int 2)) fun r4=>bd (oM (opEq r4.1 (.int 0))) fun b5=>if b5 then .ret (some d3,(r4.2,s2.2.1,s2.2.2.1,())) else .ret (none,(r4.2,s2.2.1,s2.2.2.1,()))) l1 (p_law_feed_here,p_law_sorts,p_law_least,())) fun r6=>bd (fitM r6.1) fun l7=>bd (bd (oM (fLen [(PyData.list l7)])) fun x8=>oM (opGe x8 r6.2.2.2.1)) fun b9=>if b9 then bd (oM (jS_ [(PyData.list l7)])) fun x10=>.ret (x10,r6.2.1) else bd (zh_ r6.2.1 r6.2.2.1) fun r11=>.ret ((.tuple [r11.1]),r11.2)
noncomputable def um_:List D→List D→M (D×List D):=fun p_law_feed_here l=>match l with
 | [p_law_sorts,p_law_least]=>uc_ p_law_feed_here p_law_sorts p_law_least
 | _=>.bad
set_option maxHeartbeats 4000000 in
theorem UW_ {f:Addr} {fd:FuncData} (Fn:Fun K "_law_some" "_law_some" jf_ f fd) (B:BN mg) (Kn:KN mg) (Kx:KX K mg) (C__law_next:CF P w K mg base "_law_next" 1 (sp1 K 2 zz_)):FnOk P w K mg base (CX1 P w) 2 f fd ["_law_feed_here", "_law_sorts", "_law_least"] (sp1 K 3 um_) :=
 Jx_ (k:=1) Fn sc__law_some (fun cdv A outer s H E hr =>
 (zd_ (zM_ (sh:=[.p,.f,.f,.f]) (YP_ (i:=3) sc__law_some.nd rfl (by first|exact Or.inl rfl|exact Or.inr rfl) (.inl rfl) (sh:=[.p,.f,.f,.dead]) (N':=N__law_some_0) (k:=1) rfl (jj_ (N:=Z0_) (sc:=(ze_ jf_)) (by decide +kernel) rfl rfl) (uH_ (zW_ rfl B.range (zb_ (av 1) zj_ (za_ rfl)) rfl)) (fun cl s' H' fp C'=>(zS_ (i:=4) (show 4≤4 by decide) Zd_ rfl (by first|exact Or.inl rfl|exact Or.inr rfl) (.inr rfl))) (fun cl s' H' fp C'=>(Xw_ (Uc_ (z0_ (zg_ hr)) jl_ (zT_ (i:=0) C__law_next (hr.mono (by decide)) rfl rfl (by first|exact Or.inl rfl|exact Or.inr (Or.inl rfl)|exact Or.inr (Or.inr rfl)) (zf_ (zi_ zc_) zm_ (za_ rfl)) rfl (by decide) rfl rfl) (zi_ zc_) rfl))) (fun cl s' H' fp C'=>(zi_ (av 4))) rfl (fun _=>rfl)))
  (zk_ (zB_ (zdb_ (z4_ (zA_ zcp_ zcv_ (ao (jn_ u8_ UC_ rfl B.len PySem.boot_len (zu_ (ao (av 3)) zK_ (za_ rfl)) (by decide) (by decide) rfl rfl)) (ao (av 2)) rfl)) (zi_ (zV_ zv_ jk_ rfl B.tuple (by decide +kernel) (zu_ (ao (av 3)) zK_ (za_ rfl)) (by decide) (by decide) rfl rfl)) (Ye_ (zf_ (zT_ (i:=0) C__law_next (hr.mono (by decide)) rfl rfl (by first|exact Or.inl rfl|exact Or.inr (Or.inl rfl)|exact Or.inr (Or.inr rfl)) (zf_ (zi_ (av 1)) zm_ (za_ rfl)) rfl (by decide) rfl rfl) zm_ (za_ rfl)) (by decide +kernel)))))))
 (fun g ds hl=>match ds,hl with | [p_law_sorts,p_law_least],_=>by kernel_rfl)
theorem UF_ {f:Addr} {fd:FuncData} (Fn:Fun K "_law_some" "_law_some" jf_ f fd) (hmg:mg "_law_some" = some (.ref f)) (B:BN mg) (Kn:KN mg) (Kx:KX K mg) (C__law_next:CF P w K mg base "_law_next" 1 (sp1 K 2 zz_)):CF P w K mg base "_law_some" 2 (sp1 K 3 um_) :=
 ⟨f,fd,["_law_feed_here", "_law_sorts", "_law_least"],UW_ Fn B Kn Kx C__law_next,hmg,Fn.kp,(bnd3 Fn fun _ _ _ _ _ _ _ _ _=>rfl)⟩
noncomputable abbrev zQ_:Stmt:=top 32
noncomputable abbrev uq_:List Str:=["_law_feed_here", "_law_sorts", "_law_way", "_law_sides", "_law_these", "_law_by"]
theorem sc__law_plain:FnScope uq_ ["_law_feed_here", "_law_sorts"] (ze_ zQ_):=⟨rfl,rfl,rfl,by decide +kernel,rfl,by decide +kernel,by decide +kernel⟩
noncomputable abbrev N__law_plain_0:List Str:=["_law_feed_here", "_law_sorts", "_law_way", "_law_sides", "_law_these", "_law_by", "_law_sort"]
theorem yU_:N__law_plain_0.Nodup:=by decide +kernel
noncomputable abbrev N__law_plain_1:List Str:=["_law_feed_here", "_law_sorts", "_law_way", "_law_sides", "_law_these", "_law_by", "_law_sort"]
theorem yT_:N__law_plain_1.Nodup:=by decide +kernel
noncomputable abbrev N__law_plain_2:List Str:=["_law_feed_here", "_law_sorts", "_law_way", "_law_sides", "_law_these", "_law_by", "_law_sort"]
theorem yS_:N__law_plain_2.Nodup:=by decide +kernel
noncomputable def up_ (p_law_feed_here:List D) (p_law_sorts:D):M (D×List D) :=
 bd (zh_ p_law_feed_here (.int 3)) fun r1=>bd (oM (opEq r1.1 (.int 0))) fun b2=>if b2 then
  bd (uc_ r1.2 p_law_sorts (.int 1)) fun r3=>bd (uE_ r3.2 (PyData.list [(.int 3),(.int 9)])) fun r4=>bd (zh_ r4.2 r4.1) fun r5=>bd (oM (zC_ (.int 1) r5.1)) fun x6=>.ret ((.tuple [(.str "least"),r3.1,x6]),r5.2)
  else
  bd (oM (opEq r1.1 (.int 1))) fun b7=>if b7 then
  bd (oM (ja_ [p_law_sorts])) fun l8=>bd (uS_ (fun s9 d10=>bd (zh_ s9.1 (.int 3)) fun r11=>.ret (some r11.1,(r11.2,s9.2.1,()))) l8 (r1.2,p_law_sorts,())) fun r12=>bd (fitM r12.1) fun l13=>bd (bd (bd (bd (oM (ja_ [r12.2.2.1])) fun l17=>bd (jA_ (fun d14=>bd (bd (oM (zt_ (PyData.list l13) d14)) fun x15=>oM (opEq x15 (.int 0))) fun b16=>if b16 then .ret (some d14) else .ret none) l17) fitM) fun l18=>.ret (PyData.list l18)) fun x19=>oM (jS_ [x19])) fun x20=>bd (bd (bd (bd (bd (oM (ja_ [r12.2.2.1])) fun l24=>bd (jA_ (fun d21=>bd (bd (oM (zt_ (PyData.list l13) d21)) fun x22=>oM (opEq x22 (.int 1))) fun b23=>if b23 then .ret (some d21) else .ret none) l24) fitM) fun l25=>.ret (PyData.list l25)) fun x26=>oM (jS_ [x26])) fun x27=>.ret (.tuple [(.str "more"),x20,x27])) fun x28=>.ret (x28,r12.2.1)
  else
  bd (uE_ r1.2 (PyData.list [(.int 2),(.int 8)])) fun r29=>bd (zh_ r29.2 r29.1) fun r30=>bd (oM (zC_ (.int 2) r30.1)) fun x31=>bd (uc_ r30.2 p_law_sorts (.int 1)) fun r32=>bd (zh_ r32.2 x31) fun r33=>.ret ((.tuple [(.str "rest"),r32.1,x31,r33.1]),r33.2)
noncomputable def j3_:List D→List D→M (D×List D):=fun p_law_feed_here l=>match l with
 | [p_law_sorts]=>up_ p_law_feed_here p_law_sorts
 | _=>.bad
set_option maxHeartbeats 4000000 in
theorem J2_ {f:Addr} {fd:FuncData} (Fn:Fun K "_law_plain" "_law_plain" zQ_ f fd) (B:BN mg) (Kn:KN mg) (Kx:KX K mg) (C__law_next:CF P w K mg base "_law_next" 1 (sp1 K 2 zz_)) (C__law_some:CF P w K mg base "_law_some" 2 (sp1 K 3 um_)) (C__law_one:CF P w K mg base "_law_one" 2 (sp1 K 2 uQ_)):FnOk P w K mg base (CX1 P w) 3 f fd ["_law_feed_here", "_law_sorts"] (sp1 K 2 j3_) :=
 Jx_ (k:=2) Fn sc__law_plain (fun cdv A outer s H E hr =>
 (zd_ (zM_ (sh:=[.p,.f,.f,.dead,.dead,.dead]) (zH_ (i:=2) sc__law_plain.nd rfl (by first|exact Or.inl rfl|exact Or.inr rfl) (zT_ (i:=0) C__law_next (hr.mono (by decide)) rfl rfl (by first|exact Or.inl rfl|exact Or.inr (Or.inl rfl)|exact Or.inr (Or.inr rfl)) (zf_ (zi_ zc_) zm_ (za_ rfl)) rfl (by decide) rfl rfl) rfl (.inl rfl)))
  (zd_ (jO_ (z4_ (zA_ (z0_ (zg_ hr)) jl_ (ao (av 2)) (ao zc_) rfl))
  (zk_ (zB_ (Ye_ (zf_ (zi_ jb_) (zf_ (zT_ (i:=0) C__law_some (hr.mono (by decide)) rfl rfl (by first|exact Or.inl rfl|exact Or.inr (Or.inl rfl)|exact Or.inr (Or.inr rfl)) (zf_ (zi_ (av 1)) (zf_ (zi_ zc_) zm_ (za_ rfl)) (za_ rfl)) rfl (by decide) rfl rfl) (zf_ (y6_ zw_ zP_ (zi_ zc_) (zT_ (i:=0) C__law_next (hr.mono (by decide)) rfl rfl (by first|exact Or.inl rfl|exact Or.inr (Or.inl rfl)|exact Or.inr (Or.inr rfl)) (zf_ (zT_ (i:=0) C__law_one (hr.mono (by decide)) rfl rfl (by first|exact Or.inl rfl|exact Or.inr (Or.inl rfl)|exact Or.inr (Or.inr rfl)) (zf_ (zi_ (ap_z (yL_ (zb_ zc_ (zb_ zc_ zj_ (za_ rfl)) (za_ rfl)) (by decide +kernel)))) zm_ (za_ rfl)) rfl (by decide) rfl rfl) zm_ (za_ rfl)) rfl (by decide) rfl rfl)) zm_ (za_ rfl)) (za_ rfl)) (za_ rfl)) (by decide +kernel))))
  zL_)
  (zd_ (jO_ (z4_ (zA_ (z0_ (zg_ hr)) jl_ (ao (av 2)) (ao zc_) rfl))
  (zd_ (zM_ (sh:=[.p,.f,.dead,.f,.dead,.dead]) (zH_ (i:=3) sc__law_plain.nd rfl (by first|exact Or.inl rfl|exact Or.inr rfl) (ae_z (Xx_ (sh:=[.p,.f,.dead,.dead,.dead,.dead]) (N':=N__law_plain_0) (k:=1) rfl (jj_ (N:=uq_) (sc:=(ze_ zQ_)) (by decide +kernel) rfl rfl) (uH_ (zW_ rfl B.range (zb_ (av 1) zj_ (za_ rfl)) rfl)) (fun cl s' H' fp C'=>(zS_ (i:=6) (show 6≤6 by decide) yU_ rfl (by first|exact Or.inl rfl|exact Or.inr rfl) (.inr rfl))) (fun cl s' H' fp C'=>(zbg_ yc_)) (fun cl s' H' fp C'=>(zT_ (i:=0) C__law_next (hr.mono (by decide)) rfl rfl (by first|exact Or.inl rfl|exact Or.inr (Or.inl rfl)|exact Or.inr (Or.inr rfl)) (zf_ (zi_ zc_) zm_ (za_ rfl)) rfl (by decide) rfl rfl)) (fun _=>rfl))) rfl (.inl rfl)))
  (zd_ (zM_ (sh:=[.p,.f,.dead,.f,.f,.dead]) (zH_ (i:=4) sc__law_plain.nd rfl (by first|exact Or.inl rfl|exact Or.inr rfl) (zi_ (zV_ zv_ jk_ rfl B.tuple (by decide +kernel) (zu_ (ao (ap_z (Ub_ (N':=N__law_plain_1) (k:=1) rfl (jj_ (N:=uq_) (sc:=(ze_ zQ_)) (by decide +kernel) rfl rfl) (zW_ rfl B.range (zb_ (av 1) zj_ (za_ rfl)) rfl) (fun cl s' H' fp C'=>(zS_ (i:=6) (show 6≤6 by decide) yT_ rfl (by first|exact Or.inl rfl|exact Or.inr rfl) (.inr rfl))) (fun cl s' H' fp C'=>(Wz_ (zA_ (z0_ (zg_ hr)) jl_ (ao (zG_ (zo_ (zg_ hr)) zn_ (ao (av 3)) (ao (av 6)) (fun _ _=>rfl))) (ao zc_) rfl))) (fun cl s' H' fp C'=>(av 6)) (fun _=>rfl)))) zK_ (za_ rfl)) (by decide) (by decide) rfl rfl)) rfl (.inl rfl)))
  (zk_ (zB_ (zi_ (zN_ (zb_ jb_ (zb_ (av 4) (zb_ (zV_ zv_ jk_ rfl B.tuple (by decide +kernel) (zu_ (ao (ap_z (Ub_ (N':=N__law_plain_2) (k:=1) rfl (jj_ (N:=uq_) (sc:=(ze_ zQ_)) (by decide +kernel) rfl rfl) (zW_ rfl B.range (zb_ (av 1) zj_ (za_ rfl)) rfl) (fun cl s' H' fp C'=>(zS_ (i:=6) (show 6≤6 by decide) yS_ rfl (by first|exact Or.inl rfl|exact Or.inr rfl) (.inr rfl))) (fun cl s' H' fp C'=>(Wz_ (zA_ (z0_ (zg_ hr)) jl_ (ao (zG_ (zo_ (zg_ hr)) zn_ (ao (av 3)) (ao (av 6)) (fun _ _=>rfl))) (ao zc_) rfl))) (fun cl s' H' fp C'=>(av 6)) (fun _=>rfl)))) zK_ (za_ rfl)) (by decide) (by decide) rfl rfl) zj_ (za_ rfl)) (za_ rfl)) (za_ rfl)) (by decide +kernel)))))))
  zL_)
  (zd_ (zM_ (sh:=[.p,.f,.dead,.dead,.dead,.f]) (zH_ (i:=5) sc__law_plain.nd rfl (by first|exact Or.inl rfl|exact Or.inr rfl) (y6_ zw_ zP_ (zi_ zc_) (zT_ (i:=0) C__law_next (hr.mono (by decide)) rfl rfl (by first|exact Or.inl rfl|exact Or.inr (Or.inl rfl)|exact Or.inr (Or.inr rfl)) (zf_ (zT_ (i:=0) C__law_one (hr.mono (by decide)) rfl rfl (by first|exact Or.inl rfl|exact Or.inr (Or.inl rfl)|exact Or.inr (Or.inr rfl)) (zf_ (zi_ (ap_z (yL_ (zb_ zc_ (zb_ zc_ zj_ (za_ rfl)) (za_ rfl)) (by decide +kernel)))) zm_ (za_ rfl)) rfl (by decide) rfl rfl) zm_ (za_ rfl)) rfl (by decide) rfl rfl)) rfl (.inl rfl)))
  (zk_ (zB_ (Ye_ (zf_ (zi_ jb_) (zf_ (zT_ (i:=0) C__law_some (hr.mono (by decide)) rfl rfl (by first|exact Or.inl rfl|exact Or.inr (Or.inl rfl)|exact Or.inr (Or.inr rfl)) (zf_ (zi_ (av 1)) (zf_ (zi_ zc_) zm_ (za_ rfl)) (za_ rfl)) rfl (by decide) rfl rfl) (zf_ (zi_ (av 5)) (zf_ (zT_ (i:=0) C__law_next (hr.mono (by decide)) rfl rfl (by first|exact Or.inl rfl|exact Or.inr (Or.inl rfl)|exact Or.inr (Or.inr rfl)) (zf_ (zi_ (av 5)) zm_ (za_ rfl)) rfl (by decide) rfl rfl) zm_ (za_ rfl)) (za_ rfl)) (za_ rfl)) (za_ rfl)) (by decide +kernel)))))))))
 (fun g ds hl=>match ds,hl with | [p_law_sorts],_=>by kernel_rfl)
theorem JR_ {f:Addr} {fd:FuncData} (Fn:Fun K "_law_plain" "_law_plain" zQ_ f fd) (hmg:mg "_law_plain" = some (.ref f)) (B:BN mg) (Kn:KN mg) (Kx:KX K mg) (C__law_next:CF P w K mg base "_law_next" 1 (sp1 K 2 zz_)) (C__law_some:CF P w K mg base "_law_some" 2 (sp1 K 3 um_)) (C__law_one:CF P w K mg base "_law_one" 2 (sp1 K 2 uQ_)):CF P w K mg base "_law_plain" 3 (sp1 K 2 j3_) :=
 ⟨f,fd,["_law_feed_here", "_law_sorts"],J2_ Fn B Kn Kx C__law_next C__law_some C__law_one,hmg,Fn.kp,(bnd2 Fn fun _ _ _ _ _ _ _ _=>rfl)⟩
noncomputable abbrev zR_:Stmt:=top 33
noncomputable abbrev Z1_:List Str:=["_law_feed_here", "_law_sorts", "_law_size", "_law_deep", "_law_way", "_law_first", "_law_one_here"]
theorem sc__law_question:FnScope Z1_ ["_law_feed_here", "_law_sorts", "_law_size", "_law_deep"] (ze_ zR_):=⟨rfl,rfl,rfl,by decide +kernel,rfl,by decide +kernel,by decide +kernel⟩
noncomputable def jN_ (self:List D→D→D→D→M (D×List D)) (p_law_feed_here:List D) (p_law_sorts:D) (p_law_size:D) (p_law_deep:D):M (D×List D) :=
 bd (zh_ p_law_feed_here (.int 4)) fun r1=>bd (bd (oM (opEq p_law_size (.int 1))) fun b3=>if b3 then .ret true else bd (oM (opEq p_law_deep (.int 1))) fun b2=>if b2 then .ret true else oM (opEq r1.1 (.int 0))) fun b4=>if b4 then
  bd (up_ r1.2 p_law_sorts) fun r5=>.ret (r5.1,r5.2)
  else
  bd (bd (oM (opEq r1.1 (.int 1))) fun b6=>if b6 then .ret true else oM (opEq p_law_size (.int 2))) fun b7=>if b7 then
  bd (oM (uM_ p_law_size (.int 1))) fun x8=>bd (oM (uM_ p_law_deep (.int 1))) fun x9=>bd (self r1.2 p_law_sorts x8 x9) fun r10=>.ret ((.tuple [(.str "not"),r10.1]),r10.2)
  else
  bd (oM (uM_ p_law_size (.int 2))) fun x11=>bd (zh_ r1.2 x11) fun r12=>bd (oM (zC_ (.int 1) r12.1)) fun x13=>bd (oM (uM_ p_law_deep (.int 1))) fun x14=>bd (self r12.2 p_law_sorts x13 x14) fun r15=>bd (bd (oM (uy_ r1.1 (.int 2))) fun x16=>oM (zt_ (PyData.list [(.str "both"),(.str "either")]) x16)) fun x17=>bd (bd (oM (uM_ p_law_size (.int 1))) fun x18=>oM (uM_ x18 x13)) fun x19=>bd (oM (uM_ p_law_deep (.int 1))) fun x20=>bd (self r15.2 p_law_sorts x19 x20) fun r21=>.ret ((.tuple [x17,r15.1,r21.1]),r21.2)
noncomputable def z3_:Nat→List D→D→D→D→M (D×List D)
 | 0=>fun _ _ _ _=>.bad
 | i+1=>jN_ (z3_ i)
noncomputable def zO_ (i:Nat):List D→List D→M (D×List D):=fun p_law_feed_here l=>match l with
 | [p_law_sorts,p_law_size,p_law_deep]=>z3_ i p_law_feed_here p_law_sorts p_law_size p_law_deep
 | _=>.bad
set_option maxHeartbeats 4000000 in
theorem Ze_ {f:Addr} {fd:FuncData} (Fn:Fun K "_law_question" "_law_question" zR_ f fd) (B:BN mg) (Kn:KN mg) (Kx:KX K mg) (C__law_next:CF P w K mg base "_law_next" 1 (sp1 K 2 zz_)) (C__law_plain:CF P w K mg base "_law_plain" 3 (sp1 K 2 j3_)) (i:Nat) (Cself:CF P w K mg base "_law_question" (4+i) (sp1 K 4 (zO_ i))):FnOk P w K mg base (CX1 P w) (4+i+1) f fd ["_law_feed_here", "_law_sorts", "_law_size", "_law_deep"] (sp1 K 4 (zO_ (i+1))) :=
 Jx_ (k:=4+i) Fn sc__law_question (fun cdv A outer s H E hr =>
 (zd_ (zM_ (sh:=[.p,.f,.f,.f,.f,.dead,.dead]) (zH_ (i:=4) sc__law_question.nd rfl (by first|exact Or.inl rfl|exact Or.inr rfl) (zT_ (i:=0) C__law_next (hr.mono (by omega)) rfl rfl (by first|exact Or.inl rfl|exact Or.inr (Or.inl rfl)|exact Or.inr (Or.inr rfl)) (zf_ (zi_ zc_) zm_ (za_ rfl)) rfl (by decide) rfl rfl) rfl (.inl rfl)))
  (zd_ (jO_ (z4_ (zcT_ (zaV_ (zA_ (z0_ (zg_ hr)) jl_ (ao (av 2)) (ao zc_) rfl) (zaV_ (zA_ (z0_ (zg_ hr)) jl_ (ao (av 3)) (ao zc_) rfl) (XW_ (zA_ (z0_ (zg_ hr)) jl_ (ao (av 4)) (ao zc_) rfl))))))
  (zk_ (zB_ (zT_ (i:=0) C__law_plain (hr.mono (by omega)) rfl rfl (by first|exact Or.inl rfl|exact Or.inr (Or.inl rfl)|exact Or.inr (Or.inr rfl)) (zf_ (zi_ (av 1)) zm_ (za_ rfl)) rfl (by decide) rfl rfl)))
  zL_)
  (zd_ (jO_ (z4_ (zcT_ (zaV_ (zA_ (z0_ (zg_ hr)) jl_ (ao (av 4)) (ao zc_) rfl) (XW_ (zA_ (z0_ (zg_ hr)) jl_ (ao (av 2)) (ao zc_) rfl)))))
  (zk_ (zB_ (Ye_ (zf_ (zi_ jb_) (zf_ (zT_ (i:=0) Cself (hr.mono (by omega)) rfl rfl (by first|exact Or.inl rfl|exact Or.inr (Or.inl rfl)|exact Or.inr (Or.inr rfl)) (zf_ (zi_ (av 1)) (zf_ (zi_ (zl_ yA_ yC_ (ao (av 2)) (ao zc_))) (zf_ (zi_ (zl_ yA_ yC_ (ao (av 3)) (ao zc_))) zm_ (za_ rfl)) (za_ rfl)) (za_ rfl)) rfl (by decide) rfl rfl) zm_ (za_ rfl)) (za_ rfl)) (by decide +kernel))))
  zL_)
  (zd_ (zM_ (sh:=[.p,.f,.f,.f,.f,.f,.dead]) (zH_ (i:=5) sc__law_question.nd rfl (by first|exact Or.inl rfl|exact Or.inr rfl) (y6_ zw_ zP_ (zi_ zc_) (zT_ (i:=0) C__law_next (hr.mono (by omega)) rfl rfl (by first|exact Or.inl rfl|exact Or.inr (Or.inl rfl)|exact Or.inr (Or.inr rfl)) (zf_ (zi_ (zl_ yA_ yC_ (ao (av 2)) (ao zc_))) zm_ (za_ rfl)) rfl (by decide) rfl rfl)) rfl (.inl rfl)))
  (zd_ (zM_ (sh:=[.p,.f,.f,.f,.f,.f,.f]) (zH_ (i:=6) sc__law_question.nd rfl (by first|exact Or.inl rfl|exact Or.inr rfl) (zT_ (i:=0) Cself (hr.mono (by omega)) rfl rfl (by first|exact Or.inl rfl|exact Or.inr (Or.inl rfl)|exact Or.inr (Or.inr rfl)) (zf_ (zi_ (av 1)) (zf_ (zi_ (av 5)) (zf_ (zi_ (zl_ yA_ yC_ (ao (av 3)) (ao zc_))) zm_ (za_ rfl)) (za_ rfl)) (za_ rfl)) rfl (by decide) rfl rfl) rfl (.inl rfl)))
  (zk_ (zB_ (Ye_ (zf_ (zi_ (zG_ (zo_ (zg_ hr)) zn_ (ao (ap_z (yL_ (zb_ jb_ (zb_ jb_ zj_ (za_ rfl)) (za_ rfl)) (by decide +kernel)))) (ao (zl_ u1_ u3_ (ao (av 4)) (ao zc_))) (fun _ _=>rfl))) (zf_ (zi_ (av 6)) (zf_ (zT_ (i:=0) Cself (hr.mono (by omega)) rfl rfl (by first|exact Or.inl rfl|exact Or.inr (Or.inl rfl)|exact Or.inr (Or.inr rfl)) (zf_ (zi_ (av 1)) (zf_ (zi_ (zl_ yA_ yC_ (ao (zl_ yA_ yC_ (ao (av 2)) (ao zc_))) (ao (av 5)))) (zf_ (zi_ (zl_ yA_ yC_ (ao (av 3)) (ao zc_))) zm_ (za_ rfl)) (za_ rfl)) (za_ rfl)) rfl (by decide) rfl rfl) zm_ (za_ rfl)) (za_ rfl)) (za_ rfl)) (by decide +kernel))))))))))
 (fun g ds hl=>match ds,hl with | [p_law_sorts,p_law_size,p_law_deep],_=>by kernel_rfl)
theorem y8_ {f:Addr} {fd:FuncData} (Fn:Fun K "_law_question" "_law_question" zR_ f fd) (hmg:mg "_law_question" = some (.ref f)) (B:BN mg) (Kn:KN mg) (Kx:KX K mg) (C__law_next:CF P w K mg base "_law_next" 1 (sp1 K 2 zz_)) (C__law_plain:CF P w K mg base "_law_plain" 3 (sp1 K 2 j3_)) (i:Nat):CF P w K mg base "_law_question" (4+i) (sp1 K 4 (zO_ i)):=by
 induction i with
 | zero =>
  have e:zO_ 0=fun _ _=>.bad:=by
   funext g l;unfold zO_;split<;>rfl
  rw [e]
  exact CF.zero1 (ps:=["_law_feed_here", "_law_sorts", "_law_size", "_law_deep"]) _ _ hmg Fn.kp (bnd4 Fn fun _ _ _ _ _ _ _ _ _ _=>rfl)
 | succ i ih=>exact ⟨f,fd,["_law_feed_here", "_law_sorts", "_law_size", "_law_deep"],Ze_ Fn B Kn Kx C__law_next C__law_plain i ih,hmg,Fn.kp,(bnd4 Fn fun _ _ _ _ _ _ _ _ _ _=>rfl)⟩
noncomputable abbrev jg_:Stmt:=top 34
noncomputable abbrev Yf_:List Str:=["_law_question_here"]
theorem JK_:FnScope Yf_ ["_law_question_here"] (ze_ jg_):=⟨rfl,rfl,rfl,by decide +kernel,rfl,by decide +kernel,by decide +kernel⟩
noncomputable def uw_ (self:D→M D) (p_law_question_here:D):M D :=
 bd (bd (oM (zt_ p_law_question_here (.int 0))) fun x1=>oM (opEq x1 (.str "not"))) fun b2=>if b2 then
  bd (bd (oM (zt_ p_law_question_here (.int 1))) fun x3=>self x3) fun x4=>.ret x4
  else
  bd (bd (oM (zt_ p_law_question_here (.int 0))) fun x5=>oM (uN_ x5 (.tuple [(.str "both"),(.str "either")]))) fun b6=>if b6 then
  bd (bd (bd (oM (zt_ p_law_question_here (.int 1))) fun x7=>self x7) fun x9=>bd (bd (oM (zt_ p_law_question_here (.int 2))) fun x8=>self x8) fun x10=>oM (z1_ x9 x10)) fun x11=>.ret x11
  else
  bd (bd (bd (oM (zt_ p_law_question_here (.int 0))) fun x12=>oM (opEq x12 (.str "more"))) fun b19=>if b19 then .ret (.int 4) else bd (bd (oM (zt_ p_law_question_here (.int 2))) fun x13=>oM (zC_ x13 (.int 1))) fun x17=>bd (bd (bd (bd (oM (zt_ p_law_question_here (.int 0))) fun x14=>oM (opEq x14 (.str "rest"))) fun b15=>.ret (.bool b15)) fun x16=>oM (fInt [x16])) fun x18=>oM (zC_ x17 x18)) fun x20=>.ret x20
noncomputable def jU_:Nat→D→M D
 | 0=>fun _=>.bad
 | i+1=>uw_ (jU_ i)
noncomputable def z8_ (i:Nat):List D→M D:=fun l=>match l with
 | [p_law_question_here]=>jU_ i p_law_question_here
 | _=>.bad
set_option maxHeartbeats 4000000 in
theorem J1_ {f:Addr} {fd:FuncData} (Fn:Fun K "_law_rooms" "_law_rooms" jg_ f fd) (B:BN mg) (Kn:KN mg) (Kx:KX K mg) (i:Nat) (Cself:CF P w K mg base "_law_rooms" (1+i) (spD K 1 (z8_ i))):FnOk P w K mg base (CX1 P w) (1+i+1) f fd ["_law_question_here"] (spD K 1 (z8_ (i+1))) :=
 jZ_ (k:=1+i) Fn JK_ (fun cdv A outer s H E hr =>
 (zd_ (jO_ (z4_ (zA_ (z0_ (zg_ hr)) jl_ (ao (zG_ (zo_ (zg_ hr)) zn_ (ao (av 0)) (ao zc_) (fun _ _=>rfl))) (ao jb_) rfl))
  (zk_ (zB_ (zi_ (jV_ Cself (hr.mono (by omega)) rfl (zb_ (zG_ (zo_ (zg_ hr)) zn_ (ao (av 0)) (ao zc_) (fun _ _=>rfl)) zj_ (za_ rfl)) rfl (by decide) rfl rfl))))
  zL_)
  (zd_ (jO_ (z4_ (zA_ (yO_ (zg_ hr)) Js_ (ao (zG_ (zo_ (zg_ hr)) zn_ (ao (av 0)) (ao zc_) (fun _ _=>rfl))) (ao (zN_ (zb_ jb_ (zb_ jb_ zj_ (za_ rfl)) (za_ rfl)) (by decide +kernel))) rfl))
  (zk_ (zB_ (zi_ (zl_ u0_ u2_ (ao (jV_ Cself (hr.mono (by omega)) rfl (zb_ (zG_ (zo_ (zg_ hr)) zn_ (ao (av 0)) (ao zc_) (fun _ _=>rfl)) zj_ (za_ rfl)) rfl (by decide) rfl rfl)) (ao (jV_ Cself (hr.mono (by omega)) rfl (zb_ (zG_ (zo_ (zg_ hr)) zn_ (ao (av 0)) (ao zc_) (fun _ _=>rfl)) zj_ (za_ rfl)) rfl (by decide) rfl rfl))))))
  zL_)
  (zk_ (zB_ (zi_ (ZW_ (zA_ (z0_ (zg_ hr)) jl_ (ao (zG_ (zo_ (zg_ hr)) zn_ (ao (av 0)) (ao zc_) (fun _ _=>rfl))) (ao jb_) rfl) zc_ (zl_ zw_ zP_ (ao (zl_ zw_ zP_ (ao (zG_ (zo_ (zg_ hr)) zn_ (ao (av 0)) (ao zc_) (fun _ _=>rfl))) (ao zc_))) (ao (zV_ Ww_ zcu_ rfl B.int (by decide +kernel) (zu_ (ao (ap_b (WH_ (z0_ (zg_ hr)) jl_ (ao (zG_ (zo_ (zg_ hr)) zn_ (ao (av 0)) (ao zc_) (fun _ _=>rfl))) (ao jb_) rfl))) zK_ (za_ rfl)) (by decide) (by decide) rfl rfl))))))))))
 (fun ds hl=>match ds,hl with | [p_law_question_here],_=>by kernel_rfl)
theorem JQ_ {f:Addr} {fd:FuncData} (Fn:Fun K "_law_rooms" "_law_rooms" jg_ f fd) (hmg:mg "_law_rooms" = some (.ref f)) (B:BN mg) (Kn:KN mg) (Kx:KX K mg) (i:Nat):CF P w K mg base "_law_rooms" (1+i) (spD K 1 (z8_ i)):=by
 induction i with
 | zero =>
  have e:z8_ 0=fun _=>.bad:=by
   funext l;unfold z8_;split<;>rfl
  rw [e]
  exact CF.zero (ps:=["_law_question_here"]) _ _ hmg Fn.kp (bnd1 Fn fun _ _ _ _ _ _ _=>rfl)
 | succ i ih=>exact ⟨f,fd,["_law_question_here"],J1_ Fn B Kn Kx  i ih,hmg,Fn.kp,(bnd1 Fn fun _ _ _ _ _ _ _=>rfl)⟩
noncomputable abbrev jL_:Stmt:=top 35
noncomputable abbrev Vc_:List Str:=["_law_feed_here", "_law_rooms_here", "_law_meets"]
theorem sc__law_few:FnScope Vc_ ["_law_feed_here", "_law_rooms_here"] (ze_ jL_):=⟨rfl,rfl,rfl,by decide +kernel,rfl,by decide +kernel,by decide +kernel⟩
noncomputable def jz_ (p_law_feed_here:List D) (p_law_rooms_here:D):M (D×List D) :=
 bd (oM (opGt p_law_rooms_here (.int 1))) fun b1=>if b1 then bd (zh_ p_law_feed_here (.int 2)) fun r2=>bd (oM (opEq r2.1 (.int 0))) fun b3=>if b3 then bd (bd (bd (oM (uM_ p_law_rooms_here (.int 1))) fun x4=>.ret (.tuple [(.int 0),x4,(.int 0),(.int 0)])) fun x5=>.ret (.tuple [x5])) fun x6=>bd (bd (bd (oM (uM_ p_law_rooms_here (.int 1))) fun x7=>.ret (.tuple [(.int 0),x7])) fun x8=>bd (oM (yB_ (.tuple [(.bool true)]) p_law_rooms_here)) fun x9=>.ret (.tuple [p_law_rooms_here,x8,x6,x9])) fun x10=>.ret (x10,r2.2) else bd (bd (bd (oM (uM_ p_law_rooms_here (.int 1))) fun x11=>.ret (.tuple [(.int 0),x11])) fun x12=>bd (oM (yB_ (.tuple [(.bool true)]) p_law_rooms_here)) fun x13=>.ret (.tuple [p_law_rooms_here,x12,(.tuple []),x13])) fun x14=>.ret (x14,r2.2) else if false then bd (bd (bd (oM (uM_ p_law_rooms_here (.int 1))) fun x15=>.ret (.tuple [(.int 0),x15,(.int 0),(.int 0)])) fun x16=>.ret (.tuple [x16])) fun x17=>bd (bd (bd (oM (uM_ p_law_rooms_here (.int 1))) fun x18=>.ret (.tuple [(.int 0),x18])) fun x19=>bd (oM (yB_ (.tuple [(.bool true)]) p_law_rooms_here)) fun x20=>.ret (.tuple [p_law_rooms_here,x19,x17,x20])) fun x21=>.ret (x21,p_law_feed_here) else bd (bd (bd (oM (uM_ p_law_rooms_here (.int 1))) fun x22=>.ret (.tuple [(.int 0),x22])) fun x23=>bd (oM (yB_ (.tuple [(.bool true)]) p_law_rooms_here)) fun x24=>.ret (.tuple [p_law_rooms_here,x23,(.tuple []),x24])) fun x25=>.ret (x25,p_law_feed_here)
noncomputable def uR_:List D→List D→M (D×List D):=fun p_law_feed_here l=>match l with
 | [p_law_rooms_here]=>jz_ p_law_feed_here p_law_rooms_here
 | _=>.bad
set_option maxHeartbeats 4000000 in
theorem YJ_ {f:Addr} {fd:FuncData} (Fn:Fun K "_law_few" "_law_few" jL_ f fd) (B:BN mg) (Kn:KN mg) (Kx:KX K mg) (C__law_next:CF P w K mg base "_law_next" 1 (sp1 K 2 zz_)):FnOk P w K mg base (CX1 P w) 2 f fd ["_law_feed_here", "_law_rooms_here"] (sp1 K 2 uR_) :=
 Jx_ (k:=1) Fn sc__law_few (fun cdv A outer s H E hr =>
 (zd_ (zM_ (sh:=[.p,.f,.f]) (zH_ (i:=2) sc__law_few.nd rfl (by first|exact Or.inl rfl|exact Or.inr rfl) (zdb_ (zcZ_ (zbf_ (z4_ (zA_ VQ_ VV_ (ao (av 1)) (ao zc_) rfl)) (Xv_ (Uc_ (z0_ (zg_ hr)) jl_ (zT_ (i:=0) C__law_next (hr.mono (by decide)) rfl rfl (by first|exact Or.inl rfl|exact Or.inr (Or.inl rfl)|exact Or.inr (Or.inr rfl)) (zf_ (zi_ zc_) zm_ (za_ rfl)) rfl (by decide) rfl rfl) (zi_ zc_) rfl)))) (zi_ (zN_ (zb_ (zN_ (zb_ zc_ (zb_ (zl_ yA_ yC_ (ao (av 1)) (ao zc_)) (zb_ zc_ (zb_ zc_ zj_ (za_ rfl)) (za_ rfl)) (za_ rfl)) (za_ rfl)) (by decide +kernel)) zj_ (za_ rfl)) (by decide +kernel))) (zi_ (zN_ zj_ (by decide +kernel)))) rfl (.inl rfl)))
  (zk_ (zB_ (zi_ (zN_ (zb_ (av 1) (zb_ (zN_ (zb_ zc_ (zb_ (zl_ yA_ yC_ (ao (av 1)) (ao zc_)) zj_ (za_ rfl)) (za_ rfl)) (by decide +kernel)) (zb_ (av 2) (zb_ (zl_ zaw_ zaz_ (ao (zN_ (zb_ ZX_ zj_ (za_ rfl)) (by decide +kernel))) (ao (av 1))) zj_ (za_ rfl)) (za_ rfl)) (za_ rfl)) (za_ rfl)) (by decide +kernel)))))))
 (fun g ds hl=>match ds,hl with | [p_law_rooms_here],_=>by kernel_rfl)
theorem Yt_ {f:Addr} {fd:FuncData} (Fn:Fun K "_law_few" "_law_few" jL_ f fd) (hmg:mg "_law_few" = some (.ref f)) (B:BN mg) (Kn:KN mg) (Kx:KX K mg) (C__law_next:CF P w K mg base "_law_next" 1 (sp1 K 2 zz_)):CF P w K mg base "_law_few" 2 (sp1 K 2 uR_) :=
 ⟨f,fd,["_law_feed_here", "_law_rooms_here"],YJ_ Fn B Kn Kx C__law_next,hmg,Fn.kp,(bnd2 Fn fun _ _ _ _ _ _ _ _=>rfl)⟩
noncomputable abbrev js_:Stmt:=top 36
noncomputable abbrev YT_:List Str:=["_law_one_here", "_law_other", "_law_word", "_law_caught", "_law_found", "e", "_law_others"]
theorem sc__law_told:FnScope YT_ ["_law_one_here", "_law_other", "_law_word"] (ze_ js_):=⟨rfl,rfl,rfl,by decide +kernel,rfl,by decide +kernel,by decide +kernel⟩
noncomputable def zD_ (v_law_caught:D) (v_law_found:D):M D :=
 bd (oM (Xa_ v_law_caught .none)) fun b6=>if b6 then
  bd (oM (zt_ v_law_found (.int 0))) fun x7=>.ret x7
  else
  bd (bd (oM (y5_ [("TooMany",false)] v_law_caught)) fun b8=>.ret (.bool b8)) fun x9=>bd (bd (bd (oM (y5_ [("TooMany",true)] v_law_caught)) fun b12=>if b12 then bd (oM (y5_ [("TooMany",true)] v_law_caught)) fun b11=>if b11 then bd (oM (truD x9)) fun b10=>.ret (!b10) else .ret false else .ret false) fun b13=>.ret (.bool b13)) fun x14=>.ret x14
noncomputable def jv_ (p_law_one_here:D) (p_law_other:D) (p_law_word:D):M D :=
 tryE (A:=D×D×Unit) (B:=D×Unit) (onX (fun e_=>.ret (.inr (e_,(.none,())))) (bd (oM (opEq p_law_word (.str ""))) fun b1=>if b1 then ZS_ 5 p_law_one_here p_law_other else uX_ p_law_one_here p_law_other p_law_word) fun x2=>.ret (.inl (.none,x2,()))) (fun s5=>zD_ s5.1 s5.2.1) (fun e3 s4=>VS_ ["TooMany"] e3.cls (zD_ (encX e3) s4.1))
noncomputable def uk_:List D→M D:=fun l=>match l with
 | [p_law_one_here,p_law_other,p_law_word]=>jv_ p_law_one_here p_law_other p_law_word
 | _=>.bad
set_option maxHeartbeats 4000000 in
theorem UV_ {f:Addr} {fd:FuncData} (Fn:Fun K "_law_told" "_law_told" js_ f fd) (B:BN mg) (Kn:KN mg) (Kx:KX K mg) (C_made:CF P w K mg base "made" 9 (spD K 2 (yt_ 5))) (C_beside:CF P w K mg base "beside" 3 (spD K 3 uz_)):FnOk P w K mg base (CX1 P w) 10 f fd ["_law_one_here", "_law_other", "_law_word"] (spD K 3 uk_) :=
 jZ_ (k:=9) Fn sc__law_told (fun cdv A outer s H E hr =>
 (zd_ (zM_ (sh:=[.f,.f,.f,.f,.dead,.dead,.dead]) (zH_ (i:=3) sc__law_told.nd rfl (by first|exact Or.inl rfl|exact Or.inr rfl) (zi_ WD_) rfl (.inl rfl)))
  (zd_ (zM_ (sh:=[.f,.f,.f,.f,.f,.dead,.dead]) (zH_ (i:=4) sc__law_told.nd rfl (by first|exact Or.inl rfl|exact Or.inr rfl) (zi_ WD_) rfl (.inl rfl)))
  (zd_ (zM_ (sh:=[.dead,.dead,.dead,.f,.f,.dead,.dead]) (zaW_ (j:=5) (sh:=[.dead,.dead,.dead,.f,.f,.dead,.dead]) (shx:=[.dead,.dead,.dead,.dead,.f,.dead,.dead]) Kx.h_PassError rfl (fun _ _=>(zk_ (zH_ (i:=4) sc__law_told.nd rfl (by first|exact Or.inl rfl|exact Or.inr rfl) (zi_ (ZW_ (zA_ (z0_ (zg_ hr)) jl_ (ao (av 2)) (ao jb_) rfl) (jV_ C_made (hr.mono (by decide)) rfl (zb_ (av 0) (zb_ (av 1) zj_ (za_ rfl)) (za_ rfl)) rfl (by decide) rfl rfl) (jV_ C_beside (hr.mono (by decide)) rfl (zb_ (av 0) (zb_ (av 1) (zb_ (av 2) zj_ (za_ rfl)) (za_ rfl)) (za_ rfl)) rfl (by decide) rfl rfl))) rfl (.inl rfl)))) (fun _=>(zk_ (zH_ (i:=3) sc__law_told.nd rfl (by first|exact Or.inl rfl|exact Or.inr rfl) (zi_ (av 5)) rfl (.inl rfl)))) (by decide) sc__law_told.nd rfl rfl rfl rfl (by decide)))
  (zd_ (jO_ (z4_ (zA_ zav_ jl_ (ao (av 3)) (ao WD_) rfl))
  (zk_ (zB_ (zi_ (zG_ (zo_ (zg_ hr)) zn_ (ao (av 4)) (ao zc_) (fun _ _=>rfl)))))
  zL_)
  (zd_ (zM_ (sh:=[.dead,.dead,.dead,.f,.dead,.dead,.f]) (zH_ (i:=6) sc__law_told.nd rfl (by first|exact Or.inl rfl|exact Or.inr rfl) (zi_ (ap_b (WG_ Kx.t_NoCrowd_NoLine_NoMeeting_NoPaper_NoRule_NoText (.cons rfl (by decide) (za_ rfl) (.cons rfl (by decide) (za_ rfl) (.cons rfl (by decide) (za_ rfl) (.cons rfl (by decide) (za_ rfl) (.cons rfl (by decide) (za_ rfl) (.cons rfl (by decide) (za_ rfl) .nil)))))) (by decide) B.isinstance rfl (av 3) rfl rfl rfl))) rfl (.inl rfl)))
  (zk_ (zB_ (zi_ (ap_b (WI_ (XB_ Kx.i_TooMany rfl B.isinstance rfl (av 3) rfl rfl rfl (by decide)) (WI_ (Xz_ Kx.i_ValueError rfl B.ValueError (by decide +kernel) B.isinstance rfl (av 3) rfl rfl rfl (by decide) (by decide)) (WE_ (WF_ (ao (av 6))))))))))))))))
 (fun ds hl=>match ds,hl with | [p_law_one_here,p_law_other,p_law_word],_=>by kernel_rfl)
theorem UE_ {f:Addr} {fd:FuncData} (Fn:Fun K "_law_told" "_law_told" js_ f fd) (hmg:mg "_law_told" = some (.ref f)) (B:BN mg) (Kn:KN mg) (Kx:KX K mg) (C_made:CF P w K mg base "made" 9 (spD K 2 (yt_ 5))) (C_beside:CF P w K mg base "beside" 3 (spD K 3 uz_)):CF P w K mg base "_law_told" 10 (spD K 3 uk_) :=
 ⟨f,fd,["_law_one_here", "_law_other", "_law_word"],UV_ Fn B Kn Kx C_made C_beside,hmg,Fn.kp,(bnd3 Fn fun _ _ _ _ _ _ _ _ _=>rfl)⟩
noncomputable abbrev Z3_:Stmt:=top 37
noncomputable abbrev zdY_:List Str:=["_law_script", "_law_k", "_law_feed_here", "_law_sorts", "_law_question_here", "_law_rooms_here", "_law_one_here", "_law_other"]
theorem sc_law:FnScope zdY_ ["_law_script"] (ze_ Z3_):=⟨rfl,rfl,rfl,by decide +kernel,rfl,by decide +kernel,by decide +kernel⟩
noncomputable def Xt_ (v_law_script:D):M D :=
 .ret (.bool true)
noncomputable def Zn_ (kn5:D×Unit→M D) (v_law_script:D) (v_law_feed_here:List D) (v_law_one_here:D) (v_law_other:D):M D :=
 bd (bd (oM (zt_ v_law_one_here (.int 0))) fun x35=>bd (oM (zt_ v_law_other (.int 0))) fun x36=>oM (z1_ x35 x36)) fun x37=>bd (zh_ v_law_feed_here (.int 2)) fun r38=>bd (oM (zt_ (PyData.list [(.str "both"),(.str "either")]) r38.1)) fun x39=>bd (jv_ v_law_one_here v_law_other x39) fun r40=>bd (oM (ZQ_ [r40])) fun x41=>bd (bd (bd (oM (Ux_ x37 (.int 41))) fun b42=>if b42 then .ret x37 else .ret (.bool true)) fun x43=>oM (ZQ_ [x43])) fun x44=>bd (oM (opNe x41 x44)) fun b45=>if b45 then
  .ret (.bool false)
  else
  kn5 (v_law_script,())
noncomputable def J6_ (v_law_script:D) (d_:D) (kn5:D×Unit→M D):M D :=
 bd (uY_ v_law_script d_) fun l6=>bd (zh_ l6 (.int 4)) fun r7=>bd (oM (zC_ (.int 1) r7.1)) fun x8=>bd (zh_ r7.2 (.int 7)) fun r9=>bd (oM (zC_ (.int 1) r9.1)) fun x10=>bd (z3_ 5 r9.2 x8 x10 (.int 4)) fun r11=>bd (jU_ 5 r11.1) fun x12=>bd (bd (bd (ua_ 5 r11.1) fun x13=>oM (ZQ_ [x13])) fun x14=>bd (oM (ZQ_ [x12])) fun x15=>oM (opNe x14 x15)) fun b16=>if b16 then
  .ret (.bool false)
  else
  bd (bd (bd (jv_ r11.1 x8 (.str "")) fun x17=>oM (ZQ_ [x17])) fun x20=>bd (bd (bd (oM (Ux_ x12 (.int 41))) fun b18=>if b18 then .ret x12 else .ret (.bool true)) fun x19=>oM (ZQ_ [x19])) fun x21=>oM (opNe x20 x21)) fun b22=>if b22 then
  .ret (.bool false)
  else
  bd (zh_ r11.2 (.int 9)) fun r23=>bd (oM (zC_ (.int 1) r23.1)) fun x24=>bd (jz_ r23.2 x24) fun r25=>bd (zh_ r25.2 (.int 9)) fun r26=>bd (oM (zC_ (.int 1) r26.1)) fun x27=>bd (jz_ r26.2 x27) fun r28=>bd (zh_ r28.2 (.int 3)) fun r29=>bd (oM (opEq r29.1 (.int 0))) fun b30=>if b30 then
  bd (jz_ r29.2 (.int 40)) fun r31=>bd (zh_ r31.2 (.int 2)) fun r32=>bd (oM (zC_ (.int 1) r32.1)) fun x33=>bd (jz_ r32.2 x33) fun r34=>Zn_ kn5 v_law_script r34.2 r31.1 r34.1
  else
  Zn_ kn5 v_law_script r29.2 r25.1 r28.1
noncomputable def Xu_ (p_law_script:D):M D :=
 bd (bd (bd (bd (oM (fLen [p_law_script])) fun x1=>oM (Wl_ [(.int 6),x1])) fun x2=>oM (zC_ (.int 2) x2)) fun x3=>oM (ja_ [x3])) fun l4=>forS (fun s46 d47 kn=>J6_ s46.1 d47 kn) l4 (p_law_script,()) (fun s46=>Xt_ s46.1)
noncomputable def UK_:List D→M D:=fun l=>match l with
 | [p_law_script]=>Xu_ p_law_script
 | _=>.bad
set_option maxHeartbeats 4000000 in
theorem XS_ {f:Addr} {fd:FuncData} (Fn:Fun K "law" "law" Z3_ f fd) (B:BN mg) (Kn:KN mg) (Kx:KX K mg) (C__law_feed:CF P w K mg base "_law_feed" 1 (spL K 2 un_)) (C__law_question:CF P w K mg base "_law_question" 9 (sp1 K 4 (zO_ 5))) (C__law_rooms:CF P w K mg base "_law_rooms" 6 (spD K 1 (z8_ 5))) (C__law_next:CF P w K mg base "_law_next" 1 (sp1 K 2 zz_)) (C__law_few:CF P w K mg base "_law_few" 2 (sp1 K 2 uR_)) (C_rooms_for:CF P w K mg base "rooms_for" 6 (spD K 1 (ji_ 5))) (C__law_told:CF P w K mg base "_law_told" 10 (spD K 3 uk_)):FnOk P w K mg base (CX1 P w) 11 f fd ["_law_script"] (spD K 1 UK_) :=
 jZ_ (k:=10) Fn sc_law (fun cdv A outer s H E hr =>
 (zd_ (ud_ (sh:=[.f,.dead,.dead,.dead,.dead,.dead,.dead,.dead]) PassesOwn.leaving rfl (uH_ (zW_ rfl B.range (zb_ (zl_ zw_ zP_ (ao zc_) (ao (jn_ (Wv_ rfl) zaA_ rfl B.min (by decide +kernel) (zu_ (ao zc_) (zu_ (ao (jn_ u8_ UC_ rfl B.len PySem.boot_len (zu_ (ao (av 0)) zK_ (za_ rfl)) (by decide) (by decide) rfl rfl)) zK_ (za_ rfl)) (za_ rfl)) (by decide) (by decide) rfl rfl))) zj_ (za_ rfl)) rfl)) (zS_ (i:=1) (Nat.zero_le _) sc_law.nd rfl (by first|exact Or.inl rfl|exact Or.inr rfl) (.inl rfl))
  (zd_ (zM_ (sh:=[.f,.dead,.o,.dead,.dead,.dead,.dead,.dead]) (ZU_ (i:=2) sc_law.nd rfl (by first|exact Or.inl rfl|exact Or.inr rfl) (JD_ (zdV_ C__law_feed (hr.mono (by decide)) rfl (zb_ (av 0) (zb_ (av 1) zj_ (za_ rfl)) (za_ rfl)) rfl (by decide) rfl rfl)) rfl (.inl rfl)))
  (zd_ (zM_ (sh:=[.f,.dead,.o,.f,.dead,.dead,.dead,.dead]) (zH_ (i:=3) sc_law.nd rfl (by first|exact Or.inl rfl|exact Or.inr rfl) (y6_ zw_ zP_ (zi_ zc_) (zT_ (i:=2) C__law_next (hr.mono (by decide)) rfl rfl (by first|exact Or.inl rfl|exact Or.inr (Or.inl rfl)|exact Or.inr (Or.inr rfl)) (zf_ (zi_ zc_) zm_ (za_ rfl)) rfl (by decide) rfl rfl)) rfl (.inl rfl)))
  (zd_ (zM_ (sh:=[.f,.dead,.o,.f,.f,.dead,.dead,.dead]) (zH_ (i:=4) sc_law.nd rfl (by first|exact Or.inl rfl|exact Or.inr rfl) (zT_ (i:=2) C__law_question (hr.mono (by decide)) rfl rfl (by first|exact Or.inl rfl|exact Or.inr (Or.inl rfl)|exact Or.inr (Or.inr rfl)) (zf_ (zi_ (av 3)) (zf_ (y6_ zw_ zP_ (zi_ zc_) (zT_ (i:=2) C__law_next (hr.mono (by decide)) rfl rfl (by first|exact Or.inl rfl|exact Or.inr (Or.inl rfl)|exact Or.inr (Or.inr rfl)) (zf_ (zi_ zc_) zm_ (za_ rfl)) rfl (by decide) rfl rfl)) (zf_ (zi_ zc_) zm_ (za_ rfl)) (za_ rfl)) (za_ rfl)) rfl (by decide) rfl rfl) rfl (.inl rfl)))
  (zd_ (zM_ (sh:=[.f,.dead,.o,.f,.f,.f,.dead,.dead]) (zH_ (i:=5) sc_law.nd rfl (by first|exact Or.inl rfl|exact Or.inr rfl) (zi_ (jV_ C__law_rooms (hr.mono (by decide)) rfl (zb_ (av 4) zj_ (za_ rfl)) rfl (by decide) rfl rfl)) rfl (.inl rfl)))
  (zd_ (jO_ (z4_ (zA_ (Uw_ (zg_ hr)) jl_ (ao (jn_ (uA_ (zg_ hr) hr.gd) yP_ rfl B.repr (by decide +kernel) (zu_ (ao (jV_ C_rooms_for (hr.mono (by decide)) rfl (zb_ (av 4) zj_ (za_ rfl)) rfl (by decide) rfl rfl)) zK_ (za_ rfl)) (by decide) (by decide) rfl rfl)) (ao (jn_ (uA_ (zg_ hr) hr.gd) yP_ rfl B.repr (by decide +kernel) (zu_ (ao (av 5)) zK_ (za_ rfl)) (by decide) (by decide) rfl rfl)) rfl))
  (zk_ (zB_ (zi_ ZX_)))
  zL_)
  (zd_ (jO_ (z4_ (zA_ (Uw_ (zg_ hr)) jl_ (ao (jn_ (uA_ (zg_ hr) hr.gd) yP_ rfl B.repr (by decide +kernel) (zu_ (ao (jV_ C__law_told (hr.mono (by decide)) rfl (zb_ (av 4) (zb_ (av 3) (zb_ jb_ zj_ (za_ rfl)) (za_ rfl)) (za_ rfl)) rfl (by decide) rfl rfl)) zK_ (za_ rfl)) (by decide) (by decide) rfl rfl)) (ao (jn_ (uA_ (zg_ hr) hr.gd) yP_ rfl B.repr (by decide +kernel) (zu_ (ao (ZW_ (zA_ (VO_ (zg_ hr)) VU_ (ao (av 5)) (ao zc_) rfl) (av 5) ZX_)) zK_ (za_ rfl)) (by decide) (by decide) rfl rfl)) rfl))
  (zk_ (zB_ (zi_ ZX_)))
  zL_)
  (zd_ (zM_ (sh:=[.f,.dead,.o,.dead,.dead,.dead,.f,.f]) (X0_ (i:=6) (j:=7) rfl sc_law.nd rfl rfl (by decide) rfl rfl (zf_ (zT_ (i:=2) C__law_few (hr.mono (by decide)) rfl rfl (by first|exact Or.inl rfl|exact Or.inr (Or.inl rfl)|exact Or.inr (Or.inr rfl)) (zf_ (y6_ zw_ zP_ (zi_ zc_) (zT_ (i:=2) C__law_next (hr.mono (by decide)) rfl rfl (by first|exact Or.inl rfl|exact Or.inr (Or.inl rfl)|exact Or.inr (Or.inr rfl)) (zf_ (zi_ zc_) zm_ (za_ rfl)) rfl (by decide) rfl rfl)) zm_ (za_ rfl)) rfl (by decide) rfl rfl) (zf_ (zT_ (i:=2) C__law_few (hr.mono (by decide)) rfl rfl (by first|exact Or.inl rfl|exact Or.inr (Or.inl rfl)|exact Or.inr (Or.inr rfl)) (zf_ (y6_ zw_ zP_ (zi_ zc_) (zT_ (i:=2) C__law_next (hr.mono (by decide)) rfl rfl (by first|exact Or.inl rfl|exact Or.inr (Or.inl rfl)|exact Or.inr (Or.inr rfl)) (zf_ (zi_ zc_) zm_ (za_ rfl)) rfl (by decide) rfl rfl)) zm_ (za_ rfl)) rfl (by decide) rfl rfl) zm_ (za_ rfl)) (za_ rfl)) rfl rfl))
  (zd_ (zM_ (sh:=[.f,.dead,.o,.dead,.dead,.dead,.f,.f]) (jO_ (Uc_ (z0_ (zg_ hr)) jl_ (zT_ (i:=2) C__law_next (hr.mono (by decide)) rfl rfl (by first|exact Or.inl rfl|exact Or.inr (Or.inl rfl)|exact Or.inr (Or.inr rfl)) (zf_ (zi_ zc_) zm_ (za_ rfl)) rfl (by decide) rfl rfl) (zi_ zc_) rfl)
  (zk_ (X0_ (i:=6) (j:=7) rfl sc_law.nd rfl rfl (by decide) rfl rfl (zf_ (zT_ (i:=2) C__law_few (hr.mono (by decide)) rfl rfl (by first|exact Or.inl rfl|exact Or.inr (Or.inl rfl)|exact Or.inr (Or.inr rfl)) (zf_ (zi_ zc_) zm_ (za_ rfl)) rfl (by decide) rfl rfl) (zf_ (zT_ (i:=2) C__law_few (hr.mono (by decide)) rfl rfl (by first|exact Or.inl rfl|exact Or.inr (Or.inl rfl)|exact Or.inr (Or.inr rfl)) (zf_ (y6_ zw_ zP_ (zi_ zc_) (zT_ (i:=2) C__law_next (hr.mono (by decide)) rfl rfl (by first|exact Or.inl rfl|exact Or.inr (Or.inl rfl)|exact Or.inr (Or.inr rfl)) (zf_ (zi_ zc_) zm_ (za_ rfl)) rfl (by decide) rfl rfl)) zm_ (za_ rfl)) rfl (by decide) rfl rfl) zm_ (za_ rfl)) (za_ rfl)) rfl rfl))
  zL_))
  (zd_ (zM_ (sh:=[.f,.dead,.o,.dead,.dead,.f,.f,.f]) (zH_ (i:=5) sc_law.nd rfl (by first|exact Or.inl rfl|exact Or.inr rfl) (zi_ (zl_ u0_ u2_ (ao (zG_ (zo_ (zg_ hr)) zn_ (ao (av 6)) (ao zc_) (fun _ _=>rfl))) (ao (zG_ (zo_ (zg_ hr)) zn_ (ao (av 7)) (ao zc_) (fun _ _=>rfl))))) rfl (.inl rfl)))
  (zk_ (jO_ (Uc_ (Uw_ (zg_ hr)) jl_ (Xy_ (uA_ (zg_ hr) hr.gd) yP_ rfl B.repr (by decide +kernel) (zf_ (zdW_ C__law_told (hr.mono (by decide)) rfl (zf_ (zi_ (av 6)) (zf_ (zi_ (av 7)) (zf_ (zda_ (zo_ (zg_ hr)) zn_ (zi_ (ap_z (yL_ (zb_ jb_ (zb_ jb_ zj_ (za_ rfl)) (za_ rfl)) (by decide +kernel)))) (zT_ (i:=2) C__law_next (hr.mono (by decide)) rfl rfl (by first|exact Or.inl rfl|exact Or.inr (Or.inl rfl)|exact Or.inr (Or.inr rfl)) (zf_ (zi_ zc_) zm_ (za_ rfl)) rfl (by decide) rfl rfl) (fun _ _=>rfl)) zm_ (za_ rfl)) (za_ rfl)) (za_ rfl)) rfl (by decide) rfl rfl) zm_ (za_ rfl)) (by decide) (by decide) rfl rfl) (zi_ (jn_ (uA_ (zg_ hr) hr.gd) yP_ rfl B.repr (by decide +kernel) (zu_ (ao (ZW_ (zA_ (VO_ (zg_ hr)) VU_ (ao (av 5)) (ao zc_) rfl) (av 5) ZX_)) zK_ (za_ rfl)) (by decide) (by decide) rfl rfl)) rfl)
  (zk_ (zB_ (zi_ ZX_)))
  zL_))))))))))) (fun _=>rfl))
  (zk_ (zB_ (zi_ ZX_)))))
 (fun ds hl=>match ds,hl with | [p_law_script],_=>by kernel_rfl)
theorem zea_ {f:Addr} {fd:FuncData} (Fn:Fun K "law" "law" Z3_ f fd) (hmg:mg "law" = some (.ref f)) (B:BN mg) (Kn:KN mg) (Kx:KX K mg) (C__law_feed:CF P w K mg base "_law_feed" 1 (spL K 2 un_)) (C__law_question:CF P w K mg base "_law_question" 9 (sp1 K 4 (zO_ 5))) (C__law_rooms:CF P w K mg base "_law_rooms" 6 (spD K 1 (z8_ 5))) (C__law_next:CF P w K mg base "_law_next" 1 (sp1 K 2 zz_)) (C__law_few:CF P w K mg base "_law_few" 2 (sp1 K 2 uR_)) (C_rooms_for:CF P w K mg base "rooms_for" 6 (spD K 1 (ji_ 5))) (C__law_told:CF P w K mg base "_law_told" 10 (spD K 3 uk_)):CF P w K mg base "law" 11 (spD K 1 UK_) :=
 ⟨f,fd,["_law_script"],XS_ Fn B Kn Kx C__law_feed C__law_question C__law_rooms C__law_next C__law_few C_rooms_for C__law_told,hmg,Fn.kp,(bnd1 Fn fun _ _ _ _ _ _ _=>rfl)⟩
end
end
end K14
set_option Elab.async false
set_option linter.all false
set_option maxRecDepth 100000
namespace L4
open PySem PySem.Spec PyProof.Rows L2 L3
theorem bdR {S T:Type} (s:S) (k:S→M T):bd (.ret s) k=k s:=id rfl
theorem oMS {S:Type} (s:S):oM (some s)=.ret s:=id rfl
theorem j8_ {S:Type} {ds:List S} (h:ds.length≤1000):fitM ds=.ret ds:=if_pos (UN_ h)
theorem ZT_ {α:Type} (xs:List α) (i:Nat) (h:i<xs.length):atI xs (i:Int)=some (xs[i]'h):=by
 unfold atI ixN
 rw [if_pos (Int.natCast_nonneg _),if_pos (by lia)]
 simp [h]
theorem XX_ {α:Type} (xs:List α) (i:Int) (h0:0≤i) (h:i<xs.length):∃ x∈xs,atI xs i=some x:=by
 obtain ⟨n,rfl⟩:=Int.eq_ofNat_of_zero_le h0
 exact ⟨_,List.getElem_mem _,ZT_ xs n (by lia)⟩
noncomputable def Jf_ (s:Str):Bool:=PyData.strOk s&&decide ((reprText s).length≤24)&&PyData.strOk (reprText s)
noncomputable def Ok (k:Nat):Nat→D→Prop
 | 0,_=>False
 | _+1,.none=>True
 | _+1,.bool _=>True
 | _+1,.int i=>i.natAbs<10^(16+k)
 | _+1,.str s=>Jf_ s=true
 | n+1,.list ds=>ds.length≤6+k∧∀ d∈ds,Ok k n d
 | n+1,.tuple ds=>ds.length≤6+k∧∀ d∈ds,Ok k n d
 | _+1,.dict _=>False
theorem V4_:∀ {ds:List D},(∀ d∈ds,d.canLay0=true)→PyData.canLayAll0 ds=true
 | [],_=>by simp [PyData.canLayAll0]
 | d::r,h=>by
  simp only [PyData.canLayAll0,Bool.and_eq_true]
  exact ⟨h d List.mem_cons_self,V4_ fun e he=>h e (List.mem_cons_of_mem _ he)⟩
theorem zcw_ {m:Nat} (h:m<10^36):m.log2<1920:=by
 by_cases h0:m=0
 ·subst h0;decide
 ·exact (Nat.log2_lt h0).mpr (Nat.lt_of_lt_of_le h (by decide +kernel))
theorem strOk_iff {s:Str}:PyData.strOk s=true↔∀ c∈s.cps.toList,c<1114112:=by
 unfold PyData.strOk
 rw [←Array.all_toList,List.all_eq_true]
 simp
theorem jB_ (s:String):PyData.strOk (Str.ofString s)=true:=by
 rw [strOk_iff,signs_ofString]
 intro c hc
 obtain ⟨ch,_,rfl⟩:=List.mem_map.mp hc
 have:=ch.valid
 have e:ch.toNat=ch.val.toNat:=rfl
 rw [e]
 rcases this with h|⟨_,h⟩
 ·have h':ch.val.toNat<0xd800:=h
  lia
 ·have h':ch.val.toNat<0x110000:=h
  lia
theorem yv_ {a b:Str} (ha:PyData.strOk a=true) (hb:PyData.strOk b=true):PyData.strOk (a++b)=true:=by
 rw [strOk_iff] at *
 intro c hc
 rcases mem_cps_append.mp hc with h|h
 ·exact ha c h
 ·exact hb c h
theorem Ji_ {sep:Str} {ts:List Str} (hs:PyData.strOk sep=true) (h:∀ t∈ts,PyData.strOk t=true):PyData.strOk (Str.join sep ts)=true:=by
 rw [strOk_iff] at *
 intro c hc
 rcases (mem_join sep c ts).mp hc with ⟨t,ht,hc⟩|⟨_,hc⟩
 ·exact strOk_iff.mp (h t ht) c hc
 ·exact hs c hc
theorem V9_ {ts:List Str}:(Str.join ", " ts).length≤piled ts:=by
 by_cases h:ts=[]
 ·subst h;exact Nat.zero_le _
 ·have:=join_length_add ts h;lia
noncomputable def lim:Nat→Nat
 | 0=>24
 | n+1=>4+9*(lim n+2)
end L4
set_option Elab.async false
set_option linter.all false
set_option maxRecDepth 100000
namespace L4
open PySem PySem.Spec PyProof.Rows L2 L3
theorem eqI (a b:Int):opEq (.int a) (.int b)=some (a==b):=by
 unfold opEq eqOk
 simp [PyData.canLay0,PyData.depth,PyData.eqv]
theorem neI (a b:Int):opNe (.int a) (.int b)=some (!(a==b)):=by
 unfold opNe eqOk
 simp [PyData.canLay0,PyData.depth,PyData.eqv]
theorem ltI (a b:Int):opLt (.int a) (.int b)=some (decide (a<b)):=id rfl
theorem gtI (a b:Int):opGt (.int a) (.int b)=some (decide (b<a)):=id rfl
theorem geI (a b:Int):opGe (.int a) (.int b)=some (decide (b≤a)):=id rfl
theorem addI (a b:Int):zC_ (.int a) (.int b)=some (.int (a+b)):=id rfl
theorem modI (i j:Int) (h:0<j):uy_ (.int i) (.int j)=some (.int (i % j)):=if_pos h
theorem divI (i j:Int) (h:0<j) (h2:j<1073741824):ZD_ (.int i) (.int j)=some (.int (i / j)):=if_pos (by simp [h,h2])
theorem mulL (i j:Int) (h : -(2^64)<i) (h2:i<2^64):z1_ (.int i) (.int j)=some (.int (i*j)):=if_pos (by simp only [VZ_,Bool.or_eq_true,Bool.and_eq_true,decide_eq_true_eq];exact .inl ⟨h,h2⟩)
theorem mulR (i j:Int) (h : -(2^64)<j) (h2:j<2^64):z1_ (.int i) (.int j)=some (.int (i*j)):=if_pos (by simp only [VZ_,Bool.or_eq_true,Bool.and_eq_true,decide_eq_true_eq];exact .inr ⟨h,h2⟩)
theorem zek_ (b:Bool):asB (.bool b)=.ret b:=id rfl
theorem zdi_ (b:Bool):truD (.bool b)=some b:=id rfl
theorem lenL (ds:List D):fLen [.list ds]=some (.int ds.length):=id rfl
theorem seqT (ds:List D):seqD (.tuple ds)=some ds:=id rfl
theorem seqL (ds:List D):seqD (.list ds)=some ds:=id rfl
theorem tupL (ds:List D):jS_ [.list ds]=some (.tuple ds):=id rfl
theorem tupT (ds:List D):jS_ [.tuple ds]=some (.tuple ds):=id rfl
theorem cutT (ds:List D) (lo hi:Option Int):fCut (.tuple ds) lo hi=some (.tuple (L4.cutD ds lo hi)):=id rfl
theorem zei_ (ds:List D) (lo hi:Option Int):fCut (.list ds) lo hi=some (.list (L4.cutD ds lo hi)):=id rfl
theorem ixTn (ds:List D) (n:Nat) (h:n<ds.length):opIx (.tuple ds) (.int n)=some ds[n]:=ZT_ ds n h
theorem ixT0 (a:D) (r:List D):opIx (.tuple (a::r)) (.int 0)=some a:=ixTn (a::r) 0 (by simp)
theorem ixT1 (a b:D) (r:List D):opIx (.tuple (a::b::r)) (.int 1)=some b:=ixTn (a::b::r) 1 (by simp)
theorem ixT2 (a b c:D) (r:List D):opIx (.tuple (a::b::c::r)) (.int 2)=some c:=ixTn (a::b::c::r) 2 (by simp)
theorem ixT3 (a b c d:D) (r:List D):opIx (.tuple (a::b::c::d::r)) (.int 3)=some d:=ixTn (a::b::c::d::r) 3 (by simp)
theorem ix3_0 (a b c:D):opIx (.list [a,b,c]) (.int 0)=some a:=id rfl
theorem ix3_1 (a b c:D):opIx (.list [a,b,c]) (.int 1)=some b:=id rfl
theorem ix3_2 (a b c:D):opIx (.list [a,b,c]) (.int 2)=some c:=id rfl
theorem put3_0 (a b c d:D):putD [a,b,c] (.int 0) d=some [d,b,c]:=id rfl
theorem put3_2 (a b c d:D):putD [a,b,c] (.int 2) d=some [a,b,d]:=id rfl
theorem iteO (a b:Bool):(if a=true then (M.ret true) else .ret b)=.ret (a||b):=by cases a<;>rfl
theorem zaT_ (n m:Nat):((n:Int)==(m:Int))=decide (n=m):=by
 by_cases h:n=m
 ·simp [h]
 ·simp only [h,decide_false];rw [beq_eq_false_iff_ne];lia
noncomputable def sW (lo hi:Int):D→Bool
 | .int i=>decide (lo≤i)&&decide (i≤hi)
 | _=>false
noncomputable def sS (w:Str):D→Bool
 | .str s=>s==w
 | _=>false
noncomputable def Ey (d:D):Prop:=d.canLay0=true∧d.depth≤1000
end L4
set_option Elab.async false
set_option linter.all false
set_option maxRecDepth 100000
namespace L4
open PySem PySem.Spec PyProof.Rows L2 L3
theorem Qk_ {S T ι:Type} {step:T→D→(T→M S)→M S} {e:ι→D} {F:List ι→T} {k:T→M S}:∀ (is pre:List ι),
  (∀ p i q,is=p++i::q→∀ kn:T→M S,step (F (pre++p)) (e i) kn=kn (F (pre++p++[i])))→forC step (is.map e) (F pre) k=k (F (pre++is))
 | [],pre,_=>by simp [forC]
 | i::r,pre,h=>by
  show step (F pre) (e i) _=_
  have h0:=h [] i r rfl (fun s'=>forC step (r.map e) s' k)
  rw [List.append_nil] at h0
  rw [h0]
  have:=Qk_ (step:=step) (e:=e) (F:=F) (k:=k) r (pre++[i]) fun p j q hq kn=>by
   have:=h (i::p) j q (by rw [hq];rfl) kn
   simpa using this
  rw [this]
  simp
theorem j4_ {S T ι:Type} {step:T→D→(T→M S)→M S} {e:ι→D} {F:List ι→T} {k:T→M S} (is:List ι)
  (h:∀ p i q,is=p++i::q→∀ kn:T→M S,step (F p) (e i) kn=kn (F (p++[i]))):forS step (is.map e) (F []) k=k (F is):=by
 rw [ZN_]
 have:=Qk_ (step:=step) (e:=e) (F:=F) (k:=k) is [] (by simpa using h)
 simpa using this
theorem zaL_ {S T:Type} {step:T→D→(T→M S)→M S} {R:M S→Prop} {P:Nat→T→Prop} {k:T→M S}:∀ (ds:List D) (i:Nat) (s:T),
  (∀ (j:Nat) (s:T) (d:D),ds[j]? = some d→P (i+j) s→∀ kn:T→M S,(∀ s',P (i+j+1) s'→R (kn s'))→R (step s d kn)) →
  P i s→(∀ s',P (i+ds.length) s'→R (k s'))→R (forC step ds s k)
 | [],i,s,_,hp,hk=>hk s hp
 | d::r,i,s,h,hp,hk=>by
  show R (step s d _)
  refine h 0 s d rfl hp _ fun s' hp'=>?_
  refine zaL_ r (i+1) s' (fun j s d hd hp kn hkn=>h (j+1) s d (by simpa using hd) (by rw [show i+(j+1)=i+1+j by lia];exact hp) kn fun s' q=>hkn s' (by rw [show i+1+j+1=i+(j+1)+1 by lia];exact q)) hp' fun s' hs=>hk s' ?_
  rw [show i+(d::r).length=i+1+r.length by simp;lia];exact hs
theorem jT_ {ι:Type} {step:D→M (Option D)} {e g:ι→D}:∀ (is:List ι),(∀ i∈is,step (e i)=.ret (some (g i)))→jA_ step (is.map e)=.ret (is.map g)
 | [],_=>rfl
 | i::r,h=>by
  rw [List.map_cons,jA_,h i List.mem_cons_self,jT_ r fun d hd=>h d (List.mem_cons_of_mem _ hd)]
  rfl
theorem Qr_ {ι:Type} {step:D→M (Option D)} {e:ι→D} {g:ι→Option D}:∀ (is:List ι),(∀ i∈is,step (e i)=.ret (g i))→jA_ step (is.map e)=.ret (is.filterMap g)
 | [],_=>rfl
 | i::r,h=>by
  rw [List.map_cons,jA_,h i List.mem_cons_self,Qr_ r fun d hd=>h d (List.mem_cons_of_mem _ hd)]
  cases q:g i<;>simp [jY_,bdR,List.filterMap_cons,q]
theorem U1_ {T ι:Type} {step:T→D→M (Option D×T)} {P:Nat→T→Prop} {e:ι→D} {R:ι→Prop}:∀ (ds:List D) (i:Nat) (s:T),
  (∀ (j:Nat) (s:T) (d:D),ds[j]? = some d→P (i+j) s→∃ x s',step s d=.ret (some (e x),s')∧P (i+j+1) s'∧R x)→P i s →
  ∃ xs s',uS_ step ds s=.ret (List.map e xs,s')∧P (i+ds.length) s'∧xs.length=ds.length∧∀ x∈xs,R x
 | [],i,s,_,hp=>⟨[],s,rfl,hp,rfl,fun _ h=>by cases h⟩
 | d::r,i,s,h,hp=>by
  obtain ⟨x,s1,e1,p1,r1⟩:=h 0 s d rfl hp
  obtain ⟨xs,s2,e2,p2,l2,r2⟩:=U1_ r (i+1) s1 (fun j s d hd hp=>by
   have:=h (j+1) s d (by simpa using hd) (by rw [show i+(j+1)=i+1+j by lia];exact hp)
   rw [show i+(j+1)+1=i+1+j+1 by lia] at this
   exact this) p1
  refine ⟨x::xs,s2,?_,?_,by simp [l2],?_⟩
  ·rw [uS_,e1];simp only [jY_,uF_];rw [e2];rfl
  ·rw [show i+(d::r).length=i+1+r.length by simp;lia];exact p2
  ·intro y hy
   cases hy with
   | head=>exact r1
   | tail _ h=>exact r2 y h
theorem Xs_ {T ι:Type} {step:T→D→M (Option D×T)} {P:Nat→T→Prop} {e:ι→D} {R:ι→Prop} (ds:List D) (s:T)
  (h:∀ (j:Nat) (s:T) (d:D),ds[j]? = some d→P j s→∃ x s',step s d=.ret (some (e x),s')∧P (j+1) s'∧R x) (hp:P 0 s) :
  ∃ xs s',uS_ step ds s=.ret (List.map e xs,s')∧P ds.length s'∧xs.length=ds.length∧∀ x∈xs,R x:=by
 have:=U1_ (step:=step) (P:=P) (e:=e) (R:=R) ds 0 s (by simpa using h) hp
 simpa using this
noncomputable abbrev iN (n:Nat):D:=.int (n:Int)
noncomputable def rng (lo hi:Nat):List Nat:=(List.range (hi - lo)).map (lo + ·)
theorem mem_rng {lo hi i:Nat}:i∈rng lo hi↔lo≤i∧i<hi:=by
 unfold rng
 rw [List.mem_map]
 constructor
 ·rintro ⟨a,ha,rfl⟩
  have:=List.mem_range.mp ha
  lia
 ·intro h
  exact ⟨i - lo,List.mem_range.mpr (by lia),by lia⟩
theorem jw_ (lo hi:Nat):(rng lo hi).length=hi - lo:=by simp [rng]
theorem Jn_ (lo n:Nat):yy_ (lo:Int) n=((List.range n).map (lo + ·)).map iN:=by
 unfold yy_
 rw [List.map_map]
 apply List.map_congr_left
 intro a _
 show PyData.int _=PyData.int _
 congr 1
theorem Zs_ {n:Nat} (h:n≤100000):yr_ (n:Int)=true:=by
 unfold yr_
 simp only [Bool.and_eq_true,decide_eq_true_eq]
 lia
theorem jX_ (n:Nat) (h:n≤100000):ja_ [.int (n:Int)]=some ((List.range n).map iN):=by
 unfold ja_
 simp only [Zs_ h,if_true]
 have:=Jn_ 0 n
 simp only [Int.toNat_natCast]
 rw [show (0:Int)=((0:Nat):Int) from rfl,this]
 simp
theorem Yn_ (lo hi:Nat) (h:lo≤100000) (h2:hi≤100000):u7_ [.int (lo:Int),.int (hi:Int)]=some ((rng lo hi).map iN):=by
 unfold u7_
 simp only [Zs_ h,Zs_ h2,Bool.and_self,if_true]
 rw [show ((hi:Int) - (lo:Int)).toNat=hi - lo by lia,Jn_]
 rfl
mutual
noncomputable def sz:D→Nat
 | .list ds=>1+szs ds
 | .tuple ds=>1+szs ds
 | .none=>1
 | .bool _=>1
 | .int _=>1
 | .str _=>1
 | .dict _=>1
noncomputable def szs:List D→Nat
 | []=>0
 | d::r=>sz d+szs r
end
mutual
noncomputable def Sm:D→Prop
 | .list ds=>Sms ds
 | .tuple ds=>Sms ds
 | .none=>True
 | .bool _=>True
 | .int i=>i.natAbs<10^19
 | .str s=>Jf_ s=true
 | .dict _=>False
noncomputable def Sms:List D→Prop
 | []=>True
 | d::r=>Sm d∧Sms r
end
mutual
theorem Sm.lay:∀ {d:D},Sm d→d.canLay0=true
 | .none,h=>by simp [PyData.canLay0]
 | .bool _,h=>by simp [PyData.canLay0]
 | .int _,h=>by simp [PyData.canLay0]
 | .str s,h=>by
  have h':Jf_ s=true:=by simpa [Sm] using h
  unfold Jf_ at h'
  simp only [Bool.and_eq_true] at h'
  simp [PyData.canLay0,h'.1.1]
 | .list ds,h=>by simp only [PyData.canLay0];exact Sms.lay (by simpa [Sm] using h)
 | .tuple ds,h=>by simp only [PyData.canLay0];exact Sms.lay (by simpa [Sm] using h)
 | .dict _,h=>by simp [Sm] at h
theorem Sms.lay:∀ {ds:List D},Sms ds→PyData.canLayAll0 ds=true
 | [],_=>by simp [PyData.canLayAll0]
 | d::r,h=>by
  simp only [Sms] at h
  simp only [PyData.canLayAll0,Bool.and_eq_true]
  exact ⟨Sm.lay h.1,Sms.lay h.2⟩
end
mutual
theorem Sm.show:∀ {d:D},Sm d→d.showable=true
 | .none,h=>by simp [PyData.showable]
 | .bool _,h=>by simp [PyData.showable]
 | .int i,h=>by
  have h':i.natAbs<10^19:=by simpa [Sm] using h
  simp only [PyData.showable,decide_eq_true_eq]
  exact zcw_ (Nat.lt_of_lt_of_le h' (Nat.pow_le_pow_right (by decide) (by decide)))
 | .str s,h=>by simp [PyData.showable]
 | .list ds,h=>by simp only [PyData.showable];exact Sms.show (by simpa [Sm] using h)
 | .tuple ds,h=>by simp only [PyData.showable];exact Sms.show (by simpa [Sm] using h)
 | .dict _,h=>by simp [Sm] at h
theorem Sms.show:∀ {ds:List D},Sms ds→PyData.showableAll ds=true
 | [],_=>by simp [PyData.showableAll]
 | d::r,h=>by
  simp only [Sms] at h
  simp only [PyData.showableAll,Bool.and_eq_true]
  exact ⟨Sm.show h.1,Sms.show h.2⟩
end
mutual
theorem Sm.text:∀ {d:D},Sm d→d.shown.length+2≤30*sz d∧PyData.strOk d.shown=true
 | .none,h=>by refine ⟨?_,by simp only [PyData.shown];exact jB_ _⟩;simp only [PyData.shown,sz];decide
 | .bool b,h=>by
  refine ⟨?_,by cases b<;>simp only [PyData.shown]<;>exact jB_ _⟩
  cases b<;>simp only [PyData.shown,sz]<;>decide
 | .int i,h=>by
  have h':i.natAbs<10^19:=by simpa [Sm] using h
  refine ⟨?_,by simp only [PyData.shown];exact jB_ _⟩
  simp only [PyData.shown,sz]
  have h1:=int_text_length_le10 (a:=i) (k:=19) (by decide) h'
  have h2:(Str.ofString (toString i)).length=(toString i).length:=by
   show (Str.ofString (toString i)).cps.size=_
   rw [←Array.length_toList,signs_ofString,List.length_map,String.length_toList]
  lia
 | .str s,h=>by
  have h':Jf_ s=true:=by simpa [Sm] using h
  unfold Jf_ at h'
  simp only [Bool.and_eq_true,decide_eq_true_eq] at h'
  simp only [PyData.shown,sz]
  exact ⟨by lia,h'.2⟩
 | .list ds,h=>by
  obtain ⟨h1,h2⟩:=Sms.text (ds:=ds) (by simpa [Sm] using h)
  have h5:(Str.join ", " (PyData.shownAll ds)).length≤piled (PyData.shownAll ds):=V9_
  have h6:PyData.strOk (Str.join ", " (PyData.shownAll ds))=true:=Ji_ (jB_ _) h2
  simp only [PyData.shown,listText_eq_join,sz]
  refine ⟨?_,yv_ (yv_ (jB_ _) h6) (jB_ _)⟩
  rw [strLen_append,strLen_append]
  have e1:((("[" : String):Str)).length=1:=rfl
  have e2:((("]" : String):Str)).length=1:=rfl
  rw [e1,e2];lia
 | .tuple ds,h=>by
  obtain ⟨h1,h2⟩:=Sms.text (ds:=ds) (by simpa [Sm] using h)
  have h5:(Str.join ", " (PyData.shownAll ds)).length≤piled (PyData.shownAll ds):=V9_
  have h6:PyData.strOk (Str.join ", " (PyData.shownAll ds))=true:=Ji_ (jB_ _) h2
  simp only [PyData.shown,tupleText,sz]
  refine ⟨?_,yv_ (yv_ (jB_ _) h6) (jB_ _)⟩
  rw [strLen_append,strLen_append]
  have e1:((("(" : String):Str)).length=1:=rfl
  have e3:(((if (PyData.shownAll ds).length==1 then ",)" else ")" : String):Str)).length≤2:=by split<;>decide
  rw [e1];lia
 | .dict _,h=>by simp [Sm] at h
theorem Sms.text:∀ {ds:List D},Sms ds→piled (PyData.shownAll ds)≤30*szs ds∧∀ t∈PyData.shownAll ds,PyData.strOk t=true
 | [],_=>by simp [PyData.shownAll,piled,szs]
 | d::r,h=>by
  simp only [Sms] at h
  obtain ⟨h1,h2⟩:=Sm.text h.1
  obtain ⟨h3,h4⟩:=Sms.text h.2
  simp only [PyData.shownAll,szs]
  refine ⟨?_,fun t ht=>?_⟩
  ·rw [piled_cons];lia
  ·rcases List.mem_cons.mp ht with rfl|ht
   ·exact h2
   ·exact h4 t ht
end
theorem zbA_ {d:D} (h:Sm d) (hs:sz d≤30000) (hd:d.depth≤60):ZQ_ [d]=some (.str d.shown):=by
 obtain ⟨t1,t2⟩:=h.text
 show (if Ur_ d then some (PyData.str d.shown) else none)=_
 unfold Ur_
 rw [if_pos]
 simp only [Bool.and_eq_true,decide_eq_true_eq]
 exact ⟨⟨⟨h.show,h.lay⟩,by lia⟩,Nat.le_trans (show d.shown.length≤1000000 by lia) (by decide)⟩
theorem XL_ {d:D} (h:Sm d):opNe (.str d.shown) (.str d.shown)=some false:=by
 obtain ⟨t1,t2⟩:=h.text
 unfold opNe eqOk
 rw [if_pos]
 ·simp [PyData.eqv]
 ·simp [PyData.canLay0,t2,PyData.depth]
end L4
set_option Elab.async false
set_option linter.all false
set_option maxRecDepth 100000
namespace L4
open PySem PySem.Spec PyProof.Rows L2 L3
theorem Xk_ (ds:List D) (k:D):zt_ (.list ds) k=opIx (.list ds) k:=id rfl
theorem zI_ (ds:List D) (k:D):zt_ (.tuple ds) k=opIx (.tuple ds) k:=id rfl
theorem leA (a b:Int):W9_ (.int a) (.int b)=some (decide (a≤b)):=id rfl
theorem ltA (a b:Int):Ux_ (.int a) (.int b)=some (decide (a<b)):=id rfl
theorem zeg_ (d:D) (ds:List D):uN_ d (.list ds)=opIn d (.list ds):=id rfl
theorem zef_ (d:D) (ds:List D):uN_ d (.tuple ds)=opIn d (.tuple ds):=id rfl
theorem zdJ_ {ι:Type} (e:ι→D) (is:List ι) (n:Nat) (h:n<is.length):opIx (.list (is.map e)) (.int (n:Int))=some (e is[n]):=by
 have:=ZT_ (is.map e) n (by simpa using h)
 rw [List.getElem_map] at this
 exact this
theorem zdI_ {ι:Type} (e:ι→D) (is:List ι) (n:Nat) (h:n<is.length):opIx (.tuple (is.map e)) (.int (n:Int))=some (e is[n]):=by
 have:=ZT_ (is.map e) n (by simpa using h)
 rw [List.getElem_map] at this
 exact this
theorem yK_ (ds:List D) (d:D) (h:ds.length≤100000):mApp ds [d]=some (ds++[d]):=if_pos (Nat.lt_of_le_of_lt h (by decide))
noncomputable abbrev pD (p:Nat×Nat):D:=.tuple [iN p.1,iN p.2]
theorem Xc_ (a b:Nat):((a:Int)==(b:Int))=decide (a=b):=zaT_ a b
theorem Qm_ (p q:Nat×Nat):PyData.eqv (pD p) (pD q)=decide (p=q):=by
 simp only [pD,iN,PyData.eqv,PyData.eqvAll,Xc_,Bool.and_true]
 rw [Bool.eq_iff_iff]
 simp [Prod.ext_iff]
theorem Qg_ (p:Nat×Nat):(pD p).canLay0=true∧(pD p).depth≤1000:=by
 simp [pD,PyData.canLay0,PyData.canLayAll0,PyData.depth,PyData.depthAll]
theorem eqP (p q:Nat×Nat):opEq (pD p) (pD q)=some (decide (p=q)):=by
 unfold opEq eqOk
 rw [if_pos (by simp [Qg_]),Qm_]
theorem neP (p q:Nat×Nat):opNe (pD p) (pD q)=some (!decide (p=q)):=by
 unfold opNe eqOk
 rw [if_pos (by simp [Qg_]),Qm_]
theorem eqN (a b:Nat):opEq (iN a) (iN b)=some (decide (a=b)):=by
 show opEq (.int a) (.int b)=_
 rw [eqI,Xc_]
theorem addN (a b:Nat):zC_ (iN a) (iN b)=some (iN (a+b)):=by
 show some (PyData.int ((a:Int)+(b:Int)))=_
 rw [←Int.natCast_add]
theorem mulN (a b:Nat) (h:a≤1000000):z1_ (iN a) (iN b)=some (iN (a*b)):=by
 show z1_ (.int a) (.int b)=_
 rw [mulL _ _ (by lia) (by lia),←Int.natCast_mul]
theorem divN (a b:Nat) (h:0<b) (h2:b≤1000000):ZD_ (iN a) (iN b)=some (iN (a / b)):=by
 show ZD_ (.int a) (.int b)=_
 rw [divI _ _ (by lia) (by lia)]
 rfl
theorem modN (a b:Nat) (h:0<b):uy_ (iN a) (iN b)=some (iN (a % b)):=by
 show uy_ (.int a) (.int b)=_
 rw [modI _ _ (by lia)]
 rfl
noncomputable abbrev Mt:=Nat×Nat×Nat×Nat
noncomputable abbrev mD (m:Mt):D:=.tuple [iN m.1,iN m.2.1,iN m.2.2.1,iN m.2.2.2]
structure Rl where
 n:Nat
 st:List Nat
 ms:List Mt
 sy:List Bool
noncomputable abbrev Rl.d (r:Rl):D:=.tuple [iN r.n,.tuple (r.st.map iN),.tuple (r.ms.map mD),.tuple (r.sy.map PyData.bool)]
noncomputable def plt (p q:Nat×Nat):Prop:=p.1<q.1∨p.1=q.1∧p.2<q.2
structure MtOk (n:Nat) (m:Mt):Prop where
 ab:m.1≤m.2.1
 b:m.2.1<n
 c:m.2.2.1<n
 d:m.2.2.2<n
 ne:m.2.2≠(m.1,m.2.1)
 ne':m.2.2≠(m.2.1,m.1)
structure Wf (r:Rl):Prop where
 n1:1≤r.n
 st:∀ s∈r.st,s<r.n
 sy:r.sy.length=r.n
 ms:∀ m∈r.ms,MtOk r.n m
 so:r.ms.Pairwise fun m m'=>plt (m.1,m.2.1) (m'.1,m'.2.1)
noncomputable def look (ms:List Mt) (p:Nat×Nat):Option (Nat×Nat):=(ms.find? fun m=>decide (m.1=p.1)&&decide (m.2.1=p.2)).map (·.2.2)
noncomputable def turn (ms:List Mt) (i j:Nat):Nat×Nat:=if i≤j then (look ms (i,j)).getD (i,j) else let t:=(look ms (j,i)).getD (j,i);(t.2,t.1)
theorem JV_ {ms:List Mt} {p q:Nat×Nat} (h:look ms p=some q):(p.1,p.2,q.1,q.2)∈ms:=by
 unfold look at h
 obtain ⟨m,hm,rfl⟩:=Option.map_eq_some_iff.mp h
 have h1:=List.find?_some hm
 have h2:=List.mem_of_find?_eq_some hm
 simp only [Bool.and_eq_true,decide_eq_true_eq] at h1
 rw [←h1.1,←h1.2]
 exact h2
theorem Vl_ {r:Rl} (w:Wf r) {i j:Nat} (hi:i<r.n) (hj:j<r.n):(turn r.ms i j).1<r.n∧(turn r.ms i j).2<r.n:=by
 have go:∀ a b,a<r.n→b<r.n→((look r.ms (a,b)).getD (a,b)).1<r.n∧((look r.ms (a,b)).getD (a,b)).2<r.n:=fun a b ha hb=>by
  cases e:look r.ms (a,b) with
  | none=>exact ⟨ha,hb⟩
  | some q =>
   have m:=w.ms _ (JV_ e)
   exact ⟨m.c,m.d⟩
 unfold turn
 split
 ·exact go i j hi hj
 ·obtain ⟨h1,h2⟩:=go j i hj hi
  exact ⟨h2,h1⟩
end L4
set_option Elab.async false
set_option linter.all false
set_option maxRecDepth 100000
namespace L4
open PySem PySem.Spec PyProof.Rows L2 L3
theorem min2 (a b:Nat):Wl_ [.int (a:Int),.int (b:Int)]=some (iN (min a b)):=by
 show some (PyData.int _)=_
 congr 2
 split<;>lia
end L4
set_option Elab.async false
set_option linter.all false
set_option maxRecDepth 100000
namespace L4
open PySem PySem.Spec PyProof.Rows L2 L3
noncomputable abbrev kvM (m:Mt):D×D:=(pD (m.1,m.2.1),pD m.2.2)
theorem YA_ (p q:Nat×Nat):keyQ (pD p) (pD q)=decide (p=q):=by
 show (decide ((p.1:Int)=q.1)&&(decide ((p.2:Int)=q.2)&&true))=_
 rw [Bool.eq_iff_iff]
 simp [Prod.ext_iff]
 lia
theorem Xl_ (p:Nat×Nat):yk_ (pD p)=true:=id rfl
theorem Wb_ (p:Nat×Nat):u4_ (pD p)=false:=id rfl
theorem Qj_ (ms:List Mt) (p:Nat×Nat):keyOk (ms.map kvM) (pD p)=true:=by
 unfold keyOk
 rw [Xl_,Bool.true_and,Wb_,Bool.false_and,Bool.or_false,List.all_eq_true]
 intro x hx
 obtain ⟨m,_,rfl⟩:=List.mem_map.mp hx
 rfl
theorem YF_ (p:Nat×Nat):∀ ms:List Mt,getE (ms.map kvM) (pD p)=(look ms p).map pD
 | []=>rfl
 | m::r=>by
  have ih:=YF_ p r
  unfold getE look at ih ⊢
  rw [List.map_cons,List.find?_cons,List.find?_cons,YA_]
  by_cases h:(m.1,m.2.1)=p
  ·have h1:m.1=p.1:=by rw [←h]
   have h2:m.2.1=p.2:=by rw [←h]
   simp [h1,h2]
  ·have h1:(decide (m.1=p.1)&&decide (m.2.1=p.2))=false:=by
    rw [Bool.eq_false_iff]
    intro q
    simp only [Bool.and_eq_true,decide_eq_true_eq] at q
    exact h (Prod.ext q.1 q.2)
   rw [h1]
   simp only [h,decide_false]
   exact ih
theorem Wn_ (ms:List Mt) (p:Nat×Nat):QZ_ (.dict (ms.map kvM)) (pD p) (pD p)=some (pD ((look ms p).getD p)):=by
 show (if keyOk _ _ then some ((getE _ _).getD _) else none)=_
 rw [if_pos (Qj_ ms p),YF_]
 cases look ms p<;>rfl
theorem Y5_ {es:List (D×D)} {k d:D} (h:∀ p∈es,keyQ p.1 k=false):putE es k d=es++[(k,d)]:=by
 unfold putE
 rw [if_neg]
 rw [Bool.not_eq_true,List.any_eq_false]
 intro p hp
 rw [h p hp]
 decide
theorem jG_ {α β:Type} {g:α→List β} {B:Nat} (h:∀ a,(g a).length≤B):∀ l:List α,(l.flatMap g).length≤l.length*B
 | []=>by simp
 | a::r=>by
  rw [List.flatMap_cons,List.length_append,List.length_cons,Nat.succ_mul]
  have:=jG_ h r
  have:=h a
  lia
theorem Y0_ {m l t i:Nat} (ht:t<m):l*m+t=i↔l=i / m∧t=i % m:=by
 constructor
 ·rintro rfl
  have hm:0<m:=by lia
  constructor
  ·rw [Nat.add_comm,Nat.add_mul_div_right _ _ hm,Nat.div_eq_of_lt ht,Nat.zero_add]
  ·rw [Nat.add_comm,Nat.add_mul_mod_self_right,Nat.mod_eq_of_lt ht]
 ·rintro ⟨rfl,rfl⟩
  rw [Nat.mul_comm]
  exact Nat.div_add_mod i m
theorem zcF_ {ι:Type} (e:ι→D) (is:List ι) (n:Nat) (z:ι) (h:n<is.length):opIx (.tuple (is.map e)) (.int (n:Int))=some (e (is.getD n z)):=by
 rw [zdI_ e is n h,List.getD_eq_getElem?_getD,List.getElem?_eq_getElem h]
 rfl
theorem yg_ {a b n m:Nat} (ha:a<n) (hb:b<m):a*m+b<n*m:=by
 have:(a+1)*m≤n*m:=Nat.mul_le_mul_right _ ha
 rw [Nat.succ_mul] at this
 lia
theorem Wh_ {l:List Nat} {n:Nat} (h:∀ s∈l,s<n) {k:Nat} (hk:k<l.length):l.getD k 0<n:=by
 rw [List.getD_eq_getElem?_getD,List.getElem?_eq_getElem hk]
 exact h _ (List.getElem_mem _)
theorem y0_ (lo hi:Nat):(rng lo hi).Pairwise (· < ·):=by
 unfold rng
 rw [List.pairwise_map]
 exact List.pairwise_lt_range.imp fun h=>by lia
theorem WM_:∀ (as bs:List Nat),zipD (as.map iN) (bs.map iN)=(as.zip bs).map pD:=by
 intro as
 induction as with
 | nil=>intro bs;rfl
 | cons a as ih =>
  intro bs
  cases bs with
  | nil=>rfl
  | cons b bs =>
   unfold zipD at ih ⊢
   simp [ih]
structure Ahd (n a b:Nat) (ms:List Mt):Prop where
 ok:∀ m∈ms,MtOk n m
 so:ms.Pairwise fun m m'=>plt (m.1,m.2.1) (m'.1,m'.2.1)
 ah:∀ m∈ms,plt (m.1,m.2.1) (a,b)
 le:ms.length≤a*n+b
theorem Uj_ {r:Rl} (w:Wf r) {i j:Nat} (h:turn r.ms i j=(j,i)):i=j:=by
 unfold turn at h
 split at h
 ·cases e:look r.ms (i,j) with
  | none=>rw [e] at h;simp at h;lia
  | some q =>
   rw [e] at h
   have m:=w.ms _ (JV_ e)
   exact absurd h m.ne'
 ·cases e:look r.ms (j,i) with
  | none=>rw [e] at h;simp at h;lia
  | some q =>
   rw [e] at h
   have m:=w.ms _ (JV_ e)
   have:q=(i,j):=by
    simp only [Option.getD_some,Prod.mk.injEq] at h
    exact Prod.ext h.2 h.1
   exact absurd this m.ne'
theorem zbj_ {S:Type} (p:Nat×Nat) (k:D→D→M S):un2 (pD p) k=k (iN p.1) (iN p.2):=id rfl
theorem zaO_ (as bs:List D):fZip [.tuple as,.tuple bs]=some (zipD as bs):=id rfl
end L4
set_option Elab.async false
set_option linter.all false
set_option maxRecDepth 100000
namespace L4
open PySem PySem.Spec PyProof.Rows L2 L3
noncomputable def tab (n:Nat) (f:Nat→Nat):List Nat:=(List.range n).map f
noncomputable abbrev tabD (n:Nat) (f:Nat→Nat):List D:=(tab n f).map iN
noncomputable def up (f:Nat→Nat) (i v:Nat):Nat→Nat:=fun r=>if r=i then v else f r
theorem Vo_ (a:Nat) (h:1≤a):uM_ (iN a) (.int 1)=some (iN (a - 1)):=by
 show some (PyData.int ((a:Int) - 1))=some (PyData.int ((a - 1:Nat):Int))
 congr 2
 lia
theorem subN (a b:Nat) (h:b≤a):uM_ (iN a) (iN b)=some (iN (a - b)):=by
 show some (PyData.int ((a:Int) - b))=some (PyData.int ((a - b:Nat):Int))
 congr 2
 lia
noncomputable def cnt (hs:List Nat) (r:Nat):Nat:=hs.count r
noncomputable def canB (f:Nat→Nat) (m:Mt):Bool:=let w:=if m.1=m.2.1 then 2 else 1;decide (w≤f m.1)&&decide (w≤f m.2.1)
noncomputable def ledF (f:Nat→Nat) (m:Mt):Nat→Nat :=
 let f1:=up f m.1 (f m.1 - 1)
 let f2:=up f1 m.2.1 (f1 m.2.1 - 1)
 let f3:=up f2 m.2.2.1 (f2 m.2.2.1+1)
 up f3 m.2.2.2 (f3 m.2.2.2+1)
end L4
set_option Elab.async false
set_option linter.all false
set_option maxRecDepth 100000
namespace L4
open PySem PySem.Spec PyProof.Rows L2 L3
noncomputable def zeb_ (bs:List Bool):D:=if bs.all id then .str "yes" else if bs.any id then .str "both" else .str "no"
theorem inN (k:Nat) (l:List Nat):opIn (iN k) (.list (l.map iN))=some (decide (k∈l)):=by
 have h1:PyData.canLayAll0 (l.map iN)=true:=V4_ fun d hd=>by
  obtain ⟨x,_,rfl⟩:=List.mem_map.mp hd
  simp [iN,PyData.canLay0]
 have hi:inOk (iN k) (l.map iN)=true:=by
  unfold inOk
  simp [h1,PyData.canLay0,PyData.depth]
 rw [show opIn (iN k) (.list (l.map iN))=if inOk (iN k) (l.map iN) then some ((l.map iN).any fun y=>PyData.eqv y (iN k)) else none from rfl,if_pos hi]
 congr 1
 rw [Bool.eq_iff_iff,List.any_eq_true,decide_eq_true_eq]
 constructor
 ·rintro ⟨d,hd,e⟩
  obtain ⟨x,hx,rfl⟩:=List.mem_map.mp hd
  simp only [iN,PyData.eqv,Xc_,decide_eq_true_eq] at e
  rw [←e];exact hx
 ·intro h
  exact ⟨iN k,List.mem_map.mpr ⟨k,h,rfl⟩,by simp [iN,PyData.eqv]⟩
theorem yH_ {α β:Type} (p:α→Bool) (g:α→β):∀ l:List α,(l.filterMap fun k=>if p k=true then some (g k) else none)=(l.filter p).map g
 | []=>rfl
 | a::r=>by
  rw [List.filterMap_cons,List.filter_cons,yH_ p g r]
  cases p a<;>rfl
end L4
set_option Elab.async false
set_option linter.all false
set_option maxRecDepth 100000
namespace L4
open PySem PySem.Spec PyProof.Rows L2 L3
noncomputable def zdZ_ (l:List (Nat×Nat)):List Nat:=l.flatMap fun p=>List.replicate p.2 p.1
noncomputable def zej_ (f:Nat→Nat) (ms:List Mt):List Nat:=(ms.zipIdx.filter fun p=>canB f p.1).map (·.2)
noncomputable def zed_ (r:Rl) (hs:List Nat) (i j:Nat):List Nat:=(hs.set i (turn r.ms (hs.getD i 0) (hs.getD j 0)).1).set j (turn r.ms (hs.getD i 0) (hs.getD j 0)).2
noncomputable def cdOf (r q:Rl) (i j:Nat):Nat×Nat:=((turn r.ms (i / q.n) (j / q.n)).1*q.n+(turn q.ms (i % q.n) (j % q.n)).1,(turn r.ms (i / q.n) (j / q.n)).2*q.n+(turn q.ms (i % q.n) (j % q.n)).2)
noncomputable def cell (r q:Rl) (i j:Nat):List Mt:=if cdOf r q i j=(i,j) then [] else [(i,j,cdOf r q i j)]
noncomputable def Z4_ (r q:Rl) (i:Nat):List Mt:=(rng i (r.n*q.n)).flatMap (cell r q i)
noncomputable def Jk_ (r q:Rl):List Mt:=(List.range (r.n*q.n)).flatMap (Z4_ r q)
theorem Qs_ (r q:Rl) (i j:Nat):(cell r q i j).length≤1:=by unfold cell;split<;>simp
theorem zac_ (r q:Rl) (i:Nat):(Z4_ r q i).length≤r.n*q.n:=by
 have:=jG_ (Qs_ r q i) (rng i (r.n*q.n))
 rw [jw_] at this
 unfold Z4_
 omega
structure Two (r q:Rl):Prop where
 wr:Wf r
 wq:Wf q
 rn:r.n≤40
 qn:q.n≤40
 R:r.n*q.n≤40
 st:r.st.length=q.st.length
 s4:q.st.length≤4
theorem Two.at {r q:Rl} (h:Two r q) {i:Nat} (hi:i<r.n*q.n):i / q.n<r.n∧i % q.n<q.n:=by
 have:=h.wq.n1
 exact ⟨Nat.div_lt_of_lt_mul (by rw [Nat.mul_comm];exact hi),Nat.mod_lt _ (by lia)⟩
noncomputable def zbt_ (both a b:Bool):Bool:=if both then a&&b else a||b
noncomputable def Y1_ (r q:Rl) (both:Bool) (p:Nat):Bool:=zbt_ both (r.sy.getD (p / q.n) false) (q.sy.getD (p % q.n) false)
noncomputable def ue_ (r q:Rl):List Nat:=(List.range r.st.length).map fun k=>r.st.getD k 0*q.n+q.st.getD k 0
noncomputable def side (r q:Rl) (both:Bool):Rl:=⟨r.n*q.n,ue_ r q,Jk_ r q,(List.range (r.n*q.n)).map (Y1_ r q both)⟩
noncomputable def ux_ (both:Bool):D:=if both then .str "both" else .str "either"
theorem X3_ (both:Bool):opEq (ux_ both) (.str "both")=some both:=by
 cases both<;>decide +kernel
theorem Xd_ {r q:Rl} {m:Mt} (h:m∈Jk_ r q):m.1≤m.2.1∧m.2.1<r.n*q.n∧m.2.2=cdOf r q m.1 m.2.1∧cdOf r q m.1 m.2.1≠(m.1,m.2.1):=by
 unfold Jk_ Z4_ at h
 obtain ⟨i,hi,h⟩:=List.mem_flatMap.mp h
 obtain ⟨j,hj,h⟩:=List.mem_flatMap.mp h
 have hj:=mem_rng.mp hj
 unfold cell at h
 split at h
 ·cases h
 ·rename_i ne
  rw [List.mem_singleton.mp h]
  exact ⟨hj.1,hj.2,rfl,ne⟩
theorem J4_ {r q:Rl} {i j:Nat} {m:Mt} (h:m∈cell r q i j):m.1=i∧m.2.1=j:=by
 unfold cell at h
 split at h
 ·cases h
 ·rw [List.mem_singleton.mp h];exact ⟨rfl,rfl⟩
theorem Yk_ (r q:Rl):(Jk_ r q).Pairwise fun m m'=>plt (m.1,m.2.1) (m'.1,m'.2.1):=by
 unfold Jk_
 rw [List.pairwise_flatMap]
 refine ⟨fun i _=>?_,?_⟩
 ·unfold Z4_
  rw [List.pairwise_flatMap]
  refine ⟨fun j _=>?_,?_⟩
  ·unfold cell;split
   ·exact .nil
   ·exact List.pairwise_singleton _ _
  ·refine (y0_ _ _).imp fun {a b} hab x hx y hy=>?_
   obtain ⟨x1,x2⟩:=J4_ hx
   obtain ⟨y1,y2⟩:=J4_ hy
   rw [x1,x2,y1,y2]
   exact .inr ⟨rfl,hab⟩
 ·refine List.pairwise_lt_range.imp fun {a b} hab x hx y hy=>?_
  unfold Z4_ at hx hy
  obtain ⟨i,_,hx⟩:=List.mem_flatMap.mp hx
  obtain ⟨j,_,hy⟩:=List.mem_flatMap.mp hy
  obtain ⟨x1,x2⟩:=J4_ hx
  obtain ⟨y1,y2⟩:=J4_ hy
  rw [x1,y1]
  exact .inl hab
section
variable {r q:Rl} (h:Two r q)
include h
theorem Two.turns {i j:Nat} (hi:i<r.n*q.n) (hj:j<r.n*q.n):(turn r.ms (i / q.n) (j / q.n)).1<r.n∧(turn r.ms (i / q.n) (j / q.n)).2<r.n∧(turn q.ms (i % q.n) (j % q.n)).1<q.n∧(turn q.ms (i % q.n) (j % q.n)).2<q.n:=by
 obtain ⟨a1,a2⟩:=h.at hi
 obtain ⟨b1,b2⟩:=h.at hj
 obtain ⟨t1,t2⟩:=Vl_ h.wr a1 b1
 obtain ⟨t3,t4⟩:=Vl_ h.wq a2 b2
 exact ⟨t1,t2,t3,t4⟩
theorem X9_ (both:Bool):Wf (side r q both):=by
 have r1:=h.wr.n1
 have q1:=h.wq.n1
 refine ⟨Nat.mul_pos r1 q1,fun s hs=>?_,by simp [side],fun m hm=>?_,Yk_ r q⟩
 ·obtain ⟨k,hk,rfl⟩:=List.mem_map.mp hs
  have hk:=List.mem_range.mp hk
  exact yg_ (Wh_ h.wr.st hk) (Wh_ h.wq.st (by have:=h.st;lia))
 ·obtain ⟨h1,h2,h3,h4⟩:=Xd_ hm
  obtain ⟨t1,t2,t3,t4⟩:=h.turns (i:=m.1) (j:=m.2.1) (by lia) h2
  refine ⟨h1,h2,?_,?_,by rw [h3];exact h4,fun z=>h4 ?_⟩
  ·rw [h3];exact yg_ t1 t3
  ·rw [h3];exact yg_ t2 t4
  ·rw [h3] at z
   unfold cdOf at z
   injection z with z1 z2
   obtain ⟨a1,a2⟩:=(Y0_ t3).mp z1
   obtain ⟨b1,b2⟩:=(Y0_ t4).mp z2
   have e1:=Uj_ h.wr (i:=m.1 / q.n) (j:=m.2.1 / q.n) (Prod.ext a1 b1)
   have e2:=Uj_ h.wq (i:=m.1 % q.n) (j:=m.2.1 % q.n) (Prod.ext a2 b2)
   have e:m.1=m.2.1:=by
    rw [←Nat.div_add_mod m.1 q.n,←Nat.div_add_mod m.2.1 q.n,e1,e2]
   rw [←h3]
   have:m.2.2=(m.2.1,m.1):=by
    rw [h3]
    exact Prod.ext z1 z2
   rw [this,←e]
theorem QI_:ue_ r q=(r.st.zip q.st).map fun p=>p.1*q.n+p.2:=by
 unfold ue_
 apply List.ext_getElem
 ·simp [h.st]
 ·intro k h1 h2
  simp only [List.length_map,List.length_range] at h1
  have h3:k<q.st.length:=by have:=h.st;lia
  simp [List.getD_eq_getElem?_getD,List.getElem?_eq_getElem h1,List.getElem?_eq_getElem h3]
end
end L4
set_option Elab.async false
set_option linter.all false
set_option maxRecDepth 100000
namespace L4
open PySem PySem.Spec PyProof.Rows L2 L3
inductive Qs where
 | least (s:List Nat) (n:Nat)
 | more (a b:List Nat)
 | rest (s:List Nat) (m r:Nat)
 | neg (q:Qs)
 | two (w:Bool) (p q:Qs)
noncomputable def Qs.d:Qs→D
 | .least s n=>.tuple [.str "least",.tuple (s.map iN),iN n]
 | .more a b=>.tuple [.str "more",.tuple (a.map iN),.tuple (b.map iN)]
 | .rest s m r=>.tuple [.str "rest",.tuple (s.map iN),iN m,iN r]
 | .neg q=>.tuple [.str "not",q.d]
 | .two w p q=>.tuple [ux_ w,p.d,q.d]
noncomputable def Qs.ok:Qs→Prop
 | .least s n=>1≤n∧n≤9
 | .more a b=>∀ x∈a,x∉b
 | .rest s m r=>2≤m∧m≤9∧r<m
 | .neg q=>q.ok
 | .two _ p q=>p.ok∧q.ok
noncomputable def Qs.rooms:Qs→Nat
 | .least _ n=>n+1
 | .more _ _=>4
 | .rest _ m _=>m+2
 | .neg q=>q.rooms
 | .two _ p q=>p.rooms*q.rooms
noncomputable def Qs.dep:Qs→Nat
 | .neg q=>q.dep+1
 | .two _ p q=>max p.dep q.dep+1
 | _=>1
noncomputable def zE_ (n a b:Nat):List Mt:=if 0<a then [if a+b<n then (a,b,0,a+b) else (a,b,n,n)] else []
noncomputable def jp_ (n a:Nat):List Mt:=(rng a n).flatMap (zE_ n a)++[(a,n,n,n)]
noncomputable def zaG_ (n:Nat):List Mt:=(List.range n).flatMap (jp_ n)
noncomputable def wd (m r x:Nat):Nat:=if x=r then m+1 else m
noncomputable def jC_ (m r a b:Nat):List Mt:=[(a,b,(a+b) % m,wd m r ((a+b) % m))]
noncomputable def Zy_ (m r a:Nat):Mt:=(a,if a=r then m else m+1,a,wd m r a)
noncomputable def jW_ (m r a:Nat):List Mt:=(rng a m).flatMap (jC_ m r a)++[Zy_ m r a]
noncomputable def zbz_ (m r:Nat):List Mt:=(List.range m).flatMap (jW_ m r)
noncomputable def stOf (s:List Nat) (k:Nat):List Nat:=(List.range k).map fun x=>if x∈s then 1 else 0
noncomputable def mk:Qs→Nat→Rl
 | .least s n,k=>⟨n+1,stOf s k,zaG_ n,(List.range (n+1)).map fun x=>decide (x=n)⟩
 | .more a b,k=>⟨4,(List.range k).map fun x=>if x∈a then 0 else if x∈b then 1 else 3,[(0,1,2,3),(0,3,0,2),(1,2,1,3),(2,3,3,3)],[true,false,true,false]⟩
 | .rest s m r,k=>⟨m+2,stOf s k,zbz_ m r,(List.range (m+2)).map fun x=>decide (x=r)||decide (x=m+1)⟩
 | .neg q,k=>⟨(mk q k).n,(mk q k).st,(mk q k).ms,(mk q k).sy.map (!·)⟩
 | .two w p q,k=>side (mk p k) (mk q k) w
theorem mk_n:∀ (q:Qs) (k:Nat),(mk q k).n=q.rooms
 | .least _ _,_=>rfl
 | .more _ _,_=>rfl
 | .rest _ _ _,_=>rfl
 | .neg q,k=>mk_n q k
 | .two _ p q,k=>by
  show (mk p k).n*(mk q k).n=_
  rw [mk_n p k,mk_n q k];rfl
theorem V1_:∀ (q:Qs) (k:Nat),(mk q k).st.length=k
 | .least _ _,_=>by simp [mk,stOf]
 | .more _ _,_=>by simp [mk]
 | .rest _ _ _,_=>by simp [mk,stOf]
 | .neg q,k=>V1_ q k
 | .two _ p q,k=>by
  show (ue_ (mk p k) (mk q k)).length=_
  unfold ue_
  rw [List.length_map,List.length_range,V1_ p k]
theorem zZ_:∀ {q:Qs},1≤q.rooms
 | .least _ _=>by simp [Qs.rooms]
 | .more _ _=>by simp [Qs.rooms]
 | .rest _ _ _=>by simp [Qs.rooms]
 | .neg q=>zZ_ (q:=q)
 | .two _ p q=>Nat.mul_pos (zZ_ (q:=p)) (zZ_ (q:=q))
theorem yf_ {n a:Nat} {p q:List Nat} (h:List.range n=p++a::q):p=List.range a∧a<n:=by
 have hl:p.length<n:=by have:=congrArg List.length h;simp at this;lia
 have hp:∀ i,i<p.length→p[i]? = some i:=fun i hi=>by
  have:=List.getElem?_append_left (l₂:=a::q) hi
  rw [←h,List.getElem?_range (by lia)] at this
  exact this.symm
 have ha:a=p.length:=by
  have e:(p++a::q)[p.length]? = some a:=by rw [List.getElem?_append_right (Nat.le_refl _),Nat.sub_self];rfl
  rw [←h,List.getElem?_range hl] at e
  cases e;rfl
 refine ⟨?_,by lia⟩
 apply List.ext_getElem?
 intro i
 by_cases hi:i<p.length
 ·rw [hp i hi,List.getElem?_range (by lia)]
 ·rw [List.getElem?_eq_none (by lia),List.getElem?_eq_none (by rw [List.length_range];lia)]
theorem Y2_ {lo hi b:Nat} {p q:List Nat} (h:rng lo hi=p++b::q):p=rng lo b∧lo≤b∧b<hi:=by
 unfold rng at h
 have hm:b∈rng lo hi:=by unfold rng;rw [h];simp
 have hb:=mem_rng.mp hm
 obtain ⟨p',q0,e1,e2,e3⟩:=List.map_eq_append_iff.mp h
 obtain ⟨a,q',e4,e5,e6⟩:=List.map_eq_cons_iff.mp e3
 rw [e4] at e1
 obtain ⟨e7,e8⟩:=yf_ e1
 refine ⟨?_,hb⟩
 rw [←e2,e7]
 unfold rng
 rw [show b - lo=a by lia]
theorem zdf_ {lo hi:Nat} (h:lo≤hi):rng lo (hi+1)=rng lo hi++[hi]:=by
 unfold rng
 rw [show hi+1 - lo=(hi - lo)+1 by lia,List.range_succ,List.map_append]
 simp
 lia
theorem zdg_ (a:Nat):rng a a=[]:=by unfold rng;simp
theorem y3_ {n a b:Nat} {m:Mt} (h:m∈zE_ n a b):m.1=a∧m.2.1=b:=by
 unfold zE_ at h
 split at h
 ·rw [List.mem_singleton.mp h];split<;>exact ⟨rfl,rfl⟩
 ·cases h
theorem Yy_ {n a:Nat} {m:Mt} (h:m∈jp_ n a):m.1=a∧m.2.1≤n:=by
 unfold jp_ at h
 rcases List.mem_append.mp h with h|h
 ·obtain ⟨b,hb,h⟩:=List.mem_flatMap.mp h
  have:=mem_rng.mp hb
  obtain ⟨e1,e2⟩:=y3_ h
  exact ⟨e1,by lia⟩
 ·rw [List.mem_singleton.mp h];exact ⟨rfl,Nat.le_refl _⟩
theorem QL_ {m r a:Nat} {x:Mt} (h:x∈jW_ m r a):x.1=a∧x.2.1≤m+1:=by
 unfold jW_ at h
 rcases List.mem_append.mp h with h|h
 ·obtain ⟨b,hb,h⟩:=List.mem_flatMap.mp h
  have:=mem_rng.mp hb
  rw [List.mem_singleton.mp h];exact ⟨rfl,by dsimp only;lia⟩
 ·rw [List.mem_singleton.mp h]
  unfold Zy_
  exact ⟨rfl,by dsimp only;split<;>lia⟩
theorem Zx_ {n:Nat} {f:Nat→List Mt} (h1:∀ a,a<n→(f a).Pairwise fun m m'=>plt (m.1,m.2.1) (m'.1,m'.2.1)) (h2:∀ a,∀ m∈f a,m.1=a):((List.range n).flatMap f).Pairwise fun m m'=>plt (m.1,m.2.1) (m'.1,m'.2.1):=by
 rw [List.pairwise_flatMap]
 refine ⟨fun a ha=>h1 a (List.mem_range.mp ha),List.pairwise_lt_range.imp fun {a b} hab x hx y hy=>?_⟩
 rw [h2 a x hx,h2 b y hy]
 exact .inl hab
theorem Jl_ {lo hi a:Nat} {c:Nat→List Mt} {e:Mt} (hc:∀ b,(c b).length≤1) (h2:∀ b,∀ m∈c b,m.1=a∧m.2.1=b) (he:e.1=a∧hi≤e.2.1):((rng lo hi).flatMap c++[e]).Pairwise fun m m'=>plt (m.1,m.2.1) (m'.1,m'.2.1):=by
 rw [List.pairwise_append]
 refine ⟨?_,List.pairwise_singleton _ _,fun x hx y hy=>?_⟩
 ·rw [List.pairwise_flatMap]
  refine ⟨fun b _=>?_,(y0_ _ _).imp fun {x y} hxy m hm m' hm'=>?_⟩
  ·match hcb:c b,hc b with
   | [],_=>exact .nil
   | [_],_=>exact List.pairwise_singleton _ _
   | _::_::_,hl=>simp at hl
  ·obtain ⟨e1,e2⟩:=h2 x m hm
   obtain ⟨e3,e4⟩:=h2 y m' hm'
   rw [e1,e2,e3,e4]
   exact .inr ⟨rfl,hxy⟩
 ·obtain ⟨b,hb,hx⟩:=List.mem_flatMap.mp hx
  obtain ⟨e1,e2⟩:=h2 b x hx
  have:=mem_rng.mp hb
  rw [List.mem_singleton.mp hy,e1,e2]
  exact .inr ⟨he.1.symm,by dsimp only;lia⟩
theorem Xf_ {s:List Nat} {n k:Nat} (h1:1≤n):Wf (mk (.least s n) k):=by
 refine ⟨by show 1≤n+1;lia,fun x hx=>?_,by simp [mk],fun m hm=>?_,?_⟩
 ·obtain ⟨y,_,rfl⟩:=List.mem_map.mp hx
  show _<n+1
  split<;>lia
 ·obtain ⟨a,ha,hm⟩:=List.mem_flatMap.mp hm
  have ha:=List.mem_range.mp ha
  unfold jp_ at hm
  rcases List.mem_append.mp hm with hm|hm
  ·obtain ⟨b,hb,hm⟩:=List.mem_flatMap.mp hm
   have hb:=mem_rng.mp hb
   unfold zE_ at hm
   split at hm
   ·rw [List.mem_singleton.mp hm]
    split
    ·exact ⟨hb.1,by show b<n+1;lia,by show 0<n+1;lia,by show a+b<n+1;lia,by simp;lia,by simp;lia⟩
    ·exact ⟨hb.1,by show b<n+1;lia,by show n<n+1;lia,by show n<n+1;lia,by simp;lia,by simp;lia⟩
   ·cases hm
  ·rw [List.mem_singleton.mp hm]
   exact ⟨by show a≤n;lia,by show n<n+1;lia,by show n<n+1;lia,by show n<n+1;lia,by simp;lia,by simp;lia⟩
 ·refine Zx_ (fun a ha=>Jl_ (fun b=>?_) (fun b m hm=>y3_ hm) ⟨rfl,Nat.le_refl _⟩) fun a m hm=>(Yy_ hm).1
  unfold zE_;split<;>simp
theorem zad_ {s:List Nat} {m r k:Nat} (h1:2≤m) (hr:r<m):Wf (mk (.rest s m r) k):=by
 refine ⟨by show 1≤m+2;lia,fun x hx=>?_,by simp [mk],fun x hx=>?_,?_⟩
 ·obtain ⟨y,_,rfl⟩:=List.mem_map.mp hx
  show _<m+2
  split<;>lia
 ·obtain ⟨a,ha,hx⟩:=List.mem_flatMap.mp hx
  have ha:=List.mem_range.mp ha
  have hw:∀ y,m≤wd m r y∧wd m r y<m+2:=fun y=>by unfold wd;split<;>lia
  unfold jW_ at hx
  rcases List.mem_append.mp hx with hx|hx
  ·obtain ⟨b,hb,hx⟩:=List.mem_flatMap.mp hx
   have hb:=mem_rng.mp hb
   rw [List.mem_singleton.mp hx]
   have:=hw ((a+b) % m)
   have h3:=Nat.mod_lt (a+b) (show 0<m by lia)
   exact ⟨hb.1,by show b<m+2;lia,by show (a+b) % m<m+2;lia,this.2,by simp;lia,by simp;lia⟩
  ·rw [List.mem_singleton.mp hx]
   have:=hw a
   unfold Zy_
   refine ⟨by dsimp only;split<;>lia,by show (if a=r then m else m+1)<m+2;split<;>lia,by show a<m+2;lia,this.2,?_,?_⟩
   ·simp only [ne_eq,Prod.mk.injEq,not_and]
    intro _
    unfold wd
    split<;>lia
   ·simp only [ne_eq,Prod.mk.injEq,not_and]
    intro z
    split at z<;>lia
 ·refine Zx_ (fun a ha=>Jl_ (fun b=>by simp [jC_]) (fun b x hx=>by rw [List.mem_singleton.mp hx];exact ⟨rfl,rfl⟩) ⟨rfl,by unfold Zy_;dsimp only;split<;>lia⟩) fun a x hx=>(QL_ hx).1
theorem zaD_ {a b:List Nat} {k:Nat}:Wf (mk (.more a b) k):=by
 refine ⟨by show 1≤4;lia,fun x hx=>?_,rfl,fun m hm=>?_,by show List.Pairwise _ [_,_,_,_];simp [plt]⟩
 ·obtain ⟨y,_,rfl⟩:=List.mem_map.mp hx
  show _<4
  split
  ·lia
  ·split<;>lia
 ·have hm':m∈[((0:Nat),(1:Nat),(2:Nat),(3:Nat)),(0,3,0,2),(1,2,1,3),(2,3,3,3)]:=hm
  simp only [List.mem_cons,List.mem_nil_iff,or_false] at hm'
  rcases hm' with rfl|rfl|rfl|rfl<;>exact ⟨by decide,by show _<4;decide,by show _<4;decide,by show _<4;decide,by decide,by decide⟩
theorem XN_ {p q:Qs} {k:Nat} (hk:k≤4) (wp:Wf (mk p k)) (wq:Wf (mk q k)) (hr:p.rooms*q.rooms≤40):Two (mk p k) (mk q k):=by
 have hp:=zZ_ (q:=p)
 have hq:=zZ_ (q:=q)
 refine ⟨wp,wq,?_,?_,?_,by rw [V1_,V1_],by rw [V1_];exact hk⟩
 ·rw [mk_n];exact Nat.le_trans (Nat.le_mul_of_pos_right _ hq) hr
 ·rw [mk_n];exact Nat.le_trans (Nat.le_mul_of_pos_left _ hp) hr
 ·rw [mk_n,mk_n];exact hr
theorem Yu_ {k:Nat} (hk:k≤4):∀ {q:Qs},q.ok→q.rooms≤40→Wf (mk q k)
 | .least s n,h,_=>Xf_ h.1
 | .more a b,_,_=>zaD_
 | .rest s m r,h,_=>zad_ h.1 h.2.2
 | .neg q,h,hr=>by
  have w:=Yu_ hk (q:=q) h hr
  exact ⟨w.n1,w.st,by show ((mk q k).sy.map _).length=_;rw [List.length_map];exact w.sy,w.ms,w.so⟩
 | .two w p q,h,hr=>by
  have hp:=zZ_ (q:=p)
  have hq:=zZ_ (q:=q)
  have hr':p.rooms*q.rooms≤40:=hr
  have wp:=Yu_ hk h.1 (Nat.le_trans (Nat.le_mul_of_pos_right _ hq) hr')
  have wq:=Yu_ hk h.2 (Nat.le_trans (Nat.le_mul_of_pos_left _ hp) hr')
  exact X9_ (XN_ hk wp wq hr') w
theorem zbi_ {r:Rl} (w:Wf r):r.ms.length≤r.n*r.n:=by
 have go:∀ (l:List Mt),(∀ m∈l,m.1<r.n∧m.2.1<r.n)→l.Pairwise (fun m m'=>plt (m.1,m.2.1) (m'.1,m'.2.1))→∀ (lo:Nat),(∀ m∈l,lo≤m.1*r.n+m.2.1)→lo+l.length≤r.n*r.n∨l=[]:=by
  intro l
  induction l with
  | nil=>intro _ _ _ _;exact .inr rfl
  | cons x l ih =>
   intro h1 h2 lo hlo
   rw [List.pairwise_cons] at h2
   have hx:=h1 x List.mem_cons_self
   have hx2:=hlo x List.mem_cons_self
   have hmax:x.1*r.n+x.2.1<r.n*r.n:=yg_ hx.1 hx.2
   rcases ih (fun m hm=>h1 m (List.mem_cons_of_mem _ hm)) h2.2 (x.1*r.n+x.2.1+1) (fun m hm=>by
    have p:=h2.1 m hm
    have hm':=h1 m (List.mem_cons_of_mem _ hm)
    rcases p with p|⟨p,p2⟩
    ·have:(x.1+1)*r.n≤m.1*r.n:=Nat.mul_le_mul_right _ p
     rw [Nat.succ_mul] at this
     dsimp only at *
     lia
    ·dsimp only at *
     rw [←p];lia) with h|h
   ·left;rw [List.length_cons];lia
   ·left;subst h;rw [List.length_cons,List.length_nil];lia
 rcases go r.ms (fun m hm=>by have:=w.ms m hm;exact ⟨Nat.lt_of_le_of_lt this.ab this.b,this.b⟩) w.so 0 (fun _ _=>Nat.zero_le _) with h|h
 ·lia
 ·rw [h];simp
theorem zdv_ {ms:List Mt} {m:Mt} (h:∀ x∈ms,plt (x.1,x.2.1) (m.1,m.2.1)) (hl:ms.length≤100000):dPut true (ms.map kvM) (pD (m.1,m.2.1)) (pD m.2.2)=some ((ms++[m]).map kvM):=by
 unfold dPut
 rw [show keyOf true (pD (m.1,m.2.1))=true from rfl,Bool.true_and,if_pos (by rw [List.length_map,decide_eq_true_eq];exact Nat.lt_of_le_of_lt hl (by decide)),Y5_,List.map_append]
 ·rfl
 ·intro x hx
  obtain ⟨m',hm',rfl⟩:=List.mem_map.mp hx
  rw [YA_,decide_eq_false_iff_not]
  intro z
  have:=h m' hm'
  rw [z] at this
  rcases this with h|⟨_,h⟩<;>lia
theorem zee_ {ms:List Mt} {m:Mt} (h:look ms (m.1,m.2.1)=some m.2.2):zt_ (.dict (ms.map kvM)) (pD (m.1,m.2.1))=some (pD m.2.2):=by
 show (if keyOk (ms.map kvM) (pD (m.1,m.2.1)) then getE (ms.map kvM) (pD (m.1,m.2.1)) else none)=_
 rw [if_pos (Qj_ _ _),YF_,h]
 rfl
end L4
set_option Elab.async false
set_option linter.all false
set_option maxRecDepth 100000
namespace K14
open PySem PySem.Spec PyProof.Rows L2 L3 L4
noncomputable def Fd (T:Nat) (f:List D):Prop:=∃ a b t:Int,f=[.int a,.int b,.int t]∧0≤t∧t≤T
theorem Fd.le {T T':Nat} {f:List D} (h:Fd T f) (hl:T≤T'):Fd T' f:=by
 obtain ⟨a,b,t,e,h0,h1⟩:=h
 exact ⟨a,b,t,e,h0,by lia⟩
theorem Qd_ {T:Nat} {f:List D} {m:Int} (h:Fd T f) (hT:T≤1000000) (hm:0<m) (hm2:m<1073741824) :
  ∃ (r:Int) (f':List D),zh_ f (.int m)=.ret (.int r,f')∧0≤r∧r<m∧Fd (T+1) f':=by
 obtain ⟨a,b,t,rfl,h0,h1⟩:=h
 unfold zh_
 simp only [Xk_]
 rw [L4.ix3_0,oMS,bdR,L4.gtI,oMS,bdR]
 by_cases ha:0<a
 ·simp only [ha,decide_true,if_true]
  simp only [oMS,bdR,L4.modI _ _ hm,L4.divI _ _ hm hm2,L4.put3_0]
  exact ⟨_,_,rfl,Int.emod_nonneg _ (by lia),Int.emod_lt_of_pos _ hm,_,_,_,rfl,h0,by lia⟩
 ·simp only [ha,decide_false]
  rw [if_neg (by decide)]
  simp only [oMS,bdR,L4.ix3_2,L4.ix3_1,L4.put3_2,L4.addI]
  rw [L4.mulL 41 _ (by decide) (by decide),L4.mulL (t+1) (t+1) (by lia) (by lia)]
  simp only [oMS,bdR,L4.addI]
  have tb:(t+1)*(t+1)≤1000001*1000001:=Int.mul_le_mul (by lia) (by lia) (by lia) (by lia)
  have tb0:0≤(t+1)*(t+1):=Int.mul_nonneg (by lia) (by lia)
  rw [L4.mulR _ ((t+1)*(t+1)+69621) (by lia) (by lia)]
  simp only [oMS,bdR]
  rw [L4.modI _ _ (by decide)]
  simp only [oMS,bdR]
  rw [L4.modI _ _ (by decide)]
  simp only [oMS,bdR,L4.addI]
  have g1:=Int.emod_nonneg ((b+41*(t+1)+3)*((t+1)*(t+1)+69621)) (b:=(998244353:Int)) (by decide)
  have g2:=Int.emod_lt_of_pos ((b+41*(t+1)+3)*((t+1)*(t+1)+69621)) (b:=(998244353:Int)) (by decide)
  rw [L4.mulL _ _ (by lia) (by lia)]
  simp only [oMS,bdR,L4.addI]
  rw [L4.modI _ _ (by decide)]
  simp only [oMS,bdR]
  rw [L4.divI _ _ (by decide) (by decide)]
  simp only [oMS,bdR]
  rw [L4.modI _ _ hm]
  exact ⟨_,_,rfl,Int.emod_nonneg _ (by lia),Int.emod_lt_of_pos _ hm,_,_,_,rfl,by lia,by lia⟩
theorem jh_ {T:Nat} {f:List D} {m:Nat} (h:Fd T f) (hT:T≤1000000) (hm:0<m) (hm2:m≤1000000000) :
  ∃ (r:Nat) (f':List D),zh_ f (.int (m:Int))=.ret (iN r,f')∧r<m∧Fd (T+1) f':=by
 obtain ⟨r,f',e,h1,h2,h3⟩:=Qd_ h hT (m:=(m:Int)) (by lia) (by lia)
 obtain ⟨n,rfl⟩:=Int.eq_ofNat_of_zero_le h1
 exact ⟨n,f',e,by lia,h3⟩
theorem zaN_ (ns:List Int) (k:Int) (hn:ns.length≤63):∃ f,uY_ (.list (ns.map PyData.int)) (.int k)=.ret f∧Fd 0 f:=by
 unfold uY_
 simp only [Xk_]
 have e1:fLen [.list (ns.map PyData.int)]=some (.int ns.length):=by rw [L4.lenL,List.length_map]
 have p18:VR_ (.int 10) (.int 18)=some (.int 1000000000000000000):=id rfl
 have tail:∀ c:Int,∃ f,(bd (bd (bd (oM (fAbs [.int c])) fun x6=>bd (oM (VR_ (.int 10) (.int 18))) fun x7=>oM (opGe x6 x7)) fun b8=>if b8 then oM (fAbs [.int c]) else .ret (.int 0)) fun x9=>bd (bd (bd (oM (uy_ (.int c) (.int 1000003))) fun x10=>bd (oM (z1_ (.int 7919) (.int k))) fun x11=>oM (zC_ x10 x11)) fun x12=>.ret [x9,x12,(.int 0)]) fun l13=>M.ret l13)=.ret f∧Fd 0 f:=fun c=>by
  have a1:fAbs [.int c]=some (.int (if c<0 then -c else c)):=id rfl
  simp only [a1,p18,oMS,bdR,L4.geI]
  rw [L4.modI _ _ (by decide),L4.mulL _ _ (by decide) (by decide)]
  simp only [oMS,bdR,L4.addI]
  generalize (if c<0 then -c else c)=A
  generalize decide ((1000000000000000000:Int)≤A)=B
  cases B
  ·exact ⟨_,rfl,_,_,_,rfl,Int.le_refl _,Int.le_refl _⟩
  ·exact ⟨_,rfl,_,_,_,rfl,Int.le_refl _,Int.le_refl _⟩
 simp only [e1,oMS,bdR,L4.gtI]
 by_cases h:0<(ns.length:Int)
 ·simp only [h,decide_true,if_true]
  rw [L4.modI _ _ h,oMS,bdR]
  have m1:=Int.emod_nonneg k (b:=(ns.length:Int)) (by lia)
  have m2:=Int.emod_lt_of_pos k h
  obtain ⟨x,hx,e⟩:=XX_ (ns.map PyData.int) (k % ns.length) m1 (by rw [List.length_map];exact m2)
  obtain ⟨i,hi,rfl⟩:=List.mem_map.mp hx
  have e2:opIx (.list (ns.map PyData.int)) (.int (k % ns.length))=some (.int i):=e
  rw [e2,oMS,bdR]
  exact tail i
 ·simp only [h,decide_false]
  rw [if_neg (by decide),bdR]
  exact tail 0
theorem XJ_ {T:Nat} {f:List D} {m:List D} (hm:0<m.length) (hm2:m.length<1000) (h:Fd T f) (hT:T≤1000000) :
  ∃ (x:D) (f':List D),uE_ f (.list m)=.ret (x,f')∧x∈m∧Fd (T+1) f':=by
 unfold uE_
 simp only [Xk_]
 obtain ⟨r,f',t1,t2,t3,t4⟩:=Qd_ h hT (m:=(m.length:Int)) (by lia) (by lia)
 obtain ⟨x,hx,e⟩:=XX_ m r t2 t3
 have e2:opIx (.list m) (.int r)=some x:=e
 rw [L4.lenL,oMS,bdR,t1,bdR]
 simp only [e2,oMS,bdR]
 exact ⟨x,f',rfl,hx,t4⟩
end K14
set_option Elab.async false
set_option linter.all false
set_option maxRecDepth 100000
namespace K14
open PySem PySem.Spec PyProof.Rows L2 L3 L4
theorem YY_ {r:Rl} (w:Wf r) (hl:r.ms.length≤100000):uC_ r.d=.ret (.dict (r.ms.map kvM)):=by
 unfold uC_
 rw [zI_,ixT2,oMS,bdR,seqT,oMS,bdR]
 refine (j4_ (e:=mD) (F:=fun pre=>(pre.map kvM,())) r.ms ?_).trans rfl
 intro p m q hpq kn
 dsimp only
 unfold yI_
 have e1:fCut (mD m) (some 2) none=some (pD m.2.2):=rfl
 have e2:fCut (mD m) none (some 2)=some (pD (m.1,m.2.1)):=rfl
 have a2:asI (.int 2)=.ret (some 2):=id rfl
 rw [a2,bdR,e1,oMS,bdR,bdR,e2,oMS,bdR]
 have hlen:p.length≤100000:=by rw [hpq] at hl;simp at hl;lia
 have e3:dPut true (p.map kvM) (pD (m.1,m.2.1)) (pD m.2.2)=some (p.map kvM++[kvM m]):=by
  unfold dPut
  rw [show keyOf true (pD (m.1,m.2.1))=true from rfl,Bool.true_and,if_pos (by rw [List.length_map,decide_eq_true_eq];exact Nat.lt_of_le_of_lt hlen (by decide)),Y5_]
  intro x hx
  obtain ⟨m',hm',rfl⟩:=List.mem_map.mp hx
  rw [YA_,decide_eq_false_iff_not]
  intro z
  have so:=w.so
  rw [hpq,List.pairwise_append] at so
  have:=so.2.2 m' hm' m List.mem_cons_self
  rw [z] at this
  rcases this with h|⟨_,h⟩<;>lia
 rw [e3,oMS,bdR,List.map_append]
 rfl
theorem JG_ (ms:List Mt) (i j:Nat):jH_ (.dict (ms.map kvM)) (iN i) (iN j)=.ret (pD (turn ms i j)):=by
 unfold jH_ turn
 rw [leA,oMS,bdR]
 by_cases h:i≤j
 ·have h':(i:Int)≤(j:Int):=by lia
  simp only [h,h',decide_true,if_true]
  rw [show (PyData.tuple [iN i,iN j])=pD (i,j) from rfl,Wn_,oMS,bdR]
 ·have h':¬ (i:Int)≤(j:Int):=by lia
  simp only [h,h',decide_false,if_false]
  rw [if_neg (by decide),show (PyData.tuple [iN j,iN i])=pD (j,i) from rfl,Wn_,oMS,bdR,zI_,zI_,ixT1,ixT0,oMS,bdR,oMS,bdR,bdR]
end K14
set_option Elab.async false
set_option linter.all false
set_option maxRecDepth 100000
namespace K14
open PySem PySem.Spec PyProof.Rows L2 L3 L4
section
variable {r q:Rl} (h:Two r q)
include h
theorem zat_ {i j:Nat} (hi:i<r.n*q.n) (hj:j<r.n*q.n) {ms:List Mt} (hl:ms.length≤90000) (kn7:D×D×D×D×List D×Unit→M D) (kn9:D×D×D×D×List D×D×Unit→M D) :
  jm_ kn7 (iN q.n) (iN (r.n*q.n)) (.dict (r.ms.map kvM)) (.dict (q.ms.map kvM)) (ms.map mD) (iN i) (iN j) kn9=kn9 (iN q.n,iN (r.n*q.n),PyData.dict (r.ms.map kvM),PyData.dict (q.ms.map kvM),(ms++cell r q i j).map mD,iN i,()):=by
 have q1:=h.wq.n1
 have qn:=h.qn
 have rn:=h.rn
 obtain ⟨t1,t2,t3,t4⟩:=h.turns hi hj
 unfold jm_
 simp only [divN _ _ (show 0<q.n by lia) (show q.n≤1000000 by lia),modN _ _ (show 0<q.n by lia),oMS,bdR,JG_,zI_,ixT0,ixT1]
 rw [mulN _ _ (by lia),mulN _ _ (by lia)]
 simp only [oMS,bdR,addN]
 rw [show (PyData.tuple [iN ((turn r.ms (i / q.n) (j / q.n)).1*q.n+(turn q.ms (i % q.n) (j % q.n)).1),iN ((turn r.ms (i / q.n) (j / q.n)).2*q.n+(turn q.ms (i % q.n) (j % q.n)).2)])=pD (cdOf r q i j) from rfl,
  show (PyData.tuple [iN i,iN j])=pD (i,j) from rfl,neP,oMS,bdR]
 unfold cell
 by_cases e:cdOf r q i j=(i,j)
 ·simp [e]
 ·rw [if_neg e]
  simp only [e,decide_false,Bool.not_false,if_true]
  rw [yK_ _ _ (by rw [List.length_map];lia),oMS,bdR,List.map_append]
  rfl
theorem Z5_ (hr:r.ms.length≤100000) (hq:q.ms.length≤100000):jR_ r.d q.d=.ret (.list ((Jk_ r q).map mD)):=by
 have hR:=h.R
 have qn:=h.qn
 have rn:=h.rn
 unfold jR_
 rw [zI_,ixT0,oMS,bdR,zI_,ixT0,oMS,bdR,mulN _ _ (by lia),oMS,bdR,YY_ h.wr hr,bdR,YY_ h.wq hq,bdR,jX_ _ (by lia),oMS,bdR]
 refine (j4_ (e:=iN) (F:=fun pre=>(iN q.n,iN (r.n*q.n),PyData.dict (r.ms.map kvM),PyData.dict (q.ms.map kvM),(pre.flatMap (Z4_ r q)).map mD,())) (List.range (r.n*q.n)) ?_).trans rfl
 intro p i t hpt kn
 have hi:i<r.n*q.n:=List.mem_range.mp (by rw [hpt];simp)
 have hpl:p.length≤40:=by
  have:=congrArg List.length hpt
  simp at this
  lia
 have hlp:(p.flatMap (Z4_ r q)).length≤40*40:=Nat.le_trans (jG_ (zac_ r q) p) (Nat.mul_le_mul hpl hR)
 dsimp only
 unfold uD_
 rw [Yn_ i _ (by lia) (by lia),oMS,bdR]
 have:=j4_ (S:=D) (step:=fun (s26:D×D×D×D×List D×D×Unit) d27 kn'=>jm_ kn s26.1 s26.2.1 s26.2.2.1 s26.2.2.2.1 s26.2.2.2.2.1 s26.2.2.2.2.2.1 d27 kn') (e:=iN)
  (F:=fun pre=>(iN q.n,iN (r.n*q.n),PyData.dict (r.ms.map kvM),PyData.dict (q.ms.map kvM),(p.flatMap (Z4_ r q)++pre.flatMap (cell r q i)).map mD,iN i,()))
  (k:=fun s26=>jM_ kn s26.1 s26.2.1 s26.2.2.1 s26.2.2.2.1 s26.2.2.2.2.1 s26.2.2.2.2.2.1) (rng i (r.n*q.n)) (by
   intro p' j t' hpt' kn'
   have hj:j<r.n*q.n:=(mem_rng.mp (by rw [hpt'];simp)).2
   have hpl':p'.length≤40:=by
    have:=congrArg List.length hpt'
    rw [jw_] at this
    simp at this
    lia
   have hlp':=jG_ (Qs_ r q i) p'
   dsimp only
   rw [zat_ h hi hj (by rw [List.length_append];lia),List.flatMap_append,←List.append_assoc]
   simp)
 simp only [List.flatMap_nil,List.append_nil] at this
 rw [this]
 unfold jM_
 rw [List.flatMap_append]
 simp [Z4_]
omit h in
theorem VJ_ (both a b:Bool):jo_ (.bool a) (.bool b) (ux_ both)=.ret (.bool (zbt_ both a b)):=by
 unfold jo_
 rw [X3_,oMS,bdR]
 cases both<;>cases a<;>cases b<;>rfl
theorem J7_:jA_ (fun d7=>un2 d7 fun y8 y9=>bd (bd (oM (z1_ y8 (iN q.n))) fun x10=>oM (zC_ x10 y9)) fun x11=>.ret (some x11)) (zipD (r.st.map iN) (q.st.map iN))=.ret ((ue_ r q).map iN):=by
 have rn:=h.rn
 rw [WM_,jT_ (e:=pD) (g:=fun p=>iN (p.1*q.n+p.2)) (r.st.zip q.st) (by
  intro p hp
  have hb:=h.wr.st _ (List.of_mem_zip hp).1
  rw [zbj_,mulN _ _ (by lia),oMS,bdR,addN,oMS,bdR]),QI_ h,List.map_map]
 rfl
theorem YN_ (both:Bool):jA_ (fun d15=>bd (bd (bd (oM (zt_ r.d (.int 3))) fun x16=>bd (oM (ZD_ d15 (iN q.n))) fun x17=>oM (zt_ x16 x17)) fun x18=>bd (bd (oM (zt_ q.d (.int 3))) fun x19=>bd (oM (uy_ d15 (iN q.n))) fun x20=>oM (zt_ x19 x20)) fun x21=>jo_ x18 x21 (ux_ both)) fun x22=>.ret (some x22)) ((List.range (r.n*q.n)).map iN)=.ret (((List.range (r.n*q.n)).map (Y1_ r q both)).map PyData.bool):=by
 have q1:=h.wq.n1
 have qn:=h.qn
 rw [jT_ (e:=iN) (g:=fun p=>.bool (Y1_ r q both p)) (List.range (r.n*q.n)) (by
  intro i hi
  have hi:=List.mem_range.mp hi
  obtain ⟨a1,a2⟩:=h.at hi
  simp only [zI_,ixT3,oMS,bdR]
  rw [divN _ _ (by lia) (by lia),modN _ _ (by lia)]
  simp only [oMS,bdR]
  rw [zcF_ PyData.bool r.sy _ false (by rw [h.wr.sy];exact a1),zcF_ PyData.bool q.sy _ false (by rw [h.wq.sy];exact a2)]
  simp only [oMS,bdR]
  rw [VJ_,bdR]
  rfl),List.map_map]
 rfl
theorem Yb_ (both:Bool) (hr:r.ms.length≤100000) (hq:q.ms.length≤100000):uX_ r.d q.d (ux_ both)=.ret (side r q both).d:=by
 have hR:=h.R
 have rn:=h.rn
 have s4:=h.s4
 have st:=h.st
 have hl:((ue_ r q).map iN).length≤1000:=by
  rw [List.length_map]
  unfold ue_
  rw [List.length_map,List.length_range]
  lia
 have hl2:(((List.range (r.n*q.n)).map (Y1_ r q both)).map PyData.bool).length≤1000:=by
  rw [List.length_map,List.length_map,List.length_range]
  lia
 have g40:opGt (iN (r.n*q.n)) (.int 40)=some false:=by
  rw [gtI,decide_eq_false (by lia)]
 unfold uX_
 rw [zI_,ixT0,oMS,bdR,zI_,ixT0,oMS,bdR,mulN _ _ (by lia),oMS,bdR,g40,oMS,bdR,if_neg (by decide)]
 rw [zI_,ixT1,oMS,bdR,zI_,ixT1,oMS,bdR,zaO_,oMS,bdR,J7_ h,bdR,j8_ hl,bdR,bdR,jX_ _ (by lia),oMS,bdR,YN_ h,bdR,j8_ hl2,bdR,bdR]
 rw [tupL,oMS,bdR,Z5_ h hr hq,bdR,tupL,oMS,bdR,tupL,oMS,bdR,bdR]
 rfl
end
end K14
set_option Elab.async false
set_option linter.all false
set_option maxRecDepth 100000
namespace K14
open PySem PySem.Spec PyProof.Rows L2 L3 L4
theorem inT (k:Nat) (l:List Nat):uN_ (iN k) (.tuple (l.map iN))=some (decide (k∈l)):=(show uN_ (iN k) (.tuple (l.map iN))=opIn (iN k) (.list (l.map iN)) from rfl).trans (inN k l)
theorem iteR {S:Type} (c:Bool) (a b:S):(if c=true then (M.ret a:M S) else .ret b)=.ret (if c=true then a else b):=by cases c<;>rfl
theorem Uo_ (s:List Nat) (k:Nat) (hk:k≤4):j9_ (.tuple (s.map iN)) (iN k)=.ret (.tuple ((stOf s k).map iN)):=by
 unfold j9_
 rw [jX_ _ (by lia),oMS,bdR]
 have cc:=jT_ (e:=iN) (g:=fun x=>iN (if x∈s then 1 else 0)) (step:=fun d1=>bd (bd (oM (uN_ d1 (.tuple (s.map iN)))) fun b2=>if b2 then .ret (.int 1) else .ret (.int 0)) fun x3=>.ret (some x3)) (List.range k) (fun i _=>by
  rw [inT,oMS,bdR]
  by_cases h:i∈s
  ·rw [decide_eq_true h,if_pos rfl,bdR,if_pos h];rfl
  ·rw [decide_eq_false h,if_neg (by decide),bdR,if_neg h];rfl)
 rw [cc,bdR,j8_ (by rw [List.length_map,List.length_range];lia),bdR,bdR,tupL,oMS,bdR]
 unfold stOf
 rw [List.map_map]
 rfl
theorem eqNN (a b:Nat):opEq (iN a) (iN b)=some (decide (a=b)):=eqN a b
theorem QK_ (n:Nat):jA_ (fun d3=>bd (bd (oM (opEq d3 (iN n))) fun b4=>.ret (.bool b4)) fun x5=>.ret (some x5)) ((List.range (n+1)).map iN)=.ret (((List.range (n+1)).map fun x=>decide (x=n)).map PyData.bool):=by
 rw [jT_ (e:=iN) (g:=fun x=>PyData.bool (decide (x=n))) (List.range (n+1)) (fun i _=>by rw [eqNN,oMS,bdR,bdR]),List.map_map]
 rfl
theorem JY_ (n a:Nat):(jp_ n a).length≤n+1:=by
 unfold jp_
 rw [List.length_append,List.length_singleton]
 have:=jG_ (g:=zE_ n a) (B:=1) (fun b=>by unfold zE_;split<;>simp) (rng a n)
 rw [jw_] at this
 lia
theorem UM_ (m r a:Nat):(jW_ m r a).length≤m+1:=by
 unfold jW_
 rw [List.length_append,List.length_singleton]
 have:=jG_ (g:=jC_ m r a) (B:=1) (fun b=>by simp [jC_]) (rng a m)
 rw [jw_] at this
 lia
theorem Qf_ {n a:Nat} {f:Nat→List Mt} (h:∀ x,(f x).length≤n+1) (ha:a≤n) (hn:n≤9):((List.range a).flatMap f).length≤1000:=by
 have:=jG_ h (List.range a)
 rw [List.length_range] at this
 have h2:a*(n+1)≤30*31:=Nat.mul_le_mul (by lia) (by lia)
 lia
theorem Xg_ (s:List Nat) (n k:Nat) (h1:1≤n) (hn:n≤9) (hk:k≤4):uo_ (.tuple (s.map iN)) (iN n) (iN k)=.ret (mk (.least s n) k).d:=by
 unfold uo_
 rw [jX_ _ (by lia),oMS,bdR]
 refine (j4_ (e:=iN) (F:=fun pre=>(PyData.tuple (s.map iN),iN n,iN k,(pre.flatMap (jp_ n)).map mD,())) (List.range n) ?_).trans ?_
 ·intro p a q hpq kn
  obtain ⟨rfl,ha⟩:=yf_ hpq
  dsimp only
  unfold ya_
  rw [Yn_ a n (by lia) (by lia),oMS,bdR]
  have lr:=Qf_ (f:=jp_ n) (JY_ n) (Nat.le_of_lt ha) hn
  have z:(List.range a).flatMap (jp_ n)=(List.range a).flatMap (jp_ n)++([]:List Nat).flatMap (zE_ n a):=by simp
  rw [z]
  refine (j4_ (e:=iN) (F:=fun pre=>(PyData.tuple (s.map iN),iN n,iN k,((List.range a).flatMap (jp_ n)++pre.flatMap (zE_ n a)).map mD,iN a,())) (k:=fun s24=>ub_ kn s24.1 s24.2.1 s24.2.2.1 s24.2.2.2.1 s24.2.2.2.2.1) (rng a n) ?_).trans ?_
  ·intro p' b q' hpq' kn'
   obtain ⟨rfl,hb1,hb2⟩:=Y2_ hpq'
   dsimp only
   unfold u9_
   rw [gtI,oMS,bdR,List.flatMap_append]
   have lc:=jG_ (g:=zE_ n a) (B:=1) (fun b=>by unfold zE_;split<;>simp) (rng a b)
   rw [jw_] at lc
   by_cases h0:0<a
   ·rw [if_pos (by simp;lia),addN,oMS,bdR,ltA,oMS,bdR]
    have e:(rng a b).flatMap (zE_ n a)++[b].flatMap (zE_ n a)=(rng a b).flatMap (zE_ n a)++[if a+b<n then (a,b,0,a+b) else (a,b,n,n)]:=by
     simp [zE_,h0]
    rw [e]
    by_cases h2:a+b<n
    ·rw [if_pos (by simp;lia),bdR,bdR,yK_ _ _ (by rw [List.length_map,List.length_append];lia),oMS,bdR,if_pos h2,←List.append_assoc]
     simp [List.map_append]
     rfl
    ·rw [if_neg (by simp;lia),bdR,yK_ _ _ (by rw [List.length_map,List.length_append];lia),oMS,bdR,if_neg h2,←List.append_assoc]
     simp [List.map_append]
   ·rw [if_neg (by simp;lia)]
    have e:[b].flatMap (zE_ n a)=[]:=by simp [zE_,h0]
    rw [e,List.append_nil]
  ·dsimp only
   unfold ub_
   have lc:=jG_ (g:=zE_ n a) (B:=1) (fun b=>by unfold zE_;split<;>simp) (rng a n)
   rw [jw_] at lc
   rw [yK_ _ _ (by rw [List.length_map,List.length_append];lia),oMS,bdR,List.flatMap_append]
   congr 4
   rw [List.flatMap_singleton]
   unfold jp_
   rw [←List.append_assoc]
   simp [List.map_append]
 ·dsimp only
  unfold yb_
  have a1:zC_ (iN n) (.int 1)=some (iN (n+1)):=addN n 1
  rw [a1,oMS,bdR,jX_ _ (by lia),oMS,bdR,QK_,bdR,j8_ (by rw [List.length_map,List.length_map,List.length_range];lia),bdR,bdR,bdR,Uo_ s k hk,bdR,tupL,oMS,bdR,tupL,oMS,bdR,bdR]
  rfl
theorem zaE_ (a b:List Nat) (k:Nat) (hk:k≤4):uW_ (.tuple (a.map iN)) (.tuple (b.map iN)) (iN k)=.ret (mk (.more a b) k).d:=by
 unfold uW_
 rw [jX_ _ (by lia),oMS,bdR]
 refine (j4_ (e:=iN) (F:=fun pre=>(PyData.tuple (a.map iN),PyData.tuple (b.map iN),(pre.map fun x=>if x∈a then 0 else if x∈b then 1 else 3).map iN,())) (List.range k) ?_).trans ?_
 ·intro p x q hpq kn
  obtain ⟨rfl,hx⟩:=yf_ hpq
  dsimp only
  unfold yp_
  rw [inT,oMS,bdR,List.map_append,List.map_append]
  have hl:(((List.range x).map fun x=>if x∈a then 0 else if x∈b then 1 else 3).map iN).length≤100000:=by rw [List.length_map,List.length_map,List.length_range];lia
  by_cases h:x∈a
  ·rw [decide_eq_true h,if_pos rfl,yK_ _ _ hl,oMS,bdR]
   simp [h]
   rfl
  ·rw [decide_eq_false h,if_neg (by decide),inT,oMS,bdR]
   by_cases h2:x∈b
   ·rw [decide_eq_true h2,if_pos rfl,bdR,yK_ _ _ hl,oMS,bdR]
    simp [h,h2]
    rfl
   ·rw [decide_eq_false h2,if_neg (by decide),bdR,yK_ _ _ hl,oMS,bdR]
    simp [h,h2]
    rfl
 ·dsimp only
  unfold yq_
  rw [tupL,oMS,bdR,bdR]
  rfl
theorem WN_ (m r:Nat) (hm:m≤9):jA_ (fun d1=>bd (bd (oM (opEq d1 (iN r))) fun b2=>if b2 then oM (zC_ (iN m) (.int 1)) else .ret (iN m)) fun x3=>.ret (some x3)) ((List.range m).map iN)=.ret (((List.range m).map (wd m r)).map iN):=by
 rw [jT_ (e:=iN) (g:=fun x=>iN (wd m r x)) (List.range m) (fun i _=>by
  have a1:zC_ (iN m) (.int 1)=some (iN (m+1)):=addN m 1
  rw [eqNN,oMS,bdR,a1]
  unfold wd
  by_cases h:i=r
  ·rw [decide_eq_true h,if_pos rfl,oMS,bdR,if_pos h]
  ·rw [decide_eq_false h,if_neg (by decide),bdR,if_neg h]),List.map_map]
 rfl
theorem YW_ (m r x:Nat) (hx:x<m):zt_ (.list (((List.range m).map (wd m r)).map iN)) (iN x)=some (iN (wd m r x)):=by
 rw [Xk_]
 have:=zdJ_ iN ((List.range m).map (wd m r)) x (by rw [List.length_map,List.length_range];exact hx)
 rw [List.getElem_map,List.getElem_range] at this
 exact this
theorem zae_ (s:List Nat) (m r k:Nat) (h2:2≤m) (hm:m≤9) (hr:r<m) (hk:k≤4):uV_ (.tuple (s.map iN)) (iN m) (iN r) (iN k)=.ret (mk (.rest s m r) k).d:=by
 unfold uV_
 have a1:zC_ (iN m) (.int 1)=some (iN (m+1)):=addN m 1
 have a2:zC_ (iN m) (.int 2)=some (iN (m+2)):=addN m 2
 rw [jX_ m (by lia),oMS,bdR,WN_ m r hm,bdR,j8_ (by rw [List.length_map,List.length_map,List.length_range];lia),bdR,bdR,bdR]
 generalize hw:PyData.list (((List.range m).map (wd m r)).map iN)=W
 refine (j4_ (e:=iN) (F:=fun pre=>(PyData.tuple (s.map iN),iN m,iN r,iN k,W,(pre.flatMap (jW_ m r)).map mD,())) (List.range m) ?_).trans ?_
 ·intro p a q hpq kn
  obtain ⟨rfl,ha⟩:=yf_ hpq
  dsimp only
  unfold ym_
  rw [Yn_ a m (by lia) (by lia),oMS,bdR]
  have lr:=Qf_ (f:=jW_ m r) (UM_ m r) (Nat.le_of_lt ha) hm
  have z:(List.range a).flatMap (jW_ m r)=(List.range a).flatMap (jW_ m r)++([]:List Nat).flatMap (jC_ m r a):=by simp
  rw [z]
  refine (j4_ (e:=iN) (F:=fun pre=>(PyData.tuple (s.map iN),iN m,iN r,iN k,W,((List.range a).flatMap (jW_ m r)++pre.flatMap (jC_ m r a)).map mD,iN a,())) (k:=fun s41=>uv_ kn s41.1 s41.2.1 s41.2.2.1 s41.2.2.2.1 s41.2.2.2.2.1 s41.2.2.2.2.2.1 s41.2.2.2.2.2.2.1) (rng a m) ?_).trans ?_
  ·intro p' b q' hpq' kn'
   obtain ⟨rfl,hb1,hb2⟩:=Y2_ hpq'
   dsimp only
   unfold yl_
   have lc:=jG_ (g:=jC_ m r a) (B:=1) (fun b=>by simp [jC_]) (rng a b)
   rw [jw_] at lc
   rw [addN,oMS,bdR,modN _ _ (by lia),oMS,bdR,←hw,YW_ m r _ (Nat.mod_lt _ (by lia)),oMS,bdR,bdR,yK_ _ _ (by rw [List.length_map,List.length_append];lia),oMS,bdR,List.flatMap_append,←List.append_assoc,List.map_append]
   simp [jC_]
  ·dsimp only
   unfold uv_
   have lc:=jG_ (g:=jC_ m r a) (B:=1) (fun b=>by simp [jC_]) (rng a m)
   rw [jw_] at lc
   rw [a1,oMS,bdR,bdR,seqT,oMS,bdR]
   have nn:∀ x y:Nat,opNe (iN x) (iN y)=some (!decide (x=y)):=fun x y=>by
    show opNe (.int x) (.int y)=_
    rw [neI,Xc_]
   have st:∀ (b:Nat) (ms:List Mt) (kn':D×D×D×D×D×List D×D×Unit→M D),ms.length≤5000→uu_ kn (PyData.tuple (s.map iN)) (iN m) (iN r) (iN k) W (ms.map mD) (iN a) (iN b) kn'=kn' (PyData.tuple (s.map iN),iN m,iN r,iN k,W,(ms++if b=wd m r a then [] else [(a,b,a,wd m r a)]).map mD,iN a,()):=fun b ms kn' hl=>by
    unfold uu_
    rw [←hw,YW_ m r a ha,oMS,bdR,nn,oMS,bdR]
    by_cases e:b=wd m r a
    ·rw [decide_eq_true e,if_neg (by decide),if_pos e,List.append_nil]
    ·rw [decide_eq_false e,if_pos (by decide),bdR,bdR,yK_ _ _ (by rw [List.length_map];lia),oMS,bdR,if_neg e,List.map_append]
     rfl
   rw [ZN_,forC,st m _ _ (by rw [List.length_append];lia),forC,st (m+1) _ _ (by split<;>simp only [List.length_append,List.length_nil,List.length_cons]<;>lia),forC]
   dsimp only
   unfold yn_
   congr 6
   rw [List.flatMap_append,List.flatMap_singleton]
   unfold jW_ Zy_
   rw [List.append_assoc,List.append_assoc]
   congr 2
   congr 1
   unfold wd
   by_cases e:a=r
   ·simp [e]
   ·simp [e]
 ·dsimp only
  unfold yo_
  have cc:=jT_ (e:=iN) (g:=fun x=>PyData.bool (decide (x=r)||decide (x=m+1))) (step:=fun d9=>bd (bd (bd (bd (oM (zC_ (iN m) (.int 1))) fun x10=>.ret (.tuple [iN r,x10])) fun x11=>oM (uN_ d9 x11)) fun b12=>.ret (.bool b12)) fun x13=>.ret (some x13)) (List.range (m+2)) (fun i _=>by
   have e:(PyData.tuple [iN r,iN (m+1)])=.tuple ([r,m+1].map iN):=rfl
   rw [a1,oMS,bdR,bdR,e,inT,oMS,bdR,bdR]
   simp)
  rw [a2,oMS,bdR,jX_ _ (by lia),oMS,bdR,cc,bdR,j8_ (by rw [List.length_map,List.length_range];lia),bdR,bdR,bdR,Uo_ s k hk,bdR,tupL,oMS,bdR,tupL,oMS,bdR,bdR]
  congr 1
  show PyData.tuple _=PyData.tuple _
  congr 5
  show PyData.tuple _=PyData.tuple _
  rw [mk,List.map_map]
  rfl
end K14
set_option Elab.async false
set_option linter.all false
set_option maxRecDepth 100000
namespace K14
open PySem PySem.Spec PyProof.Rows L2 L3 L4
noncomputable def neg (r:Rl):Rl:=⟨r.n,r.st,r.ms,r.sy.map (!·)⟩
theorem Xb_ (bs:List Bool):jA_ (fun d5=>bd (bd (bd (oM (truD d5)) fun b6=>.ret (!b6)) fun b7=>.ret (.bool b7)) fun x8=>.ret (some x8)) (bs.map PyData.bool)=.ret ((bs.map (!·)).map PyData.bool):=by
 rw [jT_ (e:=PyData.bool) (g:=fun b=>PyData.bool (!b)) bs (fun i _=>by rw [zdi_,oMS,bdR,bdR,bdR]),List.map_map]
 rfl
theorem Vk_ {r:Rl} (h:r.sy.length≤1000):Zm_ r.d=.ret (neg r).d:=by
 unfold Zm_
 rw [zI_,ixT0,oMS,bdR,zI_,ixT1,oMS,bdR,zI_,ixT2,oMS,bdR,zI_,ixT3,oMS,bdR,seqT,oMS,bdR,Xb_,bdR,j8_ (by rw [List.length_map,List.length_map];exact h),bdR,bdR,tupL,oMS,bdR,bdR]
 rfl
theorem Vi_:opEq (.str "least") (.str "least")=some true:=by decide +kernel
theorem Uh_:opEq (.str "more") (.str "least")=some false∧opEq (.str "more") (.str "more")=some true:=by decide +kernel
theorem yZ_:opEq (.str "rest") (.str "least")=some false∧opEq (.str "rest") (.str "more")=some false∧opEq (.str "rest") (.str "rest")=some true:=by decide +kernel
theorem w_not:opEq (.str "not") (.str "least")=some false∧opEq (.str "not") (.str "more")=some false∧opEq (.str "not") (.str "rest")=some false∧uN_ (.str "not") (.tuple [.str "both",.str "either"])=some false∧opEq (.str "not") (.str "not")=some true:=by decide +kernel
theorem WQ_ (w:Bool):opEq (ux_ w) (.str "least")=some false∧opEq (ux_ w) (.str "more")=some false∧opEq (ux_ w) (.str "rest")=some false∧uN_ (ux_ w) (.tuple [.str "both",.str "either"])=some true∧opEq (ux_ w) (.str "not")=some false:=by cases w<;>decide +kernel
theorem Zf_:opEq (.str "least") (.str "not")=some false∧uN_ (.str "least") (.tuple [.str "both",.str "either"])=some false∧opEq (.str "least") (.str "more")=some false∧opEq (.str "least") (.str "rest")=some false:=by decide +kernel
theorem Vh_:opEq (.str "more") (.str "not")=some false∧uN_ (.str "more") (.tuple [.str "both",.str "either"])=some false:=by decide +kernel
theorem Vg_:opEq (.str "rest") (.str "not")=some false∧uN_ (.str "rest") (.tuple [.str "both",.str "either"])=some false:=by decide +kernel
theorem t1:opEq (.int 1) (.int 1)=some true:=by decide +kernel
theorem t2:opEq (.int 2) (.int 1)=some false:=by decide +kernel
theorem Vj_ {p q:Qs} (hr:p.rooms*q.rooms≤40):p.rooms≤40∧q.rooms≤40 :=
 ⟨Nat.le_trans (Nat.le_mul_of_pos_right _ (zZ_ (q:=q))) hr,Nat.le_trans (Nat.le_mul_of_pos_left _ (zZ_ (q:=p))) hr⟩
theorem XM_ {q:Qs} {k:Nat} (hk:k≤4) (h:q.ok) (hr:q.rooms≤40):(mk q k).ms.length≤1600:=by
 have:=zbi_ (Yu_ hk h hr)
 rw [mk_n] at this
 have h2:q.rooms*q.rooms≤40*40:=Nat.mul_le_mul hr hr
 lia
theorem zbr_ {q:Qs} {k:Nat} (hk:k≤4) (h:q.ok) (hr:q.rooms≤40):(mk q k).sy.length≤1000:=by
 rw [(Yu_ hk h hr).sy,mk_n];lia
theorem yV_ {k:Nat} (hk:k≤4):∀ (i:Nat) (q:Qs),q.ok→q.rooms≤40→q.dep≤i→ZS_ i q.d (iN k)=.ret (mk q k).d
 | 0,q,_,_,hd=>by cases q<;>simp [Qs.dep] at hd
 | i+1,q,h,hr,hd=>by
  show yJ_ (ZS_ i) q.d (iN k)=_
  unfold yJ_
  cases q with
  | least s n =>
   rw [show (Qs.least s n).d=.tuple [.str "least",.tuple (s.map iN),iN n] from rfl]
   rw [zI_,ixT0,oMS,bdR,Vi_,oMS,bdR,if_pos rfl,zI_,ixT1,oMS,bdR,zI_,ixT2,oMS,bdR,Xg_ s n k h.1 h.2 hk,bdR]
  | more a b =>
   rw [show (Qs.more a b).d=.tuple [.str "more",.tuple (a.map iN),.tuple (b.map iN)] from rfl]
   rw [zI_,ixT0,oMS,bdR,Uh_.1,oMS,bdR,if_neg (by decide),Uh_.2,oMS,bdR,if_pos rfl,zI_,ixT1,oMS,bdR,zI_,ixT2,oMS,bdR,zaE_ a b k hk,bdR]
  | rest s m r =>
   rw [show (Qs.rest s m r).d=.tuple [.str "rest",.tuple (s.map iN),iN m,iN r] from rfl]
   rw [zI_,ixT0,oMS,bdR,yZ_.1,oMS,bdR,if_neg (by decide),yZ_.2.1,oMS,bdR,if_neg (by decide),yZ_.2.2,oMS,bdR,if_pos rfl,zI_,ixT1,oMS,bdR,zI_,ixT2,oMS,bdR,zI_,ixT3,oMS,bdR,zae_ s m r k h.1 h.2.1 h.2.2 hk,bdR]
  | neg q =>
   have hd':q.dep≤i:=by simp only [Qs.dep] at hd;lia
   rw [show q.neg.d=.tuple [.str "not",q.d] from rfl]
   rw [zI_,ixT0,oMS,bdR,w_not.1,oMS,bdR,if_neg (by decide),w_not.2.1,oMS,bdR,if_neg (by decide),w_not.2.2.1,oMS,bdR,if_neg (by decide)]
   unfold j6_
   rw [w_not.2.2.2.1,oMS,bdR,if_neg (by decide),w_not.2.2.2.2,oMS,bdR,if_pos rfl,bdR,bdR,t1,oMS,bdR,if_pos rfl,zI_,ixT1,oMS,bdR,yV_ hk i q h hr hd',bdR,Vk_ (r:=mk q k) (zbr_ (q:=q) hk h hr),bdR]
   rfl
  | two w p q =>
   have hd':p.dep≤i∧q.dep≤i:=by simp only [Qs.dep] at hd;lia
   have hr':p.rooms*q.rooms≤40:=hr
   have hr2:=Vj_ hr'
   obtain ⟨e1,e2,e3,e4,e5⟩:=WQ_ w
   rw [show (Qs.two w p q).d=.tuple [ux_ w,p.d,q.d] from rfl]
   rw [zI_,ixT0,oMS,bdR,e1,oMS,bdR,if_neg (by decide),e2,oMS,bdR,if_neg (by decide),e3,oMS,bdR,if_neg (by decide)]
   unfold j6_
   rw [e4,oMS,bdR,if_pos rfl,bdR,t2,oMS,bdR,if_neg (by decide),zI_,ixT1,oMS,bdR,yV_ hk i p h.1 hr2.1 hd'.1,bdR,zI_,ixT2,oMS,bdR,yV_ hk i q h.2 hr2.2 hd'.2,bdR,Yb_ (XN_ hk (Yu_ hk h.1 hr2.1) (Yu_ hk h.2 hr2.2) hr') w (Nat.le_trans (XM_ hk h.1 hr2.1) (by decide)) (Nat.le_trans (XM_ hk h.2 hr2.2) (by decide)),bdR]
   rfl
theorem mulB (a b:Nat) (h:a≤1000000000):z1_ (iN a) (iN b)=some (iN (a*b)):=by
 show z1_ (.int a) (.int b)=_
 rw [mulL _ _ (by lia) (by lia),←Int.natCast_mul]
theorem Zh_:∀ (i:Nat) (q:Qs),q.rooms≤1000000000→q.dep≤i→jU_ i q.d=.ret (iN q.rooms)
 | 0,q,_,hd=>by cases q<;>simp [Qs.dep] at hd
 | i+1,q,hr,hd=>by
  show uw_ (jU_ i) q.d=_
  unfold uw_
  cases q with
  | least s n =>
   rw [show (Qs.least s n).d=.tuple [.str "least",.tuple (s.map iN),iN n] from rfl]
   have e1:zC_ (iN n) (.int 1)=some (iN (n+1)):=addN n 1
   have e2:zC_ (iN (n+1)) (.int 0)=some (iN (n+1)):=addN (n+1) 0
   rw [zI_,ixT0,oMS,bdR,Zf_.1,oMS,bdR,if_neg (by decide),bdR,Zf_.2.1,oMS,bdR,if_neg (by decide),bdR,Zf_.2.2.1,oMS,bdR,if_neg (by decide),zI_,ixT2,oMS,bdR,e1,oMS,bdR,bdR,Zf_.2.2.2,oMS,bdR,bdR]
   rw [show fInt [PyData.bool false]=some (.int 0) from rfl,oMS,bdR,e2,oMS,bdR]
   rfl
  | more a b =>
   rw [show (Qs.more a b).d=.tuple [.str "more",.tuple (a.map iN),.tuple (b.map iN)] from rfl]
   rw [zI_,ixT0,oMS,bdR,Vh_.1,oMS,bdR,if_neg (by decide),bdR,Vh_.2,oMS,bdR,if_neg (by decide),bdR,Uh_.2,oMS,bdR,if_pos rfl,bdR]
   rfl
  | rest s m r =>
   rw [show (Qs.rest s m r).d=.tuple [.str "rest",.tuple (s.map iN),iN m,iN r] from rfl]
   have e1:zC_ (iN m) (.int 1)=some (iN (m+1)):=addN m 1
   have e2:zC_ (iN (m+1)) (.int 1)=some (iN (m+2)):=addN (m+1) 1
   rw [zI_,ixT0,oMS,bdR,Vg_.1,oMS,bdR,if_neg (by decide),bdR,Vg_.2,oMS,bdR,if_neg (by decide),bdR,yZ_.2.1,oMS,bdR,if_neg (by decide),zI_,ixT2,oMS,bdR,e1,oMS,bdR,bdR,yZ_.2.2,oMS,bdR,bdR]
   rw [show fInt [PyData.bool true]=some (.int 1) from rfl,oMS,bdR,e2,oMS,bdR]
   rfl
  | neg q =>
   have hd':q.dep≤i:=by simp only [Qs.dep] at hd;lia
   rw [show q.neg.d=.tuple [.str "not",q.d] from rfl]
   rw [zI_,ixT0,oMS,bdR,w_not.2.2.2.2,oMS,bdR,if_pos rfl,zI_,ixT1,oMS,bdR,Zh_ i q hr hd',bdR]
   rfl
  | two w p q =>
   have hd':p.dep≤i∧q.dep≤i:=by simp only [Qs.dep] at hd;lia
   have hr':p.rooms*q.rooms≤1000000000:=hr
   have h1:p.rooms≤1000000000:=Nat.le_trans (Nat.le_mul_of_pos_right _ (zZ_ (q:=q))) hr'
   have h2:q.rooms≤1000000000:=Nat.le_trans (Nat.le_mul_of_pos_left _ (zZ_ (q:=p))) hr'
   obtain ⟨e1,e2,e3,e4,e5⟩:=WQ_ w
   rw [show (Qs.two w p q).d=.tuple [ux_ w,p.d,q.d] from rfl]
   rw [zI_,ixT0,oMS,bdR,e5,oMS,bdR,if_neg (by decide),bdR,e4,oMS,bdR,if_pos rfl,zI_,ixT1,oMS,bdR,Zh_ i p h1 hd'.1,bdR,zI_,ixT2,oMS,bdR,Zh_ i q h2 hd'.2,bdR,mulB _ _ h1,oMS,bdR]
   rfl
end K14
set_option Elab.async false
set_option linter.all false
set_option maxRecDepth 100000
namespace K14
open PySem PySem.Spec PyProof.Rows L2 L3 L4
theorem U0_ {T:Type} {step:T→D→M (Option D×T)} {P:Nat→T→Prop}:∀ (ds:List D) (i:Nat) (s:T),
  (∀ (j:Nat) (s:T) (d:D),d∈ds→i≤j→j<i+ds.length→P j s→∃ o s',step s d=.ret (o,s')∧P (j+1) s'∧(o=some d∨o=none))→P i s →
  ∃ xs s',uS_ step ds s=.ret (xs,s')∧P (i+ds.length) s'∧xs.Sublist ds
 | [],i,s,_,hp=>⟨[],s,rfl,hp,.slnil⟩
 | d::r,i,s,h,hp=>by
  obtain ⟨o,s1,e1,p1,r1⟩:=h i s d List.mem_cons_self (Nat.le_refl _) (by simp) hp
  obtain ⟨xs,s2,e2,p2,l2⟩:=U0_ r (i+1) s1 (fun j s d hd hj hl=>h j s d (List.mem_cons_of_mem _ hd) (by lia) (by simp;lia)) p1
  have hi:i+(d::r).length=i+1+r.length:=by simp;lia
  rw [hi]
  rcases r1 with rfl|rfl
  ·exact ⟨d::xs,s2,by rw [uS_,e1];simp only [jY_,uF_];rw [e2];rfl,p2,l2.cons_cons _⟩
  ·exact ⟨xs,s2,by rw [uS_,e1];simp only [jY_,uF_];rw [e2];rfl,p2,l2.cons _⟩
theorem X6_ {xs:List D} {l:List Nat} (h:xs.Sublist (l.map iN)):∃ s:List Nat,s.Sublist l∧xs=s.map iN:=by
 obtain ⟨l',h1,h2⟩:=List.sublist_map_iff.mp h
 exact ⟨l',h1,h2⟩
theorem Vp_ {T k:Nat} {f:List D} (hf:Fd T f) (hT:T≤900000) (hk1:1≤k) (hk:k≤4):∃ (s:List Nat) (f':List D),uc_ f (iN k) (.int 1)=.ret (.tuple (s.map iN),f')∧Fd (T+5) f':=by
 unfold uc_
 rw [jX_ _ (by lia),oMS,bdR]
 obtain ⟨xs,s1,c1,⟨f1,hs1,hf1⟩,hsub⟩:=U0_ (P:=fun j (s:List D×D×D×Unit)=>∃ f,s=(f,iN k,PyData.int 1,())∧Fd (T+j) f)
  (step:=fun s2 d3=>bd (zh_ s2.1 (.int 2)) fun r4=>bd (oM (opEq r4.1 (.int 0))) fun b5=>if b5 then .ret (some d3,(r4.2,s2.2.1,s2.2.2.1,())) else .ret (none,(r4.2,s2.2.1,s2.2.2.1,()))) ((List.range k).map iN) 0 (f,iN k,PyData.int 1,())
  (by
   rintro j s d hd _ hj ⟨f,rfl,hf⟩
   rw [List.length_map,List.length_range] at hj
   obtain ⟨r,f',e,hr,hf'⟩:=jh_ (m:=2) hf (by lia) (by lia) (by lia)
   have e:zh_ f (.int 2)=.ret (iN r,f'):=e
   have ez:opEq (iN r) (.int 0)=some (decide (r=0)):=eqN r 0
   dsimp only
   rw [e,bdR,ez,oMS,bdR]
   by_cases h:r=0
   ·rw [if_pos (by simp [h])];exact ⟨_,_,rfl,⟨f',rfl,hf'⟩,.inl rfl⟩
   ·rw [if_neg (by simp [h])];exact ⟨_,_,rfl,⟨f',rfl,hf'⟩,.inr rfl⟩) ⟨f,rfl,hf⟩
 subst hs1
 rw [List.length_map,List.length_range] at hf1
 obtain ⟨s,hs,rfl⟩:=X6_ hsub
 have hl:=hs.length_le
 rw [List.length_range] at hl
 rw [c1,bdR];dsimp only
 rw [j8_ (by rw [List.length_map];lia),bdR,L4.lenL,oMS,bdR,geI,oMS,bdR]
 by_cases h:(1:Int)≤((s.map iN).length:Nat)
 ·rw [if_pos (by simpa using h),tupL,oMS,bdR]
  exact ⟨s,f1,rfl,hf1.le (by lia)⟩
 ·rw [if_neg (by simpa using h)]
  obtain ⟨r,f',e,hr,hf'⟩:=jh_ (m:=k) hf1 (by lia) (by lia) (by lia)
  rw [e,bdR]
  exact ⟨[r],f',rfl,hf'.le (by lia)⟩
theorem W0_ {T k:Nat} {f:List D} (hf:Fd T f) (hT:T≤850000) (hk1:1≤k) (hk:k≤4):∃ (q:Qs) (f':List D),up_ f (iN k)=.ret (q.d,f')∧q.ok∧q.dep=1∧q.rooms≤11∧Fd (T+20) f':=by
 unfold up_
 obtain ⟨w,f1,e,hw,hf1⟩:=jh_ (m:=3) hf (by lia) (by lia) (by lia)
 have e:zh_ f (.int 3)=.ret (iN w,f1):=e
 have e0:opEq (iN w) (.int 0)=some (decide (w=0)):=eqN w 0
 have e1:opEq (iN w) (.int 1)=some (decide (w=1)):=eqN w 1
 rw [e,bdR,e0,oMS,bdR]
 by_cases h0:w=0
 ·rw [if_pos (by simp [h0])]
  obtain ⟨s,f2,es,hf2⟩:=Vp_ hf1 (by lia) hk1 hk
  obtain ⟨x,f3,ex,hx,hf3⟩:=XJ_ (m:=[(.int 3),(.int 9)]) (by decide) (by decide) hf2 (by lia)
  have hx':∃ m:Nat,x=iN m∧1≤m∧m≤9:=by
   simp only [List.mem_cons,List.mem_nil_iff,or_false] at hx
   rcases hx with rfl|rfl
   ·exact ⟨3,rfl,by lia,by lia⟩
   ·exact ⟨9,rfl,by lia,by lia⟩
  obtain ⟨m,rfl,m1,m2⟩:=hx'
  obtain ⟨r,f4,er,hr,hf4⟩:=jh_ (m:=m) hf3 (by lia) (by lia) (by lia)
  have ea:zC_ (.int 1) (iN r)=some (iN (1+r)):=addN 1 r
  rw [es,bdR,ex,bdR,er,bdR,ea,oMS,bdR]
  exact ⟨.least s (1+r),f4,rfl,⟨by lia,by lia⟩,rfl,by simp only [Qs.rooms];lia,hf4.le (by lia)⟩
 ·rw [if_neg (by simp [h0]),e1,oMS,bdR]
  by_cases h1:w=1
  ·rw [if_pos (by simp [h1]),jX_ _ (by lia),oMS,bdR]
   obtain ⟨xs,s1,c1,⟨f2,hs1,hf2⟩,l1,r1⟩:=Xs_ (P:=fun j (s:List D×D×Unit)=>∃ f,s=(f,iN k,())∧Fd (T+1+j) f) (e:=iN) (R:=fun x=>x<3)
    (step:=fun s9 d10=>bd (zh_ s9.1 (.int 3)) fun r11=>.ret (some r11.1,(r11.2,s9.2.1,()))) ((List.range k).map iN) (f1,iN k,())
    (by
     rintro j s d hd ⟨f,rfl,hf⟩
     have hj:j<k:=by
      have:=(List.getElem?_eq_some_iff.mp hd).1
      rw [List.length_map,List.length_range] at this;exact this
     obtain ⟨x,f',e,hx,hf'⟩:=jh_ (m:=3) hf (by lia) (by lia) (by lia)
     have e:zh_ f (.int 3)=.ret (iN x,f'):=e
     dsimp only
     rw [e,bdR]
     exact ⟨x,_,rfl,⟨f',rfl,hf'⟩,hx⟩) ⟨f1,rfl,hf1⟩
   subst hs1
   rw [List.length_map,List.length_range] at hf2 l1
   rw [c1,bdR];dsimp only
   have cc:∀ v:Nat,jA_ (fun d14=>bd (bd (oM (zt_ (PyData.list (xs.map iN)) d14)) fun x15=>oM (opEq x15 (.int (v:Int)))) fun b16=>if b16 then .ret (some d14) else .ret none) ((List.range k).map iN)=.ret (((List.range k).filter fun x=>decide (xs.getD x 0=v)).map iN):=fun v=>by
    rw [Qr_ (e:=iN) (g:=fun x=>if decide (xs.getD x 0=v)=true then some (iN x) else none) (List.range k) (fun i hi=>by
     have hi:=List.mem_range.mp hi
     have ei:zt_ (.list (xs.map iN)) (iN i)=some (iN (xs.getD i 0)):=by
      show opIx (.list (xs.map iN)) (.int (i:Int))=_
      have:=ZT_ (xs.map iN) i (by rw [List.length_map];lia)
      refine this.trans ?_
      rw [List.getElem_map]
      congr 2
      simp [List.getD,l1▸hi]
     have e2:opEq (iN (xs.getD i 0)) (.int (v:Int))=some (decide (xs.getD i 0=v)):=eqN _ v
     rw [ei,oMS,bdR,e2,oMS,bdR]
     by_cases h:xs.getD i 0=v
     ·rw [if_pos (by rw [decide_eq_true h]),if_pos (by rw [decide_eq_true h])]
     ·rw [if_neg (by rw [decide_eq_false h];decide),if_neg (by rw [decide_eq_false h];decide)]),yH_]
   have lf:∀ v:Nat,(((List.range k).filter fun x=>decide (xs.getD x 0=v)).map iN).length≤1000:=fun v=>by
    have:=List.length_filter_le (fun x=>decide (xs.getD x 0=v)) (List.range k)
    rw [List.length_range] at this
    rw [List.length_map];lia
   rw [j8_ (by rw [List.length_map];lia),bdR,jX_ _ (by lia),oMS,bdR,show PyData.int 0=.int ((0:Nat):Int) from rfl,cc 0,bdR,j8_ (lf 0),bdR,bdR,tupL,oMS,bdR,bdR,show PyData.int 1=.int ((1:Nat):Int) from rfl,cc 1,bdR,j8_ (lf 1),bdR,bdR,tupL,oMS,bdR,bdR]
   refine ⟨.more ((List.range k).filter fun x=>decide (xs.getD x 0=0)) ((List.range k).filter fun x=>decide (xs.getD x 0=1)),f2,rfl,?_,rfl,by simp only [Qs.rooms];lia,hf2.le (by lia)⟩
   intro x hx hx2
   have a:=(List.mem_filter.mp hx).2
   have b:=(List.mem_filter.mp hx2).2
   rw [decide_eq_true_eq] at a b
   lia
  ·rw [if_neg (by simp [h1])]
   obtain ⟨x,f3,ex,hx,hf3⟩:=XJ_ (m:=[(.int 2),(.int 8)]) (by decide) (by decide) hf1 (by lia)
   have hx':∃ m:Nat,x=iN m∧1≤m∧m≤8:=by
    simp only [List.mem_cons,List.mem_nil_iff,or_false] at hx
    rcases hx with rfl|rfl
    ·exact ⟨2,rfl,by lia,by lia⟩
    ·exact ⟨8,rfl,by lia,by lia⟩
   obtain ⟨m,rfl,m1,m2⟩:=hx'
   obtain ⟨r,f4,er,hr,hf4⟩:=jh_ (m:=m) hf3 (by lia) (by lia) (by lia)
   have ea:zC_ (.int 2) (iN r)=some (iN (2+r)):=addN 2 r
   obtain ⟨s,f5,es,hf5⟩:=Vp_ hf4 (by lia) hk1 hk
   obtain ⟨y,f6,ey,hy,hf6⟩:=jh_ (m:=2+r) hf5 (by lia) (by lia) (by lia)
   rw [ex,bdR,er,bdR,ea,oMS,bdR,es,bdR,ey,bdR]
   exact ⟨.rest s (2+r) y,f6,rfl,⟨by lia,by lia,hy⟩,rfl,by simp only [Qs.rooms];lia,hf6.le (by lia)⟩
theorem uK_ {k:Nat} (hk1:1≤k) (hk:k≤4):∀ (i:Nat) {T size deep:Nat} {f:List D},Fd T f→T+40*size≤800000→1≤size→1≤deep→deep≤i →
  ∃ (q:Qs) (f':List D),z3_ i f (iN k) (iN size) (iN deep)=.ret (q.d,f')∧q.ok∧q.dep≤deep∧q.rooms≤11^size∧Fd (T+40*size) f'
 | 0,_,_,_,_,_,_,_,_,_=>by lia
 | i+1,T,size,deep,f,hf,hT,hs,hd1,hd=>by
  show ∃ (q:Qs) (f':List D),jN_ (z3_ i) f (iN k) (iN size) (iN deep)=_∧_
  unfold jN_
  obtain ⟨w,f1,e,hw,hf1⟩:=jh_ (m:=4) hf (by lia) (by lia) (by lia)
  have e:zh_ f (.int 4)=.ret (iN w,f1):=e
  have es1:opEq (iN size) (.int 1)=some (decide (size=1)):=eqN size 1
  have es2:opEq (iN size) (.int 2)=some (decide (size=2)):=eqN size 2
  have ed1:opEq (iN deep) (.int 1)=some (decide (deep=1)):=eqN deep 1
  have ew0:opEq (iN w) (.int 0)=some (decide (w=0)):=eqN w 0
  have ew1:opEq (iN w) (.int 1)=some (decide (w=1)):=eqN w 1
  rw [e,bdR,es1,oMS,bdR,ed1,oMS,bdR,ew0,oMS,iteO,iteO,bdR]
  by_cases h0:size=1∨deep=1∨w=0
  ·rw [if_pos (by simpa using h0)]
   obtain ⟨q,f2,eq,ok,dp,rm,hf2⟩:=W0_ hf1 (by lia) hk1 hk
   rw [eq,bdR]
   exact ⟨q,f2,rfl,ok,by lia,Nat.le_trans rm (by have:=Nat.pow_le_pow_right (n:=11) (by lia) hs;lia),hf2.le (by lia)⟩
  ·rw [if_neg (by simpa using h0),ew1,oMS,bdR,es2,oMS,iteO,bdR]
   have sz1:uM_ (iN size) (.int 1)=some (iN (size - 1)):=Vo_ size (by lia)
   have dp1:uM_ (iN deep) (.int 1)=some (iN (deep - 1)):=Vo_ deep (by lia)
   by_cases h1:w=1∨size=2
   ·rw [if_pos (by simpa using h1),sz1,oMS,bdR,dp1,oMS,bdR]
    obtain ⟨q,f2,eq,ok,dp,rm,hf2⟩:=uK_ hk1 hk i (size:=size - 1) (deep:=deep - 1) hf1 (by lia) (by lia) (by lia) (by lia)
    rw [eq,bdR]
    refine ⟨q.neg,f2,rfl,ok,by simp only [Qs.dep];lia,?_,hf2.le (by lia)⟩
    exact Nat.le_trans rm (Nat.pow_le_pow_right (by lia) (by lia))
   ·rw [if_neg (by simpa using h1)]
    have sz2:uM_ (iN size) (.int 2)=some (iN (size - 2)):=subN size 2 (by lia)
    obtain ⟨r,f2,er,hr,hf2⟩:=jh_ (m:=size - 2) hf1 (by lia) (by lia) (by lia)
    have ea:zC_ (.int 1) (iN r)=some (iN (1+r)):=addN 1 r
    obtain ⟨q,f3,eq,ok,dp,rm,hf3⟩:=uK_ hk1 hk i (size:=1+r) (deep:=deep - 1) hf2 (by lia) (by lia) (by lia) (by lia)
    have em:uy_ (iN w) (.int 2)=some (iN (w % 2)):=modN w 2 (by lia)
    have ei:∃ b:Bool,zt_ (.list [.str "both",.str "either"]) (iN (w % 2))=some (ux_ b):=by
     rcases Nat.mod_two_eq_zero_or_one w with h|h<;>rw [h]
     ·exact ⟨true,rfl⟩
     ·exact ⟨false,rfl⟩
    obtain ⟨b,ei⟩:=ei
    obtain ⟨q2,f4,eq2,ok2,dp2,rm2,hf4⟩:=uK_ hk1 hk i (size:=size - 1 - (1+r)) (deep:=deep - 1) hf3 (by lia) (by lia) (by lia) (by lia)
    rw [sz2,oMS,bdR,er,bdR,ea,oMS,bdR,dp1,oMS,bdR,eq,bdR,em,oMS,bdR,ei,oMS,bdR,sz1,oMS,bdR,subN _ _ (by lia),oMS,bdR,bdR,eq2,bdR]
    refine ⟨.two b q q2,f4,rfl,⟨ok,ok2⟩,by simp only [Qs.dep];lia,?_,hf4.le (by lia)⟩
    refine Nat.le_trans (Nat.mul_le_mul rm rm2) ?_
    rw [←Nat.pow_add]
    exact Nat.pow_le_pow_right (by lia) (by lia)
end K14
set_option Elab.async false
set_option linter.all false
set_option maxRecDepth 100000
namespace K14
open PySem PySem.Spec PyProof.Rows L2 L3 L4
noncomputable abbrev Zp_:Ex:=⟨"TooMany",[]⟩
theorem bdX {S T:Type} (e:Ex) (k:S→M T):bd (.exc e) k=.exc e:=id rfl
theorem Qw_ {r q:Rl} (w:D) (hr:r.n≤1000000) (hp:40<r.n*q.n):uX_ r.d q.d w=.exc Zp_:=by
 have g40:opGt (iN (r.n*q.n)) (.int 40)=some true:=by
  rw [gtI,decide_eq_true (by lia)]
 unfold uX_
 rw [zI_,ixT0,oMS,bdR,zI_,ixT0,oMS,bdR,mulN _ _ hr,oMS,bdR,g40,oMS,bdR,if_pos rfl]
theorem Qe_ {k:Nat} (hk:k≤4):∀ (i:Nat) (q:Qs),q.ok→40<q.rooms→q.dep≤i→ZS_ i q.d (iN k)=.exc Zp_
 | 0,q,_,_,hd=>by cases q<;>simp [Qs.dep] at hd
 | i+1,q,h,hr,hd=>by
  show yJ_ (ZS_ i) q.d (iN k)=_
  unfold yJ_
  cases q with
  | least s n=>have:=h.2;simp only [Qs.rooms] at hr;lia
  | more a b=>simp only [Qs.rooms] at hr;lia
  | rest s m r=>have:=h.2.1;simp only [Qs.rooms] at hr;lia
  | neg q =>
   have hd':q.dep≤i:=by simp only [Qs.dep] at hd;lia
   rw [show q.neg.d=.tuple [.str "not",q.d] from rfl]
   rw [zI_,ixT0,oMS,bdR,w_not.1,oMS,bdR,if_neg (by decide),w_not.2.1,oMS,bdR,if_neg (by decide),w_not.2.2.1,oMS,bdR,if_neg (by decide)]
   unfold j6_
   rw [w_not.2.2.2.1,oMS,bdR,if_neg (by decide),w_not.2.2.2.2,oMS,bdR,if_pos rfl,bdR,bdR,t1,oMS,bdR,if_pos rfl,zI_,ixT1,oMS,bdR,Qe_ hk i q h hr hd',bdX,bdX]
  | two w p q =>
   have hd':p.dep≤i∧q.dep≤i:=by simp only [Qs.dep] at hd;lia
   have hr':40<p.rooms*q.rooms:=hr
   obtain ⟨e1,e2,e3,e4,e5⟩:=WQ_ w
   rw [show (Qs.two w p q).d=.tuple [ux_ w,p.d,q.d] from rfl]
   rw [zI_,ixT0,oMS,bdR,e1,oMS,bdR,if_neg (by decide),e2,oMS,bdR,if_neg (by decide),e3,oMS,bdR,if_neg (by decide)]
   unfold j6_
   rw [e4,oMS,bdR,if_pos rfl,bdR,t2,oMS,bdR,if_neg (by decide),zI_,ixT1,oMS,bdR]
   by_cases hp:40<p.rooms
   ·rw [Qe_ hk i p h.1 hp hd'.1,bdX,bdX]
   ·rw [yV_ hk i p h.1 (by lia) hd'.1,bdR,zI_,ixT2,oMS,bdR]
    by_cases hq:40<q.rooms
    ·rw [Qe_ hk i q h.2 hq hd'.2,bdX,bdX]
    ·rw [yV_ hk i q h.2 (by lia) hd'.2,bdR,Qw_ (ux_ w) (by rw [mk_n];lia) (by rw [mk_n,mk_n];exact hr'),bdX]
theorem cut1 (a b:D):(bd (bd (asI (.int 1)) fun lo9=>oM (fCut (.tuple [a,b]) lo9 none)) fun x10=>oM (seqD x10))=.ret [b]:=by kernel_rfl
theorem cut2 (a b c:D):(bd (bd (asI (.int 1)) fun lo9=>oM (fCut (.tuple [a,b,c]) lo9 none)) fun x10=>oM (seqD x10))=.ret [b,c]:=by kernel_rfl
theorem uI_:∀ (i:Nat) (q:Qs),q.rooms≤1000000000→q.dep≤i→ua_ i q.d=.ret (iN q.rooms)
 | 0,q,_,hd=>by cases q<;>simp [Qs.dep] at hd
 | i+1,q,hr,hd=>by
  show uU_ (ua_ i) q.d=_
  unfold uU_
  cases q with
  | least s n =>
   rw [show (Qs.least s n).d=.tuple [.str "least",.tuple (s.map iN),iN n] from rfl]
   have e1:zC_ (iN n) (.int 1)=some (iN (n+1)):=addN n 1
   rw [zI_,ixT0,oMS,bdR,Vi_,oMS,bdR,if_pos rfl,zI_,ixT2,oMS,bdR,e1,oMS,bdR]
   rfl
  | more a b =>
   rw [show (Qs.more a b).d=.tuple [.str "more",.tuple (a.map iN),.tuple (b.map iN)] from rfl]
   rw [zI_,ixT0,oMS,bdR,Uh_.1,oMS,bdR,if_neg (by decide),Uh_.2,oMS,bdR,if_pos rfl]
   rfl
  | rest s m r =>
   rw [show (Qs.rest s m r).d=.tuple [.str "rest",.tuple (s.map iN),iN m,iN r] from rfl]
   have e1:zC_ (iN m) (.int 2)=some (iN (m+2)):=addN m 2
   rw [zI_,ixT0,oMS,bdR,yZ_.1,oMS,bdR,if_neg (by decide),yZ_.2.1,oMS,bdR,if_neg (by decide),yZ_.2.2,oMS,bdR,if_pos rfl,zI_,ixT2,oMS,bdR,e1,oMS,bdR]
   rfl
  | neg q =>
   have hd':q.dep≤i:=by simp only [Qs.dep] at hd;lia
   have hr':q.rooms≤1000000000:=hr
   rw [show q.neg.d=.tuple [.str "not",q.d] from rfl]
   rw [zI_,ixT0,oMS,bdR,w_not.1,oMS,bdR,if_neg (by decide),w_not.2.1,oMS,bdR,if_neg (by decide),w_not.2.2.1,oMS,bdR,if_neg (by decide),cut1,bdR]
   rw [ZN_]
   simp only [forC]
   unfold ut_
   rw [uI_ i q hr' hd',bdR,show z1_ (.int 1) (iN q.rooms)=_ from mulN 1 q.rooms (by lia),oMS,bdR,Nat.one_mul]
   rfl
  | two w p q =>
   have hd':p.dep≤i∧q.dep≤i:=by simp only [Qs.dep] at hd;lia
   have hr':p.rooms*q.rooms≤1000000000:=hr
   have h1:p.rooms≤1000000000:=Nat.le_trans (Nat.le_mul_of_pos_right _ (zZ_ (q:=q))) hr'
   have h2:q.rooms≤1000000000:=Nat.le_trans (Nat.le_mul_of_pos_left _ (zZ_ (q:=p))) hr'
   obtain ⟨e1,e2,e3,e4,e5⟩:=WQ_ w
   rw [show (Qs.two w p q).d=.tuple [ux_ w,p.d,q.d] from rfl]
   rw [zI_,ixT0,oMS,bdR,e1,oMS,bdR,if_neg (by decide),e2,oMS,bdR,if_neg (by decide),e3,oMS,bdR,if_neg (by decide),cut2,bdR]
   rw [ZN_]
   simp only [forC]
   unfold ut_
   rw [uI_ i p h1 hd'.1,bdR,show z1_ (.int 1) (iN p.rooms)=_ from mulN 1 p.rooms (by lia),oMS,bdR,Nat.one_mul]
   dsimp only
   rw [uI_ i q h2 hd'.2,bdR,mulB _ _ h1,oMS,bdR]
   rfl
noncomputable def Zq_ (n:Nat):D:=if n<41 then iN n else .bool true
theorem XQ_ (x:D) (r:Rl):zD_ .none r.d=.ret (iN r.n):=by
 unfold zD_
 rw [show Xa_ .none .none=some true from rfl,oMS,bdR,if_pos rfl,zI_,ixT0,oMS,bdR]
theorem XR_ (d:D):zD_ (encX Zp_) d=.ret (.bool true):=by
 unfold zD_
 kernel_rfl
theorem Vn_ {k:Nat} (hk:k≤4) (q:Qs) (h:q.ok) (hd:q.dep≤5):jv_ q.d (iN k) (.str "")=.ret (Zq_ q.rooms):=by
 unfold jv_ Zq_
 rw [show opEq (.str "") (.str "")=some true from by decide +kernel,oMS,bdR,if_pos rfl]
 by_cases c:q.rooms<41
 ·rw [yV_ hk 5 q h (by lia) hd,if_pos c]
  show zD_ .none (mk q k).d=_
  rw [XQ_ .none,mk_n]
 ·rw [Qe_ hk 5 q h (by lia) hd,if_neg c]
  show zD_ (encX Zp_) .none=_
  rw [XR_]
theorem Yg_ {r q:Rl} (b:Bool) (wr:Wf r) (wq:Wf q) (hr:r.n≤40) (hq:q.n≤40) (st:r.st.length=q.st.length) (s4:q.st.length≤4) (mr:r.ms.length≤100000) (mq:q.ms.length≤100000):jv_ r.d q.d (ux_ b)=.ret (Zq_ (r.n*q.n)):=by
 unfold jv_ Zq_
 rw [show opEq (ux_ b) (.str "")=some false from by cases b<;>decide +kernel,oMS,bdR,if_neg (by decide)]
 by_cases c:r.n*q.n<41
 ·rw [Yb_ ⟨wr,wq,hr,hq,by lia,st,s4⟩ b mr mq,if_pos c]
  show zD_ .none (side r q b).d=_
  rw [XQ_ .none]
  rfl
 ·rw [Qw_ (ux_ b) (by lia) (by lia),if_neg c]
  show zD_ (encX Zp_) .none=_
  rw [XR_]
theorem zdR_ (k:Nat):(List.replicate k [PyData.bool true]).flatten=(List.replicate k true).map PyData.bool:=by
 induction k with
 | zero=>rfl
 | succ k ih=>rw [List.replicate_succ,List.replicate_succ,List.flatten_cons,ih];rfl
theorem mulT (k:Nat) (h:k≤1000):yB_ (.tuple [.bool true]) (iN k)=some (.tuple ((List.replicate k true).map PyData.bool)):=by
 have hz:(1:Nat)*k≤sizeLine:=Nat.le_trans (by lia) (show 1000≤sizeLine from by decide)
 have e:(decide (-(2^63)≤(k:Int))&&decide ((k:Int)<2^63)&&decide ([PyData.bool true].length*(k:Int).toNat≤sizeLine))=true:=by
  rw [decide_eq_true (show -(2^63)≤(k:Int) by lia),decide_eq_true (show (k:Int)<2^63 by lia),decide_eq_true (show [PyData.bool true].length*(k:Int).toNat≤sizeLine from hz)]
  rfl
 show yB_ (.tuple [.bool true]) (.int (k:Int))=_
 unfold yB_
 simp only [e,if_true]
 rw [Int.toNat_natCast,zdR_]
structure Few (n:Nat) (r:Rl):Prop where
 w:Wf r
 n:r.n=n
 st:r.st.length=2
 ms:r.ms.length≤1
theorem Ql_ {T n:Nat} {f:List D} (hf:Fd T f) (hT:T≤900000) (h1:1≤n) (hn:n≤40):∃ (r:Rl) (f':List D),jz_ f (iN n)=.ret (r.d,f')∧Few n r∧Fd (T+1) f':=by
 have w0:Few n ⟨n,[0,n - 1],[],List.replicate n true⟩:=⟨⟨h1,by intro s hs;simp at hs;show s<n;lia,List.length_replicate,(by intro m hm;cases hm),List.Pairwise.nil⟩,rfl,rfl,Nat.zero_le _⟩
 unfold jz_
 rw [show opGt (iN n) (.int 1)=some (decide (1<n)) from by rw [gtI];congr 1;exact decide_eq_decide.mpr (by lia),oMS,bdR]
 by_cases c:1<n
 ·rw [if_pos (by simpa using c)]
  obtain ⟨y,f',e,hy,hf'⟩:=jh_ (m:=2) hf (by lia) (by lia) (by lia)
  have e:zh_ f (.int 2)=.ret (iN y,f'):=e
  have ey:opEq (iN y) (.int 0)=some (decide (y=0)):=eqN y 0
  rw [e,bdR,ey,oMS,bdR]
  by_cases hy0:y=0
  ·rw [if_pos (by simpa using hy0),Vo_ n h1,oMS,bdR,bdR,bdR,bdR,bdR,mulT n (by lia),oMS,bdR,bdR]
   refine ⟨⟨n,[0,n - 1],[(0,n - 1,0,0)],List.replicate n true⟩,f',rfl,⟨⟨h1,?_,List.length_replicate,?_,?_⟩,rfl,rfl,Nat.le_refl _⟩,hf'⟩
   ·intro s hs;simp at hs;show s<n;lia
   ·intro m hm
    have:m=(0,n - 1,0,0):=by simpa using hm
    subst this
    exact ⟨Nat.zero_le _,by show n - 1<n;lia,by show 0<n;lia,by show 0<n;lia,by intro z;have:=congrArg Prod.snd z;dsimp only at this;lia,by intro z;have:=congrArg Prod.fst z;dsimp only at this;lia⟩
   ·exact List.pairwise_singleton _ _
  ·rw [if_neg (by simpa using hy0),Vo_ n h1,oMS,bdR,bdR,mulT n (by lia),oMS,bdR,bdR]
   exact ⟨_,f',rfl,w0,hf'⟩
 ·rw [if_neg (by simpa using c),if_neg (by decide),Vo_ n h1,oMS,bdR,bdR,mulT n (by lia),oMS,bdR,bdR]
  exact ⟨_,f,rfl,w0,hf.le (by lia)⟩
end K14
set_option Elab.async false
set_option linter.all false
set_option maxRecDepth 100000
namespace K14
open PySem PySem.Spec PyProof.Rows L2 L3 L4
theorem Qb_ {n:Nat} (h:n≤1000000000):ZQ_ [iN n]=some (.str (iN n).shown)∧opNe (.str (iN n).shown) (.str (iN n).shown)=some false:=by
 have s:L4.Sm (iN n):=by simp only [L4.Sm];omega
 exact ⟨zbA_ s (by simp [sz]) (by simp [PyData.depth]),XL_ s⟩
theorem Uk_ {n:Nat} (h:n≤1000000000):ZQ_ [Zq_ n]=some (.str (Zq_ n).shown)∧opNe (.str (Zq_ n).shown) (.str (Zq_ n).shown)=some false:=by
 unfold Zq_
 split
 ·exact Qb_ h
 ·have s:L4.Sm (.bool true):=by simp only [L4.Sm]
  exact ⟨zbA_ s (by simp [sz]) (by simp [PyData.depth]),XL_ s⟩
theorem lt41 (n:Nat):(bd (oM (Ux_ (iN n) (.int 41))) fun b18=>if b18 then M.ret (iN n) else .ret (.bool true))=.ret (Zq_ n):=by
 have e:Ux_ (iN n) (.int 41)=some (decide (n<41)):=by
  show opLt (.int (n:Int)) (.int 41)=_
  rw [L4.ltI]
  congr 1
  exact decide_eq_decide.mpr (by omega)
 rw [e,oMS,bdR]
 unfold Zq_
 by_cases c:n<41
 ·rw [if_pos (by simpa using c),if_pos c]
 ·rw [if_neg (by simpa using c),if_neg c]
theorem zcC_ {T a b:Nat} {r q:Rl} {f:List D} (hf:Fd T f) (hT:T≤900000) (fr:Few a r) (fq:Few b q) (ha:a≤40) (hb:b≤40) (sc:D) (kn5:D×Unit→M D):Zn_ kn5 sc f r.d q.d=kn5 (sc,()):=by
 have hn:=fr.n
 have hm:=fq.n
 unfold Zn_
 obtain ⟨y,f',e,hy,hf'⟩:=jh_ (m:=2) hf (by lia) (by lia) (by lia)
 have e:zh_ f (.int 2)=.ret (iN y,f'):=e
 have ei:∃ w:Bool,zt_ (.list [.str "both",.str "either"]) (iN y)=some (ux_ w):=by
  rcases (by lia:y=0∨y=1) with rfl|rfl
  ·exact ⟨true,rfl⟩
  ·exact ⟨false,rfl⟩
 obtain ⟨w,ei⟩:=ei
 have hz:r.n*q.n≤40*40:=Nat.mul_le_mul (by lia) (by lia)
 obtain ⟨r1,r2⟩:=Uk_ (n:=r.n*q.n) (by lia)
 rw [zI_,ixT0,oMS,bdR,zI_,ixT0,oMS,bdR,mulN _ _ (by lia),oMS,bdR,e,bdR,ei,oMS,bdR,Yg_ w fr.w fq.w (by lia) (by lia) (by rw [fr.st,fq.st]) (by rw [fq.st];lia) (by have:=fr.ms;lia) (by have:=fq.ms;lia),bdR,r1,oMS,bdR,lt41,bdR,r1,oMS,bdR,r2,oMS,bdR,if_neg (by decide)]
theorem zcx_ (ns:List Int) (hn:ns.length≤63) (k:Nat) (kn5:D×Unit→M D):J6_ (.list (ns.map PyData.int)) (iN k) kn5=kn5 (.list (ns.map PyData.int),()):=by
 unfold J6_
 obtain ⟨f0,e0,hf0⟩:=zaN_ ns k hn
 obtain ⟨r,f1,e1,hr,hf1⟩:=jh_ (m:=4) hf0 (by lia) (by lia) (by lia)
 have e1:zh_ f0 (.int 4)=.ret (iN r,f1):=e1
 have ea:zC_ (.int 1) (iN r)=some (iN (1+r)):=addN 1 r
 obtain ⟨s,f2,e2,hs,hf2⟩:=jh_ (m:=7) hf1 (by lia) (by lia) (by lia)
 have e2:zh_ f1 (.int 7)=.ret (iN s,f2):=e2
 have es:zC_ (.int 1) (iN s)=some (iN (1+s)):=addN 1 s
 obtain ⟨q,f3,e3,ok,dp,rm,hf3⟩:=uK_ (k:=1+r) (by lia) (by lia) 5 (size:=1+s) (deep:=4) hf2 (by lia) (by lia) (by lia) (by lia)
 have e3:z3_ 5 f2 (iN (1+r)) (iN (1+s)) (.int 4)=.ret (q.d,f3):=e3
 have hq:q.rooms≤1000000000:=Nat.le_trans rm (Nat.le_trans (Nat.pow_le_pow_right (by lia) (show 1+s≤7 by lia)) (by decide))
 obtain ⟨r1,r2⟩:=Qb_ hq
 obtain ⟨t1,t2⟩:=Uk_ hq
 rw [e0,bdR,e1,bdR,ea,oMS,bdR,e2,bdR,es,oMS,bdR,e3,bdR,Zh_ 5 q hq (by lia),bdR,uI_ 5 q hq (by lia),bdR,r1,oMS,bdR,bdR,r2,oMS,bdR,if_neg (by decide),Vn_ (by lia) q ok (by lia),bdR,t1,oMS,bdR,lt41,bdR,t1,oMS,bdR,t2,oMS,bdR,if_neg (by decide)]
 obtain ⟨a,f4,e4,ha,hf4⟩:=jh_ (m:=9) hf3 (by lia) (by lia) (by lia)
 have e4:zh_ f3 (.int 9)=.ret (iN a,f4):=e4
 have eaa:zC_ (.int 1) (iN a)=some (iN (1+a)):=addN 1 a
 obtain ⟨R,f5,e5,fR,hf5⟩:=Ql_ (n:=1+a) hf4 (by lia) (by lia) (by lia)
 obtain ⟨b,f6,e6,hb,hf6⟩:=jh_ (m:=9) hf5 (by lia) (by lia) (by lia)
 have e6:zh_ f5 (.int 9)=.ret (iN b,f6):=e6
 have eb:zC_ (.int 1) (iN b)=some (iN (1+b)):=addN 1 b
 obtain ⟨Q,f7,e7,fQ,hf7⟩:=Ql_ (n:=1+b) hf6 (by lia) (by lia) (by lia)
 obtain ⟨w,f8,e8,hw,hf8⟩:=jh_ (m:=3) hf7 (by lia) (by lia) (by lia)
 have e8:zh_ f7 (.int 3)=.ret (iN w,f8):=e8
 have ew:opEq (iN w) (.int 0)=some (decide (w=0)):=eqN w 0
 rw [e4,bdR,eaa,oMS,bdR,e5,bdR,e6,bdR,eb,oMS,bdR,e7,bdR,e8,bdR,ew,oMS,bdR]
 by_cases c:w=0
 ·rw [if_pos (by simpa using c)]
  obtain ⟨R',f9,e9,fR',hf9⟩:=Ql_ (n:=40) hf8 (by lia) (by lia) (by lia)
  have e9:jz_ f8 (.int 40)=.ret (R'.d,f9):=e9
  obtain ⟨z,f10,e10,hz,hf10⟩:=jh_ (m:=2) hf9 (by lia) (by lia) (by lia)
  have e10:zh_ f9 (.int 2)=.ret (iN z,f10):=e10
  have ez:zC_ (.int 1) (iN z)=some (iN (1+z)):=addN 1 z
  obtain ⟨Q',f11,e11,fQ',hf11⟩:=Ql_ (n:=1+z) hf10 (by lia) (by lia) (by lia)
  rw [e9,bdR,e10,bdR,ez,oMS,bdR,e11,bdR]
  exact zcC_ hf11 (by lia) fR' fQ' (by lia) (by lia) _ kn5
 ·rw [if_neg (by simpa using c)]
  exact zcC_ hf8 (by lia) fR fQ (by lia) (by lia) _ kn5
theorem main:∀ ns:List Int,ns.length≤63→Xu_ (.list (ns.map PyData.int))=.ret (.bool true):=by
 intro ns hn
 unfold Xu_
 have e1:fLen [.list (ns.map PyData.int)]=some (.int (ns.length:Int)):=by rw [L4.lenL,List.length_map]
 have e2:Wl_ [.int 6,.int (ns.length:Int)]=some (iN (min 6 ns.length)):=min2 6 ns.length
 have e3:zC_ (.int 2) (iN (min 6 ns.length))=some (iN (2+min 6 ns.length)):=addN 2 _
 rw [e1,oMS,bdR,e2,oMS,bdR,e3,oMS,bdR,jX_ _ (by lia),oMS,bdR]
 refine (j4_ (e:=iN) (F:=fun _=>(PyData.list (ns.map PyData.int),())) (List.range (2+min 6 ns.length)) ?_).trans rfl
 intro p k t hpt kn
 dsimp only
 exact zcx_ ns hn k kn
end K14
set_option Elab.async false
set_option linter.all false
set_option maxRecDepth 100000
set_option maxHeartbeats 8000000
namespace K14
open PySem PySem.Spec PyProof.Rows L2 L3 L4
theorem all_mk {l:PySem.W.OpenLaw} {w:World} {K:Fg} {h:Heap} {mg:Str→Option Value} {fa f0 f1 f2 f3 f4 f5 f6 f7 f8 f9 f10 f11 f12 f13 f14 f15 f16 f17 f18 f19 f20 f21 f22 Cl_TooMany D_TooMany fi_TooMany Cl_NoCrowd Cl_NoLine Cl_NoMeeting Cl_NoPaper Cl_NoRule Cl_NoText Cl_PassError:Addr} (X:K.In h) (G:h.Ns mainGlobals mg) (hfa:mg "law" = some (.ref fa))
  {oc0 kV0 dc0 pm0 cd0 ct0:Value} {od0 an0:Option Addr} {sl0:Array (Option Value)}
  {oc1 kV1 dc1 pm1 cd1 ct1:Value} {od1 an1:Option Addr} {sl1:Array (Option Value)}
  {oc2 kV2 dc2 pm2 cd2 ct2:Value} {od2 an2:Option Addr} {sl2:Array (Option Value)}
  {oc3 kV3 dc3 pm3 cd3 ct3:Value} {od3 an3:Option Addr} {sl3:Array (Option Value)}
  {oc4 kV4 dc4 pm4 cd4 ct4:Value} {od4 an4:Option Addr} {sl4:Array (Option Value)}
  {oc5 kV5 dc5 pm5 cd5 ct5:Value} {od5 an5:Option Addr} {sl5:Array (Option Value)}
  {oc6 kV6 dc6 pm6 cd6 ct6:Value} {od6 an6:Option Addr} {sl6:Array (Option Value)}
  {oc7 kV7 dc7 pm7 cd7 ct7:Value} {od7 an7:Option Addr} {sl7:Array (Option Value)}
  {oc8 kV8 dc8 pm8 cd8 ct8:Value} {od8 an8:Option Addr} {sl8:Array (Option Value)}
  {oc9 kV9 dc9 pm9 cd9 ct9:Value} {od9 an9:Option Addr} {sl9:Array (Option Value)}
  {oc10 kV10 dc10 pm10 cd10 ct10:Value} {od10 an10:Option Addr} {sl10:Array (Option Value)}
  {oc11 kV11 dc11 pm11 cd11 ct11:Value} {od11 an11:Option Addr} {sl11:Array (Option Value)}
  {oc12 kV12 dc12 pm12 cd12 ct12:Value} {od12 an12:Option Addr} {sl12:Array (Option Value)}
  {oc13 kV13 dc13 pm13 cd13 ct13:Value} {od13 an13:Option Addr} {sl13:Array (Option Value)}
  {oc14 kV14 dc14 pm14 cd14 ct14:Value} {od14 an14:Option Addr} {sl14:Array (Option Value)}
  {oc15 kV15 dc15 pm15 cd15 ct15:Value} {od15 an15:Option Addr} {sl15:Array (Option Value)}
  {oc16 kV16 dc16 pm16 cd16 ct16:Value} {od16 an16:Option Addr} {sl16:Array (Option Value)}
  {oc17 kV17 dc17 pm17 cd17 ct17:Value} {od17 an17:Option Addr} {sl17:Array (Option Value)}
  {oc18 kV18 dc18 pm18 cd18 ct18:Value} {od18 an18:Option Addr} {sl18:Array (Option Value)}
  {oc19 kV19 dc19 pm19 cd19 ct19:Value} {od19 an19:Option Addr} {sl19:Array (Option Value)}
  {oc20 kV20 dc20 pm20 cd20 ct20:Value} {od20 an20:Option Addr} {sl20:Array (Option Value)}
  {oc21 kV21 dc21 pm21 cd21 ct21:Value} {od21 an21:Option Addr} {sl21:Array (Option Value)}
  {oc22 kV22 dc22 pm22 cd22 ct22:Value} {od22 an22:Option Addr} {sl22:Array (Option Value)}
  {oc_TooMany kV_TooMany dc_TooMany pm_TooMany cd_TooMany ct_TooMany:Value} {od_TooMany an_TooMany:Option Addr} {sl_TooMany:Array (Option Value)} {nm_TooMany qn_TooMany:Str} {N_TooMany:Addr} {bs_TooMany:List Value} {sn_TooMany:List Str} {sb_TooMany:List Value} {ab_TooMany:Bool} {co_TooMany:Option Bool} {dd_TooMany:Option Addr} {k0_TooMany k1_TooMany k2_TooMany k3_TooMany k5_TooMany:Option Value}
  {u_MOST_ROOMS:Value}
  (a0:PySem.W.nsIn K mainGlobals "turns_of" = some (some (.ref f0))) (l0:K.lookup f0=some ⟨oc0,od0,.func (PySem.W.fnOf "turns_of" "turns_of" (zx_ jI_) (zr_ jI_) (ze_ jI_) .none kV0 dc0 pm0 an0 cd0 ct0),sl0⟩) (c0:PySem.W.codeIn K cd0 "turns_of" = true) (k0:PySem.W.keepIn K (.ref f0)=true)
  (a1:PySem.W.nsIn K mainGlobals "turned_from" = some (some (.ref f1))) (l1:K.lookup f1=some ⟨oc1,od1,.func (PySem.W.fnOf "turned_from" "turned_from" (zx_ z6_) (zr_ z6_) (ze_ z6_) .none kV1 dc1 pm1 an1 cd1 ct1),sl1⟩) (c1:PySem.W.codeIn K cd1 "turned_from" = true) (k1:PySem.W.keepIn K (.ref f1)=true)
  (a2:PySem.W.nsIn K mainGlobals "paired_truth" = some (some (.ref f2))) (l2:K.lookup f2=some ⟨oc2,od2,.func (PySem.W.fnOf "paired_truth" "paired_truth" (zx_ zX_) (zr_ zX_) (ze_ zX_) .none kV2 dc2 pm2 an2 cd2 ct2),sl2⟩) (c2:PySem.W.codeIn K cd2 "paired_truth" = true) (k2:PySem.W.keepIn K (.ref f2)=true)
  (a3:PySem.W.nsIn K mainGlobals "paired_meets" = some (some (.ref f3))) (l3:K.lookup f3=some ⟨oc3,od3,.func (PySem.W.fnOf "paired_meets" "paired_meets" (zx_ zY_) (zr_ zY_) (ze_ zY_) .none kV3 dc3 pm3 an3 cd3 ct3),sl3⟩) (c3:PySem.W.codeIn K cd3 "paired_meets" = true) (k3:PySem.W.keepIn K (.ref f3)=true)
  (a4:PySem.W.nsIn K mainGlobals "beside" = some (some (.ref f4))) (l4:K.lookup f4=some ⟨oc4,od4,.func (PySem.W.fnOf "beside" "beside" (zx_ j0_) (zr_ j0_) (ze_ j0_) .none kV4 dc4 pm4 an4 cd4 ct4),sl4⟩) (c4:PySem.W.codeIn K cd4 "beside" = true) (k4:PySem.W.keepIn K (.ref f4)=true)
  (a5:PySem.W.nsIn K mainGlobals "parts_of" = some (some (.ref f5))) (l5:K.lookup f5=some ⟨oc5,od5,.func (PySem.W.fnOf "parts_of" "parts_of" (zx_ jJ_) (zr_ jJ_) (ze_ jJ_) .none kV5 dc5 pm5 an5 cd5 ct5),sl5⟩) (c5:PySem.W.codeIn K cd5 "parts_of" = true) (k5:PySem.W.keepIn K (.ref f5)=true)
  (a6:PySem.W.nsIn K mainGlobals "rooms_for" = some (some (.ref f6))) (l6:K.lookup f6=some ⟨oc6,od6,.func (PySem.W.fnOf "rooms_for" "rooms_for" (zx_ jq_) (zr_ jq_) (ze_ jq_) .none kV6 dc6 pm6 an6 cd6 ct6),sl6⟩) (c6:PySem.W.codeIn K cd6 "rooms_for" = true) (k6:PySem.W.keepIn K (.ref f6)=true)
  (a7:PySem.W.nsIn K mainGlobals "starts_of" = some (some (.ref f7))) (l7:K.lookup f7=some ⟨oc7,od7,.func (PySem.W.fnOf "starts_of" "starts_of" (zx_ je_) (zr_ je_) (ze_ je_) .none kV7 dc7 pm7 an7 cd7 ct7),sl7⟩) (c7:PySem.W.codeIn K cd7 "starts_of" = true) (k7:PySem.W.keepIn K (.ref f7)=true)
  (a8:PySem.W.nsIn K mainGlobals "made_least" = some (some (.ref f8))) (l8:K.lookup f8=some ⟨oc8,od8,.func (PySem.W.fnOf "made_least" "made_least" (zx_ z5_) (zr_ z5_) (ze_ z5_) .none kV8 dc8 pm8 an8 cd8 ct8),sl8⟩) (c8:PySem.W.codeIn K cd8 "made_least" = true) (k8:PySem.W.keepIn K (.ref f8)=true)
  (a9:PySem.W.nsIn K mainGlobals "made_more" = some (some (.ref f9))) (l9:K.lookup f9=some ⟨oc9,od9,.func (PySem.W.fnOf "made_more" "made_more" (zx_ jr_) (zr_ jr_) (ze_ jr_) .none kV9 dc9 pm9 an9 cd9 ct9),sl9⟩) (c9:PySem.W.codeIn K cd9 "made_more" = true) (k9:PySem.W.keepIn K (.ref f9)=true)
  (a10:PySem.W.nsIn K mainGlobals "made_rest" = some (some (.ref f10))) (l10:K.lookup f10=some ⟨oc10,od10,.func (PySem.W.fnOf "made_rest" "made_rest" (zx_ z7_) (zr_ z7_) (ze_ z7_) .none kV10 dc10 pm10 an10 cd10 ct10),sl10⟩) (c10:PySem.W.codeIn K cd10 "made_rest" = true) (k10:PySem.W.keepIn K (.ref f10)=true)
  (a11:PySem.W.nsIn K mainGlobals "turned" = some (some (.ref f11))) (l11:K.lookup f11=some ⟨oc11,od11,.func (PySem.W.fnOf "turned" "turned" (zx_ uh_) (zr_ uh_) (ze_ uh_) .none kV11 dc11 pm11 an11 cd11 ct11),sl11⟩) (c11:PySem.W.codeIn K cd11 "turned" = true) (k11:PySem.W.keepIn K (.ref f11)=true)
  (a12:PySem.W.nsIn K mainGlobals "made" = some (some (.ref f12))) (l12:K.lookup f12=some ⟨oc12,od12,.func (PySem.W.fnOf "made" "made" (zx_ Zw_) (zr_ Zw_) (ze_ Zw_) .none kV12 dc12 pm12 an12 cd12 ct12),sl12⟩) (c12:PySem.W.codeIn K cd12 "made" = true) (k12:PySem.W.keepIn K (.ref f12)=true)
  (a13:PySem.W.nsIn K mainGlobals "_law_feed" = some (some (.ref f13))) (l13:K.lookup f13=some ⟨oc13,od13,.func (PySem.W.fnOf "_law_feed" "_law_feed" (zx_ ju_) (zr_ ju_) (ze_ ju_) .none kV13 dc13 pm13 an13 cd13 ct13),sl13⟩) (c13:PySem.W.codeIn K cd13 "_law_feed" = true) (k13:PySem.W.keepIn K (.ref f13)=true)
  (a14:PySem.W.nsIn K mainGlobals "_law_next" = some (some (.ref f14))) (l14:K.lookup f14=some ⟨oc14,od14,.func (PySem.W.fnOf "_law_next" "_law_next" (zx_ jt_) (zr_ jt_) (ze_ jt_) .none kV14 dc14 pm14 an14 cd14 ct14),sl14⟩) (c14:PySem.W.codeIn K cd14 "_law_next" = true) (k14:PySem.W.keepIn K (.ref f14)=true)
  (a15:PySem.W.nsIn K mainGlobals "_law_one" = some (some (.ref f15))) (l15:K.lookup f15=some ⟨oc15,od15,.func (PySem.W.fnOf "_law_one" "_law_one" (zx_ jK_) (zr_ jK_) (ze_ jK_) .none kV15 dc15 pm15 an15 cd15 ct15),sl15⟩) (c15:PySem.W.codeIn K cd15 "_law_one" = true) (k15:PySem.W.keepIn K (.ref f15)=true)
  (a16:PySem.W.nsIn K mainGlobals "_law_some" = some (some (.ref f16))) (l16:K.lookup f16=some ⟨oc16,od16,.func (PySem.W.fnOf "_law_some" "_law_some" (zx_ jf_) (zr_ jf_) (ze_ jf_) .none kV16 dc16 pm16 an16 cd16 ct16),sl16⟩) (c16:PySem.W.codeIn K cd16 "_law_some" = true) (k16:PySem.W.keepIn K (.ref f16)=true)
  (a17:PySem.W.nsIn K mainGlobals "_law_plain" = some (some (.ref f17))) (l17:K.lookup f17=some ⟨oc17,od17,.func (PySem.W.fnOf "_law_plain" "_law_plain" (zx_ zQ_) (zr_ zQ_) (ze_ zQ_) .none kV17 dc17 pm17 an17 cd17 ct17),sl17⟩) (c17:PySem.W.codeIn K cd17 "_law_plain" = true) (k17:PySem.W.keepIn K (.ref f17)=true)
  (a18:PySem.W.nsIn K mainGlobals "_law_question" = some (some (.ref f18))) (l18:K.lookup f18=some ⟨oc18,od18,.func (PySem.W.fnOf "_law_question" "_law_question" (zx_ zR_) (zr_ zR_) (ze_ zR_) .none kV18 dc18 pm18 an18 cd18 ct18),sl18⟩) (c18:PySem.W.codeIn K cd18 "_law_question" = true) (k18:PySem.W.keepIn K (.ref f18)=true)
  (a19:PySem.W.nsIn K mainGlobals "_law_rooms" = some (some (.ref f19))) (l19:K.lookup f19=some ⟨oc19,od19,.func (PySem.W.fnOf "_law_rooms" "_law_rooms" (zx_ jg_) (zr_ jg_) (ze_ jg_) .none kV19 dc19 pm19 an19 cd19 ct19),sl19⟩) (c19:PySem.W.codeIn K cd19 "_law_rooms" = true) (k19:PySem.W.keepIn K (.ref f19)=true)
  (a20:PySem.W.nsIn K mainGlobals "_law_few" = some (some (.ref f20))) (l20:K.lookup f20=some ⟨oc20,od20,.func (PySem.W.fnOf "_law_few" "_law_few" (zx_ jL_) (zr_ jL_) (ze_ jL_) .none kV20 dc20 pm20 an20 cd20 ct20),sl20⟩) (c20:PySem.W.codeIn K cd20 "_law_few" = true) (k20:PySem.W.keepIn K (.ref f20)=true)
  (a21:PySem.W.nsIn K mainGlobals "_law_told" = some (some (.ref f21))) (l21:K.lookup f21=some ⟨oc21,od21,.func (PySem.W.fnOf "_law_told" "_law_told" (zx_ js_) (zr_ js_) (ze_ js_) .none kV21 dc21 pm21 an21 cd21 ct21),sl21⟩) (c21:PySem.W.codeIn K cd21 "_law_told" = true) (k21:PySem.W.keepIn K (.ref f21)=true)
  (a22:PySem.W.nsIn K mainGlobals "law" = some (some (.ref f22))) (l22:K.lookup f22=some ⟨oc22,od22,.func (PySem.W.fnOf "law" "law" (zx_ Z3_) (zr_ Z3_) (ze_ Z3_) .none kV22 dc22 pm22 an22 cd22 ct22),sl22⟩) (c22:PySem.W.codeIn K cd22 "law" = true) (k22:PySem.W.keepIn K (.ref f22)=true)
  (xa_TooMany:PySem.W.nsIn K mainGlobals "TooMany" = some (some (.ref Cl_TooMany))) (xb_TooMany:K.lookup Cl_TooMany=some (excClassObj nm_TooMany qn_TooMany Cl_TooMany N_TooMany bs_TooMany (.ref D_TooMany::bmV) true sn_TooMany sb_TooMany ab_TooMany co_TooMany dd_TooMany k0_TooMany k1_TooMany k2_TooMany k3_TooMany k5_TooMany "ValueError.__new__")) (xc_TooMany:PySem.W.findIn K (.ref Cl_TooMany) "__init__" = some (some (.ref fi_TooMany))) (xd_TooMany:K.lookup fi_TooMany=some ⟨oc_TooMany,od_TooMany,.func (PySem.W.fnOf "__init__" "TooMany.__init__" (zx_ jc_) (zr_ jc_) (ze_ jc_) .none kV_TooMany dc_TooMany pm_TooMany an_TooMany cd_TooMany ct_TooMany),sl_TooMany⟩) (xe_TooMany:PySem.W.codeIn K cd_TooMany "TooMany.__init__" = true) (xf_TooMany:PySem.W.keepIn K (.ref fi_TooMany)=true) (xg_TooMany:PySem.W.keepIn K (.ref Cl_TooMany)=true) (xh_TooMany:PySem.W.tailIn K bmV (.ref D_TooMany::bmV)=true) (xi_TooMany:PySem.W.typeIn K (.ref fi_TooMany)=some (.type "function")) (xj_TooMany:PySem.W.findIn K (.ref Cl_TooMany) "__setattr__" = some (some (.builtin "object.__setattr__"))) (xk_TooMany:PySem.W.findIn K (.ref Cl_TooMany) "__getattribute__" = some (some (.builtin "BaseException.__getattribute__"))) (xl_TooMany:PySem.W.findIn K (.ref Cl_TooMany) "__getattr__" = some none) (xm_TooMany:PySem.W.exmOne K (.ref Cl_TooMany) (.ref Cl_TooMany)=some true) (xp_TooMany:PySem.W.findIn K (.ref Cl_TooMany) "__class__" = some (some (.builtin "object.__class__"))) (xq_TooMany:PySem.W.specialIn K (.builtin "object.__class__") "__get__" = some (some (.builtin "getset_descriptor.__get__"))) (xr_TooMany:PySem.W.takesIn K (.builtin "object.__class__")=some true) (xo_TooMany:(["bool", "int", "str", "list", "tuple", "dict"].all fun T=>PySem.W.kitOne K (.ref Cl_TooMany) (.type T)==some false)=true)
  (xa_NoCrowd:PySem.W.nsIn K mainGlobals "NoCrowd" = some (some (.ref Cl_NoCrowd)))
  (xa_NoLine:PySem.W.nsIn K mainGlobals "NoLine" = some (some (.ref Cl_NoLine)))
  (xa_NoMeeting:PySem.W.nsIn K mainGlobals "NoMeeting" = some (some (.ref Cl_NoMeeting)))
  (xa_NoPaper:PySem.W.nsIn K mainGlobals "NoPaper" = some (some (.ref Cl_NoPaper)))
  (xa_NoRule:PySem.W.nsIn K mainGlobals "NoRule" = some (some (.ref Cl_NoRule)))
  (xa_NoText:PySem.W.nsIn K mainGlobals "NoText" = some (some (.ref Cl_NoText)))
  (xa_PassError:PySem.W.nsIn K mainGlobals "PassError" = some (some (.ref Cl_PassError)))
  (kt_TooMany_NoCrowd_NoLine_NoMeeting_NoPaper_NoRule_NoText:PySem.W.kitAny K (.ref Cl_TooMany) [.ref Cl_NoCrowd,.ref Cl_NoLine,.ref Cl_NoMeeting,.ref Cl_NoPaper,.ref Cl_NoRule,.ref Cl_NoText]=some false)
  (kt_TooMany_TooMany:PySem.W.kitOne K (.ref Cl_TooMany) (.ref Cl_TooMany)=some true)
  (kt_TooMany_ValueError:PySem.W.kitOne K (.ref Cl_TooMany) (.type "ValueError")=some true)
  (kh_TooMany_PassError:PySem.W.exmOne K (.ref Cl_TooMany) (.ref Cl_PassError)=some true)
  (z_range:PySem.W.nsIn K mainGlobals "range" = some none)
  (z_len:PySem.W.nsIn K mainGlobals "len" = some none)
  (z_tuple:PySem.W.nsIn K mainGlobals "tuple" = some none)
  (z_list:PySem.W.nsIn K mainGlobals "list" = some none)
  (z_max:PySem.W.nsIn K mainGlobals "max" = some none)
  (z_min:PySem.W.nsIn K mainGlobals "min" = some none)
  (z_sum:PySem.W.nsIn K mainGlobals "sum" = some none)
  (z_abs:PySem.W.nsIn K mainGlobals "abs" = some none)
  (z_repr:PySem.W.nsIn K mainGlobals "repr" = some none)
  (z_enumerate:PySem.W.nsIn K mainGlobals "enumerate" = some none)
  (z_isinstance:PySem.W.nsIn K mainGlobals "isinstance" = some none)
  (z_all:PySem.W.nsIn K mainGlobals "all" = some none)
  (z_any:PySem.W.nsIn K mainGlobals "any" = some none)
  (z_int:PySem.W.nsIn K mainGlobals "int" = some none)
  (z_str:PySem.W.nsIn K mainGlobals "str" = some none)
  (z_bool:PySem.W.nsIn K mainGlobals "bool" = some none)
  (z_zip:PySem.W.nsIn K mainGlobals "zip" = some none)
  (z_sorted:PySem.W.nsIn K mainGlobals "sorted" = some none)
  (z_set:PySem.W.nsIn K mainGlobals "set" = some none)
  (z_dict:PySem.W.nsIn K mainGlobals "dict" = some none)
  (z_reversed:PySem.W.nsIn K mainGlobals "reversed" = some none)
  (z_ValueError:PySem.W.nsIn K mainGlobals "ValueError" = some none)
  (g_MOST_ROOMS:PySem.W.nsIn K mainGlobals "MOST_ROOMS" = some (some u_MOST_ROOMS)) (r_MOST_ROOMS:RelV (.int 40) u_MOST_ROOMS) :
  ∃ fd:FuncData,(∀ (s:Shared) (v:Value),BindsTo s fd ⟨[v],[]⟩ [("_law_script",v)])∧∀ base:Heap,K.In base→base.Ns mainGlobals mg→FnOk l.prog w K mg base (CX1 l.prog w) 11 fa fd ["_law_script"] (spD K 1 UK_):=by
 have e:=hfa.symm.trans (PySem.W.mg_of X G a22)
 cases e
 have B:BN mg:=⟨PySem.W.mg_none_of X G z_range,PySem.W.mg_none_of X G z_len,PySem.W.mg_none_of X G z_tuple,PySem.W.mg_none_of X G z_list,PySem.W.mg_none_of X G z_max,PySem.W.mg_none_of X G z_min,PySem.W.mg_none_of X G z_sum,PySem.W.mg_none_of X G z_abs,PySem.W.mg_none_of X G z_repr,PySem.W.mg_none_of X G z_enumerate,PySem.W.mg_none_of X G z_isinstance,PySem.W.mg_none_of X G z_all,PySem.W.mg_none_of X G z_any,PySem.W.mg_none_of X G z_int,PySem.W.mg_none_of X G z_str,PySem.W.mg_none_of X G z_bool,PySem.W.mg_none_of X G z_zip,PySem.W.mg_none_of X G z_sorted,PySem.W.mg_none_of X G z_set,PySem.W.mg_none_of X G z_dict,PySem.W.mg_none_of X G z_reversed,PySem.W.mg_none_of X G z_ValueError⟩
 have Kn:KN mg:=⟨⟨_,PySem.W.mg_of X G g_MOST_ROOMS,r_MOST_ROOMS⟩⟩
 have Kx:KX K mg:=⟨⟨[Cl_NoCrowd,Cl_NoLine,Cl_NoMeeting,Cl_NoPaper,Cl_NoRule,Cl_NoText],⟨PySem.W.mg_of X G xa_NoCrowd,PySem.W.mg_of X G xa_NoLine,PySem.W.mg_of X G xa_NoMeeting,PySem.W.mg_of X G xa_NoPaper,PySem.W.mg_of X G xa_NoRule,PySem.W.mg_of X G xa_NoText,trivial⟩,⟨⟨_,xa_TooMany,kt_TooMany_NoCrowd_NoLine_NoMeeting_NoPaper_NoRule_NoText⟩,trivial⟩⟩,⟨_,PySem.W.mg_of X G xa_TooMany,⟨⟨_,xa_TooMany,kt_TooMany_TooMany⟩,trivial⟩⟩,⟨⟨_,xa_TooMany,kt_TooMany_ValueError⟩,trivial⟩,⟨_,PySem.W.mg_of X G xa_PassError,⟨⟨_,xa_TooMany,kh_TooMany_PassError⟩,trivial⟩⟩⟩
 have F0:=jd_ (st:=jI_) l0 c0 k0
 have F1:=jd_ (st:=z6_) l1 c1 k1
 have F2:=jd_ (st:=zX_) l2 c2 k2
 have F3:=jd_ (st:=zY_) l3 c3 k3
 have F4:=jd_ (st:=j0_) l4 c4 k4
 have F5:=jd_ (st:=jJ_) l5 c5 k5
 have F6:=jd_ (st:=jq_) l6 c6 k6
 have F7:=jd_ (st:=je_) l7 c7 k7
 have F8:=jd_ (st:=z5_) l8 c8 k8
 have F9:=jd_ (st:=jr_) l9 c9 k9
 have F10:=jd_ (st:=z7_) l10 c10 k10
 have F11:=jd_ (st:=uh_) l11 c11 k11
 have F12:=jd_ (st:=Zw_) l12 c12 k12
 have F13:=jd_ (st:=ju_) l13 c13 k13
 have F14:=jd_ (st:=jt_) l14 c14 k14
 have F15:=jd_ (st:=jK_) l15 c15 k15
 have F16:=jd_ (st:=jf_) l16 c16 k16
 have F17:=jd_ (st:=zQ_) l17 c17 k17
 have F18:=jd_ (st:=zR_) l18 c18 k18
 have F19:=jd_ (st:=jg_) l19 c19 k19
 have F20:=jd_ (st:=jL_) l20 c20 k20
 have F21:=jd_ (st:=js_) l21 c21 k21
 have F22:=jd_ (st:=Z3_) l22 c22 k22
 refine ⟨PySem.W.fnOf "law" "law" (zx_ Z3_) (zr_ Z3_) (ze_ Z3_) .none kV22 dc22 pm22 an22 cd22 ct22,fun s v=>.of_eq rfl,fun base _ _=>?_⟩
 have X_TooMany:CCl l.prog w K mg base "TooMany" 1 []:=Q2_ (P:=l.prog) (w:=w) (base:=base) (jd_ (st:=jc_) xd_TooMany xe_TooMany xf_TooMany) ⟨⟨nm_TooMany,qn_TooMany,N_TooMany,bs_TooMany,sn_TooMany,sb_TooMany,ab_TooMany,co_TooMany,dd_TooMany,k0_TooMany,k1_TooMany,k2_TooMany,k3_TooMany,k5_TooMany,xb_TooMany⟩,xh_TooMany,xc_TooMany,xi_TooMany,xj_TooMany,xk_TooMany,xl_TooMany⟩ (PySem.W.mg_of X G xa_TooMany) ⟨xa_TooMany,⟨_,_,⟨⟨nm_TooMany,qn_TooMany,N_TooMany,bs_TooMany,sn_TooMany,sb_TooMany,ab_TooMany,co_TooMany,dd_TooMany,k0_TooMany,k1_TooMany,k2_TooMany,k3_TooMany,k5_TooMany,xb_TooMany⟩,xh_TooMany,xc_TooMany,xi_TooMany,xj_TooMany,xk_TooMany,xl_TooMany⟩⟩,⟨xp_TooMany,xq_TooMany,xr_TooMany⟩,zdh_ xo_TooMany⟩ xg_TooMany (by intro f hf;cases hf) xm_TooMany
 have C_turns_of:=Yq_ (P:=l.prog) (w:=w) (base:=base) F0 (PySem.W.mg_of X G a0) B Kn Kx
 have C_turned_from:=Z6_ (P:=l.prog) (w:=w) (base:=base) F1 (PySem.W.mg_of X G a1) B Kn Kx
 have C_paired_truth:=ZE_ (P:=l.prog) (w:=w) (base:=base) F2 (PySem.W.mg_of X G a2) B Kn Kx
 have C_paired_meets:=ZF_ (P:=l.prog) (w:=w) (base:=base) F3 (PySem.W.mg_of X G a3) B Kn Kx C_turns_of C_turned_from
 have C_beside:=VW_ (P:=l.prog) (w:=w) (base:=base) F4 (PySem.W.mg_of X G a4) B Kn Kx C_paired_truth C_paired_meets X_TooMany
 have C_parts_of:=Yr_ (P:=l.prog) (w:=w) (base:=base) F5 (PySem.W.mg_of X G a5) B Kn Kx
 have C_rooms_for:=Uz_ (P:=l.prog) (w:=w) (base:=base) F6 (PySem.W.mg_of X G a6) B Kn Kx  5
 have C_starts_of:=Uy_ (P:=l.prog) (w:=w) (base:=base) F7 (PySem.W.mg_of X G a7) B Kn Kx
 have C_made_least:=JP_ (P:=l.prog) (w:=w) (base:=base) F8 (PySem.W.mg_of X G a8) B Kn Kx C_starts_of
 have C_made_more:=UB_ (P:=l.prog) (w:=w) (base:=base) F9 (PySem.W.mg_of X G a9) B Kn Kx
 have C_made_rest:=UA_ (P:=l.prog) (w:=w) (base:=base) F10 (PySem.W.mg_of X G a10) B Kn Kx C_starts_of
 have C_turned:=VT_ (P:=l.prog) (w:=w) (base:=base) F11 (PySem.W.mg_of X G a11) B Kn Kx
 have C_made:=zaB_ (P:=l.prog) (w:=w) (base:=base) F12 (PySem.W.mg_of X G a12) B Kn Kx C_beside C_made_least C_made_more C_made_rest C_parts_of C_turned 5
 have C__law_feed:=UH_ (P:=l.prog) (w:=w) (base:=base) F13 (PySem.W.mg_of X G a13) B Kn Kx
 have C__law_next:=UG_ (P:=l.prog) (w:=w) (base:=base) F14 (PySem.W.mg_of X G a14) B Kn Kx
 have C__law_one:=Ys_ (P:=l.prog) (w:=w) (base:=base) F15 (PySem.W.mg_of X G a15) B Kn Kx C__law_next
 have C__law_some:=UF_ (P:=l.prog) (w:=w) (base:=base) F16 (PySem.W.mg_of X G a16) B Kn Kx C__law_next
 have C__law_plain:=JR_ (P:=l.prog) (w:=w) (base:=base) F17 (PySem.W.mg_of X G a17) B Kn Kx C__law_next C__law_some C__law_one
 have C__law_question:=y8_ (P:=l.prog) (w:=w) (base:=base) F18 (PySem.W.mg_of X G a18) B Kn Kx C__law_next C__law_plain 5
 have C__law_rooms:=JQ_ (P:=l.prog) (w:=w) (base:=base) F19 (PySem.W.mg_of X G a19) B Kn Kx  5
 have C__law_few:=Yt_ (P:=l.prog) (w:=w) (base:=base) F20 (PySem.W.mg_of X G a20) B Kn Kx C__law_next
 have C__law_told:=UE_ (P:=l.prog) (w:=w) (base:=base) F21 (PySem.W.mg_of X G a21) B Kn Kx C_made C_beside
 exact XS_ F22 B Kn Kx C__law_feed C__law_question C__law_rooms C__law_next C__law_few C_rooms_for C__law_told
theorem walk {l:PySem.W.OpenLaw} {q:Program} {loose:List Str} {XP:(Str→Option Value)→Heap→Prop} {YP:World→Heap→Prop} {d:DefRec} {K:Params→Fg} (main:∀ ns:List Int,ns.length≤63→Xu_ (.list (ns.map PyData.int))=.ret (.bool true)) (hn:l.most=some 63) (hdf:d.params.defaults=[])
  (hY:∀ (w:World) (h:Heap),YP w h→(K w.params).In h)
  (F:∀ (w:World) (mg:Str→Option Value) (fa:Addr) (h:Heap),(K w.params).In h→h.Ns mainGlobals mg→mg d.name=some (.ref fa) →
   ∃ fd:FuncData,(∀ (s:Shared) (u:Value),BindsTo s fd ⟨[u],[]⟩ [("_law_script",u)])∧∀ base:Heap,(K w.params).In base→base.Ns mainGlobals mg→FnOk l.prog w (K w.params) mg base (CX1 l.prog w) 11 fa fd ["_law_script"] (spD (K w.params) 1 UK_)) :
  PySem.W.WalkO q loose XP YP l.row.toRowW d [] (fun f vs=>PySem.call f vs) :=
 L2.walk_of (n:=63) (k:=11) (x := "_law_script") (CX:=fun w=>CX1 l.prog w) (sp:=fun w=>spD (K w.params) 1 UK_) hn (by decide) hdf ⟨rfl,by decide,by decide,rfl⟩ hY F (fun w H a ns hl _ hS=>V5_ hS (main ns hl)) fun _ _ _ _ _ ⟨_,_,_,_,_,_,_,_,_,_,z⟩=>z
end K14
open PySem PySem.W PyProof.Rows
set_option maxRecDepth 100000 in
set_option maxHeartbeats 0 in
theorem PySem.Challenge.cw_passersby_k14_how_many_rooms_holds : PySem.Challenge.rw_passersby_k14_how_many_rooms.Holds := by
 w_on;o_law;k_head;(case hw=>w_witness2)
 k_fill
 refine K14.walk (l:=PySem.Challenge.rw_passersby_k14_how_many_rooms) K14.main rfl rfl (fun w h Y=>PySem.W.kIn_of Y) ?F
 case F =>
  intro w mg fa h KX G hmg
  refine' K14.all_mk KX G hmg ?a0 ?l0 ?c0 ?k0 ?a1 ?l1 ?c1 ?k1 ?a2 ?l2 ?c2 ?k2 ?a3 ?l3 ?c3 ?k3 ?a4 ?l4 ?c4 ?k4 ?a5 ?l5 ?c5 ?k5 ?a6 ?l6 ?c6 ?k6 ?a7 ?l7 ?c7 ?k7 ?a8 ?l8 ?c8 ?k8 ?a9 ?l9 ?c9 ?k9 ?a10 ?l10 ?c10 ?k10 ?a11 ?l11 ?c11 ?k11 ?a12 ?l12 ?c12 ?k12 ?a13 ?l13 ?c13 ?k13 ?a14 ?l14 ?c14 ?k14 ?a15 ?l15 ?c15 ?k15 ?a16 ?l16 ?c16 ?k16 ?a17 ?l17 ?c17 ?k17 ?a18 ?l18 ?c18 ?k18 ?a19 ?l19 ?c19 ?k19 ?a20 ?l20 ?c20 ?k20 ?a21 ?l21 ?c21 ?k21 ?a22 ?l22 ?c22 ?k22 ?xa_TooMany ?xb_TooMany ?xc_TooMany ?xd_TooMany ?xe_TooMany ?xf_TooMany ?xg_TooMany ?xh_TooMany ?xi_TooMany ?xj_TooMany ?xk_TooMany ?xl_TooMany ?xm_TooMany ?xp_TooMany ?xq_TooMany ?xr_TooMany ?xo_TooMany ?xa_NoCrowd ?xa_NoLine ?xa_NoMeeting ?xa_NoPaper ?xa_NoRule ?xa_NoText ?xa_PassError ?kt_TooMany_NoCrowd_NoLine_NoMeeting_NoPaper_NoRule_NoText ?kt_TooMany_TooMany ?kt_TooMany_ValueError ?kh_TooMany_PassError ?z_range ?z_len ?z_tuple ?z_list ?z_max ?z_min ?z_sum ?z_abs ?z_repr ?z_enumerate ?z_isinstance ?z_all ?z_any ?z_int ?z_str ?z_bool ?z_zip ?z_sorted ?z_set ?z_dict ?z_reversed ?z_ValueError ?g_MOST_ROOMS ?r_MOST_ROOMS
  (case a0=>k_is)
  (case l0=>k_is)
  (case c0=>k_is)
  (case k0=>k_is)
  (case a1=>k_is)
  (case l1=>k_is)
  (case c1=>k_is)
  (case k1=>k_is)
  (case a2=>k_is)
  (case l2=>k_is)
  (case c2=>k_is)
  (case k2=>k_is)
  (case a3=>k_is)
  (case l3=>k_is)
  (case c3=>k_is)
  (case k3=>k_is)
  (case a4=>k_is)
  (case l4=>k_is)
  (case c4=>k_is)
  (case k4=>k_is)
  (case a5=>k_is)
  (case l5=>k_is)
  (case c5=>k_is)
  (case k5=>k_is)
  (case a6=>k_is)
  (case l6=>k_is)
  (case c6=>k_is)
  (case k6=>k_is)
  (case a7=>k_is)
  (case l7=>k_is)
  (case c7=>k_is)
  (case k7=>k_is)
  (case a8=>k_is)
  (case l8=>k_is)
  (case c8=>k_is)
  (case k8=>k_is)
  (case a9=>k_is)
  (case l9=>k_is)
  (case c9=>k_is)
  (case k9=>k_is)
  (case a10=>k_is)
  (case l10=>k_is)
  (case c10=>k_is)
  (case k10=>k_is)
  (case a11=>k_is)
  (case l11=>k_is)
  (case c11=>k_is)
  (case k11=>k_is)
  (case a12=>k_is)
  (case l12=>k_is)
  (case c12=>k_is)
  (case k12=>k_is)
  (case a13=>k_is)
  (case l13=>k_is)
  (case c13=>k_is)
  (case k13=>k_is)
  (case a14=>k_is)
  (case l14=>k_is)
  (case c14=>k_is)
  (case k14=>k_is)
  (case a15=>k_is)
  (case l15=>k_is)
  (case c15=>k_is)
  (case k15=>k_is)
  (case a16=>k_is)
  (case l16=>k_is)
  (case c16=>k_is)
  (case k16=>k_is)
  (case a17=>k_is)
  (case l17=>k_is)
  (case c17=>k_is)
  (case k17=>k_is)
  (case a18=>k_is)
  (case l18=>k_is)
  (case c18=>k_is)
  (case k18=>k_is)
  (case a19=>k_is)
  (case l19=>k_is)
  (case c19=>k_is)
  (case k19=>k_is)
  (case a20=>k_is)
  (case l20=>k_is)
  (case c20=>k_is)
  (case k20=>k_is)
  (case a21=>k_is)
  (case l21=>k_is)
  (case c21=>k_is)
  (case k21=>k_is)
  (case a22=>k_is)
  (case l22=>k_is)
  (case c22=>k_is)
  (case k22=>k_is)
  (case xa_TooMany=>k_is)
  (case xb_TooMany=>k_is)
  (case xc_TooMany=>k_is)
  (case xd_TooMany=>k_is)
  (case xe_TooMany=>k_is)
  (case xf_TooMany=>k_is)
  (case xg_TooMany=>k_is)
  (case xh_TooMany=>kernel_rfl)
  (case xi_TooMany=>k_is)
  (case xj_TooMany=>k_is)
  (case xk_TooMany=>k_is)
  (case xl_TooMany=>k_is)
  (case xm_TooMany=>kernel_rfl)
  (case xp_TooMany=>k_is)
  (case xq_TooMany=>k_is)
  (case xr_TooMany=>k_is)
  (case xo_TooMany=>kernel_rfl)
  (case xa_NoCrowd=>k_is)
  (case xa_NoLine=>k_is)
  (case xa_NoMeeting=>k_is)
  (case xa_NoPaper=>k_is)
  (case xa_NoRule=>k_is)
  (case xa_NoText=>k_is)
  (case xa_PassError=>k_is)
  (case kt_TooMany_NoCrowd_NoLine_NoMeeting_NoPaper_NoRule_NoText=>kernel_rfl)
  (case kt_TooMany_TooMany=>kernel_rfl)
  (case kt_TooMany_ValueError=>kernel_rfl)
  (case kh_TooMany_PassError=>kernel_rfl)
  (case z_range=>k_is)
  (case z_len=>k_is)
  (case z_tuple=>k_is)
  (case z_list=>k_is)
  (case z_max=>k_is)
  (case z_min=>k_is)
  (case z_sum=>k_is)
  (case z_abs=>k_is)
  (case z_repr=>k_is)
  (case z_enumerate=>k_is)
  (case z_isinstance=>k_is)
  (case z_all=>k_is)
  (case z_any=>k_is)
  (case z_int=>k_is)
  (case z_str=>k_is)
  (case z_bool=>k_is)
  (case z_zip=>k_is)
  (case z_sorted=>k_is)
  (case z_set=>k_is)
  (case z_dict=>k_is)
  (case z_reversed=>k_is)
  (case z_ValueError=>k_is)
  (case g_MOST_ROOMS=>k_is)
  (case r_MOST_ROOMS=>first|exact ⟨_,rfl⟩|rfl)
